/-
  The document's put. Conditions: the ballots are a list that may be.
-/
import Derived.Test.YtfdboahcaiolgaaAgH
set_option linter.unusedVariables false
set_option linter.unusedSimpArgs false
namespace Go.Proofs.Ytfdboahcaiolgaa
open Go.RowKit
open Dk (Nt InN RightN BoundN MsgN NoMsg KindN EpN bound_n)


/-- A slice of a block of type T that lies below world w's blocks. -/
structure RSL {α : Type} (w W : World) (T : TypeId) (c : α → List Value) (s : Nat) (A : Option Addr) (n q : Nat) (L : List α) : Prop where
  rs : RS W T c s A n q L
  lo : ∀ g, InB A g → g < w.heap.size
section
variable {α : Type} {c : α → List Value} {s : Nat} [Nonempty (EncOk c s)] {w W V : World} {T : TypeId} {A : Option Addr} {n q : Nat} {L : List α}
theorem RSL.start (h : RS w T c s A n q L) : RSL w w T c s A n q L := ⟨h, fun _ hg => h.ltB hg⟩
theorem RSL.on (h : RSL w W T c s A n q L) (hb : Below W.heap.size W V) : RSL w V T c s A n q L := ⟨h.rs.on hb, h.lo⟩
theorem RSL.wr {g : Nat} (h : RSL w W T c s A n q L) (k : Wr W V g) (hg : w.heap.size ≤ g) : RSL w V T c s A n q L := ⟨h.rs.keepB fun b hb => k.far b (by have := h.lo b hb; omega), h.lo⟩
theorem RSL.drew (h : RSL w W T c s A n q L) : RSL w W.drew T c s A n q L := ⟨h.rs.drew, h.lo⟩
theorem RSL.grow {G : Option Nat} (h : RSL w W T c s A n q L) (hg : W.grownBy V G) (hG : ∀ g, G = some g → w.heap.size ≤ g) : RSL w V T c s A n q L := ⟨h.rs.keepB fun b hb => hg.block b (h.rs.ltB hb) (fun e => by have := h.lo b hb; have := hG b e.symm; omega), h.lo⟩
end
set_option maxRecDepth 100000 in
set_option maxHeartbeats 4000000 in
theorem put_r (A : Option Addr) (n q : Nat) (L : List Bl) (b : Bl) (w : World) (h : RS w 42 dcl 2 A n q L) (hr : RightB L) : Calls Try.prog 44 #[.slice A n q, .agg (btA b)] w (LPostB w 42 (putL L b) (ePu L b)) := by
  have hlen := Lib.hid h.len
  have HR := Lib.hid hr
  have hn : n ≤ 50 := by have := hr.1; have := h.len; omega
  have hx := RSL.start h
  clear hr h
  go_enter Try.func44, Try.ntmps44
  go_wp2_with (first | ((with_reducible refine st_box 42 _ (btA b) ?_ ?_); exact rfl))
  refine ⟨fun V1 g1 n1 f1 => ?_⟩
  have up1 : w.heap.size ≤ g1 := Nat.le_of_eq f1.at_
  have bl1 := f1.bel
  clear f1
  have r3_l := (hx).on bl1
  have l3 := le_tr (Below.refl _ _) bl1
  clear hx
  clear bl1
  go_wp2_with fail
  go_loopw [6, 7, 8] (fun sv dv iv wr => ∃ (k : Nat) (B : Option Addr) (m c : Nat) (G : Option Nat) (done : Bool) (out : List Bl), k ≤ n ∧ iv = .int .i64 k ∧ dv = .bool done ∧ sv = .slice B m c ∧ m ≤ k + 1 ∧ Hid (PuS L b k done out) ∧ CB wr g1 42 (btA b) ∧ RSL w wr 42 dcl 2 A n q L ∧ SO w.heap.size wr 42 dcl 2 B m c out G ∧ (∀ x, G = some x → x ≠ g1) ∧ Below w.heap.size w wr) (fun _ _ iv _ => n - (intOf iv).toNat)
  case atStart => exact ⟨0, none, 0, 0, none, false, [], by omega, rfl, rfl, rfl, by omega, Lib.hid (PuS.start L b), n1, r3_l, SO.nil _ _ _ _ _, (fun x e => by cases e), l3⟩
  case round =>
    clear n1 r3_l l3
    obtain ⟨k, B, m, c, G, done, out, hk, rfl, rfl, rfl, hm, HP, hb, hx, hs, hno, hw⟩ := hrel
    by_cases hlt : k < n
    · skip
      obtain ⟨g, off, x, hxk, hA, _⟩ := (RS.rr hx.rs).elem hlt
      subst hA
      have HX := Lib.hid hxk
      have l1 : (k : Int) < (n : Int) := by omega
      by_cases hT : x.tx = b.tx
      · skip
        have q1 : (x.tx == b.tx) = true := by simp [hT]
        have hval : valB L b.tx = some x.vt := by rw [← hT]; exact mem_valB (right_srt HR.out) (List.mem_of_getElem? hxk)
        have hpu := ePu_has hval
        clear hs hno HP hxk
        go_wp2_with fail
        have y101 := Lib.hid (show (fun V : World => CB V g1 42 (btA b) ∧ RSL w V 42 dcl 2 (some ⟨g, off, none⟩) n q L) wr.drew from ⟨CB.drew hb, (hx).drew⟩)
        refine wp_region_held_drew (S := (fun V : World => CB V g1 42 (btA b) ∧ RSL w V 42 dcl 2 (some ⟨g, off, none⟩) n q L)) (by kernel_rfl) y101.out (fun hHeld => ?_)
        obtain ⟨D101, hD101⟩ : ∃ V, wr.drew = V := ⟨_, rfl⟩
        have b101 : Below wr.heap.size wr D101 := by rw [← hD101]; exact le_dr (Below.refl _ _)
        rw [hD101] at hHeld ⊢
        clear hD101
        have r103_b := le_on hb b101
        have r103_l := (hx).on b101
        have l103 := le_tr hw b101
        clear hb hx hw
        clear b101
        refine wpAnyH_takeL (i := 0) (d := some 15) (v := .slice (some ⟨g, off, none⟩) n q) rfl rfl (by kernel_rfl) (by kernel_rfl) (by kernel_rfl) (fun _ _ _ h => h) (Or.inl ⟨by rfl, ?_⟩) hHeld ?_
        · intro w hSw; (try dsimp only at hSw); go_simp
        try simp only [Act.put, List.setIfInBounds_toArray, List.set_cons_zero, List.set_cons_succ]
        refine wpAnyH_takeL (i := 1) (d := some 16) (v := .int .i64 (k : Int)) rfl rfl (by kernel_rfl) (by kernel_rfl) (by kernel_rfl) (fun _ _ _ h => h) (Or.inl ⟨by rfl, ?_⟩) hHeld ?_
        · intro w hSw; (try dsimp only at hSw); go_simp
        try simp only [Act.put, List.setIfInBounds_toArray, List.set_cons_zero, List.set_cons_succ]
        refine wpAnyH_takeL (i := 2) (d := some 17) (v := .pointer (some ⟨g, off + k * 2, none⟩)) rfl rfl (by kernel_rfl) (by kernel_rfl) (by kernel_rfl) (fun _ _ _ h => h) (Or.inl ⟨by rfl, ?_⟩) hHeld ?_
        · intro w hSw; (try dsimp only at hSw); go_simp
        try simp only [Act.put, List.setIfInBounds_toArray, List.set_cons_zero, List.set_cons_succ]
        refine wpAnyH_takeL (i := 3) (d := some 18) (v := .pointer (some ⟨g, off + k * 2, none⟩)) rfl rfl (by kernel_rfl) (by kernel_rfl) (by kernel_rfl) (fun _ _ _ h => h) (Or.inl ⟨by rfl, ?_⟩) hHeld ?_
        · intro w hSw; (try dsimp only at hSw); go_simp
        try simp only [Act.put, List.setIfInBounds_toArray, List.set_cons_zero, List.set_cons_succ]
        refine wpAnyH_takeL (i := 4) (d := some 19) (v := .int .i64 x.tx) rfl rfl (by kernel_rfl) (by kernel_rfl) (by kernel_rfl) (fun _ _ _ h => h) (Or.inl ⟨by rfl, ?_⟩) hHeld ?_
        · intro w hSw; have hcc : w.cell? ⟨g, off + k * 2, none⟩ = some (.int .i64 x.tx) := RR.elemAt (RS.rr hSw.2.rs) HX.out rfl 0 _ rfl; go_simp
        try simp only [Act.put, List.setIfInBounds_toArray, List.set_cons_zero, List.set_cons_succ]
        refine wpAnyH_takeL (i := 5) (d := some 20) (v := .pointer (some ⟨g1, 0, none⟩)) rfl rfl (by kernel_rfl) (by kernel_rfl) (by kernel_rfl) (fun _ _ _ h => h) (Or.inl ⟨by rfl, ?_⟩) hHeld ?_
        · intro w hSw; (try dsimp only at hSw); go_simp
        try simp only [Act.put, List.setIfInBounds_toArray, List.set_cons_zero, List.set_cons_succ]
        refine wpAnyH_takeL (i := 6) (d := some 21) (v := .int .i64 (b.tx)) rfl rfl (by kernel_rfl) (by kernel_rfl) (by kernel_rfl) (fun _ _ _ h => h) (Or.inl ⟨by rfl, ?_⟩) hHeld ?_
        · intro w hSw; (try dsimp only at hSw); have hcc : w.cell? ⟨g1, 0, none⟩ = some (.int .i64 (b.tx)) := CB.cell hSw.1 0; go_simp
        try simp only [Act.put, List.setIfInBounds_toArray, List.set_cons_zero, List.set_cons_succ]
        refine wpAnyH_takeL (i := 7) (d := some 22) (v := .bool true) rfl rfl (by kernel_rfl) (by kernel_rfl) (by kernel_rfl) (fun _ _ _ h => h) (Or.inl ⟨by rfl, ?_⟩) hHeld ?_
        · intro w hSw; (try dsimp only at hSw); go_simp
        try simp only [Act.put, List.setIfInBounds_toArray, List.set_cons_zero, List.set_cons_succ]
        refine wpAnyH_done (by kernel_rfl) ?_ _
        by_cases hv : x.vt = b.vt
        · skip
          rw [if_pos hv] at hpu
          have HP := Lib.hid hpu
          have HL := Lib.hid (putL_ok hpu (insB_has (right_srt HR.out) hval))
          have q2 : (x.vt != b.vt) = false := by simp [hv]
          clear hpu hval hv hT
          go_wp2_with fail
          have y104 := Lib.hid (show (fun V : World => CB V g1 42 (btA b) ∧ RSL w V 42 dcl 2 (some ⟨g, off, none⟩) n q L) D101.drew from ⟨CB.drew r103_b, (r103_l).drew⟩)
          refine wp_region_held_drew (S := (fun V : World => CB V g1 42 (btA b) ∧ RSL w V 42 dcl 2 (some ⟨g, off, none⟩) n q L)) (by kernel_rfl) y104.out (fun hHeld => ?_)
          obtain ⟨D104, hD104⟩ : ∃ V, D101.drew = V := ⟨_, rfl⟩
          have b104 : Below D101.heap.size D101 D104 := by rw [← hD104]; exact le_dr (Below.refl _ _)
          rw [hD104] at hHeld ⊢
          clear hD104
          have r106_b := le_on r103_b b104
          have r106_l := (r103_l).on b104
          have l106 := le_tr l103 b104
          clear r103_b r103_l l103
          clear b104
          refine wpAnyH_takeL (i := 0) (d := some 23) (v := .slice (some ⟨g, off, none⟩) n q) rfl rfl (by kernel_rfl) (by kernel_rfl) (by kernel_rfl) (fun _ _ _ h => h) (Or.inl ⟨by rfl, ?_⟩) hHeld ?_
          · intro w hSw; (try dsimp only at hSw); go_simp
          try simp only [Act.put, List.setIfInBounds_toArray, List.set_cons_zero, List.set_cons_succ]
          refine wpAnyH_takeL (i := 1) (d := some 24) (v := .int .i64 (k : Int)) rfl rfl (by kernel_rfl) (by kernel_rfl) (by kernel_rfl) (fun _ _ _ h => h) (Or.inl ⟨by rfl, ?_⟩) hHeld ?_
          · intro w hSw; (try dsimp only at hSw); go_simp
          try simp only [Act.put, List.setIfInBounds_toArray, List.set_cons_zero, List.set_cons_succ]
          refine wpAnyH_takeL (i := 2) (d := some 25) (v := .pointer (some ⟨g, off + k * 2, none⟩)) rfl rfl (by kernel_rfl) (by kernel_rfl) (by kernel_rfl) (fun _ _ _ h => h) (Or.inl ⟨by rfl, ?_⟩) hHeld ?_
          · intro w hSw; (try dsimp only at hSw); go_simp
          try simp only [Act.put, List.setIfInBounds_toArray, List.set_cons_zero, List.set_cons_succ]
          refine wpAnyH_takeL (i := 3) (d := some 26) (v := .pointer (some ⟨g, off + k * 2 + 1, none⟩)) rfl rfl (by kernel_rfl) (by kernel_rfl) (by kernel_rfl) (fun _ _ _ h => h) (Or.inl ⟨by rfl, ?_⟩) hHeld ?_
          · intro w hSw; (try dsimp only at hSw); go_simp
          try simp only [Act.put, List.setIfInBounds_toArray, List.set_cons_zero, List.set_cons_succ]
          refine wpAnyH_takeL (i := 4) (d := some 27) (v := .int .i64 x.vt) rfl rfl (by kernel_rfl) (by kernel_rfl) (by kernel_rfl) (fun _ _ _ h => h) (Or.inl ⟨by rfl, ?_⟩) hHeld ?_
          · intro w hSw; have hcc : w.cell? ⟨g, off + k * 2 + 1, none⟩ = some (.int .i64 x.vt) := RR.elemAt (RS.rr hSw.2.rs) HX.out rfl 1 _ rfl; go_simp
          try simp only [Act.put, List.setIfInBounds_toArray, List.set_cons_zero, List.set_cons_succ]
          refine wpAnyH_takeL (i := 5) (d := some 28) (v := .pointer (some ⟨g1, 1, none⟩)) rfl rfl (by kernel_rfl) (by kernel_rfl) (by kernel_rfl) (fun _ _ _ h => h) (Or.inl ⟨by rfl, ?_⟩) hHeld ?_
          · intro w hSw; (try dsimp only at hSw); go_simp
          try simp only [Act.put, List.setIfInBounds_toArray, List.set_cons_zero, List.set_cons_succ]
          refine wpAnyH_takeL (i := 6) (d := some 29) (v := .int .i64 (b.vt)) rfl rfl (by kernel_rfl) (by kernel_rfl) (by kernel_rfl) (fun _ _ _ h => h) (Or.inl ⟨by rfl, ?_⟩) hHeld ?_
          · intro w hSw; (try dsimp only at hSw); have hcc : w.cell? ⟨g1, 1, none⟩ = some (.int .i64 (b.vt)) := CB.cell hSw.1 1; go_simp
          try simp only [Act.put, List.setIfInBounds_toArray, List.set_cons_zero, List.set_cons_succ]
          refine wpAnyH_takeL (i := 7) (d := some 30) (v := .bool false) rfl rfl (by kernel_rfl) (by kernel_rfl) (by kernel_rfl) (fun _ _ _ h => h) (Or.inl ⟨by rfl, ?_⟩) hHeld ?_
          · intro w hSw; (try dsimp only at hSw); go_simp
          try simp only [Act.put, List.setIfInBounds_toArray, List.set_cons_zero, List.set_cons_succ]
          refine wpAnyH_done (by kernel_rfl) ?_ _
          go_wp2_with fail
          exact bodyPost_ret (v := .tuple #[.slice (some ⟨g, off, none⟩) n q, .int .i64 0]) (by simp [results, Try.results44, go_sem]) rfl (LPostB.mk_ HP.out HL.out r106_l.rs l106)
        · skip
          rw [if_neg hv] at hpu
          have HP := Lib.hid hpu
          have HL := Lib.hid (putL_no hpu (by decide))
          have q2 : (x.vt != b.vt) = true := by simp [hv]
          clear hpu hval hv hT
          go_wp2_with fail
          have y104 := Lib.hid (show (fun V : World => CB V g1 42 (btA b) ∧ RSL w V 42 dcl 2 (some ⟨g, off, none⟩) n q L) D101.drew from ⟨CB.drew r103_b, (r103_l).drew⟩)
          refine wp_region_held_drew (S := (fun V : World => CB V g1 42 (btA b) ∧ RSL w V 42 dcl 2 (some ⟨g, off, none⟩) n q L)) (by kernel_rfl) y104.out (fun hHeld => ?_)
          obtain ⟨D104, hD104⟩ : ∃ V, D101.drew = V := ⟨_, rfl⟩
          have b104 : Below D101.heap.size D101 D104 := by rw [← hD104]; exact le_dr (Below.refl _ _)
          rw [hD104] at hHeld ⊢
          clear hD104
          have r106_b := le_on r103_b b104
          have r106_l := (r103_l).on b104
          have l106 := le_tr l103 b104
          clear r103_b r103_l l103
          clear b104
          refine wpAnyH_takeL (i := 0) (d := some 23) (v := .slice (some ⟨g, off, none⟩) n q) rfl rfl (by kernel_rfl) (by kernel_rfl) (by kernel_rfl) (fun _ _ _ h => h) (Or.inl ⟨by rfl, ?_⟩) hHeld ?_
          · intro w hSw; (try dsimp only at hSw); go_simp
          try simp only [Act.put, List.setIfInBounds_toArray, List.set_cons_zero, List.set_cons_succ]
          refine wpAnyH_takeL (i := 1) (d := some 24) (v := .int .i64 (k : Int)) rfl rfl (by kernel_rfl) (by kernel_rfl) (by kernel_rfl) (fun _ _ _ h => h) (Or.inl ⟨by rfl, ?_⟩) hHeld ?_
          · intro w hSw; (try dsimp only at hSw); go_simp
          try simp only [Act.put, List.setIfInBounds_toArray, List.set_cons_zero, List.set_cons_succ]
          refine wpAnyH_takeL (i := 2) (d := some 25) (v := .pointer (some ⟨g, off + k * 2, none⟩)) rfl rfl (by kernel_rfl) (by kernel_rfl) (by kernel_rfl) (fun _ _ _ h => h) (Or.inl ⟨by rfl, ?_⟩) hHeld ?_
          · intro w hSw; (try dsimp only at hSw); go_simp
          try simp only [Act.put, List.setIfInBounds_toArray, List.set_cons_zero, List.set_cons_succ]
          refine wpAnyH_takeL (i := 3) (d := some 26) (v := .pointer (some ⟨g, off + k * 2 + 1, none⟩)) rfl rfl (by kernel_rfl) (by kernel_rfl) (by kernel_rfl) (fun _ _ _ h => h) (Or.inl ⟨by rfl, ?_⟩) hHeld ?_
          · intro w hSw; (try dsimp only at hSw); go_simp
          try simp only [Act.put, List.setIfInBounds_toArray, List.set_cons_zero, List.set_cons_succ]
          refine wpAnyH_takeL (i := 4) (d := some 27) (v := .int .i64 x.vt) rfl rfl (by kernel_rfl) (by kernel_rfl) (by kernel_rfl) (fun _ _ _ h => h) (Or.inl ⟨by rfl, ?_⟩) hHeld ?_
          · intro w hSw; have hcc : w.cell? ⟨g, off + k * 2 + 1, none⟩ = some (.int .i64 x.vt) := RR.elemAt (RS.rr hSw.2.rs) HX.out rfl 1 _ rfl; go_simp
          try simp only [Act.put, List.setIfInBounds_toArray, List.set_cons_zero, List.set_cons_succ]
          refine wpAnyH_takeL (i := 5) (d := some 28) (v := .pointer (some ⟨g1, 1, none⟩)) rfl rfl (by kernel_rfl) (by kernel_rfl) (by kernel_rfl) (fun _ _ _ h => h) (Or.inl ⟨by rfl, ?_⟩) hHeld ?_
          · intro w hSw; (try dsimp only at hSw); go_simp
          try simp only [Act.put, List.setIfInBounds_toArray, List.set_cons_zero, List.set_cons_succ]
          refine wpAnyH_takeL (i := 6) (d := some 29) (v := .int .i64 (b.vt)) rfl rfl (by kernel_rfl) (by kernel_rfl) (by kernel_rfl) (fun _ _ _ h => h) (Or.inl ⟨by rfl, ?_⟩) hHeld ?_
          · intro w hSw; (try dsimp only at hSw); have hcc : w.cell? ⟨g1, 1, none⟩ = some (.int .i64 (b.vt)) := CB.cell hSw.1 1; go_simp
          try simp only [Act.put, List.setIfInBounds_toArray, List.set_cons_zero, List.set_cons_succ]
          refine wpAnyH_takeL (i := 7) (d := some 30) (v := .bool true) rfl rfl (by kernel_rfl) (by kernel_rfl) (by kernel_rfl) (fun _ _ _ h => h) (Or.inl ⟨by rfl, ?_⟩) hHeld ?_
          · intro w hSw; (try dsimp only at hSw); go_simp
          try simp only [Act.put, List.setIfInBounds_toArray, List.set_cons_zero, List.set_cons_succ]
          refine wpAnyH_done (by kernel_rfl) ?_ _
          go_wp2_with fail
          exact bodyPost_ret (v := .tuple #[.slice none 0 0, .int .i64 8]) (by simp [results, Try.results44, go_sem]) rfl (LPostB.mk_ HP.out HL.out (RS.nil _ _ _ _) l106)
      · skip
        have q1 : (x.tx == b.tx) = false := by simp [hT]
        have HT := Lib.hid hT
        clear hT
        go_wp2_with fail
        have y101 := Lib.hid (show (fun V : World => CB V g1 42 (btA b) ∧ RSL w V 42 dcl 2 (some ⟨g, off, none⟩) n q L) wr.drew from ⟨CB.drew hb, (hx).drew⟩)
        refine wp_region_held_drew (S := (fun V : World => CB V g1 42 (btA b) ∧ RSL w V 42 dcl 2 (some ⟨g, off, none⟩) n q L)) (by kernel_rfl) y101.out (fun hHeld => ?_)
        obtain ⟨D101, hD101⟩ : ∃ V, wr.drew = V := ⟨_, rfl⟩
        have b101 : Below wr.heap.size wr D101 := by rw [← hD101]; exact le_dr (Below.refl _ _)
        rw [hD101] at hHeld ⊢
        clear hD101
        have r102_s := SO.on hs b101
        have r103_b := le_on hb b101
        have r103_l := (hx).on b101
        have l103 := le_tr hw b101
        clear hb hx hw
        clear hs
        clear b101
        refine wpAnyH_takeL (i := 0) (d := some 15) (v := .slice (some ⟨g, off, none⟩) n q) rfl rfl (by kernel_rfl) (by kernel_rfl) (by kernel_rfl) (fun _ _ _ h => h) (Or.inl ⟨by rfl, ?_⟩) hHeld ?_
        · intro w hSw; (try dsimp only at hSw); go_simp
        try simp only [Act.put, List.setIfInBounds_toArray, List.set_cons_zero, List.set_cons_succ]
        refine wpAnyH_takeL (i := 1) (d := some 16) (v := .int .i64 (k : Int)) rfl rfl (by kernel_rfl) (by kernel_rfl) (by kernel_rfl) (fun _ _ _ h => h) (Or.inl ⟨by rfl, ?_⟩) hHeld ?_
        · intro w hSw; (try dsimp only at hSw); go_simp
        try simp only [Act.put, List.setIfInBounds_toArray, List.set_cons_zero, List.set_cons_succ]
        refine wpAnyH_takeL (i := 2) (d := some 17) (v := .pointer (some ⟨g, off + k * 2, none⟩)) rfl rfl (by kernel_rfl) (by kernel_rfl) (by kernel_rfl) (fun _ _ _ h => h) (Or.inl ⟨by rfl, ?_⟩) hHeld ?_
        · intro w hSw; (try dsimp only at hSw); go_simp
        try simp only [Act.put, List.setIfInBounds_toArray, List.set_cons_zero, List.set_cons_succ]
        refine wpAnyH_takeL (i := 3) (d := some 18) (v := .pointer (some ⟨g, off + k * 2, none⟩)) rfl rfl (by kernel_rfl) (by kernel_rfl) (by kernel_rfl) (fun _ _ _ h => h) (Or.inl ⟨by rfl, ?_⟩) hHeld ?_
        · intro w hSw; (try dsimp only at hSw); go_simp
        try simp only [Act.put, List.setIfInBounds_toArray, List.set_cons_zero, List.set_cons_succ]
        refine wpAnyH_takeL (i := 4) (d := some 19) (v := .int .i64 x.tx) rfl rfl (by kernel_rfl) (by kernel_rfl) (by kernel_rfl) (fun _ _ _ h => h) (Or.inl ⟨by rfl, ?_⟩) hHeld ?_
        · intro w hSw; have hcc : w.cell? ⟨g, off + k * 2, none⟩ = some (.int .i64 x.tx) := RR.elemAt (RS.rr hSw.2.rs) HX.out rfl 0 _ rfl; go_simp
        try simp only [Act.put, List.setIfInBounds_toArray, List.set_cons_zero, List.set_cons_succ]
        refine wpAnyH_takeL (i := 5) (d := some 20) (v := .pointer (some ⟨g1, 0, none⟩)) rfl rfl (by kernel_rfl) (by kernel_rfl) (by kernel_rfl) (fun _ _ _ h => h) (Or.inl ⟨by rfl, ?_⟩) hHeld ?_
        · intro w hSw; (try dsimp only at hSw); go_simp
        try simp only [Act.put, List.setIfInBounds_toArray, List.set_cons_zero, List.set_cons_succ]
        refine wpAnyH_takeL (i := 6) (d := some 21) (v := .int .i64 (b.tx)) rfl rfl (by kernel_rfl) (by kernel_rfl) (by kernel_rfl) (fun _ _ _ h => h) (Or.inl ⟨by rfl, ?_⟩) hHeld ?_
        · intro w hSw; (try dsimp only at hSw); have hcc : w.cell? ⟨g1, 0, none⟩ = some (.int .i64 (b.tx)) := CB.cell hSw.1 0; go_simp
        try simp only [Act.put, List.setIfInBounds_toArray, List.set_cons_zero, List.set_cons_succ]
        refine wpAnyH_takeL (i := 7) (d := some 22) (v := .bool false) rfl rfl (by kernel_rfl) (by kernel_rfl) (by kernel_rfl) (fun _ _ _ h => h) (Or.inl ⟨by rfl, ?_⟩) hHeld ?_
        · intro w hSw; (try dsimp only at hSw); go_simp
        try simp only [Act.put, List.setIfInBounds_toArray, List.set_cons_zero, List.set_cons_succ]
        refine wpAnyH_done (by kernel_rfl) ?_ _
        cases done with
        | true =>
          go_wp2_with fail
          have y104 := Lib.hid (show (fun V : World => CB V g1 42 (btA b) ∧ RSL w V 42 dcl 2 (some ⟨g, off, none⟩) n q L) D101.drew from ⟨CB.drew r103_b, (r103_l).drew⟩)
          refine wp_region_held_drew (S := (fun V : World => CB V g1 42 (btA b) ∧ RSL w V 42 dcl 2 (some ⟨g, off, none⟩) n q L)) (by kernel_rfl) y104.out (fun hHeld => ?_)
          obtain ⟨D104, hD104⟩ : ∃ V, D101.drew = V := ⟨_, rfl⟩
          have b104 : Below D101.heap.size D101 D104 := by rw [← hD104]; exact le_dr (Below.refl _ _)
          rw [hD104] at hHeld ⊢
          clear hD104
          have r105_s := SO.on r102_s b104
          have r106_b := le_on r103_b b104
          have r106_l := (r103_l).on b104
          have l106 := le_tr l103 b104
          clear r103_b r103_l l103
          clear r102_s
          clear b104
          refine wpAnyH_takeL (i := 0) (d := some 32) (v := .bool true) rfl rfl (by kernel_rfl) (by kernel_rfl) (by kernel_rfl) (fun _ _ _ h => h) (Or.inl ⟨by rfl, ?_⟩) hHeld ?_
          · intro w hSw; (try dsimp only at hSw); go_simp
          try simp only [Act.put, List.setIfInBounds_toArray, List.set_cons_zero, List.set_cons_succ]
          refine wpAnyH_takeL (i := 1) (d := some 33) (v := .bool false) rfl rfl (by kernel_rfl) (by kernel_rfl) (by kernel_rfl) (fun _ _ _ h => h) (Or.inl ⟨by rfl, ?_⟩) hHeld ?_
          · intro w hSw; (try dsimp only at hSw); go_simp
          try simp only [Act.put, List.setIfInBounds_toArray, List.set_cons_zero, List.set_cons_succ]
          refine wpAnyH_takeL (i := 2) (d := some 34) (v := .bool false) rfl rfl (by kernel_rfl) (by kernel_rfl) (by kernel_rfl) (fun _ _ _ h => h) (Or.inl ⟨by rfl, ?_⟩) hHeld ?_
          · intro w hSw; (try dsimp only at hSw); go_simp
          try simp only [Act.put, List.setIfInBounds_toArray, List.set_cons_zero, List.set_cons_succ]
          refine wpAnyH_takeL (i := 3) (d := some 35) (v := undef) rfl rfl (by kernel_rfl) (by kernel_rfl) (by kernel_rfl) (fun _ _ _ h => h) (Or.inr ⟨by kernel_rfl, rfl⟩) hHeld ?_
          try simp only [Act.put, List.setIfInBounds_toArray, List.set_cons_zero, List.set_cons_succ]
          refine wpAnyH_takeL (i := 4) (d := some 36) (v := undef) rfl rfl (by kernel_rfl) (by kernel_rfl) (by kernel_rfl) (fun _ _ _ h => h) (Or.inr ⟨by kernel_rfl, rfl⟩) hHeld ?_
          try simp only [Act.put, List.setIfInBounds_toArray, List.set_cons_zero, List.set_cons_succ]
          refine wpAnyH_takeL (i := 5) (d := some 37) (v := undef) rfl rfl (by kernel_rfl) (by kernel_rfl) (by kernel_rfl) (fun _ _ _ h => h) (Or.inr ⟨by kernel_rfl, rfl⟩) hHeld ?_
          try simp only [Act.put, List.setIfInBounds_toArray, List.set_cons_zero, List.set_cons_succ]
          refine wpAnyH_takeL (i := 6) (d := some 38) (v := undef) rfl rfl (by kernel_rfl) (by kernel_rfl) (by kernel_rfl) (fun _ _ _ h => h) (Or.inr ⟨by kernel_rfl, rfl⟩) hHeld ?_
          try simp only [Act.put, List.setIfInBounds_toArray, List.set_cons_zero, List.set_cons_succ]
          refine wpAnyH_takeL (i := 7) (d := some 39) (v := undef) rfl rfl (by kernel_rfl) (by kernel_rfl) (by kernel_rfl) (fun _ _ _ h => h) (Or.inr ⟨by kernel_rfl, rfl⟩) hHeld ?_
          try simp only [Act.put, List.setIfInBounds_toArray, List.set_cons_zero, List.set_cons_succ]
          refine wpAnyH_takeL (i := 8) (d := some 40) (v := undef) rfl rfl (by kernel_rfl) (by kernel_rfl) (by kernel_rfl) (fun _ _ _ h => h) (Or.inr ⟨by kernel_rfl, rfl⟩) hHeld ?_
          try simp only [Act.put, List.setIfInBounds_toArray, List.set_cons_zero, List.set_cons_succ]
          refine wpAnyH_takeL (i := 9) (d := some 41) (v := undef) rfl rfl (by kernel_rfl) (by kernel_rfl) (by kernel_rfl) (fun _ _ _ h => h) (Or.inr ⟨by kernel_rfl, rfl⟩) hHeld ?_
          try simp only [Act.put, List.setIfInBounds_toArray, List.set_cons_zero, List.set_cons_succ]
          refine wpAnyH_takeL (i := 10) (d := some 42) (v := undef) rfl rfl (by kernel_rfl) (by kernel_rfl) (by kernel_rfl) (fun _ _ _ h => h) (Or.inr ⟨by kernel_rfl, rfl⟩) hHeld ?_
          try simp only [Act.put, List.setIfInBounds_toArray, List.set_cons_zero, List.set_cons_succ]
          refine wpAnyH_takeL (i := 11) (d := some 43) (v := .bool false) rfl rfl (by kernel_rfl) (by kernel_rfl) (by kernel_rfl) (fun _ _ _ h => h) (Or.inl ⟨by rfl, ?_⟩) hHeld ?_
          · intro w hSw; (try dsimp only at hSw); go_simp
          try simp only [Act.put, List.setIfInBounds_toArray, List.set_cons_zero, List.set_cons_succ]
          refine wpAnyH_done (by kernel_rfl) ?_ _
          have hr2 : D104.rangeAt g (off + k * 2) (btA x).toList := RR.elemAt (RS.rr r106_l.rs) HX.out rfl
          go_wp2_with (first | ((with_reducible refine st_elem 42 _ g (off + k * 2) (btA x) ?_ hr2 Try.underlying42 ?_ ?_ ?_); exact rfl; exact rfl; exact Try.zBr) | ((with_reducible refine st_lit1 22 42 _ (btA x) ?_ Try.underlying22 Try.lit_br rfl (by decide) (by decide) ?_); exact rfl))
          refine ⟨fun V108 g108 n108 f108 => ?_⟩
          have ne108_b := f108.ne r106_b
          have no108_s := SO.fresh r105_s (Nat.le_of_eq f108.at_)
          have up108 : w.heap.size ≤ g108 := f108.up l106
          have bl108 := f108.bel
          clear f108
          have r109_s := SO.on r105_s bl108
          have r110_b := le_on r106_b bl108
          have r110_l := (r106_l).on bl108
          have l110 := le_tr l106 bl108
          clear r106_b r106_l l106
          clear r105_s
          clear bl108
          go_wp2_with (first | ((with_reducible refine st_app (.tmp 48) (.tmp 53) 22 42 Try.underlying22 Try.infoBr rfl (by decide) (A := B) (n := m) (c := c) (G := G) rfl r109_s.seg (As := (some ⟨g108, 0, none⟩)) (m := 1) (k := 1) rfl (Src.box n108 rfl) (all_list (btA_one _)) (by simp only [maxLen]; omega) (by omega) (m + 1) (by omega) ?_)))
          refine ⟨fun B111 m111 q111 w111 s111 h111 k111 => ?_⟩
          have s111 : Seg w111 42 2 B111 (m + 1) m111 (rc dcl (out ++ [x])) q111 := by rw [← rc_snoc]; exact s111
          have hg111 : ∀ g, G = some g → w.heap.size ≤ g := fun g e => r109_s.hi g e
          have so111 : SO w.heap.size w111 42 dcl 2 B111 (m + 1) m111 (out ++ [x]) q111 := ⟨s111, k111.ge (l110).size hg111⟩
          have e111_b := CB.same r110_b (h111.block _ (CB.lt r110_b) (fun e => hno _ e.symm rfl))
          have na111_b := moved_ne k111 (CB.lt r110_b) hno
          have e111_q107 := CB.same n108 (h111.block _ (CB.lt n108) (fun e => no108_s _ e.symm rfl))
          have na111_q107 := moved_ne k111 (CB.lt n108) no108_s
          have e111_l := (r110_l).grow h111 hg111
          have lw111 := (l110).grown h111 (l110).size hg111
          clear h111 k111 s111 hg111 r109_s r110_b hno n108 no108_s r110_l l110
          clear hr2
          go_wp2_with fail
          go_roundw
          case rel => exact ⟨k + 1, B111, (m + 1), m111, q111, _, _, by omega, by go_num, rfl, rfl, by omega, Lib.hid (PuS.next HP.out HX.out HT.out), e111_b, e111_l, so111, na111_b, lw111⟩
          case measure => simp [intOf]; omega
        | false =>
          by_cases hl : b.tx < x.tx
          · have q2 : decide (b.tx < x.tx) = true := by simp [hl]
            have hmk : m ≤ k := by have e := (HP.out.not rfl).2; have e2 := r102_s.len; rw [e, List.length_take] at e2; omega
            have HLT := Lib.hid hl
            clear hl
            go_wp2_with fail
            have y104 := Lib.hid (show (fun V : World => CB V g1 42 (btA b) ∧ RSL w V 42 dcl 2 (some ⟨g, off, none⟩) n q L) D101.drew from ⟨CB.drew r103_b, (r103_l).drew⟩)
            refine wp_region_held_drew (S := (fun V : World => CB V g1 42 (btA b) ∧ RSL w V 42 dcl 2 (some ⟨g, off, none⟩) n q L)) (by kernel_rfl) y104.out (fun hHeld => ?_)
            obtain ⟨D104, hD104⟩ : ∃ V, D101.drew = V := ⟨_, rfl⟩
            have b104 : Below D101.heap.size D101 D104 := by rw [← hD104]; exact le_dr (Below.refl _ _)
            rw [hD104] at hHeld ⊢
            clear hD104
            have r105_s := SO.on r102_s b104
            have r106_b := le_on r103_b b104
            have r106_l := (r103_l).on b104
            have l106 := le_tr l103 b104
            clear r103_b r103_l l103
            clear r102_s
            clear b104
            refine wpAnyH_takeL (i := 0) (d := some 32) (v := .bool false) rfl rfl (by kernel_rfl) (by kernel_rfl) (by kernel_rfl) (fun _ _ _ h => h) (Or.inl ⟨by rfl, ?_⟩) hHeld ?_
            · intro w hSw; (try dsimp only at hSw); go_simp
            try simp only [Act.put, List.setIfInBounds_toArray, List.set_cons_zero, List.set_cons_succ]
            refine wpAnyH_takeL (i := 1) (d := some 33) (v := .bool true) rfl rfl (by kernel_rfl) (by kernel_rfl) (by kernel_rfl) (fun _ _ _ h => h) (Or.inl ⟨by rfl, ?_⟩) hHeld ?_
            · intro w hSw; (try dsimp only at hSw); go_simp
            try simp only [Act.put, List.setIfInBounds_toArray, List.set_cons_zero, List.set_cons_succ]
            refine wpAnyH_takeL (i := 2) (d := some 34) (v := .bool true) rfl rfl (by kernel_rfl) (by kernel_rfl) (by kernel_rfl) (fun _ _ _ h => h) (Or.inl ⟨by rfl, ?_⟩) hHeld ?_
            · intro w hSw; (try dsimp only at hSw); go_simp
            try simp only [Act.put, List.setIfInBounds_toArray, List.set_cons_zero, List.set_cons_succ]
            refine wpAnyH_takeL (i := 3) (d := some 35) (v := .pointer (some ⟨g1, 0, none⟩)) rfl rfl (by kernel_rfl) (by kernel_rfl) (by kernel_rfl) (fun _ _ _ h => h) (Or.inl ⟨by rfl, ?_⟩) hHeld ?_
            · intro w hSw; (try dsimp only at hSw); go_simp
            try simp only [Act.put, List.setIfInBounds_toArray, List.set_cons_zero, List.set_cons_succ]
            refine wpAnyH_takeL (i := 4) (d := some 36) (v := .int .i64 (b.tx)) rfl rfl (by kernel_rfl) (by kernel_rfl) (by kernel_rfl) (fun _ _ _ h => h) (Or.inl ⟨by rfl, ?_⟩) hHeld ?_
            · intro w hSw; (try dsimp only at hSw); have hcc : w.cell? ⟨g1, 0, none⟩ = some (.int .i64 (b.tx)) := CB.cell hSw.1 0; go_simp
            try simp only [Act.put, List.setIfInBounds_toArray, List.set_cons_zero, List.set_cons_succ]
            refine wpAnyH_takeL (i := 5) (d := some 37) (v := .slice (some ⟨g, off, none⟩) n q) rfl rfl (by kernel_rfl) (by kernel_rfl) (by kernel_rfl) (fun _ _ _ h => h) (Or.inl ⟨by rfl, ?_⟩) hHeld ?_
            · intro w hSw; (try dsimp only at hSw); go_simp
            try simp only [Act.put, List.setIfInBounds_toArray, List.set_cons_zero, List.set_cons_succ]
            refine wpAnyH_takeL (i := 6) (d := some 38) (v := .int .i64 (k : Int)) rfl rfl (by kernel_rfl) (by kernel_rfl) (by kernel_rfl) (fun _ _ _ h => h) (Or.inl ⟨by rfl, ?_⟩) hHeld ?_
            · intro w hSw; (try dsimp only at hSw); go_simp
            try simp only [Act.put, List.setIfInBounds_toArray, List.set_cons_zero, List.set_cons_succ]
            refine wpAnyH_takeL (i := 7) (d := some 39) (v := .pointer (some ⟨g, off + k * 2, none⟩)) rfl rfl (by kernel_rfl) (by kernel_rfl) (by kernel_rfl) (fun _ _ _ h => h) (Or.inl ⟨by rfl, ?_⟩) hHeld ?_
            · intro w hSw; (try dsimp only at hSw); go_simp
            try simp only [Act.put, List.setIfInBounds_toArray, List.set_cons_zero, List.set_cons_succ]
            refine wpAnyH_takeL (i := 8) (d := some 40) (v := .pointer (some ⟨g, off + k * 2, none⟩)) rfl rfl (by kernel_rfl) (by kernel_rfl) (by kernel_rfl) (fun _ _ _ h => h) (Or.inl ⟨by rfl, ?_⟩) hHeld ?_
            · intro w hSw; (try dsimp only at hSw); go_simp
            try simp only [Act.put, List.setIfInBounds_toArray, List.set_cons_zero, List.set_cons_succ]
            refine wpAnyH_takeL (i := 9) (d := some 41) (v := .int .i64 x.tx) rfl rfl (by kernel_rfl) (by kernel_rfl) (by kernel_rfl) (fun _ _ _ h => h) (Or.inl ⟨by rfl, ?_⟩) hHeld ?_
            · intro w hSw; have hcc : w.cell? ⟨g, off + k * 2, none⟩ = some (.int .i64 x.tx) := RR.elemAt (RS.rr hSw.2.rs) HX.out rfl 0 _ rfl; go_simp
            try simp only [Act.put, List.setIfInBounds_toArray, List.set_cons_zero, List.set_cons_succ]
            refine wpAnyH_takeL (i := 10) (d := some 42) (v := .bool true) rfl rfl (by kernel_rfl) (by kernel_rfl) (by kernel_rfl) (fun _ _ _ h => h) (Or.inl ⟨by rfl, ?_⟩) hHeld ?_
            · intro w hSw; (try dsimp only at hSw); go_simp
            try simp only [Act.put, List.setIfInBounds_toArray, List.set_cons_zero, List.set_cons_succ]
            refine wpAnyH_takeL (i := 11) (d := some 43) (v := .bool true) rfl rfl (by kernel_rfl) (by kernel_rfl) (by kernel_rfl) (fun _ _ _ h => h) (Or.inl ⟨by rfl, ?_⟩) hHeld ?_
            · intro w hSw; (try dsimp only at hSw); go_simp
            try simp only [Act.put, List.setIfInBounds_toArray, List.set_cons_zero, List.set_cons_succ]
            refine wpAnyH_done (by kernel_rfl) ?_ _
            go_wp2_with (first | ((with_reducible refine st_load 42 _ g1 ?_ r106_b Try.underlying42 ?_ ?_ ?_); exact rfl; exact rfl; exact Try.zBr) | ((with_reducible refine st_lit1 22 42 _ (btA b) ?_ Try.underlying22 Try.lit_br rfl (by decide) (by decide) ?_); exact rfl))
            refine ⟨fun V108 g108 n108 f108 => ?_⟩
            have ne108_b := f108.ne r106_b
            have no108_s := SO.fresh r105_s (Nat.le_of_eq f108.at_)
            have up108 : w.heap.size ≤ g108 := f108.up l106
            have bl108 := f108.bel
            clear f108
            have r109_s := SO.on r105_s bl108
            have r110_b := le_on r106_b bl108
            have r110_l := (r106_l).on bl108
            have l110 := le_tr l106 bl108
            clear r106_b r106_l l106
            clear r105_s
            clear bl108
            go_wp2_with (first | ((with_reducible refine st_app (.tmp 44) (.tmp 46) 22 42 Try.underlying22 Try.infoBr rfl (by decide) (A := B) (n := m) (c := c) (G := G) rfl r109_s.seg (As := (some ⟨g108, 0, none⟩)) (m := 1) (k := 1) rfl (Src.box n108 rfl) (all_list (btA_one _)) (by simp only [maxLen]; omega) (by omega) (m + 1) (by omega) ?_)))
            refine ⟨fun B111 m111 q111 w111 s111 h111 k111 => ?_⟩
            have s111 : Seg w111 42 2 B111 (m + 1) m111 (rc dcl (out ++ [b])) q111 := by rw [← rc_snoc]; exact s111
            have hg111 : ∀ g, G = some g → w.heap.size ≤ g := fun g e => r109_s.hi g e
            have so111 : SO w.heap.size w111 42 dcl 2 B111 (m + 1) m111 (out ++ [b]) q111 := ⟨s111, k111.ge (l110).size hg111⟩
            have e111_b := CB.same r110_b (h111.block _ (CB.lt r110_b) (fun e => hno _ e.symm rfl))
            have na111_b := moved_ne k111 (CB.lt r110_b) hno
            have e111_q107 := CB.same n108 (h111.block _ (CB.lt n108) (fun e => no108_s _ e.symm rfl))
            have na111_q107 := moved_ne k111 (CB.lt n108) no108_s
            have e111_l := (r110_l).grow h111 hg111
            have lw111 := (l110).grown h111 (l110).size hg111
            clear h111 k111 s111 hg111 r109_s r110_b hno n108 no108_s r110_l l110
            have hr2 : w111.rangeAt g (off + k * 2) (btA x).toList := RR.elemAt (RS.rr e111_l.rs) HX.out rfl
            go_wp2_with (first | ((with_reducible refine st_elem 42 _ g (off + k * 2) (btA x) ?_ hr2 Try.underlying42 ?_ ?_ ?_); exact rfl; exact rfl; exact Try.zBr) | ((with_reducible refine st_lit1 22 42 _ (btA x) ?_ Try.underlying22 Try.lit_br rfl (by decide) (by decide) ?_); exact rfl))
            refine ⟨fun V113 g113 n113 f113 => ?_⟩
            have ne113_b := f113.ne e111_b
            have ne113_q107 := f113.ne e111_q107
            have no113_s := SO.fresh so111 (Nat.le_of_eq f113.at_)
            have up113 : w.heap.size ≤ g113 := f113.up lw111
            have bl113 := f113.bel
            clear f113
            have r114_s := SO.on so111 bl113
            have r115_b := le_on e111_b bl113
            have r115_q107 := le_on e111_q107 bl113
            have r115_l := (e111_l).on bl113
            have l115 := le_tr lw111 bl113
            clear e111_b e111_q107 e111_l lw111
            clear so111
            clear bl113
            go_wp2_with (first | ((with_reducible refine st_app (.tmp 48) (.tmp 53) 22 42 Try.underlying22 Try.infoBr rfl (by decide) (A := B111) (n := (m + 1)) (c := m111) (G := q111) rfl r114_s.seg (As := (some ⟨g113, 0, none⟩)) (m := 1) (k := 1) rfl (Src.box n113 rfl) (all_list (btA_one _)) (by simp only [maxLen]; omega) (by omega) (m + 1 + 1) (by omega) ?_)))
            refine ⟨fun B116 m116 q116 w116 s116 h116 k116 => ?_⟩
            have s116 : Seg w116 42 2 B116 (m + 1 + 1) m116 (rc dcl ((out ++ [b]) ++ [x])) q116 := by rw [← rc_snoc]; exact s116
            have hg116 : ∀ g, q111 = some g → w.heap.size ≤ g := fun g e => r114_s.hi g e
            have so116 : SO w.heap.size w116 42 dcl 2 B116 (m + 1 + 1) m116 ((out ++ [b]) ++ [x]) q116 := ⟨s116, k116.ge (l115).size hg116⟩
            have e116_b := CB.same r115_b (h116.block _ (CB.lt r115_b) (fun e => na111_b _ e.symm rfl))
            have na116_b := moved_ne k116 (CB.lt r115_b) na111_b
            have e116_q107 := CB.same r115_q107 (h116.block _ (CB.lt r115_q107) (fun e => na111_q107 _ e.symm rfl))
            have na116_q107 := moved_ne k116 (CB.lt r115_q107) na111_q107
            have e116_q112 := CB.same n113 (h116.block _ (CB.lt n113) (fun e => no113_s _ e.symm rfl))
            have na116_q112 := moved_ne k116 (CB.lt n113) no113_s
            have e116_l := (r115_l).grow h116 hg116
            have lw116 := (l115).grown h116 (l115).size hg116
            clear h116 k116 s116 hg116 r114_s r115_b na111_b r115_q107 na111_q107 n113 no113_s r115_l l115
            clear hr2
            go_wp2_with fail
            go_roundw
            case rel => exact ⟨k + 1, B116, (m + 1 + 1), m116, q116, _, _, by omega, by go_num, rfl, rfl, by omega, Lib.hid (PuS.first HP.out HX.out HLT.out), e116_b, e116_l, so116, na116_b, lw116⟩
            case measure => simp [intOf]; omega
          · skip
            have q2 : decide (b.tx < x.tx) = false := by simp; omega
            have hmk : m ≤ k := by have e := (HP.out.not rfl).2; have e2 := r102_s.len; rw [e, List.length_take] at e2; omega
            have HLT := Lib.hid (show x.tx ≤ b.tx by omega)
            clear hl
            go_wp2_with fail
            have y104 := Lib.hid (show (fun V : World => CB V g1 42 (btA b) ∧ RSL w V 42 dcl 2 (some ⟨g, off, none⟩) n q L) D101.drew from ⟨CB.drew r103_b, (r103_l).drew⟩)
            refine wp_region_held_drew (S := (fun V : World => CB V g1 42 (btA b) ∧ RSL w V 42 dcl 2 (some ⟨g, off, none⟩) n q L)) (by kernel_rfl) y104.out (fun hHeld => ?_)
            obtain ⟨D104, hD104⟩ : ∃ V, D101.drew = V := ⟨_, rfl⟩
            have b104 : Below D101.heap.size D101 D104 := by rw [← hD104]; exact le_dr (Below.refl _ _)
            rw [hD104] at hHeld ⊢
            clear hD104
            have r105_s := SO.on r102_s b104
            have r106_b := le_on r103_b b104
            have r106_l := (r103_l).on b104
            have l106 := le_tr l103 b104
            clear r103_b r103_l l103
            clear r102_s
            clear b104
            refine wpAnyH_takeL (i := 0) (d := some 32) (v := .bool false) rfl rfl (by kernel_rfl) (by kernel_rfl) (by kernel_rfl) (fun _ _ _ h => h) (Or.inl ⟨by rfl, ?_⟩) hHeld ?_
            · intro w hSw; (try dsimp only at hSw); go_simp
            try simp only [Act.put, List.setIfInBounds_toArray, List.set_cons_zero, List.set_cons_succ]
            refine wpAnyH_takeL (i := 1) (d := some 33) (v := .bool true) rfl rfl (by kernel_rfl) (by kernel_rfl) (by kernel_rfl) (fun _ _ _ h => h) (Or.inl ⟨by rfl, ?_⟩) hHeld ?_
            · intro w hSw; (try dsimp only at hSw); go_simp
            try simp only [Act.put, List.setIfInBounds_toArray, List.set_cons_zero, List.set_cons_succ]
            refine wpAnyH_takeL (i := 2) (d := some 34) (v := .bool true) rfl rfl (by kernel_rfl) (by kernel_rfl) (by kernel_rfl) (fun _ _ _ h => h) (Or.inl ⟨by rfl, ?_⟩) hHeld ?_
            · intro w hSw; (try dsimp only at hSw); go_simp
            try simp only [Act.put, List.setIfInBounds_toArray, List.set_cons_zero, List.set_cons_succ]
            refine wpAnyH_takeL (i := 3) (d := some 35) (v := .pointer (some ⟨g1, 0, none⟩)) rfl rfl (by kernel_rfl) (by kernel_rfl) (by kernel_rfl) (fun _ _ _ h => h) (Or.inl ⟨by rfl, ?_⟩) hHeld ?_
            · intro w hSw; (try dsimp only at hSw); go_simp
            try simp only [Act.put, List.setIfInBounds_toArray, List.set_cons_zero, List.set_cons_succ]
            refine wpAnyH_takeL (i := 4) (d := some 36) (v := .int .i64 (b.tx)) rfl rfl (by kernel_rfl) (by kernel_rfl) (by kernel_rfl) (fun _ _ _ h => h) (Or.inl ⟨by rfl, ?_⟩) hHeld ?_
            · intro w hSw; (try dsimp only at hSw); have hcc : w.cell? ⟨g1, 0, none⟩ = some (.int .i64 (b.tx)) := CB.cell hSw.1 0; go_simp
            try simp only [Act.put, List.setIfInBounds_toArray, List.set_cons_zero, List.set_cons_succ]
            refine wpAnyH_takeL (i := 5) (d := some 37) (v := .slice (some ⟨g, off, none⟩) n q) rfl rfl (by kernel_rfl) (by kernel_rfl) (by kernel_rfl) (fun _ _ _ h => h) (Or.inl ⟨by rfl, ?_⟩) hHeld ?_
            · intro w hSw; (try dsimp only at hSw); go_simp
            try simp only [Act.put, List.setIfInBounds_toArray, List.set_cons_zero, List.set_cons_succ]
            refine wpAnyH_takeL (i := 6) (d := some 38) (v := .int .i64 (k : Int)) rfl rfl (by kernel_rfl) (by kernel_rfl) (by kernel_rfl) (fun _ _ _ h => h) (Or.inl ⟨by rfl, ?_⟩) hHeld ?_
            · intro w hSw; (try dsimp only at hSw); go_simp
            try simp only [Act.put, List.setIfInBounds_toArray, List.set_cons_zero, List.set_cons_succ]
            refine wpAnyH_takeL (i := 7) (d := some 39) (v := .pointer (some ⟨g, off + k * 2, none⟩)) rfl rfl (by kernel_rfl) (by kernel_rfl) (by kernel_rfl) (fun _ _ _ h => h) (Or.inl ⟨by rfl, ?_⟩) hHeld ?_
            · intro w hSw; (try dsimp only at hSw); go_simp
            try simp only [Act.put, List.setIfInBounds_toArray, List.set_cons_zero, List.set_cons_succ]
            refine wpAnyH_takeL (i := 8) (d := some 40) (v := .pointer (some ⟨g, off + k * 2, none⟩)) rfl rfl (by kernel_rfl) (by kernel_rfl) (by kernel_rfl) (fun _ _ _ h => h) (Or.inl ⟨by rfl, ?_⟩) hHeld ?_
            · intro w hSw; (try dsimp only at hSw); go_simp
            try simp only [Act.put, List.setIfInBounds_toArray, List.set_cons_zero, List.set_cons_succ]
            refine wpAnyH_takeL (i := 9) (d := some 41) (v := .int .i64 x.tx) rfl rfl (by kernel_rfl) (by kernel_rfl) (by kernel_rfl) (fun _ _ _ h => h) (Or.inl ⟨by rfl, ?_⟩) hHeld ?_
            · intro w hSw; have hcc : w.cell? ⟨g, off + k * 2, none⟩ = some (.int .i64 x.tx) := RR.elemAt (RS.rr hSw.2.rs) HX.out rfl 0 _ rfl; go_simp
            try simp only [Act.put, List.setIfInBounds_toArray, List.set_cons_zero, List.set_cons_succ]
            refine wpAnyH_takeL (i := 10) (d := some 42) (v := .bool false) rfl rfl (by kernel_rfl) (by kernel_rfl) (by kernel_rfl) (fun _ _ _ h => h) (Or.inl ⟨by rfl, ?_⟩) hHeld ?_
            · intro w hSw; (try dsimp only at hSw); go_simp
            try simp only [Act.put, List.setIfInBounds_toArray, List.set_cons_zero, List.set_cons_succ]
            refine wpAnyH_takeL (i := 11) (d := some 43) (v := .bool false) rfl rfl (by kernel_rfl) (by kernel_rfl) (by kernel_rfl) (fun _ _ _ h => h) (Or.inl ⟨by rfl, ?_⟩) hHeld ?_
            · intro w hSw; (try dsimp only at hSw); go_simp
            try simp only [Act.put, List.setIfInBounds_toArray, List.set_cons_zero, List.set_cons_succ]
            refine wpAnyH_done (by kernel_rfl) ?_ _
            have hr2 : D104.rangeAt g (off + k * 2) (btA x).toList := RR.elemAt (RS.rr r106_l.rs) HX.out rfl
            go_wp2_with (first | ((with_reducible refine st_elem 42 _ g (off + k * 2) (btA x) ?_ hr2 Try.underlying42 ?_ ?_ ?_); exact rfl; exact rfl; exact Try.zBr) | ((with_reducible refine st_lit1 22 42 _ (btA x) ?_ Try.underlying22 Try.lit_br rfl (by decide) (by decide) ?_); exact rfl))
            refine ⟨fun V108 g108 n108 f108 => ?_⟩
            have ne108_b := f108.ne r106_b
            have no108_s := SO.fresh r105_s (Nat.le_of_eq f108.at_)
            have up108 : w.heap.size ≤ g108 := f108.up l106
            have bl108 := f108.bel
            clear f108
            have r109_s := SO.on r105_s bl108
            have r110_b := le_on r106_b bl108
            have r110_l := (r106_l).on bl108
            have l110 := le_tr l106 bl108
            clear r106_b r106_l l106
            clear r105_s
            clear bl108
            go_wp2_with (first | ((with_reducible refine st_app (.tmp 48) (.tmp 53) 22 42 Try.underlying22 Try.infoBr rfl (by decide) (A := B) (n := m) (c := c) (G := G) rfl r109_s.seg (As := (some ⟨g108, 0, none⟩)) (m := 1) (k := 1) rfl (Src.box n108 rfl) (all_list (btA_one _)) (by simp only [maxLen]; omega) (by omega) (m + 1) (by omega) ?_)))
            refine ⟨fun B111 m111 q111 w111 s111 h111 k111 => ?_⟩
            have s111 : Seg w111 42 2 B111 (m + 1) m111 (rc dcl (out ++ [x])) q111 := by rw [← rc_snoc]; exact s111
            have hg111 : ∀ g, G = some g → w.heap.size ≤ g := fun g e => r109_s.hi g e
            have so111 : SO w.heap.size w111 42 dcl 2 B111 (m + 1) m111 (out ++ [x]) q111 := ⟨s111, k111.ge (l110).size hg111⟩
            have e111_b := CB.same r110_b (h111.block _ (CB.lt r110_b) (fun e => hno _ e.symm rfl))
            have na111_b := moved_ne k111 (CB.lt r110_b) hno
            have e111_q107 := CB.same n108 (h111.block _ (CB.lt n108) (fun e => no108_s _ e.symm rfl))
            have na111_q107 := moved_ne k111 (CB.lt n108) no108_s
            have e111_l := (r110_l).grow h111 hg111
            have lw111 := (l110).grown h111 (l110).size hg111
            clear h111 k111 s111 hg111 r109_s r110_b hno n108 no108_s r110_l l110
            clear hr2
            go_wp2_with fail
            go_roundw
            case rel => exact ⟨k + 1, B111, (m + 1), m111, q111, _, _, by omega, by go_num, rfl, rfl, by omega, Lib.hid (PuS.skip HP.out HX.out (by have := HLT.out; omega) HT.out), e111_b, e111_l, so111, na111_b, lw111⟩
            case measure => simp [intOf]; omega
    · skip
      obtain rfl : k = n := by omega
      have gz0 : ¬ ((k : Int) < (k : Int)) := by omega
      obtain ⟨hval, hins, hil⟩ := PuS.end_ (L := L) (by rw [hlen.out]; exact HP.out)
      have hpu := ePu_none hval
      rw [hlen.out] at hpu hil
      have hol := hs.len
      clear hval hlt HP
      cases done with
      | true =>
        rw [if_pos rfl] at hins
        have hmn : m = k + 1 := by rw [← hol, hins]; exact hil
        by_cases h50 : 50 ≤ k
        · skip
          rw [if_pos h50] at hpu
          have HP := Lib.hid hpu
          have HL := Lib.hid (putL_no hpu (by decide))
          have q2 : decide ((50 : Int) < (m : Int)) = true := by simp; omega
          clear hpu h50 hins hil hol hmn
          go_wp2_with fail
          exact bodyPost_ret (v := .tuple #[.slice none 0 0, .int .i64 6]) (by simp [results, Try.results44, go_sem]) rfl (LPostB.mk_ HP.out HL.out (RS.nil _ _ _ _) hw)
        · skip
          rw [if_neg h50] at hpu
          have HP := Lib.hid hpu
          have HL := Lib.hid (putL_ok hpu hins.symm)
          have q2 : decide ((50 : Int) < (m : Int)) = false := by simp; omega
          clear hpu h50 hins hil hol hmn
          go_wp2_with fail
          exact bodyPost_ret (v := .tuple #[.slice B (m) c, .int .i64 0]) (by simp [results, Try.results44, go_sem]) rfl (LPostB.mk_ HP.out HL.out (SO.rs hs) hw)
      | false =>
        rw [if_neg (by simp)] at hins
        have hmn : m = k := by rw [← hins, List.length_append, hol] at hil; simpa using hil
        subst hmn
        have HH := Lib.hid (And.intro hpu (And.intro hins (And.intro hil hol)))
        clear hpu hins hil hol
        go_wp2_with (first | ((with_reducible refine st_load 42 _ g1 ?_ hb Try.underlying42 ?_ ?_ ?_); exact rfl; exact rfl; exact Try.zBr) | ((with_reducible refine st_lit1 22 42 _ (btA b) ?_ Try.underlying22 Try.lit_br rfl (by decide) (by decide) ?_); exact rfl))
        refine ⟨fun V102 g102 n102 f102 => ?_⟩
        have ne102_b := f102.ne hb
        have no102_s := SO.fresh hs (Nat.le_of_eq f102.at_)
        have up102 : w.heap.size ≤ g102 := f102.up hw
        have bl102 := f102.bel
        clear f102
        have r103_s := SO.on hs bl102
        have r104_b := le_on hb bl102
        have r104_l := (hx).on bl102
        have l104 := le_tr hw bl102
        clear hb hx hw
        clear hs
        clear bl102
        go_wp2_with (first | ((with_reducible refine st_app (.tmp 57) (.tmp 59) 22 42 Try.underlying22 Try.infoBr rfl (by decide) (A := B) (n := m) (c := c) (G := G) rfl r103_s.seg (As := (some ⟨g102, 0, none⟩)) (m := 1) (k := 1) rfl (Src.box n102 rfl) (all_list (btA_one _)) (by simp only [maxLen]; omega) (by omega) (m + 1) (by omega) ?_)))
        refine ⟨fun B105 m105 q105 w105 s105 h105 k105 => ?_⟩
        have s105 : Seg w105 42 2 B105 (m + 1) m105 (rc dcl (out ++ [b])) q105 := by rw [← rc_snoc]; exact s105
        have hg105 : ∀ g, G = some g → w.heap.size ≤ g := fun g e => r103_s.hi g e
        have so105 : SO w.heap.size w105 42 dcl 2 B105 (m + 1) m105 (out ++ [b]) q105 := ⟨s105, k105.ge (l104).size hg105⟩
        have e105_b := CB.same r104_b (h105.block _ (CB.lt r104_b) (fun e => hno _ e.symm rfl))
        have na105_b := moved_ne k105 (CB.lt r104_b) hno
        have e105_q101 := CB.same n102 (h105.block _ (CB.lt n102) (fun e => no102_s _ e.symm rfl))
        have na105_q101 := moved_ne k105 (CB.lt n102) no102_s
        have e105_l := (r104_l).grow h105 hg105
        have lw105 := (l104).grown h105 (l104).size hg105
        clear h105 k105 s105 hg105 r103_s r104_b hno n102 no102_s r104_l l104
        obtain ⟨hpu, hins, hil, hol⟩ := HH.out
        clear HH
        by_cases h50 : 50 ≤ m
        · skip
          rw [if_pos h50] at hpu
          have HP := Lib.hid hpu
          have HL := Lib.hid (putL_no hpu (by decide))
          have q2 : decide ((50 : Int) < (m : Int) + 1) = true := by simp; omega
          clear hpu h50 hins hil hol
          go_wp2_with fail
          exact bodyPost_ret (v := .tuple #[.slice none 0 0, .int .i64 6]) (by simp [results, Try.results44, go_sem]) rfl (LPostB.mk_ HP.out HL.out (RS.nil _ _ _ _) lw105)
        · skip
          rw [if_neg h50] at hpu
          have HP := Lib.hid hpu
          have HL := Lib.hid (putL_ok hpu hins.symm)
          have q2 : decide ((50 : Int) < (m : Int) + 1) = false := by simp; omega
          clear hpu h50 hins hil hol
          go_wp2_with fail
          exact bodyPost_ret (v := .tuple #[.slice B105 (m + 1) m105, .int .i64 0]) (by simp [results, Try.results44, go_sem]) rfl (LPostB.mk_ HP.out HL.out (SO.rs so105) lw105)
end Go.Proofs.Ytfdboahcaiolgaa
