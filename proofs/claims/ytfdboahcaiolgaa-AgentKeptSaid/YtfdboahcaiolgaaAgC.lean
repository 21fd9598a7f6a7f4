/-
  agent.right, the document's Right of ballots. Conditions: the ballots can be read.
-/
import Derived.Test.YtfdboahcaiolgaaAgB
set_option linter.unusedVariables false
set_option linter.unusedSimpArgs false
namespace Go.Proofs.Ytfdboahcaiolgaa
open Go.RowKit
open Dk (Nt InN RightN BoundN MsgN NoMsg KindN EpN bound_n)


set_option maxRecDepth 100000 in
set_option maxHeartbeats 4000000 in
theorem gright_c (A : Option Addr) (n q : Nat) (L : List Bl) (w : World) (h : RR w dcl 2 A n q L) : Calls Try.prog 26 #[.slice A n q] w fun zz w' => zz = .returned (.bool (decide (RightB L))) ∧ Below w.heap.size w w' := by
  have hlen := Lib.hid h.len
  have hcap := h.cap
  have hmax := h.max
  simp only [maxLen] at hmax
  have hx := RL.start h
  clear h
  go_enter Try.func26, Try.ntmps26
  go_wp2_with fail
  go_loopw [7] (fun iv wr => ∃ k : Nat, k ≤ n ∧ iv = .int .i64 k ∧ RL w wr dcl 2 A n q L ∧ Hid (RightB (L.take k)) ∧ Below w.heap.size w wr) (fun iv _ => n - (intOf iv).toNat)
  case atStart => exact ⟨0, by omega, rfl, hx, Lib.hid right_nil, (Below.refl _ _)⟩
  case round =>
    clear hx
    obtain ⟨k, hk, rfl, hx, HR, hw⟩ := hrel
    by_cases hlt : k < n
    · skip
      obtain ⟨g, off, x, hxk, hA, _⟩ := hx.rr.elem hlt
      subst hA
      have hr2 : wr.rangeAt g (off + k * 2) (btA x).toList := RR.elemAt hx.rr hxk rfl
      have l1 : (k : Int) < n := by omega
      have hcut := fun V => run_cut_upto (P := Try.prog) 27 49 Try.underlying27 2 Try.sizeOf49 (some ⟨g, off, none⟩) n q k (by omega) V
      by_cases hF : FolB (L.take k) x
      · skip
        have HN := Lib.hid (right_next hxk hF HR.out)
        have CF : ∀ V, RL w V dcl 2 (some ⟨g, off, none⟩) n q L → Calls Try.prog 36 #[.slice (some ⟨g, off, none⟩) k q, .agg (btA x)] V fun zz w' => zz = .returned (.bool true) ∧ Below V.heap.size V w' := fun V hV => by have := fol_c (some ⟨g, off, none⟩) k q (L.take k) x V (hV.rr.upto hk); simpa only [decide_eq_true hF] using this
        clear hF
        go_wp2_with (first | ((with_reducible refine st_elem 49 _ g (off + k * 2) (btA x) ?_ hr2 Try.underlying49 ?_ ?_ ?_); exact rfl; exact rfl; exact Try.zBc) | ((with_reducible refine st_alloc 49 (btA zB) ?_ ?_); exact zero_bc))
        refine ⟨fun V101 g101 n101 f101 => ?_⟩
        have up101 : w.heap.size ≤ g101 := f101.up hw
        have bl101 := f101.bel
        clear f101
        have r103_l := (hx).on bl101
        have l103 := le_tr hw bl101
        clear hx hw
        clear bl101
        go_wp2_with (first | ((with_reducible refine st_store 49 _ _ g101 (btA x) ?_ ?_ n101 ?_ ?_ ?_ ?_); exact rfl; exact rfl; exact Try.zBc; exact rfl; exact btA_one _))
        refine ⟨fun V104 n104 k104 => ?_⟩
        have m104_l := (r103_l).wr k104 up101
        have o104 := k104.bel _ _ l103 up101
        clear k104
        clear n101 r103_l l103
        clear hr2
        go_wp2_with fail
        have y105 := Lib.hid (show (fun V : World => CB V g101 49 (btA x) ∧ RL w V dcl 2 (some ⟨g, off, none⟩) n q L) V104.drew from ⟨CB.drew n104, (m104_l).drew⟩)
        refine wp_region_held_drew (S := (fun V : World => CB V g101 49 (btA x) ∧ RL w V dcl 2 (some ⟨g, off, none⟩) n q L)) (by kernel_rfl) y105.out (fun hHeld => ?_)
        obtain ⟨D105, hD105⟩ : ∃ V, V104.drew = V := ⟨_, rfl⟩
        have b105 : Below V104.heap.size V104 D105 := by rw [← hD105]; exact le_dr (Below.refl _ _)
        rw [hD105] at hHeld ⊢
        clear hD105
        have r107_b := le_on n104 b105
        have r107_l := (m104_l).on b105
        have l107 := le_tr o104 b105
        clear n104 m104_l o104
        clear b105
        refine wpAnyH_takeL (i := 0) (d := some 12) (v := .slice (some ⟨g, off, none⟩) n q) rfl rfl (by kernel_rfl) (by kernel_rfl) (by kernel_rfl) (fun _ _ _ h => h) (Or.inl ⟨by rfl, ?_⟩) hHeld ?_
        · intro w hSw; (try dsimp only at hSw); go_simp
        try simp only [Act.put, List.setIfInBounds_toArray, List.set_cons_zero, List.set_cons_succ]
        refine wpAnyH_takeL (i := 1) (d := some 13) (v := .int .i64 (k : Int)) rfl rfl (by kernel_rfl) (by kernel_rfl) (by kernel_rfl) (fun _ _ _ h => h) (Or.inl ⟨by rfl, ?_⟩) hHeld ?_
        · intro w hSw; (try dsimp only at hSw); go_simp
        try simp only [Act.put, List.setIfInBounds_toArray, List.set_cons_zero, List.set_cons_succ]
        refine wpAnyH_takeL (i := 2) (d := some 14) (v := .slice (some ⟨g, off, none⟩) k q) rfl rfl (by kernel_rfl) (by kernel_rfl) (by kernel_rfl) (fun _ _ _ h => h) (Or.inl ⟨by rfl, ?_⟩) hHeld ?_
        · intro w hSw; (try dsimp only at hSw); go_simp
        try simp only [Act.put, List.setIfInBounds_toArray, List.set_cons_zero, List.set_cons_succ]
        refine wpAnyH_takeL (i := 3) (d := some 15) (v := .agg (btA x)) rfl rfl (by kernel_rfl) (by kernel_rfl) (by kernel_rfl) (fun _ _ _ h => h) (Or.inl ⟨by rfl, ?_⟩) hHeld ?_
        · intro w hSw; exact yl_whole 49 _ g101 rfl hSw.1 Try.underlying49 rfl Try.zBc
        try simp only [Act.put, List.setIfInBounds_toArray, List.set_cons_zero, List.set_cons_succ]
        refine wpAnyH_ready (rs := [4]) (by kernel_rfl) (by simp) ?_
        refine AllReadyH.cons rfl (fun K hK => ?_) AllReadyH.nil
        go_simp
        (with_reducible refine (CF _ r107_l).mono ?_)
        rintro e u108 ⟨rfl, b108⟩
        have r110_b := le_on r107_b b108
        have r110_l := (r107_l).on b108
        have l110 := le_tr l107 b108
        clear r107_b r107_l l107
        clear b108
        go_wp2_with fail
        have y111 := Lib.hid (show (fun V : World => CB V g101 49 (btA x) ∧ RL w V dcl 2 (some ⟨g, off, none⟩) n q L) u108 from ⟨r110_b, r110_l⟩)
        refine hK.out _ _ y111.out (fun hHeld => ?_)
        clear hK K y111
        try simp only [Act.put, List.setIfInBounds_toArray, List.set_cons_zero, List.set_cons_succ]
        refine wpAnyH_takeL (i := 5) (d := some 17) (v := .bool false) rfl rfl (by kernel_rfl) (by kernel_rfl) (by kernel_rfl) (fun _ _ _ h => h) (Or.inl ⟨by rfl, ?_⟩) hHeld ?_
        · intro w hSw; (try dsimp only at hSw); go_simp
        try simp only [Act.put, List.setIfInBounds_toArray, List.set_cons_zero, List.set_cons_succ]
        refine wpAnyH_done (by kernel_rfl) ?_ _
        go_wp2_with fail
        go_roundw
        case rel => exact ⟨k + 1, by omega, by go_num, r110_l, HN, l110⟩
        case measure => simp [intOf]; omega
      · skip
        have H := Lib.hid (show decide (RightB L) = false from decide_eq_false (not_right hxk hF))
        have CF : ∀ V, RL w V dcl 2 (some ⟨g, off, none⟩) n q L → Calls Try.prog 36 #[.slice (some ⟨g, off, none⟩) k q, .agg (btA x)] V fun zz w' => zz = .returned (.bool false) ∧ Below V.heap.size V w' := fun V hV => by have := fol_c (some ⟨g, off, none⟩) k q (L.take k) x V (hV.rr.upto hk); simpa only [decide_eq_false hF] using this
        clear hF
        go_wp2_with (first | ((with_reducible refine st_elem 49 _ g (off + k * 2) (btA x) ?_ hr2 Try.underlying49 ?_ ?_ ?_); exact rfl; exact rfl; exact Try.zBc) | ((with_reducible refine st_alloc 49 (btA zB) ?_ ?_); exact zero_bc))
        refine ⟨fun V101 g101 n101 f101 => ?_⟩
        have up101 : w.heap.size ≤ g101 := f101.up hw
        have bl101 := f101.bel
        clear f101
        have r103_l := (hx).on bl101
        have l103 := le_tr hw bl101
        clear hx hw
        clear bl101
        go_wp2_with (first | ((with_reducible refine st_store 49 _ _ g101 (btA x) ?_ ?_ n101 ?_ ?_ ?_ ?_); exact rfl; exact rfl; exact Try.zBc; exact rfl; exact btA_one _))
        refine ⟨fun V104 n104 k104 => ?_⟩
        have m104_l := (r103_l).wr k104 up101
        have o104 := k104.bel _ _ l103 up101
        clear k104
        clear n101 r103_l l103
        clear hr2
        go_wp2_with fail
        have y105 := Lib.hid (show (fun V : World => CB V g101 49 (btA x) ∧ RL w V dcl 2 (some ⟨g, off, none⟩) n q L) V104.drew from ⟨CB.drew n104, (m104_l).drew⟩)
        refine wp_region_held_drew (S := (fun V : World => CB V g101 49 (btA x) ∧ RL w V dcl 2 (some ⟨g, off, none⟩) n q L)) (by kernel_rfl) y105.out (fun hHeld => ?_)
        obtain ⟨D105, hD105⟩ : ∃ V, V104.drew = V := ⟨_, rfl⟩
        have b105 : Below V104.heap.size V104 D105 := by rw [← hD105]; exact le_dr (Below.refl _ _)
        rw [hD105] at hHeld ⊢
        clear hD105
        have r107_b := le_on n104 b105
        have r107_l := (m104_l).on b105
        have l107 := le_tr o104 b105
        clear n104 m104_l o104
        clear b105
        refine wpAnyH_takeL (i := 0) (d := some 12) (v := .slice (some ⟨g, off, none⟩) n q) rfl rfl (by kernel_rfl) (by kernel_rfl) (by kernel_rfl) (fun _ _ _ h => h) (Or.inl ⟨by rfl, ?_⟩) hHeld ?_
        · intro w hSw; (try dsimp only at hSw); go_simp
        try simp only [Act.put, List.setIfInBounds_toArray, List.set_cons_zero, List.set_cons_succ]
        refine wpAnyH_takeL (i := 1) (d := some 13) (v := .int .i64 (k : Int)) rfl rfl (by kernel_rfl) (by kernel_rfl) (by kernel_rfl) (fun _ _ _ h => h) (Or.inl ⟨by rfl, ?_⟩) hHeld ?_
        · intro w hSw; (try dsimp only at hSw); go_simp
        try simp only [Act.put, List.setIfInBounds_toArray, List.set_cons_zero, List.set_cons_succ]
        refine wpAnyH_takeL (i := 2) (d := some 14) (v := .slice (some ⟨g, off, none⟩) k q) rfl rfl (by kernel_rfl) (by kernel_rfl) (by kernel_rfl) (fun _ _ _ h => h) (Or.inl ⟨by rfl, ?_⟩) hHeld ?_
        · intro w hSw; (try dsimp only at hSw); go_simp
        try simp only [Act.put, List.setIfInBounds_toArray, List.set_cons_zero, List.set_cons_succ]
        refine wpAnyH_takeL (i := 3) (d := some 15) (v := .agg (btA x)) rfl rfl (by kernel_rfl) (by kernel_rfl) (by kernel_rfl) (fun _ _ _ h => h) (Or.inl ⟨by rfl, ?_⟩) hHeld ?_
        · intro w hSw; exact yl_whole 49 _ g101 rfl hSw.1 Try.underlying49 rfl Try.zBc
        try simp only [Act.put, List.setIfInBounds_toArray, List.set_cons_zero, List.set_cons_succ]
        refine wpAnyH_ready (rs := [4]) (by kernel_rfl) (by simp) ?_
        refine AllReadyH.cons rfl (fun K hK => ?_) AllReadyH.nil
        go_simp
        (with_reducible refine (CF _ r107_l).mono ?_)
        rintro e u108 ⟨rfl, b108⟩
        have r110_b := le_on r107_b b108
        have r110_l := (r107_l).on b108
        have l110 := le_tr l107 b108
        clear r107_b r107_l l107
        clear b108
        go_wp2_with fail
        have y111 := Lib.hid (show (fun V : World => CB V g101 49 (btA x) ∧ RL w V dcl 2 (some ⟨g, off, none⟩) n q L) u108 from ⟨r110_b, r110_l⟩)
        refine hK.out _ _ y111.out (fun hHeld => ?_)
        clear hK K y111
        try simp only [Act.put, List.setIfInBounds_toArray, List.set_cons_zero, List.set_cons_succ]
        refine wpAnyH_takeL (i := 5) (d := some 17) (v := .bool true) rfl rfl (by kernel_rfl) (by kernel_rfl) (by kernel_rfl) (fun _ _ _ h => h) (Or.inl ⟨by rfl, ?_⟩) hHeld ?_
        · intro w hSw; (try dsimp only at hSw); go_simp
        try simp only [Act.put, List.setIfInBounds_toArray, List.set_cons_zero, List.set_cons_succ]
        refine wpAnyH_done (by kernel_rfl) ?_ _
        go_wp2_with fail
        go_ret
        exact ⟨ret_bool H.out.symm, l110⟩
    · skip
      obtain rfl : k = n := by omega
      have H := Lib.hid (show decide (RightB L) = true from decide_eq_true (by have := HR.out; rwa [List.take_of_length_le (by rw [hlen.out]; exact Nat.le_refl _)] at this))
      have g1 : ¬ ((k : Int) < k) := by omega
      clear hlt
      go_wp2_with fail
      go_ret
      exact ⟨ret_bool H.out.symm, hw⟩
set_option maxRecDepth 100000 in
set_option maxHeartbeats 4000000 in
theorem gright_r (A : Option Addr) (n q : Nat) (L : List Bl) (w : World) (h : RR w dcl 2 A n q L) : Calls Try.prog 30 #[.slice A n q] w fun zz w' => zz = .returned (.bool (decide (RightB L))) ∧ Below w.heap.size w w' := by
  have hlen := Lib.hid h.len
  have hcap := h.cap
  have hmax := h.max
  simp only [maxLen] at hmax
  have hx := RL.start h
  clear h
  go_enter Try.func30, Try.ntmps30
  go_wp2_with fail
  go_loopw [3] (fun iv wr => ∃ k : Nat, k ≤ n ∧ iv = .int .i64 k ∧ RL w wr dcl 2 A n q L ∧ Hid (OrdB (L.take k)) ∧ Below w.heap.size w wr) (fun iv _ => n - (intOf iv).toNat)
  case atStart => exact ⟨0, by omega, rfl, hx, Lib.hid ⟨fun _ h => (by cases h), List.Pairwise.nil⟩, (Below.refl _ _)⟩
  case round =>
    clear hx
    obtain ⟨k, hk, rfl, hx, HR, hw⟩ := hrel
    by_cases hlt : k < n
    · skip
      obtain ⟨g, off, x, hxk, hA, _⟩ := hx.rr.elem hlt
      subst hA
      have hr2 : wr.rangeAt g (off + k * 2) (btA x).toList := RR.elemAt hx.rr hxk rfl
      have l1 : (k : Int) < n := by omega
      have CM := fun W => mayb_r x W
      by_cases d1 : MayB x
      rotate_left
      · skip
        have H := Lib.hid (show decide (RightB L) = false from decide_eq_false (not_ord hxk (fun hh => d1 hh.1)))
        simp only [decide_eq_false d1] at CM
        clear d1
        go_wp2_with fail
        have y101 := Lib.hid (show (fun V : World => RL w V dcl 2 (some ⟨g, off, none⟩) n q L) wr.drew from (hx).drew)
        refine wp_region_held_drew (S := (fun V : World => RL w V dcl 2 (some ⟨g, off, none⟩) n q L)) (by kernel_rfl) y101.out (fun hHeld => ?_)
        obtain ⟨D101, hD101⟩ : ∃ V, wr.drew = V := ⟨_, rfl⟩
        have b101 : Below wr.heap.size wr D101 := by rw [← hD101]; exact le_dr (Below.refl _ _)
        rw [hD101] at hHeld ⊢
        clear hD101
        have r103_l := (hx).on b101
        have l103 := le_tr hw b101
        clear hx hw
        clear b101
        refine wpAnyH_takeL (i := 0) (d := some 10) (v := .slice (some ⟨g, off, none⟩) n q) rfl rfl (by kernel_rfl) (by kernel_rfl) (by kernel_rfl) (fun _ _ _ h => h) (Or.inl ⟨by rfl, ?_⟩) hHeld ?_
        · intro w hSw; (try dsimp only at hSw); go_simp
        try simp only [Act.put, List.setIfInBounds_toArray, List.set_cons_zero, List.set_cons_succ]
        refine wpAnyH_takeL (i := 1) (d := some 11) (v := .int .i64 (k : Int)) rfl rfl (by kernel_rfl) (by kernel_rfl) (by kernel_rfl) (fun _ _ _ h => h) (Or.inl ⟨by rfl, ?_⟩) hHeld ?_
        · intro w hSw; (try dsimp only at hSw); go_simp
        try simp only [Act.put, List.setIfInBounds_toArray, List.set_cons_zero, List.set_cons_succ]
        refine wpAnyH_takeL (i := 2) (d := some 12) (v := .pointer (some ⟨g, off + k * 2, none⟩)) rfl rfl (by kernel_rfl) (by kernel_rfl) (by kernel_rfl) (fun _ _ _ h => h) (Or.inl ⟨by rfl, ?_⟩) hHeld ?_
        · intro w hSw; (try dsimp only at hSw); go_simp
        try simp only [Act.put, List.setIfInBounds_toArray, List.set_cons_zero, List.set_cons_succ]
        refine wpAnyH_takeL (i := 3) (d := some 13) (v := .agg (btA x)) rfl rfl (by kernel_rfl) (by kernel_rfl) (by kernel_rfl) (fun _ _ _ h => h) (Or.inl ⟨by rfl, ?_⟩) hHeld ?_
        · intro w hSw; exact yl_elem 42 _ g (off + k * 2) (btA x) rfl (RR.elemAt hSw.rr hxk rfl) Try.underlying42 rfl Try.zBr
        try simp only [Act.put, List.setIfInBounds_toArray, List.set_cons_zero, List.set_cons_succ]
        refine wpAnyH_ready (rs := [4]) (by kernel_rfl) (by simp) ?_
        refine AllReadyH.cons rfl (fun K hK => ?_) AllReadyH.nil
        go_simp
        (with_reducible refine (CM _).mono ?_)
        rintro e u104 ⟨rfl, b104⟩
        have r106_l := (r103_l).on b104
        have l106 := le_tr l103 b104
        clear r103_l l103
        clear b104
        go_wp2_with fail
        have y107 := Lib.hid (show (fun V : World => RL w V dcl 2 (some ⟨g, off, none⟩) n q L) u104 from r106_l)
        refine hK.out _ _ y107.out (fun hHeld => ?_)
        clear hK K y107
        try simp only [Act.put, List.setIfInBounds_toArray, List.set_cons_zero, List.set_cons_succ]
        refine wpAnyH_takeL (i := 5) (d := some 15) (v := .bool true) rfl rfl (by kernel_rfl) (by kernel_rfl) (by kernel_rfl) (fun _ _ _ h => h) (Or.inl ⟨by rfl, ?_⟩) hHeld ?_
        · intro w hSw; (try dsimp only at hSw); go_simp
        try simp only [Act.put, List.setIfInBounds_toArray, List.set_cons_zero, List.set_cons_succ]
        refine wpAnyH_takeL (i := 6) (d := some 16) (v := .bool true) rfl rfl (by kernel_rfl) (by kernel_rfl) (by kernel_rfl) (fun _ _ _ h => h) (Or.inl ⟨by rfl, ?_⟩) hHeld ?_
        · intro w hSw; (try dsimp only at hSw); go_simp
        try simp only [Act.put, List.setIfInBounds_toArray, List.set_cons_zero, List.set_cons_succ]
        refine wpAnyH_takeL (i := 7) (d := some 17) (v := undef) rfl rfl (by kernel_rfl) (by kernel_rfl) (by kernel_rfl) (fun _ _ _ h => h) (Or.inr ⟨by kernel_rfl, rfl⟩) hHeld ?_
        try simp only [Act.put, List.setIfInBounds_toArray, List.set_cons_zero, List.set_cons_succ]
        refine wpAnyH_takeL (i := 8) (d := some 18) (v := undef) rfl rfl (by kernel_rfl) (by kernel_rfl) (by kernel_rfl) (fun _ _ _ h => h) (Or.inr ⟨by kernel_rfl, rfl⟩) hHeld ?_
        try simp only [Act.put, List.setIfInBounds_toArray, List.set_cons_zero, List.set_cons_succ]
        refine wpAnyH_takeL (i := 9) (d := some 19) (v := undef) rfl rfl (by kernel_rfl) (by kernel_rfl) (by kernel_rfl) (fun _ _ _ h => h) (Or.inr ⟨by kernel_rfl, rfl⟩) hHeld ?_
        try simp only [Act.put, List.setIfInBounds_toArray, List.set_cons_zero, List.set_cons_succ]
        refine wpAnyH_takeL (i := 10) (d := some 20) (v := undef) rfl rfl (by kernel_rfl) (by kernel_rfl) (by kernel_rfl) (fun _ _ _ h => h) (Or.inr ⟨by kernel_rfl, rfl⟩) hHeld ?_
        try simp only [Act.put, List.setIfInBounds_toArray, List.set_cons_zero, List.set_cons_succ]
        refine wpAnyH_takeL (i := 11) (d := some 21) (v := undef) rfl rfl (by kernel_rfl) (by kernel_rfl) (by kernel_rfl) (fun _ _ _ h => h) (Or.inr ⟨by kernel_rfl, rfl⟩) hHeld ?_
        try simp only [Act.put, List.setIfInBounds_toArray, List.set_cons_zero, List.set_cons_succ]
        refine wpAnyH_takeL (i := 12) (d := some 22) (v := undef) rfl rfl (by kernel_rfl) (by kernel_rfl) (by kernel_rfl) (fun _ _ _ h => h) (Or.inr ⟨by kernel_rfl, rfl⟩) hHeld ?_
        try simp only [Act.put, List.setIfInBounds_toArray, List.set_cons_zero, List.set_cons_succ]
        refine wpAnyH_takeL (i := 13) (d := some 23) (v := undef) rfl rfl (by kernel_rfl) (by kernel_rfl) (by kernel_rfl) (fun _ _ _ h => h) (Or.inr ⟨by kernel_rfl, rfl⟩) hHeld ?_
        try simp only [Act.put, List.setIfInBounds_toArray, List.set_cons_zero, List.set_cons_succ]
        refine wpAnyH_takeL (i := 14) (d := some 24) (v := undef) rfl rfl (by kernel_rfl) (by kernel_rfl) (by kernel_rfl) (fun _ _ _ h => h) (Or.inr ⟨by kernel_rfl, rfl⟩) hHeld ?_
        try simp only [Act.put, List.setIfInBounds_toArray, List.set_cons_zero, List.set_cons_succ]
        refine wpAnyH_takeL (i := 15) (d := some 25) (v := undef) rfl rfl (by kernel_rfl) (by kernel_rfl) (by kernel_rfl) (fun _ _ _ h => h) (Or.inr ⟨by kernel_rfl, rfl⟩) hHeld ?_
        try simp only [Act.put, List.setIfInBounds_toArray, List.set_cons_zero, List.set_cons_succ]
        refine wpAnyH_takeL (i := 16) (d := some 26) (v := undef) rfl rfl (by kernel_rfl) (by kernel_rfl) (by kernel_rfl) (fun _ _ _ h => h) (Or.inr ⟨by kernel_rfl, rfl⟩) hHeld ?_
        try simp only [Act.put, List.setIfInBounds_toArray, List.set_cons_zero, List.set_cons_succ]
        refine wpAnyH_takeL (i := 17) (d := some 27) (v := undef) rfl rfl (by kernel_rfl) (by kernel_rfl) (by kernel_rfl) (fun _ _ _ h => h) (Or.inr ⟨by kernel_rfl, rfl⟩) hHeld ?_
        try simp only [Act.put, List.setIfInBounds_toArray, List.set_cons_zero, List.set_cons_succ]
        refine wpAnyH_takeL (i := 18) (d := some 28) (v := undef) rfl rfl (by kernel_rfl) (by kernel_rfl) (by kernel_rfl) (fun _ _ _ h => h) (Or.inr ⟨by kernel_rfl, rfl⟩) hHeld ?_
        try simp only [Act.put, List.setIfInBounds_toArray, List.set_cons_zero, List.set_cons_succ]
        refine wpAnyH_takeL (i := 19) (d := some 29) (v := undef) rfl rfl (by kernel_rfl) (by kernel_rfl) (by kernel_rfl) (fun _ _ _ h => h) (Or.inr ⟨by kernel_rfl, rfl⟩) hHeld ?_
        try simp only [Act.put, List.setIfInBounds_toArray, List.set_cons_zero, List.set_cons_succ]
        refine wpAnyH_takeL (i := 20) (d := some 30) (v := undef) rfl rfl (by kernel_rfl) (by kernel_rfl) (by kernel_rfl) (fun _ _ _ h => h) (Or.inr ⟨by kernel_rfl, rfl⟩) hHeld ?_
        try simp only [Act.put, List.setIfInBounds_toArray, List.set_cons_zero, List.set_cons_succ]
        refine wpAnyH_takeL (i := 21) (d := some 31) (v := undef) rfl rfl (by kernel_rfl) (by kernel_rfl) (by kernel_rfl) (fun _ _ _ h => h) (Or.inr ⟨by kernel_rfl, rfl⟩) hHeld ?_
        try simp only [Act.put, List.setIfInBounds_toArray, List.set_cons_zero, List.set_cons_succ]
        refine wpAnyH_takeL (i := 22) (d := some 32) (v := undef) rfl rfl (by kernel_rfl) (by kernel_rfl) (by kernel_rfl) (fun _ _ _ h => h) (Or.inr ⟨by kernel_rfl, rfl⟩) hHeld ?_
        try simp only [Act.put, List.setIfInBounds_toArray, List.set_cons_zero, List.set_cons_succ]
        refine wpAnyH_takeL (i := 23) (d := some 33) (v := .bool true) rfl rfl (by kernel_rfl) (by kernel_rfl) (by kernel_rfl) (fun _ _ _ h => h) (Or.inl ⟨by rfl, ?_⟩) hHeld ?_
        · intro w hSw; (try dsimp only at hSw); go_simp
        try simp only [Act.put, List.setIfInBounds_toArray, List.set_cons_zero, List.set_cons_succ]
        refine wpAnyH_done (by kernel_rfl) ?_ _
        go_wp2_with fail
        go_ret
        exact ⟨ret_bool H.out.symm, l106⟩
      simp only [decide_eq_true d1] at CM
      rcases (show k = 0 ∨ ∃ p, k = p + 1 from by cases k with | zero => exact .inl rfl | succ p => exact .inr ⟨p, rfl⟩) with h0 | ⟨p, hp⟩
      · skip
        have HN := Lib.hid (ord_next hxk d1 (by rw [h0]; exact lst_nil x) HR.out)
        have q2 : decide ((k : Int) > 0) = false := by simp [h0]
        have q3 : decide ((0 : Int) < (k : Int)) = false := by simp [h0]
        have q4 : decide (0 < k) = false := by simp [h0]
        clear d1 h0
        go_wp2_with fail
        have y101 := Lib.hid (show (fun V : World => RL w V dcl 2 (some ⟨g, off, none⟩) n q L) wr.drew from (hx).drew)
        refine wp_region_held_drew (S := (fun V : World => RL w V dcl 2 (some ⟨g, off, none⟩) n q L)) (by kernel_rfl) y101.out (fun hHeld => ?_)
        obtain ⟨D101, hD101⟩ : ∃ V, wr.drew = V := ⟨_, rfl⟩
        have b101 : Below wr.heap.size wr D101 := by rw [← hD101]; exact le_dr (Below.refl _ _)
        rw [hD101] at hHeld ⊢
        clear hD101
        have r103_l := (hx).on b101
        have l103 := le_tr hw b101
        clear hx hw
        clear b101
        refine wpAnyH_takeL (i := 0) (d := some 10) (v := .slice (some ⟨g, off, none⟩) n q) rfl rfl (by kernel_rfl) (by kernel_rfl) (by kernel_rfl) (fun _ _ _ h => h) (Or.inl ⟨by rfl, ?_⟩) hHeld ?_
        · intro w hSw; (try dsimp only at hSw); go_simp
        try simp only [Act.put, List.setIfInBounds_toArray, List.set_cons_zero, List.set_cons_succ]
        refine wpAnyH_takeL (i := 1) (d := some 11) (v := .int .i64 (k : Int)) rfl rfl (by kernel_rfl) (by kernel_rfl) (by kernel_rfl) (fun _ _ _ h => h) (Or.inl ⟨by rfl, ?_⟩) hHeld ?_
        · intro w hSw; (try dsimp only at hSw); go_simp
        try simp only [Act.put, List.setIfInBounds_toArray, List.set_cons_zero, List.set_cons_succ]
        refine wpAnyH_takeL (i := 2) (d := some 12) (v := .pointer (some ⟨g, off + k * 2, none⟩)) rfl rfl (by kernel_rfl) (by kernel_rfl) (by kernel_rfl) (fun _ _ _ h => h) (Or.inl ⟨by rfl, ?_⟩) hHeld ?_
        · intro w hSw; (try dsimp only at hSw); go_simp
        try simp only [Act.put, List.setIfInBounds_toArray, List.set_cons_zero, List.set_cons_succ]
        refine wpAnyH_takeL (i := 3) (d := some 13) (v := .agg (btA x)) rfl rfl (by kernel_rfl) (by kernel_rfl) (by kernel_rfl) (fun _ _ _ h => h) (Or.inl ⟨by rfl, ?_⟩) hHeld ?_
        · intro w hSw; exact yl_elem 42 _ g (off + k * 2) (btA x) rfl (RR.elemAt hSw.rr hxk rfl) Try.underlying42 rfl Try.zBr
        try simp only [Act.put, List.setIfInBounds_toArray, List.set_cons_zero, List.set_cons_succ]
        refine wpAnyH_ready (rs := [4]) (by kernel_rfl) (by simp) ?_
        refine AllReadyH.cons rfl (fun K hK => ?_) AllReadyH.nil
        go_simp
        (with_reducible refine (CM _).mono ?_)
        rintro e u104 ⟨rfl, b104⟩
        have r106_l := (r103_l).on b104
        have l106 := le_tr l103 b104
        clear r103_l l103
        clear b104
        go_wp2_with fail
        have y107 := Lib.hid (show (fun V : World => RL w V dcl 2 (some ⟨g, off, none⟩) n q L) u104 from r106_l)
        refine hK.out _ _ y107.out (fun hHeld => ?_)
        clear hK K y107
        try simp only [Act.put, List.setIfInBounds_toArray, List.set_cons_zero, List.set_cons_succ]
        refine wpAnyH_takeL (i := 5) (d := some 15) (v := .bool false) rfl rfl (by kernel_rfl) (by kernel_rfl) (by kernel_rfl) (fun _ _ _ h => h) (Or.inl ⟨by rfl, ?_⟩) hHeld ?_
        · intro w hSw; (try dsimp only at hSw); go_simp
        try simp only [Act.put, List.setIfInBounds_toArray, List.set_cons_zero, List.set_cons_succ]
        refine wpAnyH_takeL (i := 6) (d := some 16) (v := .bool false) rfl rfl (by kernel_rfl) (by kernel_rfl) (by kernel_rfl) (fun _ _ _ h => h) (Or.inl ⟨by rfl, ?_⟩) hHeld ?_
        · intro w hSw; (try dsimp only at hSw); go_simp
        try simp only [Act.put, List.setIfInBounds_toArray, List.set_cons_zero, List.set_cons_succ]
        refine wpAnyH_takeL (i := 7) (d := some 17) (v := .int .i64 (k : Int)) rfl rfl (by kernel_rfl) (by kernel_rfl) (by kernel_rfl) (fun _ _ _ h => h) (Or.inl ⟨by rfl, ?_⟩) hHeld ?_
        · intro w hSw; (try dsimp only at hSw); go_simp
        try simp only [Act.put, List.setIfInBounds_toArray, List.set_cons_zero, List.set_cons_succ]
        refine wpAnyH_takeL (i := 8) (d := some 18) (v := .bool false) rfl rfl (by kernel_rfl) (by kernel_rfl) (by kernel_rfl) (fun _ _ _ h => h) (Or.inl ⟨by rfl, ?_⟩) hHeld ?_
        · intro w hSw; (try dsimp only at hSw); go_simp
        try simp only [Act.put, List.setIfInBounds_toArray, List.set_cons_zero, List.set_cons_succ]
        refine wpAnyH_takeL (i := 9) (d := some 19) (v := .bool false) rfl rfl (by kernel_rfl) (by kernel_rfl) (by kernel_rfl) (fun _ _ _ h => h) (Or.inl ⟨by rfl, ?_⟩) hHeld ?_
        · intro w hSw; (try dsimp only at hSw); go_simp
        try simp only [Act.put, List.setIfInBounds_toArray, List.set_cons_zero, List.set_cons_succ]
        refine wpAnyH_takeL (i := 10) (d := some 20) (v := undef) rfl rfl (by kernel_rfl) (by kernel_rfl) (by kernel_rfl) (fun _ _ _ h => h) (Or.inr ⟨by kernel_rfl, rfl⟩) hHeld ?_
        try simp only [Act.put, List.setIfInBounds_toArray, List.set_cons_zero, List.set_cons_succ]
        refine wpAnyH_takeL (i := 11) (d := some 21) (v := undef) rfl rfl (by kernel_rfl) (by kernel_rfl) (by kernel_rfl) (fun _ _ _ h => h) (Or.inr ⟨by kernel_rfl, rfl⟩) hHeld ?_
        try simp only [Act.put, List.setIfInBounds_toArray, List.set_cons_zero, List.set_cons_succ]
        refine wpAnyH_takeL (i := 12) (d := some 22) (v := undef) rfl rfl (by kernel_rfl) (by kernel_rfl) (by kernel_rfl) (fun _ _ _ h => h) (Or.inr ⟨by kernel_rfl, rfl⟩) hHeld ?_
        try simp only [Act.put, List.setIfInBounds_toArray, List.set_cons_zero, List.set_cons_succ]
        refine wpAnyH_takeL (i := 13) (d := some 23) (v := undef) rfl rfl (by kernel_rfl) (by kernel_rfl) (by kernel_rfl) (fun _ _ _ h => h) (Or.inr ⟨by kernel_rfl, rfl⟩) hHeld ?_
        try simp only [Act.put, List.setIfInBounds_toArray, List.set_cons_zero, List.set_cons_succ]
        refine wpAnyH_takeL (i := 14) (d := some 24) (v := undef) rfl rfl (by kernel_rfl) (by kernel_rfl) (by kernel_rfl) (fun _ _ _ h => h) (Or.inr ⟨by kernel_rfl, rfl⟩) hHeld ?_
        try simp only [Act.put, List.setIfInBounds_toArray, List.set_cons_zero, List.set_cons_succ]
        refine wpAnyH_takeL (i := 15) (d := some 25) (v := undef) rfl rfl (by kernel_rfl) (by kernel_rfl) (by kernel_rfl) (fun _ _ _ h => h) (Or.inr ⟨by kernel_rfl, rfl⟩) hHeld ?_
        try simp only [Act.put, List.setIfInBounds_toArray, List.set_cons_zero, List.set_cons_succ]
        refine wpAnyH_takeL (i := 16) (d := some 26) (v := undef) rfl rfl (by kernel_rfl) (by kernel_rfl) (by kernel_rfl) (fun _ _ _ h => h) (Or.inr ⟨by kernel_rfl, rfl⟩) hHeld ?_
        try simp only [Act.put, List.setIfInBounds_toArray, List.set_cons_zero, List.set_cons_succ]
        refine wpAnyH_takeL (i := 17) (d := some 27) (v := undef) rfl rfl (by kernel_rfl) (by kernel_rfl) (by kernel_rfl) (fun _ _ _ h => h) (Or.inr ⟨by kernel_rfl, rfl⟩) hHeld ?_
        try simp only [Act.put, List.setIfInBounds_toArray, List.set_cons_zero, List.set_cons_succ]
        refine wpAnyH_takeL (i := 18) (d := some 28) (v := undef) rfl rfl (by kernel_rfl) (by kernel_rfl) (by kernel_rfl) (fun _ _ _ h => h) (Or.inr ⟨by kernel_rfl, rfl⟩) hHeld ?_
        try simp only [Act.put, List.setIfInBounds_toArray, List.set_cons_zero, List.set_cons_succ]
        refine wpAnyH_takeL (i := 19) (d := some 29) (v := undef) rfl rfl (by kernel_rfl) (by kernel_rfl) (by kernel_rfl) (fun _ _ _ h => h) (Or.inr ⟨by kernel_rfl, rfl⟩) hHeld ?_
        try simp only [Act.put, List.setIfInBounds_toArray, List.set_cons_zero, List.set_cons_succ]
        refine wpAnyH_takeL (i := 20) (d := some 30) (v := undef) rfl rfl (by kernel_rfl) (by kernel_rfl) (by kernel_rfl) (fun _ _ _ h => h) (Or.inr ⟨by kernel_rfl, rfl⟩) hHeld ?_
        try simp only [Act.put, List.setIfInBounds_toArray, List.set_cons_zero, List.set_cons_succ]
        refine wpAnyH_takeL (i := 21) (d := some 31) (v := undef) rfl rfl (by kernel_rfl) (by kernel_rfl) (by kernel_rfl) (fun _ _ _ h => h) (Or.inr ⟨by kernel_rfl, rfl⟩) hHeld ?_
        try simp only [Act.put, List.setIfInBounds_toArray, List.set_cons_zero, List.set_cons_succ]
        refine wpAnyH_takeL (i := 22) (d := some 32) (v := .bool false) rfl rfl (by kernel_rfl) (by kernel_rfl) (by kernel_rfl) (fun _ _ _ h => h) (Or.inl ⟨by rfl, ?_⟩) hHeld ?_
        · intro w hSw; (try dsimp only at hSw); go_simp
        try simp only [Act.put, List.setIfInBounds_toArray, List.set_cons_zero, List.set_cons_succ]
        refine wpAnyH_takeL (i := 23) (d := some 33) (v := .bool false) rfl rfl (by kernel_rfl) (by kernel_rfl) (by kernel_rfl) (fun _ _ _ h => h) (Or.inl ⟨by rfl, ?_⟩) hHeld ?_
        · intro w hSw; (try dsimp only at hSw); go_simp
        try simp only [Act.put, List.setIfInBounds_toArray, List.set_cons_zero, List.set_cons_succ]
        refine wpAnyH_done (by kernel_rfl) ?_ _
        go_wp2_with fail
        go_roundw
        case rel => exact ⟨k + 1, by omega, by go_num, r106_l, HN, l106⟩
        case measure => simp [intOf]; omega
      · skip
        obtain ⟨y, hyp⟩ : ∃ y, L[p]? = some y := ⟨_, List.getElem?_eq_getElem (show p < L.length by rw [hlen.out]; omega)⟩
        have w1 : IntKind.i64.wrap ((k : Int) - 1) = (p : Int) := by rw [show (k : Int) - 1 = (p : Int) by omega]; exact IntWalk.i64_in _ (by omega)
        have w3 : p < n := by omega
        have W2 := Lib.hid (show (k : Int) - 1 = (p : Int) by omega)
        have q2 : decide ((k : Int) > 0) = true := by simp; omega
        have q3 : decide ((0 : Int) < (k : Int)) = true := by simp; omega
        have q4 : decide (0 < k) = true := by simp; omega
        have HL := Lib.hid (show LstB (L.take k) x ↔ y.tx < x.tx by rw [hp]; exact lst_take hyp)
        clear hp
        by_cases d2 : y.tx < x.tx
        · skip
          have HN := Lib.hid (ord_next hxk d1 (HL.out.2 d2) HR.out)
          have q5 : decide (x.tx ≤ y.tx) = false := by simp; omega
          have q6 : decide (y.tx ≥ x.tx) = false := by simp; omega
          clear d1 d2 HL
          go_wp2_with fail
          have y101 := Lib.hid (show (fun V : World => RL w V dcl 2 (some ⟨g, off, none⟩) n q L) wr.drew from (hx).drew)
          refine wp_region_held_drew (S := (fun V : World => RL w V dcl 2 (some ⟨g, off, none⟩) n q L)) (by kernel_rfl) y101.out (fun hHeld => ?_)
          obtain ⟨D101, hD101⟩ : ∃ V, wr.drew = V := ⟨_, rfl⟩
          have b101 : Below wr.heap.size wr D101 := by rw [← hD101]; exact le_dr (Below.refl _ _)
          rw [hD101] at hHeld ⊢
          clear hD101
          have r103_l := (hx).on b101
          have l103 := le_tr hw b101
          clear hx hw
          clear b101
          refine wpAnyH_takeL (i := 0) (d := some 10) (v := .slice (some ⟨g, off, none⟩) n q) rfl rfl (by kernel_rfl) (by kernel_rfl) (by kernel_rfl) (fun _ _ _ h => h) (Or.inl ⟨by rfl, ?_⟩) hHeld ?_
          · intro w hSw; (try dsimp only at hSw); go_simp
          try simp only [Act.put, List.setIfInBounds_toArray, List.set_cons_zero, List.set_cons_succ]
          refine wpAnyH_takeL (i := 1) (d := some 11) (v := .int .i64 (k : Int)) rfl rfl (by kernel_rfl) (by kernel_rfl) (by kernel_rfl) (fun _ _ _ h => h) (Or.inl ⟨by rfl, ?_⟩) hHeld ?_
          · intro w hSw; (try dsimp only at hSw); go_simp
          try simp only [Act.put, List.setIfInBounds_toArray, List.set_cons_zero, List.set_cons_succ]
          refine wpAnyH_takeL (i := 2) (d := some 12) (v := .pointer (some ⟨g, off + k * 2, none⟩)) rfl rfl (by kernel_rfl) (by kernel_rfl) (by kernel_rfl) (fun _ _ _ h => h) (Or.inl ⟨by rfl, ?_⟩) hHeld ?_
          · intro w hSw; (try dsimp only at hSw); go_simp
          try simp only [Act.put, List.setIfInBounds_toArray, List.set_cons_zero, List.set_cons_succ]
          refine wpAnyH_takeL (i := 3) (d := some 13) (v := .agg (btA x)) rfl rfl (by kernel_rfl) (by kernel_rfl) (by kernel_rfl) (fun _ _ _ h => h) (Or.inl ⟨by rfl, ?_⟩) hHeld ?_
          · intro w hSw; exact yl_elem 42 _ g (off + k * 2) (btA x) rfl (RR.elemAt hSw.rr hxk rfl) Try.underlying42 rfl Try.zBr
          try simp only [Act.put, List.setIfInBounds_toArray, List.set_cons_zero, List.set_cons_succ]
          refine wpAnyH_ready (rs := [4]) (by kernel_rfl) (by simp) ?_
          refine AllReadyH.cons rfl (fun K hK => ?_) AllReadyH.nil
          go_simp
          (with_reducible refine (CM _).mono ?_)
          rintro e u104 ⟨rfl, b104⟩
          have r106_l := (r103_l).on b104
          have l106 := le_tr l103 b104
          clear r103_l l103
          clear b104
          go_wp2_with fail
          have y107 := Lib.hid (show (fun V : World => RL w V dcl 2 (some ⟨g, off, none⟩) n q L) u104 from r106_l)
          refine hK.out _ _ y107.out (fun hHeld => ?_)
          clear hK K y107
          try simp only [Act.put, List.setIfInBounds_toArray, List.set_cons_zero, List.set_cons_succ]
          refine wpAnyH_takeL (i := 5) (d := some 15) (v := .bool false) rfl rfl (by kernel_rfl) (by kernel_rfl) (by kernel_rfl) (fun _ _ _ h => h) (Or.inl ⟨by rfl, ?_⟩) hHeld ?_
          · intro w hSw; (try dsimp only at hSw); go_simp
          try simp only [Act.put, List.setIfInBounds_toArray, List.set_cons_zero, List.set_cons_succ]
          refine wpAnyH_takeL (i := 6) (d := some 16) (v := .bool false) rfl rfl (by kernel_rfl) (by kernel_rfl) (by kernel_rfl) (fun _ _ _ h => h) (Or.inl ⟨by rfl, ?_⟩) hHeld ?_
          · intro w hSw; (try dsimp only at hSw); go_simp
          try simp only [Act.put, List.setIfInBounds_toArray, List.set_cons_zero, List.set_cons_succ]
          refine wpAnyH_takeL (i := 7) (d := some 17) (v := .int .i64 (k : Int)) rfl rfl (by kernel_rfl) (by kernel_rfl) (by kernel_rfl) (fun _ _ _ h => h) (Or.inl ⟨by rfl, ?_⟩) hHeld ?_
          · intro w hSw; (try dsimp only at hSw); go_simp
          try simp only [Act.put, List.setIfInBounds_toArray, List.set_cons_zero, List.set_cons_succ]
          refine wpAnyH_takeL (i := 8) (d := some 18) (v := .bool true) rfl rfl (by kernel_rfl) (by kernel_rfl) (by kernel_rfl) (fun _ _ _ h => h) (Or.inl ⟨by rfl, ?_⟩) hHeld ?_
          · intro w hSw; (try dsimp only at hSw); go_simp
          try simp only [Act.put, List.setIfInBounds_toArray, List.set_cons_zero, List.set_cons_succ]
          refine wpAnyH_takeL (i := 9) (d := some 19) (v := .bool true) rfl rfl (by kernel_rfl) (by kernel_rfl) (by kernel_rfl) (fun _ _ _ h => h) (Or.inl ⟨by rfl, ?_⟩) hHeld ?_
          · intro w hSw; (try dsimp only at hSw); go_simp
          try simp only [Act.put, List.setIfInBounds_toArray, List.set_cons_zero, List.set_cons_succ]
          refine wpAnyH_takeL (i := 10) (d := some 20) (v := .slice (some ⟨g, off, none⟩) n q) rfl rfl (by kernel_rfl) (by kernel_rfl) (by kernel_rfl) (fun _ _ _ h => h) (Or.inl ⟨by rfl, ?_⟩) hHeld ?_
          · intro w hSw; (try dsimp only at hSw); go_simp
          try simp only [Act.put, List.setIfInBounds_toArray, List.set_cons_zero, List.set_cons_succ]
          refine wpAnyH_takeL (i := 11) (d := some 21) (v := .int .i64 (k : Int)) rfl rfl (by kernel_rfl) (by kernel_rfl) (by kernel_rfl) (fun _ _ _ h => h) (Or.inl ⟨by rfl, ?_⟩) hHeld ?_
          · intro w hSw; (try dsimp only at hSw); go_simp
          try simp only [Act.put, List.setIfInBounds_toArray, List.set_cons_zero, List.set_cons_succ]
          refine wpAnyH_takeL (i := 12) (d := some 22) (v := .int .i64 (p : Int)) rfl rfl (by kernel_rfl) (by kernel_rfl) (by kernel_rfl) (fun _ _ _ h => h) (Or.inl ⟨by rfl, ?_⟩) hHeld ?_
          · intro w hSw; (try dsimp only at hSw); go_simp
          try simp only [Act.put, List.setIfInBounds_toArray, List.set_cons_zero, List.set_cons_succ]
          refine wpAnyH_takeL (i := 13) (d := some 23) (v := .pointer (some ⟨g, off + p * 2, none⟩)) rfl rfl (by kernel_rfl) (by kernel_rfl) (by kernel_rfl) (fun _ _ _ h => h) (Or.inl ⟨by rfl, ?_⟩) hHeld ?_
          · intro w hSw; (try dsimp only at hSw); go_simp
          try simp only [Act.put, List.setIfInBounds_toArray, List.set_cons_zero, List.set_cons_succ]
          refine wpAnyH_takeL (i := 14) (d := some 24) (v := .pointer (some ⟨g, off + p * 2, none⟩)) rfl rfl (by kernel_rfl) (by kernel_rfl) (by kernel_rfl) (fun _ _ _ h => h) (Or.inl ⟨by rfl, ?_⟩) hHeld ?_
          · intro w hSw; (try dsimp only at hSw); go_simp
          try simp only [Act.put, List.setIfInBounds_toArray, List.set_cons_zero, List.set_cons_succ]
          refine wpAnyH_takeL (i := 15) (d := some 25) (v := .int .i64 y.tx) rfl rfl (by kernel_rfl) (by kernel_rfl) (by kernel_rfl) (fun _ _ _ h => h) (Or.inl ⟨by rfl, ?_⟩) hHeld ?_
          · intro w hSw; have hcc : w.cell? ⟨g, off + p * 2, none⟩ = some (.int .i64 y.tx) := RR.elemAt hSw.rr hyp rfl 0 _ rfl; go_simp
          try simp only [Act.put, List.setIfInBounds_toArray, List.set_cons_zero, List.set_cons_succ]
          refine wpAnyH_takeL (i := 16) (d := some 26) (v := .slice (some ⟨g, off, none⟩) n q) rfl rfl (by kernel_rfl) (by kernel_rfl) (by kernel_rfl) (fun _ _ _ h => h) (Or.inl ⟨by rfl, ?_⟩) hHeld ?_
          · intro w hSw; (try dsimp only at hSw); go_simp
          try simp only [Act.put, List.setIfInBounds_toArray, List.set_cons_zero, List.set_cons_succ]
          refine wpAnyH_takeL (i := 17) (d := some 27) (v := .int .i64 (k : Int)) rfl rfl (by kernel_rfl) (by kernel_rfl) (by kernel_rfl) (fun _ _ _ h => h) (Or.inl ⟨by rfl, ?_⟩) hHeld ?_
          · intro w hSw; (try dsimp only at hSw); go_simp
          try simp only [Act.put, List.setIfInBounds_toArray, List.set_cons_zero, List.set_cons_succ]
          refine wpAnyH_takeL (i := 18) (d := some 28) (v := .pointer (some ⟨g, off + k * 2, none⟩)) rfl rfl (by kernel_rfl) (by kernel_rfl) (by kernel_rfl) (fun _ _ _ h => h) (Or.inl ⟨by rfl, ?_⟩) hHeld ?_
          · intro w hSw; (try dsimp only at hSw); go_simp
          try simp only [Act.put, List.setIfInBounds_toArray, List.set_cons_zero, List.set_cons_succ]
          refine wpAnyH_takeL (i := 19) (d := some 29) (v := .pointer (some ⟨g, off + k * 2, none⟩)) rfl rfl (by kernel_rfl) (by kernel_rfl) (by kernel_rfl) (fun _ _ _ h => h) (Or.inl ⟨by rfl, ?_⟩) hHeld ?_
          · intro w hSw; (try dsimp only at hSw); go_simp
          try simp only [Act.put, List.setIfInBounds_toArray, List.set_cons_zero, List.set_cons_succ]
          refine wpAnyH_takeL (i := 20) (d := some 30) (v := .int .i64 x.tx) rfl rfl (by kernel_rfl) (by kernel_rfl) (by kernel_rfl) (fun _ _ _ h => h) (Or.inl ⟨by rfl, ?_⟩) hHeld ?_
          · intro w hSw; have hcc : w.cell? ⟨g, off + k * 2, none⟩ = some (.int .i64 x.tx) := RR.elemAt hSw.rr hxk rfl 0 _ rfl; go_simp
          try simp only [Act.put, List.setIfInBounds_toArray, List.set_cons_zero, List.set_cons_succ]
          refine wpAnyH_takeL (i := 21) (d := some 31) (v := .bool false) rfl rfl (by kernel_rfl) (by kernel_rfl) (by kernel_rfl) (fun _ _ _ h => h) (Or.inl ⟨by rfl, ?_⟩) hHeld ?_
          · intro w hSw; (try dsimp only at hSw); go_simp
          try simp only [Act.put, List.setIfInBounds_toArray, List.set_cons_zero, List.set_cons_succ]
          refine wpAnyH_takeL (i := 22) (d := some 32) (v := .bool false) rfl rfl (by kernel_rfl) (by kernel_rfl) (by kernel_rfl) (fun _ _ _ h => h) (Or.inl ⟨by rfl, ?_⟩) hHeld ?_
          · intro w hSw; (try dsimp only at hSw); go_simp
          try simp only [Act.put, List.setIfInBounds_toArray, List.set_cons_zero, List.set_cons_succ]
          refine wpAnyH_takeL (i := 23) (d := some 33) (v := .bool false) rfl rfl (by kernel_rfl) (by kernel_rfl) (by kernel_rfl) (fun _ _ _ h => h) (Or.inl ⟨by rfl, ?_⟩) hHeld ?_
          · intro w hSw; (try dsimp only at hSw); go_simp
          try simp only [Act.put, List.setIfInBounds_toArray, List.set_cons_zero, List.set_cons_succ]
          refine wpAnyH_done (by kernel_rfl) ?_ _
          go_wp2_with fail
          go_roundw
          case rel => exact ⟨k + 1, by omega, by go_num, r106_l, HN, l106⟩
          case measure => simp [intOf]; omega
        · skip
          have H := Lib.hid (show decide (RightB L) = false from decide_eq_false (not_ord hxk (fun hh => d2 (HL.out.1 hh.2))))
          have q5 : decide (x.tx ≤ y.tx) = true := by simp; omega
          have q6 : decide (y.tx ≥ x.tx) = true := by simp; omega
          clear d1 d2 HL
          go_wp2_with fail
          have y101 := Lib.hid (show (fun V : World => RL w V dcl 2 (some ⟨g, off, none⟩) n q L) wr.drew from (hx).drew)
          refine wp_region_held_drew (S := (fun V : World => RL w V dcl 2 (some ⟨g, off, none⟩) n q L)) (by kernel_rfl) y101.out (fun hHeld => ?_)
          obtain ⟨D101, hD101⟩ : ∃ V, wr.drew = V := ⟨_, rfl⟩
          have b101 : Below wr.heap.size wr D101 := by rw [← hD101]; exact le_dr (Below.refl _ _)
          rw [hD101] at hHeld ⊢
          clear hD101
          have r103_l := (hx).on b101
          have l103 := le_tr hw b101
          clear hx hw
          clear b101
          refine wpAnyH_takeL (i := 0) (d := some 10) (v := .slice (some ⟨g, off, none⟩) n q) rfl rfl (by kernel_rfl) (by kernel_rfl) (by kernel_rfl) (fun _ _ _ h => h) (Or.inl ⟨by rfl, ?_⟩) hHeld ?_
          · intro w hSw; (try dsimp only at hSw); go_simp
          try simp only [Act.put, List.setIfInBounds_toArray, List.set_cons_zero, List.set_cons_succ]
          refine wpAnyH_takeL (i := 1) (d := some 11) (v := .int .i64 (k : Int)) rfl rfl (by kernel_rfl) (by kernel_rfl) (by kernel_rfl) (fun _ _ _ h => h) (Or.inl ⟨by rfl, ?_⟩) hHeld ?_
          · intro w hSw; (try dsimp only at hSw); go_simp
          try simp only [Act.put, List.setIfInBounds_toArray, List.set_cons_zero, List.set_cons_succ]
          refine wpAnyH_takeL (i := 2) (d := some 12) (v := .pointer (some ⟨g, off + k * 2, none⟩)) rfl rfl (by kernel_rfl) (by kernel_rfl) (by kernel_rfl) (fun _ _ _ h => h) (Or.inl ⟨by rfl, ?_⟩) hHeld ?_
          · intro w hSw; (try dsimp only at hSw); go_simp
          try simp only [Act.put, List.setIfInBounds_toArray, List.set_cons_zero, List.set_cons_succ]
          refine wpAnyH_takeL (i := 3) (d := some 13) (v := .agg (btA x)) rfl rfl (by kernel_rfl) (by kernel_rfl) (by kernel_rfl) (fun _ _ _ h => h) (Or.inl ⟨by rfl, ?_⟩) hHeld ?_
          · intro w hSw; exact yl_elem 42 _ g (off + k * 2) (btA x) rfl (RR.elemAt hSw.rr hxk rfl) Try.underlying42 rfl Try.zBr
          try simp only [Act.put, List.setIfInBounds_toArray, List.set_cons_zero, List.set_cons_succ]
          refine wpAnyH_ready (rs := [4]) (by kernel_rfl) (by simp) ?_
          refine AllReadyH.cons rfl (fun K hK => ?_) AllReadyH.nil
          go_simp
          (with_reducible refine (CM _).mono ?_)
          rintro e u104 ⟨rfl, b104⟩
          have r106_l := (r103_l).on b104
          have l106 := le_tr l103 b104
          clear r103_l l103
          clear b104
          go_wp2_with fail
          have y107 := Lib.hid (show (fun V : World => RL w V dcl 2 (some ⟨g, off, none⟩) n q L) u104 from r106_l)
          refine hK.out _ _ y107.out (fun hHeld => ?_)
          clear hK K y107
          try simp only [Act.put, List.setIfInBounds_toArray, List.set_cons_zero, List.set_cons_succ]
          refine wpAnyH_takeL (i := 5) (d := some 15) (v := .bool false) rfl rfl (by kernel_rfl) (by kernel_rfl) (by kernel_rfl) (fun _ _ _ h => h) (Or.inl ⟨by rfl, ?_⟩) hHeld ?_
          · intro w hSw; (try dsimp only at hSw); go_simp
          try simp only [Act.put, List.setIfInBounds_toArray, List.set_cons_zero, List.set_cons_succ]
          refine wpAnyH_takeL (i := 6) (d := some 16) (v := .bool false) rfl rfl (by kernel_rfl) (by kernel_rfl) (by kernel_rfl) (fun _ _ _ h => h) (Or.inl ⟨by rfl, ?_⟩) hHeld ?_
          · intro w hSw; (try dsimp only at hSw); go_simp
          try simp only [Act.put, List.setIfInBounds_toArray, List.set_cons_zero, List.set_cons_succ]
          refine wpAnyH_takeL (i := 7) (d := some 17) (v := .int .i64 (k : Int)) rfl rfl (by kernel_rfl) (by kernel_rfl) (by kernel_rfl) (fun _ _ _ h => h) (Or.inl ⟨by rfl, ?_⟩) hHeld ?_
          · intro w hSw; (try dsimp only at hSw); go_simp
          try simp only [Act.put, List.setIfInBounds_toArray, List.set_cons_zero, List.set_cons_succ]
          refine wpAnyH_takeL (i := 8) (d := some 18) (v := .bool true) rfl rfl (by kernel_rfl) (by kernel_rfl) (by kernel_rfl) (fun _ _ _ h => h) (Or.inl ⟨by rfl, ?_⟩) hHeld ?_
          · intro w hSw; (try dsimp only at hSw); go_simp
          try simp only [Act.put, List.setIfInBounds_toArray, List.set_cons_zero, List.set_cons_succ]
          refine wpAnyH_takeL (i := 9) (d := some 19) (v := .bool true) rfl rfl (by kernel_rfl) (by kernel_rfl) (by kernel_rfl) (fun _ _ _ h => h) (Or.inl ⟨by rfl, ?_⟩) hHeld ?_
          · intro w hSw; (try dsimp only at hSw); go_simp
          try simp only [Act.put, List.setIfInBounds_toArray, List.set_cons_zero, List.set_cons_succ]
          refine wpAnyH_takeL (i := 10) (d := some 20) (v := .slice (some ⟨g, off, none⟩) n q) rfl rfl (by kernel_rfl) (by kernel_rfl) (by kernel_rfl) (fun _ _ _ h => h) (Or.inl ⟨by rfl, ?_⟩) hHeld ?_
          · intro w hSw; (try dsimp only at hSw); go_simp
          try simp only [Act.put, List.setIfInBounds_toArray, List.set_cons_zero, List.set_cons_succ]
          refine wpAnyH_takeL (i := 11) (d := some 21) (v := .int .i64 (k : Int)) rfl rfl (by kernel_rfl) (by kernel_rfl) (by kernel_rfl) (fun _ _ _ h => h) (Or.inl ⟨by rfl, ?_⟩) hHeld ?_
          · intro w hSw; (try dsimp only at hSw); go_simp
          try simp only [Act.put, List.setIfInBounds_toArray, List.set_cons_zero, List.set_cons_succ]
          refine wpAnyH_takeL (i := 12) (d := some 22) (v := .int .i64 (p : Int)) rfl rfl (by kernel_rfl) (by kernel_rfl) (by kernel_rfl) (fun _ _ _ h => h) (Or.inl ⟨by rfl, ?_⟩) hHeld ?_
          · intro w hSw; (try dsimp only at hSw); go_simp
          try simp only [Act.put, List.setIfInBounds_toArray, List.set_cons_zero, List.set_cons_succ]
          refine wpAnyH_takeL (i := 13) (d := some 23) (v := .pointer (some ⟨g, off + p * 2, none⟩)) rfl rfl (by kernel_rfl) (by kernel_rfl) (by kernel_rfl) (fun _ _ _ h => h) (Or.inl ⟨by rfl, ?_⟩) hHeld ?_
          · intro w hSw; (try dsimp only at hSw); go_simp
          try simp only [Act.put, List.setIfInBounds_toArray, List.set_cons_zero, List.set_cons_succ]
          refine wpAnyH_takeL (i := 14) (d := some 24) (v := .pointer (some ⟨g, off + p * 2, none⟩)) rfl rfl (by kernel_rfl) (by kernel_rfl) (by kernel_rfl) (fun _ _ _ h => h) (Or.inl ⟨by rfl, ?_⟩) hHeld ?_
          · intro w hSw; (try dsimp only at hSw); go_simp
          try simp only [Act.put, List.setIfInBounds_toArray, List.set_cons_zero, List.set_cons_succ]
          refine wpAnyH_takeL (i := 15) (d := some 25) (v := .int .i64 y.tx) rfl rfl (by kernel_rfl) (by kernel_rfl) (by kernel_rfl) (fun _ _ _ h => h) (Or.inl ⟨by rfl, ?_⟩) hHeld ?_
          · intro w hSw; have hcc : w.cell? ⟨g, off + p * 2, none⟩ = some (.int .i64 y.tx) := RR.elemAt hSw.rr hyp rfl 0 _ rfl; go_simp
          try simp only [Act.put, List.setIfInBounds_toArray, List.set_cons_zero, List.set_cons_succ]
          refine wpAnyH_takeL (i := 16) (d := some 26) (v := .slice (some ⟨g, off, none⟩) n q) rfl rfl (by kernel_rfl) (by kernel_rfl) (by kernel_rfl) (fun _ _ _ h => h) (Or.inl ⟨by rfl, ?_⟩) hHeld ?_
          · intro w hSw; (try dsimp only at hSw); go_simp
          try simp only [Act.put, List.setIfInBounds_toArray, List.set_cons_zero, List.set_cons_succ]
          refine wpAnyH_takeL (i := 17) (d := some 27) (v := .int .i64 (k : Int)) rfl rfl (by kernel_rfl) (by kernel_rfl) (by kernel_rfl) (fun _ _ _ h => h) (Or.inl ⟨by rfl, ?_⟩) hHeld ?_
          · intro w hSw; (try dsimp only at hSw); go_simp
          try simp only [Act.put, List.setIfInBounds_toArray, List.set_cons_zero, List.set_cons_succ]
          refine wpAnyH_takeL (i := 18) (d := some 28) (v := .pointer (some ⟨g, off + k * 2, none⟩)) rfl rfl (by kernel_rfl) (by kernel_rfl) (by kernel_rfl) (fun _ _ _ h => h) (Or.inl ⟨by rfl, ?_⟩) hHeld ?_
          · intro w hSw; (try dsimp only at hSw); go_simp
          try simp only [Act.put, List.setIfInBounds_toArray, List.set_cons_zero, List.set_cons_succ]
          refine wpAnyH_takeL (i := 19) (d := some 29) (v := .pointer (some ⟨g, off + k * 2, none⟩)) rfl rfl (by kernel_rfl) (by kernel_rfl) (by kernel_rfl) (fun _ _ _ h => h) (Or.inl ⟨by rfl, ?_⟩) hHeld ?_
          · intro w hSw; (try dsimp only at hSw); go_simp
          try simp only [Act.put, List.setIfInBounds_toArray, List.set_cons_zero, List.set_cons_succ]
          refine wpAnyH_takeL (i := 20) (d := some 30) (v := .int .i64 x.tx) rfl rfl (by kernel_rfl) (by kernel_rfl) (by kernel_rfl) (fun _ _ _ h => h) (Or.inl ⟨by rfl, ?_⟩) hHeld ?_
          · intro w hSw; have hcc : w.cell? ⟨g, off + k * 2, none⟩ = some (.int .i64 x.tx) := RR.elemAt hSw.rr hxk rfl 0 _ rfl; go_simp
          try simp only [Act.put, List.setIfInBounds_toArray, List.set_cons_zero, List.set_cons_succ]
          refine wpAnyH_takeL (i := 21) (d := some 31) (v := .bool true) rfl rfl (by kernel_rfl) (by kernel_rfl) (by kernel_rfl) (fun _ _ _ h => h) (Or.inl ⟨by rfl, ?_⟩) hHeld ?_
          · intro w hSw; (try dsimp only at hSw); go_simp
          try simp only [Act.put, List.setIfInBounds_toArray, List.set_cons_zero, List.set_cons_succ]
          refine wpAnyH_takeL (i := 22) (d := some 32) (v := .bool true) rfl rfl (by kernel_rfl) (by kernel_rfl) (by kernel_rfl) (fun _ _ _ h => h) (Or.inl ⟨by rfl, ?_⟩) hHeld ?_
          · intro w hSw; (try dsimp only at hSw); go_simp
          try simp only [Act.put, List.setIfInBounds_toArray, List.set_cons_zero, List.set_cons_succ]
          refine wpAnyH_takeL (i := 23) (d := some 33) (v := .bool true) rfl rfl (by kernel_rfl) (by kernel_rfl) (by kernel_rfl) (fun _ _ _ h => h) (Or.inl ⟨by rfl, ?_⟩) hHeld ?_
          · intro w hSw; (try dsimp only at hSw); go_simp
          try simp only [Act.put, List.setIfInBounds_toArray, List.set_cons_zero, List.set_cons_succ]
          refine wpAnyH_done (by kernel_rfl) ?_ _
          go_wp2_with fail
          go_ret
          exact ⟨ret_bool H.out.symm, l106⟩
    · skip
      obtain rfl : k = n := by omega
      have HO := Lib.hid (show OrdB L from (by have := HR.out; rwa [List.take_of_length_le (by rw [hlen.out]; exact Nat.le_refl _)] at this))
      have g1 : ¬ ((k : Int) < k) := by omega
      have H := Lib.hid (show decide (RightB L) = decide ((k : Int) ≤ 50) from by rw [Bool.eq_iff_iff, decide_eq_true_iff, decide_eq_true_iff, right_ord, hlen.out]; exact ⟨fun hh => by have := hh.1; omega, fun hh => ⟨by omega, HO.out⟩⟩)
      clear hlt
      go_wp2_with fail
      go_ret
      exact ⟨ret_bool H.out.symm, hw⟩
end Go.Proofs.Ytfdboahcaiolgaa
