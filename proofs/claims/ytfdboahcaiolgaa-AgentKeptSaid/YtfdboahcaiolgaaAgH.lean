/-
  slices.Insert at ballots, agent.put. Conditions: the ballots can be read and have no room behind them.
-/
import Derived.Test.YtfdboahcaiolgaaAgG
set_option linter.unusedVariables false
set_option linter.unusedSimpArgs false
namespace Go.Proofs.Ytfdboahcaiolgaa
open Go.RowKit
open Dk (Nt InN RightN BoundN MsgN NoMsg KindN EpN bound_n)


/-- The cells of a list into which one thing was put. -/
theorem ins_cells {α : Type} {P Z B D : List α} {i m n : Nat} (hP : P.length = i * 2) (hZ : Z.length = m * 2) (hB : B.length = 2) (hD : D.length = (n - i) * 2) (him : i + m = n + 1) (hin : i < n) :
    (((P ++ Z).take (i * 2) ++ B ++ (P ++ Z).drop ((i + 1) * 2)).take ((i + 1) * 2) ++ D ++ ((P ++ Z).take (i * 2) ++ B ++ (P ++ Z).drop ((i + 1) * 2)).drop ((i + 1 + (n - i)) * 2)) = P ++ B ++ D := by
  have e1 : (P ++ Z).take (i * 2) = P := by rw [← hP]; exact List.take_left
  have hl : (P ++ Z).length = (n + 1) * 2 := by rw [List.length_append, hP, hZ]; omega
  rw [e1]
  have e2 : (P ++ B ++ (P ++ Z).drop ((i + 1) * 2)).take ((i + 1) * 2) = P ++ B := by
    rw [show (i + 1) * 2 = (P ++ B).length by rw [List.length_append, hP, hB]; omega]
    exact List.take_left
  have e3 : (P ++ B ++ (P ++ Z).drop ((i + 1) * 2)).drop ((i + 1 + (n - i)) * 2) = [] := by
    apply List.drop_eq_nil_of_le
    rw [List.length_append, List.length_append, List.length_drop, hl, hP, hB]
    omega
  rw [e2, e3, List.append_nil]
theorem rc_ins (L : List Bl) (b : Bl) (i : Nat) : rc dcl (L.take i) ++ rc dcl [b] ++ rc dcl (L.drop i) = rc dcl (L.take i ++ b :: L.drop i) := by
  rw [rc_append, rc_cons]; simp [rc]
theorem ins_end (L : List Bl) (b : Bl) : L.take L.length ++ b :: L.drop L.length = L ++ [b] := by simp
theorem src_of {W : World} {A : Option Addr} {n q : Nat} {L : List Bl} (h : RR W dcl 2 A n q L) : Src W 2 A n (rc dcl L) := h.src
set_option maxRecDepth 100000 in
set_option maxHeartbeats 4000000 in
theorem insert_c (A : Option Addr) (n i : Nat) (L : List Bl) (b : Bl) (gv : Nat) (w : World) (h : RS w 49 dcl 2 A n n L) (hv : CB w gv 49 (btA b)) (hi : i ≤ n) (hn : n ≤ 1000000) : Calls Try.prog 66 #[.slice A n n, .int .i64 (i : Int), .slice (some ⟨gv, 0, none⟩) 1 1] w (RPost w 49 dcl 2 (L.take i ++ b :: L.drop i)) := by
  obtain ⟨i0, hi0, hz0, hz1, hz2⟩ := parts_of Try.infoBc
  have hlen := h.len
  have hsv : Src w 2 (some ⟨gv, 0, none⟩) 1 (rc dcl [b]) := by have := Src.box hv (s := 2) rfl; exact this
  obtain ⟨G, hG⟩ := h
  have hcut0 := fun V => run_cut_from (P := Try.prog) 27 49 Try.underlying27 2 Try.sizeOf49 A n n i hi V
  obtain ⟨A3, hA3⟩ : ∃ A3, (if n = i then A else A.map (·.add (i * 2))) = A3 := ⟨_, rfl⟩
  rw [hA3] at hcut0
  by_cases hin : i = n
  · subst hin
    obtain ⟨A', c', G', w1, hrun, hs, hb, hhi⟩ := run_append_full (P := Try.prog) w 27 27 49 i0 _ 2 16 Try.underlying27 hi0 hz0 hz1 hz2 rfl (by decide) hG 1 hsv (rc_one (c := dcl) 2 [b]) (by decide) (by omega) (by simp only [maxLen]; omega) (by omega)
    have H := Lib.hid (show RPost w 49 dcl 2 (L.take i ++ b :: L.drop i) (.returned (.slice A' (i + 1) c')) w1 from ⟨A', i + 1, c', rfl, ⟨G', by have e := ins_end L b; rw [hlen] at e; rw [e, rc_append]; exact hs⟩, hb⟩)
    have hru := Lib.hid hrun
    have q1 : ((i : Int) == (i : Int)) = true := by simp
    clear hrun hs hb hhi hG hsv hA3 hv hlen hn hi
    go_enter Try.func66, Try.ntmps66
    go_wp2_with ((with_reducible refine st_apprun _ _ 27 27 _ _ _ _ ?_ ?_ hru.out ?_); exact rfl; exact rfl)
    refine ⟨?_⟩
    go_wp2_with fail
    go_ret
    exact H.out
  · have hlt : i < n := by omega
    obtain ⟨m, hm⟩ : ∃ m, n + 1 - i = m := ⟨_, rfl⟩
    have him : i + m = n + 1 := by omega
    have hm0 : 0 < m := by omega
    obtain ⟨A1, c1, G1, w1, hrun, hs1, hb1, hhi⟩ := run_append_zeros_full (P := Try.prog) w 27 3 27 49 i0 _ 2 16 Try.underlying27 Try.underlying3 hi0 hz0 hz1 hz2 rfl (by decide) (hG.upto hi) m hm0 (by omega) (by simp only [maxLen]; omega) (by omega)
    rw [him] at hrun hs1
    have hcut1 := fun V => run_cut_from (P := Try.prog) 27 49 Try.underlying27 2 Try.sizeOf49 A1 (n + 1) c1 i (by omega) V
    have hcut2 := fun V => run_cut_from (P := Try.prog) 27 49 Try.underlying27 2 Try.sizeOf49 A1 (n + 1) c1 (i + 1) (by omega) V
    obtain ⟨w2, hr2, hs2, hg2⟩ := run_copy_into (P := Try.prog) w1 27 49 i0 2 Try.underlying27 hi0 hz1 hs1 i 1 (by decide) (by omega) (As := some ⟨gv, 0, none⟩) (hsv.on hb1) (rc_one (c := dcl) 2 [b])
    have hb2 : Below w.heap.size w w2.drew := (hb1.grown hg2 hb1.size hhi).drew
    have hs2 := hs2.drew
    obtain ⟨D, hD⟩ : ∃ D, w2.drew = D := ⟨_, rfl⟩
    rw [hD] at hb2 hs2
    have hcA := (RR.of_seg hG).cut hi
    rw [hA3] at hcA
    obtain ⟨w3, hr3, hs3, hg3⟩ := run_copy_into (P := Try.prog) D 27 49 i0 2 Try.underlying27 hi0 hz1 hs2 (i + 1) (n - i) (by omega) (by omega) (As := A3) ((hcA.on hb2).src) (rc_one (c := dcl) 2 _)
    have hb3 : Below w.heap.size w w3 := hb2.grown hg3 hb2.size hhi
    have hzl : (Builtin.zeroCells (Value.agg #[.int .i64 0, .int .i64 0]).cells m).toList.length = m * 2 := by rw [Array.length_toList, size_zeroCells]; rfl
    have H := Lib.hid (show RPost w 49 dcl 2 (L.take i ++ b :: L.drop i) (.returned (.slice A1 (n + 1) c1)) w3 from ⟨A1, n + 1, c1, rfl, ⟨G1, by
      have e := ins_cells (P := (rc dcl L).take (i * 2)) (Z := (Builtin.zeroCells (Value.agg #[.int .i64 0, .int .i64 0]).cells m).toList) (B := rc dcl [b]) (D := rc dcl (L.drop i)) (i := i) (n := n) (by rw [List.length_take, rc_length 2, hlen]; omega) hzl (by rw [rc_length 2]; rfl) (show (rc dcl (L.drop i)).length = (n - i) * 2 by rw [rc_length 2, List.length_drop, hlen]) him hlt
      rw [e, rc_take 2, rc_ins] at hs3
      exact hs3⟩, hb3⟩)
    obtain ⟨B1, hB1⟩ : ∃ B1, (if c1 = i then A1 else A1.map (·.add (i * 2))) = B1 := ⟨_, rfl⟩
    obtain ⟨B2, hB2⟩ : ∃ B2, (if c1 = i + 1 then A1 else A1.map (·.add ((i + 1) * 2))) = B2 := ⟨_, rfl⟩
    have hr2' := Lib.hid (fun ty m1 m2 => hr2 ty m1 m2)
    have hr3' := Lib.hid (fun ty m1 m2 => hr3 ty m1 m2)
    rw [hB1] at hcut1 hr2'
    rw [hB2] at hcut2 hr3'
    rw [show n + 1 - i = m from hm] at hcut1 hr2'
    rw [show n + 1 - (i + 1) = n - i by omega] at hcut2 hr3'
    rw [show ((i + 1 : Nat) : Int) = (i : Int) + 1 by omega] at hcut2
    have hru := Lib.hid hrun
    have hcutU := fun V => run_cut_upto (P := Try.prog) 27 49 Try.underlying27 2 Try.sizeOf49 A n n i (by omega) V
    have q1 : ((i : Int) == (n : Int)) = false := by simp; omega
    have z1 : (n : Int) + 1 = ((n + 1 : Nat) : Int) := by omega
    have e1 : (n : Int) + 1 - (i : Int) = (m : Int) := by omega
    have e2 : IntKind.i64.wrap ((n : Int) + 1) = (n : Int) + 1 := IntWalk.i64_in _ (by omega)
    have e3 : IntKind.i64.wrap ((n : Int) + 1 - (i : Int)) = (m : Int) := by rw [e1]; exact IntWalk.i64_in _ (by omega)
    have e4 : (i : Int) + 1 = ((i + 1 : Nat) : Int) := by omega
    have e5 : IntKind.i64.wrap ((i : Int) + 1) = ((i + 1 : Nat) : Int) := by rw [← e4]; exact IntWalk.i64_in _ (by omega)
    have E1 := Lib.hid e1
    have E4 := Lib.hid e4
    have g0 : decide ((n : Int) < (n : Int) + 1) = true := by simp; omega
    have g2 : decide ((n : Int) + 1 > (n : Int)) = true := by simp; omega
    clear hr2 hr3 hrun hs1 hs2 hs3 hg2 hg3 hb1 hb2 hb3 hB1 hB2 hhi hG hsv hA3 hv hlen hcA hzl hm him e1 e4 z1
    go_enter Try.func66, Try.ntmps66
    go_wp2_with ((with_reducible refine st_apprun _ _ 27 3 _ _ _ _ ?_ ?_ hru.out ?_); exact rfl; exact rfl)
    refine ⟨?_⟩
    have hc2 := hr2'.out 3 (c1 - i) 1
    go_wp2_with fail
    clear hc2
    refine wp_region_held_drew (S := fun _ : World => True) (by kernel_rfl) trivial (fun hHeld => ?_)
    rw [hD]
    refine wpAnyH_takeL (i := 0) (d := some 46) (v := .slice A1 (n + 1) c1) rfl rfl (by kernel_rfl) (by kernel_rfl) (by kernel_rfl) (fun _ _ _ h => h) (Or.inl ⟨by rfl, ?_⟩) hHeld ?_
    · intro w hSw; (try dsimp only at hSw); go_simp
    try simp only [Act.put, List.setIfInBounds_toArray, List.set_cons_zero, List.set_cons_succ]
    refine wpAnyH_takeL (i := 1) (d := some 47) (v := .int .i64 (i : Int)) rfl rfl (by kernel_rfl) (by kernel_rfl) (by kernel_rfl) (fun _ _ _ h => h) (Or.inl ⟨by rfl, ?_⟩) hHeld ?_
    · intro w hSw; (try dsimp only at hSw); go_simp
    try simp only [Act.put, List.setIfInBounds_toArray, List.set_cons_zero, List.set_cons_succ]
    refine wpAnyH_takeL (i := 2) (d := some 48) (v := .int .i64 1) rfl rfl (by kernel_rfl) (by kernel_rfl) (by kernel_rfl) (fun _ _ _ h => h) (Or.inl ⟨by rfl, ?_⟩) hHeld ?_
    · intro w hSw; (try dsimp only at hSw); go_simp
    try simp only [Act.put, List.setIfInBounds_toArray, List.set_cons_zero, List.set_cons_succ]
    refine wpAnyH_takeL (i := 3) (d := some 49) (v := .int .i64 ((i : Int) + 1)) rfl rfl (by kernel_rfl) (by kernel_rfl) (by kernel_rfl) (fun _ _ _ h => h) (Or.inl ⟨by rfl, ?_⟩) hHeld ?_
    · intro w hSw; (try dsimp only at hSw); go_simp
    try simp only [Act.put, List.setIfInBounds_toArray, List.set_cons_zero, List.set_cons_succ]
    refine wpAnyH_takeL (i := 4) (d := some 50) (v := .slice B2 (n - i) (c1 - (i + 1))) rfl rfl (by kernel_rfl) (by kernel_rfl) (by kernel_rfl) (fun _ _ _ h => h) (Or.inl ⟨by rfl, ?_⟩) hHeld ?_
    · intro w hSw; (try dsimp only at hSw); go_simp
    try simp only [Act.put, List.setIfInBounds_toArray, List.set_cons_zero, List.set_cons_succ]
    refine wpAnyH_takeL (i := 5) (d := some 51) (v := .slice A n n) rfl rfl (by kernel_rfl) (by kernel_rfl) (by kernel_rfl) (fun _ _ _ h => h) (Or.inl ⟨by rfl, ?_⟩) hHeld ?_
    · intro w hSw; (try dsimp only at hSw); go_simp
    try simp only [Act.put, List.setIfInBounds_toArray, List.set_cons_zero, List.set_cons_succ]
    refine wpAnyH_takeL (i := 6) (d := some 52) (v := .int .i64 (i : Int)) rfl rfl (by kernel_rfl) (by kernel_rfl) (by kernel_rfl) (fun _ _ _ h => h) (Or.inl ⟨by rfl, ?_⟩) hHeld ?_
    · intro w hSw; (try dsimp only at hSw); go_simp
    try simp only [Act.put, List.setIfInBounds_toArray, List.set_cons_zero, List.set_cons_succ]
    refine wpAnyH_takeL (i := 7) (d := some 53) (v := .slice A3 (n - i) (n - i)) rfl rfl (by kernel_rfl) (by kernel_rfl) (by kernel_rfl) (fun _ _ _ h => h) (Or.inl ⟨by rfl, ?_⟩) hHeld ?_
    · intro w hSw; (try dsimp only at hSw); go_simp
    try simp only [Act.put, List.setIfInBounds_toArray, List.set_cons_zero, List.set_cons_succ]
    refine wpAnyH_ready (rs := [8]) (by kernel_rfl) (by simp) ?_
    refine AllReadyH.cons rfl (fun K hK => ?_) AllReadyH.nil
    refine rd_copyrun rfl (.tmp 50) (.tmp 53) 27 rfl (some 54) rfl (.slice B2 (n - i) (c1 - (i + 1))) (.slice A3 (n - i) (n - i)) _ _ rfl rfl (fun ty => hr3'.out ty _ _) ?_
    refine ⟨?_⟩
    refine hK.out _ _ trivial (fun hHeld => ?_)
    clear hK K
    try simp only [Act.put, List.setIfInBounds_toArray, List.set_cons_zero, List.set_cons_succ]
    refine wpAnyH_done (by kernel_rfl) ?_ _
    go_wp2_with fail
    go_ret
    exact H.out
theorem right_srt {L : List Bl} (h : RightB L) : SrtB L := h.2.2
def putL (L : List Bl) (b : Bl) : List Bl := if ePu L b = 0 then insB L b else []
theorem putL_ok {L M : List Bl} {b : Bl} (h : ePu L b = 0) (hm : insB L b = M) : putL L b = M := by unfold putL; rw [if_pos h, hm]
theorem putL_no {L : List Bl} {b : Bl} {k : Nat} (h : ePu L b = k) (hk : ¬ k = 0) : putL L b = [] := by unfold putL; rw [if_neg (by omega)]
theorem ePu_has {L : List Bl} {b : Bl} {v : Int} (h : valB L b.tx = some v) : ePu L b = if v = b.vt then 0 else 8 := by unfold ePu; rw [h]
theorem ePu_none {L : List Bl} {b : Bl} (h : valB L b.tx = none) : ePu L b = if 50 ≤ L.length then 6 else 0 := by unfold ePu; rw [h]
theorem LPostB.mk_ {w w' : World} {T : TypeId} {L M : List Bl} {b : Bl} {k : Nat} {A : Option Addr} {n q : Nat} (hk : ePu L b = k) (hm : putL L b = M) (hr : RS w' T dcl 2 A n q M) (hb : Below w.heap.size w w') : LPostB w T (putL L b) (ePu L b) (.returned (.tuple #[.slice A n q, .int .i64 (k : Int)])) w' := by
  rw [hk, hm]
  exact ⟨A, n, q, rfl, hr, hb⟩
set_option maxRecDepth 100000 in
set_option maxHeartbeats 4000000 in
theorem put_c (A : Option Addr) (n : Nat) (L : List Bl) (b : Bl) (w : World) (h : RS w 49 dcl 2 A n n L) (hr : RightB L) : Calls Try.prog 40 #[.slice A n n, .agg (btA b)] w (LPostB w 49 (putL L b) (ePu L b)) := by
  have hlen := Lib.hid h.len
  have HR := Lib.hid hr
  have hn : n ≤ 50 := by have := hr.1; have := h.len; omega
  clear hr
  go_enter Try.func40, Try.ntmps40
  go_wp2_with (first | ((with_reducible refine st_box 49 _ (btA b) ?_ ?_); exact rfl))
  refine ⟨fun V1 g1 n1 f1 => ?_⟩
  have up1 : w.heap.size ≤ g1 := Nat.le_of_eq f1.at_
  have bl1 := f1.bel
  clear f1
  have r3_l := (h).on bl1
  have l3 := le_tr (Below.refl _ _) bl1
  clear h
  clear bl1
  go_wp2_with (first | ((with_reducible refine st_load 49 _ g1 ?_ n1 Try.underlying49 ?_ ?_ ?_); exact rfl; exact rfl; exact Try.zBc))
  (with_reducible refine (search_c A n n L b _ (RS.rr r3_l) (right_srt HR.out) (by omega)).mono ?_)
  rintro e w4 ⟨i, B, rfl, hA, hB, b4⟩
  have r6_b := le_on n1 b4
  have r6_l := (r3_l).on b4
  have l6 := le_tr l3 b4
  clear n1 r3_l l3
  clear b4
  have HA := Lib.hid hA
  have hcase : (B = true ∧ ∃ x, L[i]? = some x ∧ x.tx = b.tx) ∨ (B = false ∧ ∀ x, L[i]? = some x → ¬ x.tx = b.tx) := by
    cases B with
    | true => exact .inl ⟨rfl, hB.1 rfl⟩
    | false => exact .inr ⟨rfl, fun x hx he => (by have := hB.2 ⟨x, hx, he⟩; cases this)⟩
  clear hB
  have hin : i ≤ n := by have := hA.le; have := hlen.out; omega
  clear hA
  rcases hcase with ⟨rfl, x, hxi, hxe⟩ | ⟨rfl, hno⟩
  · skip
    have hval := at_has HA.out (right_srt HR.out) hxi hxe
    have hlt : i < n := by have := (List.getElem?_eq_some_iff.1 hxi).1; have := hlen.out; omega
    have hpu := ePu_has hval
    have HX := Lib.hid hxi
    obtain ⟨g, off, hA⟩ : ∃ g off, A = some ⟨g, off, none⟩ := by obtain ⟨g, off, _, _, hA, _⟩ := (RS.rr r6_l).elem hlt; exact ⟨g, off, hA⟩
    subst hA
    by_cases hv : x.vt = b.vt
    · skip
      rw [if_pos hv] at hpu
      have HP := Lib.hid hpu
      have HL := Lib.hid (putL_ok hpu (insB_has (right_srt HR.out) hval))
      have he : eqB x b = true := by simp [eqB, hxe, hv]
      have E := fun V => eq_bc x b V
      rw [he] at E
      clear he hpu hval hv hxe hxi
      go_wp2_with fail
      have y7 := Lib.hid (show (fun V : World => CB V g1 49 (btA b) ∧ RS V 49 dcl 2 (some ⟨g, off, none⟩) n n L) w4.drew from ⟨CB.drew r6_b, (r6_l).drew⟩)
      refine wp_region_held_drew (S := (fun V : World => CB V g1 49 (btA b) ∧ RS V 49 dcl 2 (some ⟨g, off, none⟩) n n L)) (by kernel_rfl) y7.out (fun hHeld => ?_)
      obtain ⟨D7, hD7⟩ : ∃ V, w4.drew = V := ⟨_, rfl⟩
      have b7 : Below w4.heap.size w4 D7 := by rw [← hD7]; exact le_dr (Below.refl _ _)
      rw [hD7] at hHeld ⊢
      clear hD7
      have r9_b := le_on r6_b b7
      have r9_l := (r6_l).on b7
      have l9 := le_tr l6 b7
      clear r6_b r6_l l6
      clear b7
      refine wpAnyH_takeL (i := 0) (d := some 15) (v := .slice (some ⟨g, off, none⟩) n n) rfl rfl (by kernel_rfl) (by kernel_rfl) (by kernel_rfl) (fun _ _ _ h => h) (Or.inl ⟨by rfl, ?_⟩) hHeld ?_
      · intro w hSw; (try dsimp only at hSw); go_simp
      try simp only [Act.put, List.setIfInBounds_toArray, List.set_cons_zero, List.set_cons_succ]
      refine wpAnyH_takeL (i := 1) (d := some 16) (v := .int .i64 (i : Int)) rfl rfl (by kernel_rfl) (by kernel_rfl) (by kernel_rfl) (fun _ _ _ h => h) (Or.inl ⟨by rfl, ?_⟩) hHeld ?_
      · intro w hSw; (try dsimp only at hSw); go_simp
      try simp only [Act.put, List.setIfInBounds_toArray, List.set_cons_zero, List.set_cons_succ]
      refine wpAnyH_takeL (i := 2) (d := some 17) (v := .pointer (some ⟨g, off + i * 2, none⟩)) rfl rfl (by kernel_rfl) (by kernel_rfl) (by kernel_rfl) (fun _ _ _ h => h) (Or.inl ⟨by rfl, ?_⟩) hHeld ?_
      · intro w hSw; (try dsimp only at hSw); go_simp
      try simp only [Act.put, List.setIfInBounds_toArray, List.set_cons_zero, List.set_cons_succ]
      refine wpAnyH_takeL (i := 3) (d := some 18) (v := .agg (btA x)) rfl rfl (by kernel_rfl) (by kernel_rfl) (by kernel_rfl) (fun _ _ _ h => h) (Or.inl ⟨by rfl, ?_⟩) hHeld ?_
      · intro w hSw; exact yl_elem 49 _ g (off + i * 2) (btA x) rfl (RR.elemAt (RS.rr hSw.2) HX.out rfl) Try.underlying49 rfl Try.zBc
      try simp only [Act.put, List.setIfInBounds_toArray, List.set_cons_zero, List.set_cons_succ]
      refine wpAnyH_takeL (i := 4) (d := some 19) (v := .agg (btA b)) rfl rfl (by kernel_rfl) (by kernel_rfl) (by kernel_rfl) (fun _ _ _ h => h) (Or.inl ⟨by rfl, ?_⟩) hHeld ?_
      · intro w hSw; exact yl_whole 49 _ g1 rfl hSw.1 Try.underlying49 rfl Try.zBc
      try simp only [Act.put, List.setIfInBounds_toArray, List.set_cons_zero, List.set_cons_succ]
      refine wpAnyH_takeL (i := 5) (d := some 20) (v := .bool false) rfl rfl (by kernel_rfl) (by kernel_rfl) (by kernel_rfl) (fun _ _ _ h => h) (Or.inl ⟨by rfl, ?_⟩) hHeld ?_
      · intro w hSw; (try dsimp only at hSw); go_simp
      try simp only [Act.put, List.setIfInBounds_toArray, List.set_cons_zero, List.set_cons_succ]
      refine wpAnyH_done (by kernel_rfl) ?_ _
      go_wp2_with fail
      exact bodyPost_ret (v := .tuple #[.slice (some ⟨g, off, none⟩) n n, .int .i64 0]) (by simp [results, Try.results40, go_sem]) rfl (LPostB.mk_ HP.out HL.out r9_l l9)
    · skip
      rw [if_neg hv] at hpu
      have HP := Lib.hid hpu
      have HL := Lib.hid (putL_no hpu (by decide))
      have he : eqB x b = false := by simp [eqB, hv]
      have E := fun V => eq_bc x b V
      rw [he] at E
      clear he hpu hval hv hxe hxi
      go_wp2_with fail
      have y7 := Lib.hid (show (fun V : World => CB V g1 49 (btA b) ∧ RS V 49 dcl 2 (some ⟨g, off, none⟩) n n L) w4.drew from ⟨CB.drew r6_b, (r6_l).drew⟩)
      refine wp_region_held_drew (S := (fun V : World => CB V g1 49 (btA b) ∧ RS V 49 dcl 2 (some ⟨g, off, none⟩) n n L)) (by kernel_rfl) y7.out (fun hHeld => ?_)
      obtain ⟨D7, hD7⟩ : ∃ V, w4.drew = V := ⟨_, rfl⟩
      have b7 : Below w4.heap.size w4 D7 := by rw [← hD7]; exact le_dr (Below.refl _ _)
      rw [hD7] at hHeld ⊢
      clear hD7
      have r9_b := le_on r6_b b7
      have r9_l := (r6_l).on b7
      have l9 := le_tr l6 b7
      clear r6_b r6_l l6
      clear b7
      refine wpAnyH_takeL (i := 0) (d := some 15) (v := .slice (some ⟨g, off, none⟩) n n) rfl rfl (by kernel_rfl) (by kernel_rfl) (by kernel_rfl) (fun _ _ _ h => h) (Or.inl ⟨by rfl, ?_⟩) hHeld ?_
      · intro w hSw; (try dsimp only at hSw); go_simp
      try simp only [Act.put, List.setIfInBounds_toArray, List.set_cons_zero, List.set_cons_succ]
      refine wpAnyH_takeL (i := 1) (d := some 16) (v := .int .i64 (i : Int)) rfl rfl (by kernel_rfl) (by kernel_rfl) (by kernel_rfl) (fun _ _ _ h => h) (Or.inl ⟨by rfl, ?_⟩) hHeld ?_
      · intro w hSw; (try dsimp only at hSw); go_simp
      try simp only [Act.put, List.setIfInBounds_toArray, List.set_cons_zero, List.set_cons_succ]
      refine wpAnyH_takeL (i := 2) (d := some 17) (v := .pointer (some ⟨g, off + i * 2, none⟩)) rfl rfl (by kernel_rfl) (by kernel_rfl) (by kernel_rfl) (fun _ _ _ h => h) (Or.inl ⟨by rfl, ?_⟩) hHeld ?_
      · intro w hSw; (try dsimp only at hSw); go_simp
      try simp only [Act.put, List.setIfInBounds_toArray, List.set_cons_zero, List.set_cons_succ]
      refine wpAnyH_takeL (i := 3) (d := some 18) (v := .agg (btA x)) rfl rfl (by kernel_rfl) (by kernel_rfl) (by kernel_rfl) (fun _ _ _ h => h) (Or.inl ⟨by rfl, ?_⟩) hHeld ?_
      · intro w hSw; exact yl_elem 49 _ g (off + i * 2) (btA x) rfl (RR.elemAt (RS.rr hSw.2) HX.out rfl) Try.underlying49 rfl Try.zBc
      try simp only [Act.put, List.setIfInBounds_toArray, List.set_cons_zero, List.set_cons_succ]
      refine wpAnyH_takeL (i := 4) (d := some 19) (v := .agg (btA b)) rfl rfl (by kernel_rfl) (by kernel_rfl) (by kernel_rfl) (fun _ _ _ h => h) (Or.inl ⟨by rfl, ?_⟩) hHeld ?_
      · intro w hSw; exact yl_whole 49 _ g1 rfl hSw.1 Try.underlying49 rfl Try.zBc
      try simp only [Act.put, List.setIfInBounds_toArray, List.set_cons_zero, List.set_cons_succ]
      refine wpAnyH_takeL (i := 5) (d := some 20) (v := .bool true) rfl rfl (by kernel_rfl) (by kernel_rfl) (by kernel_rfl) (fun _ _ _ h => h) (Or.inl ⟨by rfl, ?_⟩) hHeld ?_
      · intro w hSw; (try dsimp only at hSw); go_simp
      try simp only [Act.put, List.setIfInBounds_toArray, List.set_cons_zero, List.set_cons_succ]
      refine wpAnyH_done (by kernel_rfl) ?_ _
      go_wp2_with fail
      exact bodyPost_ret (v := .tuple #[.slice none 0 0, .int .i64 8]) (by simp [results, Try.results40, go_sem]) rfl (LPostB.mk_ HP.out HL.out (RS.nil _ _ _ _) l9)
  · skip
    obtain ⟨hval, hins⟩ := at_no HA.out (right_srt HR.out) hno
    have hpu := ePu_none hval
    rw [hlen.out] at hpu
    clear hno hval
    by_cases h50 : 50 ≤ n
    · skip
      rw [if_pos h50] at hpu
      have HP := Lib.hid hpu
      have HL := Lib.hid (putL_no hpu (by decide))
      have q1 : ((n : Int) == 50) = true := by rw [beq_iff_eq]; omega
      clear hpu h50 hins
      go_wp2_with fail
      exact bodyPost_ret (v := .tuple #[.slice none 0 0, .int .i64 6]) (by simp [results, Try.results40, go_sem]) rfl (LPostB.mk_ HP.out HL.out (RS.nil _ _ _ _) l6)
    rw [if_neg h50] at hpu
    have HP := Lib.hid hpu
    have HL := Lib.hid (putL_ok hpu hins)
    have q1 : ((n : Int) == 50) = false := by rw [beq_eq_false_iff_ne]; omega
    clear hpu h50 hins
    go_wp2_with (first | ((with_reducible refine st_load 49 _ g1 ?_ r6_b Try.underlying49 ?_ ?_ ?_); exact rfl; exact rfl; exact Try.zBc) | ((with_reducible refine st_lit1 27 49 _ (btA b) ?_ Try.underlying27 Try.lit_bc rfl (by decide) (by decide) ?_); exact rfl))
    refine ⟨fun V7 g7 n7 f7 => ?_⟩
    have ne7_b := f7.ne r6_b
    have up7 : w.heap.size ≤ g7 := f7.up l6
    have bl7 := f7.bel
    clear f7
    have r9_b := le_on r6_b bl7
    have r9_l := (r6_l).on bl7
    have l9 := le_tr l6 bl7
    clear r6_b r6_l l6
    clear bl7
    go_wp2_with fail
    have ci := insert_c A n i L b g7 _ r9_l n7 hin (by omega)
    have lw := l9
    (with_reducible refine ci.mono ?_)
    clear ci
    rintro e w9 ⟨A9, n9, q9, rfl, h9, b9⟩
    go_wp2_with fail
    exact bodyPost_ret (v := .tuple #[.slice A9 n9 q9, .int .i64 0]) (by simp [results, Try.results40, go_sem]) rfl (LPostB.mk_ HP.out HL.out h9 (le_tr lw b9))
end Go.Proofs.Ytfdboahcaiolgaa
