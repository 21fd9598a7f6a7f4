/-
  Leases in memory; the functions of package lease but Encode and Decode: epochInRange, held, Right, Take, Give, Speaks. No condition but that the numbers are in the range of their types.
-/
import Derived.Test.YtfdboahcaiolgaaMgS
import Derived.Test.YtfdboahcaiolgaaOuts
import Derived.Test.YtfdboahcaiolgaaRows
import Derived.Test.YtfdboahcaiolgaaMgR
import Derived.Test.YtfdboahcaiolgaaMgA
import Derived.WalkKit
import Derived.WalkSpells
import Derived.WalkLawsBesides
import Derived.OwnWalk
import Derived.Laws.StructEq
import Derived.Deep.QuietTactic
import Derived.BigQuiet
import Derived.Lib.Hide
import Derived.IntWalk
import Derived.StillTailTactics
import Derived.Deep.RegionHeld3
set_option linter.unusedVariables false
set_option linter.unusedSimpArgs false
namespace Go.Proofs.Ytfdboahcaiolgaa
open Go.RowKit

/-- A lease as a value, and as cells. -/
def lv (l : Ls) : Value := .agg #[.int .i64 l.ep, .int .i64 l.st, .int .u8 l.to]
def LB (W : World) (b : Nat) (T : TypeId) (l : Ls) : Prop := CB W b T #[.int .i64 l.ep, .int .i64 l.st, .int .u8 l.to]
section
variable {W W' : World} {b : Nat} {T : TypeId} {l : Ls}
theorem LB.lt (h : LB W b T l) : b < W.heap.size := CB.lt h
theorem LB.cells (h : LB W b T l) : W.cell? ⟨b, 0, none⟩ = some (.int .i64 l.ep) ∧ W.cell? ⟨b, 1, none⟩ = some (.int .i64 l.st) ∧ W.cell? ⟨b, 2, none⟩ = some (.int .u8 l.to) :=
  ⟨CB.cell h 0, CB.cell h 1, CB.cell h 2⟩
theorem LB.froz (h : LB W b T l) : W.frozen? ⟨b, 0, none⟩ = false ∧ W.frozen? ⟨b, 1, none⟩ = false ∧ W.frozen? ⟨b, 2, none⟩ = false := ⟨CB.frozen h 0, CB.frozen h 1, CB.frozen h 2⟩
theorem LB.on (h : LB W b T l) (hb : Below W.heap.size W W') : LB W' b T l := CB.same h (hb.block _ (CB.lt h))
theorem LB.drew (h : LB W b T l) : LB W.drew b T l := h
theorem LB.drewN (h : LB W b T l) (k : Nat) : LB (W.drewN k) b T l := h
theorem LB.alloc (h : LB W b T l) (o : Obj) : LB (W.alloc o) b T l := CB.alloc h o
theorem LB.new (w : World) (T : TypeId) (l : Ls) : LB (w.alloc (.cells #[.int .i64 l.ep, .int .i64 l.st, .int .u8 l.to] T)) w.heap.size T l := CB.new _ _ _
end

/-- A lease is stored into block d: the world behind it under a name. -/
theorem ls_end {W : World} {d : Nat} {T : TypeId} {l' : Ls} (h : LB W d T l') (ep st to : Int) :
    ∃ V, ((W.setCell ⟨d, 0, none⟩ (.int .i64 ep)).setCell ⟨d, 1, none⟩ (.int .i64 st)).setCell ⟨d, 2, none⟩ (.int .u8 to) = V ∧ LB V d T ⟨ep, st, to⟩ ∧ (∀ B w, Below B w W → B ≤ d → Below B w V) ∧ (∀ b T' cs, b ≠ d → CB W b T' cs → CB V b T' cs) := by
  have h0 : CB (W.setCell ⟨d, 0, none⟩ (.int .i64 ep)) d T #[.int .i64 ep, .int .i64 l'.st, .int .u8 l'.to] := CB.put h 0 _
  have h1 : CB ((W.setCell ⟨d, 0, none⟩ (.int .i64 ep)).setCell ⟨d, 1, none⟩ (.int .i64 st)) d T #[.int .i64 ep, .int .i64 st, .int .u8 l'.to] := CB.put h0 1 _
  have h2 : CB (((W.setCell ⟨d, 0, none⟩ (.int .i64 ep)).setCell ⟨d, 1, none⟩ (.int .i64 st)).setCell ⟨d, 2, none⟩ (.int .u8 to)) d T #[.int .i64 ep, .int .i64 st, .int .u8 to] := CB.put h1 2 _
  refine ⟨_, rfl, h2, fun B w hw hB => ?_, fun b T' cs hb hc => ?_⟩
  · exact ((hw.setCell (p := ⟨d, 0, none⟩) hB _).setCell (p := ⟨d, 1, none⟩) hB _).setCell (p := ⟨d, 2, none⟩) hB _
  · exact ((hc.far (p := ⟨d, 0, none⟩) hb _).far (p := ⟨d, 1, none⟩) hb _).far (p := ⟨d, 2, none⟩) hb _

set_option maxHeartbeats 1000000 in
theorem linr_c (e : Int) (w : World) : Calls Try.prog 77 #[.int .i64 e] w fun r w' => r = .returned (.bool (inEp e)) ∧ w = w' := by
  go_enter Try.func77, Try.ntmps77
  by_cases h : 1 ≤ e
  · have H := Lib.hid (show inEp e = decide (e ≤ 1048576) by simp [inEp, h])
    go_wp2_with fail
    go_ret
    exact ⟨by rw [H.out]; rfl, rfl⟩
  · have H := Lib.hid (show inEp e = false by simp [inEp, h])
    go_wp2_with fail
    go_ret
    exact ⟨by rw [H.out]; rfl, rfl⟩

set_option maxHeartbeats 1000000 in
theorem lheld_c (e : Int) (w : World) : Calls Try.prog 78 #[.int .i64 e] w fun r w' => r = .returned (.agg #[.int .i64 e, .int .i64 1, .int .u8 0]) ∧ Below w.heap.size w w' := by
  go_enter Try.func78, Try.ntmps78
  go_wp2_with fail
  have hb := le_al w (.cells #[.int .i64 e, .int .i64 1, .int .u8 0] 43)
  obtain ⟨x0, x1, x2⟩ := (LB.new w 43 (heldL e)).cells
  simp only [heldL] at x0 x1 x2
  generalize w.alloc (.cells #[.int .i64 e, .int .i64 1, .int .u8 0] 43) = V at *
  refine bodyPost_ret (v := .agg #[.int .i64 e, .int .i64 1, .int .u8 0]) (by simp [results, Try.results78, go_sem, x0, x1, x2]) rfl ⟨rfl, hb⟩

set_option maxRecDepth 100000 in
set_option maxHeartbeats 1000000 in
theorem lright_c (ep st to : Int) (w : World) : Calls Try.prog 51 #[.agg #[.int .i64 ep, .int .i64 st, .int .u8 to]] w fun r w' => r = .returned (.bool (rightL ⟨ep, st, to⟩)) ∧ Below w.heap.size w w' := by
  obtain ⟨W, hW⟩ : ∃ W, w.alloc (.cells #[.int .i64 ep, .int .i64 st, .int .u8 to] 43) = W := ⟨_, rfl⟩
  have hp : LB W w.heap.size 43 ⟨ep, st, to⟩ := by rw [← hW]; exact LB.new w _ ⟨ep, st, to⟩
  have hb : Below w.heap.size w W := by rw [← hW]; exact le_al _ _
  have hc := hp.cells
  obtain ⟨c0, c1, c2⟩ := hp.cells
  simp only at hc c0 c1 c2
  have Hc := Lib.hid hc
  have HW := Lib.hid hW
  clear hW hc
  by_cases h0 : st = 0
  · have h0' : (st == 0) = true := by simp [h0]
    by_cases hz : ep = 0
    · have hz' : (ep == 0) = true := by simp [hz]
      by_cases ht : to = 0
      · have ht' : (to == 0) = true := by simp [ht]
        have H := Lib.hid (show rightL ⟨ep, st, to⟩ = true by simp [rightL, h0, hz, ht])
        clear h0 hz ht
        go_enter Try.func51, Try.ntmps51
        go_wp2_with fail
        rw [HW.out]
        go_wp2_with fail
        go_ret
        exact ⟨by rw [H.out]; rfl, hb⟩
      · have ht' : (to == 0) = false := by simp [ht]
        have H := Lib.hid (show rightL ⟨ep, st, to⟩ = false by simp [rightL, h0, hz, ht])
        clear h0 hz ht
        go_enter Try.func51, Try.ntmps51
        go_wp2_with fail
        rw [HW.out]
        go_wp2_with fail
        go_ret
        exact ⟨by rw [H.out]; rfl, hb⟩
    · have hz' : (ep == 0) = false := by simp [hz]
      have H := Lib.hid (show rightL ⟨ep, st, to⟩ = false by simp [rightL, h0, hz])
      clear h0 hz
      go_enter Try.func51, Try.ntmps51
      go_wp2_with fail
      rw [HW.out]
      go_wp2_with fail
      go_ret
      exact ⟨by rw [H.out]; rfl, hb⟩
  have h0' : (st == 0) = false := by simp [h0]
  by_cases h1 : st = 1
  · have h1' : (st == 1) = true := by simp [h1]
    cases hi : inEp ep with
    | true =>
      by_cases ht : to = 0
      · have ht' : (to == 0) = true := by simp [ht]
        have H := Lib.hid (show rightL ⟨ep, st, to⟩ = true by simp [rightL, h1, hi, ht])
        have Hi := Lib.hid hi
        clear h0 h1 hi ht
        go_enter Try.func51, Try.ntmps51
        go_wp2_with fail
        rw [HW.out]
        go_region_held3 (fun W' => W'.cell? ⟨w.heap.size, 0, none⟩ = some (.int .i64 ep) ∧ W'.cell? ⟨w.heap.size, 1, none⟩ = some (.int .i64 st) ∧ W'.cell? ⟨w.heap.size, 2, none⟩ = some (.int .u8 to)) (first | exact Hc.out | exact y1.out) (first
          | (go_at_call 77; refine (linr_c ep _).mono ?_; rintro e w' ⟨rfl, rfl⟩; rw [Hi.out])
          | (go_at_call 78; refine (lheld_c ep _).mono ?_; rintro e w2 ⟨rfl, hb2⟩; have y1 := Lib.hid (hp.drew.on hb2).cells))
        go_wp2_with fail
        go_ret
        exact ⟨by rw [H.out]; rfl, le_tr hb (le_dr (W := W) hb2)⟩
      · have ht' : (to == 0) = false := by simp [ht]
        have H := Lib.hid (show rightL ⟨ep, st, to⟩ = false by simp [rightL, h1, hi, ht])
        have Hi := Lib.hid hi
        clear h0 h1 hi ht
        go_enter Try.func51, Try.ntmps51
        go_wp2_with fail
        rw [HW.out]
        go_region_held3 (fun W' => W'.cell? ⟨w.heap.size, 0, none⟩ = some (.int .i64 ep) ∧ W'.cell? ⟨w.heap.size, 1, none⟩ = some (.int .i64 st) ∧ W'.cell? ⟨w.heap.size, 2, none⟩ = some (.int .u8 to)) (first | exact Hc.out | exact y1.out) (first
          | (go_at_call 77; refine (linr_c ep _).mono ?_; rintro e w' ⟨rfl, rfl⟩; rw [Hi.out])
          | (go_at_call 78; refine (lheld_c ep _).mono ?_; rintro e w2 ⟨rfl, hb2⟩; have y1 := Lib.hid (hp.drew.on hb2).cells))
        go_wp2_with fail
        go_ret
        exact ⟨by rw [H.out]; rfl, le_tr hb (le_dr (W := W) hb2)⟩
    | false =>
      have H := Lib.hid (show rightL ⟨ep, st, to⟩ = false by simp [rightL, h1, hi])
      have Hi := Lib.hid hi
      clear h0 h1 hi
      go_enter Try.func51, Try.ntmps51
      go_wp2_with fail
      rw [HW.out]
      go_quiet ((go_at_call 77; exact Calls.quiet_of_same ((linr_c ep _).mono fun e w' hh => ⟨by rw [hh.1, Hi.out], hh.2.symm⟩)))
      go_wp2_with fail
      go_ret
      exact ⟨by rw [H.out]; rfl, le_dN hb⟩
  have h1' : (st == 1) = false := by simp [h1]
  by_cases h2 : st = 2
  · have h2' : (st == 2) = true := by simp [h2]
    cases hi : inEp ep with
    | true =>
      have H := Lib.hid (show rightL ⟨ep, st, to⟩ = decide (to < 8) by simp [rightL, h2, hi])
      have Hi := Lib.hid hi
      clear h0 h1 h2 hi
      go_enter Try.func51, Try.ntmps51
      go_wp2_with fail
      refine (linr_c ep _).mono ?_
      rintro e w' ⟨rfl, rfl⟩
      rw [Hi.out, HW.out]
      go_wp2_with fail
      go_ret
      exact ⟨by rw [H.out]; rfl, hb⟩
    | false =>
      have H := Lib.hid (show rightL ⟨ep, st, to⟩ = false by simp [rightL, h2, hi])
      have Hi := Lib.hid hi
      clear h0 h1 h2 hi
      go_enter Try.func51, Try.ntmps51
      go_wp2_with fail
      refine (linr_c ep _).mono ?_
      rintro e w' ⟨rfl, rfl⟩
      rw [Hi.out, HW.out]
      go_wp2_with fail
      go_ret
      exact ⟨by rw [H.out]; rfl, hb⟩
  have h2' : (st == 2) = false := by simp [h2]
  have H := Lib.hid (show rightL ⟨ep, st, to⟩ = false by simp [rightL, h0, h1, h2])
  clear h0 h1 h2
  go_enter Try.func51, Try.ntmps51
  go_wp2_with fail
  rw [HW.out]
  go_wp2_with fail
  go_ret
  exact ⟨by rw [H.out]; rfl, hb⟩

set_option maxRecDepth 100000 in
set_option maxHeartbeats 1000000 in
theorem lspeaks_c (ep st to x : Int) (w : World) : Calls Try.prog 72 #[.agg #[.int .i64 ep, .int .i64 st, .int .u8 to], .int .i64 x] w fun r w' => r = .returned (.bool (speaksL ⟨ep, st, to⟩ x)) ∧ Below w.heap.size w w' := by
  obtain ⟨W, hW⟩ : ∃ W, w.alloc (.cells #[.int .i64 ep, .int .i64 st, .int .u8 to] 43) = W := ⟨_, rfl⟩
  have hp : LB W w.heap.size 43 ⟨ep, st, to⟩ := by rw [← hW]; exact LB.new w _ ⟨ep, st, to⟩
  have hb : Below w.heap.size w W := by rw [← hW]; exact le_al _ _
  have hc := hp.cells
  obtain ⟨c0, c1, c2⟩ := hp.cells
  simp only at hc c0 c1 c2
  have Hc := Lib.hid hc
  have HW := Lib.hid hW
  clear hW hc
  cases hrt : rightL ⟨ep, st, to⟩ with
  | false =>
    have H := Lib.hid (show speaksL ⟨ep, st, to⟩ x = false by unfold speaksL; rw [hrt]; simp)
    have Hrt := Lib.hid hrt
    clear hrt
    go_enter Try.func72, Try.ntmps72
    go_wp2_with fail
    rw [HW.out]
    refine wp_region_held_drew (S := (fun W' => W'.cell? ⟨w.heap.size, 0, none⟩ = some (.int .i64 ep) ∧ W'.cell? ⟨w.heap.size, 1, none⟩ = some (.int .i64 st) ∧ W'.cell? ⟨w.heap.size, 2, none⟩ = some (.int .u8 to))) (by kernel_rfl) Hc.out (fun hHeld => ?_)
    refine wpAnyH_takeL (i := 0) (d := some 5) (v := .agg #[.int .i64 ep, .int .i64 st, .int .u8 to]) rfl rfl (by kernel_rfl) (by kernel_rfl) (by kernel_rfl) (fun _ _ _ h => h) (Or.inl ⟨by rfl, ?_⟩) hHeld ?_
    · intro w hSw; (try dsimp only at hSw); go_simp
    try simp only [Act.put, List.setIfInBounds_toArray, List.set_cons_zero, List.set_cons_succ]
    refine wpAnyH_ready (rs := [1]) (by kernel_rfl) (by simp) ?_
    refine AllReadyH.cons rfl (fun K hK => ?_) AllReadyH.nil
    go_simp
    refine (lright_c ep st to _).mono ?_
    rintro e w2 ⟨rfl, hb2⟩
    rw [Hrt.out]
    have y1 := Lib.hid (hp.drew.on hb2).cells
    go_wp2_with fail
    refine hK.out _ _ y1.out (fun hHeld => ?_)
    clear hK K
    try simp only [Act.put, List.setIfInBounds_toArray, List.set_cons_zero, List.set_cons_succ]
    refine wpAnyH_takeL (i := 2) (d := some 7) (v := .bool false) rfl rfl (by kernel_rfl) (by kernel_rfl) (by kernel_rfl) (fun _ _ _ h => h) (Or.inl ⟨by rfl, ?_⟩) hHeld ?_
    · intro w hSw; (try dsimp only at hSw); go_simp
    try simp only [Act.put, List.setIfInBounds_toArray, List.set_cons_zero, List.set_cons_succ]
    refine wpAnyH_takeL (i := 3) (d := some 8) (v := undef) rfl rfl (by kernel_rfl) (by kernel_rfl) (by kernel_rfl) (fun _ _ _ h => h) (Or.inr ⟨by kernel_rfl, rfl⟩) hHeld ?_
    try simp only [Act.put, List.setIfInBounds_toArray, List.set_cons_zero, List.set_cons_succ]
    refine wpAnyH_takeL (i := 4) (d := some 9) (v := undef) rfl rfl (by kernel_rfl) (by kernel_rfl) (by kernel_rfl) (fun _ _ _ h => h) (Or.inr ⟨by kernel_rfl, rfl⟩) hHeld ?_
    try simp only [Act.put, List.setIfInBounds_toArray, List.set_cons_zero, List.set_cons_succ]
    refine wpAnyH_takeL (i := 5) (d := some 10) (v := undef) rfl rfl (by kernel_rfl) (by kernel_rfl) (by kernel_rfl) (fun _ _ _ h => h) (Or.inr ⟨by kernel_rfl, rfl⟩) hHeld ?_
    try simp only [Act.put, List.setIfInBounds_toArray, List.set_cons_zero, List.set_cons_succ]
    refine wpAnyH_takeL (i := 6) (d := some 11) (v := undef) rfl rfl (by kernel_rfl) (by kernel_rfl) (by kernel_rfl) (fun _ _ _ h => h) (Or.inr ⟨by kernel_rfl, rfl⟩) hHeld ?_
    try simp only [Act.put, List.setIfInBounds_toArray, List.set_cons_zero, List.set_cons_succ]
    refine wpAnyH_takeL (i := 7) (d := some 12) (v := .bool false) rfl rfl (by kernel_rfl) (by kernel_rfl) (by kernel_rfl) (fun _ _ _ h => h) (Or.inl ⟨by rfl, ?_⟩) hHeld ?_
    · intro w hSw; (try dsimp only at hSw); go_simp
    try simp only [Act.put, List.setIfInBounds_toArray, List.set_cons_zero, List.set_cons_succ]
    refine wpAnyH_takeL (i := 8) (d := some 4) (v := .bool false) rfl rfl (by kernel_rfl) (by kernel_rfl) (by kernel_rfl) (fun _ _ _ h => h) (Or.inl ⟨by rfl, ?_⟩) hHeld ?_
    · intro w hSw; (try dsimp only at hSw); go_simp
    try simp only [Act.put, List.setIfInBounds_toArray, List.set_cons_zero, List.set_cons_succ]
    refine wpAnyH_done (by kernel_rfl) ?_ _
    go_wp2_with fail
    go_ret
    exact ⟨by rw [H.out]; rfl, le_tr hb (le_dr (W := W) hb2)⟩
  | true =>
    by_cases hx : ep = x
    · have e1 : (ep == x) = true := by simp [hx]
      by_cases h1 : st = 1
      · have ht : to = 0 := by rcases right_cases hrt with a | a | a <;> simp at a <;> omega
        have e2 : (st == 1) = true := by simp [h1]
        have e3 : (to == 0) = true := by simp [ht]
        have H := Lib.hid (show speaksL ⟨ep, st, to⟩ x = true by unfold speaksL; rw [hrt]; simp [hx, h1])
        have Hrt := Lib.hid hrt
        clear hrt hx h1 ht
        go_enter Try.func72, Try.ntmps72
        go_wp2_with fail
        rw [HW.out]
        go_region_held3 (fun W' => W'.cell? ⟨w.heap.size, 0, none⟩ = some (.int .i64 ep) ∧ W'.cell? ⟨w.heap.size, 1, none⟩ = some (.int .i64 st) ∧ W'.cell? ⟨w.heap.size, 2, none⟩ = some (.int .u8 to)) (first | exact Hc.out | exact y1.out | exact y2.out) (first
          | (go_at_call 51; refine (lright_c ep st to _).mono ?_; rintro e w2 ⟨rfl, hb2⟩; rw [Hrt.out]; have y1 := Lib.hid (hp.drew.on hb2).cells)
          | (go_at_call 78; refine (lheld_c x _).mono ?_; rintro e w3 ⟨rfl, hb3⟩; have y2 := Lib.hid ((hp.drew.on hb2).on hb3).cells))
        go_wp2_with fail
        go_ret
        exact ⟨by rw [H.out]; rfl, le_tr (le_tr hb (le_dr (W := W) hb2)) hb3⟩
      · have e2 : (st == 1) = false := by simp [h1]
        have H := Lib.hid (show speaksL ⟨ep, st, to⟩ x = false by unfold speaksL; rw [hrt]; simp [hx, h1])
        have Hrt := Lib.hid hrt
        clear hrt hx h1
        go_enter Try.func72, Try.ntmps72
        go_wp2_with fail
        rw [HW.out]
        go_region_held3 (fun W' => W'.cell? ⟨w.heap.size, 0, none⟩ = some (.int .i64 ep) ∧ W'.cell? ⟨w.heap.size, 1, none⟩ = some (.int .i64 st) ∧ W'.cell? ⟨w.heap.size, 2, none⟩ = some (.int .u8 to)) (first | exact Hc.out | exact y1.out | exact y2.out) (first
          | (go_at_call 51; refine (lright_c ep st to _).mono ?_; rintro e w2 ⟨rfl, hb2⟩; rw [Hrt.out]; have y1 := Lib.hid (hp.drew.on hb2).cells)
          | (go_at_call 78; refine (lheld_c x _).mono ?_; rintro e w3 ⟨rfl, hb3⟩; have y2 := Lib.hid ((hp.drew.on hb2).on hb3).cells))
        go_wp2_with fail
        go_ret
        exact ⟨by rw [H.out]; rfl, le_tr (le_tr hb (le_dr (W := W) hb2)) hb3⟩
    · have e1 : (ep == x) = false := by simp [hx]
      have H := Lib.hid (show speaksL ⟨ep, st, to⟩ x = false by unfold speaksL; rw [hrt]; simp [hx])
      have Hrt := Lib.hid hrt
      clear hrt hx
      go_enter Try.func72, Try.ntmps72
      go_wp2_with fail
      rw [HW.out]
      go_region_held3 (fun W' => W'.cell? ⟨w.heap.size, 0, none⟩ = some (.int .i64 ep) ∧ W'.cell? ⟨w.heap.size, 1, none⟩ = some (.int .i64 st) ∧ W'.cell? ⟨w.heap.size, 2, none⟩ = some (.int .u8 to)) (first | exact Hc.out | exact y1.out | exact y2.out) (first
        | (go_at_call 51; refine (lright_c ep st to _).mono ?_; rintro e w2 ⟨rfl, hb2⟩; rw [Hrt.out]; have y1 := Lib.hid (hp.drew.on hb2).cells)
        | (go_at_call 78; refine (lheld_c x _).mono ?_; rintro e w3 ⟨rfl, hb3⟩; have y2 := Lib.hid ((hp.drew.on hb2).on hb3).cells))
      go_wp2_with fail
      go_ret
      exact ⟨by rw [H.out]; rfl, le_tr (le_tr hb (le_dr (W := W) hb2)) hb3⟩
end Go.Proofs.Ytfdboahcaiolgaa
