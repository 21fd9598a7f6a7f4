/-
  A chair in memory; created, inRange, New, Open, Deal and Log of package chair. Conditions: the chair's blocks are as it left them, its log has a hundred thousand records at most.
-/
import Derived.Test.YtjfmahceolhfnaaChH
import Derived.Test.YtjfmahceolhfnaaChB
set_option linter.unusedVariables false
set_option linter.unusedSimpArgs false
namespace Go.Proofs.Ytjfmahceolhfnaa
open Go.RowKit

/-- All that was there is as it was but the blocks that S names. -/
structure Out (w w' : World) (S : Nat → Prop) : Prop where
  os : w'.os = w.os
  tape : w'.tape = w.tape
  output : w'.output = w.output
  size : w.heap.size ≤ w'.heap.size
  block : ∀ i, i < w.heap.size → ¬ S i → w'.heap[i]? = w.heap[i]?
section
variable {w w' w'' : World} {S S' : Nat → Prop}
theorem Out.refl (w : World) (S : Nat → Prop) : Out w w S := ⟨rfl, rfl, rfl, Nat.le_refl _, fun _ _ _ => rfl⟩
theorem Out.of (S : Nat → Prop) (h : Below w.heap.size w w') : Out w w' S := ⟨h.os, h.tape, h.output, h.size, fun i hi _ => h.block i hi⟩
theorem Out.tr (h : Out w w' S) (k : Below w'.heap.size w' w'') : Out w w'' S := ⟨k.os.trans h.os, k.tape.trans h.tape, k.output.trans h.output, Nat.le_trans h.size k.size, fun i hi hs => (k.block i (Nat.lt_of_lt_of_le hi h.size)).trans (h.block i hi hs)⟩
theorem Out.trans (h : Out w w' S) (k : Out w' w'' S') (hs : ∀ i, i < w.heap.size → S' i → S i) : Out w w'' S := ⟨k.os.trans h.os, k.tape.trans h.tape, k.output.trans h.output, Nat.le_trans h.size k.size, fun i hi hn => (k.block i (Nat.lt_of_lt_of_le hi h.size) (fun e => hn (hs i hi e))).trans (h.block i hi hn)⟩
theorem Out.mono (h : Out w w' S) (hs : ∀ i, i < w.heap.size → S i → S' i) : Out w w' S' := ⟨h.os, h.tape, h.output, h.size, fun i hi hn => h.block i hi (fun e => hn (hs i hi e))⟩
theorem Out.wr (h : Out w w' S) {g : Nat} (k : Wr w' w'' g) (hg : w.heap.size ≤ g) : Out w w'' S := by
  have hB := k.bel _ _ (Below.refl g w') (Nat.le_refl _)
  exact ⟨hB.os.trans h.os, hB.tape.trans h.tape, hB.output.trans h.output, by rw [k.size]; exact h.size, fun i hi hs => (k.far i (by omega)).trans (h.block i hi hs)⟩
theorem Out.wrS (h : Out w w' S) {g : Nat} (k : Wr w' w'' g) (hg : S g) : Out w w'' S := by
  have hB := k.bel _ _ (Below.refl g w') (Nat.le_refl _)
  exact ⟨hB.os.trans h.os, hB.tape.trans h.tape, hB.output.trans h.output, by rw [k.size]; exact h.size, fun i hi hs => (k.far i (fun e => hs (e ▸ hg))).trans (h.block i hi hs)⟩
theorem Out.mt (h : Out w w' S) {m : Nat} (k : Mt w' w'' m) (hm : S m) : Out w w'' S := by
  have hB := k.bel _ _ (Below.refl m w') (Nat.le_refl _)
  exact ⟨hB.os.trans h.os, hB.tape.trans h.tape, hB.output.trans h.output, by rw [k.size]; exact h.size, fun i hi hs => (k.far i (fun e => hs (e ▸ hm))).trans (h.block i hi hs)⟩
theorem Out.grown (h : Out w w' S) {G : Option Nat} (k : w'.grownBy w'' G) (hG : ∀ g, G = some g → g < w.heap.size → S g) : Out w w'' S :=
  ⟨k.os.trans h.os, k.tape.trans h.tape, k.output.trans h.output, Nat.le_trans h.size k.size, fun i hi hs => (k.block i (Nat.lt_of_lt_of_le hi h.size) (fun e => hs (hG i e.symm hi))).trans (h.block i hi hs)⟩
theorem Out.below (h : Out w w' S) {B : Nat} (hB : B ≤ w.heap.size) (hs : ∀ i, S i → B ≤ i) : Below B w w' := ⟨h.os, h.tape, h.output, h.size, fun i hi => h.block i (by omega) (fun e => by have := hs i e; omega)⟩
end

/-! ### the chair -/
/-- Block b is a chair's struct with the map m and a log in block G. -/
structure CM (w : World) (b m : Nat) (G : Option Nat) (D : DM) (log : List Rd) : Prop where
  ex : ∃ A n c, CB w b 65 #[.map (some m), .slice A n c] ∧ Seg w 33 8 A n c (rc kcl log) G
  md : MD w m D
/-- .. of deals that came of its log. -/
structure CR (w : World) (b m : Nat) (G : Option Nat) (D : DM) (log : List Rd) : Prop where
  cm : CM w b m G D log
  good : GoodC D
  lo : LogOf D log
/-- The chair's own blocks. -/
def Own (b m : Nat) (G : Option Nat) (i : Nat) : Prop := i = b ∨ i = m ∨ G = some i
theorem Try.neRC : 33 ≠ 65 := by decide
section
variable {w w' : World} {b m : Nat} {G : Option Nat} {D : DM} {log : List Rd}
theorem GoodC.few (h : GoodC D) : Few D := fun t d hd => (h t d hd).1
theorem CM.lt (h : CM w b m G D log) : b < w.heap.size ∧ m < w.heap.size ∧ ∀ g, G = some g → g < w.heap.size := by
  obtain ⟨⟨A, n, c, h1, h2⟩, h3⟩ := h
  exact ⟨h1.lt, h3.lt, h2.lt⟩
theorem CM.own_lt (h : CM w b m G D log) {i : Nat} (hi : Own b m G i) : i < w.heap.size := by
  obtain ⟨h1, h2, h3⟩ := h.lt
  rcases hi with rfl | rfl | e
  · exact h1
  · exact h2
  · exact h3 _ e
theorem CM.keep (h : CM w b m G D log) (hk : ∀ i, Own b m G i → w'.heap[i]? = w.heap[i]?) : CM w' b m G D log := by
  obtain ⟨⟨A, n, c, h1, h2⟩, h3⟩ := h
  exact ⟨⟨A, n, c, h1.same (hk b (.inl rfl)), h2.keep fun g e => hk g (.inr (.inr e))⟩, h3.same (hk m (.inr (.inl rfl)))⟩
theorem CM.on (h : CM w b m G D log) (hb : Below w.heap.size w w') : CM w' b m G D log := h.keep fun i hi => hb.block i (h.own_lt hi)
theorem CM.drew (h : CM w b m G D log) : CM w.drew b m G D log := ⟨h.ex, h.md⟩
theorem CR.on (h : CR w b m G D log) (hb : Below w.heap.size w w') : CR w' b m G D log := ⟨h.cm.on hb, h.good, h.lo⟩
theorem CR.drew (h : CR w b m G D log) : CR w.drew b m G D log := ⟨h.cm.drew, h.good, h.lo⟩
theorem CM.len (h : CM w b m G D log) : ∃ A n c, CB w b 65 #[.map (some m), .slice A n c] ∧ Seg w 33 8 A n c (rc kcl log) G ∧ log.length = n := by
  obtain ⟨⟨A, n, c, h1, h2⟩, h3⟩ := h
  exact ⟨A, n, c, h1, h2, rc_len h2⟩
end
/-- A chair that lies below world w's blocks. -/
structure CU (w W : World) (b m : Nat) (G : Option Nat) (D : DM) (log : List Rd) : Prop where
  cm : CM W b m G D log
  lo : ∀ i, Own b m G i → i < w.heap.size
section
variable {w W V : World} {b m : Nat} {G : Option Nat} {D : DM} {log : List Rd}
theorem CU.start (h : CM w b m G D log) : CU w w b m G D log := ⟨h, fun i hi => h.own_lt hi⟩
theorem CU.on (h : CU w W b m G D log) (hb : Below W.heap.size W V) : CU w V b m G D log := ⟨h.cm.on hb, h.lo⟩
theorem CU.wr (h : CU w W b m G D log) {g : Nat} (k : Wr W V g) (hg : w.heap.size ≤ g) : CU w V b m G D log := ⟨h.cm.keep fun i hi => k.far i (by have := h.lo i hi; omega), h.lo⟩
theorem CU.drew (h : CU w W b m G D log) : CU w W.drew b m G D log := ⟨h.cm.drew, h.lo⟩
end
/-- A deal of the map at any number. -/
def dOf (D : DM) (k : Int) : Option Dl := if 0 ≤ k then D k.toNat else none
def dGet (D : DM) (k : Int) : Dl := (dOf D k).getD zeroD
theorem dOf_nat (D : DM) (t : Nat) : dOf D (t : Int) = D t := by unfold dOf; rw [if_pos (by omega)]; simp
theorem look_is (D : DM) (k : Int) : lookV D k = #[.agg (dA (dGet D k)), .bool (dOf D k).isSome] := by
  unfold lookV dGet dOf fnV
  by_cases h : 0 ≤ k
  · rw [if_pos h, if_pos h]
    cases D k.toNat <;> rfl
  · rw [if_neg h, if_neg h]
    rfl
set_option maxRecDepth 100000 in
theorem created_c (b m : Nat) (G : Option Nat) (D : DM) (log : List Rd) (w : World) (h : CM w b m G D log) : Calls Try.prog 23 #[.pointer (some ⟨b, 0, none⟩)] w fun zz w' => zz = .returned (.bool true) ∧ w' = w := by
  obtain ⟨⟨A, n, c, h1, h2⟩, h3⟩ := h
  have c0 : w.cell? ⟨b, 0, none⟩ = some (.map (some m)) := CB.cell h1 0
  have hne : ∀ W : World, (binOp BinOp.neq 63 (Value.map (some m)) (Value.map none)).run Try.prog W = .ok (.bool true) W := fun W => by rfl
  clear h1 h2 h3
  go_enter Try.func23, Try.ntmps23
  go_wp2_with fail
  go_ret
  exact ⟨rfl, rfl⟩
set_option maxRecDepth 100000 in
theorem created_0 (w : World) : Calls Try.prog 23 #[.pointer none] w fun zz w' => zz = .returned (.bool false) ∧ w' = w := by
  go_enter Try.func23, Try.ntmps23
  go_wp2_with fail
  go_ret
  exact ⟨rfl, rfl⟩
set_option maxRecDepth 100000 in
theorem created_e (b : Nat) (w : World) (c0 : w.cell? ⟨b, 0, none⟩ = some (.map none)) : Calls Try.prog 23 #[.pointer (some ⟨b, 0, none⟩)] w fun zz w' => zz = .returned (.bool false) ∧ w' = w := by
  have hne : ∀ W : World, (binOp BinOp.neq 63 (Value.map none) (Value.map none)).run Try.prog W = .ok (.bool false) W := fun W => by rfl
  go_enter Try.func23, Try.ntmps23
  go_wp2_with fail
  go_ret
  exact ⟨rfl, rfl⟩
set_option maxRecDepth 100000 in
set_option maxHeartbeats 4000000 in
theorem inrange_c (r : Rd) (w : World) : Calls Try.prog 24 #[.agg (rA r)] w fun zz w' => zz = .returned (.bool (decide (okR r))) ∧ Below w.heap.size w w' := by
  by_cases h1 : 1 ≤ r.kind
  · have d1 : decide (1 ≤ r.kind) = true := by simpa using h1
    by_cases h2 : r.kind ≤ 4
    · have d2 : decide (r.kind ≤ 4) = true := by simpa using h2
      by_cases h3 : 0 ≤ r.tx
      · have d3 : decide (0 ≤ r.tx) = true := by simpa using h3
        by_cases h4 : r.tx < 1000
        · have d4 : decide (r.tx < 1000) = true := by simpa using h4
          have H := Lib.hid (show decide (okR r) = true by rw [decide_eq_true_iff]; unfold okR; omega)
          clear h1 h2 h3 h4
          go_enter Try.func24, Try.ntmps24
          go_wp2_with (first | ((with_reducible refine st_box 33 _ (rA r) ?_ ?_); exact rfl))
          refine ⟨fun V1 g1 n1 f1 => ?_⟩
          have up1 : w.heap.size ≤ g1 := Nat.le_of_eq f1.at_
          have bl1 := f1.bel
          clear f1
          have l2 := le_tr (Below.refl _ _) bl1
          clear bl1
          have c3 : V1.cell? ⟨g1, 0, none⟩ = some (.int .i64 r.kind) := CB.cell n1 0
          have c4 : V1.cell? ⟨g1, 1, none⟩ = some (.int .i64 r.tx) := CB.cell n1 1
          go_wp2_with fail
          go_ret
          exact ⟨by rw [H.out]; rfl, l2⟩
        · have d4 : decide (r.tx < 1000) = false := by simpa using h4
          have H := Lib.hid (show decide (okR r) = false by rw [decide_eq_false_iff_not]; unfold okR; omega)
          clear h1 h2 h3 h4
          go_enter Try.func24, Try.ntmps24
          go_wp2_with (first | ((with_reducible refine st_box 33 _ (rA r) ?_ ?_); exact rfl))
          refine ⟨fun V1 g1 n1 f1 => ?_⟩
          have up1 : w.heap.size ≤ g1 := Nat.le_of_eq f1.at_
          have bl1 := f1.bel
          clear f1
          have l2 := le_tr (Below.refl _ _) bl1
          clear bl1
          have c3 : V1.cell? ⟨g1, 0, none⟩ = some (.int .i64 r.kind) := CB.cell n1 0
          have c4 : V1.cell? ⟨g1, 1, none⟩ = some (.int .i64 r.tx) := CB.cell n1 1
          go_wp2_with fail
          go_ret
          exact ⟨by rw [H.out]; rfl, l2⟩
      · have d3 : decide (0 ≤ r.tx) = false := by simpa using h3
        have H := Lib.hid (show decide (okR r) = false by rw [decide_eq_false_iff_not]; unfold okR; omega)
        clear h1 h2 h3
        go_enter Try.func24, Try.ntmps24
        go_wp2_with (first | ((with_reducible refine st_box 33 _ (rA r) ?_ ?_); exact rfl))
        refine ⟨fun V1 g1 n1 f1 => ?_⟩
        have up1 : w.heap.size ≤ g1 := Nat.le_of_eq f1.at_
        have bl1 := f1.bel
        clear f1
        have l2 := le_tr (Below.refl _ _) bl1
        clear bl1
        have c3 : V1.cell? ⟨g1, 0, none⟩ = some (.int .i64 r.kind) := CB.cell n1 0
        have c4 : V1.cell? ⟨g1, 1, none⟩ = some (.int .i64 r.tx) := CB.cell n1 1
        go_wp2_with fail
        go_ret
        exact ⟨by rw [H.out]; rfl, l2⟩
    · have d2 : decide (r.kind ≤ 4) = false := by simpa using h2
      have H := Lib.hid (show decide (okR r) = false by rw [decide_eq_false_iff_not]; unfold okR; omega)
      clear h1 h2
      go_enter Try.func24, Try.ntmps24
      go_wp2_with (first | ((with_reducible refine st_box 33 _ (rA r) ?_ ?_); exact rfl))
      refine ⟨fun V1 g1 n1 f1 => ?_⟩
      have up1 : w.heap.size ≤ g1 := Nat.le_of_eq f1.at_
      have bl1 := f1.bel
      clear f1
      have l2 := le_tr (Below.refl _ _) bl1
      clear bl1
      have c3 : V1.cell? ⟨g1, 0, none⟩ = some (.int .i64 r.kind) := CB.cell n1 0
      have c4 : V1.cell? ⟨g1, 1, none⟩ = some (.int .i64 r.tx) := CB.cell n1 1
      go_wp2_with fail
      go_ret
      exact ⟨by rw [H.out]; rfl, l2⟩
  · have d1 : decide (1 ≤ r.kind) = false := by simpa using h1
    have H := Lib.hid (show decide (okR r) = false by rw [decide_eq_false_iff_not]; unfold okR; omega)
    clear h1
    go_enter Try.func24, Try.ntmps24
    go_wp2_with (first | ((with_reducible refine st_box 33 _ (rA r) ?_ ?_); exact rfl))
    refine ⟨fun V1 g1 n1 f1 => ?_⟩
    have up1 : w.heap.size ≤ g1 := Nat.le_of_eq f1.at_
    have bl1 := f1.bel
    clear f1
    have l2 := le_tr (Below.refl _ _) bl1
    clear bl1
    have c3 : V1.cell? ⟨g1, 0, none⟩ = some (.int .i64 r.kind) := CB.cell n1 0
    have c4 : V1.cell? ⟨g1, 1, none⟩ = some (.int .i64 r.tx) := CB.cell n1 1
    go_wp2_with fail
    go_ret
    exact ⟨by rw [H.out]; rfl, l2⟩
set_option maxRecDepth 100000 in
set_option maxHeartbeats 1000000 in
theorem chair_new (w : World) : Calls Try.prog 11 #[] w fun zz w' => ∃ b m, zz = .returned (.pointer (some ⟨b, 0, none⟩)) ∧ CR w' b m none (fun _ => none) [] ∧ w.heap.size ≤ b ∧ w.heap.size ≤ m ∧ b ≠ m ∧ Below w.heap.size w w' := by
  obtain ⟨W, hW⟩ : ∃ W, w.alloc (.map #[] 0) = W := ⟨_, rfl⟩
  have hm : MD W w.heap.size (fun _ => none) := by rw [← hW]; exact MD.made w
  have hb : Below w.heap.size w W := by rw [← hW]; exact le_al _ _
  obtain ⟨V, hV⟩ : ∃ V, W.alloc (.cells #[.map (some w.heap.size), .slice none 0 0] 65) = V := ⟨_, rfl⟩
  have hs : CB V W.heap.size 65 #[.map (some w.heap.size), .slice none 0 0] := by rw [← hV]; exact CB.new _ _ _
  have hb2 : Below W.heap.size W V := by rw [← hV]; exact le_al _ _
  have e1 : W.heap.size = w.heap.size + 1 := by rw [← hW]; simp
  rw [e1] at hs
  have H := Lib.hid (show ∃ b m, (Ending.returned (.pointer (some ⟨w.heap.size + 1, 0, none⟩))) = .returned (.pointer (some ⟨b, 0, none⟩)) ∧ CR V b m none (fun _ => none) [] ∧ w.heap.size ≤ b ∧ w.heap.size ≤ m ∧ b ≠ m ∧ Below w.heap.size w V from
    ⟨_, w.heap.size, rfl, ⟨⟨⟨none, 0, 0, hs, Seg.nil _ _ _⟩, hm.on hb2⟩, good_none, log_none⟩, by omega, Nat.le_refl _, by omega, le_tr hb hb2⟩)
  have hmk : (Instr.makeMap 63 none).run Try.prog w = .ok (.map (some w.heap.size)) (w.alloc (.map #[] 0)) := run_makeMap _ w
  have HW := Lib.hid hW
  have HV := Lib.hid hV
  clear hW hV hs hm hb hb2 e1
  go_enter Try.func11, Try.ntmps11
  go_wp2_with fail
  rw [HW.out, HV.out]
  go_wp2_with fail
  go_ret
  exact H.out
theorem tells_open (w : World) : Tells w 28 #[] (fun d => d.out == 0) := fun W d _ => isopen_c d W
theorem enters_open : Enters Try.prog 28 := enters_of Try.func28 (by kernel_rfl) rfl
def opensF (D : DM) : List Nat := keysF D (fun d => d.out == 0)
set_option maxRecDepth 100000 in
set_option maxHeartbeats 1000000 in
theorem open_c (b m : Nat) (G : Option Nat) (D : DM) (log : List Rd) (w : World) (h : CM w b m G D log) (hf : Few D) : Calls Try.prog 20 #[.pointer (some ⟨b, 0, none⟩)] w (RPost w 3 zc 1 (opensF D)) := by
  have hc := created_c b m G D log w h
  have hk := keysOf_c m 28 #[] (fun d => d.out == 0) D w h.md hf enters_open (tells_open w)
  have hk : Calls _ _ _ _ (RPost w 3 zc 1 (opensF D)) := hk
  generalize opensF D = L at *
  obtain ⟨⟨A, n, c, h1, h2⟩, h3⟩ := h
  have c0 : w.cell? ⟨b, 0, none⟩ = some (.map (some m)) := CB.cell h1 0
  clear h1 h2 h3 hf
  go_enter Try.func20, Try.ntmps20
  go_wp2_with fail
  (with_reducible refine hc.mono ?_)
  rintro e w1 ⟨rfl, rfl⟩
  go_wp2_with fail
  (with_reducible refine hk.mono ?_)
  rintro e w2 ⟨A2, n2, c2, rfl, r1, r2⟩
  go_wp2_with fail
  go_ret
  exact ⟨A2, n2, c2, rfl, r1, r2⟩
theorem Try.infoK : (Try.prog.info? 33).map (fun i => (i.zero, i.size, i.bytes)) = some (some (.agg (rA zeroR)), 8, 64) := by kernel_rfl
set_option maxRecDepth 100000 in
set_option maxHeartbeats 1000000 in
theorem log_c (b m : Nat) (G : Option Nat) (D : DM) (log : List Rd) (w : World) (h : CM w b m G D log) (hl : log.length ≤ 100000) : Calls Try.prog 19 #[.pointer (some ⟨b, 0, none⟩)] w (RPost w 33 kcl 8 log) := by
  obtain ⟨i0, hi0, hz0, hz1, hz2⟩ := parts_of Try.infoK
  have hc := created_c b m G D log w h
  obtain ⟨A, n, c, h1, h2, hn⟩ := h.len
  have c1 : w.cell? ⟨b, 1, none⟩ = some (.slice A n c) := CB.cell h1 1
  have p0 : 0 < 8 := by omega
  have p3 : 0 + n ≤ maxLen := by simp only [maxLen]; omega
  have p4 : (0 + n) * 64 ≤ 140737488355328 := by omega
  have hz3 : (Value.agg (rA zeroR)).cells.size = 8 := rfl
  clear h1 h
  go_enter Try.func19, Try.ntmps19
  go_wp2_with fail
  (with_reducible refine hc.mono ?_)
  rintro e w1 ⟨rfl, rfl⟩
  go_wp2_with (at_builtin; refine wpList_append_src _ rfl (.const (.slice none 0 0)) (.tmp 9) _ rfl 33 i0 _ 8 64 Try.underlying53 hi0 hz0 hz1 hz2 hz3 p0 rfl (Seg.nil _ _ _) rfl h2.src (rc_one 8 log) p3 p4 n (by omega) ?_; intro A1 c1' G1 w2 n1 m1 r1)
  have H := Lib.hid (show RPost w1 33 kcl 8 log (.returned (.slice A1 n c1')) w2 from ⟨A1, n, c1', rfl, ⟨G1, n1⟩, (Below.refl _ _).grown m1 (Nat.le_refl _) (fun g e => by cases e)⟩)
  clear n1 m1 r1 h2
  go_wp2_with fail
  go_ret
  exact H.out
set_option maxRecDepth 100000 in
set_option maxHeartbeats 4000000 in
theorem deal_c (b m : Nat) (G : Option Nat) (D : DM) (log : List Rd) (k : Int) (w : World) (h : CM w b m G D log) (hk : (Lit.int .i64 k).wf = true) : Calls Try.prog 14 #[.pointer (some ⟨b, 0, none⟩), .int .i64 k] w fun zz w' => zz = .returned (.tuple #[.agg (dA (dGet D k)), .bool (dOf D k).isSome]) ∧ Below w.heap.size w w' := by
  have hc := fun (W : World) (h : CM W b m G D log) => created_c b m G D log W h
  have hlk := fun (W : World) (h : CM W b m G D log) => (h.md.look hk).trans (by rw [look_is])
  obtain ⟨d, hd⟩ : ∃ d, dGet D k = d := ⟨_, rfl⟩
  obtain ⟨q, hq⟩ : ∃ q, (dOf D k).isSome = q := ⟨_, rfl⟩
  rw [hd, hq] at hlk
  rw [hd, hq]
  clear hd hq hk
  have cu := CU.start h
  clear h
  go_enter Try.func14, Try.ntmps14
  go_wp2_with (first | ((with_reducible refine st_alloc 44 (dA zeroD) ?_ ?_); exact zero_dl))
  refine ⟨fun V1 g1 n1 f1 => ?_⟩
  have up1 : w.heap.size ≤ g1 := Nat.le_of_eq f1.at_
  have bl1 := f1.bel
  clear f1
  have r2_cu := (cu).on bl1
  have l2 := le_tr (Below.refl _ _) bl1
  clear cu
  clear bl1
  go_wp2_with fail
  (with_reducible refine (hc _ r2_cu.cm).mono ?_)
  rintro e w1 ⟨rfl, rfl⟩
  obtain ⟨⟨A, n, c, k1, k2⟩, k3⟩ := r2_cu.cm
  have c0 : w1.cell? ⟨b, 0, none⟩ = some (.map (some m)) := CB.cell k1 0
  have hl := hlk _ r2_cu.cm
  clear k1 k2 k3
  go_wp2_with (first | ((with_reducible refine st_alloc 44 (dA zeroD) ?_ ?_); exact zero_dl))
  refine ⟨fun V3 g3 n3 f3 => ?_⟩
  clear c0 hl
  have ne3_z := f3.ne n1
  have up3 : w.heap.size ≤ g3 := f3.up l2
  have bl3 := f3.bel
  clear f3
  have r4_z := le_on n1 bl3
  have r4_cu := (r2_cu).on bl3
  have l4 := le_tr l2 bl3
  clear n1 r2_cu l2
  clear bl3
  go_wp2_with (first | ((with_reducible refine st_store 44 _ _ g3 (dA d) ?_ ?_ n3 ?_ ?_ ?_ ?_); exact rfl; exact rfl; exact Try.zDl; exact rfl; exact dA_one _))
  refine ⟨fun V5 n5 k5 => ?_⟩
  have m5_z := k5.on r4_z ne3_z
  have m5_cu := (r4_cu).wr k5 up3
  have o5 := k5.bel _ _ l4 up3
  clear k5
  clear n3 r4_z r4_cu l4
  go_wp2_with (first | ((with_reducible refine st_load 44 _ g3 ?_ n5 Try.underlying44 ?_ ?_ ?_); exact rfl; exact rfl; exact Try.zDl) | ((with_reducible refine st_store 44 _ _ g1 (dA d) ?_ ?_ m5_z ?_ ?_ ?_ ?_); exact rfl; exact rfl; exact Try.zDl; exact rfl; exact dA_one _))
  refine ⟨fun V6 n6 k6 => ?_⟩
  have m6_d := k6.on n5 (Ne.symm ne3_z)
  have m6_cu := (m5_cu).wr k6 up1
  have o6 := k6.bel _ _ o5 up1
  clear k6
  clear m5_z n5 m5_cu o5
  go_wp2_with fail
  exact bodyPost_ret (v := .tuple #[.agg (dA d), .bool q]) (res_two Try.results14 rfl rfl n6 Try.underlying44 rfl Try.zDl) rfl ⟨rfl, o6⟩
end Go.Proofs.Ytjfmahceolhfnaa
