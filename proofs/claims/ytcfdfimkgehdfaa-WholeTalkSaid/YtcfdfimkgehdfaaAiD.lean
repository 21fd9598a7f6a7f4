/-
  Package air: bytes.Clone, clone, queue. Conditions: the bytes can be read, the air is one that New made, or one that no call made.
-/
import Derived.Test.YtcfdfimkgehdfaaAiC
set_option linter.unusedVariables false
set_option linter.unusedSimpArgs false
namespace Go.Proofs.Ytcfdfimkgehdfaa
open Go.RowKit

set_option maxRecDepth 100000 in
set_option maxHeartbeats 400000 in
theorem bclone_0 (n c : Nat) (w : World) : Calls Try.prog 67 #[.slice none n c] w fun e w' => e = .returned (.slice none 0 0) ∧ w = w' := by
  have qn : ∀ W : World, (binOp .eql 30 (.slice none n c) (.slice none 0 0)).run Try.prog W = .ok (.bool true) W := fun W => Lib.run_eql_slice_nil W 30 5 none n c 0 0 Try.underlying30
  go_enter Try.func67, Try.ntmps67
  go_wp2_with fail
  go_ret
  exact ⟨rfl, rfl⟩
set_option maxRecDepth 100000 in
set_option maxHeartbeats 4000000 in
theorem bclone_1 (ad : Addr) (n c : Nat) (bs : List UInt8) (w : World) (h : RR w bcl 1 (some ad) n c bs) (hn : n ≤ 1000000) : Calls Try.prog 67 #[.slice (some ad) n c] w fun e w' => ∃ A' c' G, e = .returned (.slice A' n c') ∧ SO w.heap.size w' 5 bcl 1 A' n c' bs G ∧ Below w.heap.size w w' := by
  have hl := RL.start h
  have qn : ∀ W : World, (binOp .eql 30 (.slice (some ad) n c) (.slice none 0 0)).run Try.prog W = .ok (.bool false) W := fun W => Lib.run_eql_slice_nil W 30 5 (some ad) n c 0 0 Try.underlying30
  go_enter Try.func67, Try.ntmps67
  go_wp2_with (first | ((with_reducible refine st_lit0 30 5 Try.underlying30 Try.infoU2 ?_)))
  refine ⟨fun V1 g1 n1 f1 => ?_⟩
  have bl1 := f1.bel
  have up1 : w.heap.size ≤ g1 := Nat.le_of_eq f1.at_
  clear f1
  have r3_bb := (hl).on bl1
  have l3 := le_tr (Below.refl _ _) bl1
  clear hl
  clear bl1
  have sz := Seg.lit0 (s := 1) n1
  go_wp2_with (first | ((with_reducible refine st_app (.tmp 5) (.tmp 6) 30 5 Try.underlying30 Try.infoU rfl (by decide) (A := some ⟨g1, 0, none⟩) (n := 0) (c := 0) (G := some g1) rfl sz (As := some ad) (m := n) (k := c) rfl r3_bb.rr.src (rc_one 1 bs) (by simp only [maxLen]; omega) (by omega) n (by omega) ?_)))
  refine ⟨fun B m q V9 s9 h9 k9 => ?_⟩
  have s9 : Seg V9 5 1 B n m (rc bcl bs) q := by simpa using s9
  have hi9 := k9.ge (l3).size (fun g e => by cases e; exact up1)
  have l9 := (l3).grown h9 (l3).size (fun g e => by cases e; exact up1)
  clear h9 k9
  go_wp2_with fail
  go_ret
  exact ⟨B, m, q, rfl, ⟨s9, hi9⟩, l9⟩
theorem bclone_c (A : Option Addr) (n c : Nat) (bs : List UInt8) (w : World) (h : RR w bcl 1 A n c bs) (hn : n ≤ 1000000) : Calls Try.prog 67 #[.slice A n c] w fun e w' => ∃ A' c' G, e = .returned (.slice A' n c') ∧ SO w.heap.size w' 5 bcl 1 A' n c' bs G ∧ Below w.heap.size w w' := by
  cases A with
  | none =>
    have h0 : n = 0 := by
      rcases Nat.eq_zero_or_pos n with e | e
      · exact e
      · obtain ⟨_, _, e2, _⟩ := h.mem e; cases e2
    subst h0
    obtain rfl : bs = [] := List.eq_nil_of_length_eq_zero h.len
    refine (bclone_0 0 c w).mono ?_
    rintro e w' ⟨rfl, rfl⟩
    exact ⟨none, 0, none, rfl, SO.nil _ _ _ _ _, Below.refl _ _⟩
  | some ad => exact bclone_1 ad n c bs w h hn
set_option maxRecDepth 100000 in
set_option maxHeartbeats 4000000 in
theorem clone_c (f t : Nat) (bs : List UInt8) (A : Option Addr) (n c : Nat) (w : World) (h : RR w bcl 1 A n c bs) (hn : n ≤ 1000000) : Calls Try.prog 41 #[.agg (lA ⟨f, t, bs, A, n, c⟩)] w fun e w' => ∃ A' c' G, e = .returned (.agg (lA ⟨f, t, bs, A', n, c'⟩)) ∧ SO w.heap.size w' 5 bcl 1 A' n c' bs G ∧ Below w.heap.size w w' := by
  have hl := RL.start h
  have C1 := fun V (h : RR V bcl 1 A n c bs) => bclone_c A n c bs V h hn
  go_enter Try.func41, Try.ntmps41
  go_wp2_with (first | ((with_reducible refine st_box 40 _ (lA ⟨f, t, bs, A, n, c⟩) ?_ ?_); exact rfl))
  refine ⟨fun V1 g1 n1 f1 => ?_⟩
  have up1 : w.heap.size ≤ g1 := Nat.le_of_eq f1.at_
  have bl1 := f1.bel
  clear f1
  have r3_bb := (hl).on bl1
  have l3 := le_tr (Below.refl _ _) bl1
  clear hl
  clear bl1
  go_wp2_with (first | ((with_reducible refine st_alloc 40 (lA zeroL) ?_ ?_); exact zero_lc))
  refine ⟨fun V4 g4 n4 f4 => ?_⟩
  have ne4_l := f4.ne n1
  have up4 : w.heap.size ≤ g4 := f4.up l3
  have bl4 := f4.bel
  clear f4
  have r6_l := le_on n1 bl4
  have r6_bb := (r3_bb).on bl4
  have l6 := le_tr l3 bl4
  clear n1 r3_bb l3
  clear bl4
  have c7 : V4.cell? ⟨g1, 2, none⟩ = some (.slice A n c) := CB.cell r6_l 2
  go_wp2_with fail
  have lt8_l := CB.lt r6_l
  have lt8_r := CB.lt n4
  have lb8 : w.heap.size ≤ V4.heap.size := Below.size (B := w.heap.size) l6
  (with_reducible refine (C1 _ (r6_bb).rr).mono ?_)
  rintro e w8 ⟨A1, c1, q1, rfl, so1, b8⟩
  clear c7
  have r10_l := le_on r6_l b8
  have r10_r := le_on n4 b8
  have r10_bb := (r6_bb).on b8
  have l10 := le_tr l6 b8
  clear r6_l n4 r6_bb l6
  clear b8
  have na11 := SO.above so1 lt8_l
  have na12 := SO.above so1 lt8_r
  have sm8_s := SO.mono so1 lb8
  clear so1
  clear lb8 lt8_l lt8_r
  go_wp2_with (first | ((with_reducible refine st_cell 30 _ _ g1 2 (.slice A1 n c1) ?_ ?_ r10_l (new := lA ⟨f, t, bs, A1, n, c1⟩) ?_ ?_ ?_ ?_ ?_ ?_); exact rfl; exact rfl; exact (by rw [lA_size]; decide); exact lA_b _ _ _ _ _; exact one_by; exact rfl; exact rfl))
  refine ⟨fun V13 n13 k13 => ?_⟩
  have m13_r := k13.on r10_r (Ne.symm ne4_l)
  have m13_bb := (r10_bb).wr k13 up1
  have m13_s := SO.wr sm8_s k13 na11
  have o13 := k13.bel _ _ l10 up1
  clear k13
  clear r10_l r10_r r10_bb sm8_s l10
  go_wp2_with (first | ((with_reducible refine st_load 40 _ g1 ?_ n13 Try.underlying40 ?_ ?_ ?_); exact rfl; exact rfl; exact Try.zLc) | ((with_reducible refine st_store 40 _ _ g4 (lA ⟨f, t, bs, A1, n, c1⟩) ?_ ?_ m13_r ?_ ?_ ?_ ?_); exact rfl; exact rfl; exact Try.zLc; exact rfl; exact lA_one _))
  refine ⟨fun V14 n14 k14 => ?_⟩
  have m14_l := k14.on n13 ne4_l
  have m14_bb := (m13_bb).wr k14 up4
  have m14_s := SO.wr m13_s k14 na12
  have o14 := k14.bel _ _ o13 up4
  clear k14
  clear m13_r n13 m13_bb m13_s o13
  go_wp2_with fail
  exact bodyPost_ret (v := .agg (lA ⟨f, t, bs, A1, n, c1⟩)) (res_one Try.results41 rfl n14 Try.underlying40 rfl Try.zLc) rfl ⟨A1, c1, q1, rfl, m14_s, o14⟩
set_option maxRecDepth 100000 in
set_option maxHeartbeats 800000 in
theorem queue_0 (t : Nat) (w : World) : Calls Try.prog 36 #[.pointer none, .int .u8 (t : Int)] w fun e w' => e = .returned (.tuple #[.pointer none, .int .i64 1]) ∧ w = w' := by
  go_enter Try.func36, Try.ntmps36
  go_wp2_with fail
  go_ret2
  exact ⟨rfl, rfl⟩
set_option maxRecDepth 100000 in
set_option maxHeartbeats 800000 in
theorem queue_z (b t : Nat) (w : World) (h : AN w b 54 17 (fun _ => .pointer none)) : Calls Try.prog 36 #[.pointer (some ⟨b, 0, none⟩), .int .u8 (t : Int)] w fun e w' => e = .returned (.tuple #[.pointer none, .int .i64 1]) ∧ w = w' := by
  have c16 : w.cell? ⟨b, 16, none⟩ = some (.pointer none) := h.cell (by omega)
  clear h
  go_enter Try.func36, Try.ntmps36
  go_wp2_with fail
  go_ret2
  exact ⟨rfl, rfl⟩
set_option maxRecDepth 100000 in
set_option maxHeartbeats 800000 in
theorem queue_n (b t : Nat) (f : Nat → Nat) (w : World) (h : AN w b 54 17 (fun i => .pointer (some ⟨f i, 0, none⟩))) (ht : 17 ≤ t) : Calls Try.prog 36 #[.pointer (some ⟨b, 0, none⟩), .int .u8 (t : Int)] w fun e w' => e = .returned (.tuple #[.pointer none, .int .i64 2]) ∧ w = w' := by
  have c16 : w.cell? ⟨b, 16, none⟩ = some (.pointer (some ⟨f 16, 0, none⟩)) := h.cell (by omega)
  have q1 : decide ((17 : Int) ≤ (t : Int)) = true := by simp; omega
  have q2 : decide ((t : Int) ≥ 17) = true := by simp; omega
  clear h ht
  go_enter Try.func36, Try.ntmps36
  go_wp2_with fail
  go_ret2
  exact ⟨rfl, rfl⟩
set_option maxRecDepth 100000 in
set_option maxHeartbeats 800000 in
theorem queue_y (b t : Nat) (f : Nat → Nat) (w : World) (h : AN w b 54 17 (fun i => .pointer (some ⟨f i, 0, none⟩))) (ht : t < 17) : Calls Try.prog 36 #[.pointer (some ⟨b, 0, none⟩), .int .u8 (t : Int)] w fun e w' => e = .returned (.tuple #[.pointer (some ⟨f t, 0, none⟩), .int .i64 0]) ∧ w = w' := by
  have c16 : w.cell? ⟨b, 16, none⟩ = some (.pointer (some ⟨f 16, 0, none⟩)) := h.cell (by omega)
  have ct : w.cell? ⟨b, t, none⟩ = some (.pointer (some ⟨f t, 0, none⟩)) := h.cell ht
  have q1 : decide ((17 : Int) ≤ (t : Int)) = false := by simp; omega
  have q2 : decide ((t : Int) ≥ 17) = false := by simp; omega
  have q3 : (t : Int) < 17 := by omega
  clear h
  go_enter Try.func36, Try.ntmps36
  go_wp2_with fail
  go_ret2
  exact ⟨rfl, rfl⟩
end Go.Proofs.Ytcfdfimkgehdfaa
