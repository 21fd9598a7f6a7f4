/-
  The document's layer 12: Right, May, Ask, gives, Again. No condition but the epoch's range in gives.
-/
import Derived.Test.YtfdboahcaiolgaaAqHa
import Derived.Test.YtfdboahcaiolgaaAqLd
set_option linter.unusedVariables false
set_option linter.unusedSimpArgs false
namespace Go.Proofs.Ytfdboahcaiolgaa
open Go.RowKit


/-- What the document's Hear gives back. -/
def TdPost (w : World) (T : TypeId) (d : Td) (e : Ending) (w' : World) : Prop :=
  ∃ A n q, e = .returned (.agg #[.int .u8 d.s.me, .int .i64 d.s.l.ep, .int .i64 d.s.l.st, .int .u8 d.s.l.to, .string d.s.cg, .bool d.s.kp, .slice A n q, .int .i64 ((d.e : Nat) : Int)]) ∧ RS w' T mc 5 A n q d.r ∧ Below w.heap.size w w'
theorem TdPost.mk' {w : World} {T : TypeId} {d : Td} {w' : World} (me ep st to : Int) (cg : ByteArray) (kp : Bool) (k : Nat) (r : List Mg) {A : Option Addr} {n q : Nat} (hd : d = ⟨⟨me, ⟨ep, st, to⟩, cg, kp⟩, r, k⟩) (hr : RS w' T mc 5 A n q r) (hb : Below w.heap.size w w') :
    TdPost w T d (.returned (.agg #[.int .u8 me, .int .i64 ep, .int .i64 st, .int .u8 to, .string cg, .bool kp, .slice A n q, .int .i64 (k : Int)])) w' := by
  subst hd
  exact ⟨A, n, q, rfl, hr, hb⟩
set_option maxRecDepth 100000 in
set_option maxHeartbeats 4000000 in
theorem hright_r (me ep st to : Int) (cg : ByteArray) (kp : Bool) (w : World) : Calls Try.prog 41 #[.agg #[.int .u8 me, .int .i64 ep, .int .i64 st, .int .u8 to, .string cg, .bool kp]] w fun r w' => r = .returned (.bool (decide (RightS ⟨me, ⟨ep, st, to⟩, cg, kp⟩))) ∧ Below w.heap.size w w' := by
  by_cases h8 : 8 ≤ me
  · have h8' : decide (8 ≤ me) = true := by simp [h8]
    have H := Lib.hid (show decide (RightS ⟨me, ⟨ep, st, to⟩, cg, kp⟩) = false by rw [decide_eq_false_iff_not]; intro h; have := h.1; simp only at this; omega)
    clear h8
    obtain ⟨W1, hW1⟩ : ∃ V, (w.alloc (.cells #[.int .u8 me, .int .i64 ep, .int .i64 st, .int .u8 to, .string cg, .bool kp] 40)).alloc (.cells #[.int .i64 ep, .int .i64 st, .int .u8 to] 38) = V := ⟨_, rfl⟩
    have nW1_s : CB W1 (w.heap.size) 40 #[.int .u8 me, .int .i64 ep, .int .i64 st, .int .u8 to, .string cg, .bool kp] := by
      rw [← hW1]
      have := ((CB.new w 40 #[.int .u8 me, .int .i64 ep, .int .i64 st, .int .u8 to, .string cg, .bool kp]).alloc (.cells #[.int .i64 ep, .int .i64 st, .int .u8 to] 38))
      simpa using this
    have nW1_l : CB W1 (w.heap.size + 1) 38 #[.int .i64 ep, .int .i64 st, .int .u8 to] := by
      rw [← hW1]
      have := (CB.new (w.alloc (.cells #[.int .u8 me, .int .i64 ep, .int .i64 st, .int .u8 to, .string cg, .bool kp] 40)) 38 #[.int .i64 ep, .int .i64 st, .int .u8 to])
      simpa using this
    have neW1_01 : w.heap.size ≠ w.heap.size + 1 := by omega
    have lW1 : Below w.heap.size w W1 := by rw [← hW1]; exact le_tr (le_al _ _) (le_al _ _)
    have HW1 := Lib.hid hW1
    clear hW1
    go_enter Try.func41, Try.ntmps41
    go_wp2_with fail
    rw [HW1.out]
    go_ret
    exact ⟨by rw [H.out]; rfl, lW1⟩
  have h8' : decide (8 ≤ me) = false := by simp; omega
  cases hrt : rightL ⟨ep, st, to⟩ with
  | false =>
    have H := Lib.hid (show decide (RightS ⟨me, ⟨ep, st, to⟩, cg, kp⟩) = false by rw [decide_eq_false_iff_not]; intro h; have := h.2.1; simp only at this; rw [hrt] at this; cases this)
    have R1 := fun W => lright_r ep st to W
    simp only [hrt] at R1
    clear h8 hrt
    obtain ⟨W1, hW1⟩ : ∃ V, (w.alloc (.cells #[.int .u8 me, .int .i64 ep, .int .i64 st, .int .u8 to, .string cg, .bool kp] 40)).alloc (.cells #[.int .i64 ep, .int .i64 st, .int .u8 to] 38) = V := ⟨_, rfl⟩
    have nW1_s : CB W1 (w.heap.size) 40 #[.int .u8 me, .int .i64 ep, .int .i64 st, .int .u8 to, .string cg, .bool kp] := by
      rw [← hW1]
      have := ((CB.new w 40 #[.int .u8 me, .int .i64 ep, .int .i64 st, .int .u8 to, .string cg, .bool kp]).alloc (.cells #[.int .i64 ep, .int .i64 st, .int .u8 to] 38))
      simpa using this
    have nW1_l : CB W1 (w.heap.size + 1) 38 #[.int .i64 ep, .int .i64 st, .int .u8 to] := by
      rw [← hW1]
      have := (CB.new (w.alloc (.cells #[.int .u8 me, .int .i64 ep, .int .i64 st, .int .u8 to, .string cg, .bool kp] 40)) 38 #[.int .i64 ep, .int .i64 st, .int .u8 to])
      simpa using this
    have neW1_01 : w.heap.size ≠ w.heap.size + 1 := by omega
    have lW1 : Below w.heap.size w W1 := by rw [← hW1]; exact le_tr (le_al _ _) (le_al _ _)
    have HW1 := Lib.hid hW1
    clear hW1
    go_enter Try.func41, Try.ntmps41
    go_wp2_with fail
    rw [HW1.out]
    refine (R1 _).mono ?_
    rintro e w2 ⟨rfl, b2⟩
    have r3_s := le_on nW1_s b2
    have r3_l := le_on nW1_l b2
    have l3 := le_tr lW1 b2
    clear nW1_s nW1_l lW1
    clear b2
    go_wp2_with fail
    go_ret
    exact ⟨by rw [H.out]; rfl, l3⟩
  | true =>
    have R1 := fun W => lright_r ep st to W
    simp only [hrt] at R1
    by_cases h5 : cg.size ≤ 500
    · have h5' : decide ((500 : Int) < (cg.size : Int)) = false := by simp; omega
      have D := Lib.hid (show RightS ⟨me, ⟨ep, st, to⟩, cg, kp⟩ ↔ (¬ (st = 2 ∧ to = me) ∧ (cg = ByteArray.empty ∨ st = 1 ∨ kp = true) ∧ (kp = true → st = 2)) by simp [RightS, hrt, h5]; intros; omega)
      clear h8 hrt h5
      obtain ⟨W1, hW1⟩ : ∃ V, (w.alloc (.cells #[.int .u8 me, .int .i64 ep, .int .i64 st, .int .u8 to, .string cg, .bool kp] 40)).alloc (.cells #[.int .i64 ep, .int .i64 st, .int .u8 to] 38) = V := ⟨_, rfl⟩
      have nW1_s : CB W1 (w.heap.size) 40 #[.int .u8 me, .int .i64 ep, .int .i64 st, .int .u8 to, .string cg, .bool kp] := by
        rw [← hW1]
        have := ((CB.new w 40 #[.int .u8 me, .int .i64 ep, .int .i64 st, .int .u8 to, .string cg, .bool kp]).alloc (.cells #[.int .i64 ep, .int .i64 st, .int .u8 to] 38))
        simpa using this
      have nW1_l : CB W1 (w.heap.size + 1) 38 #[.int .i64 ep, .int .i64 st, .int .u8 to] := by
        rw [← hW1]
        have := (CB.new (w.alloc (.cells #[.int .u8 me, .int .i64 ep, .int .i64 st, .int .u8 to, .string cg, .bool kp] 40)) 38 #[.int .i64 ep, .int .i64 st, .int .u8 to])
        simpa using this
      have neW1_01 : w.heap.size ≠ w.heap.size + 1 := by omega
      have lW1 : Below w.heap.size w W1 := by rw [← hW1]; exact le_tr (le_al _ _) (le_al _ _)
      have HW1 := Lib.hid hW1
      clear hW1
      go_enter Try.func41, Try.ntmps41
      go_wp2_with fail
      rw [HW1.out]
      refine (R1 _).mono ?_
      rintro e w2 ⟨rfl, b2⟩
      have r3_s := le_on nW1_s b2
      have r3_l := le_on nW1_l b2
      have l3 := le_tr lW1 b2
      clear nW1_s nW1_l lW1
      clear b2
      have f3_s0 : w2.cell? ⟨w.heap.size, 0, none⟩ = some (.int .u8 me) := CB.cell r3_s 0
      have f3_s1 : w2.cell? ⟨w.heap.size, 1, none⟩ = some (.int .i64 ep) := CB.cell r3_s 1
      have f3_s2 : w2.cell? ⟨w.heap.size, 2, none⟩ = some (.int .i64 st) := CB.cell r3_s 2
      have f3_s3 : w2.cell? ⟨w.heap.size, 3, none⟩ = some (.int .u8 to) := CB.cell r3_s 3
      have f3_s4 : w2.cell? ⟨w.heap.size, 4, none⟩ = some (.string cg) := CB.cell r3_s 4
      have f3_s5 : w2.cell? ⟨w.heap.size, 5, none⟩ = some (.bool kp) := CB.cell r3_s 5
      have f3_l0 : w2.cell? ⟨w.heap.size + 1, 0, none⟩ = some (.int .i64 ep) := CB.cell r3_l 0
      have f3_l1 : w2.cell? ⟨w.heap.size + 1, 1, none⟩ = some (.int .i64 st) := CB.cell r3_l 1
      have f3_l2 : w2.cell? ⟨w.heap.size + 1, 2, none⟩ = some (.int .u8 to) := CB.cell r3_l 2
      go_wp2_with fail
      all_goals go_ret
      all_goals refine ⟨ret_bool ?_, l3⟩
      all_goals (have D' := D.out; clear D)
      all_goals (rw [Bool.eq_iff_iff, decide_eq_true_iff, D']; clear D')
      all_goals clear f3_s0 f3_s1 f3_s2 f3_s3 f3_s4 f3_s5 f3_l0 f3_l1 f3_l2 r3_s r3_l l3 R1
      all_goals simp_all [tl_nil]
    · have h5' : decide ((500 : Int) < (cg.size : Int)) = true := by simp; omega
      have H := Lib.hid (show decide (RightS ⟨me, ⟨ep, st, to⟩, cg, kp⟩) = false by rw [decide_eq_false_iff_not]; intro h; exact h5 h.2.2.2.1)
      clear h8 hrt h5
      obtain ⟨W1, hW1⟩ : ∃ V, (w.alloc (.cells #[.int .u8 me, .int .i64 ep, .int .i64 st, .int .u8 to, .string cg, .bool kp] 40)).alloc (.cells #[.int .i64 ep, .int .i64 st, .int .u8 to] 38) = V := ⟨_, rfl⟩
      have nW1_s : CB W1 (w.heap.size) 40 #[.int .u8 me, .int .i64 ep, .int .i64 st, .int .u8 to, .string cg, .bool kp] := by
        rw [← hW1]
        have := ((CB.new w 40 #[.int .u8 me, .int .i64 ep, .int .i64 st, .int .u8 to, .string cg, .bool kp]).alloc (.cells #[.int .i64 ep, .int .i64 st, .int .u8 to] 38))
        simpa using this
      have nW1_l : CB W1 (w.heap.size + 1) 38 #[.int .i64 ep, .int .i64 st, .int .u8 to] := by
        rw [← hW1]
        have := (CB.new (w.alloc (.cells #[.int .u8 me, .int .i64 ep, .int .i64 st, .int .u8 to, .string cg, .bool kp] 40)) 38 #[.int .i64 ep, .int .i64 st, .int .u8 to])
        simpa using this
      have neW1_01 : w.heap.size ≠ w.heap.size + 1 := by omega
      have lW1 : Below w.heap.size w W1 := by rw [← hW1]; exact le_tr (le_al _ _) (le_al _ _)
      have HW1 := Lib.hid hW1
      clear hW1
      go_enter Try.func41, Try.ntmps41
      go_wp2_with fail
      rw [HW1.out]
      refine (R1 _).mono ?_
      rintro e w2 ⟨rfl, b2⟩
      have r3_s := le_on nW1_s b2
      have r3_l := le_on nW1_l b2
      have l3 := le_tr lW1 b2
      clear nW1_s nW1_l lW1
      clear b2
      have f3_s0 : w2.cell? ⟨w.heap.size, 0, none⟩ = some (.int .u8 me) := CB.cell r3_s 0
      have f3_s1 : w2.cell? ⟨w.heap.size, 1, none⟩ = some (.int .i64 ep) := CB.cell r3_s 1
      have f3_s2 : w2.cell? ⟨w.heap.size, 2, none⟩ = some (.int .i64 st) := CB.cell r3_s 2
      have f3_s3 : w2.cell? ⟨w.heap.size, 3, none⟩ = some (.int .u8 to) := CB.cell r3_s 3
      have f3_s4 : w2.cell? ⟨w.heap.size, 4, none⟩ = some (.string cg) := CB.cell r3_s 4
      have f3_s5 : w2.cell? ⟨w.heap.size, 5, none⟩ = some (.bool kp) := CB.cell r3_s 5
      have f3_l0 : w2.cell? ⟨w.heap.size + 1, 0, none⟩ = some (.int .i64 ep) := CB.cell r3_l 0
      have f3_l1 : w2.cell? ⟨w.heap.size + 1, 1, none⟩ = some (.int .i64 st) := CB.cell r3_l 1
      have f3_l2 : w2.cell? ⟨w.heap.size + 1, 2, none⟩ = some (.int .u8 to) := CB.cell r3_l 2
      go_wp2_with fail
      go_ret
      exact ⟨by rw [H.out]; rfl, l3⟩
end Go.Proofs.Ytfdboahcaiolgaa
