/-
  The document's layer 12: Right, May, Ask, gives, Again. No condition but the epoch's range in gives.
-/
import Derived.Test.YtmghckddofefkaaHaA
import Derived.Test.YtmghckddofefkaaLeD
set_option linter.unusedVariables false
set_option linter.unusedSimpArgs false
namespace Go.Proofs.Ytmghckddofefkaa
open Go.RowKit


/-- What the document's Hear gives back. -/
def TdPost (w : World) (T : TypeId) (d : Td) (e : Ending) (w' : World) : Prop :=
  ∃ A n q, e = .returned (.agg #[.int .u8 d.s.me, .int .i64 d.s.l.ep, .int .i64 d.s.l.st, .int .u8 d.s.l.to, .string d.s.cg, .bool d.s.kp, .slice A n q, .int .i64 ((d.e : Nat) : Int)]) ∧ RS w' T mc 5 A n q d.r ∧ Below w.heap.size w w'
theorem TdPost.mk' {w : World} {T : TypeId} {d : Td} {w' : World} (me ep st to : Int) (cg : ByteArray) (kp : Bool) (k : Nat) (r : List Mg) {A : Option Addr} {n q : Nat} (hd : d = ⟨⟨me, ⟨ep, st, to⟩, cg, kp⟩, r, k⟩) (hr : RS w' T mc 5 A n q r) (hb : Below w.heap.size w w') :
    TdPost w T d (.returned (.agg #[.int .u8 me, .int .i64 ep, .int .i64 st, .int .u8 to, .string cg, .bool kp, .slice A n q, .int .i64 (k : Int)])) w' := by
  subst hd
  exact ⟨A, n, q, rfl, hr, hb⟩
set_option maxRecDepth 100000 in
set_option maxHeartbeats 4000000 in
theorem hright_r (me ep st to : Int) (cg : ByteArray) (kp : Bool) (w : World) : Calls Try.prog 19 #[.agg #[.int .u8 me, .int .i64 ep, .int .i64 st, .int .u8 to, .string cg, .bool kp]] w fun r w' => r = .returned (.bool (decide (RightS ⟨me, ⟨ep, st, to⟩, cg, kp⟩))) ∧ Below w.heap.size w w' := by
  by_cases h8 : 8 ≤ me
  · have h8' : decide (8 ≤ me) = true := by simp [h8]
    have H := Lib.hid (show decide (RightS ⟨me, ⟨ep, st, to⟩, cg, kp⟩) = false by rw [decide_eq_false_iff_not]; intro h; have := h.1; simp only at this; omega)
    clear h8
    obtain ⟨W1, hW1⟩ : ∃ V, (w.alloc (.cells #[.int .u8 me, .int .i64 ep, .int .i64 st, .int .u8 to, .string cg, .bool kp] 25)).alloc (.cells #[.int .i64 ep, .int .i64 st, .int .u8 to] 23) = V := ⟨_, rfl⟩
    have nW1_s : CB W1 (w.heap.size) 25 #[.int .u8 me, .int .i64 ep, .int .i64 st, .int .u8 to, .string cg, .bool kp] := by
      rw [← hW1]
      have := ((CB.new w 25 #[.int .u8 me, .int .i64 ep, .int .i64 st, .int .u8 to, .string cg, .bool kp]).alloc (.cells #[.int .i64 ep, .int .i64 st, .int .u8 to] 23))
      simpa using this
    have nW1_l : CB W1 (w.heap.size + 1) 23 #[.int .i64 ep, .int .i64 st, .int .u8 to] := by
      rw [← hW1]
      have := (CB.new (w.alloc (.cells #[.int .u8 me, .int .i64 ep, .int .i64 st, .int .u8 to, .string cg, .bool kp] 25)) 23 #[.int .i64 ep, .int .i64 st, .int .u8 to])
      simpa using this
    have neW1_01 : w.heap.size ≠ w.heap.size + 1 := by omega
    have lW1 : Below w.heap.size w W1 := by rw [← hW1]; exact le_tr (le_al _ _) (le_al _ _)
    have HW1 := Lib.hid hW1
    clear hW1
    go_enter Try.func19, Try.ntmps19
    go_wp2_with fail
    rw [HW1.out]
    go_ret
    exact ⟨by rw [H.out]; rfl, lW1⟩
  have h8' : decide (8 ≤ me) = false := by simp; omega
  cases hrt : rightL ⟨ep, st, to⟩ with
  | false =>
    have H := Lib.hid (show decide (RightS ⟨me, ⟨ep, st, to⟩, cg, kp⟩) = false by rw [decide_eq_false_iff_not]; intro h; have := h.2.1; simp only at this; rw [hrt] at this; cases this)
    have R1 := fun W => right_r ep st to W
    simp only [hrt] at R1
    clear h8 hrt
    obtain ⟨W1, hW1⟩ : ∃ V, (w.alloc (.cells #[.int .u8 me, .int .i64 ep, .int .i64 st, .int .u8 to, .string cg, .bool kp] 25)).alloc (.cells #[.int .i64 ep, .int .i64 st, .int .u8 to] 23) = V := ⟨_, rfl⟩
    have nW1_s : CB W1 (w.heap.size) 25 #[.int .u8 me, .int .i64 ep, .int .i64 st, .int .u8 to, .string cg, .bool kp] := by
      rw [← hW1]
      have := ((CB.new w 25 #[.int .u8 me, .int .i64 ep, .int .i64 st, .int .u8 to, .string cg, .bool kp]).alloc (.cells #[.int .i64 ep, .int .i64 st, .int .u8 to] 23))
      simpa using this
    have nW1_l : CB W1 (w.heap.size + 1) 23 #[.int .i64 ep, .int .i64 st, .int .u8 to] := by
      rw [← hW1]
      have := (CB.new (w.alloc (.cells #[.int .u8 me, .int .i64 ep, .int .i64 st, .int .u8 to, .string cg, .bool kp] 25)) 23 #[.int .i64 ep, .int .i64 st, .int .u8 to])
      simpa using this
    have neW1_01 : w.heap.size ≠ w.heap.size + 1 := by omega
    have lW1 : Below w.heap.size w W1 := by rw [← hW1]; exact le_tr (le_al _ _) (le_al _ _)
    have HW1 := Lib.hid hW1
    clear hW1
    go_enter Try.func19, Try.ntmps19
    go_wp2_with fail
    rw [HW1.out]
    refine (R1 _).mono ?_
    rintro e w2 ⟨rfl, b2⟩
    have r3_s := le_on nW1_s b2
    have r3_l := le_on nW1_l b2
    have l3 := le_tr lW1 b2
    clear nW1_s nW1_l lW1
    clear b2
    go_wp2_with fail
    go_ret
    exact ⟨by rw [H.out]; rfl, l3⟩
  | true =>
    have R1 := fun W => right_r ep st to W
    simp only [hrt] at R1
    by_cases h5 : cg.size ≤ 500
    · have h5' : decide ((500 : Int) < (cg.size : Int)) = false := by simp; omega
      have D := Lib.hid (show RightS ⟨me, ⟨ep, st, to⟩, cg, kp⟩ ↔ (¬ (st = 2 ∧ to = me) ∧ (cg = ByteArray.empty ∨ st = 1 ∨ kp = true) ∧ (kp = true → st = 2)) by simp [RightS, hrt, h5]; intros; omega)
      clear h8 hrt h5
      obtain ⟨W1, hW1⟩ : ∃ V, (w.alloc (.cells #[.int .u8 me, .int .i64 ep, .int .i64 st, .int .u8 to, .string cg, .bool kp] 25)).alloc (.cells #[.int .i64 ep, .int .i64 st, .int .u8 to] 23) = V := ⟨_, rfl⟩
      have nW1_s : CB W1 (w.heap.size) 25 #[.int .u8 me, .int .i64 ep, .int .i64 st, .int .u8 to, .string cg, .bool kp] := by
        rw [← hW1]
        have := ((CB.new w 25 #[.int .u8 me, .int .i64 ep, .int .i64 st, .int .u8 to, .string cg, .bool kp]).alloc (.cells #[.int .i64 ep, .int .i64 st, .int .u8 to] 23))
        simpa using this
      have nW1_l : CB W1 (w.heap.size + 1) 23 #[.int .i64 ep, .int .i64 st, .int .u8 to] := by
        rw [← hW1]
        have := (CB.new (w.alloc (.cells #[.int .u8 me, .int .i64 ep, .int .i64 st, .int .u8 to, .string cg, .bool kp] 25)) 23 #[.int .i64 ep, .int .i64 st, .int .u8 to])
        simpa using this
      have neW1_01 : w.heap.size ≠ w.heap.size + 1 := by omega
      have lW1 : Below w.heap.size w W1 := by rw [← hW1]; exact le_tr (le_al _ _) (le_al _ _)
      have HW1 := Lib.hid hW1
      clear hW1
      go_enter Try.func19, Try.ntmps19
      go_wp2_with fail
      rw [HW1.out]
      refine (R1 _).mono ?_
      rintro e w2 ⟨rfl, b2⟩
      have r3_s := le_on nW1_s b2
      have r3_l := le_on nW1_l b2
      have l3 := le_tr lW1 b2
      clear nW1_s nW1_l lW1
      clear b2
      have f3_s0 : w2.cell? ⟨w.heap.size, 0, none⟩ = some (.int .u8 me) := CB.cell r3_s 0
      have f3_s1 : w2.cell? ⟨w.heap.size, 1, none⟩ = some (.int .i64 ep) := CB.cell r3_s 1
      have f3_s2 : w2.cell? ⟨w.heap.size, 2, none⟩ = some (.int .i64 st) := CB.cell r3_s 2
      have f3_s3 : w2.cell? ⟨w.heap.size, 3, none⟩ = some (.int .u8 to) := CB.cell r3_s 3
      have f3_s4 : w2.cell? ⟨w.heap.size, 4, none⟩ = some (.string cg) := CB.cell r3_s 4
      have f3_s5 : w2.cell? ⟨w.heap.size, 5, none⟩ = some (.bool kp) := CB.cell r3_s 5
      have f3_l0 : w2.cell? ⟨w.heap.size + 1, 0, none⟩ = some (.int .i64 ep) := CB.cell r3_l 0
      have f3_l1 : w2.cell? ⟨w.heap.size + 1, 1, none⟩ = some (.int .i64 st) := CB.cell r3_l 1
      have f3_l2 : w2.cell? ⟨w.heap.size + 1, 2, none⟩ = some (.int .u8 to) := CB.cell r3_l 2
      go_wp2_with fail
      all_goals go_ret
      all_goals refine ⟨ret_bool ?_, l3⟩
      all_goals (have D' := D.out; clear D)
      all_goals (rw [Bool.eq_iff_iff, decide_eq_true_iff, D']; clear D')
      all_goals clear f3_s0 f3_s1 f3_s2 f3_s3 f3_s4 f3_s5 f3_l0 f3_l1 f3_l2 r3_s r3_l l3 R1
      all_goals simp_all [tl_nil]
    · have h5' : decide ((500 : Int) < (cg.size : Int)) = true := by simp; omega
      have H := Lib.hid (show decide (RightS ⟨me, ⟨ep, st, to⟩, cg, kp⟩) = false by rw [decide_eq_false_iff_not]; intro h; exact h5 h.2.2.2.1)
      clear h8 hrt h5
      obtain ⟨W1, hW1⟩ : ∃ V, (w.alloc (.cells #[.int .u8 me, .int .i64 ep, .int .i64 st, .int .u8 to, .string cg, .bool kp] 25)).alloc (.cells #[.int .i64 ep, .int .i64 st, .int .u8 to] 23) = V := ⟨_, rfl⟩
      have nW1_s : CB W1 (w.heap.size) 25 #[.int .u8 me, .int .i64 ep, .int .i64 st, .int .u8 to, .string cg, .bool kp] := by
        rw [← hW1]
        have := ((CB.new w 25 #[.int .u8 me, .int .i64 ep, .int .i64 st, .int .u8 to, .string cg, .bool kp]).alloc (.cells #[.int .i64 ep, .int .i64 st, .int .u8 to] 23))
        simpa using this
      have nW1_l : CB W1 (w.heap.size + 1) 23 #[.int .i64 ep, .int .i64 st, .int .u8 to] := by
        rw [← hW1]
        have := (CB.new (w.alloc (.cells #[.int .u8 me, .int .i64 ep, .int .i64 st, .int .u8 to, .string cg, .bool kp] 25)) 23 #[.int .i64 ep, .int .i64 st, .int .u8 to])
        simpa using this
      have neW1_01 : w.heap.size ≠ w.heap.size + 1 := by omega
      have lW1 : Below w.heap.size w W1 := by rw [← hW1]; exact le_tr (le_al _ _) (le_al _ _)
      have HW1 := Lib.hid hW1
      clear hW1
      go_enter Try.func19, Try.ntmps19
      go_wp2_with fail
      rw [HW1.out]
      refine (R1 _).mono ?_
      rintro e w2 ⟨rfl, b2⟩
      have r3_s := le_on nW1_s b2
      have r3_l := le_on nW1_l b2
      have l3 := le_tr lW1 b2
      clear nW1_s nW1_l lW1
      clear b2
      have f3_s0 : w2.cell? ⟨w.heap.size, 0, none⟩ = some (.int .u8 me) := CB.cell r3_s 0
      have f3_s1 : w2.cell? ⟨w.heap.size, 1, none⟩ = some (.int .i64 ep) := CB.cell r3_s 1
      have f3_s2 : w2.cell? ⟨w.heap.size, 2, none⟩ = some (.int .i64 st) := CB.cell r3_s 2
      have f3_s3 : w2.cell? ⟨w.heap.size, 3, none⟩ = some (.int .u8 to) := CB.cell r3_s 3
      have f3_s4 : w2.cell? ⟨w.heap.size, 4, none⟩ = some (.string cg) := CB.cell r3_s 4
      have f3_s5 : w2.cell? ⟨w.heap.size, 5, none⟩ = some (.bool kp) := CB.cell r3_s 5
      have f3_l0 : w2.cell? ⟨w.heap.size + 1, 0, none⟩ = some (.int .i64 ep) := CB.cell r3_l 0
      have f3_l1 : w2.cell? ⟨w.heap.size + 1, 1, none⟩ = some (.int .i64 st) := CB.cell r3_l 1
      have f3_l2 : w2.cell? ⟨w.heap.size + 1, 2, none⟩ = some (.int .u8 to) := CB.cell r3_l 2
      go_wp2_with fail
      go_ret
      exact ⟨by rw [H.out]; rfl, l3⟩
set_option maxRecDepth 100000 in
set_option maxHeartbeats 4000000 in
theorem may_r (kd fr t e : Int) (mg : ByteArray) (w : World) : Calls Try.prog 42 #[.agg #[.int .i64 kd, .int .u8 fr, .int .u8 t, .int .i64 e, .string mg]] w fun r w' => r = .returned (.bool (decide (MayM ⟨kd, fr, t, e, mg⟩))) ∧ Below w.heap.size w w' := by
  have D := Lib.hid (show MayM ⟨kd, fr, t, e, mg⟩ ↔ ((1 ≤ kd ∧ kd ≤ 4) ∧ fr < 8 ∧ t < 8 ∧ fr ≠ t ∧ (1 ≤ e ∧ e ≤ 1048576) ∧ (mg = ByteArray.empty ∨ (kd = 3 ∧ mg.size ≤ 500))) by
    have hz : mg.size = 0 ↔ mg = ByteArray.empty := by simp
    rw [← hz]; unfold MayM; simp only)
  by_cases hk : kd = 3
  · have hk' : (kd == 3) = true := by simp [hk]
    have Hk := Lib.hid hk
    clear hk
    obtain ⟨W1, hW1⟩ : ∃ V, w.alloc (.cells #[.int .i64 kd, .int .u8 fr, .int .u8 t, .int .i64 e, .string mg] 27) = V := ⟨_, rfl⟩
    have nW1_m : CB W1 (w.heap.size) 27 #[.int .i64 kd, .int .u8 fr, .int .u8 t, .int .i64 e, .string mg] := by
      rw [← hW1]
      have := (CB.new w 27 #[.int .i64 kd, .int .u8 fr, .int .u8 t, .int .i64 e, .string mg])
      simpa using this
    have lW1 : Below w.heap.size w W1 := by rw [← hW1]; exact le_al _ _
    have HW1 := Lib.hid hW1
    clear hW1
    go_enter Try.func42, Try.ntmps42
    go_wp2_with fail
    all_goals rw [HW1.out]
    all_goals go_ret
    all_goals refine ⟨ret_bool ?_, lW1⟩
    all_goals (have D' := D.out; have hk := Hk.out; clear D Hk hk')
    all_goals (rw [Bool.eq_iff_iff]; simp only [decide_eq_true_eq]; rw [D']; clear D')
    all_goals clear nW1_m lW1 HW1
    all_goals (simp_all [tl_nil]; try omega)
  · have hk' : (kd == 3) = false := by simp [hk]
    have Hk := Lib.hid hk
    clear hk
    obtain ⟨W1, hW1⟩ : ∃ V, w.alloc (.cells #[.int .i64 kd, .int .u8 fr, .int .u8 t, .int .i64 e, .string mg] 27) = V := ⟨_, rfl⟩
    have nW1_m : CB W1 (w.heap.size) 27 #[.int .i64 kd, .int .u8 fr, .int .u8 t, .int .i64 e, .string mg] := by
      rw [← hW1]
      have := (CB.new w 27 #[.int .i64 kd, .int .u8 fr, .int .u8 t, .int .i64 e, .string mg])
      simpa using this
    have lW1 : Below w.heap.size w W1 := by rw [← hW1]; exact le_al _ _
    have HW1 := Lib.hid hW1
    clear hW1
    go_enter Try.func42, Try.ntmps42
    go_wp2_with fail
    all_goals rw [HW1.out]
    all_goals go_ret
    all_goals refine ⟨ret_bool ?_, lW1⟩
    all_goals (have D' := D.out; have hk := Hk.out; clear D Hk hk')
    all_goals (rw [Bool.eq_iff_iff]; simp only [decide_eq_true_eq]; rw [D']; clear D')
    all_goals clear nW1_m lW1 HW1
    all_goals (simp_all [tl_nil]; try omega)
set_option maxRecDepth 100000 in
set_option maxHeartbeats 4000000 in
theorem ask_r (me ep st to : Int) (cg : ByteArray) (kp : Bool) (x : Int) (w : World) : Calls Try.prog 17 #[.agg #[.int .u8 me, .int .i64 ep, .int .i64 st, .int .u8 to, .string cg, .bool kp], .int .u8 x] w fun r w' => r = .returned (.tuple #[.agg #[.int .i64 (mAsk ⟨me, ⟨ep, st, to⟩, cg, kp⟩ x).kd, .int .u8 (mAsk ⟨me, ⟨ep, st, to⟩, cg, kp⟩ x).fr, .int .u8 (mAsk ⟨me, ⟨ep, st, to⟩, cg, kp⟩ x).to, .int .i64 (mAsk ⟨me, ⟨ep, st, to⟩, cg, kp⟩ x).ep, .string (mAsk ⟨me, ⟨ep, st, to⟩, cg, kp⟩ x).cg], .int .i64 ((eAsk ⟨me, ⟨ep, st, to⟩, cg, kp⟩ x : Nat) : Int)]) ∧ Below w.heap.size w w' := by
  cases hR : decide (RightS ⟨me, ⟨ep, st, to⟩, cg, kp⟩) with
  | false =>
    have hR' := of_decide_eq_false hR
    have He := Lib.hid (show eAsk ⟨me, ⟨ep, st, to⟩, cg, kp⟩ x = 2 by unfold eAsk; simp [hR'])
    have Hm := Lib.hid (show mAsk ⟨me, ⟨ep, st, to⟩, cg, kp⟩ x = mg0 by unfold mAsk; rw [He.out]; rfl)
    have R1 := fun W => hright_r me ep st to cg kp W
    simp only [hR] at R1
    clear hR hR'
    obtain ⟨W1, hW1⟩ : ∃ V, (w.alloc (.cells #[.int .u8 me, .int .i64 ep, .int .i64 st, .int .u8 to, .string cg, .bool kp] 25)).alloc (.cells #[.int .i64 0, .int .u8 0, .int .u8 0, .int .i64 0, .string ⟨#[]⟩] 27) = V := ⟨_, rfl⟩
    have nW1_s : CB W1 (w.heap.size) 25 #[.int .u8 me, .int .i64 ep, .int .i64 st, .int .u8 to, .string cg, .bool kp] := by
      rw [← hW1]
      have := ((CB.new w 25 #[.int .u8 me, .int .i64 ep, .int .i64 st, .int .u8 to, .string cg, .bool kp]).alloc (.cells #[.int .i64 0, .int .u8 0, .int .u8 0, .int .i64 0, .string ⟨#[]⟩] 27))
      simpa using this
    have nW1_r : CB W1 (w.heap.size + 1) 27 #[.int .i64 0, .int .u8 0, .int .u8 0, .int .i64 0, .string ⟨#[]⟩] := by
      rw [← hW1]
      have := (CB.new (w.alloc (.cells #[.int .u8 me, .int .i64 ep, .int .i64 st, .int .u8 to, .string cg, .bool kp] 25)) 27 #[.int .i64 0, .int .u8 0, .int .u8 0, .int .i64 0, .string ⟨#[]⟩])
      simpa using this
    have neW1_01 : w.heap.size ≠ w.heap.size + 1 := by omega
    have lW1 : Below w.heap.size w W1 := by rw [← hW1]; exact le_tr (le_al _ _) (le_al _ _)
    have HW1 := Lib.hid hW1
    clear hW1
    go_enter Try.func17, Try.ntmps17
    go_wp2_with fail
    rw [HW1.out]
    refine (R1 _).mono ?_
    rintro e w2 ⟨rfl, b2⟩
    have r3_s := le_on nW1_s b2
    have r3_r := le_on nW1_r b2
    have l3 := le_tr lW1 b2
    clear nW1_s nW1_r lW1
    clear b2
    have f3_s0 : w2.cell? ⟨w.heap.size, 0, none⟩ = some (.int .u8 me) := CB.cell r3_s 0
    have f3_s1 : w2.cell? ⟨w.heap.size, 1, none⟩ = some (.int .i64 ep) := CB.cell r3_s 1
    have f3_s2 : w2.cell? ⟨w.heap.size, 2, none⟩ = some (.int .i64 st) := CB.cell r3_s 2
    have f3_s3 : w2.cell? ⟨w.heap.size, 3, none⟩ = some (.int .u8 to) := CB.cell r3_s 3
    have f3_s4 : w2.cell? ⟨w.heap.size, 4, none⟩ = some (.string cg) := CB.cell r3_s 4
    have f3_s5 : w2.cell? ⟨w.heap.size, 5, none⟩ = some (.bool kp) := CB.cell r3_s 5
    have f3_r0 : w2.cell? ⟨w.heap.size + 1, 0, none⟩ = some (.int .i64 0) := CB.cell r3_r 0
    have z3_r0 : w2.frozen? ⟨w.heap.size + 1, 0, none⟩ = false := CB.frozen r3_r 0
    have f3_r1 : w2.cell? ⟨w.heap.size + 1, 1, none⟩ = some (.int .u8 0) := CB.cell r3_r 1
    have z3_r1 : w2.frozen? ⟨w.heap.size + 1, 1, none⟩ = false := CB.frozen r3_r 1
    have f3_r2 : w2.cell? ⟨w.heap.size + 1, 2, none⟩ = some (.int .u8 0) := CB.cell r3_r 2
    have z3_r2 : w2.frozen? ⟨w.heap.size + 1, 2, none⟩ = false := CB.frozen r3_r 2
    have f3_r3 : w2.cell? ⟨w.heap.size + 1, 3, none⟩ = some (.int .i64 0) := CB.cell r3_r 3
    have z3_r3 : w2.frozen? ⟨w.heap.size + 1, 3, none⟩ = false := CB.frozen r3_r 3
    have f3_r4 : w2.cell? ⟨w.heap.size + 1, 4, none⟩ = some (.string ⟨#[]⟩) := CB.cell r3_r 4
    have z3_r4 : w2.frozen? ⟨w.heap.size + 1, 4, none⟩ = false := CB.frozen r3_r 4
    obtain ⟨V4, hV4⟩ : ∃ V, ((((w2.setCell ⟨w.heap.size + 1, 0, none⟩ (.int .i64 0)).setCell ⟨w.heap.size + 1, 1, none⟩ (.int .u8 0)).setCell ⟨w.heap.size + 1, 2, none⟩ (.int .u8 0)).setCell ⟨w.heap.size + 1, 3, none⟩ (.int .i64 0)).setCell ⟨w.heap.size + 1, 4, none⟩ (.string ⟨#[]⟩) = V := ⟨_, rfl⟩
    have nV4 : CB V4 (w.heap.size + 1) 27 #[.int .i64 0, .int .u8 0, .int .u8 0, .int .i64 0, .string ⟨#[]⟩] := by rw [← hV4]; exact cb_cast (CB.put (CB.put (CB.put (CB.put (CB.put r3_r 0 (.int .i64 0)) 1 (.int .u8 0)) 2 (.int .u8 0)) 3 (.int .i64 0)) 4 (.string ⟨#[]⟩)) (by kernel_rfl)
    have mV4_s : CB V4 (w.heap.size) 25 #[.int .u8 me, .int .i64 ep, .int .i64 st, .int .u8 to, .string cg, .bool kp] := by rw [← hV4]; exact (CB.far (CB.far (CB.far (CB.far (CB.far r3_s (p := ⟨w.heap.size + 1, 0, none⟩) neW1_01 (.int .i64 0)) (p := ⟨w.heap.size + 1, 1, none⟩) neW1_01 (.int .u8 0)) (p := ⟨w.heap.size + 1, 2, none⟩) neW1_01 (.int .u8 0)) (p := ⟨w.heap.size + 1, 3, none⟩) neW1_01 (.int .i64 0)) (p := ⟨w.heap.size + 1, 4, none⟩) neW1_01 (.string ⟨#[]⟩))
    have oV4 := (Below.setCell (Below.setCell (Below.setCell (Below.setCell (Below.setCell l3 (p := ⟨w.heap.size + 1, 0, none⟩) (by dsimp only; omega) (.int .i64 0)) (p := ⟨w.heap.size + 1, 1, none⟩) (by dsimp only; omega) (.int .u8 0)) (p := ⟨w.heap.size + 1, 2, none⟩) (by dsimp only; omega) (.int .u8 0)) (p := ⟨w.heap.size + 1, 3, none⟩) (by dsimp only; omega) (.int .i64 0)) (p := ⟨w.heap.size + 1, 4, none⟩) (by dsimp only; omega) (.string ⟨#[]⟩))
    rw [hV4] at oV4
    have HV4 := Lib.hid hV4
    clear hV4
    clear r3_r r3_s l3
    go_wp2_with fail
    rw [HV4.out]
    have x_r0 : V4.cell? ⟨w.heap.size + 1, 0, none⟩ = some (.int .i64 0) := CB.cell nV4 0
    have x_r1 : V4.cell? ⟨w.heap.size + 1, 1, none⟩ = some (.int .u8 0) := CB.cell nV4 1
    have x_r2 : V4.cell? ⟨w.heap.size + 1, 2, none⟩ = some (.int .u8 0) := CB.cell nV4 2
    have x_r3 : V4.cell? ⟨w.heap.size + 1, 3, none⟩ = some (.int .i64 0) := CB.cell nV4 3
    have x_r4 : V4.cell? ⟨w.heap.size + 1, 4, none⟩ = some (.string ⟨#[]⟩) := CB.cell nV4 4
    exact bodyPost_ret (v := .tuple #[.agg #[.int .i64 0, .int .u8 0, .int .u8 0, .int .i64 0, .string ⟨#[]⟩], .int .i64 2]) (by simp [results, Try.results17, go_sem, x_r0, x_r1, x_r2, x_r3, x_r4]) rfl ⟨by rw [He.out, Hm.out]; rfl, oV4⟩
  | true =>
    have hR' := of_decide_eq_true hR
    by_cases h8 : 8 ≤ x
    · have h8' : decide (8 ≤ x) = true := by simp [h8]
      have He := Lib.hid (show eAsk ⟨me, ⟨ep, st, to⟩, cg, kp⟩ x = 2 by unfold eAsk; simp [h8])
      have Hm := Lib.hid (show mAsk ⟨me, ⟨ep, st, to⟩, cg, kp⟩ x = mg0 by unfold mAsk; rw [He.out]; rfl)
      have R1 := fun W => hright_r me ep st to cg kp W
      simp only [hR] at R1
      clear hR hR' h8
      obtain ⟨W1, hW1⟩ : ∃ V, (w.alloc (.cells #[.int .u8 me, .int .i64 ep, .int .i64 st, .int .u8 to, .string cg, .bool kp] 25)).alloc (.cells #[.int .i64 0, .int .u8 0, .int .u8 0, .int .i64 0, .string ⟨#[]⟩] 27) = V := ⟨_, rfl⟩
      have nW1_s : CB W1 (w.heap.size) 25 #[.int .u8 me, .int .i64 ep, .int .i64 st, .int .u8 to, .string cg, .bool kp] := by
        rw [← hW1]
        have := ((CB.new w 25 #[.int .u8 me, .int .i64 ep, .int .i64 st, .int .u8 to, .string cg, .bool kp]).alloc (.cells #[.int .i64 0, .int .u8 0, .int .u8 0, .int .i64 0, .string ⟨#[]⟩] 27))
        simpa using this
      have nW1_r : CB W1 (w.heap.size + 1) 27 #[.int .i64 0, .int .u8 0, .int .u8 0, .int .i64 0, .string ⟨#[]⟩] := by
        rw [← hW1]
        have := (CB.new (w.alloc (.cells #[.int .u8 me, .int .i64 ep, .int .i64 st, .int .u8 to, .string cg, .bool kp] 25)) 27 #[.int .i64 0, .int .u8 0, .int .u8 0, .int .i64 0, .string ⟨#[]⟩])
        simpa using this
      have neW1_01 : w.heap.size ≠ w.heap.size + 1 := by omega
      have lW1 : Below w.heap.size w W1 := by rw [← hW1]; exact le_tr (le_al _ _) (le_al _ _)
      have HW1 := Lib.hid hW1
      clear hW1
      go_enter Try.func17, Try.ntmps17
      go_wp2_with fail
      rw [HW1.out]
      refine (R1 _).mono ?_
      rintro e w2 ⟨rfl, b2⟩
      have r3_s := le_on nW1_s b2
      have r3_r := le_on nW1_r b2
      have l3 := le_tr lW1 b2
      clear nW1_s nW1_r lW1
      clear b2
      have f3_s0 : w2.cell? ⟨w.heap.size, 0, none⟩ = some (.int .u8 me) := CB.cell r3_s 0
      have f3_s1 : w2.cell? ⟨w.heap.size, 1, none⟩ = some (.int .i64 ep) := CB.cell r3_s 1
      have f3_s2 : w2.cell? ⟨w.heap.size, 2, none⟩ = some (.int .i64 st) := CB.cell r3_s 2
      have f3_s3 : w2.cell? ⟨w.heap.size, 3, none⟩ = some (.int .u8 to) := CB.cell r3_s 3
      have f3_s4 : w2.cell? ⟨w.heap.size, 4, none⟩ = some (.string cg) := CB.cell r3_s 4
      have f3_s5 : w2.cell? ⟨w.heap.size, 5, none⟩ = some (.bool kp) := CB.cell r3_s 5
      have f3_r0 : w2.cell? ⟨w.heap.size + 1, 0, none⟩ = some (.int .i64 0) := CB.cell r3_r 0
      have z3_r0 : w2.frozen? ⟨w.heap.size + 1, 0, none⟩ = false := CB.frozen r3_r 0
      have f3_r1 : w2.cell? ⟨w.heap.size + 1, 1, none⟩ = some (.int .u8 0) := CB.cell r3_r 1
      have z3_r1 : w2.frozen? ⟨w.heap.size + 1, 1, none⟩ = false := CB.frozen r3_r 1
      have f3_r2 : w2.cell? ⟨w.heap.size + 1, 2, none⟩ = some (.int .u8 0) := CB.cell r3_r 2
      have z3_r2 : w2.frozen? ⟨w.heap.size + 1, 2, none⟩ = false := CB.frozen r3_r 2
      have f3_r3 : w2.cell? ⟨w.heap.size + 1, 3, none⟩ = some (.int .i64 0) := CB.cell r3_r 3
      have z3_r3 : w2.frozen? ⟨w.heap.size + 1, 3, none⟩ = false := CB.frozen r3_r 3
      have f3_r4 : w2.cell? ⟨w.heap.size + 1, 4, none⟩ = some (.string ⟨#[]⟩) := CB.cell r3_r 4
      have z3_r4 : w2.frozen? ⟨w.heap.size + 1, 4, none⟩ = false := CB.frozen r3_r 4
      obtain ⟨V4, hV4⟩ : ∃ V, ((((w2.setCell ⟨w.heap.size + 1, 0, none⟩ (.int .i64 0)).setCell ⟨w.heap.size + 1, 1, none⟩ (.int .u8 0)).setCell ⟨w.heap.size + 1, 2, none⟩ (.int .u8 0)).setCell ⟨w.heap.size + 1, 3, none⟩ (.int .i64 0)).setCell ⟨w.heap.size + 1, 4, none⟩ (.string ⟨#[]⟩) = V := ⟨_, rfl⟩
      have nV4 : CB V4 (w.heap.size + 1) 27 #[.int .i64 0, .int .u8 0, .int .u8 0, .int .i64 0, .string ⟨#[]⟩] := by rw [← hV4]; exact cb_cast (CB.put (CB.put (CB.put (CB.put (CB.put r3_r 0 (.int .i64 0)) 1 (.int .u8 0)) 2 (.int .u8 0)) 3 (.int .i64 0)) 4 (.string ⟨#[]⟩)) (by kernel_rfl)
      have mV4_s : CB V4 (w.heap.size) 25 #[.int .u8 me, .int .i64 ep, .int .i64 st, .int .u8 to, .string cg, .bool kp] := by rw [← hV4]; exact (CB.far (CB.far (CB.far (CB.far (CB.far r3_s (p := ⟨w.heap.size + 1, 0, none⟩) neW1_01 (.int .i64 0)) (p := ⟨w.heap.size + 1, 1, none⟩) neW1_01 (.int .u8 0)) (p := ⟨w.heap.size + 1, 2, none⟩) neW1_01 (.int .u8 0)) (p := ⟨w.heap.size + 1, 3, none⟩) neW1_01 (.int .i64 0)) (p := ⟨w.heap.size + 1, 4, none⟩) neW1_01 (.string ⟨#[]⟩))
      have oV4 := (Below.setCell (Below.setCell (Below.setCell (Below.setCell (Below.setCell l3 (p := ⟨w.heap.size + 1, 0, none⟩) (by dsimp only; omega) (.int .i64 0)) (p := ⟨w.heap.size + 1, 1, none⟩) (by dsimp only; omega) (.int .u8 0)) (p := ⟨w.heap.size + 1, 2, none⟩) (by dsimp only; omega) (.int .u8 0)) (p := ⟨w.heap.size + 1, 3, none⟩) (by dsimp only; omega) (.int .i64 0)) (p := ⟨w.heap.size + 1, 4, none⟩) (by dsimp only; omega) (.string ⟨#[]⟩))
      rw [hV4] at oV4
      have HV4 := Lib.hid hV4
      clear hV4
      clear r3_r r3_s l3
      go_wp2_with fail
      rw [HV4.out]
      have x_r0 : V4.cell? ⟨w.heap.size + 1, 0, none⟩ = some (.int .i64 0) := CB.cell nV4 0
      have x_r1 : V4.cell? ⟨w.heap.size + 1, 1, none⟩ = some (.int .u8 0) := CB.cell nV4 1
      have x_r2 : V4.cell? ⟨w.heap.size + 1, 2, none⟩ = some (.int .u8 0) := CB.cell nV4 2
      have x_r3 : V4.cell? ⟨w.heap.size + 1, 3, none⟩ = some (.int .i64 0) := CB.cell nV4 3
      have x_r4 : V4.cell? ⟨w.heap.size + 1, 4, none⟩ = some (.string ⟨#[]⟩) := CB.cell nV4 4
      exact bodyPost_ret (v := .tuple #[.agg #[.int .i64 0, .int .u8 0, .int .u8 0, .int .i64 0, .string ⟨#[]⟩], .int .i64 2]) (by simp [results, Try.results17, go_sem, x_r0, x_r1, x_r2, x_r3, x_r4]) rfl ⟨by rw [He.out, Hm.out]; rfl, oV4⟩
    have h8' : decide (8 ≤ x) = false := by simp; omega
    by_cases hm : x = me
    · have hm' : (x == me) = true := by simp [hm]
      have He := Lib.hid (show eAsk ⟨me, ⟨ep, st, to⟩, cg, kp⟩ x = 2 by unfold eAsk; simp [hm])
      have Hm := Lib.hid (show mAsk ⟨me, ⟨ep, st, to⟩, cg, kp⟩ x = mg0 by unfold mAsk; rw [He.out]; rfl)
      have R1 := fun W => hright_r me ep st to cg kp W
      simp only [hR] at R1
      clear hR hR' h8 hm
      obtain ⟨W1, hW1⟩ : ∃ V, (w.alloc (.cells #[.int .u8 me, .int .i64 ep, .int .i64 st, .int .u8 to, .string cg, .bool kp] 25)).alloc (.cells #[.int .i64 0, .int .u8 0, .int .u8 0, .int .i64 0, .string ⟨#[]⟩] 27) = V := ⟨_, rfl⟩
      have nW1_s : CB W1 (w.heap.size) 25 #[.int .u8 me, .int .i64 ep, .int .i64 st, .int .u8 to, .string cg, .bool kp] := by
        rw [← hW1]
        have := ((CB.new w 25 #[.int .u8 me, .int .i64 ep, .int .i64 st, .int .u8 to, .string cg, .bool kp]).alloc (.cells #[.int .i64 0, .int .u8 0, .int .u8 0, .int .i64 0, .string ⟨#[]⟩] 27))
        simpa using this
      have nW1_r : CB W1 (w.heap.size + 1) 27 #[.int .i64 0, .int .u8 0, .int .u8 0, .int .i64 0, .string ⟨#[]⟩] := by
        rw [← hW1]
        have := (CB.new (w.alloc (.cells #[.int .u8 me, .int .i64 ep, .int .i64 st, .int .u8 to, .string cg, .bool kp] 25)) 27 #[.int .i64 0, .int .u8 0, .int .u8 0, .int .i64 0, .string ⟨#[]⟩])
        simpa using this
      have neW1_01 : w.heap.size ≠ w.heap.size + 1 := by omega
      have lW1 : Below w.heap.size w W1 := by rw [← hW1]; exact le_tr (le_al _ _) (le_al _ _)
      have HW1 := Lib.hid hW1
      clear hW1
      go_enter Try.func17, Try.ntmps17
      go_wp2_with fail
      rw [HW1.out]
      refine (R1 _).mono ?_
      rintro e w2 ⟨rfl, b2⟩
      have r3_s := le_on nW1_s b2
      have r3_r := le_on nW1_r b2
      have l3 := le_tr lW1 b2
      clear nW1_s nW1_r lW1
      clear b2
      have f3_s0 : w2.cell? ⟨w.heap.size, 0, none⟩ = some (.int .u8 me) := CB.cell r3_s 0
      have f3_s1 : w2.cell? ⟨w.heap.size, 1, none⟩ = some (.int .i64 ep) := CB.cell r3_s 1
      have f3_s2 : w2.cell? ⟨w.heap.size, 2, none⟩ = some (.int .i64 st) := CB.cell r3_s 2
      have f3_s3 : w2.cell? ⟨w.heap.size, 3, none⟩ = some (.int .u8 to) := CB.cell r3_s 3
      have f3_s4 : w2.cell? ⟨w.heap.size, 4, none⟩ = some (.string cg) := CB.cell r3_s 4
      have f3_s5 : w2.cell? ⟨w.heap.size, 5, none⟩ = some (.bool kp) := CB.cell r3_s 5
      have f3_r0 : w2.cell? ⟨w.heap.size + 1, 0, none⟩ = some (.int .i64 0) := CB.cell r3_r 0
      have z3_r0 : w2.frozen? ⟨w.heap.size + 1, 0, none⟩ = false := CB.frozen r3_r 0
      have f3_r1 : w2.cell? ⟨w.heap.size + 1, 1, none⟩ = some (.int .u8 0) := CB.cell r3_r 1
      have z3_r1 : w2.frozen? ⟨w.heap.size + 1, 1, none⟩ = false := CB.frozen r3_r 1
      have f3_r2 : w2.cell? ⟨w.heap.size + 1, 2, none⟩ = some (.int .u8 0) := CB.cell r3_r 2
      have z3_r2 : w2.frozen? ⟨w.heap.size + 1, 2, none⟩ = false := CB.frozen r3_r 2
      have f3_r3 : w2.cell? ⟨w.heap.size + 1, 3, none⟩ = some (.int .i64 0) := CB.cell r3_r 3
      have z3_r3 : w2.frozen? ⟨w.heap.size + 1, 3, none⟩ = false := CB.frozen r3_r 3
      have f3_r4 : w2.cell? ⟨w.heap.size + 1, 4, none⟩ = some (.string ⟨#[]⟩) := CB.cell r3_r 4
      have z3_r4 : w2.frozen? ⟨w.heap.size + 1, 4, none⟩ = false := CB.frozen r3_r 4
      obtain ⟨V4, hV4⟩ : ∃ V, ((((w2.setCell ⟨w.heap.size + 1, 0, none⟩ (.int .i64 0)).setCell ⟨w.heap.size + 1, 1, none⟩ (.int .u8 0)).setCell ⟨w.heap.size + 1, 2, none⟩ (.int .u8 0)).setCell ⟨w.heap.size + 1, 3, none⟩ (.int .i64 0)).setCell ⟨w.heap.size + 1, 4, none⟩ (.string ⟨#[]⟩) = V := ⟨_, rfl⟩
      have nV4 : CB V4 (w.heap.size + 1) 27 #[.int .i64 0, .int .u8 0, .int .u8 0, .int .i64 0, .string ⟨#[]⟩] := by rw [← hV4]; exact cb_cast (CB.put (CB.put (CB.put (CB.put (CB.put r3_r 0 (.int .i64 0)) 1 (.int .u8 0)) 2 (.int .u8 0)) 3 (.int .i64 0)) 4 (.string ⟨#[]⟩)) (by kernel_rfl)
      have mV4_s : CB V4 (w.heap.size) 25 #[.int .u8 me, .int .i64 ep, .int .i64 st, .int .u8 to, .string cg, .bool kp] := by rw [← hV4]; exact (CB.far (CB.far (CB.far (CB.far (CB.far r3_s (p := ⟨w.heap.size + 1, 0, none⟩) neW1_01 (.int .i64 0)) (p := ⟨w.heap.size + 1, 1, none⟩) neW1_01 (.int .u8 0)) (p := ⟨w.heap.size + 1, 2, none⟩) neW1_01 (.int .u8 0)) (p := ⟨w.heap.size + 1, 3, none⟩) neW1_01 (.int .i64 0)) (p := ⟨w.heap.size + 1, 4, none⟩) neW1_01 (.string ⟨#[]⟩))
      have oV4 := (Below.setCell (Below.setCell (Below.setCell (Below.setCell (Below.setCell l3 (p := ⟨w.heap.size + 1, 0, none⟩) (by dsimp only; omega) (.int .i64 0)) (p := ⟨w.heap.size + 1, 1, none⟩) (by dsimp only; omega) (.int .u8 0)) (p := ⟨w.heap.size + 1, 2, none⟩) (by dsimp only; omega) (.int .u8 0)) (p := ⟨w.heap.size + 1, 3, none⟩) (by dsimp only; omega) (.int .i64 0)) (p := ⟨w.heap.size + 1, 4, none⟩) (by dsimp only; omega) (.string ⟨#[]⟩))
      rw [hV4] at oV4
      have HV4 := Lib.hid hV4
      clear hV4
      clear r3_r r3_s l3
      go_wp2_with fail
      rw [HV4.out]
      have x_r0 : V4.cell? ⟨w.heap.size + 1, 0, none⟩ = some (.int .i64 0) := CB.cell nV4 0
      have x_r1 : V4.cell? ⟨w.heap.size + 1, 1, none⟩ = some (.int .u8 0) := CB.cell nV4 1
      have x_r2 : V4.cell? ⟨w.heap.size + 1, 2, none⟩ = some (.int .u8 0) := CB.cell nV4 2
      have x_r3 : V4.cell? ⟨w.heap.size + 1, 3, none⟩ = some (.int .i64 0) := CB.cell nV4 3
      have x_r4 : V4.cell? ⟨w.heap.size + 1, 4, none⟩ = some (.string ⟨#[]⟩) := CB.cell nV4 4
      exact bodyPost_ret (v := .tuple #[.agg #[.int .i64 0, .int .u8 0, .int .u8 0, .int .i64 0, .string ⟨#[]⟩], .int .i64 2]) (by simp [results, Try.results17, go_sem, x_r0, x_r1, x_r2, x_r3, x_r4]) rfl ⟨by rw [He.out, Hm.out]; rfl, oV4⟩
    have hm' : (x == me) = false := by simp [hm]
    by_cases h1 : st = 1
    · have h1' : (st != 1) = false := by simp [h1]
      by_cases he : ep = 1048576
      · have he' : (ep == 1048576) = true := by simp [he]
        have He := Lib.hid (show eAsk ⟨me, ⟨ep, st, to⟩, cg, kp⟩ x = 3 by unfold eAsk; rw [if_neg (by simp only [not_or, Decidable.not_not]; exact ⟨hR', h8, hm⟩)]; simp [h1, he])
        have Hm := Lib.hid (show mAsk ⟨me, ⟨ep, st, to⟩, cg, kp⟩ x = mg0 by unfold mAsk; rw [He.out]; rfl)
        have R1 := fun W => hright_r me ep st to cg kp W
        simp only [hR] at R1
        clear hR hR' h8 hm h1 he
        obtain ⟨W1, hW1⟩ : ∃ V, (w.alloc (.cells #[.int .u8 me, .int .i64 ep, .int .i64 st, .int .u8 to, .string cg, .bool kp] 25)).alloc (.cells #[.int .i64 0, .int .u8 0, .int .u8 0, .int .i64 0, .string ⟨#[]⟩] 27) = V := ⟨_, rfl⟩
        have nW1_s : CB W1 (w.heap.size) 25 #[.int .u8 me, .int .i64 ep, .int .i64 st, .int .u8 to, .string cg, .bool kp] := by
          rw [← hW1]
          have := ((CB.new w 25 #[.int .u8 me, .int .i64 ep, .int .i64 st, .int .u8 to, .string cg, .bool kp]).alloc (.cells #[.int .i64 0, .int .u8 0, .int .u8 0, .int .i64 0, .string ⟨#[]⟩] 27))
          simpa using this
        have nW1_r : CB W1 (w.heap.size + 1) 27 #[.int .i64 0, .int .u8 0, .int .u8 0, .int .i64 0, .string ⟨#[]⟩] := by
          rw [← hW1]
          have := (CB.new (w.alloc (.cells #[.int .u8 me, .int .i64 ep, .int .i64 st, .int .u8 to, .string cg, .bool kp] 25)) 27 #[.int .i64 0, .int .u8 0, .int .u8 0, .int .i64 0, .string ⟨#[]⟩])
          simpa using this
        have neW1_01 : w.heap.size ≠ w.heap.size + 1 := by omega
        have lW1 : Below w.heap.size w W1 := by rw [← hW1]; exact le_tr (le_al _ _) (le_al _ _)
        have HW1 := Lib.hid hW1
        clear hW1
        go_enter Try.func17, Try.ntmps17
        go_wp2_with fail
        rw [HW1.out]
        refine (R1 _).mono ?_
        rintro e w2 ⟨rfl, b2⟩
        have r3_s := le_on nW1_s b2
        have r3_r := le_on nW1_r b2
        have l3 := le_tr lW1 b2
        clear nW1_s nW1_r lW1
        clear b2
        have f3_s0 : w2.cell? ⟨w.heap.size, 0, none⟩ = some (.int .u8 me) := CB.cell r3_s 0
        have f3_s1 : w2.cell? ⟨w.heap.size, 1, none⟩ = some (.int .i64 ep) := CB.cell r3_s 1
        have f3_s2 : w2.cell? ⟨w.heap.size, 2, none⟩ = some (.int .i64 st) := CB.cell r3_s 2
        have f3_s3 : w2.cell? ⟨w.heap.size, 3, none⟩ = some (.int .u8 to) := CB.cell r3_s 3
        have f3_s4 : w2.cell? ⟨w.heap.size, 4, none⟩ = some (.string cg) := CB.cell r3_s 4
        have f3_s5 : w2.cell? ⟨w.heap.size, 5, none⟩ = some (.bool kp) := CB.cell r3_s 5
        have f3_r0 : w2.cell? ⟨w.heap.size + 1, 0, none⟩ = some (.int .i64 0) := CB.cell r3_r 0
        have z3_r0 : w2.frozen? ⟨w.heap.size + 1, 0, none⟩ = false := CB.frozen r3_r 0
        have f3_r1 : w2.cell? ⟨w.heap.size + 1, 1, none⟩ = some (.int .u8 0) := CB.cell r3_r 1
        have z3_r1 : w2.frozen? ⟨w.heap.size + 1, 1, none⟩ = false := CB.frozen r3_r 1
        have f3_r2 : w2.cell? ⟨w.heap.size + 1, 2, none⟩ = some (.int .u8 0) := CB.cell r3_r 2
        have z3_r2 : w2.frozen? ⟨w.heap.size + 1, 2, none⟩ = false := CB.frozen r3_r 2
        have f3_r3 : w2.cell? ⟨w.heap.size + 1, 3, none⟩ = some (.int .i64 0) := CB.cell r3_r 3
        have z3_r3 : w2.frozen? ⟨w.heap.size + 1, 3, none⟩ = false := CB.frozen r3_r 3
        have f3_r4 : w2.cell? ⟨w.heap.size + 1, 4, none⟩ = some (.string ⟨#[]⟩) := CB.cell r3_r 4
        have z3_r4 : w2.frozen? ⟨w.heap.size + 1, 4, none⟩ = false := CB.frozen r3_r 4
        obtain ⟨V4, hV4⟩ : ∃ V, ((((w2.setCell ⟨w.heap.size + 1, 0, none⟩ (.int .i64 0)).setCell ⟨w.heap.size + 1, 1, none⟩ (.int .u8 0)).setCell ⟨w.heap.size + 1, 2, none⟩ (.int .u8 0)).setCell ⟨w.heap.size + 1, 3, none⟩ (.int .i64 0)).setCell ⟨w.heap.size + 1, 4, none⟩ (.string ⟨#[]⟩) = V := ⟨_, rfl⟩
        have nV4 : CB V4 (w.heap.size + 1) 27 #[.int .i64 0, .int .u8 0, .int .u8 0, .int .i64 0, .string ⟨#[]⟩] := by rw [← hV4]; exact cb_cast (CB.put (CB.put (CB.put (CB.put (CB.put r3_r 0 (.int .i64 0)) 1 (.int .u8 0)) 2 (.int .u8 0)) 3 (.int .i64 0)) 4 (.string ⟨#[]⟩)) (by kernel_rfl)
        have mV4_s : CB V4 (w.heap.size) 25 #[.int .u8 me, .int .i64 ep, .int .i64 st, .int .u8 to, .string cg, .bool kp] := by rw [← hV4]; exact (CB.far (CB.far (CB.far (CB.far (CB.far r3_s (p := ⟨w.heap.size + 1, 0, none⟩) neW1_01 (.int .i64 0)) (p := ⟨w.heap.size + 1, 1, none⟩) neW1_01 (.int .u8 0)) (p := ⟨w.heap.size + 1, 2, none⟩) neW1_01 (.int .u8 0)) (p := ⟨w.heap.size + 1, 3, none⟩) neW1_01 (.int .i64 0)) (p := ⟨w.heap.size + 1, 4, none⟩) neW1_01 (.string ⟨#[]⟩))
        have oV4 := (Below.setCell (Below.setCell (Below.setCell (Below.setCell (Below.setCell l3 (p := ⟨w.heap.size + 1, 0, none⟩) (by dsimp only; omega) (.int .i64 0)) (p := ⟨w.heap.size + 1, 1, none⟩) (by dsimp only; omega) (.int .u8 0)) (p := ⟨w.heap.size + 1, 2, none⟩) (by dsimp only; omega) (.int .u8 0)) (p := ⟨w.heap.size + 1, 3, none⟩) (by dsimp only; omega) (.int .i64 0)) (p := ⟨w.heap.size + 1, 4, none⟩) (by dsimp only; omega) (.string ⟨#[]⟩))
        rw [hV4] at oV4
        have HV4 := Lib.hid hV4
        clear hV4
        clear r3_r r3_s l3
        go_wp2_with fail
        rw [HV4.out]
        have x_r0 : V4.cell? ⟨w.heap.size + 1, 0, none⟩ = some (.int .i64 0) := CB.cell nV4 0
        have x_r1 : V4.cell? ⟨w.heap.size + 1, 1, none⟩ = some (.int .u8 0) := CB.cell nV4 1
        have x_r2 : V4.cell? ⟨w.heap.size + 1, 2, none⟩ = some (.int .u8 0) := CB.cell nV4 2
        have x_r3 : V4.cell? ⟨w.heap.size + 1, 3, none⟩ = some (.int .i64 0) := CB.cell nV4 3
        have x_r4 : V4.cell? ⟨w.heap.size + 1, 4, none⟩ = some (.string ⟨#[]⟩) := CB.cell nV4 4
        exact bodyPost_ret (v := .tuple #[.agg #[.int .i64 0, .int .u8 0, .int .u8 0, .int .i64 0, .string ⟨#[]⟩], .int .i64 3]) (by simp [results, Try.results17, go_sem, x_r0, x_r1, x_r2, x_r3, x_r4]) rfl ⟨by rw [He.out, Hm.out]; rfl, oV4⟩
      · have he' : (ep == 1048576) = false := by simp [he]
        have He := Lib.hid (show eAsk ⟨me, ⟨ep, st, to⟩, cg, kp⟩ x = 0 by unfold eAsk; rw [if_neg (by simp only [not_or, Decidable.not_not]; exact ⟨hR', h8, hm⟩)]; simp [h1, he])
        have Hm := Lib.hid (show mAsk ⟨me, ⟨ep, st, to⟩, cg, kp⟩ x = ⟨1, me, x, ep, ⟨#[]⟩⟩ by unfold mAsk; rw [He.out]; rfl)
        have R1 := fun W => hright_r me ep st to cg kp W
        simp only [hR] at R1
        clear hR hR' h8 hm h1 he
        obtain ⟨W1, hW1⟩ : ∃ V, (w.alloc (.cells #[.int .u8 me, .int .i64 ep, .int .i64 st, .int .u8 to, .string cg, .bool kp] 25)).alloc (.cells #[.int .i64 0, .int .u8 0, .int .u8 0, .int .i64 0, .string ⟨#[]⟩] 27) = V := ⟨_, rfl⟩
        have nW1_s : CB W1 (w.heap.size) 25 #[.int .u8 me, .int .i64 ep, .int .i64 st, .int .u8 to, .string cg, .bool kp] := by
          rw [← hW1]
          have := ((CB.new w 25 #[.int .u8 me, .int .i64 ep, .int .i64 st, .int .u8 to, .string cg, .bool kp]).alloc (.cells #[.int .i64 0, .int .u8 0, .int .u8 0, .int .i64 0, .string ⟨#[]⟩] 27))
          simpa using this
        have nW1_r : CB W1 (w.heap.size + 1) 27 #[.int .i64 0, .int .u8 0, .int .u8 0, .int .i64 0, .string ⟨#[]⟩] := by
          rw [← hW1]
          have := (CB.new (w.alloc (.cells #[.int .u8 me, .int .i64 ep, .int .i64 st, .int .u8 to, .string cg, .bool kp] 25)) 27 #[.int .i64 0, .int .u8 0, .int .u8 0, .int .i64 0, .string ⟨#[]⟩])
          simpa using this
        have neW1_01 : w.heap.size ≠ w.heap.size + 1 := by omega
        have lW1 : Below w.heap.size w W1 := by rw [← hW1]; exact le_tr (le_al _ _) (le_al _ _)
        have HW1 := Lib.hid hW1
        clear hW1
        go_enter Try.func17, Try.ntmps17
        go_wp2_with fail
        rw [HW1.out]
        refine (R1 _).mono ?_
        rintro e w2 ⟨rfl, b2⟩
        have r3_s := le_on nW1_s b2
        have r3_r := le_on nW1_r b2
        have l3 := le_tr lW1 b2
        clear nW1_s nW1_r lW1
        clear b2
        have f3_s0 : w2.cell? ⟨w.heap.size, 0, none⟩ = some (.int .u8 me) := CB.cell r3_s 0
        have f3_s1 : w2.cell? ⟨w.heap.size, 1, none⟩ = some (.int .i64 ep) := CB.cell r3_s 1
        have f3_s2 : w2.cell? ⟨w.heap.size, 2, none⟩ = some (.int .i64 st) := CB.cell r3_s 2
        have f3_s3 : w2.cell? ⟨w.heap.size, 3, none⟩ = some (.int .u8 to) := CB.cell r3_s 3
        have f3_s4 : w2.cell? ⟨w.heap.size, 4, none⟩ = some (.string cg) := CB.cell r3_s 4
        have f3_s5 : w2.cell? ⟨w.heap.size, 5, none⟩ = some (.bool kp) := CB.cell r3_s 5
        have f3_r0 : w2.cell? ⟨w.heap.size + 1, 0, none⟩ = some (.int .i64 0) := CB.cell r3_r 0
        have z3_r0 : w2.frozen? ⟨w.heap.size + 1, 0, none⟩ = false := CB.frozen r3_r 0
        have f3_r1 : w2.cell? ⟨w.heap.size + 1, 1, none⟩ = some (.int .u8 0) := CB.cell r3_r 1
        have z3_r1 : w2.frozen? ⟨w.heap.size + 1, 1, none⟩ = false := CB.frozen r3_r 1
        have f3_r2 : w2.cell? ⟨w.heap.size + 1, 2, none⟩ = some (.int .u8 0) := CB.cell r3_r 2
        have z3_r2 : w2.frozen? ⟨w.heap.size + 1, 2, none⟩ = false := CB.frozen r3_r 2
        have f3_r3 : w2.cell? ⟨w.heap.size + 1, 3, none⟩ = some (.int .i64 0) := CB.cell r3_r 3
        have z3_r3 : w2.frozen? ⟨w.heap.size + 1, 3, none⟩ = false := CB.frozen r3_r 3
        have f3_r4 : w2.cell? ⟨w.heap.size + 1, 4, none⟩ = some (.string ⟨#[]⟩) := CB.cell r3_r 4
        have z3_r4 : w2.frozen? ⟨w.heap.size + 1, 4, none⟩ = false := CB.frozen r3_r 4
        obtain ⟨V4, hV4⟩ : ∃ V, ((((w2.setCell ⟨w.heap.size + 1, 0, none⟩ (.int .i64 1)).setCell ⟨w.heap.size + 1, 1, none⟩ (.int .u8 me)).setCell ⟨w.heap.size + 1, 2, none⟩ (.int .u8 x)).setCell ⟨w.heap.size + 1, 3, none⟩ (.int .i64 ep)).setCell ⟨w.heap.size + 1, 4, none⟩ (.string ⟨#[]⟩) = V := ⟨_, rfl⟩
        have nV4 : CB V4 (w.heap.size + 1) 27 #[.int .i64 1, .int .u8 me, .int .u8 x, .int .i64 ep, .string ⟨#[]⟩] := by rw [← hV4]; exact cb_cast (CB.put (CB.put (CB.put (CB.put (CB.put r3_r 0 (.int .i64 1)) 1 (.int .u8 me)) 2 (.int .u8 x)) 3 (.int .i64 ep)) 4 (.string ⟨#[]⟩)) (by kernel_rfl)
        have mV4_s : CB V4 (w.heap.size) 25 #[.int .u8 me, .int .i64 ep, .int .i64 st, .int .u8 to, .string cg, .bool kp] := by rw [← hV4]; exact (CB.far (CB.far (CB.far (CB.far (CB.far r3_s (p := ⟨w.heap.size + 1, 0, none⟩) neW1_01 (.int .i64 1)) (p := ⟨w.heap.size + 1, 1, none⟩) neW1_01 (.int .u8 me)) (p := ⟨w.heap.size + 1, 2, none⟩) neW1_01 (.int .u8 x)) (p := ⟨w.heap.size + 1, 3, none⟩) neW1_01 (.int .i64 ep)) (p := ⟨w.heap.size + 1, 4, none⟩) neW1_01 (.string ⟨#[]⟩))
        have oV4 := (Below.setCell (Below.setCell (Below.setCell (Below.setCell (Below.setCell l3 (p := ⟨w.heap.size + 1, 0, none⟩) (by dsimp only; omega) (.int .i64 1)) (p := ⟨w.heap.size + 1, 1, none⟩) (by dsimp only; omega) (.int .u8 me)) (p := ⟨w.heap.size + 1, 2, none⟩) (by dsimp only; omega) (.int .u8 x)) (p := ⟨w.heap.size + 1, 3, none⟩) (by dsimp only; omega) (.int .i64 ep)) (p := ⟨w.heap.size + 1, 4, none⟩) (by dsimp only; omega) (.string ⟨#[]⟩))
        rw [hV4] at oV4
        have HV4 := Lib.hid hV4
        clear hV4
        clear r3_r r3_s l3
        go_wp2_with fail
        rw [HV4.out]
        have x_r0 : V4.cell? ⟨w.heap.size + 1, 0, none⟩ = some (.int .i64 1) := CB.cell nV4 0
        have x_r1 : V4.cell? ⟨w.heap.size + 1, 1, none⟩ = some (.int .u8 me) := CB.cell nV4 1
        have x_r2 : V4.cell? ⟨w.heap.size + 1, 2, none⟩ = some (.int .u8 x) := CB.cell nV4 2
        have x_r3 : V4.cell? ⟨w.heap.size + 1, 3, none⟩ = some (.int .i64 ep) := CB.cell nV4 3
        have x_r4 : V4.cell? ⟨w.heap.size + 1, 4, none⟩ = some (.string ⟨#[]⟩) := CB.cell nV4 4
        exact bodyPost_ret (v := .tuple #[.agg #[.int .i64 1, .int .u8 me, .int .u8 x, .int .i64 ep, .string ⟨#[]⟩], .int .i64 0]) (by simp [results, Try.results17, go_sem, x_r0, x_r1, x_r2, x_r3, x_r4]) rfl ⟨by rw [He.out, Hm.out]; rfl, oV4⟩
    · have h1' : (st != 1) = true := by simp [h1]
      have He := Lib.hid (show eAsk ⟨me, ⟨ep, st, to⟩, cg, kp⟩ x = 7 by unfold eAsk; rw [if_neg (by simp only [not_or, Decidable.not_not]; exact ⟨hR', h8, hm⟩)]; simp [h1])
      have Hm := Lib.hid (show mAsk ⟨me, ⟨ep, st, to⟩, cg, kp⟩ x = mg0 by unfold mAsk; rw [He.out]; rfl)
      have R1 := fun W => hright_r me ep st to cg kp W
      simp only [hR] at R1
      clear hR hR' h8 hm h1
      obtain ⟨W1, hW1⟩ : ∃ V, (w.alloc (.cells #[.int .u8 me, .int .i64 ep, .int .i64 st, .int .u8 to, .string cg, .bool kp] 25)).alloc (.cells #[.int .i64 0, .int .u8 0, .int .u8 0, .int .i64 0, .string ⟨#[]⟩] 27) = V := ⟨_, rfl⟩
      have nW1_s : CB W1 (w.heap.size) 25 #[.int .u8 me, .int .i64 ep, .int .i64 st, .int .u8 to, .string cg, .bool kp] := by
        rw [← hW1]
        have := ((CB.new w 25 #[.int .u8 me, .int .i64 ep, .int .i64 st, .int .u8 to, .string cg, .bool kp]).alloc (.cells #[.int .i64 0, .int .u8 0, .int .u8 0, .int .i64 0, .string ⟨#[]⟩] 27))
        simpa using this
      have nW1_r : CB W1 (w.heap.size + 1) 27 #[.int .i64 0, .int .u8 0, .int .u8 0, .int .i64 0, .string ⟨#[]⟩] := by
        rw [← hW1]
        have := (CB.new (w.alloc (.cells #[.int .u8 me, .int .i64 ep, .int .i64 st, .int .u8 to, .string cg, .bool kp] 25)) 27 #[.int .i64 0, .int .u8 0, .int .u8 0, .int .i64 0, .string ⟨#[]⟩])
        simpa using this
      have neW1_01 : w.heap.size ≠ w.heap.size + 1 := by omega
      have lW1 : Below w.heap.size w W1 := by rw [← hW1]; exact le_tr (le_al _ _) (le_al _ _)
      have HW1 := Lib.hid hW1
      clear hW1
      go_enter Try.func17, Try.ntmps17
      go_wp2_with fail
      rw [HW1.out]
      refine (R1 _).mono ?_
      rintro e w2 ⟨rfl, b2⟩
      have r3_s := le_on nW1_s b2
      have r3_r := le_on nW1_r b2
      have l3 := le_tr lW1 b2
      clear nW1_s nW1_r lW1
      clear b2
      have f3_s0 : w2.cell? ⟨w.heap.size, 0, none⟩ = some (.int .u8 me) := CB.cell r3_s 0
      have f3_s1 : w2.cell? ⟨w.heap.size, 1, none⟩ = some (.int .i64 ep) := CB.cell r3_s 1
      have f3_s2 : w2.cell? ⟨w.heap.size, 2, none⟩ = some (.int .i64 st) := CB.cell r3_s 2
      have f3_s3 : w2.cell? ⟨w.heap.size, 3, none⟩ = some (.int .u8 to) := CB.cell r3_s 3
      have f3_s4 : w2.cell? ⟨w.heap.size, 4, none⟩ = some (.string cg) := CB.cell r3_s 4
      have f3_s5 : w2.cell? ⟨w.heap.size, 5, none⟩ = some (.bool kp) := CB.cell r3_s 5
      have f3_r0 : w2.cell? ⟨w.heap.size + 1, 0, none⟩ = some (.int .i64 0) := CB.cell r3_r 0
      have z3_r0 : w2.frozen? ⟨w.heap.size + 1, 0, none⟩ = false := CB.frozen r3_r 0
      have f3_r1 : w2.cell? ⟨w.heap.size + 1, 1, none⟩ = some (.int .u8 0) := CB.cell r3_r 1
      have z3_r1 : w2.frozen? ⟨w.heap.size + 1, 1, none⟩ = false := CB.frozen r3_r 1
      have f3_r2 : w2.cell? ⟨w.heap.size + 1, 2, none⟩ = some (.int .u8 0) := CB.cell r3_r 2
      have z3_r2 : w2.frozen? ⟨w.heap.size + 1, 2, none⟩ = false := CB.frozen r3_r 2
      have f3_r3 : w2.cell? ⟨w.heap.size + 1, 3, none⟩ = some (.int .i64 0) := CB.cell r3_r 3
      have z3_r3 : w2.frozen? ⟨w.heap.size + 1, 3, none⟩ = false := CB.frozen r3_r 3
      have f3_r4 : w2.cell? ⟨w.heap.size + 1, 4, none⟩ = some (.string ⟨#[]⟩) := CB.cell r3_r 4
      have z3_r4 : w2.frozen? ⟨w.heap.size + 1, 4, none⟩ = false := CB.frozen r3_r 4
      obtain ⟨V4, hV4⟩ : ∃ V, ((((w2.setCell ⟨w.heap.size + 1, 0, none⟩ (.int .i64 0)).setCell ⟨w.heap.size + 1, 1, none⟩ (.int .u8 0)).setCell ⟨w.heap.size + 1, 2, none⟩ (.int .u8 0)).setCell ⟨w.heap.size + 1, 3, none⟩ (.int .i64 0)).setCell ⟨w.heap.size + 1, 4, none⟩ (.string ⟨#[]⟩) = V := ⟨_, rfl⟩
      have nV4 : CB V4 (w.heap.size + 1) 27 #[.int .i64 0, .int .u8 0, .int .u8 0, .int .i64 0, .string ⟨#[]⟩] := by rw [← hV4]; exact cb_cast (CB.put (CB.put (CB.put (CB.put (CB.put r3_r 0 (.int .i64 0)) 1 (.int .u8 0)) 2 (.int .u8 0)) 3 (.int .i64 0)) 4 (.string ⟨#[]⟩)) (by kernel_rfl)
      have mV4_s : CB V4 (w.heap.size) 25 #[.int .u8 me, .int .i64 ep, .int .i64 st, .int .u8 to, .string cg, .bool kp] := by rw [← hV4]; exact (CB.far (CB.far (CB.far (CB.far (CB.far r3_s (p := ⟨w.heap.size + 1, 0, none⟩) neW1_01 (.int .i64 0)) (p := ⟨w.heap.size + 1, 1, none⟩) neW1_01 (.int .u8 0)) (p := ⟨w.heap.size + 1, 2, none⟩) neW1_01 (.int .u8 0)) (p := ⟨w.heap.size + 1, 3, none⟩) neW1_01 (.int .i64 0)) (p := ⟨w.heap.size + 1, 4, none⟩) neW1_01 (.string ⟨#[]⟩))
      have oV4 := (Below.setCell (Below.setCell (Below.setCell (Below.setCell (Below.setCell l3 (p := ⟨w.heap.size + 1, 0, none⟩) (by dsimp only; omega) (.int .i64 0)) (p := ⟨w.heap.size + 1, 1, none⟩) (by dsimp only; omega) (.int .u8 0)) (p := ⟨w.heap.size + 1, 2, none⟩) (by dsimp only; omega) (.int .u8 0)) (p := ⟨w.heap.size + 1, 3, none⟩) (by dsimp only; omega) (.int .i64 0)) (p := ⟨w.heap.size + 1, 4, none⟩) (by dsimp only; omega) (.string ⟨#[]⟩))
      rw [hV4] at oV4
      have HV4 := Lib.hid hV4
      clear hV4
      clear r3_r r3_s l3
      go_wp2_with fail
      rw [HV4.out]
      have x_r0 : V4.cell? ⟨w.heap.size + 1, 0, none⟩ = some (.int .i64 0) := CB.cell nV4 0
      have x_r1 : V4.cell? ⟨w.heap.size + 1, 1, none⟩ = some (.int .u8 0) := CB.cell nV4 1
      have x_r2 : V4.cell? ⟨w.heap.size + 1, 2, none⟩ = some (.int .u8 0) := CB.cell nV4 2
      have x_r3 : V4.cell? ⟨w.heap.size + 1, 3, none⟩ = some (.int .i64 0) := CB.cell nV4 3
      have x_r4 : V4.cell? ⟨w.heap.size + 1, 4, none⟩ = some (.string ⟨#[]⟩) := CB.cell nV4 4
      exact bodyPost_ret (v := .tuple #[.agg #[.int .i64 0, .int .u8 0, .int .u8 0, .int .i64 0, .string ⟨#[]⟩], .int .i64 7]) (by simp [results, Try.results17, go_sem, x_r0, x_r1, x_r2, x_r3, x_r4]) rfl ⟨by rw [He.out, Hm.out]; rfl, oV4⟩
set_option maxRecDepth 100000 in
set_option maxHeartbeats 4000000 in
theorem gives_r (me ep st to : Int) (cg : ByteArray) (kp : Bool) (w : World) (h : 0 ≤ ep ∧ ep ≤ 1048576) : Calls Try.prog 48 #[.agg #[.int .u8 me, .int .i64 ep, .int .i64 st, .int .u8 to, .string cg, .bool kp]] w fun r w' => r = .returned (.agg #[.int .i64 3, .int .u8 me, .int .u8 to, .int .i64 (ep + 1), .string cg]) ∧ Below w.heap.size w w' := by
  obtain ⟨W1, hW1⟩ : ∃ V, (w.alloc (.cells #[.int .u8 me, .int .i64 ep, .int .i64 st, .int .u8 to, .string cg, .bool kp] 25)).alloc (.cells #[.int .i64 3, .int .u8 me, .int .u8 to, .int .i64 (ep + 1), .string cg] 27) = V := ⟨_, rfl⟩
  have nW1_s : CB W1 (w.heap.size) 25 #[.int .u8 me, .int .i64 ep, .int .i64 st, .int .u8 to, .string cg, .bool kp] := by
    rw [← hW1]
    have := ((CB.new w 25 #[.int .u8 me, .int .i64 ep, .int .i64 st, .int .u8 to, .string cg, .bool kp]).alloc (.cells #[.int .i64 3, .int .u8 me, .int .u8 to, .int .i64 (ep + 1), .string cg] 27))
    simpa using this
  have nW1_r : CB W1 (w.heap.size + 1) 27 #[.int .i64 3, .int .u8 me, .int .u8 to, .int .i64 (ep + 1), .string cg] := by
    rw [← hW1]
    have := (CB.new (w.alloc (.cells #[.int .u8 me, .int .i64 ep, .int .i64 st, .int .u8 to, .string cg, .bool kp] 25)) 27 #[.int .i64 3, .int .u8 me, .int .u8 to, .int .i64 (ep + 1), .string cg])
    simpa using this
  have neW1_01 : w.heap.size ≠ w.heap.size + 1 := by omega
  have lW1 : Below w.heap.size w W1 := by rw [← hW1]; exact le_tr (le_al _ _) (le_al _ _)
  have HW1 := Lib.hid hW1
  clear hW1
  go_enter Try.func48, Try.ntmps48
  go_wp2_with fail
  rw [HW1.out]
  have x_r0 : W1.cell? ⟨w.heap.size + 1, 0, none⟩ = some (.int .i64 3) := CB.cell nW1_r 0
  have x_r1 : W1.cell? ⟨w.heap.size + 1, 1, none⟩ = some (.int .u8 me) := CB.cell nW1_r 1
  have x_r2 : W1.cell? ⟨w.heap.size + 1, 2, none⟩ = some (.int .u8 to) := CB.cell nW1_r 2
  have x_r3 : W1.cell? ⟨w.heap.size + 1, 3, none⟩ = some (.int .i64 (ep + 1)) := CB.cell nW1_r 3
  have x_r4 : W1.cell? ⟨w.heap.size + 1, 4, none⟩ = some (.string cg) := CB.cell nW1_r 4
  exact bodyPost_ret (v := .agg #[.int .i64 3, .int .u8 me, .int .u8 to, .int .i64 (ep + 1), .string cg]) (by simp [results, Try.results48, go_sem, x_r0, x_r1, x_r2, x_r3, x_r4]) rfl ⟨rfl, lW1⟩
set_option maxRecDepth 100000 in
set_option maxHeartbeats 4000000 in
theorem again_r (me ep st to : Int) (cg : ByteArray) (kp : Bool) (w : World) : Calls Try.prog 21 #[.agg #[.int .u8 me, .int .i64 ep, .int .i64 st, .int .u8 to, .string cg, .bool kp]] w (RPost w 27 mc 5 (againM ⟨me, ⟨ep, st, to⟩, cg, kp⟩)) := by
  cases hR : decide (RightS ⟨me, ⟨ep, st, to⟩, cg, kp⟩) with
  | false =>
    have hR' := of_decide_eq_false hR
    have H := Lib.hid (show againM ⟨me, ⟨ep, st, to⟩, cg, kp⟩ = [] by unfold againM; simp [hR'])
    have R1 := fun W => hright_r me ep st to cg kp W
    simp only [hR] at R1
    clear hR hR'
    obtain ⟨W1, hW1⟩ : ∃ V, w.alloc (.cells #[.int .u8 me, .int .i64 ep, .int .i64 st, .int .u8 to, .string cg, .bool kp] 25) = V := ⟨_, rfl⟩
    have nW1_s : CB W1 (w.heap.size) 25 #[.int .u8 me, .int .i64 ep, .int .i64 st, .int .u8 to, .string cg, .bool kp] := by
      rw [← hW1]
      have := (CB.new w 25 #[.int .u8 me, .int .i64 ep, .int .i64 st, .int .u8 to, .string cg, .bool kp])
      simpa using this
    have lW1 : Below w.heap.size w W1 := by rw [← hW1]; exact le_al _ _
    have HW1 := Lib.hid hW1
    clear hW1
    go_enter Try.func21, Try.ntmps21
    go_wp2_with fail
    rw [HW1.out]
    refine (R1 _).mono ?_
    rintro e w2 ⟨rfl, b2⟩
    have r3_s := le_on nW1_s b2
    have l3 := le_tr lW1 b2
    clear nW1_s lW1
    clear b2
    have f3_s0 : w2.cell? ⟨w.heap.size, 0, none⟩ = some (.int .u8 me) := CB.cell r3_s 0
    have f3_s1 : w2.cell? ⟨w.heap.size, 1, none⟩ = some (.int .i64 ep) := CB.cell r3_s 1
    have f3_s2 : w2.cell? ⟨w.heap.size, 2, none⟩ = some (.int .i64 st) := CB.cell r3_s 2
    have f3_s3 : w2.cell? ⟨w.heap.size, 3, none⟩ = some (.int .u8 to) := CB.cell r3_s 3
    have f3_s4 : w2.cell? ⟨w.heap.size, 4, none⟩ = some (.string cg) := CB.cell r3_s 4
    have f3_s5 : w2.cell? ⟨w.heap.size, 5, none⟩ = some (.bool kp) := CB.cell r3_s 5
    go_wp2_with fail
    go_ret
    exact ⟨none, 0, 0, rfl, by rw [H.out]; exact RS.nil _ _ _ _, l3⟩
  | true =>
    have hR' := of_decide_eq_true hR
    cases kp with
    | false =>
      have H := Lib.hid (show againM ⟨me, ⟨ep, st, to⟩, cg, false⟩ = [] by unfold againM; simp)
      have R1 := fun W => hright_r me ep st to cg false W
      simp only [hR] at R1
      clear hR hR'
      obtain ⟨W1, hW1⟩ : ∃ V, w.alloc (.cells #[.int .u8 me, .int .i64 ep, .int .i64 st, .int .u8 to, .string cg, .bool false] 25) = V := ⟨_, rfl⟩
      have nW1_s : CB W1 (w.heap.size) 25 #[.int .u8 me, .int .i64 ep, .int .i64 st, .int .u8 to, .string cg, .bool false] := by
        rw [← hW1]
        have := (CB.new w 25 #[.int .u8 me, .int .i64 ep, .int .i64 st, .int .u8 to, .string cg, .bool false])
        simpa using this
      have lW1 : Below w.heap.size w W1 := by rw [← hW1]; exact le_al _ _
      have HW1 := Lib.hid hW1
      clear hW1
      go_enter Try.func21, Try.ntmps21
      go_wp2_with fail
      rw [HW1.out]
      refine (R1 _).mono ?_
      rintro e w2 ⟨rfl, b2⟩
      have r3_s := le_on nW1_s b2
      have l3 := le_tr lW1 b2
      clear nW1_s lW1
      clear b2
      have f3_s0 : w2.cell? ⟨w.heap.size, 0, none⟩ = some (.int .u8 me) := CB.cell r3_s 0
      have f3_s1 : w2.cell? ⟨w.heap.size, 1, none⟩ = some (.int .i64 ep) := CB.cell r3_s 1
      have f3_s2 : w2.cell? ⟨w.heap.size, 2, none⟩ = some (.int .i64 st) := CB.cell r3_s 2
      have f3_s3 : w2.cell? ⟨w.heap.size, 3, none⟩ = some (.int .u8 to) := CB.cell r3_s 3
      have f3_s4 : w2.cell? ⟨w.heap.size, 4, none⟩ = some (.string cg) := CB.cell r3_s 4
      have f3_s5 : w2.cell? ⟨w.heap.size, 5, none⟩ = some (.bool false) := CB.cell r3_s 5
      go_wp2_with fail
      go_ret
      exact ⟨none, 0, 0, rfl, by rw [H.out]; exact RS.nil _ _ _ _, l3⟩
    | true =>
      have H := Lib.hid (show againM ⟨me, ⟨ep, st, to⟩, cg, true⟩ = [⟨3, me, to, ep + 1, cg⟩] by unfold againM gvM; simp [hR'])
      have R1 := fun W => hright_r me ep st to cg true W
      simp only [hR] at R1
      have hb1 : 0 ≤ ep ∧ ep ≤ 1048576 := by have := right_cases hR'.2.1; simp only at this; omega
      have G1 := fun W => gives_r me ep st to cg true W hb1
      clear hR hR' hb1
      obtain ⟨W1, hW1⟩ : ∃ V, w.alloc (.cells #[.int .u8 me, .int .i64 ep, .int .i64 st, .int .u8 to, .string cg, .bool true] 25) = V := ⟨_, rfl⟩
      have nW1_s : CB W1 (w.heap.size) 25 #[.int .u8 me, .int .i64 ep, .int .i64 st, .int .u8 to, .string cg, .bool true] := by
        rw [← hW1]
        have := (CB.new w 25 #[.int .u8 me, .int .i64 ep, .int .i64 st, .int .u8 to, .string cg, .bool true])
        simpa using this
      have lW1 : Below w.heap.size w W1 := by rw [← hW1]; exact le_al _ _
      have HW1 := Lib.hid hW1
      clear hW1
      go_enter Try.func21, Try.ntmps21
      go_wp2_with fail
      rw [HW1.out]
      refine (R1 _).mono ?_
      rintro e w2 ⟨rfl, b2⟩
      have r3_s := le_on nW1_s b2
      have l3 := le_tr lW1 b2
      clear nW1_s lW1
      clear b2
      have f3_s0 : w2.cell? ⟨w.heap.size, 0, none⟩ = some (.int .u8 me) := CB.cell r3_s 0
      have f3_s1 : w2.cell? ⟨w.heap.size, 1, none⟩ = some (.int .i64 ep) := CB.cell r3_s 1
      have f3_s2 : w2.cell? ⟨w.heap.size, 2, none⟩ = some (.int .i64 st) := CB.cell r3_s 2
      have f3_s3 : w2.cell? ⟨w.heap.size, 3, none⟩ = some (.int .u8 to) := CB.cell r3_s 3
      have f3_s4 : w2.cell? ⟨w.heap.size, 4, none⟩ = some (.string cg) := CB.cell r3_s 4
      have f3_s5 : w2.cell? ⟨w.heap.size, 5, none⟩ = some (.bool true) := CB.cell r3_s 5
      go_wp2_with fail
      refine (G1 _).mono ?_
      rintro e w4 ⟨rfl, b4⟩
      clear f3_s0 f3_s1 f3_s2 f3_s3 f3_s4 f3_s5
      have r5_s := le_on r3_s b4
      have l5 := le_tr l3 b4
      clear r3_s l3
      clear b4
      have av_z : w.heap.size ≤ w4.heap.size := by have := l5.size; omega
      obtain ⟨W6, hW6⟩ : ∃ V, w4.alloc (.cells #[.int .i64 3, .int .u8 me, .int .u8 to, .int .i64 (ep + 1), .string cg] 27) = V := ⟨_, rfl⟩
      have zW6 : w4.heap.size = w4.heap.size := by rfl
      have nW6 : CB W6 (w4.heap.size) 27 #[.int .i64 3, .int .u8 me, .int .u8 to, .int .i64 (ep + 1), .string cg] := by rw [← zW6, ← hW6]; exact CB.new _ _ _
      have bW6 : Below w4.heap.size w4 W6 := by rw [← hW6]; exact le_al _ _
      have neW6_s : w.heap.size ≠ w4.heap.size := by have := CB.lt r5_s; omega
      have HW6 := Lib.hid hW6
      clear hW6 zW6
      have r7_s := le_on r5_s bW6
      have l7 := le_tr l5 bW6
      clear r5_s l5
      clear bW6
      go_wp2_with fail
      rw [HW6.out]
      go_ret
      exact ⟨_, _, _, rfl, by rw [H.out]; exact RS.of_cb nW6, l7⟩
end Go.Proofs.Ytmghckddofefkaa
