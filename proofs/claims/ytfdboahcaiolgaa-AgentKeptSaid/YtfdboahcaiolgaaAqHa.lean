/-
  Layer 12: messages in memory; Right, rightMsg, keepsFor, say of package hand. No condition but that the numbers are in the range of their types.
-/
import Derived.Test.YtfdboahcaiolgaaAqLc
import Derived.Test.YtfdboahcaiolgaaMgA
import Derived.Test.YtfdboahcaiolgaaMgR
set_option linter.unusedVariables false
set_option linter.unusedSimpArgs false
namespace Go.Proofs.Ytfdboahcaiolgaa
open Go.RowKit


/-- A message as cells. -/
def mc (m : Mg) : List Value := [.int .i64 m.kd, .int .u8 m.fr, .int .u8 m.to, .int .i64 m.ep, .string m.cg]
theorem encM : EncOk mc 5 := ⟨fun _ => rfl, fun m u hu => by simp only [mc, List.mem_cons, List.not_mem_nil, or_false] at hu; rcases hu with rfl | rfl | rfl | rfl | rfl <;> rfl, by omega⟩
instance instM : Nonempty (EncOk mc 5) := ⟨encM⟩
theorem tl_nil (c : ByteArray) : c.toList = [] ↔ c = ByteArray.empty := by
  rw [ByteArray.toList_eq]
  constructor
  · intro h
    obtain ⟨a⟩ := c
    have : a = #[] := Array.toList_eq_nil_iff.1 h
    rw [this]
    rfl
  · intro h
    rw [h]
    rfl
theorem RS.of_cbm {w : World} {T : TypeId} {g : Nat} {kd fr t e : Int} {mg : ByteArray} (h : CB w g T #[.int .i64 kd, .int .u8 fr, .int .u8 t, .int .i64 e, .string mg]) : RS w T mc 5 (some ⟨g, 0, none⟩) 1 1 [⟨kd, fr, t, e, mg⟩] := by
  refine ⟨some g, by simp [rc, mc], Nat.le_refl _, by decide, .inr ⟨g, 0, _, rfl, rfl, h, by simp, fun j u hu => ?_⟩⟩
  simp only [rc, List.flatMap_cons, List.flatMap_nil, List.append_nil, mc] at hu
  simpa using hu
/-- What a call that hears gives back. -/
def HPost (w : World) (T : TypeId) (d : Td) (e : Ending) (w' : World) : Prop :=
  ∃ A n q, e = .returned (.tuple #[.agg #[.int .u8 d.s.me, .int .i64 d.s.l.ep, .int .i64 d.s.l.st, .int .u8 d.s.l.to, .string d.s.cg, .bool d.s.kp], .slice A n q, .int .i64 ((d.e : Nat) : Int)]) ∧ RS w' T mc 5 A n q d.r ∧ Below w.heap.size w w'
theorem HPost.mk' {w : World} {T : TypeId} {d : Td} {w' : World} (me ep st to : Int) (cg : ByteArray) (kp : Bool) (k : Nat) (r : List Mg) {A : Option Addr} {n q : Nat} (hd : d = ⟨⟨me, ⟨ep, st, to⟩, cg, kp⟩, r, k⟩) (hr : RS w' T mc 5 A n q r) (hb : Below w.heap.size w w') :
    HPost w T d (.returned (.tuple #[.agg #[.int .u8 me, .int .i64 ep, .int .i64 st, .int .u8 to, .string cg, .bool kp], .slice A n q, .int .i64 (k : Int)])) w' := by
  subst hd
  exact ⟨A, n, q, rfl, hr, hb⟩
set_option maxRecDepth 100000 in
set_option maxHeartbeats 4000000 in
theorem hright_c (me ep st to : Int) (cg : ByteArray) (kp : Bool) (w : World) : Calls Try.prog 25 #[.agg #[.int .u8 me, .int .i64 ep, .int .i64 st, .int .u8 to, .string cg, .bool kp]] w fun r w' => r = .returned (.bool (decide (RightS ⟨me, ⟨ep, st, to⟩, cg, kp⟩))) ∧ Below w.heap.size w w' := by
  by_cases h8 : 8 ≤ me
  · have h8' : decide (8 ≤ me) = true := by simp [h8]
    have H := Lib.hid (show decide (RightS ⟨me, ⟨ep, st, to⟩, cg, kp⟩) = false by rw [decide_eq_false_iff_not]; intro h; have := h.1; simp only at this; omega)
    clear h8
    obtain ⟨W1, hW1⟩ : ∃ V, w.alloc (.cells #[.int .u8 me, .int .i64 ep, .int .i64 st, .int .u8 to, .string cg, .bool kp] 45) = V := ⟨_, rfl⟩
    have nW1_s : CB W1 (w.heap.size) 45 #[.int .u8 me, .int .i64 ep, .int .i64 st, .int .u8 to, .string cg, .bool kp] := by
      rw [← hW1]
      have := (CB.new w 45 #[.int .u8 me, .int .i64 ep, .int .i64 st, .int .u8 to, .string cg, .bool kp])
      simpa using this
    have lW1 : Below w.heap.size w W1 := by rw [← hW1]; exact le_al _ _
    have HW1 := Lib.hid hW1
    clear hW1
    go_enter Try.func25, Try.ntmps25
    go_wp2_with fail
    rw [HW1.out]
    go_ret
    exact ⟨by rw [H.out]; rfl, lW1⟩
  have h8' : decide (8 ≤ me) = false := by simp; omega
  cases hrt : rightL ⟨ep, st, to⟩ with
  | false =>
    have H := Lib.hid (show decide (RightS ⟨me, ⟨ep, st, to⟩, cg, kp⟩) = false by rw [decide_eq_false_iff_not]; intro h; have := h.2.1; simp only at this; rw [hrt] at this; cases this)
    have R1 := fun W => lright_c ep st to W
    simp only [hrt] at R1
    clear h8 hrt
    obtain ⟨W1, hW1⟩ : ∃ V, w.alloc (.cells #[.int .u8 me, .int .i64 ep, .int .i64 st, .int .u8 to, .string cg, .bool kp] 45) = V := ⟨_, rfl⟩
    have nW1_s : CB W1 (w.heap.size) 45 #[.int .u8 me, .int .i64 ep, .int .i64 st, .int .u8 to, .string cg, .bool kp] := by
      rw [← hW1]
      have := (CB.new w 45 #[.int .u8 me, .int .i64 ep, .int .i64 st, .int .u8 to, .string cg, .bool kp])
      simpa using this
    have lW1 : Below w.heap.size w W1 := by rw [← hW1]; exact le_al _ _
    have HW1 := Lib.hid hW1
    clear hW1
    go_enter Try.func25, Try.ntmps25
    go_wp2_with fail
    rw [HW1.out]
    refine (R1 _).mono ?_
    rintro e w2 ⟨rfl, b2⟩
    have r3_s := le_on nW1_s b2
    have l3 := le_tr lW1 b2
    clear nW1_s lW1
    clear b2
    go_wp2_with fail
    go_ret
    exact ⟨by rw [H.out]; rfl, l3⟩
  | true =>
    have R1 := fun W => lright_c ep st to W
    simp only [hrt] at R1
    by_cases h5 : cg.size ≤ 500
    · have h5' : decide ((500 : Int) < (cg.size : Int)) = false := by simp; omega
      have D := Lib.hid (show RightS ⟨me, ⟨ep, st, to⟩, cg, kp⟩ ↔ (¬ (st = 2 ∧ to = me) ∧ (cg = ByteArray.empty ∨ st = 1 ∨ kp = true) ∧ (kp = true → st = 2)) by simp [RightS, hrt, h5]; intros; omega)
      clear h8 hrt h5
      obtain ⟨W1, hW1⟩ : ∃ V, w.alloc (.cells #[.int .u8 me, .int .i64 ep, .int .i64 st, .int .u8 to, .string cg, .bool kp] 45) = V := ⟨_, rfl⟩
      have nW1_s : CB W1 (w.heap.size) 45 #[.int .u8 me, .int .i64 ep, .int .i64 st, .int .u8 to, .string cg, .bool kp] := by
        rw [← hW1]
        have := (CB.new w 45 #[.int .u8 me, .int .i64 ep, .int .i64 st, .int .u8 to, .string cg, .bool kp])
        simpa using this
      have lW1 : Below w.heap.size w W1 := by rw [← hW1]; exact le_al _ _
      have HW1 := Lib.hid hW1
      clear hW1
      go_enter Try.func25, Try.ntmps25
      go_wp2_with fail
      rw [HW1.out]
      refine (R1 _).mono ?_
      rintro e w2 ⟨rfl, b2⟩
      have r3_s := le_on nW1_s b2
      have l3 := le_tr lW1 b2
      clear nW1_s lW1
      clear b2
      have f3_s0 : w2.cell? ⟨w.heap.size, 0, none⟩ = some (.int .u8 me) := CB.cell r3_s 0
      have f3_s1 : w2.cell? ⟨w.heap.size, 1, none⟩ = some (.int .i64 ep) := CB.cell r3_s 1
      have f3_s2 : w2.cell? ⟨w.heap.size, 2, none⟩ = some (.int .i64 st) := CB.cell r3_s 2
      have f3_s3 : w2.cell? ⟨w.heap.size, 3, none⟩ = some (.int .u8 to) := CB.cell r3_s 3
      have f3_s4 : w2.cell? ⟨w.heap.size, 4, none⟩ = some (.string cg) := CB.cell r3_s 4
      have f3_s5 : w2.cell? ⟨w.heap.size, 5, none⟩ = some (.bool kp) := CB.cell r3_s 5
      go_wp2_with fail
      all_goals go_ret
      all_goals refine ⟨ret_bool ?_, l3⟩
      all_goals (have D' := D.out; clear D)
      all_goals (rw [Bool.eq_iff_iff, decide_eq_true_iff, D']; clear D')
      all_goals clear f3_s0 f3_s1 f3_s2 f3_s3 f3_s4 f3_s5 r3_s l3 R1
      all_goals simp_all [tl_nil]
    · have h5' : decide ((500 : Int) < (cg.size : Int)) = true := by simp; omega
      have H := Lib.hid (show decide (RightS ⟨me, ⟨ep, st, to⟩, cg, kp⟩) = false by rw [decide_eq_false_iff_not]; intro h; exact h5 h.2.2.2.1)
      clear h8 hrt h5
      obtain ⟨W1, hW1⟩ : ∃ V, w.alloc (.cells #[.int .u8 me, .int .i64 ep, .int .i64 st, .int .u8 to, .string cg, .bool kp] 45) = V := ⟨_, rfl⟩
      have nW1_s : CB W1 (w.heap.size) 45 #[.int .u8 me, .int .i64 ep, .int .i64 st, .int .u8 to, .string cg, .bool kp] := by
        rw [← hW1]
        have := (CB.new w 45 #[.int .u8 me, .int .i64 ep, .int .i64 st, .int .u8 to, .string cg, .bool kp])
        simpa using this
      have lW1 : Below w.heap.size w W1 := by rw [← hW1]; exact le_al _ _
      have HW1 := Lib.hid hW1
      clear hW1
      go_enter Try.func25, Try.ntmps25
      go_wp2_with fail
      rw [HW1.out]
      refine (R1 _).mono ?_
      rintro e w2 ⟨rfl, b2⟩
      have r3_s := le_on nW1_s b2
      have l3 := le_tr lW1 b2
      clear nW1_s lW1
      clear b2
      have f3_s0 : w2.cell? ⟨w.heap.size, 0, none⟩ = some (.int .u8 me) := CB.cell r3_s 0
      have f3_s1 : w2.cell? ⟨w.heap.size, 1, none⟩ = some (.int .i64 ep) := CB.cell r3_s 1
      have f3_s2 : w2.cell? ⟨w.heap.size, 2, none⟩ = some (.int .i64 st) := CB.cell r3_s 2
      have f3_s3 : w2.cell? ⟨w.heap.size, 3, none⟩ = some (.int .u8 to) := CB.cell r3_s 3
      have f3_s4 : w2.cell? ⟨w.heap.size, 4, none⟩ = some (.string cg) := CB.cell r3_s 4
      have f3_s5 : w2.cell? ⟨w.heap.size, 5, none⟩ = some (.bool kp) := CB.cell r3_s 5
      go_wp2_with fail
      go_ret
      exact ⟨by rw [H.out]; rfl, l3⟩
set_option maxRecDepth 100000 in
set_option maxHeartbeats 4000000 in
theorem rmsg_c (kd fr t e : Int) (mg : ByteArray) (w : World) : Calls Try.prog 46 #[.agg #[.int .i64 kd, .int .u8 fr, .int .u8 t, .int .i64 e, .string mg]] w fun r w' => r = .returned (.bool (decide (MayM ⟨kd, fr, t, e, mg⟩))) ∧ Below w.heap.size w w' := by
  have D := Lib.hid (show MayM ⟨kd, fr, t, e, mg⟩ ↔ ((1 ≤ kd ∧ kd ≤ 4) ∧ fr < 8 ∧ t < 8 ∧ fr ≠ t ∧ (1 ≤ e ∧ e ≤ 1048576) ∧ ((kd = 3 ∧ mg.size ≤ 500) ∨ (¬ kd = 3 ∧ mg = ByteArray.empty))) by
    have hz : mg.size = 0 ↔ mg = ByteArray.empty := by simp
    rw [← hz]; unfold MayM; simp only; omega)
  obtain ⟨W1, hW1⟩ : ∃ V, w.alloc (.cells #[.int .i64 kd, .int .u8 fr, .int .u8 t, .int .i64 e, .string mg] 68) = V := ⟨_, rfl⟩
  have nW1_m : CB W1 (w.heap.size) 68 #[.int .i64 kd, .int .u8 fr, .int .u8 t, .int .i64 e, .string mg] := by
    rw [← hW1]
    have := (CB.new w 68 #[.int .i64 kd, .int .u8 fr, .int .u8 t, .int .i64 e, .string mg])
    simpa using this
  have lW1 : Below w.heap.size w W1 := by rw [← hW1]; exact le_al _ _
  have HW1 := Lib.hid hW1
  clear hW1
  go_enter Try.func46, Try.ntmps46
  go_wp2_with fail
  all_goals rw [HW1.out]
  all_goals go_ret
  all_goals refine ⟨ret_bool ?_, lW1⟩
  all_goals (have D' := D.out; clear D)
  all_goals (rw [Bool.eq_iff_iff]; simp only [decide_eq_true_eq]; rw [D']; clear D')
  all_goals clear nW1_m lW1
  all_goals (simp_all [tl_nil]; try omega)
set_option maxRecDepth 100000 in
set_option maxHeartbeats 4000000 in
theorem keeps_c (me ep st to : Int) (cg : ByteArray) (kp : Bool) (x y : Int) (w : World) : Calls Try.prog 74 #[.agg #[.int .u8 me, .int .i64 ep, .int .i64 st, .int .u8 to, .string cg, .bool kp], .int .u8 x, .int .i64 y] w fun r w' => r = .returned (.bool (kp && decide (to = x) && decide (ep = y))) ∧ Below w.heap.size w w' := by
  cases kp with
  | false =>
    obtain ⟨W1, hW1⟩ : ∃ V, w.alloc (.cells #[.int .u8 me, .int .i64 ep, .int .i64 st, .int .u8 to, .string cg, .bool false] 45) = V := ⟨_, rfl⟩
    have nW1_s : CB W1 (w.heap.size) 45 #[.int .u8 me, .int .i64 ep, .int .i64 st, .int .u8 to, .string cg, .bool false] := by
      rw [← hW1]
      have := (CB.new w 45 #[.int .u8 me, .int .i64 ep, .int .i64 st, .int .u8 to, .string cg, .bool false])
      simpa using this
    have lW1 : Below w.heap.size w W1 := by rw [← hW1]; exact le_al _ _
    have HW1 := Lib.hid hW1
    clear hW1
    go_enter Try.func74, Try.ntmps74
    go_wp2_with fail
    rw [HW1.out]
    go_ret
    refine ⟨ret_bool ?_, lW1⟩
    simp
  | true =>
    by_cases h1 : to = x
    · have h1' : (to == x) = true := by simp [h1]
      have H := Lib.hid h1
      clear h1
      obtain ⟨W1, hW1⟩ : ∃ V, w.alloc (.cells #[.int .u8 me, .int .i64 ep, .int .i64 st, .int .u8 to, .string cg, .bool true] 45) = V := ⟨_, rfl⟩
      have nW1_s : CB W1 (w.heap.size) 45 #[.int .u8 me, .int .i64 ep, .int .i64 st, .int .u8 to, .string cg, .bool true] := by
        rw [← hW1]
        have := (CB.new w 45 #[.int .u8 me, .int .i64 ep, .int .i64 st, .int .u8 to, .string cg, .bool true])
        simpa using this
      have lW1 : Below w.heap.size w W1 := by rw [← hW1]; exact le_al _ _
      have HW1 := Lib.hid hW1
      clear hW1
      go_enter Try.func74, Try.ntmps74
      go_wp2_with fail
      rw [HW1.out]
      go_ret
      refine ⟨ret_bool ?_, lW1⟩
      rw [Bool.eq_iff_iff]
      simp [H.out]
    · have h1' : (to == x) = false := by simp [h1]
      have H := Lib.hid h1
      clear h1
      obtain ⟨W1, hW1⟩ : ∃ V, w.alloc (.cells #[.int .u8 me, .int .i64 ep, .int .i64 st, .int .u8 to, .string cg, .bool true] 45) = V := ⟨_, rfl⟩
      have nW1_s : CB W1 (w.heap.size) 45 #[.int .u8 me, .int .i64 ep, .int .i64 st, .int .u8 to, .string cg, .bool true] := by
        rw [← hW1]
        have := (CB.new w 45 #[.int .u8 me, .int .i64 ep, .int .i64 st, .int .u8 to, .string cg, .bool true])
        simpa using this
      have lW1 : Below w.heap.size w W1 := by rw [← hW1]; exact le_al _ _
      have HW1 := Lib.hid hW1
      clear hW1
      go_enter Try.func74, Try.ntmps74
      go_wp2_with fail
      rw [HW1.out]
      go_ret
      refine ⟨ret_bool ?_, lW1⟩
      simp [H.out]
set_option maxRecDepth 100000 in
set_option maxHeartbeats 4000000 in
theorem say_c (me ep st to : Int) (cg : ByteArray) (kp : Bool) (k x y : Int) (w : World) : Calls Try.prog 71 #[.agg #[.int .u8 me, .int .i64 ep, .int .i64 st, .int .u8 to, .string cg, .bool kp], .int .i64 k, .int .u8 x, .int .i64 y] w fun r w' => r = .returned (.agg #[.int .i64 k, .int .u8 me, .int .u8 x, .int .i64 y, .string ⟨#[]⟩]) ∧ Below w.heap.size w w' := by
  obtain ⟨W1, hW1⟩ : ∃ V, (w.alloc (.cells #[.int .u8 me, .int .i64 ep, .int .i64 st, .int .u8 to, .string cg, .bool kp] 45)).alloc (.cells #[.int .i64 k, .int .u8 me, .int .u8 x, .int .i64 y, .string ⟨#[]⟩] 68) = V := ⟨_, rfl⟩
  have nW1_s : CB W1 (w.heap.size) 45 #[.int .u8 me, .int .i64 ep, .int .i64 st, .int .u8 to, .string cg, .bool kp] := by
    rw [← hW1]
    have := ((CB.new w 45 #[.int .u8 me, .int .i64 ep, .int .i64 st, .int .u8 to, .string cg, .bool kp]).alloc (.cells #[.int .i64 k, .int .u8 me, .int .u8 x, .int .i64 y, .string ⟨#[]⟩] 68))
    simpa using this
  have nW1_r : CB W1 (w.heap.size + 1) 68 #[.int .i64 k, .int .u8 me, .int .u8 x, .int .i64 y, .string ⟨#[]⟩] := by
    rw [← hW1]
    have := (CB.new (w.alloc (.cells #[.int .u8 me, .int .i64 ep, .int .i64 st, .int .u8 to, .string cg, .bool kp] 45)) 68 #[.int .i64 k, .int .u8 me, .int .u8 x, .int .i64 y, .string ⟨#[]⟩])
    simpa using this
  have neW1_01 : w.heap.size ≠ w.heap.size + 1 := by omega
  have lW1 : Below w.heap.size w W1 := by rw [← hW1]; exact le_tr (le_al _ _) (le_al _ _)
  have HW1 := Lib.hid hW1
  clear hW1
  go_enter Try.func71, Try.ntmps71
  go_wp2_with fail
  rw [HW1.out]
  have x_r0 : W1.cell? ⟨w.heap.size + 1, 0, none⟩ = some (.int .i64 k) := CB.cell nW1_r 0
  have x_r1 : W1.cell? ⟨w.heap.size + 1, 1, none⟩ = some (.int .u8 me) := CB.cell nW1_r 1
  have x_r2 : W1.cell? ⟨w.heap.size + 1, 2, none⟩ = some (.int .u8 x) := CB.cell nW1_r 2
  have x_r3 : W1.cell? ⟨w.heap.size + 1, 3, none⟩ = some (.int .i64 y) := CB.cell nW1_r 3
  have x_r4 : W1.cell? ⟨w.heap.size + 1, 4, none⟩ = some (.string ⟨#[]⟩) := CB.cell nW1_r 4
  exact bodyPost_ret (v := .agg #[.int .i64 k, .int .u8 me, .int .u8 x, .int .i64 y, .string ⟨#[]⟩]) (by simp [results, Try.results71, go_sem, x_r0, x_r1, x_r2, x_r3, x_r4]) rfl ⟨rfl, lW1⟩
end Go.Proofs.Ytfdboahcaiolgaa
