/-
  '==' and '!=' of two deals, terms, records that are one and the same. No condition.
-/
import Derived.Test.YtjfmahceolhfnaaChA
set_option linter.unusedVariables false
set_option linter.unusedSimpArgs false
namespace Go.Proofs.Ytjfmahceolhfnaa
open Go.RowKit

theorem eqb_refl (f : Nat → Bool) (d : Nat) (w : World) : (Op.equalIn (d + 2) 37 (.agg (bA f)) (.agg (bA f))).run Try.prog w = .ok true w := by rw [eq_b8, eqB_refl]
theorem eqi_refl (f : Nat → Int) (d : Nat) (w : World) : (Op.equalIn (d + 2) 38 (.agg (iA f)) (.agg (iA f))).run Try.prog w = .ok true w := by rw [eq_i8, eqI_refl]
set_option maxRecDepth 100000 in
theorem eqt_refl (S : Ty) (d : Nat) (w : World) : (Op.equalIn (d + 3) 40 (.agg (tA S)) (.agg (tA S))).run Try.prog w = .ok true w := by
  have a := Try.isAgg37
  have z := Try.sizeOf37
  have a2 := Try.isAgg38
  have z2 := Try.sizeOf38
  have hS : Try.prog.underlying 40 = some (.struct (Try.prog.fieldsOf 40)) := by kernel_rfl
  have hp : Try.prog.stoodInHeld 40 = false := by kernel_rfl
  have p1 : ∀ V, (part 37 (tA S) 0).run Try.prog V = .ok (.agg (bA S.wh)) V := fun V => by simp [part, a, z, Sem.run_bind]; rfl
  have p3 : ∀ V, (part 38 (tA S) 8).run Try.prog V = .ok (.agg (iA S.vt)) V := fun V => by simp [part, a2, z2, Sem.run_bind]; rfl
  have p5 : ∀ V, (part 38 (tA S) 16).run Try.prog V = .ok (.agg (iA S.ep)) V := fun V => by simp [part, a2, z2, Sem.run_bind]; rfl
  have e1 := fun f V => eqb_refl f d V
  have e2 := fun f V => eqi_refl f d V
  rw [show d + 3 = (d + 2) + 1 from rfl, run_equalIn_agg w (d + 2) 40 _ _ hS hp]
  simp only [Program.fieldsOf, Try.underlying40]
  simp [Op.eqFields, Sem.run_bind, p1, p3, p5, e1, e2, Sem.run_ite]
set_option maxRecDepth 100000 in
theorem eqm_refl (t : Te.Tm) (d : Nat) (w : World) : (Op.equalIn (d + 2) 42 (.agg (mA t)) (.agg (mA t))).run Try.prog w = .ok true w := by
  have u1 := Try.underlying2
  have u2 := Try.underlying3
  have hS : Try.prog.underlying 42 = some (.struct (Try.prog.fieldsOf 42)) := by kernel_rfl
  have hp : Try.prog.stoodInHeld 42 = false := by kernel_rfl
  have e1 : ∀ (x y : Int) (V : World), (Op.equalIn (d + 1) 2 (.int .i64 x) (.int .i64 y)).run Try.prog V = .ok (x == y) V := fun x y V => run_equalIn_int V d _ _ _ x y u1
  have e2 : ∀ (x y : Int) (V : World), (Op.equalIn (d + 1) 3 (.int .i64 x) (.int .i64 y)).run Try.prog V = .ok (x == y) V := fun x y V => run_equalIn_int V d _ _ _ x y u2
  have a1 := Try.isAgg2
  have z1 := Try.sizeOf2
  have a2 := Try.isAgg3
  have z2 := Try.sizeOf3
  rw [show d + 2 = (d + 1) + 1 from rfl, run_equalIn_agg w (d + 1) 42 _ _ hS hp]
  simp only [Program.fieldsOf, Try.underlying42]
  simp [Op.eqFields, Sem.run_bind, part, mA, a1, z1, a2, z2, e1, e2, Sem.run_ite]
set_option maxRecDepth 100000 in
theorem eqmr_refl (t : Te.Tm) (d : Nat) (w : World) : (Op.equalIn (d + 2) 74 (.agg (mA t)) (.agg (mA t))).run Try.prog w = .ok true w := by
  have u1 := Try.underlying2
  have u2 := Try.underlying3
  have hS : Try.prog.underlying 74 = some (.struct (Try.prog.fieldsOf 74)) := by kernel_rfl
  have hp : Try.prog.stoodInHeld 74 = false := by kernel_rfl
  have e1 : ∀ (x y : Int) (V : World), (Op.equalIn (d + 1) 2 (.int .i64 x) (.int .i64 y)).run Try.prog V = .ok (x == y) V := fun x y V => run_equalIn_int V d _ _ _ x y u1
  have e2 : ∀ (x y : Int) (V : World), (Op.equalIn (d + 1) 3 (.int .i64 x) (.int .i64 y)).run Try.prog V = .ok (x == y) V := fun x y V => run_equalIn_int V d _ _ _ x y u2
  have a1 := Try.isAgg2
  have z1 := Try.sizeOf2
  have a2 := Try.isAgg3
  have z2 := Try.sizeOf3
  rw [show d + 2 = (d + 1) + 1 from rfl, run_equalIn_agg w (d + 1) 74 _ _ hS hp]
  simp only [Program.fieldsOf, Try.underlying74]
  simp [Op.eqFields, Sem.run_bind, part, mA, a1, z1, a2, z2, e1, e2, Sem.run_ite]
set_option maxRecDepth 100000 in
theorem eqrr_refl (r : Rd) (d : Nat) (w : World) : (Op.equalIn (d + 2) 34 (.agg (rA r)) (.agg (rA r))).run Try.prog w = .ok true w := by
  have u1 := Try.underlying2
  have u2 := Try.underlying3
  have u3 := Try.underlying5
  have hS : Try.prog.underlying 34 = some (.struct (Try.prog.fieldsOf 34)) := by kernel_rfl
  have hp : Try.prog.stoodInHeld 34 = false := by kernel_rfl
  have e1 : ∀ (x y : Int) (V : World), (Op.equalIn (d + 1) 2 (.int .i64 x) (.int .i64 y)).run Try.prog V = .ok (x == y) V := fun x y V => run_equalIn_int V d _ _ _ x y u1
  have e2 : ∀ (x y : Int) (V : World), (Op.equalIn (d + 1) 3 (.int .i64 x) (.int .i64 y)).run Try.prog V = .ok (x == y) V := fun x y V => run_equalIn_int V d _ _ _ x y u2
  have e3 : ∀ (x y : Int) (V : World), (Op.equalIn (d + 1) 5 (.int .u8 x) (.int .u8 y)).run Try.prog V = .ok (x == y) V := fun x y V => run_equalIn_int V d _ _ _ x y u3
  have a1 := Try.isAgg2
  have z1 := Try.sizeOf2
  have a2 := Try.isAgg3
  have z2 := Try.sizeOf3
  have a3 := Try.isAgg5
  have z3 := Try.sizeOf5
  rw [show d + 2 = (d + 1) + 1 from rfl, run_equalIn_agg w (d + 1) 34 _ _ hS hp]
  simp only [Program.fieldsOf, Try.underlying34]
  simp [Op.eqFields, Sem.run_bind, part, rA, a1, z1, a2, z2, a3, z3, e1, e2, e3, Sem.run_ite]
set_option maxRecDepth 100000 in
theorem eqd_refl (e : Dl) (w : World) : (Op.equalIn 10000 44 (.agg (dA e)) (.agg (dA e))).run Try.prog w = .ok true w := by
  have a := Try.isAgg40
  have z := Try.sizeOf40
  have a2 := Try.isAgg42
  have z2 := Try.sizeOf42
  have a3 := Try.isAgg3
  have z3 := Try.sizeOf3
  have u2 := Try.underlying3
  have hS : Try.prog.underlying 44 = some (.struct (Try.prog.fieldsOf 44)) := by kernel_rfl
  have hp : Try.prog.stoodInHeld 44 = false := by kernel_rfl
  have p1 : ∀ V, (part 40 (dA e) 0).run Try.prog V = .ok (.agg (tA e.ty)) V := fun V => by simp [part, a, z, Sem.run_bind]; simp [dA, tA]
  have p3 : ∀ V, (part 42 (dA e) 24).run Try.prog V = .ok (.agg (mA e.tm)) V := fun V => by simp [part, a2, z2, Sem.run_bind]; simp [dA, mA]
  have p5 : ∀ V, (part 3 (dA e) 28).run Try.prog V = .ok (.int .i64 e.out) V := fun V => by simp [part, a3, z3, Sem.run_bind, dA]
  have e1 := fun V => eqt_refl e.ty 9996 V
  have e2 := fun V => eqm_refl e.tm 9997 V
  have e3 : ∀ (x y : Int) (V : World), (Op.equalIn 9999 3 (.int .i64 x) (.int .i64 y)).run Try.prog V = .ok (x == y) V := fun x y V => run_equalIn_int V 9998 _ _ _ x y u2
  rw [show (10000 : Nat) = 9999 + 1 from rfl, run_equalIn_agg w 9999 44 _ _ hS hp]
  simp only [Program.fieldsOf, Try.underlying44]
  simp [Op.eqFields, Sem.run_bind, p1, p3, p5, e1, e2, e3, Sem.run_ite]
end Go.Proofs.Ytjfmahceolhfnaa
