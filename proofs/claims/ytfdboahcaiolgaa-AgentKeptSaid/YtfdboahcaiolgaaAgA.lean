/-
  Layer 19: ballots, sides, leases, values and notes in memory: their cells, their types' sizes, '==' of them. No condition.
-/
import Derived.Test.YtfdboahcaiolgaaAqNa
import Derived.Test.YtfdboahcaiolgaaOuts
import Derived.Test.YtfdboahcaiolgaaMgA
set_option linter.unusedVariables false
set_option linter.unusedSimpArgs false
set_option linter.unusedSectionVars false
namespace Go.Proofs.Ytfdboahcaiolgaa
open Go.RowKit
open Dk (Nt InN RightN)

def btA (b : Bl) : Array Value := #[.int .i64 b.tx, .int .i64 b.vt]
def dcl (b : Bl) : List Value := [.int .i64 b.tx, .int .i64 b.vt]
def siA (s : Sd) : Array Value := #[.int .u8 s.me, .int .i64 s.l.ep, .int .i64 s.l.st, .int .u8 s.l.to, .string s.cg, .bool s.kp]
def lsA (l : Ls) : Array Value := #[.int .i64 l.ep, .int .i64 l.st, .int .u8 l.to]
def vA (v : Dk.CV) : Array Value := #[.int .u64 (v.n : Int), .string v.s]
def ncl (n : Nt) : List Value := [.int .i64 n.kd, .int .u8 n.mb, .int .i64 n.tx, .int .i64 n.ep, .int .i64 n.vl, .int .i64 n.mq, .int .u8 n.mf, .int .u8 n.mt, .int .i64 n.me, .string n.cg]
instance : Nonempty (EncOk dcl 2) := ⟨⟨fun _ => rfl, fun x u hu => by simp only [dcl, List.mem_cons, List.not_mem_nil, or_false] at hu; rcases hu with rfl | rfl <;> rfl, by omega⟩⟩
instance : Nonempty (EncOk ncl 10) := ⟨⟨fun _ => rfl, fun x u hu => by simp only [ncl, List.mem_cons, List.not_mem_nil, or_false] at hu; rcases hu with rfl | rfl | rfl | rfl | rfl | rfl | rfl | rfl | rfl | rfl <;> rfl, by omega⟩⟩
def zB : Bl := ⟨0, 0⟩
def zL : Ls := ⟨0, 0, 0⟩
def zS : Sd := ⟨0, ⟨0, 0, 0⟩, ByteArray.empty, false⟩
def zV : Dk.CV := ⟨0, ByteArray.empty⟩
theorem btA_one (b : Bl) : (btA b).all (·.oneCell') = true := by simp [btA, Value.oneCell']
theorem siA_one (s : Sd) : (siA s).all (·.oneCell') = true := by simp [siA, Value.oneCell']
theorem lsA_one (l : Ls) : (lsA l).all (·.oneCell') = true := by simp [lsA, Value.oneCell']
theorem vA_one (v : Dk.CV) : (vA v).all (·.oneCell') = true := by simp [vA, Value.oneCell']
theorem btA_size (b : Bl) : (btA b).size = 2 := rfl
theorem siA_size (s : Sd) : (siA s).size = 6 := rfl
theorem lsA_size (l : Ls) : (lsA l).size = 3 := rfl
theorem vA_size (v : Dk.CV) : (vA v).size = 2 := rfl
theorem siA_pl (s : Sd) : (siA s).extract 1 (1 + (lsA s.l).size) = lsA s.l := by simp [siA, lsA]
theorem siA_cg (s : Sd) (x : ByteArray) : (siA s).setIfInBounds 4 (.string x) = siA { s with cg := x } := rfl
theorem Try.zBc : (Try.prog.info? 49).map (·.size) = some 2 := by kernel_rfl
theorem Try.zBr : (Try.prog.info? 42).map (·.size) = some 2 := by kernel_rfl
theorem Try.zSc : (Try.prog.info? 45).map (·.size) = some 6 := by kernel_rfl
theorem Try.zSr : (Try.prog.info? 40).map (·.size) = some 6 := by kernel_rfl
theorem Try.zLc : (Try.prog.info? 43).map (·.size) = some 3 := by kernel_rfl
theorem Try.zLr : (Try.prog.info? 38).map (·.size) = some 3 := by kernel_rfl
theorem Try.zVc : (Try.prog.info? 96).map (·.size) = some 2 := by kernel_rfl
theorem Try.zVr : (Try.prog.info? 87).map (·.size) = some 2 := by kernel_rfl
theorem one_s : (Try.prog.info? 9).map (·.size) = some 1 := by kernel_rfl
theorem one_bo : (Try.prog.info? 4).map (·.size) = some 1 := by kernel_rfl
theorem one_u64 : (Try.prog.info? 85).map (·.size) = some 1 := by kernel_rfl
theorem one_sb : (Try.prog.info? 27).map (·.size) = some 1 := by kernel_rfl
theorem one_en : (Try.prog.info? 24).map (·.size) = some 1 := by kernel_rfl
theorem one_sv : (Try.prog.info? 81).map (·.size) = some 1 := by kernel_rfl
theorem zero_bc (V : World) : (zeroValue 49).run Try.prog V = .ok (.agg (btA zB)) V := Try.zeroValue49 V
theorem zero_br (V : World) : (zeroValue 42).run Try.prog V = .ok (.agg (btA zB)) V := Try.zeroValue42 V
theorem zero_sc (V : World) : (zeroValue 45).run Try.prog V = .ok (.agg (siA zS)) V := Try.zeroValue45 V
theorem zero_sr (V : World) : (zeroValue 40).run Try.prog V = .ok (.agg (siA zS)) V := Try.zeroValue40 V
theorem zero_vc (V : World) : (zeroValue 96).run Try.prog V = .ok (.agg (vA zV)) V := Try.zeroValue96 V
theorem zero_vr (V : World) : (zeroValue 87).run Try.prog V = .ok (.agg (vA zV)) V := Try.zeroValue87 V
theorem Try.infoBc : (Try.prog.info? 49).map (fun i => (i.zero, i.size, i.bytes)) = some (some (.agg #[.int .i64 0, .int .i64 0]), 2, 16) := by kernel_rfl
theorem Try.infoBr : (Try.prog.info? 42).map (fun i => (i.zero, i.size, i.bytes)) = some (some (.agg #[.int .i64 0, .int .i64 0]), 2, 16) := by kernel_rfl
theorem Try.infoNc : (Try.prog.info? 75).map (fun i => (i.zero, i.size, i.bytes)) = some (some (.agg #[.int .i64 0, .int .u8 0, .int .i64 0, .int .i64 0, .int .i64 0, .int .i64 0, .int .u8 0, .int .u8 0, .int .i64 0, .string ⟨#[]⟩]), 10, 80) := by kernel_rfl
theorem Try.infoNr : (Try.prog.info? 109).map (fun i => (i.zero, i.size, i.bytes)) = some (some (.agg #[.int .i64 0, .int .u8 0, .int .i64 0, .int .i64 0, .int .i64 0, .int .i64 0, .int .u8 0, .int .u8 0, .int .i64 0, .string ⟨#[]⟩]), 10, 80) := by kernel_rfl
theorem Try.infoVc : (Try.prog.info? 96).map (fun i => (i.zero, i.size, i.bytes)) = some (some (.agg #[.int .u64 0, .string ⟨#[]⟩]), 2, 24) := by kernel_rfl
theorem Try.infoVr : (Try.prog.info? 87).map (fun i => (i.zero, i.size, i.bytes)) = some (some (.agg #[.int .u64 0, .string ⟨#[]⟩]), 2, 24) := by kernel_rfl
theorem Try.lit_bc : (Try.prog.info? 49).map (fun i => (i.zero, i.size)) = some (some (.agg #[.int .i64 0, .int .i64 0]), 2) := by kernel_rfl
theorem Try.lit_br : (Try.prog.info? 42).map (fun i => (i.zero, i.size)) = some (some (.agg #[.int .i64 0, .int .i64 0]), 2) := by kernel_rfl
theorem Try.lit_nc : (Try.prog.info? 75).map (fun i => (i.zero, i.size)) = some (some (.agg #[.int .i64 0, .int .u8 0, .int .i64 0, .int .i64 0, .int .i64 0, .int .i64 0, .int .u8 0, .int .u8 0, .int .i64 0, .string ⟨#[]⟩]), 10) := by kernel_rfl
theorem Try.lit_nr : (Try.prog.info? 109).map (fun i => (i.zero, i.size)) = some (some (.agg #[.int .i64 0, .int .u8 0, .int .i64 0, .int .i64 0, .int .i64 0, .int .i64 0, .int .u8 0, .int .u8 0, .int .i64 0, .string ⟨#[]⟩]), 10) := by kernel_rfl
theorem Try.lit_vr : (Try.prog.info? 87).map (fun i => (i.zero, i.size)) = some (some (.agg #[.int .u64 0, .string ⟨#[]⟩]), 2) := by kernel_rfl
theorem Try.lit_vc : (Try.prog.info? 96).map (fun i => (i.zero, i.size)) = some (some (.agg #[.int .u64 0, .string ⟨#[]⟩]), 2) := by kernel_rfl
theorem built_b2 (x y : Int) : Try.prog.built 49 [(0, .int .i64 x), (1, .int .i64 y)] = some (btA ⟨x, y⟩) := by kernel_rfl
theorem built_d2 (x y : Int) : Try.prog.built 42 [(0, .int .i64 x), (1, .int .i64 y)] = some (btA ⟨x, y⟩) := by kernel_rfl
theorem built_l2 (x y : Int) : Try.prog.built 43 [(0, .int .i64 x), (1, .int .i64 y)] = some (lsA ⟨x, y, 0⟩) := by kernel_rfl
theorem built_s4 (s : Sd) : Try.prog.built 45 [(0, .int .u8 s.me), (1, .agg (lsA s.l)), (2, .string s.cg), (3, .bool s.kp)] = some (siA s) := by kernel_rfl
theorem built_q4 (s : Sd) : Try.prog.built 40 [(0, .int .u8 s.me), (1, .agg (lsA s.l)), (2, .string s.cg), (3, .bool s.kp)] = some (siA s) := by kernel_rfl
theorem built_s1 (l : Ls) : Try.prog.built 45 [(1, .agg (lsA l))] = some (siA ⟨0, l, ByteArray.empty, false⟩) := by kernel_rfl
theorem built_s2 (m : Int) (l : Ls) : Try.prog.built 45 [(0, .int .u8 m), (1, .agg (lsA l))] = some (siA ⟨m, l, ByteArray.empty, false⟩) := by kernel_rfl
theorem built_s0 (m : Int) : Try.prog.built 45 [(0, .int .u8 m)] = some (siA ⟨m, zL, ByteArray.empty, false⟩) := by kernel_rfl
theorem built_v1 (x : Nat) : Try.prog.built 96 [(0, .int .u64 (x : Int))] = some (vA ⟨x, ByteArray.empty⟩) := by kernel_rfl
theorem built_u1 (x : Nat) : Try.prog.built 87 [(0, .int .u64 (x : Int))] = some (vA ⟨x, ByteArray.empty⟩) := by kernel_rfl
/-- '==' of ballots, leases, sides. -/
def eqB (a b : Bl) : Bool := (a.tx == b.tx) && (a.vt == b.vt)
def eqLs (a b : Ls) : Bool := (a.ep == b.ep) && (a.st == b.st) && (a.to == b.to)
def eqS (a b : Sd) : Bool := (a.me == b.me) && eqLs a.l b.l && (a.cg.toList == b.cg.toList) && (a.kp == b.kp)
theorem eqB_iff (a b : Bl) : eqB a b = true ↔ a = b := by
  constructor
  · intro h
    simp only [eqB, Bool.and_eq_true, beq_iff_eq] at h
    exact Bl.ext_ h.1 h.2
  · rintro rfl; simp [eqB]
theorem eqB_refl (a : Bl) : eqB a a = true := (eqB_iff a a).2 rfl
theorem eqLs_refl (a : Ls) : eqLs a a = true := by simp [eqLs]
theorem eqS_refl (a : Sd) : eqS a a = true := by simp [eqS, eqLs_refl]
set_option maxRecDepth 100000 in
theorem eq_bc (a b : Bl) (w : World) : (Op.equalIn 10000 49 (.agg (btA a)) (.agg (btA b))).run Try.prog w = .ok (eqB a b) w := by
  have u2 := Try.underlying3
  have hS : Try.prog.underlying 49 = some (.struct (Try.prog.fieldsOf 49)) := by kernel_rfl
  have hp : Try.prog.stoodInHeld 49 = false := by kernel_rfl
  have e2 : ∀ (x y : Int) (V : World), (Op.equalIn 9999 3 (.int .i64 x) (.int .i64 y)).run Try.prog V = .ok (x == y) V := fun x y V => run_equalIn_int V 9998 _ _ _ x y u2
  have a2 := Try.isAgg3
  have z2 := Try.sizeOf3
  rw [show (10000 : Nat) = 9999 + 1 from rfl, run_equalIn_agg w 9999 49 _ _ hS hp]
  simp only [Program.fieldsOf, Try.underlying49]
  simp [Op.eqFields, Sem.run_bind, e2, Sem.run_ite, part, a2, z2, btA, eqB]
  (repeat' split) <;> simp_all
set_option maxRecDepth 100000 in
theorem eq_br (a b : Bl) (w : World) : (Op.equalIn 10000 42 (.agg (btA a)) (.agg (btA b))).run Try.prog w = .ok (eqB a b) w := by
  have u2 := Try.underlying3
  have hS : Try.prog.underlying 42 = some (.struct (Try.prog.fieldsOf 42)) := by kernel_rfl
  have hp : Try.prog.stoodInHeld 42 = false := by kernel_rfl
  have e2 : ∀ (x y : Int) (V : World), (Op.equalIn 9999 3 (.int .i64 x) (.int .i64 y)).run Try.prog V = .ok (x == y) V := fun x y V => run_equalIn_int V 9998 _ _ _ x y u2
  have a2 := Try.isAgg3
  have z2 := Try.sizeOf3
  rw [show (10000 : Nat) = 9999 + 1 from rfl, run_equalIn_agg w 9999 42 _ _ hS hp]
  simp only [Program.fieldsOf, Try.underlying42]
  simp [Op.eqFields, Sem.run_bind, e2, Sem.run_ite, part, a2, z2, btA, eqB]
  (repeat' split) <;> simp_all
set_option maxRecDepth 100000 in
theorem eq_lc (a b : Ls) (d : Nat) (w : World) : (Op.equalIn (d + 2) 43 (.agg (lsA a)) (.agg (lsA b))).run Try.prog w = .ok (eqLs a b) w := by
  have u2 := Try.underlying3
  have u3 := Try.underlying5
  have hS : Try.prog.underlying 43 = some (.struct (Try.prog.fieldsOf 43)) := by kernel_rfl
  have hp : Try.prog.stoodInHeld 43 = false := by kernel_rfl
  have e2 : ∀ (x y : Int) (V : World), (Op.equalIn (d + 1) 3 (.int .i64 x) (.int .i64 y)).run Try.prog V = .ok (x == y) V := fun x y V => run_equalIn_int V d _ _ _ x y u2
  have e3 : ∀ (x y : Int) (V : World), (Op.equalIn (d + 1) 5 (.int .u8 x) (.int .u8 y)).run Try.prog V = .ok (x == y) V := fun x y V => run_equalIn_int V d _ _ _ x y u3
  have a2 := Try.isAgg3
  have z2 := Try.sizeOf3
  have a3 := Try.isAgg5
  have z3 := Try.sizeOf5
  rw [show d + 2 = (d + 1) + 1 from rfl, run_equalIn_agg w (d + 1) 43 _ _ hS hp]
  simp only [Program.fieldsOf, Try.underlying43]
  simp [Op.eqFields, Sem.run_bind, e2, e3, Sem.run_ite, part, a2, z2, a3, z3, lsA, eqLs]
  (repeat' split) <;> simp_all
set_option maxRecDepth 100000 in
theorem eq_sc (a b : Sd) (w : World) : (Op.equalIn 10000 45 (.agg (siA a)) (.agg (siA b))).run Try.prog w = .ok (eqS a b) w := by
  have u3 := Try.underlying5
  have u4 := Try.underlying9
  have u5 := Try.underlying4
  have hS : Try.prog.underlying 45 = some (.struct (Try.prog.fieldsOf 45)) := by kernel_rfl
  have hp : Try.prog.stoodInHeld 45 = false := by kernel_rfl
  have e3 : ∀ (x y : Int) (V : World), (Op.equalIn 9999 5 (.int .u8 x) (.int .u8 y)).run Try.prog V = .ok (x == y) V := fun x y V => run_equalIn_int V 9998 _ _ _ x y u3
  have e4 : ∀ (x y : ByteArray) (V : World), (Op.equalIn 9999 9 (.string x) (.string y)).run Try.prog V = .ok (x.toList == y.toList) V := fun x y V => run_equalIn_string V 9998 _ x y u4
  have e6 : ∀ (x y : Bool) (V : World), (Op.equalIn 9999 4 (.bool x) (.bool y)).run Try.prog V = .ok (x == y) V := fun x y V => run_equalIn_bool V 9998 _ x y u5
  have e5 := fun V => eq_lc a.l b.l 9997 V
  have a3 := Try.isAgg5
  have z3 := Try.sizeOf5
  have a4 := Try.isAgg9
  have z4 := Try.sizeOf9
  have a6 := Try.isAgg4
  have z6 := Try.sizeOf4
  have a5 := Try.isAgg43
  have z5 := Try.sizeOf43
  have p1 : ∀ (n : Sd) V, (part 43 (siA n) 1).run Try.prog V = .ok (.agg (lsA n.l)) V := fun n V => by simp [part, a5, z5, Sem.run_bind]; rfl
  have q1 : ∀ (n : Sd) V, (part 5 (siA n) 0).run Try.prog V = .ok (.int .u8 n.me) V := fun n V => by simp [part, a3, z3, Sem.run_bind, siA]
  have q2 : ∀ (n : Sd) V, (part 9 (siA n) 4).run Try.prog V = .ok (.string n.cg) V := fun n V => by simp [part, a4, z4, Sem.run_bind, siA]
  have q3 : ∀ (n : Sd) V, (part 4 (siA n) 5).run Try.prog V = .ok (.bool n.kp) V := fun n V => by simp [part, a6, z6, Sem.run_bind, siA]
  rw [show (10000 : Nat) = 9999 + 1 from rfl, run_equalIn_agg w 9999 45 _ _ hS hp]
  simp only [Program.fieldsOf, Try.underlying45]
  simp [Op.eqFields, Sem.run_bind, e3, e4, e5, e6, Sem.run_ite, p1, q1, q2, q3, z3, z4, z5, z6, eqS]
  (repeat' split) <;> simp_all
set_option maxRecDepth 100000 in
theorem eq_lr (a b : Ls) (d : Nat) (w : World) : (Op.equalIn (d + 2) 38 (.agg (lsA a)) (.agg (lsA b))).run Try.prog w = .ok (eqLs a b) w := by
  have u2 := Try.underlying3
  have u3 := Try.underlying5
  have hS : Try.prog.underlying 38 = some (.struct (Try.prog.fieldsOf 38)) := by kernel_rfl
  have hp : Try.prog.stoodInHeld 38 = false := by kernel_rfl
  have e2 : ∀ (x y : Int) (V : World), (Op.equalIn (d + 1) 3 (.int .i64 x) (.int .i64 y)).run Try.prog V = .ok (x == y) V := fun x y V => run_equalIn_int V d _ _ _ x y u2
  have e3 : ∀ (x y : Int) (V : World), (Op.equalIn (d + 1) 5 (.int .u8 x) (.int .u8 y)).run Try.prog V = .ok (x == y) V := fun x y V => run_equalIn_int V d _ _ _ x y u3
  have a2 := Try.isAgg3
  have z2 := Try.sizeOf3
  have a3 := Try.isAgg5
  have z3 := Try.sizeOf5
  rw [show d + 2 = (d + 1) + 1 from rfl, run_equalIn_agg w (d + 1) 38 _ _ hS hp]
  simp only [Program.fieldsOf, Try.underlying38]
  simp [Op.eqFields, Sem.run_bind, e2, e3, Sem.run_ite, part, a2, z2, a3, z3, lsA, eqLs]
  (repeat' split) <;> simp_all
set_option maxRecDepth 100000 in
theorem eq_sr (a b : Sd) (w : World) : (Op.equalIn 10000 40 (.agg (siA a)) (.agg (siA b))).run Try.prog w = .ok (eqS a b) w := by
  have u3 := Try.underlying5
  have u4 := Try.underlying9
  have u5 := Try.underlying4
  have hS : Try.prog.underlying 40 = some (.struct (Try.prog.fieldsOf 40)) := by kernel_rfl
  have hp : Try.prog.stoodInHeld 40 = false := by kernel_rfl
  have e3 : ∀ (x y : Int) (V : World), (Op.equalIn 9999 5 (.int .u8 x) (.int .u8 y)).run Try.prog V = .ok (x == y) V := fun x y V => run_equalIn_int V 9998 _ _ _ x y u3
  have e4 : ∀ (x y : ByteArray) (V : World), (Op.equalIn 9999 9 (.string x) (.string y)).run Try.prog V = .ok (x.toList == y.toList) V := fun x y V => run_equalIn_string V 9998 _ x y u4
  have e6 : ∀ (x y : Bool) (V : World), (Op.equalIn 9999 4 (.bool x) (.bool y)).run Try.prog V = .ok (x == y) V := fun x y V => run_equalIn_bool V 9998 _ x y u5
  have e5 := fun V => eq_lr a.l b.l 9997 V
  have a3 := Try.isAgg5
  have z3 := Try.sizeOf5
  have a4 := Try.isAgg9
  have z4 := Try.sizeOf9
  have a6 := Try.isAgg4
  have z6 := Try.sizeOf4
  have a5 := Try.isAgg38
  have z5 := Try.sizeOf38
  have p1 : ∀ (n : Sd) V, (part 38 (siA n) 1).run Try.prog V = .ok (.agg (lsA n.l)) V := fun n V => by simp [part, a5, z5, Sem.run_bind]; rfl
  have q1 : ∀ (n : Sd) V, (part 5 (siA n) 0).run Try.prog V = .ok (.int .u8 n.me) V := fun n V => by simp [part, a3, z3, Sem.run_bind, siA]
  have q2 : ∀ (n : Sd) V, (part 9 (siA n) 4).run Try.prog V = .ok (.string n.cg) V := fun n V => by simp [part, a4, z4, Sem.run_bind, siA]
  have q3 : ∀ (n : Sd) V, (part 4 (siA n) 5).run Try.prog V = .ok (.bool n.kp) V := fun n V => by simp [part, a6, z6, Sem.run_bind, siA]
  rw [show (10000 : Nat) = 9999 + 1 from rfl, run_equalIn_agg w 9999 40 _ _ hS hp]
  simp only [Program.fieldsOf, Try.underlying40]
  simp [Op.eqFields, Sem.run_bind, e3, e4, e5, e6, Sem.run_ite, p1, q1, q2, q3, z3, z4, z5, z6, eqS]
  (repeat' split) <;> simp_all
/-- What a call that gives ballots, or notes, back with a number says. -/
def LPostB (w : World) (T : TypeId) (L : List Bl) (k : Nat) (e : Ending) (w' : World) : Prop :=
  ∃ A n q, e = .returned (.tuple #[.slice A n q, .int .i64 (k : Int)]) ∧ RS w' T dcl 2 A n q L ∧ Below w.heap.size w w'
def LPostN (w : World) (T : TypeId) (L : List Nt) (k : Nat) (e : Ending) (w' : World) : Prop :=
  ∃ A n q, e = .returned (.tuple #[.slice A n q, .int .i64 (k : Int)]) ∧ RS w' T ncl 10 A n q L ∧ Below w.heap.size w w'
end Go.Proofs.Ytfdboahcaiolgaa
