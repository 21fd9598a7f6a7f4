/-
  Tallies in memory: their cells, a load and a store of a whole one and of one of its arrays, two that are compared. No condition but what each theorem names.
-/
import Derived.Test.YtjfmahceolhfnaaRows
import Derived.Test.YtjfmahceolhfnaaMemC
import Derived.Test.YtjfmahceolhfnaaTyM
import Derived.WalkKit
import Derived.WalkSpells
import Derived.WalkLawsBesides
import Derived.OwnWalk
import Derived.Laws.StructEq
import Derived.Laws.Pointers
import Derived.Laws.Small
import Derived.Laws.Cover2
import Derived.Deep.MidRow
import Derived.Deep.QuietTactic
import Derived.BigQuiet
import Derived.Lib.Hide
import Derived.IntWalk
import Derived.StillTailTactics
import Derived.Deep.RegionHeld3
set_option linter.unusedVariables false
set_option linter.unusedSimpArgs false
namespace Go.Proofs.Ytjfmahceolhfnaa
open Go.RowKit

theorem le_tr {w w1 w2 : World} (h : Below w.heap.size w w1) (k : Below w1.heap.size w1 w2) : Below w.heap.size w w2 := h.trans (k.mono h.size)
theorem le_al (w : World) (o : Obj) : Below w.heap.size w (w.alloc o) := (Below.refl _ _).alloc (Nat.le_refl _) o
theorem le_dr {B : Nat} {W w1 : World} (h : Below B W.drew w1) : Below B W w1 := ⟨h.os, h.tape, h.output, h.size, h.block⟩
theorem le_on {W W' : World} {b : Nat} {T : TypeId} {cs : Array Value} (h : CB W b T cs) (hb : Below W.heap.size W W') : CB W' b T cs := CB.same h (hb.block _ (CB.lt h))
theorem le_dN {B k : Nat} {a w : World} (h : Below B a w) : Below B a (w.drewN k) := ⟨h.os, h.tape, h.output, h.size, h.block⟩
theorem cb_cast {W : World} {b : Nat} {T : TypeId} {cs cs' : Array Value} (h : CB W b T cs) (e : cs = cs') : CB W b T cs' := e ▸ h
/-- Eight truth values, eight numbers, a tally, as cells. -/
def bA (f : Nat → Bool) : Array Value := #[.bool (f 0), .bool (f 1), .bool (f 2), .bool (f 3), .bool (f 4), .bool (f 5), .bool (f 6), .bool (f 7)]
def iA (f : Nat → Int) : Array Value := #[.int .i64 (f 0), .int .i64 (f 1), .int .i64 (f 2), .int .i64 (f 3), .int .i64 (f 4), .int .i64 (f 5), .int .i64 (f 6), .int .i64 (f 7)]
def tA (S : Ty) : Array Value := #[.bool (S.wh 0), .bool (S.wh 1), .bool (S.wh 2), .bool (S.wh 3), .bool (S.wh 4), .bool (S.wh 5), .bool (S.wh 6), .bool (S.wh 7), .int .i64 (S.vt 0), .int .i64 (S.vt 1), .int .i64 (S.vt 2), .int .i64 (S.vt 3), .int .i64 (S.vt 4), .int .i64 (S.vt 5), .int .i64 (S.vt 6), .int .i64 (S.vt 7), .int .i64 (S.ep 0), .int .i64 (S.ep 1), .int .i64 (S.ep 2), .int .i64 (S.ep 3), .int .i64 (S.ep 4), .int .i64 (S.ep 5), .int .i64 (S.ep 6), .int .i64 (S.ep 7)]
theorem bA_get (f : Nat → Bool) : ∀ {k : Nat}, k < 8 → (bA f)[k]? = some (.bool (f k))
  | 0, _ => rfl
  | 1, _ => rfl
  | 2, _ => rfl
  | 3, _ => rfl
  | 4, _ => rfl
  | 5, _ => rfl
  | 6, _ => rfl
  | 7, _ => rfl
theorem iA_get (f : Nat → Int) : ∀ {k : Nat}, k < 8 → (iA f)[k]? = some (.int .i64 (f k))
  | 0, _ => rfl
  | 1, _ => rfl
  | 2, _ => rfl
  | 3, _ => rfl
  | 4, _ => rfl
  | 5, _ => rfl
  | 6, _ => rfl
  | 7, _ => rfl
theorem tA_wh (S : Ty) : ∀ {k : Nat}, k < 8 → (tA S)[k]? = some (.bool (S.wh k))
  | 0, _ => rfl
  | 1, _ => rfl
  | 2, _ => rfl
  | 3, _ => rfl
  | 4, _ => rfl
  | 5, _ => rfl
  | 6, _ => rfl
  | 7, _ => rfl
theorem tA_vt (S : Ty) : ∀ {k : Nat}, k < 8 → (tA S)[8 + k]? = some (.int .i64 (S.vt k))
  | 0, _ => rfl
  | 1, _ => rfl
  | 2, _ => rfl
  | 3, _ => rfl
  | 4, _ => rfl
  | 5, _ => rfl
  | 6, _ => rfl
  | 7, _ => rfl
theorem tA_ep (S : Ty) : ∀ {k : Nat}, k < 8 → (tA S)[16 + k]? = some (.int .i64 (S.ep k))
  | 0, _ => rfl
  | 1, _ => rfl
  | 2, _ => rfl
  | 3, _ => rfl
  | 4, _ => rfl
  | 5, _ => rfl
  | 6, _ => rfl
  | 7, _ => rfl
theorem bA_set (f : Nat → Bool) (v : Bool) : ∀ {k : Nat}, k < 8 → (bA f).setIfInBounds k (.bool v) = bA (updB f k v)
  | 0, _ => rfl
  | 1, _ => rfl
  | 2, _ => rfl
  | 3, _ => rfl
  | 4, _ => rfl
  | 5, _ => rfl
  | 6, _ => rfl
  | 7, _ => rfl
theorem iA_set (f : Nat → Int) (v : Int) : ∀ {k : Nat}, k < 8 → (iA f).setIfInBounds k (.int .i64 v) = iA (updI f k v)
  | 0, _ => rfl
  | 1, _ => rfl
  | 2, _ => rfl
  | 3, _ => rfl
  | 4, _ => rfl
  | 5, _ => rfl
  | 6, _ => rfl
  | 7, _ => rfl
theorem tA_swh (S : Ty) (v : Bool) : ∀ {k : Nat}, k < 8 → (tA S).setIfInBounds k (.bool v) = tA ⟨updB S.wh k v, S.vt, S.ep⟩
  | 0, _ => rfl
  | 1, _ => rfl
  | 2, _ => rfl
  | 3, _ => rfl
  | 4, _ => rfl
  | 5, _ => rfl
  | 6, _ => rfl
  | 7, _ => rfl
theorem tA_svt (S : Ty) (v : Int) : ∀ {k : Nat}, k < 8 → (tA S).setIfInBounds (8 + k) (.int .i64 v) = tA ⟨S.wh, updI S.vt k v, S.ep⟩
  | 0, _ => rfl
  | 1, _ => rfl
  | 2, _ => rfl
  | 3, _ => rfl
  | 4, _ => rfl
  | 5, _ => rfl
  | 6, _ => rfl
  | 7, _ => rfl
theorem tA_sep (S : Ty) (v : Int) : ∀ {k : Nat}, k < 8 → (tA S).setIfInBounds (16 + k) (.int .i64 v) = tA ⟨S.wh, S.vt, updI S.ep k v⟩
  | 0, _ => rfl
  | 1, _ => rfl
  | 2, _ => rfl
  | 3, _ => rfl
  | 4, _ => rfl
  | 5, _ => rfl
  | 6, _ => rfl
  | 7, _ => rfl
theorem tA_one (S : Ty) : (tA S).all (·.oneCell') = true := by simp [tA, Value.oneCell']
theorem bA_one (f : Nat → Bool) : (bA f).all (·.oneCell') = true := by simp [bA, Value.oneCell']
theorem iA_one (f : Nat → Int) : (iA f).all (·.oneCell') = true := by simp [iA, Value.oneCell']
theorem tA_size (S : Ty) : (tA S).size = 24 := rfl
theorem bA_size (f : Nat → Bool) : (bA f).size = 8 := rfl
theorem iA_size (f : Nat → Int) : (iA f).size = 8 := rfl

theorem Try.zTc : (Try.prog.info? 40).map (·.size) = some 24 := by kernel_rfl
theorem Try.zTr : (Try.prog.info? 73).map (·.size) = some 24 := by kernel_rfl
theorem Try.zB8 : (Try.prog.info? 37).map (·.size) = some 8 := by kernel_rfl
theorem Try.zI8 : (Try.prog.info? 38).map (·.size) = some 8 := by kernel_rfl

set_option maxRecDepth 100000 in
theorem eq_b8 (f g : Nat → Bool) (d : Nat) (w : World) : (Op.equalIn (d + 2) 37 (.agg (bA f)) (.agg (bA g))).run Try.prog w = .ok (eqB f g) w := by
  have u := Try.underlying4
  have a := Try.isAgg4
  have z := Try.sizeOf4
  have e : ∀ (x y : Bool) (V : World), (Op.equalIn (d + 1) 4 (.bool x) (.bool y)).run Try.prog V = .ok (x == y) V := fun x y V => run_equalIn_bool V d _ x y u
  rw [show d + 2 = (d + 1) + 1 from rfl, Op.equalIn]
  simp only [Sem.run_bind, run_underlying Try.underlying37, Result.andThen_ok, bA]
  simp only [Std.Legacy.Range.forIn_eq_forIn_range', Std.Legacy.Range.size, Nat.sub_zero, Nat.add_sub_cancel, Nat.div_one, List.range'_succ, List.range'_zero, List.forIn_cons, List.forIn_nil]
  simp [z, a, part, e, eqB, allB, Sem.run_bind, Sem.run_ite]
  (repeat' split) <;> simp_all

set_option maxRecDepth 100000 in
theorem eq_i8 (f g : Nat → Int) (d : Nat) (w : World) : (Op.equalIn (d + 2) 38 (.agg (iA f)) (.agg (iA g))).run Try.prog w = .ok (eqI f g) w := by
  have u := Try.underlying3
  have a := Try.isAgg3
  have z := Try.sizeOf3
  have e : ∀ (x y : Int) (V : World), (Op.equalIn (d + 1) 3 (.int .i64 x) (.int .i64 y)).run Try.prog V = .ok (x == y) V := fun x y V => run_equalIn_int V d _ _ _ x y u
  rw [show d + 2 = (d + 1) + 1 from rfl, Op.equalIn]
  simp only [Sem.run_bind, run_underlying Try.underlying38, Result.andThen_ok, iA]
  simp only [Std.Legacy.Range.forIn_eq_forIn_range', Std.Legacy.Range.size, Nat.sub_zero, Nat.add_sub_cancel, Nat.div_one, List.range'_succ, List.range'_zero, List.forIn_cons, List.forIn_nil]
  simp [z, a, part, e, eqI, allB, Sem.run_bind, Sem.run_ite]
  (repeat' split) <;> simp_all

def eqY (S R : Ty) : Bool := eqB S.wh R.wh && eqI S.vt R.vt && eqI S.ep R.ep
theorem eqY_refl (S : Ty) : eqY S S = true := by simp [eqY, eqB_refl, eqI_refl]

set_option maxRecDepth 100000 in
theorem eq_tc (S R : Ty) (w : World) : (Op.equalIn 10000 40 (.agg (tA S)) (.agg (tA R))).run Try.prog w = .ok (eqY S R) w := by
  have a := Try.isAgg37
  have z := Try.sizeOf37
  have a2 := Try.isAgg38
  have z2 := Try.sizeOf38
  have hS : Try.prog.underlying 40 = some (.struct (Try.prog.fieldsOf 40)) := by kernel_rfl
  have hp : Try.prog.stoodInHeld 40 = false := by kernel_rfl
  have p1 : ∀ V, (part 37 (tA S) 0).run Try.prog V = .ok (.agg (bA S.wh)) V := fun V => by simp [part, a, z, Sem.run_bind]; rfl
  have p2 : ∀ V, (part 37 (tA R) 0).run Try.prog V = .ok (.agg (bA R.wh)) V := fun V => by simp [part, a, z, Sem.run_bind]; rfl
  have p3 : ∀ V, (part 38 (tA S) 8).run Try.prog V = .ok (.agg (iA S.vt)) V := fun V => by simp [part, a2, z2, Sem.run_bind]; rfl
  have p4 : ∀ V, (part 38 (tA R) 8).run Try.prog V = .ok (.agg (iA R.vt)) V := fun V => by simp [part, a2, z2, Sem.run_bind]; rfl
  have p5 : ∀ V, (part 38 (tA S) 16).run Try.prog V = .ok (.agg (iA S.ep)) V := fun V => by simp [part, a2, z2, Sem.run_bind]; rfl
  have p6 : ∀ V, (part 38 (tA R) 16).run Try.prog V = .ok (.agg (iA R.ep)) V := fun V => by simp [part, a2, z2, Sem.run_bind]; rfl
  have e1 := fun f g V => eq_b8 f g 9997 V
  have e2 := fun f g V => eq_i8 f g 9997 V
  rw [show (10000 : Nat) = 9999 + 1 from rfl, run_equalIn_agg w 9999 40 _ _ hS hp]
  simp only [Program.fieldsOf, Try.underlying40]
  simp [Op.eqFields, Sem.run_bind, p1, p2, p3, p4, p5, p6, e1, e2, Sem.run_ite, eqY]
  (repeat' split) <;> simp_all

set_option maxRecDepth 100000 in
theorem eq_tr (S R : Ty) (w : World) : (Op.equalIn 10000 73 (.agg (tA S)) (.agg (tA R))).run Try.prog w = .ok (eqY S R) w := by
  have a := Try.isAgg37
  have z := Try.sizeOf37
  have a2 := Try.isAgg38
  have z2 := Try.sizeOf38
  have hS : Try.prog.underlying 73 = some (.struct (Try.prog.fieldsOf 73)) := by kernel_rfl
  have hp : Try.prog.stoodInHeld 73 = false := by kernel_rfl
  have p1 : ∀ V, (part 37 (tA S) 0).run Try.prog V = .ok (.agg (bA S.wh)) V := fun V => by simp [part, a, z, Sem.run_bind]; rfl
  have p2 : ∀ V, (part 37 (tA R) 0).run Try.prog V = .ok (.agg (bA R.wh)) V := fun V => by simp [part, a, z, Sem.run_bind]; rfl
  have p3 : ∀ V, (part 38 (tA S) 8).run Try.prog V = .ok (.agg (iA S.vt)) V := fun V => by simp [part, a2, z2, Sem.run_bind]; rfl
  have p4 : ∀ V, (part 38 (tA R) 8).run Try.prog V = .ok (.agg (iA R.vt)) V := fun V => by simp [part, a2, z2, Sem.run_bind]; rfl
  have p5 : ∀ V, (part 38 (tA S) 16).run Try.prog V = .ok (.agg (iA S.ep)) V := fun V => by simp [part, a2, z2, Sem.run_bind]; rfl
  have p6 : ∀ V, (part 38 (tA R) 16).run Try.prog V = .ok (.agg (iA R.ep)) V := fun V => by simp [part, a2, z2, Sem.run_bind]; rfl
  have e1 := fun f g V => eq_b8 f g 9997 V
  have e2 := fun f g V => eq_i8 f g 9997 V
  rw [show (10000 : Nat) = 9999 + 1 from rfl, run_equalIn_agg w 9999 73 _ _ hS hp]
  simp only [Program.fieldsOf, Try.underlying73]
  simp [Op.eqFields, Sem.run_bind, p1, p2, p3, p4, p5, p6, e1, e2, Sem.run_ite, eqY]
  (repeat' split) <;> simp_all
end Go.Proofs.Ytjfmahceolhfnaa
