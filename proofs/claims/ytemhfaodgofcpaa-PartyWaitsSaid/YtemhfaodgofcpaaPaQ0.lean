/-
  Layer 16: guarded loads. No condition.
-/
import Derived.Test.YtemhfaodgofcpaaPaP
set_option linter.unusedVariables false
set_option linter.unusedSimpArgs false
namespace Go.Proofs.Ytemhfaodgofcpaa
open Go.RowKit

theorem rd_loadG {P : Program} {ops : Array Oper} {o : Oper} {a : Act} {w : World} {K : Act → World → Prop} {Q : Exit → Act → World → Prop} (hw : Region.wanted o (yielded ops a.tmps) = true) (T : TypeId) (x : Operand) (ho : o.op = .load T x) (d : Option Tmp) (hd : o.dst = d) (v : Value) (g i : Nat) (hx : a.eval x = .pointer (some ⟨g, i, none⟩)) (hrun : (loadVar T ⟨g, i, none⟩).run P w = .ok v w) (k : Sh (K (a.put d v) w)) : if Region.wanted o (yielded ops a.tmps) = true then Oper.wp P o a w K Q else K (a.put o.dst undef) w := by
  subst hd
  rw [if_pos hw]
  unfold Oper.wp execOp
  simp only [ho, hx, Instr.loadAt, Instr.sureAddr, Sem.run_bind, Sem.run_pure, Result.andThen_ok, hrun]
  exact k.out
theorem st_elemG {P : Program} {ops : Array Oper} {rest : List Oper} {dst : Option Tmp} {ty : TypeId} {pos : String} {aft : Array Edge} {gd : Nat × Bool} {a : Act} {w : World} {Q : Exit → Act → World → Prop} (T : TypeId) (x : Operand) (g o : Nat) (cs : Array Value) (hx : a.eval x = .pointer (some ⟨g, o, none⟩)) (hr : w.rangeAt g o cs.toList) {d : TypeDesc}
    (hu : P.underlying T = some d) (hd : d.isRow = true) (hi : (P.info? T).map (·.size) = some cs.size) (hw : Region.wanted ⟨dst, .load T x, ty, pos, aft, some gd⟩ (yielded ops a.tmps) = true)
    (k : wpList P ops Q rest (a.put dst (.agg cs)) w) : wpList P ops Q (⟨dst, .load T x, ty, pos, aft, some gd⟩ :: rest) a w :=
  wpList_step fun K hK => by
    rw [if_pos hw]
    unfold Oper.wp execOp
    simp only [hx, Instr.loadAt, Instr.sureAddr, Sem.run_bind, Sem.run_pure, Result.andThen_ok, ld_el (P := P) T g o cs hr hu hd hi]
    exact hK _ _ k
theorem okT_0 : OkT 9 ⟨[], 0, 0⟩ := ⟨Nat.le_refl _, Nat.le_refl _, fun t h => by simp at h, by simp⟩
end Go.Proofs.Ytemhfaodgofcpaa
