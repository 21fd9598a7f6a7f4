/-
  Layer 16: loads in a region that draws its order. No condition.
-/
import Derived.Test.YtemhfaodgofcpaaPaL
set_option linter.unusedVariables false
set_option linter.unusedSimpArgs false
namespace Go.Proofs.Ytemhfaodgofcpaa
open Go.RowKit

theorem ld_ss {w : World} {g i : Nat} {A : Option Addr} {n c : Nat} (h : w.cell? ⟨g, i, none⟩ = some (.slice A n c)) : (loadVar 40 ⟨g, i, none⟩).run Try.prog w = .ok (.slice A n c) w := by
  have ha := Try.isAgg40 w
  simp [loadVar, Sem.run_bind, ha, h, go_sem]
theorem ld_pp {w : World} {g i : Nat} {A : Option Addr} {n c : Nat} (h : w.cell? ⟨g, i, none⟩ = some (.slice A n c)) : (loadVar 37 ⟨g, i, none⟩).run Try.prog w = .ok (.slice A n c) w := by
  have ha := Try.isAgg37 w
  simp [loadVar, Sem.run_bind, ha, h, go_sem]
theorem ld_u16 {w : World} {g i : Nat} {x : Int} (h : w.cell? ⟨g, i, none⟩ = some (.int .u16 x)) : (loadVar 43 ⟨g, i, none⟩).run Try.prog w = .ok (.int .u16 x) w := by
  have ha := Try.isAgg43 w
  simp [loadVar, Sem.run_bind, ha, h, go_sem]
theorem ld_i {w : World} {g i : Nat} {x : Int} (h : w.cell? ⟨g, i, none⟩ = some (.int .i64 x)) : (loadVar 3 ⟨g, i, none⟩).run Try.prog w = .ok (.int .i64 x) w := by
  have ha := Try.isAgg3 w
  simp [loadVar, Sem.run_bind, ha, h, go_sem]
theorem ld_el {P : Program} {w : World} (T : TypeId) (g o : Nat) (cs : Array Value) (hr : w.rangeAt g o cs.toList) {d : TypeDesc} (hu : P.underlying T = some d) (hd : d.isRow = true) (hi : (P.info? T).map (·.size) = some cs.size) : (loadVar T ⟨g, o, none⟩).run P w = .ok (.agg cs) w := by
  simpa using run_loadVar_mid (P := P) w g o T cs.toList d hr hu hd (by simpa using hi)
end Go.Proofs.Ytemhfaodgofcpaa
