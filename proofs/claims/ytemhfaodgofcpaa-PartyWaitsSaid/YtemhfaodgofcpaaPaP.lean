/-
  Layer 16: step of two that talk, whole. Condition: the talk is as it may be.
-/
import Derived.Test.YtemhfaodgofcpaaPaP1
import Derived.Test.YtemhfaodgofcpaaPaP2
import Derived.Test.YtemhfaodgofcpaaPaP3
import Derived.Test.YtemhfaodgofcpaaPaP4
set_option linter.unusedVariables false
set_option linter.unusedSimpArgs false
namespace Go.Proofs.Ytemhfaodgofcpaa
open Go.RowKit

theorem step_c (w W : World) (b : Nat) (t : Tk) (h : TX w W b t) (ok : OkT 9 t) (hl : t.S.length < 1000) (s : Sp) (hkd : s.kd < 256) (hat : s.at_ < 65536) : Calls Try.prog 11 #[.pointer (some ⟨b, 0, none⟩), .agg (sA s)] W (fun e w' => e = .returned (.bool true) ∧ ∃ t', TX w w' b t' ∧ OkT 9 t' ∧ t'.S.length ≤ t.S.length + 1 ∧ (s.kd % 4 = 3 → t' = ⟨t.S, t.h, t.h⟩)) := by
  by_cases h0 : s.kd % 4 = 0
  · by_cases he : eSay (ouT 9 t) s.tx = 0
    · exact step_ok w W b t h ok hl s hkd hat h0 he
    · exact step_no w W b t h ok hl s hkd hat h0 he
  · by_cases h3 : s.kd % 4 = 3
    · exact step_ack w W b t h ok hl s hkd hat h3
    · exact step_pkt w W b t h ok hl s hkd hat ⟨h0, h3⟩
end Go.Proofs.Ytemhfaodgofcpaa
