/-
  Bytes as slices of the walk (RR, SO of Row and Stq), beside the bytes of the namespace Dk. No condition.
-/
import Derived.Test.YtfdboahcaiolgaaMgS
import Derived.Test.YtfdboahcaiolgaaMgB
set_option linter.unusedVariables false
set_option linter.unusedSimpArgs false
set_option linter.unusedSectionVars false
namespace Go.Proofs.Ytfdboahcaiolgaa
open Go.RowKit

/-- A byte as the element of a slice. -/
def bcl (b : UInt8) : List Value := [.int .u8 (b.toNat : Int)]
instance : Nonempty (EncOk bcl 1) := ⟨⟨fun _ => rfl, fun x u hu => by simp [bcl] at hu; subst hu; rfl, by omega⟩⟩
theorem rc_bcl (bs : List UInt8) : rc bcl bs = Dk.bc bs := by
  induction bs with
  | nil => rfl
  | cons b r ih => rw [rc_cons, ih]; rfl
section
variable {W : World} {A : Option Addr} {n c : Nat} {bs : List UInt8} {G : Option Nat}
theorem rr_br {B : Nat} (h : Dk.BR W B A n c bs) : RR W bcl 1 A n c bs := by
  refine ⟨h.1, h.2.1, h.2.2.1, fun hn => ?_⟩
  obtain ⟨g, off, h1, _, h2⟩ := h.2.2.2 hn
  refine ⟨g, off, h1, fun i v hv => ?_⟩
  rw [rc_bcl] at hv
  unfold Dk.bc at hv
  rw [List.getElem?_map] at hv
  cases hb : bs[i]? with
  | none => rw [hb] at hv; cases hv
  | some b => rw [hb] at hv; cases hv; exact h2 i b hb
theorem br_rr (h : RR W bcl 1 A n c bs) : Dk.BR W W.heap.size A n c bs := by
  refine ⟨h.len, h.cap, h.max, fun hn => ?_⟩
  obtain ⟨g, off, h1, h2⟩ := h.mem hn
  refine ⟨g, off, h1, h.lt h1 hn, fun i b hb => ?_⟩
  have := RR.oneAt (f := fun b : UInt8 => Value.int .u8 (b.toNat : Int)) h (fun _ => rfl) hb h1
  exact this
theorem so_seg {N : Nat} {T : TypeId} (h : Dk.Seg W T 1 A n c (Dk.bc bs) G) (hi : ∀ g, G = some g → N ≤ g) : SO N W T bcl 1 A n c bs G := ⟨by rw [rc_bcl]; exact h, hi⟩
end
theorem conv_C {w : World} {A : Option Addr} {n c : Nat} {bs : List UInt8} (h : RR w bcl 1 A n c bs) : (convert 77 9 (.slice A n c)).run Try.prog w = .ok (.string (Dk.mkS bs)) w := Dk.conv_br (br_rr h)
end Go.Proofs.Ytfdboahcaiolgaa
