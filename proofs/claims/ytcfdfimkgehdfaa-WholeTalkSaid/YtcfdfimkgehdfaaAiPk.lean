/-
  Layer 18: the calls of an air told by their numbers. No condition.
-/
import Derived.Test.YtcfdfimkgehdfaaAiL
set_option linter.unusedVariables false
set_option linter.unusedSimpArgs false
namespace Go.Proofs.Ytcfdfimkgehdfaa
open Go.RowKit

/-- Behind Take, told by what is taken. -/
def TPk (w : World) (S : Nat → Prop) (ba room : Nat) (Q : Qs) (l : Lt) (z : Int) (e : Ending) (w' : World) : Prop :=
  ∃ x : Lm, e = .returned (.tuple #[.agg (lA x), .int .i64 z]) ∧ x.lt = l ∧ RS w' 5 bcl 1 x.A x.n x.c x.b ∧ ∃ S', AO S' ba room Q w' ∧ Out w w' S ∧ (∀ i, S' i → S i ∨ w.heap.size ≤ i) ∧ ∀ g, InB x.A g → S g ∧ ¬ S' g
section
variable {S : Nat → Prop} {ba room : Nat} {Q Q' : Qs} {w : World} {z : Int}
theorem send_k (x : Lm) {l : Lt} (h : AO S ba room Q w) (hx : RR w bcl 1 x.A x.n x.c x.b) (hl : x.lt = l) (hQ : sSn room Q l = Q') (hz : ((eSn room Q l : Nat) : Int) = z) : Calls Try.prog 19 #[.pointer (some ⟨ba, 0, none⟩), .agg (lA x)] w (APost w S ba room Q' (.int .i64 z)) := by
  subst hl hQ hz
  exact send_c S ba room Q x w h hx
theorem take_k {t : Nat} {i : Int} {l : Lt} (h : AO S ba room Q w) (hl : xTk Q t i = l) (hQ : sTk Q t i = Q') (hz : ((eAt Q t i : Nat) : Int) = z) : Calls Try.prog 17 #[.pointer (some ⟨ba, 0, none⟩), .int .u8 (t : Int), .int .i64 i] w (TPk w S ba room Q' l z) := by
  subst hl hQ hz
  exact take_c S ba room Q t i w h
theorem again_k {t : Nat} {i : Int} (h : AO S ba room Q w) (hQ : sAg room Q t i = Q') (hz : ((eAg room Q t i : Nat) : Int) = z) : Calls Try.prog 20 #[.pointer (some ⟨ba, 0, none⟩), .int .u8 (t : Int), .int .i64 i] w (APost w S ba room Q' (.int .i64 z)) := by
  subst hQ hz
  exact again_c S ba room Q t i w h
theorem turn_k {t : Nat} {i : Int} {p : Nat} {y : UInt8} (hp : p < 65536) (h : AO S ba room Q w) (hQ : sTn Q t i p y = Q') (hz : ((eTn Q t i : Nat) : Int) = z) : Calls Try.prog 21 #[.pointer (some ⟨ba, 0, none⟩), .int .u8 (t : Int), .int .i64 i, .int .u16 (p : Int), .int .u8 (y.toNat : Int)] w (APost w S ba room Q' (.int .i64 z)) := by
  subst hQ hz
  exact turn_c S ba room Q t i p y hp w h
theorem alen_k {t : Nat} (h : AO S ba room Q w) (hz : ((Q t).length : Int) = z) : Calls Try.prog 15 #[.pointer (some ⟨ba, 0, none⟩), .int .u8 (t : Int)] w fun e w' => e = .returned (.int .i64 z) ∧ w = w' := by
  subst hz
  exact alen_c S ba room Q t w h
end
end Go.Proofs.Ytcfdfimkgehdfaa
