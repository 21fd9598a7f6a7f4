/-
  First of package sum. Conditions: the bytes can be read.
-/
import Derived.Test.YtcfdfimkgehdfaaNSumC
namespace Go.Proofs.Ytcfdfimkgehdfaa.Dk
set_option maxRecDepth 100000
open Go.RowKit

/-- First: the piece is one of the call's own. -/
def FPost (w : World) (bs : List UInt8) (e : Ending) (w' : World) : Prop :=
  ∃ A' n' c', e = .returned (.tuple #[.slice A' n' c', .int .i64 (fK bs : Int), .int .i64 (fE bs : Int)]) ∧ BR w' w'.heap.size A' n' c' (fC bs) ∧ Below w.heap.size w w'

set_option maxRecDepth 100000 in
set_option maxHeartbeats 1000000 in
theorem first_c (A : Option Addr) (n c : Nat) (bs : List UInt8) (w : World) (hb : BR w w.heap.size A n c bs) :
    Calls Try.prog 60 #[.slice A n c] w (FPost w bs) := by
  go_enter Try.func60, Try.ntmps60
  go_wp2_with fail
  refine (cut_c _ A n c bs w hb).mono ?_
  rintro e w1 ⟨A1, n1, c1, rfl, hb1, hbl1⟩
  have hn1 : n1 ≤ 1000000 := by rw [← hb1.1]; have := fC_length_le bs; omega
  obtain ⟨K1, hK⟩ : ∃ K, fK bs = K := ⟨_, rfl⟩
  obtain ⟨E1, hE⟩ : ∃ E, fE bs = E := ⟨_, rfl⟩
  rw [hK, hE]
  have HK := Lib.hid hK
  have HE := Lib.hid hE
  clear hK hE hb
  go_wp2_with fail
  refine (clone_c _ A1 n1 c1 _ w1 hb1 hn1).mono ?_
  rintro e w2 ⟨A2, n2, c2, G2, rfl, hs2, hg2, hm2⟩
  have H := Lib.hid (show FPost w bs (.returned (.tuple #[.slice A2 n2 c2, .int .i64 (K1 : Int), .int .i64 (E1 : Int)])) w2 by
    rw [← HK.out, ← HE.out]
    exact ⟨A2, n2, c2, rfl, BR.of_seg hs2, hbl1.trans (grown_below hg2 hbl1.size (fun g e => by cases e))⟩)
  clear hs2 hg2 hm2 hb1 hbl1
  go_wp2_with fail
  go_ret3
  exact H.out
end Go.Proofs.Ytcfdfimkgehdfaa.Dk
