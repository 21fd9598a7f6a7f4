/-
  Put, Add, Sum and Less of package ledger. Condition: the deltas can be read, a hundred thousand at most, and are such as a program can have.
-/
import Derived.Test.YtealcccjnmfkcaaLhD
set_option linter.unusedVariables false
set_option linter.unusedSimpArgs false
namespace Go.Proofs.Ytealcccjnmfkcaa
open Go.RowKit

/-- A call gave deltas in a block of their own, and a number back. -/
def TPostS (w : World) (L : List Dl) (k : Int) (e : Ending) (w' : World) : Prop :=
  ∃ A n c, e = .returned (.tuple #[.slice A n c, .int .i64 k]) ∧ DS w' A n c L ∧ Below w.heap.size w w'

set_option maxRecDepth 100000 in
set_option maxHeartbeats 2000000 in
theorem putG_c (A : Option Addr) (n c : Nat) (L : List Dl) (A' : Option Addr) (n' c' : Nat) (M : List Dl) (w : World) (h : DR w A n c L) (h' : DR w A' n' c' M) (hn : n ≤ 100000) (hn' : n' ≤ 100000) (wL : WfL L) (wM : WfL M) :
    Calls Try.prog 100 #[.slice A n c, .slice A' n' c'] w (TPostS w (sPut L M) (ePut L M)) := by
  have WL := Lib.hid wL
  have WM := Lib.hid wM
  clear wL wM
  go_enter Try.func100, Try.ntmps100
  go_wp2_with fail
  refine (rightG_c A n c L w h hn).mono ?_
  rintro e w1 ⟨rfl, b1⟩
  cases hr : rightB L with
  | false =>
    have Hs := Lib.hid (show sPut L M = L ∧ ePut L M = 2 by unfold sPut ePut; rw [if_neg (fun k => rightB_no.1 hr k.1), if_neg (fun k => rightB_no.1 hr k.1)]; exact ⟨rfl, rfl⟩)
    have hcp := copyG_c A n c L w1 (h.on b1) hn
    clear hr
    go_wp2_with fail
    refine hcp.mono ?_
    rintro e w2 ⟨A2, n2, c2, rfl, hs2, b2⟩
    have H := Lib.hid (show TPostS w (sPut L M) (ePut L M) (.returned (.tuple #[.slice A2 n2 c2, .int .i64 2])) w2 by rw [Hs.out.1, Hs.out.2]; exact ⟨A2, n2, c2, rfl, hs2, bel2 b1 b2⟩)
    clear hs2 b2 b1 hcp
    go_wp2_with fail
    go_ret2
    exact H.out
  | true =>
    have hki := keysIn_c A' n' c' M w1 (h'.on b1) hn'
    have Hr := Lib.hid (rightB_iff.1 hr)
    clear hr
    go_wp2_with fail
    refine hki.mono ?_
    rintro e w2 ⟨rfl, b2⟩
    have bb := bel2 b1 b2
    clear b1 b2 hki
    cases hk : keysB M with
    | false =>
      have Hs := Lib.hid (show sPut L M = L ∧ ePut L M = 2 by unfold sPut ePut; rw [if_neg (fun k => keysB_no.1 hk k.2), if_neg (fun k => keysB_no.1 hk k.2)]; exact ⟨rfl, rfl⟩)
      have hcp := copyG_c A n c L w2 (h.on bb) hn
      clear hk
      go_wp2_with fail
      refine hcp.mono ?_
      rintro e w3 ⟨A3, n3, c3, rfl, hs3, b3⟩
      have H := Lib.hid (show TPostS w (sPut L M) (ePut L M) (.returned (.tuple #[.slice A3 n3 c3, .int .i64 2])) w3 by rw [Hs.out.1, Hs.out.2]; exact ⟨A3, n3, c3, rfl, hs3, bel2 bb b3⟩)
      clear hs3 b3 bb hcp
      go_wp2_with fail
      go_ret2
      exact H.out
    | true =>
      have hk' := keysB_iff.1 hk
      have Hs := Lib.hid (show sPut L M = ofD (L ++ M) ∧ ePut L M = 0 by unfold sPut ePut; rw [if_pos ⟨Hr.out, hk'⟩, if_pos ⟨Hr.out, hk'⟩]; exact ⟨rfl, rfl⟩)
      have hsm := sumOf_c A n c L A' n' c' M w2 (h.on bb) (h'.on bb) hn hn' WL.out WM.out (right_keys Hr.out) hk'
      clear hk hk'
      go_wp2_with fail
      refine hsm.mono ?_
      rintro e w3 ⟨A3, n3, c3, rfl, hs3, b3⟩
      have H := Lib.hid (show TPostS w (sPut L M) (ePut L M) (.returned (.tuple #[.slice A3 n3 c3, .int .i64 0])) w3 by rw [Hs.out.1, Hs.out.2]; exact ⟨A3, n3, c3, rfl, hs3, bel2 bb b3⟩)
      clear hs3 b3 bb hsm
      go_wp2_with fail
      go_ret2
      exact H.out

end Go.Proofs.Ytealcccjnmfkcaa
