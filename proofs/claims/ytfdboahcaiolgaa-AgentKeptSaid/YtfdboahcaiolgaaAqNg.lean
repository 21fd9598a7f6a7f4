/-
  Layer 17: bytes and values as slices of the walk (RR, SO of Row and Stq), and the contracts of code and sum, which stand in the namespace Dk, told by them. No condition but what each theorem names.
-/
import Derived.Test.YtfdboahcaiolgaaBcl
import Derived.Test.YtfdboahcaiolgaaMgC
import Derived.Test.YtfdboahcaiolgaaMgD
import Derived.Test.YtfdboahcaiolgaaMgM
set_option linter.unusedVariables false
set_option linter.unusedSimpArgs false
set_option linter.unusedSectionVars false
namespace Go.Proofs.Ytfdboahcaiolgaa
open Go.RowKit

/-- A byte, a value, as the elements of a slice. -/
def vcl (v : Dk.CV) : List Value := [.int .u64 v.n, .string v.s]
instance : Nonempty (EncOk vcl 2) := ⟨⟨fun _ => rfl, fun x u hu => by simp only [vcl, List.mem_cons, List.not_mem_nil, or_false] at hu; rcases hu with rfl | rfl <;> rfl, by omega⟩⟩
theorem rc_vcl (l : List Dk.CV) : rc vcl l = Dk.vc l := rfl
section
variable {W : World} {A : Option Addr} {n c : Nat} {bs : List UInt8} {l : List Dk.CV} {G : Option Nat}
theorem vr_rr (h : RR W vcl 2 A n c l) (ho : Dk.okV l) : Dk.VR W A l := by
  intro i v hv
  obtain ⟨h1, h2⟩ := ho v (List.mem_of_getElem? hv)
  have hi : i < n := by rw [← h.len]; exact (List.getElem?_eq_some_iff.1 hv).1
  obtain ⟨g, off, x, e1, e2, e3⟩ := h.at_ hi
  rw [hv] at e1
  cases e1
  refine ⟨h1, h2, g, off, e2, h.lt e2 (by omega), ?_, ?_⟩
  · have := e3 0 _ rfl
    simpa using this
  · exact e3 1 _ rfl
end
theorem Dk.VR.on {W V : World} {A : Option Addr} {l : List Dk.CV} (h : Dk.VR W A l) (hb : Below W.heap.size W V) : Dk.VR V A l := h.below hb (Nat.le_refl _)
theorem Dk.VR.drew {W : World} {A : Option Addr} {l : List Dk.CV} (h : Dk.VR W A l) : Dk.VR W.drew A l := h
/-- Ends of calls: bytes and an error; bytes of the call's own; values; the first frame. -/
def YPost (w : World) (bs : List UInt8) (k : Nat) (e : Ending) (w' : World) : Prop :=
  ∃ A n c, e = .returned (.tuple #[.slice A n c, .int .i64 (k : Int)]) ∧ RR w' bcl 1 A n c bs ∧ Below w.heap.size w w'
def OwnPost (w : World) (T : TypeId) (bs : List UInt8) (k : Nat) (e : Ending) (w' : World) : Prop :=
  ∃ A n c G, e = .returned (.tuple #[.slice A n c, .int .i64 (k : Int)]) ∧ SO w.heap.size w' T bcl 1 A n c bs G ∧ Below w.heap.size w w'
def ValPost (w : World) (l : List Dk.CV) (k : Nat) (e : Ending) (w' : World) : Prop :=
  ∃ A c, e = .returned (.tuple #[.slice A l.length c, .int .i64 (k : Int)]) ∧ Dk.VR w' A l ∧ Below w.heap.size w w'
def FstPost (w : World) (bs : List UInt8) (e : Ending) (w' : World) : Prop :=
  ∃ A n c, e = .returned (.tuple #[.slice A n c, .int .i64 (Dk.fK bs : Int), .int .i64 (Dk.fE bs : Int)]) ∧ RR w' bcl 1 A n c (Dk.fC bs) ∧ Below w.heap.size w w'
section
variable (A : Option Addr) (n c : Nat) (bs : List UInt8) (l : List Dk.CV) (w : World)
theorem enc_C (s : ByteArray) (hs : s.size ≤ maxLen) (h : RR w vcl 2 A l.length c l) (ho : Dk.okV l) : Calls Try.prog 27 #[.string s, .slice A l.length c] w (YPost w (Dk.bE (Dk.bl s) l) (Dk.eE (Dk.bl s) l)) := by
  refine (Dk.encode_c s A c l w hs (vr_rr h ho)).mono ?_
  rintro e w' ⟨A', n', c', G, rfl, h1, h2⟩
  exact ⟨A', n', c', rfl, RR.of_seg (T := 5) (G := G) (by rw [rc_bcl]; exact h1), h2⟩
theorem enc_R (s : ByteArray) (hs : s.size ≤ maxLen) (h : RR w vcl 2 A l.length c l) (ho : Dk.okV l) : Calls Try.prog 32 #[.string s, .slice A l.length c] w (YPost w (Dk.bE (Dk.bl s) l) (Dk.eE (Dk.bl s) l)) := by
  refine (Dk.encode_r s A c l w hs (vr_rr h ho)).mono ?_
  rintro e w' ⟨A', n', c', G, rfl, h1, h2⟩
  exact ⟨A', n', c', rfl, RR.of_seg (T := 5) (G := G) (by rw [rc_bcl]; exact h1), h2⟩
theorem dec_C (s : ByteArray) (hs : s.size ≤ maxLen) (h : RR w bcl 1 A n c bs) : Calls Try.prog 34 #[.string s, .slice A n c] w (ValPost w (Dk.lD (Dk.bl s) bs) (Dk.eD (Dk.bl s) bs)) := by
  refine (Dk.decode_c s A n c bs w hs (br_rr h)).mono ?_
  rintro e w' ⟨A', c', rfl, h1, _, h2⟩
  exact ⟨A', c', rfl, h1, h2⟩
theorem dec_R (s : ByteArray) (hs : s.size ≤ maxLen) (h : RR w bcl 1 A n c bs) (hn : n ≤ 5000) : Calls Try.prog 37 #[.string s, .slice A n c] w (ValPost w (Dk.lD (Dk.bl s) bs) (Dk.eD (Dk.bl s) bs)) := by
  refine (Dk.decode_r s A n c bs w hs (br_rr h) hn).mono ?_
  rintro e w' ⟨A', c', rfl, h1, _, h2⟩
  exact ⟨A', c', rfl, h1, h2⟩
end
end Go.Proofs.Ytfdboahcaiolgaa
