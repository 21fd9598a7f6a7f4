/-
  Layer 17: bytes and values as slices of the walk (RR, SO of Row and Stq), and the contracts of code and sum, which stand in the namespace Dk, told by them. No condition but what each theorem names.
-/
import Derived.Test.YtbkfepgcnijlfaaStq
import Derived.Test.YtbkfepgcnijlfaaNCodeD
import Derived.Test.YtbkfepgcnijlfaaNCodeI
import Derived.Test.YtbkfepgcnijlfaaNSumCF
import Derived.Test.YtbkfepgcnijlfaaNSumD
import Derived.Test.YtbkfepgcnijlfaaNNoM
set_option linter.unusedVariables false
set_option linter.unusedSimpArgs false
set_option linter.unusedSectionVars false
namespace Go.Proofs.Ytbkfepgcnijlfaa
open Go.RowKit

/-- A byte, a value, as the elements of a slice. -/
def bcl (b : UInt8) : List Value := [.int .u8 (b.toNat : Int)]
def vcl (v : Dk.CV) : List Value := [.int .u64 v.n, .string v.s]
instance : Nonempty (EncOk bcl 1) := ⟨⟨fun _ => rfl, fun x u hu => by simp [bcl] at hu; subst hu; rfl, by omega⟩⟩
instance : Nonempty (EncOk vcl 2) := ⟨⟨fun _ => rfl, fun x u hu => by simp only [vcl, List.mem_cons, List.not_mem_nil, or_false] at hu; rcases hu with rfl | rfl <;> rfl, by omega⟩⟩
theorem rc_bcl (bs : List UInt8) : rc bcl bs = Dk.bc bs := by
  induction bs with
  | nil => rfl
  | cons b r ih => rw [rc_cons, ih]; rfl
theorem rc_vcl (l : List Dk.CV) : rc vcl l = Dk.vc l := rfl
section
variable {W : World} {A : Option Addr} {n c : Nat} {bs : List UInt8} {l : List Dk.CV} {G : Option Nat}
theorem rr_br {B : Nat} (h : Dk.BR W B A n c bs) : RR W bcl 1 A n c bs := by
  refine ⟨h.1, h.2.1, h.2.2.1, fun hn => ?_⟩
  obtain ⟨g, off, h1, _, h2⟩ := h.2.2.2 hn
  refine ⟨g, off, h1, fun i v hv => ?_⟩
  rw [rc_bcl] at hv
  unfold Dk.bc at hv
  rw [List.getElem?_map] at hv
  cases hb : bs[i]? with
  | none => rw [hb] at hv; cases hv
  | some b => rw [hb] at hv; cases hv; exact h2 i b hb
theorem br_rr (h : RR W bcl 1 A n c bs) : Dk.BR W W.heap.size A n c bs := by
  refine ⟨h.len, h.cap, h.max, fun hn => ?_⟩
  obtain ⟨g, off, h1, h2⟩ := h.mem hn
  refine ⟨g, off, h1, h.lt h1 hn, fun i b hb => ?_⟩
  have := RR.oneAt (f := fun b : UInt8 => Value.int .u8 (b.toNat : Int)) h (fun _ => rfl) hb h1
  exact this
theorem so_seg {N : Nat} {T : TypeId} (h : Dk.Seg W T 1 A n c (Dk.bc bs) G) (hi : ∀ g, G = some g → N ≤ g) : SO N W T bcl 1 A n c bs G := ⟨by rw [rc_bcl]; exact h, hi⟩
theorem vr_rr (h : RR W vcl 2 A n c l) (ho : Dk.okV l) : Dk.VR W A l := by
  intro i v hv
  obtain ⟨h1, h2⟩ := ho v (List.mem_of_getElem? hv)
  have hi : i < n := by rw [← h.len]; exact (List.getElem?_eq_some_iff.1 hv).1
  obtain ⟨g, off, x, e1, e2, e3⟩ := h.at_ hi
  rw [hv] at e1
  cases e1
  refine ⟨h1, h2, g, off, e2, h.lt e2 (by omega), ?_, ?_⟩
  · have := e3 0 _ rfl
    simpa using this
  · exact e3 1 _ rfl
end
theorem Dk.VR.on {W V : World} {A : Option Addr} {l : List Dk.CV} (h : Dk.VR W A l) (hb : Below W.heap.size W V) : Dk.VR V A l := h.below hb (Nat.le_refl _)
theorem Dk.VR.drew {W : World} {A : Option Addr} {l : List Dk.CV} (h : Dk.VR W A l) : Dk.VR W.drew A l := h
/-- Ends of calls: bytes and an error; bytes of the call's own; values; the first frame. -/
def YPost (w : World) (bs : List UInt8) (k : Nat) (e : Ending) (w' : World) : Prop :=
  ∃ A n c, e = .returned (.tuple #[.slice A n c, .int .i64 (k : Int)]) ∧ RR w' bcl 1 A n c bs ∧ Below w.heap.size w w'
def OwnPost (w : World) (T : TypeId) (bs : List UInt8) (k : Nat) (e : Ending) (w' : World) : Prop :=
  ∃ A n c G, e = .returned (.tuple #[.slice A n c, .int .i64 (k : Int)]) ∧ SO w.heap.size w' T bcl 1 A n c bs G ∧ Below w.heap.size w w'
def ValPost (w : World) (l : List Dk.CV) (k : Nat) (e : Ending) (w' : World) : Prop :=
  ∃ A c, e = .returned (.tuple #[.slice A l.length c, .int .i64 (k : Int)]) ∧ Dk.VR w' A l ∧ Below w.heap.size w w'
def FstPost (w : World) (bs : List UInt8) (e : Ending) (w' : World) : Prop :=
  ∃ A n c, e = .returned (.tuple #[.slice A n c, .int .i64 (Dk.fK bs : Int), .int .i64 (Dk.fE bs : Int)]) ∧ RR w' bcl 1 A n c (Dk.fC bs) ∧ Below w.heap.size w w'
section
variable (A : Option Addr) (n c : Nat) (bs : List UInt8) (l : List Dk.CV) (w : World)
theorem enc_C (s : ByteArray) (hs : s.size ≤ maxLen) (h : RR w vcl 2 A l.length c l) (ho : Dk.okV l) : Calls Try.prog 17 #[.string s, .slice A l.length c] w (YPost w (Dk.bE (Dk.bl s) l) (Dk.eE (Dk.bl s) l)) := by
  refine (Dk.encode_c s A c l w hs (vr_rr h ho)).mono ?_
  rintro e w' ⟨A', n', c', G, rfl, h1, h2⟩
  exact ⟨A', n', c', rfl, RR.of_seg (T := 5) (G := G) (by rw [rc_bcl]; exact h1), h2⟩
theorem enc_R (s : ByteArray) (hs : s.size ≤ maxLen) (h : RR w vcl 2 A l.length c l) (ho : Dk.okV l) : Calls Try.prog 21 #[.string s, .slice A l.length c] w (YPost w (Dk.bE (Dk.bl s) l) (Dk.eE (Dk.bl s) l)) := by
  refine (Dk.encode_r s A c l w hs (vr_rr h ho)).mono ?_
  rintro e w' ⟨A', n', c', G, rfl, h1, h2⟩
  exact ⟨A', n', c', rfl, RR.of_seg (T := 5) (G := G) (by rw [rc_bcl]; exact h1), h2⟩
theorem dec_C (s : ByteArray) (hs : s.size ≤ maxLen) (h : RR w bcl 1 A n c bs) : Calls Try.prog 25 #[.string s, .slice A n c] w (ValPost w (Dk.lD (Dk.bl s) bs) (Dk.eD (Dk.bl s) bs)) := by
  refine (Dk.decode_c s A n c bs w hs (br_rr h)).mono ?_
  rintro e w' ⟨A', c', rfl, h1, _, h2⟩
  exact ⟨A', c', rfl, h1, h2⟩
theorem dec_R (s : ByteArray) (hs : s.size ≤ maxLen) (h : RR w bcl 1 A n c bs) (hn : n ≤ 5000) : Calls Try.prog 28 #[.string s, .slice A n c] w (ValPost w (Dk.lD (Dk.bl s) bs) (Dk.eD (Dk.bl s) bs)) := by
  refine (Dk.decode_r s A n c bs w hs (br_rr h) hn).mono ?_
  rintro e w' ⟨A', c', rfl, h1, _, h2⟩
  exact ⟨A', c', rfl, h1, h2⟩
theorem frame_C (h : RR w bcl 1 A n c bs) : Calls Try.prog 19 #[.slice A n c] w (OwnPost w 5 (Dk.bF bs) (Dk.eF bs)) := by
  refine (Dk.frame_c A n c bs w (br_rr h)).mono ?_
  rintro e w' ⟨A', n', c', G, rfl, h1, h2, h3⟩
  exact ⟨A', n', c', G, rfl, so_seg h1 h3, h2⟩
theorem frame_R (h : RR w bcl 1 A n c bs) : Calls Try.prog 23 #[.slice A n c] w (OwnPost w 5 (Dk.bF bs) (Dk.eF bs)) := by
  refine (Dk.frame_r A n c bs w (br_rr h)).mono ?_
  rintro e w' ⟨A', n', c', G, rfl, h1, h2, h3⟩
  exact ⟨A', n', c', G, rfl, so_seg h1 h3, h2⟩
theorem first_C (h : RR w bcl 1 A n c bs) : Calls Try.prog 24 #[.slice A n c] w (FstPost w bs) := by
  refine (Dk.first_c A n c bs w (br_rr h)).mono ?_
  rintro e w' ⟨A', n', c', rfl, h1, h2⟩
  exact ⟨A', n', c', rfl, rr_br h1, h2⟩
theorem first_R (h : RR w bcl 1 A n c bs) : Calls Try.prog 27 #[.slice A n c] w (FstPost w bs) := by
  refine (Dk.first_r w.heap.size A n c bs w (br_rr h) (Nat.le_refl _)).mono ?_
  rintro e w' ⟨A', n', c', rfl, h1, h2⟩
  exact ⟨A', n', c', rfl, rr_br h1, h2⟩
theorem conv_C (h : RR w bcl 1 A n c bs) : (convert 26 9 (.slice A n c)).run Try.prog w = .ok (.string (Dk.mkS bs)) w := Dk.conv_br (br_rr h)
end
end Go.Proofs.Ytbkfepgcnijlfaa
