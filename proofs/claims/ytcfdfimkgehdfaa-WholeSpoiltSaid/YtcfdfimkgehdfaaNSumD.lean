/-
  First of the document's answer. Conditions: the bytes can be read.
-/
import Derived.Test.YtcfdfimkgehdfaaNSumC
namespace Go.Proofs.Ytcfdfimkgehdfaa.Dk
set_option maxRecDepth 100000
open Go.RowKit

theorem two_bytes {bs : List UInt8} {a b : UInt8} (h1 : bs[1]? = some a) (h2 : bs[2]? = some b) : fN bs = a.toNat * 256 + b.toNat := by
  unfold fN
  match bs, h1, h2 with
  | [], h1, _ => simp at h1
  | [_], h1, _ => simp at h1
  | [_, _], _, h2 => simp at h2
  | x :: y :: z :: r, h1, h2 =>
    simp at h1 h2
    subst h1 h2
    simp [val]
theorem cells_far {w : World} {B : Nat} {g off n c : Nat} {bs : List UInt8} (hb : BR w B (some ⟨g, off, none⟩) n c bs) (i : Nat) (hi : i < n) : ∃ b : UInt8, Hid (bs[i]? = some b) ∧ w.cell? ⟨g, off + i, none⟩ = some (.int .u8 (b.toNat : Int)) := by
  obtain ⟨g', off', b, e, _, h1, h2⟩ := hb.at_ hi
  cases e
  exact ⟨b, h1, h2⟩
theorem str_ne {l m : List UInt8} (h : ¬ l = m) : ((mkS l).toList == (mkS m).toList) = false := by
  rw [tl_bl, tl_bl, bl_mkS, bl_mkS, beq_eq_false_iff_ne]
  exact h

/-- The document's way: the frame of what is in it is there. -/
theorem frame_there {bs : List UInt8} {N : Nat} (hf : ¬ (¬ bs[0]? = some 1 ∨ bs.length < 3)) (hN : fN bs = N) (hg : ¬ (4000 < N ∨ bs.length < N + 7)) : (bF ((bs.drop 3).take N) = bs.take (N + 7)) ↔ fE bs = 0 := by
  have hl : ((bs.drop 3).take N).length = N := by rw [List.length_take, List.length_drop]; omega
  have hbF : bF ((bs.drop 3).take N) = frameB ((bs.drop 3).take N) := (eF_ok (by omega)).2
  rw [hbF]
  constructor
  · intro h
    have h1 := (frame_first ((bs.drop 3).take N) (bs.drop (N + 7)) (by omega)).1
    rwa [h, List.take_append_drop] at h1
  · intro h
    have h1 := (first_frame h).1
    rw [fC_ok h, hN] at h1
    exact h1.symm

end Go.Proofs.Ytcfdfimkgehdfaa.Dk
