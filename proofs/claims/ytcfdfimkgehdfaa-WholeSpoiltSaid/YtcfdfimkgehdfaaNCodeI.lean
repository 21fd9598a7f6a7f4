/-
  value and Decode of the document's answer for layer 2. Conditions: the shape is such as memory can hold, the bytes can be read.
-/
import Derived.Test.YtcfdfimkgehdfaaNCodeH
namespace Go.Proofs.Ytcfdfimkgehdfaa.Dk
set_option maxRecDepth 100000
open Go.RowKit

theorem val_next {bs : List UInt8} {a j : Nat} {b : UInt8} (hb : bs[a + j]? = some b) : val ((bs.drop a).take (j + 1)) = val ((bs.drop a).take j) * 256 + b.toNat := by
  have h : (bs.drop a)[j]? = some b := by rw [List.getElem?_drop]; exact hb
  obtain ⟨h1, h2⟩ := List.getElem?_eq_some_iff.1 h
  rw [List.take_succ_eq_append_getElem h1, val_snoc, h2]

def lenR : List UInt8 → List UInt8 → List UInt8
  | [], b => b
  | c :: cs, b => lenR cs (lenV c b).2
theorem lens_append (s1 s2 : List UInt8) : ∀ b, lens (s1 ++ s2) b = lens s1 b ++ lens s2 (lenR s1 b) := by
  induction s1 with
  | nil => intro b; rfl
  | cons c cs ih => intro b; simp only [List.cons_append, lens, lenR, ih]
theorem lenR_append (s1 s2 : List UInt8) : ∀ b, lenR (s1 ++ s2) b = lenR s2 (lenR s1 b) := by
  induction s1 with
  | nil => intro b; rfl
  | cons c cs ih => intro b; simp only [List.cons_append, lenR, ih]
theorem lens_snoc {sh bs : List UInt8} {k a : Nat} {c : UInt8} {l : List CV} {v : CV} {r : List UInt8} (hc : sh[k]? = some c) (h1 : lens (sh.take k) bs = l) (h2 : lenR (sh.take k) bs = bs.drop a) (hv : lenV c (bs.drop a) = (v, r)) :
    lens (sh.take (k + 1)) bs = l ++ [v] ∧ lenR (sh.take (k + 1)) bs = r := by
  obtain ⟨h3, rfl⟩ := List.getElem?_eq_some_iff.1 hc
  rw [List.take_succ_eq_append_getElem h3, lens_append, lenR_append, h1, h2]
  simp only [lens, lenR, hv, and_self]

theorem sub_br {w : World} {B : Nat} {A : Option Addr} {n c : Nat} {bs : List UInt8} (h : BR w B A n c bs) (lo hi : Nat) (h1 : lo ≤ hi) (h2 : hi ≤ n) :
    ∃ A1 m c1, (∀ W, (Instr.slice 30 (.slice A n c) (some (.int .i64 lo)) (some (.int .i64 hi)) none).run Try.prog W = .ok (.slice A1 m c1) W) ∧ (convert 30 9 (.slice A1 m c1)).run Try.prog w = .ok (.string (mkS ((bs.drop lo).take (hi - lo)))) w := by
  have hnc := h.2.1
  exact ⟨_, _, _, fun W => run_cut_both (P := Try.prog) 30 5 Try.underlying30 1 Try.sizeB A n c lo hi h1 (by omega) W, conv_br ((h.cut (k := lo) (by omega)).upto (k := hi - lo) (by omega))⟩
theorem sub_eq {bs : List UInt8} {n a q F H : Nat} (hn : bs.length = n) (hF : F = min (a + 2) n) (hH : H = min (F + q) n) : (bs.drop F).take (H - F) = ((bs.drop a).drop 2).take q := by
  rw [List.drop_drop]
  by_cases h : a + 2 ≤ n
  · obtain rfl : F = a + 2 := by omega
    by_cases h2 : a + 2 + q ≤ n
    · rw [show H - (a + 2) = q by omega]
    · rw [List.take_of_length_le (by rw [List.length_drop]; omega), List.take_of_length_le (by rw [List.length_drop]; omega)]
  · obtain rfl : F = n := by omega
    rw [List.drop_eq_nil_of_le (by omega), List.drop_eq_nil_of_le (by omega)]
    simp

end Go.Proofs.Ytcfdfimkgehdfaa.Dk
