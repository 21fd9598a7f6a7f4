/-
  Layer 16: Say, Acked, Hear once more, told by their two ends; alive. Conditions: what waits can be read and is right.
-/
import Derived.Test.YtcfdfimkgehdfaaQaE
set_option linter.unusedVariables false
set_option linter.unusedSimpArgs false
namespace Go.Proofs.Ytcfdfimkgehdfaa
open Go.RowKit

theorem right_begin {rm : Int} (h1 : 1 ≤ rm) (h2 : rm ≤ 100) : RightO ⟨0, [], rm⟩ := ⟨fun i p hi hp => by simp at hp, ⟨h1, h2⟩, ⟨by simp, by simp⟩, by simp; omega⟩
theorem right_snoc {nx rm : Int} {L : List Pk} {t : ByteArray} (h : RightO ⟨nx, L, rm⟩) (hx : nx < 1048576) (hr : (L.length : Int) < rm) (ht : t.size ≤ 500) : RightO ⟨nx + 1, L ++ [⟨nx, t⟩], rm⟩ := by
  obtain ⟨h1, h2, h3, h4⟩ := h
  simp only at h1 h2 h3 h4
  refine ⟨fun i p hi hp => ?_, h2, ⟨by simp only; omega, by simp only; omega⟩, by simp; omega⟩
  simp only [List.length_append, List.length_singleton] at hi hp ⊢
  by_cases e : i < L.length
  · rw [List.getElem?_append_left e] at hp
    obtain ⟨a, b, c⟩ := h1 i p e hp
    exact ⟨a, by omega, c⟩
  · obtain rfl : i = L.length := by omega
    rw [List.getElem?_append_right (Nat.le_refl _), Nat.sub_self] at hp
    simp at hp
    subst hp
    exact ⟨h3.1, by simp only; omega, ht⟩
/-- Say takes the text. -/
theorem say_y (nx : Int) (A : Option Addr) (n c : Nat) (L : List Pk) (rm : Int) (t : ByteArray) (w : World) (h : RR w pcl 2 A n c L) (hR : RightO ⟨nx, L, rm⟩) (h5 : t.size ≤ 500) (hx : nx < 1048576) (hr : (n : Int) < rm) :
    Calls Try.prog 26 #[.agg (oA ⟨nx, A, n, c, rm⟩), .string t] w fun e w' => ∃ A' c' G, e = .returned (.tuple #[.agg (oA ⟨nx + 1, A', n + 1, c', rm⟩), .agg (pA ⟨nx, t⟩), .int .i64 0]) ∧ SO w.heap.size w' 70 pcl 2 A' (n + 1) c' (L ++ [⟨nx, t⟩]) G ∧ Below w.heap.size w w' := by
  have hl := h.len
  have he := say_0 (t := t) hR (by simp only; omega) (by simp only [hl]; omega)
  refine (say_c nx A n c L rm t w h hR).mono ?_
  rintro e w' ⟨A', n', c', G, rfl, hs, hb⟩
  have e1 : sSay ⟨nx, L, rm⟩ t = ⟨nx + 1, L ++ [⟨nx, t⟩], rm⟩ := by unfold sSay; rw [if_pos he]
  have e2 : pSay ⟨nx, L, rm⟩ t = ⟨nx, t⟩ := by unfold pSay; rw [if_pos he]
  rw [e1] at hs
  have hn := hs.len
  simp [hl] at hn
  subst hn
  exact ⟨A', c', G, by rw [e1, e2, he]; rfl, hs, hb⟩
/-- .. does not. -/
theorem say_n (nx : Int) (A : Option Addr) (n c : Nat) (L : List Pk) (rm : Int) (t : ByteArray) (w : World) (h : RR w pcl 2 A n c L) (hR : RightO ⟨nx, L, rm⟩) (k : Nat) (he : eSay ⟨nx, L, rm⟩ t = k) (hk : k ≠ 0) :
    Calls Try.prog 26 #[.agg (oA ⟨nx, A, n, c, rm⟩), .string t] w fun e w' => ∃ A' c' G, e = .returned (.tuple #[.agg (oA ⟨nx, A', n, c', rm⟩), .agg (pA zeroP), .int .i64 (k : Int)]) ∧ SO w.heap.size w' 70 pcl 2 A' n c' L G ∧ Below w.heap.size w w' := by
  have hl := h.len
  refine (say_c nx A n c L rm t w h hR).mono ?_
  rintro e w' ⟨A', n', c', G, rfl, hs, hb⟩
  subst he
  have e1 : sSay ⟨nx, L, rm⟩ t = ⟨nx, L, rm⟩ := by unfold sSay; rw [if_neg hk]
  have e2 : pSay ⟨nx, L, rm⟩ t = zeroP := by unfold pSay; rw [if_neg hk]; rfl
  rw [e1] at hs
  have hn := hs.len
  simp [hl] at hn
  subst hn
  exact ⟨A', c', G, by rw [e1, e2], hs, hb⟩
/-- Acked, told by its list. -/
theorem ack_y (nx : Int) (A : Option Addr) (n c : Nat) (L : List Pk) (rm : Int) (k : Int) (w : World) (h : RR w pcl 2 A n c L) (hR : RightO ⟨nx, L, rm⟩) (hk0 : 0 ≤ k) (hk1 : k ≤ nx) (M : List Pk) (hM : L.filter (fun p => decide (k ≤ p.seq)) = M) :
    Calls Try.prog 27 #[.agg (oA ⟨nx, A, n, c, rm⟩), .int .i64 k] w fun e w' => ∃ A' c' G, e = .returned (.tuple #[.agg (oA ⟨nx, A', M.length, c', rm⟩), .int .i64 0]) ∧ SO w.heap.size w' 70 pcl 2 A' M.length c' M G ∧ Below w.heap.size w w' := by
  subst hM
  refine (acked_c nx A n c L rm k w h hR hk0 hk1).mono ?_
  rintro e w' ⟨A', n', c', G, rfl, hs, hb⟩
  have he0 : eAck ⟨nx, L, rm⟩ k = 0 := by unfold eAck; rw [if_neg]; exact fun hx => hx.elim (fun h1 => h1 hR) (fun hx => hx.elim (fun h1 => by omega) (fun h1 => by have h2 : nx < k := h1; omega))
  have e1 : (sAck ⟨nx, L, rm⟩ k).wait = L.filter (fun p => decide (k ≤ p.seq)) := by unfold sAck; rw [if_pos he0]
  rw [e1] at hs
  have hn := hs.len
  subst hn
  exact ⟨A', c', G, rfl, hs, hb⟩
theorem hear_y (h : Int) (p : Pk) (w : World) (he : eHea h p = 0) : Calls Try.prog 24 #[.agg (hA h), .agg (pA p)] w fun e w' => e = .returned (.tuple #[.agg (hA (h + 1)), .string p.tx, .int .i64 0]) ∧ Below w.heap.size w w' := by
  refine (hear_c h p w).mono ?_
  rintro e w' ⟨h1, h2⟩
  obtain ⟨a, b⟩ := hea_z he
  rw [a, b, he] at h1
  exact ⟨h1, h2⟩
theorem hear_n (h : Int) (p : Pk) (k : Nat) (w : World) (he : eHea h p = k) (hk : k ≠ 0) : Calls Try.prog 24 #[.agg (hA h), .agg (pA p)] w fun e w' => e = .returned (.tuple #[.agg (hA h), .string ByteArray.empty, .int .i64 (k : Int)]) ∧ Below w.heap.size w w' := by
  refine (hear_c h p w).mono ?_
  rintro e w' ⟨h1, h2⟩
  obtain ⟨a, b⟩ := hea_n he hk
  rw [a, b, he] at h1
  exact ⟨h1, h2⟩
def bA_ : ByteArray := ⟨#[97]⟩
def bB_ : ByteArray := ⟨#[98]⟩
def bC_ : ByteArray := ⟨#[99]⟩
def P0 : Pk := ⟨0, bA_⟩
def P1 : Pk := ⟨1, bB_⟩
theorem right_1 : RightO ⟨1, [P0], 2⟩ := right_snoc (nx := 0) (L := []) (rm := 2) (t := bA_) (right_begin (by decide) (by decide)) (by decide) (by decide) (by decide)
theorem right_2 : RightO ⟨2, [P0, P1], 2⟩ := right_snoc (nx := 1) (L := [P0]) (rm := 2) (t := bB_) right_1 (by decide) (by decide) (by decide)
theorem right_3 : RightO ⟨2, [P1], 2⟩ := by
  refine ⟨fun i p hi hp => ?_, ⟨by decide, by decide⟩, ⟨by decide, by decide⟩, by decide⟩
  obtain rfl : i = 0 := by simp at hi; omega
  simp at hp
  subst hp
  exact ⟨by decide, by decide, by decide⟩
end Go.Proofs.Ytcfdfimkgehdfaa
