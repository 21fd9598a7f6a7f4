/-
  Plain mathematics of layer 16 (party): who says, who hears, packets, and two parties that talk. It speaks of no program. No condition.
-/
import Derived.Below
set_option linter.unusedVariables false
set_option linter.unusedSimpArgs false
namespace Go.Proofs.Ytcfdfimkgehdfaa

/-- A packet. -/
structure Pk where
  seq : Int
  tx : ByteArray
/-- Who says. -/
structure Ou where
  next : Int
  wait : List Pk
  room : Int
/-- The first k of what waits are as they may be. -/
def RightW (nx : Int) (W : List Pk) (k : Nat) : Prop := ∀ i p, i < k → W[i]? = some p → 0 ≤ p.seq ∧ p.seq = nx - W.length + i ∧ p.tx.size ≤ 500
def RightO (o : Ou) : Prop := RightW o.next o.wait o.wait.length ∧ (1 ≤ o.room ∧ o.room ≤ 100) ∧ (0 ≤ o.next ∧ o.next ≤ 1048576) ∧ (o.wait.length : Int) ≤ o.room
theorem rightW_0 (nx : Int) (W : List Pk) : RightW nx W 0 := fun i p h => by omega
theorem rightW_next {nx : Int} {W : List Pk} {k : Nat} {p : Pk} (h : RightW nx W k) (hp : W[k]? = some p) (h0 : 0 ≤ p.seq) (h1 : p.seq = nx - W.length + k) (h2 : p.tx.size ≤ 500) : RightW nx W (k + 1) := fun i q hi hq => by
  by_cases e : i = k
  · subst e; rw [hp] at hq; cases hq; exact ⟨h0, h1, h2⟩
  · exact h i q (by omega) hq
theorem rightW_no {o : Ou} {k : Nat} {p : Pk} (hp : o.wait[k]? = some p) (h : ¬ (0 ≤ p.seq ∧ p.seq = o.next - o.wait.length + k ∧ p.tx.size ≤ 500)) : ¬ RightO o := fun hr => h (hr.1 k p (List.getElem?_eq_some_iff.1 hp).1 hp)
open Classical in
/-- Say: the error, who says behind it, the packet. -/
noncomputable def eSay (o : Ou) (t : ByteArray) : Nat := if ¬ RightO o then 2 else if 500 < t.size ∨ o.next = 1048576 then 3 else if o.room ≤ o.wait.length then 6 else 0
noncomputable def sSay (o : Ou) (t : ByteArray) : Ou := if eSay o t = 0 then ⟨o.next + 1, o.wait ++ [⟨o.next, t⟩], o.room⟩ else o
noncomputable def pSay (o : Ou) (t : ByteArray) : Pk := if eSay o t = 0 then ⟨o.next, t⟩ else ⟨0, ByteArray.empty⟩
open Classical in
/-- Acked. -/
noncomputable def eAck (o : Ou) (h : Int) : Nat := if ¬ RightO o ∨ h < 0 ∨ o.next < h then 2 else 0
noncomputable def sAck (o : Ou) (h : Int) : Ou := if eAck o h = 0 then ⟨o.next, o.wait.filter (fun p => decide (h ≤ p.seq)), o.room⟩ else o
/-- Hear. -/
def eHea (h : Int) (p : Pk) : Nat := if h < 0 ∨ 1048576 < h ∨ p.seq < 0 ∨ 1048576 < p.seq ∨ 500 < p.tx.size then 2 else if p.seq < h then 10 else if h < p.seq then 7 else 0
def sHea (h : Int) (p : Pk) : Int := if eHea h p = 0 then h + 1 else h
def tHea (h : Int) (p : Pk) : ByteArray := if eHea h p = 0 then p.tx else ByteArray.empty
theorem hea_ok {h : Int} {p : Pk} (h0 : 0 ≤ h) (h1 : h ≤ 1048576) (hp : p.seq = h) (ht : p.tx.size ≤ 500) : eHea h p = 0 := by
  unfold eHea
  rw [if_neg (by omega), if_neg (by omega), if_neg (by omega)]
theorem hea_no {h : Int} {p : Pk} (hp : ¬ p.seq = h) : ¬ eHea h p = 0 := by
  unfold eHea
  split
  · decide
  · split
    · decide
    · split
      · decide
      · omega

/-- The packets of the texts from the a-th on. -/
def pkF (S : List ByteArray) (a : Nat) : List Pk := (S.drop a).mapIdx fun i t => ⟨((a + i : Nat) : Int), t⟩
theorem pkF_len (S : List ByteArray) (a : Nat) : (pkF S a).length = S.length - a := by simp [pkF]
theorem pkF_at (S : List ByteArray) (a i : Nat) : (pkF S a)[i]? = (S[a + i]?).map fun t => ⟨((a + i : Nat) : Int), t⟩ := by
  unfold pkF
  rw [List.getElem?_mapIdx, List.getElem?_drop]
theorem pkF_snoc {S : List ByteArray} {a : Nat} (h : a ≤ S.length) (t : ByteArray) : pkF S a ++ [⟨(S.length : Int), t⟩] = pkF (S ++ [t]) a := by
  unfold pkF
  rw [List.drop_append_of_le_length h, List.mapIdx_append]
  simp
  omega
theorem pkF_end {S : List ByteArray} {a : Nat} (h : S.length ≤ a) : pkF S a = [] := by
  apply List.eq_nil_of_length_eq_zero
  rw [pkF_len]; omega
/-- All texts are small. -/
def SmallT (S : List ByteArray) : Prop := ∀ t ∈ S, t.size ≤ 500
theorem pkF_right {S : List ByteArray} {a : Nat} {r : Int} (h : a ≤ S.length) (hs : SmallT S) (hr : 1 ≤ r ∧ r ≤ 100) (hn : S.length ≤ 1048576) (hl : ((S.length - a : Nat) : Int) ≤ r) : RightO ⟨S.length, pkF S a, r⟩ := by
  refine ⟨fun i p hi hp => ?_, hr, ⟨by simp, by simp; omega⟩, by rw [pkF_len]; exact hl⟩
  simp only [pkF_at] at hp
  cases ht : S[a + i]? with
  | none => rw [ht] at hp; cases hp
  | some t =>
    rw [ht] at hp
    cases hp
    have := pkF_len S a
    exact ⟨by simp; omega, by simp only [this]; omega, hs t (List.mem_of_getElem? ht)⟩
theorem pkF_ack {S : List ByteArray} {a h : Nat} (ha : a ≤ S.length) : (pkF S a).filter (fun p => decide ((h : Int) ≤ p.seq)) = pkF S (max a h) := by
  generalize hn : S.length - a = n
  induction n generalizing a with
  | zero => rw [pkF_end (by omega), pkF_end (by omega)]; rfl
  | succ n ih =>
    have hlt : a < S.length := by omega
    have h1 : pkF S a = ⟨(a : Int), S[a]⟩ :: pkF S (a + 1) := by
      unfold pkF
      rw [List.drop_eq_getElem_cons hlt, List.mapIdx_cons]
      simp only [Nat.add_zero]
      congr 2
      funext i t
      congr 1
      omega
    by_cases hh : h ≤ a
    · rw [Nat.max_eq_left hh]
      rw [List.filter_eq_self.2]
      intro p hp
      obtain ⟨i, hi⟩ := List.mem_iff_getElem?.1 hp
      rw [pkF_at] at hi
      cases ht : S[a + i]? with
      | none => rw [ht] at hi; cases hi
      | some t => rw [ht] at hi; cases hi; simp; omega
    · rw [h1, List.filter_cons_of_neg (by simp; omega), ih (by omega) (by omega)]
      congr 1
      omega
/-- Two parties that talk: what was said, how much is acknowledged, how much was heard; who says has room r. -/
structure Tk where
  S : List ByteArray
  a : Nat
  h : Nat
def OkT (r : Nat) (t : Tk) : Prop := t.a ≤ t.h ∧ t.h ≤ t.S.length ∧ SmallT t.S ∧ t.S.length - t.a ≤ r
def ouT (r : Nat) (t : Tk) : Ou := ⟨t.S.length, pkF t.S t.a, r⟩
theorem okT_right {r : Nat} {t : Tk} (hr : 1 ≤ r ∧ r ≤ 100) (hn : t.S.length ≤ 1048576) (h : OkT r t) : RightO (ouT r t) :=
  pkF_right (Nat.le_trans h.1 h.2.1) h.2.2.1 (by omega) hn (by have := h.2.2.2; omega)
theorem say_T {r : Nat} {t : Tk} (hr : 1 ≤ r ∧ r ≤ 100) (hn : t.S.length < 1048576) (h : OkT r t) (x : ByteArray) :
    (eSay (ouT r t) x = 0 ∧ x.size ≤ 500 ∧ sSay (ouT r t) x = ouT r ⟨t.S ++ [x], t.a, t.h⟩ ∧ pSay (ouT r t) x = ⟨(t.S.length : Int), x⟩ ∧ OkT r ⟨t.S ++ [x], t.a, t.h⟩) ∨ (¬ eSay (ouT r t) x = 0 ∧ sSay (ouT r t) x = ouT r t) := by
  have hR := okT_right hr (by omega) h
  by_cases e : eSay (ouT r t) x = 0
  · refine .inl ?_
    have h1 : x.size ≤ 500 ∧ ¬ (r : Int) ≤ ((pkF t.S t.a).length : Int) := by
      unfold eSay at e
      rw [if_neg (not_not_intro hR)] at e
      split at e
      · cases e
      · rename_i h1
        split at e
        · cases e
        · rename_i h2
          exact ⟨by omega, h2⟩
    have h2 := h1.2
    rw [pkF_len] at h2
    refine ⟨e, h1.1, ?_, ?_, h.1, by simp; have := h.2.1; omega, ?_, by simp; omega⟩
    · unfold sSay
      rw [if_pos e]
      unfold ouT
      simp only [← pkF_snoc (Nat.le_trans h.1 h.2.1) x]
      simp
    · unfold pSay
      rw [if_pos e]
      rfl
    · intro y hy
      rcases List.mem_append.1 hy with hy | hy
      · exact h.2.2.1 y hy
      · simp at hy; subst hy; exact h1.1
  · exact .inr ⟨e, by unfold sSay; rw [if_neg e]⟩
theorem ack_T {r : Nat} {t : Tk} (hr : 1 ≤ r ∧ r ≤ 100) (hn : t.S.length ≤ 1048576) (h : OkT r t) : eAck (ouT r t) t.h = 0 ∧ sAck (ouT r t) t.h = ouT r ⟨t.S, t.h, t.h⟩ ∧ OkT r ⟨t.S, t.h, t.h⟩ := by
  have hR := okT_right hr hn h
  have e : eAck (ouT r t) t.h = 0 := by
    unfold eAck
    rw [if_neg]
    rintro (h1 | h1 | h1)
    · exact h1 hR
    · omega
    · have := h.2.1
      have h2 : ((t.S.length : Nat) : Int) < (t.h : Int) := h1
      omega
  refine ⟨e, ?_, Nat.le_refl _, h.2.1, h.2.2.1, by have := h.2.2.2; have := h.1; simp only; omega⟩
  unfold sAck
  rw [if_pos e]
  unfold ouT
  simp only [pkF_ack (S := t.S) (h := t.h) (Nat.le_trans h.1 h.2.1), Nat.max_eq_right h.1]
theorem hear_T {t : Tk} (hn : t.S.length ≤ 1048576) {r : Nat} (h : OkT r t) {k : Nat} {x : ByteArray} (hk : t.S[k]? = some x) :
    (k = t.h ∧ eHea t.h ⟨(k : Int), x⟩ = 0 ∧ sHea t.h ⟨(k : Int), x⟩ = ((t.h + 1 : Nat) : Int) ∧ tHea t.h ⟨(k : Int), x⟩ = x ∧ OkT r ⟨t.S, t.a, t.h + 1⟩ ∧ t.S.take (t.h + 1) = t.S.take t.h ++ [x]) ∨ (¬ k = t.h ∧ ¬ eHea t.h ⟨(k : Int), x⟩ = 0 ∧ sHea t.h ⟨(k : Int), x⟩ = t.h) := by
  have hlt := (List.getElem?_eq_some_iff.1 hk).1
  by_cases e : k = t.h
  · refine .inl ⟨e, ?_⟩
    have he := hea_ok (h := (t.h : Int)) (p := ⟨(k : Int), x⟩) (by omega) (by have := h.2.1; omega) (by simp [e]) (h.2.2.1 x (List.mem_of_getElem? hk))
    refine ⟨he, by unfold sHea; rw [if_pos he]; simp, by unfold tHea; rw [if_pos he], ⟨by have := h.1; simp only; omega, by simp only; omega, h.2.2.1, h.2.2.2⟩, ?_⟩
    rw [List.take_add_one, ← e, hk]
    rfl
  · refine .inr ⟨e, ?_⟩
    have he := hea_no (h := (t.h : Int)) (p := ⟨(k : Int), x⟩) (by simp; omega)
    exact ⟨he, by unfold sHea; rw [if_neg he]⟩
/-- Any number that is told back, up to what was said. -/
theorem ack_N {r : Nat} {S : List ByteArray} {a n : Nat} (hr : 1 ≤ r ∧ r ≤ 100) (hl : S.length ≤ 1048576) (ha : a ≤ S.length) (hs : SmallT S) (hw : S.length - a ≤ r) (hn : n ≤ S.length) :
    eAck ⟨S.length, pkF S a, r⟩ n = 0 ∧ sAck ⟨S.length, pkF S a, r⟩ n = ⟨S.length, pkF S (max a n), r⟩ ∧ max a n ≤ S.length ∧ S.length - max a n ≤ r := by
  have hR := pkF_right ha hs (r := (r : Int)) (by omega) hl (by omega)
  have e : eAck ⟨S.length, pkF S a, r⟩ n = 0 := by
    unfold eAck
    rw [if_neg]
    rintro (h1 | h1 | h1)
    · exact h1 hR
    · omega
    · have h2 : ((S.length : Nat) : Int) < (n : Int) := h1
      omega
  refine ⟨e, ?_, by omega, by omega⟩
  unfold sAck
  rw [if_pos e]
  simp only [pkF_ack (S := S) (h := n) ha]
end Go.Proofs.Ytcfdfimkgehdfaa
