/-
  Plain mathematics of layer 13 (terms): terms that may be, what is over, the last moment, what begins, what is put off, the span that suits all. It speaks of no program. No condition.
-/
import Derived.Below
namespace Go.Proofs.Ytjfmahceolhfnaa.Te

/-- Terms: deadline, span, how often they were put off, how often they may be. -/
structure Tm where
  dl : Int
  sp : Int
  us : Int
  cp : Int
theorem Tm.ext_ {a b : Tm} (h1 : a.dl = b.dl) (h2 : a.sp = b.sp) (h3 : a.us = b.us) (h4 : a.cp = b.cp) : a = b := by cases a; cases b; simp_all
def inI (x : Int) : Prop := -9223372036854775808 ≤ x ∧ x ≤ 9223372036854775807
def inT (t : Tm) : Prop := inI t.dl ∧ inI t.sp ∧ inI t.us ∧ inI t.cp
/-- What is left: spans between the deadline and the last moment. -/
def restT (t : Tm) : Int := (t.cp - t.us) * t.sp
def lastT (t : Tm) : Int := t.dl + restT t
def FT (t : Tm) : Prop := ((1 ≤ t.sp ∧ t.sp ≤ 1048576) ∧ (0 ≤ t.cp ∧ t.cp ≤ 100)) ∧ ((0 ≤ t.us ∧ t.us ≤ t.cp) ∧ (t.sp ≤ t.dl ∧ t.dl ≤ 1099511627776))
instance (t : Tm) : Decidable (FT t) := by unfold FT; infer_instance
def RightT (t : Tm) : Prop := FT t ∧ lastT t ≤ 1099511627776
instance (t : Tm) : Decidable (RightT t) := by unfold RightT; infer_instance
def rightT (t : Tm) : Bool := decide (RightT t)
def overT (t : Tm) (x : Int) : Bool := rightT t && decide (t.dl ≤ x)
def lastR (t : Tm) : Int := if rightT t = true then lastT t else 0
def eExt (t : Tm) (x : Int) : Nat := if rightT t = false then 2 else if t.dl ≤ x then 11 else if t.us = t.cp then 12 else 0
def sExt (t : Tm) (x : Int) : Tm := if eExt t x = 0 then ⟨t.dl + t.sp, t.sp, t.us + 1, t.cp⟩ else t
def okN (x s m : Int) : Prop := (0 ≤ x ∧ x ≤ 1099511627776) ∧ ((1 ≤ s ∧ s ≤ 1048576) ∧ (0 ≤ m ∧ m ≤ 100))
instance (x s m : Int) : Decidable (okN x s m) := by unfold okN; infer_instance
def eNew (x s m : Int) : Nat := if ¬ okN x s m then 2 else if 1099511627776 < x + (m + 1) * s then 3 else 0
def sNew (x s m : Int) : Tm := if eNew x s m = 0 then ⟨x + s, s, 0, m⟩ else ⟨0, 0, 0, 0⟩
def maxL (l : List Int) : Int := l.foldl max (l.headD 0)
def eAgr (l : List Int) (a b : Int) : Nat := if a < 1 ∨ b < a ∨ 1048576 < b then 2 else if l = [] then 7 else 0
def vAgr (l : List Int) (a b : Int) : Int := if eAgr l a b = 0 then min (max (maxL l) a) b else 0

theorem mul_in {a s : Int} (h0 : 0 ≤ a) (h1 : a ≤ 100) (h2 : 1 ≤ s) (h3 : s ≤ 1048576) : 0 ≤ a * s ∧ a * s ≤ 104857600 := by
  refine ⟨Int.mul_nonneg h0 (by omega), ?_⟩
  have := Int.mul_le_mul h1 h3 (by omega) (by omega : (0 : Int) ≤ 100)
  omega
theorem FT.rest {t : Tm} (h : FT t) : 0 ≤ restT t ∧ restT t ≤ 104857600 := by
  obtain ⟨⟨⟨a, b⟩, c, d⟩, ⟨e, f⟩, g, i⟩ := h
  exact mul_in (by omega) (by omega) a b
theorem right_iff {t : Tm} : rightT t = true ↔ RightT t := by simp [rightT]
theorem right_no {t : Tm} : rightT t = false ↔ ¬ RightT t := by simp [rightT]
theorem rest_next {t : Tm} : restT ⟨t.dl + t.sp, t.sp, t.us + 1, t.cp⟩ = restT t - t.sp := by
  show (t.cp - (t.us + 1)) * t.sp = (t.cp - t.us) * t.sp - t.sp
  rw [show t.cp - (t.us + 1) = (t.cp - t.us) - 1 by omega, Int.sub_mul, Int.one_mul]
theorem last_next {t : Tm} : lastT ⟨t.dl + t.sp, t.sp, t.us + 1, t.cp⟩ = lastT t := by
  unfold lastT
  rw [rest_next]
  simp only
  omega
/-- Where there is one more to go, one span more is within the last moment. -/
theorem rest_ge {t : Tm} (h : FT t) (hu : t.us ≠ t.cp) : t.sp ≤ restT t := by
  obtain ⟨⟨⟨a, b⟩, c, d⟩, ⟨e, f⟩, g, i⟩ := h
  have := Int.mul_le_mul_of_nonneg_right (show (1 : Int) ≤ t.cp - t.us by omega) (show 0 ≤ t.sp by omega)
  rw [Int.one_mul] at this
  exact this
theorem right_next {t : Tm} (h : RightT t) (hu : t.us ≠ t.cp) : RightT ⟨t.dl + t.sp, t.sp, t.us + 1, t.cp⟩ := by
  have hg := rest_ge h.1 hu
  have hl : t.dl + restT t ≤ 1099511627776 := h.2
  refine ⟨?_, by rw [last_next]; exact h.2⟩
  obtain ⟨⟨⟨a, b⟩, c, d⟩, ⟨e, f⟩, g, i⟩ := h.1
  refine ⟨⟨⟨a, b⟩, c, d⟩, ⟨?_, ?_⟩, ?_, ?_⟩ <;> simp only <;> omega
theorem ext_zero {t : Tm} {x : Int} (h : eExt t x = 0) : RightT t ∧ x < t.dl ∧ t.us ≠ t.cp ∧ sExt t x = ⟨t.dl + t.sp, t.sp, t.us + 1, t.cp⟩ := by
  have hs : sExt t x = ⟨t.dl + t.sp, t.sp, t.us + 1, t.cp⟩ := by unfold sExt; rw [h]; rfl
  unfold eExt at h
  split at h
  · cases h
  · rename_i h0
    split at h
    · cases h
    · split at h
      · cases h
      · rename_i h1 h2
        exact ⟨right_iff.1 (by simpa using h0), by omega, h2, hs⟩
theorem right_ext {t : Tm} (x : Int) (h : RightT t) : RightT (sExt t x) ∧ lastT (sExt t x) = lastT t ∧ (sExt t x).cp = t.cp ∧ (sExt t x).sp = t.sp := by
  by_cases he : eExt t x = 0
  · obtain ⟨_, _, hu, hs⟩ := ext_zero he
    rw [hs]
    exact ⟨right_next h hu, last_next, rfl, rfl⟩
  · have hs : sExt t x = t := by unfold sExt; rw [if_neg he]
    rw [hs]
    exact ⟨h, rfl, rfl, rfl⟩
theorem dl_last {t : Tm} (h : RightT t) : t.dl ≤ lastT t := by
  have := h.1.rest
  unfold lastT
  omega
theorem right_new {x s m : Int} (h : eNew x s m = 0) : okN x s m ∧ sNew x s m = ⟨x + s, s, 0, m⟩ ∧ RightT ⟨x + s, s, 0, m⟩ ∧ lastT ⟨x + s, s, 0, m⟩ = x + (m + 1) * s := by
  have hs : sNew x s m = ⟨x + s, s, 0, m⟩ := by unfold sNew; rw [h]; rfl
  unfold eNew at h
  split at h
  · cases h
  · rename_i h0
    split at h
    · cases h
    · rename_i h1
      have h0 : okN x s m := Decidable.not_not.1 h0
      have hr : restT ⟨x + s, s, 0, m⟩ = m * s := by show (m - 0) * s = m * s; rw [Int.sub_zero]
      have hl : lastT ⟨x + s, s, 0, m⟩ = x + (m + 1) * s := by
        unfold lastT
        rw [hr, Int.add_mul, Int.one_mul]
        simp only
        omega
      have hk := mul_in h0.2.2.1 h0.2.2.2 h0.2.1.1 h0.2.1.2
      refine ⟨h0, hs, ⟨?_, by rw [hl]; omega⟩, hl⟩
      rw [Int.add_mul, Int.one_mul] at h1
      obtain ⟨⟨a, b⟩, ⟨c, d⟩, e, f⟩ := h0
      refine ⟨⟨⟨c, d⟩, e, f⟩, ⟨Int.le_refl _, e⟩, ?_, ?_⟩ <;> simp only <;> omega
/-- With small numbers new terms begin. -/
theorem new_small {x s m : Int} (hx : 0 ≤ x ∧ x ≤ 4294967295) (hs : 1 ≤ s ∧ s ≤ 65536) (hm : 0 ≤ m ∧ m ≤ 100) : eNew x s m = 0 := by
  have h := mul_in (a := m) (s := s) hm.1 hm.2 hs.1 (by omega)
  have ho : okN x s m := ⟨⟨hx.1, by omega⟩, ⟨hs.1, by omega⟩, hm⟩
  unfold eNew
  rw [if_neg (not_not_intro ho), if_neg]
  rw [Int.add_mul, Int.one_mul]
  omega
theorem maxL_one (a : Int) : maxL [a] = a := by simp [maxL]
theorem maxL_step (l : List Int) (k : Nat) (h0 : 0 < k) (hk : k < l.length) : maxL (l.take (k + 1)) = max (maxL (l.take k)) (l.getD k 0) := by
  have hh : ∀ k, 0 < k → (l.take k).headD 0 = l.headD 0 := by
    intro k hk
    cases l with
    | nil => simp
    | cons z zs => cases k with
      | zero => omega
      | succ k => simp
  unfold maxL
  rw [hh _ h0, hh _ (Nat.succ_pos k), List.take_add_one, List.foldl_append]
  simp [List.getD, List.getElem?_eq_getElem hk]
theorem foldl_max_ge (l : List Int) : ∀ a : Int, a ≤ l.foldl max a ∧ ∀ x ∈ l, x ≤ l.foldl max a := by
  induction l with
  | nil => intro a; simp
  | cons z zs ih =>
    intro a
    obtain ⟨h1, h2⟩ := ih (max a z)
    refine ⟨by simp only [List.foldl_cons]; omega, ?_⟩
    intro x hx
    simp only [List.mem_cons] at hx
    rcases hx with rfl | hx
    · simp only [List.foldl_cons]; omega
    · exact h2 x hx
theorem foldl_max_mem (l : List Int) : ∀ a : Int, l.foldl max a = a ∨ l.foldl max a ∈ l := by
  induction l with
  | nil => intro a; simp
  | cons z zs ih =>
    intro a
    simp only [List.foldl_cons, List.mem_cons]
    rcases ih (max a z) with h | h
    · rw [h]
      rcases Int.le_total a z with h' | h'
      · rw [Int.max_eq_right h']; exact .inr (.inl rfl)
      · rw [Int.max_eq_left h']; exact .inl rfl
    · exact .inr (.inr h)
theorem maxL_ge {l : List Int} {x : Int} (h : x ∈ l) : x ≤ maxL l := (foldl_max_ge l _).2 x h
theorem maxL_mem {l : List Int} (h : l ≠ []) : maxL l ∈ l := by
  cases l with
  | nil => exact absurd rfl h
  | cons z zs =>
    rcases foldl_max_mem (z :: zs) ((z :: zs).headD 0) with h | h
    · unfold maxL; rw [h]; simp
    · exact h
theorem agr_zero {l : List Int} {a b : Int} (h : eAgr l a b = 0) : 1 ≤ a ∧ a ≤ b ∧ b ≤ 1048576 ∧ l ≠ [] ∧ vAgr l a b = min (max (maxL l) a) b := by
  have hv : vAgr l a b = min (max (maxL l) a) b := by unfold vAgr; rw [if_pos h]
  unfold eAgr at h
  split at h
  · cases h
  · split at h
    · cases h
    · rename_i h1 h2
      exact ⟨by omega, by omega, by omega, h2, hv⟩
theorem clamp {n a b : Int} (h : a ≤ b) : max a (min n b) = min (max n a) b := by omega
end Go.Proofs.Ytjfmahceolhfnaa.Te
