/-
  Plain mathematics of tallies: valid ones, Hear, Put, New, Outcome, and what the laws ask. No condition.
-/
import Derived.Test.YtjfmahceolhfnaaRows
set_option linter.unusedVariables false
set_option linter.unusedSimpArgs false
namespace Go.Proofs.Ytjfmahceolhfnaa

/-- A tally: three arrays of eight, as functions. -/
structure Ty where
  wh : Nat → Bool
  vt : Nat → Int
  ep : Nat → Int
/-- An act: Hear or Put. -/
structure Ay where
  hear : Bool
  who : Nat
  ep : Int
  vote : Int
def updI (f : Nat → Int) (k : Nat) (v : Int) : Nat → Int := fun i => if i = k then v else f i
def updB (f : Nat → Bool) (k : Nat) (v : Bool) : Nat → Bool := fun i => if i = k then v else f i
theorem updI_at (f : Nat → Int) (k : Nat) (v : Int) : updI f k v k = v := by simp [updI]
theorem updI_ne (f : Nat → Int) {k i : Nat} (v : Int) (h : i ≠ k) : updI f k v i = f i := by simp [updI, h]
theorem updI_same (f : Nat → Int) (k : Nat) : updI f k (f k) = f := by
  funext i
  unfold updI
  split
  · rename_i h; rw [h]
  · rfl
def anyB (f : Nat → Bool) : Nat → Bool
  | 0 => false
  | k + 1 => anyB f k || f k
def allB (f : Nat → Bool) : Nat → Bool
  | 0 => true
  | k + 1 => allB f k && f k
theorem anyB_iff (f : Nat → Bool) : ∀ n, anyB f n = true ↔ ∃ i, i < n ∧ f i = true
  | 0 => by simp [anyB]
  | n + 1 => by
    simp only [anyB, Bool.or_eq_true, anyB_iff f n]
    constructor
    · rintro (⟨i, h1, h2⟩ | h)
      · exact ⟨i, by omega, h2⟩
      · exact ⟨n, by omega, h⟩
    · rintro ⟨i, h1, h2⟩
      by_cases e : i = n
      · subst e; exact .inr h2
      · exact .inl ⟨i, by omega, h2⟩
theorem allB_iff (f : Nat → Bool) : ∀ n, allB f n = true ↔ ∀ i, i < n → f i = true
  | 0 => by simp [allB]
  | n + 1 => by
    simp only [allB, Bool.and_eq_true, allB_iff f n]
    constructor
    · rintro ⟨h1, h2⟩ i hi
      by_cases e : i = n
      · subst e; exact h2
      · exact h1 i (by omega)
    · intro h
      exact ⟨fun i hi => h i (by omega), h n (by omega)⟩
theorem anyB_no (f : Nat → Bool) (n : Nat) : anyB f n = false ↔ ∀ i, i < n → f i = false := by
  rw [← Bool.not_eq_true, anyB_iff]
  constructor
  · intro h i hi
    cases e : f i with
    | false => rfl
    | true => exact absurd ⟨i, hi, e⟩ h
  · rintro h ⟨i, hi, e⟩
    rw [h i hi] at e
    cases e
theorem allB_no (f : Nat → Bool) (n : Nat) : allB f n = false ↔ ∃ i, i < n ∧ f i = false := by
  rw [← Bool.not_eq_true, allB_iff]
  constructor
  · intro h
    apply Classical.byContradiction
    intro h'
    refine h fun i hi => ?_
    cases e : f i with
    | true => rfl
    | false => exact absurd ⟨i, hi, e⟩ h'
  · rintro ⟨i, hi, e⟩ h
    rw [h i hi] at e
    cases e
theorem bool_eq {a b : Bool} (h : a = true ↔ b = true) : a = b := by
  cases a <;> cases b <;> simp_all
/-- What a valid tally may have of one mobile. -/
def okM (b : Bool) (v e : Int) : Bool := decide ((v = 0 ∨ v = 1 ∨ v = 2) ∧ 0 ≤ e ∧ e ≤ 1048576 ∧ (v ≠ 0 → e ≠ 0) ∧ (b = false → v = 0 ∧ e = 0))
theorem okM_iff {b : Bool} {v e : Int} : okM b v e = true ↔ ((v = 0 ∨ v = 1 ∨ v = 2) ∧ 0 ≤ e ∧ e ≤ 1048576 ∧ (v ≠ 0 → e ≠ 0) ∧ (b = false → v = 0 ∧ e = 0)) := by unfold okM; exact decide_eq_true_iff
def okY (S : Ty) (i : Nat) : Bool := okM (S.wh i) (S.vt i) (S.ep i)
def rightY (S : Ty) : Bool := anyB S.wh 8 && allB (okY S) 8
/-- The same, plainly. -/
structure RY (S : Ty) : Prop where
  some_ : ∃ i, i < 8 ∧ S.wh i = true
  v : ∀ i, i < 8 → S.vt i = 0 ∨ S.vt i = 1 ∨ S.vt i = 2
  e : ∀ i, i < 8 → 0 ≤ S.ep i ∧ S.ep i ≤ 1048576
  z : ∀ i, i < 8 → S.vt i ≠ 0 → S.ep i ≠ 0
  o : ∀ i, i < 8 → S.wh i = false → S.vt i = 0 ∧ S.ep i = 0
theorem right_iff {S : Ty} : rightY S = true ↔ RY S := by
  unfold rightY
  rw [Bool.and_eq_true, anyB_iff, allB_iff]
  constructor
  · rintro ⟨h1, h2⟩
    have h2 : ∀ i, i < 8 → _ := fun i hi => okM_iff.1 (h2 i hi)
    exact ⟨h1, fun i hi => (h2 i hi).1, fun i hi => ⟨(h2 i hi).2.1, (h2 i hi).2.2.1⟩, fun i hi => (h2 i hi).2.2.2.1, fun i hi => (h2 i hi).2.2.2.2⟩
  · intro h
    exact ⟨h.some_, fun i hi => okM_iff.2 ⟨h.v i hi, (h.e i hi).1, (h.e i hi).2, h.z i hi, h.o i hi⟩⟩
theorem right_no {S : Ty} : rightY S = false ↔ ¬ RY S := by rw [← right_iff, Bool.not_eq_true]
def two (S : Ty) (i : Nat) : Bool := S.vt i == 2
def yesB (S : Ty) (i : Nat) : Bool := !S.wh i || S.vt i == 1
def outY (S : Ty) : Int := if rightY S = false then 0 else if anyB (two S) 8 = true then 2 else if allB (yesB S) 8 = true then 1 else 0
/-- The votes of these mobiles if each voted Yes. -/
def allYesF (f : Nat → Bool) : Nat → Int := fun i => if f i then 1 else 0
def eqI (f g : Nat → Int) : Bool := allB (fun i => f i == g i) 8
def eqB (f g : Nat → Bool) : Bool := allB (fun i => f i == g i) 8
theorem eqI_refl (f : Nat → Int) : eqI f f = true := by unfold eqI; rw [allB_iff]; intro i _; simp
theorem eqB_refl (f : Nat → Bool) : eqB f f = true := by unfold eqB; rw [allB_iff]; intro i _; simp
theorem eqB_zero (f : Nat → Bool) : eqB f (fun _ => false) = !anyB f 8 := by
  cases h : anyB f 8 with
  | false =>
    rw [anyB_no] at h
    unfold eqB
    simp only [Bool.not_false]
    rw [allB_iff]
    intro i hi
    simp [h i hi]
  | true =>
    rw [anyB_iff] at h
    obtain ⟨i, hi, e⟩ := h
    unfold eqB
    simp only [Bool.not_true]
    rw [allB_no]
    exact ⟨i, hi, by simp [e]⟩
theorem eqI_yes {S : Ty} (h : RY S) : eqI S.vt (allYesF S.wh) = allB (yesB S) 8 := by
  apply bool_eq
  unfold eqI
  rw [allB_iff, allB_iff]
  constructor
  · intro g i hi
    have := g i hi
    unfold allYesF at this
    unfold yesB
    cases e : S.wh i <;> simp_all
  · intro g i hi
    have := g i hi
    unfold yesB at this
    unfold allYesF
    cases e : S.wh i
    · simp [(h.o i hi e).1]
    · simp [e] at this
      simp [this]
theorem out_no {S : Ty} (h : rightY S = false) : outY S = 0 := by unfold outY; rw [if_pos h]
theorem out_2 {S : Ty} (h : rightY S = true) (h2 : anyB (two S) 8 = true) : outY S = 2 := by unfold outY; rw [if_neg (by simp [h]), if_pos h2]
theorem out_1 {S : Ty} (h : rightY S = true) (h2 : anyB (two S) 8 = false) : outY S = if allB (yesB S) 8 = true then 1 else 0 := by unfold outY; rw [if_neg (by simp [h]), if_neg (by simp [h2])]
/-- Hear. -/
def eHear (S : Ty) (who : Nat) (x : Int) : Nat := if rightY S = false ∨ x < 1 ∨ 1048576 < x then 2 else if 8 ≤ who ∨ S.wh who = false then 7 else if x < S.ep who then 10 else 0
def sHear (S : Ty) (who : Nat) (x : Int) : Ty := if eHear S who x = 0 then ⟨S.wh, S.vt, updI S.ep who x⟩ else S
theorem eHear_2 {S : Ty} {who : Nat} {x : Int} (h : rightY S = false ∨ x < 1 ∨ 1048576 < x) : eHear S who x = 2 := by unfold eHear; rw [if_pos h]
theorem eHear_7 {S : Ty} {who : Nat} {x : Int} (h : ¬ (rightY S = false ∨ x < 1 ∨ 1048576 < x)) (h2 : 8 ≤ who ∨ S.wh who = false) : eHear S who x = 7 := by unfold eHear; rw [if_neg h, if_pos h2]
theorem eHear_10 {S : Ty} {who : Nat} {x : Int} (h : ¬ (rightY S = false ∨ x < 1 ∨ 1048576 < x)) (h2 : ¬ (8 ≤ who ∨ S.wh who = false)) (h3 : x < S.ep who) : eHear S who x = 10 := by unfold eHear; rw [if_neg h, if_neg h2, if_pos h3]
theorem eHear_0 {S : Ty} {who : Nat} {x : Int} (h : ¬ (rightY S = false ∨ x < 1 ∨ 1048576 < x)) (h2 : ¬ (8 ≤ who ∨ S.wh who = false)) (h3 : ¬ x < S.ep who) : eHear S who x = 0 := by unfold eHear; rw [if_neg h, if_neg h2, if_neg h3]
theorem sHear_z {S : Ty} {who : Nat} {x : Int} (h : eHear S who x = 0) : sHear S who x = ⟨S.wh, S.vt, updI S.ep who x⟩ := by unfold sHear; rw [if_pos h]
theorem sHear_n {S : Ty} {who : Nat} {x : Int} (h : ¬ eHear S who x = 0) : sHear S who x = S := by unfold sHear; rw [if_neg h]
theorem eHear_iff {S : Ty} {who : Nat} {x : Int} : eHear S who x = 0 ↔ RY S ∧ 1 ≤ x ∧ x ≤ 1048576 ∧ who < 8 ∧ S.wh who = true ∧ S.ep who ≤ x := by
  unfold eHear
  rw [← right_iff]
  constructor
  · intro h
    split at h
    · cases h
    · split at h
      · cases h
      · split at h
        · cases h
        · rename_i h1 h2 h3
          simp only [not_or, Bool.not_eq_false] at h1 h2
          exact ⟨h1.1, by omega, by omega, by omega, h2.2, by omega⟩
  · rintro ⟨h1, h2, h3, h4, h5, h6⟩
    rw [if_neg (by simp [h1]; omega), if_neg (by simp [h5]; omega), if_neg (by omega)]
/-- Put. -/
def ePut (S : Ty) (who : Nat) (x v : Int) : Nat := if v ≠ 1 ∧ v ≠ 2 then 2 else if eHear S who x ≠ 0 then eHear S who x else if S.vt who ≠ 0 ∧ S.vt who ≠ v then 8 else 0
def sPut (S : Ty) (who : Nat) (x v : Int) : Ty := if ePut S who x v = 0 then ⟨S.wh, updI S.vt who v, updI S.ep who x⟩ else S
theorem ePut_2 {S : Ty} {who : Nat} {x v : Int} (h : v ≠ 1 ∧ v ≠ 2) : ePut S who x v = 2 := by unfold ePut; rw [if_pos h]
theorem ePut_h {S : Ty} {who : Nat} {x v : Int} (h : ¬ (v ≠ 1 ∧ v ≠ 2)) (h2 : eHear S who x ≠ 0) : ePut S who x v = eHear S who x := by unfold ePut; rw [if_neg h, if_pos h2]
theorem ePut_8 {S : Ty} {who : Nat} {x v : Int} (h : ¬ (v ≠ 1 ∧ v ≠ 2)) (h2 : eHear S who x = 0) (h3 : S.vt who ≠ 0 ∧ S.vt who ≠ v) : ePut S who x v = 8 := by unfold ePut; rw [if_neg h, if_neg (by simp [h2]), if_pos h3]
theorem ePut_0 {S : Ty} {who : Nat} {x v : Int} (h : ¬ (v ≠ 1 ∧ v ≠ 2)) (h2 : eHear S who x = 0) (h3 : ¬ (S.vt who ≠ 0 ∧ S.vt who ≠ v)) : ePut S who x v = 0 := by unfold ePut; rw [if_neg h, if_neg (by simp [h2]), if_neg h3]
theorem sPut_z {S : Ty} {who : Nat} {x v : Int} (h : ePut S who x v = 0) : sPut S who x v = ⟨S.wh, updI S.vt who v, updI S.ep who x⟩ := by unfold sPut; rw [if_pos h]
theorem sPut_n {S : Ty} {who : Nat} {x v : Int} (h : ¬ ePut S who x v = 0) : sPut S who x v = S := by unfold sPut; rw [if_neg h]
theorem ePut_iff {S : Ty} {who : Nat} {x v : Int} : ePut S who x v = 0 ↔ (v = 1 ∨ v = 2) ∧ eHear S who x = 0 ∧ (S.vt who = 0 ∨ S.vt who = v) := by
  unfold ePut
  constructor
  · intro h
    split at h
    · cases h
    · split at h
      · rename_i h2; exact absurd h h2
      · split at h
        · cases h
        · rename_i h1 h2 h3
          exact ⟨by omega, by omega, by omega⟩
  · rintro ⟨h1, h2, h3⟩
    rw [if_neg (by omega), if_neg (by simp [h2]), if_neg (by omega)]
theorem right_hear {S : Ty} {who : Nat} {x : Int} (h : eHear S who x = 0) : RY (sHear S who x) := by
  rw [sHear_z h]
  obtain ⟨h1, h2, h3, h4, h5, h6⟩ := eHear_iff.1 h
  refine ⟨h1.some_, h1.v, fun i hi => ?_, fun i hi hv => ?_, fun i hi ho => ?_⟩
  · simp only [updI]
    split
    · omega
    · exact h1.e i hi
  · simp only [updI]
    split
    · omega
    · exact h1.z i hi hv
  · simp only [updI]
    split
    · rename_i e; subst e; rw [h5] at ho; cases ho
    · exact h1.o i hi ho
theorem right_put {S : Ty} {who : Nat} {x v : Int} (h : ePut S who x v = 0) : RY (sPut S who x v) := by
  rw [sPut_z h]
  obtain ⟨g1, g2, g3⟩ := ePut_iff.1 h
  obtain ⟨h1, h2, h3, h4, h5, h6⟩ := eHear_iff.1 g2
  refine ⟨h1.some_, fun i hi => ?_, fun i hi => ?_, fun i hi => ?_, fun i hi ho => ?_⟩
  · simp only [updI]
    split
    · omega
    · exact h1.v i hi
  · simp only [updI]
    split
    · omega
    · exact h1.e i hi
  · simp only [updI]
    split
    · omega
    · exact h1.z i hi
  · simp only [updI]
    split
    · rename_i e; subst e; rw [h5] at ho; cases ho
    · exact h1.o i hi ho
/-- New. -/
def memF (l : List Nat) : Nat → Bool := fun i => l.contains i
def okL (l : List Nat) : Prop := l ≠ [] ∧ (∀ x ∈ l, x < 8) ∧ l.Nodup
instance (l : List Nat) : Decidable (okL l) := by unfold okL; infer_instance
def zeroY : Ty := ⟨fun _ => false, fun _ => 0, fun _ => 0⟩
def eNew (l : List Nat) : Nat := if okL l then 0 else 2
def sNew (l : List Nat) : Ty := if okL l then ⟨memF l, fun _ => 0, fun _ => 0⟩ else zeroY
theorem eNew_0 {l : List Nat} (h : okL l) : eNew l = 0 := by unfold eNew; rw [if_pos h]
theorem eNew_2 {l : List Nat} (h : ¬ okL l) : eNew l = 2 := by unfold eNew; rw [if_neg h]
theorem sNew_0 {l : List Nat} (h : okL l) : sNew l = ⟨memF l, fun _ => 0, fun _ => 0⟩ := by unfold sNew; rw [if_pos h]
theorem sNew_2 {l : List Nat} (h : ¬ okL l) : sNew l = zeroY := by unfold sNew; rw [if_neg h]
theorem memF_iff {l : List Nat} {i : Nat} : memF l i = true ↔ i ∈ l := by simp [memF]
theorem memF_no {l : List Nat} {i : Nat} : memF l i = false ↔ i ∉ l := by rw [← memF_iff, Bool.not_eq_true]
/-- What a list's first elements come to, one more. -/
def okP (l : List Nat) (k : Nat) : Prop := (∀ x ∈ l.take k, x < 8) ∧ (l.take k).Nodup
theorem okP_zero (l : List Nat) : okP l 0 := by simp [okP]
theorem take_next {l : List Nat} {k x : Nat} (hx : l[k]? = some x) : l.take (k + 1) = l.take k ++ [x] := by
  rw [List.take_add_one, hx]
  rfl
theorem okP_next {l : List Nat} {k x : Nat} (hx : l[k]? = some x) : okP l (k + 1) ↔ okP l k ∧ x < 8 ∧ memF (l.take k) x = false := by
  unfold okP
  rw [take_next hx, memF_no]
  constructor
  · rintro ⟨h1, h2⟩
    rw [List.nodup_append] at h2
    exact ⟨⟨fun y hy => h1 y (by simp [hy]), h2.1⟩, h1 x (by simp), fun hm => h2.2.2 x hm x (by simp) rfl⟩
  · rintro ⟨⟨h1, h2⟩, h3, h4⟩
    refine ⟨fun y hy => ?_, ?_⟩
    · rcases List.mem_append.1 hy with h | h
      · exact h1 y h
      · simp at h; omega
    · rw [List.nodup_append]
      exact ⟨h2, by simp, fun a ha b hb => by simp at hb; subst hb; rintro rfl; exact h4 ha⟩
theorem okP_of {l : List Nat} (h : okL l) (k : Nat) : okP l k := ⟨fun x hx => h.2.1 x (List.mem_of_mem_take hx), h.2.2.sublist (List.take_sublist k l)⟩
theorem okP_end {l : List Nat} {n : Nat} (hn : l.length = n) (h0 : n ≠ 0) (h : okP l n) : okL l := by
  unfold okP at h
  rw [List.take_of_length_le (by omega)] at h
  exact ⟨by rintro rfl; simp at hn; omega, h.1, h.2⟩
theorem memF_next {l : List Nat} {k x : Nat} (hx : l[k]? = some x) : memF (l.take (k + 1)) = updB (memF (l.take k)) x true := by
  rw [take_next hx]
  funext i
  apply bool_eq
  rw [memF_iff]
  unfold updB
  split
  · rename_i e; simp [e]
  · rename_i e
    rw [memF_iff]
    simp [e]
theorem memF_zero (l : List Nat) : memF (l.take 0) = fun _ => false := by
  funext i
  rw [memF_no]
  simp
theorem memF_end {l : List Nat} {n : Nat} (hn : l.length = n) : memF (l.take n) = memF l := by rw [List.take_of_length_le (by omega)]
theorem right_new {l : List Nat} (h : okL l) : RY (sNew l) := by
  rw [sNew_0 h]
  refine ⟨?_, fun i hi => .inl rfl, fun i hi => ⟨by simp, by simp⟩, fun i hi hv => absurd rfl hv, fun i hi ho => ⟨rfl, rfl⟩⟩
  obtain ⟨h1, h2, _⟩ := h
  cases l with
  | nil => exact absurd rfl h1
  | cons a r => exact ⟨a, h2 a (by simp), by rw [memF_iff]; simp⟩
theorem right_zero : rightY zeroY = false := by rfl
end Go.Proofs.Ytjfmahceolhfnaa
