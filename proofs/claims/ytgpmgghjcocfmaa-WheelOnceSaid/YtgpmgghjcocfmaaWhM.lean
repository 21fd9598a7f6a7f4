/-
  Plain mathematics: timers as pairs of an id and a time, in order; what may be, what is put among them, what is left of them, what rings. No program, no condition but those that each theorem names.
-/
import Derived.Test.YtgpmgghjcocfmaaCellM
set_option linter.unusedVariables false
set_option linter.unusedSimpArgs false
namespace Go.Proofs.Ytgpmgghjcocfmaa

abbrev lastT : Int := 1099511627776

/-- One timer stands ahead of another one. -/
def bef (a b : Int × Int) : Prop := a.2 < b.2 ∨ a.2 = b.2 ∧ a.1 < b.1
instance (a b : Int × Int) : Decidable (bef a b) := by unfold bef; infer_instance
def befB (a b : Int × Int) : Bool := decide (bef a b)
theorem befB_iff {a b : Int × Int} : befB a b = true ↔ bef a b := by unfold befB; simp
theorem befB_no {a b : Int × Int} : befB a b = false ↔ ¬ bef a b := by unfold befB; simp

theorem bef_trans {a b c : Int × Int} (h : bef a b) (k : bef b c) : bef a c := by unfold bef at *; omega
theorem bef_irr (a : Int × Int) : ¬ bef a a := by unfold bef; omega
theorem bef_or {a b : Int × Int} (h : a.1 ≠ b.1) : bef a b ∨ bef b a := by unfold bef; omega

def AheadP (now : Int) (L : List (Int × Int)) : Prop := ∀ p ∈ L, now < p.2 ∧ p.2 ≤ lastT
def OrdP (L : List (Int × Int)) : Prop := L.Pairwise bef
def DisP (L : List (Int × Int)) : Prop := L.Pairwise (fun p q => p.1 ≠ q.1)
instance (now : Int) (L : List (Int × Int)) : Decidable (AheadP now L) := by unfold AheadP; infer_instance
instance (L : List (Int × Int)) : Decidable (OrdP L) := by unfold OrdP; infer_instance
instance (L : List (Int × Int)) : Decidable (DisP L) := by unfold DisP; infer_instance

/-- May such a wheel be? -/
def RightP (now : Int) (L : List (Int × Int)) : Prop := L.length ≤ 1000 ∧ 0 ≤ now ∧ now ≤ lastT ∧ AheadP now L ∧ OrdP L ∧ DisP L
instance (now : Int) (L : List (Int × Int)) : Decidable (RightP now L) := by unfold RightP; infer_instance
def rightB (now : Int) (L : List (Int × Int)) : Bool := decide (RightP now L)
theorem rightB_iff {now : Int} {L : List (Int × Int)} : rightB now L = true ↔ RightP now L := by unfold rightB; simp

section
variable {now : Int} {L M N : List (Int × Int)} {x y t : Int × Int}
theorem ahead_snoc : AheadP now (M ++ [x]) ↔ AheadP now M ∧ now < x.2 ∧ x.2 ≤ lastT := by
  unfold AheadP
  constructor
  · intro h
    exact ⟨fun p hp => h p (by simp [hp]), h x (by simp)⟩
  · rintro ⟨h1, h2⟩ p hp
    rcases List.mem_append.1 hp with hp | hp
    · exact h1 p hp
    · simp at hp; subst hp; exact h2
theorem ord_snoc : OrdP (M ++ [x]) ↔ OrdP M ∧ ∀ p ∈ M, bef p x := by
  unfold OrdP
  rw [List.pairwise_append]
  simp
theorem dis_snoc : DisP (M ++ [x]) ↔ DisP M ∧ ∀ p ∈ M, p.1 ≠ x.1 := by
  unfold DisP
  rw [List.pairwise_append]
  simp
theorem ord_two (h : OrdP (M ++ [y])) : OrdP (M ++ [y] ++ [x]) ↔ bef y x := by
  rw [ord_snoc]
  constructor
  · exact fun k => k.2 y (by simp)
  · intro k
    refine ⟨h, fun p hp => ?_⟩
    rcases List.mem_append.1 hp with hp | hp
    · exact bef_trans ((ord_snoc.1 h).2 p hp) k
    · simp at hp; subst hp; exact k
theorem AheadP.sub (h : AheadP now L) (hs : M.Sublist L) : AheadP now M := fun p hp => h p (hs.subset hp)
theorem OrdP.sub (h : OrdP L) (hs : M.Sublist L) : OrdP M := h.sublist hs
theorem DisP.sub (h : DisP L) (hs : M.Sublist L) : DisP M := h.sublist hs
end

/-- The j-th timer. -/
def tk (L : List (Int × Int)) (j : Nat) : Int × Int := L[j]?.getD (0, 0)
theorem tk_take {L : List (Int × Int)} {j : Nat} (hj : j < L.length) : L.take (j + 1) = L.take j ++ [tk L j] := by
  rw [List.take_succ_eq_append_getElem hj]
  unfold tk
  rw [List.getElem?_eq_getElem hj]
  rfl
theorem tk_mem {L : List (Int × Int)} {j : Nat} (hj : j < L.length) : tk L j ∈ L := by
  unfold tk
  rw [List.getElem?_eq_getElem hj]
  exact List.getElem_mem hj
theorem tk_drop {L : List (Int × Int)} {j : Nat} (hj : j < L.length) : L.drop j = tk L j :: L.drop (j + 1) := by
  rw [List.drop_eq_getElem_cons hj]
  unfold tk
  rw [List.getElem?_eq_getElem hj]
  rfl

/-! ### a timer that is put among others -/
def insT (t : Int × Int) : List (Int × Int) → List (Int × Int)
  | [] => [t]
  | y :: r => if bef t y then t :: y :: r else y :: insT t r

theorem insT_parts {t : Int × Int} : ∀ {M N : List (Int × Int)}, (∀ p ∈ M, ¬ bef t p) → (∀ p ∈ N, bef t p) → insT t (M ++ N) = M ++ t :: N
  | [], [], _, _ => rfl
  | [], y :: r, _, h => by simp [insT, h y (by simp)]
  | m :: M, N, h, k => by
    simp only [List.cons_append, insT]
    rw [if_neg (h m (by simp)), insT_parts (fun p hp => h p (by simp [hp])) k]
theorem insT_before {t : Int × Int} {M N : List (Int × Int)} (h : ∀ p ∈ M, ¬ bef t p) : insT t (M ++ N) = M ++ insT t N := by
  induction M with
  | nil => rfl
  | cons m M ih =>
    simp only [List.cons_append, insT]
    rw [if_neg (h m (by simp)), ih (fun p hp => h p (by simp [hp]))]
theorem insT_none {t : Int × Int} {M : List (Int × Int)} (h : ∀ p ∈ M, ¬ bef t p) : insT t M = M ++ [t] := by
  have := insT_before (N := []) h
  simpa [insT] using this
theorem insT_snoc {t x : Int × Int} {M : List (Int × Int)} (h : ∃ p ∈ M, bef t p) : insT t (M ++ [x]) = insT t M ++ [x] := by
  induction M with
  | nil => obtain ⟨p, hp, _⟩ := h; simp at hp
  | cons m M ih =>
    simp only [List.cons_append, insT]
    by_cases hm : bef t m
    · rw [if_pos hm, if_pos hm]; rfl
    · rw [if_neg hm, if_neg hm]
      rw [ih]
      · rfl
      · obtain ⟨p, hp, hb⟩ := h
        rcases List.mem_cons.1 hp with rfl | hp
        · exact absurd hb hm
        · exact ⟨p, hp, hb⟩
theorem perm_insT (t : Int × Int) : ∀ L : List (Int × Int), (insT t L).Perm (t :: L)
  | [] => List.Perm.refl _
  | y :: r => by
    unfold insT
    split
    · exact List.Perm.refl _
    · exact ((perm_insT t r).cons y).trans (List.Perm.swap t y r)
theorem mem_insT {t p : Int × Int} {L : List (Int × Int)} : p ∈ insT t L ↔ p = t ∨ p ∈ L := by
  rw [(perm_insT t L).mem_iff]
  simp
theorem ord_insT {t : Int × Int} : ∀ {L : List (Int × Int)}, OrdP L → (∀ p ∈ L, p.1 ≠ t.1) → OrdP (insT t L)
  | [], _, _ => by simp [insT, OrdP]
  | y :: r, h, hn => by
    obtain ⟨h1, h2⟩ := List.pairwise_cons.1 h
    unfold insT
    split
    · rename_i hb
      refine List.pairwise_cons.2 ⟨fun p hp => ?_, h⟩
      rcases List.mem_cons.1 hp with rfl | hp
      · exact hb
      · exact bef_trans hb (h1 p hp)
    · rename_i hb
      refine List.pairwise_cons.2 ⟨fun p hp => ?_, ord_insT h2 (fun p hp => hn p (by simp [hp]))⟩
      rcases mem_insT.1 hp with rfl | hp
      · rcases bef_or (hn y (by simp)) with h | h
        · exact h
        · exact absurd h hb
      · exact h1 p hp
theorem dis_insT {t : Int × Int} {L : List (Int × Int)} (h : DisP L) (hn : ∀ p ∈ L, p.1 ≠ t.1) : DisP (insT t L) := by
  refine ((perm_insT t L).pairwise_iff (fun {a b} hab => fun e => hab e.symm)).2 ?_
  exact List.pairwise_cons.2 ⟨fun p hp => (hn p hp).symm, h⟩
theorem length_insT (t : Int × Int) (L : List (Int × Int)) : (insT t L).length = L.length + 1 := by
  have := (perm_insT t L).length_eq
  simpa using this

theorem has_iff {L : List (Int × Int)} {id : Int} : hasL L id = true ↔ ∃ p ∈ L, p.1 = id := by unfold hasL; simp
theorem del_sub (L : List (Int × Int)) (id : Int) : (delL L id).Sublist L := List.filter_sublist
theorem del_ne {L : List (Int × Int)} {id : Int} : ∀ p ∈ delL L id, p.1 ≠ id := fun _ hp => (mem_delL.1 hp).2
theorem del_no {L : List (Int × Int)} {id : Int} (h : hasL L id = false) : delL L id = L := by
  unfold delL
  rw [List.filter_eq_self]
  intro p hp
  have : ¬ p.1 = id := fun e => by rw [has_iff.2 ⟨p, hp, e⟩] at h; cases h
  simp [this]
theorem del_lt {L : List (Int × Int)} {id : Int} (h : hasL L id = true) : (delL L id).length < L.length := by
  obtain ⟨p, hp, e⟩ := has_iff.1 h
  unfold delL
  exact List.length_filter_lt_length_iff_exists.2 ⟨p, hp, by simp [e]⟩
theorem del_len {L : List (Int × Int)} {id : Int} : (delL L id).length = L.length ↔ hasL L id = false := by
  cases h : hasL L id with
  | false => simp [del_no h]
  | true => have := del_lt h; simp; omega

/-! ### what rings, what is left -/
def fr (L : List (Int × Int)) (m : Int) : List (Int × Int) := L.filter (fun p => decide (p.2 ≤ m))
def lf (L : List (Int × Int)) (m : Int) : List (Int × Int) := L.filter (fun p => !decide (p.2 ≤ m))

theorem ord_low {x : Int × Int} {L : List (Int × Int)} (h : OrdP (x :: L)) {p : Int × Int} (hp : p ∈ L) : x.2 ≤ p.2 := by
  have := (List.pairwise_cons.1 h).1 p hp
  unfold bef at this
  omega
theorem lf_all {L : List (Int × Int)} {m : Int} (h : ∀ p ∈ L, m < p.2) : lf L m = L := by
  unfold lf
  rw [List.filter_eq_self]
  intro p hp
  have := h p hp
  simp
  omega
theorem fr_none {L : List (Int × Int)} {m : Int} (h : ∀ p ∈ L, m < p.2) : fr L m = [] := by
  unfold fr
  rw [List.filter_eq_nil_iff]
  intro p hp
  have := h p hp
  simp
  omega
theorem fr_lf {m : Int} : ∀ {L : List (Int × Int)}, OrdP L → L = fr L m ++ lf L m
  | [], _ => rfl
  | x :: r, h => by
    have ih := fr_lf (m := m) (List.pairwise_cons.1 h).2
    by_cases hx : x.2 ≤ m
    · have e1 : fr (x :: r) m = x :: fr r m := by simp [fr, hx]
      have e2 : lf (x :: r) m = lf r m := by simp [lf, hx]
      rw [e1, e2, List.cons_append, ← ih]
    · have hall : ∀ p ∈ x :: r, m < p.2 := by
        intro p hp
        rcases List.mem_cons.1 hp with rfl | hp
        · omega
        · have := ord_low h hp; omega
      rw [fr_none hall, lf_all hall]
      rfl
theorem lf_drop {L : List (Int × Int)} {m : Int} (h : OrdP L) : L.drop (fr L m).length = lf L m := by
  have := List.drop_left (l₁ := fr L m) (l₂ := lf L m)
  rw [← fr_lf h] at this
  exact this
theorem fr_take {L : List (Int × Int)} {m : Int} (h : OrdP L) : L.take (fr L m).length = fr L m := by
  have := List.take_left (l₁ := fr L m) (l₂ := lf L m)
  rw [← fr_lf h] at this
  exact this
theorem fr_le {L : List (Int × Int)} {m : Int} : (fr L m).length ≤ L.length := List.length_filter_le _ _
/-- The j-th one rings: all ahead of it do. -/
theorem fr_stop {L : List (Int × Int)} {m : Int} {j : Nat} (h : OrdP L) (hj : j < L.length) (h1 : ∀ p ∈ L.take j, p.2 ≤ m) (h2 : m < (tk L j).2) : fr L m = L.take j := by
  have e : L = L.take j ++ L.drop j := (List.take_append_drop j L).symm
  have hd : ∀ p ∈ L.drop j, m < p.2 := by
    rw [tk_drop hj]
    intro p hp
    rcases List.mem_cons.1 hp with rfl | hp
    · exact h2
    · have h3 : OrdP (L.drop j) := h.sub (List.drop_sublist _ _)
      rw [tk_drop hj] at h3
      have := ord_low h3 hp
      omega
  have e2 : fr L m = fr (L.take j) m ++ fr (L.drop j) m := by
    conv => lhs; rw [e]
    exact List.filter_append ..
  rw [e2, fr_none hd, List.append_nil]
  unfold fr
  rw [List.filter_eq_self]
  intro p hp
  simpa using h1 p hp
theorem fr_whole {L : List (Int × Int)} {m : Int} (h1 : ∀ p ∈ L, p.2 ≤ m) : fr L m = L := by
  unfold fr
  rw [List.filter_eq_self]
  intro p hp
  simpa using h1 p hp
theorem lf_lf {L : List (Int × Int)} {a b : Int} (h : a ≤ b) : lf (lf L a) b = lf L b := by
  unfold lf
  rw [List.filter_filter]
  congr 1
  funext p
  rw [Bool.eq_iff_iff]
  simp
  omega
theorem fr_fr {L : List (Int × Int)} {a b : Int} (ho : OrdP L) (h : a ≤ b) : fr L b = fr L a ++ fr (lf L a) b := by
  have e := fr_lf (m := a) ho
  have e2 : fr L b = fr (fr L a) b ++ fr (lf L a) b := by
    conv => lhs; rw [e]
    exact List.filter_append ..
  rw [e2]
  congr 1
  refine fr_whole fun p hp => ?_
  unfold fr at hp
  have := (List.mem_filter.1 hp).2
  simp at this
  omega

/-! ### what the calls come to -/
def eSet (now : Int) (L : List (Int × Int)) (id at_ : Int) : Int := if rightB now L = false then 2 else if at_ ≤ now then 10 else if lastT < at_ then 3 else if (delL L id).length = 1000 then 6 else 0
def sSet (now : Int) (L : List (Int × Int)) (id at_ : Int) : List (Int × Int) := if eSet now L id at_ = 0 then insT (id, at_) (delL L id) else L
def eStop (now : Int) (L : List (Int × Int)) (id : Int) : Int := if rightB now L = false then 2 else if hasL L id = false then 7 else 0
def sStop (now : Int) (L : List (Int × Int)) (id : Int) : List (Int × Int) := if eStop now L id = 0 then delL L id else L
def eTick (now : Int) (L : List (Int × Int)) (by_ : Int) : Int := if rightB now L = false ∨ by_ < 0 then 2 else if lastT - now < by_ then 3 else 0
def nTick (now : Int) (L : List (Int × Int)) (by_ : Int) : Int := if eTick now L by_ = 0 then now + by_ else now
def sTick (now : Int) (L : List (Int × Int)) (by_ : Int) : List (Int × Int) := if eTick now L by_ = 0 then lf L (now + by_) else L
def rTick (now : Int) (L : List (Int × Int)) (by_ : Int) : List Int := if eTick now L by_ = 0 then (fr L (now + by_)).map (·.1) else []

theorem eSet_ok {now : Int} {L : List (Int × Int)} {id at_ : Int} : eSet now L id at_ = 0 ↔ RightP now L ∧ now < at_ ∧ at_ ≤ lastT ∧ (delL L id).length ≠ 1000 := by
  unfold eSet
  rw [← rightB_iff]
  cases rightB now L
  · simp
  · simp only [Bool.true_eq_false, if_false, true_and]
    split
    · constructor
      · intro h; cases h
      · intro h; omega
    · split
      · constructor
        · intro h; cases h
        · intro h; omega
      · split
        · rename_i h; simp [h]
        · rename_i h1 h2 h3; simp [h3]; omega
theorem eStop_ok {now : Int} {L : List (Int × Int)} {id : Int} : eStop now L id = 0 ↔ RightP now L ∧ hasL L id = true := by
  unfold eStop
  rw [← rightB_iff]
  cases rightB now L <;> cases hasL L id <;> simp
theorem eTick_ok {now : Int} {L : List (Int × Int)} {by_ : Int} : eTick now L by_ = 0 ↔ RightP now L ∧ 0 ≤ by_ ∧ now + by_ ≤ lastT := by
  unfold eTick
  rw [← rightB_iff]
  cases rightB now L
  · simp
  · simp only [Bool.true_eq_false, false_or, true_and]
    split
    · constructor
      · intro h; cases h
      · intro h; omega
    · split
      · constructor
        · intro h; cases h
        · intro h; omega
      · simp; omega
theorem right_set {now : Int} {L : List (Int × Int)} {id at_ : Int} (h : RightP now L) : RightP now (sSet now L id at_) := by
  unfold sSet
  split
  · rename_i he
    obtain ⟨_, h2, h3, h4⟩ := eSet_ok.1 he
    obtain ⟨k1, k2, k3, k4, k5, k6⟩ := h
    have hl := (del_sub L id).length_le
    refine ⟨by rw [length_insT]; omega, k2, k3, fun p hp => ?_, ord_insT (k5.sub (del_sub L id)) del_ne, dis_insT (k6.sub (del_sub L id)) del_ne⟩
    rcases mem_insT.1 hp with rfl | hp
    · exact ⟨h2, h3⟩
    · exact k4 p ((del_sub L id).subset hp)
  · exact h
theorem right_sub {now : Int} {L M : List (Int × Int)} (h : RightP now L) (hs : M.Sublist L) : RightP now M := by
  obtain ⟨k1, k2, k3, k4, k5, k6⟩ := h
  exact ⟨by have := hs.length_le; omega, k2, k3, k4.sub hs, k5.sub hs, k6.sub hs⟩
theorem right_stop {now : Int} {L : List (Int × Int)} {id : Int} (h : RightP now L) : RightP now (sStop now L id) := by
  unfold sStop
  split
  · exact right_sub h (del_sub L id)
  · exact h
theorem right_lf {now b : Int} {L : List (Int × Int)} (h : RightP now L) (h0 : 0 ≤ b) (h1 : now + b ≤ lastT) : RightP (now + b) (lf L (now + b)) := by
  obtain ⟨k1, k2, k3, k4, k5, k6⟩ := h
  have hs : (lf L (now + b)).Sublist L := List.filter_sublist
  refine ⟨by have := hs.length_le; omega, by omega, h1, fun p hp => ?_, k5.sub hs, k6.sub hs⟩
  have h2 := (List.mem_filter.1 hp).2
  simp at h2
  exact ⟨by omega, (k4 p (hs.subset hp)).2⟩
theorem right_tick {now : Int} {L : List (Int × Int)} {by_ : Int} (h : RightP now L) : RightP (nTick now L by_) (sTick now L by_) := by
  unfold nTick sTick
  split
  · rename_i he
    obtain ⟨_, h2, h3⟩ := eTick_ok.1 he
    exact right_lf h h2 h3
  · exact h
end Go.Proofs.Ytgpmgghjcocfmaa
