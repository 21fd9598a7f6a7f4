/-
  Plain mathematics: holds of keys by transactions, in order; what may be, who holds what, what is taken, what is freed. No program, no condition but those that each theorem names.
-/
import Derived.Below
set_option linter.unusedVariables false
set_option linter.unusedSimpArgs false
namespace Go.Proofs.Ytealcccjnmfkcaa

/-- A hold: its key, its transaction, whether it is to write. -/
structure Hd where
  k : Int
  t : Int
  w : Bool

/-- One hold stands ahead of another one. -/
def bef (a b : Hd) : Prop := a.k < b.k ∨ a.k = b.k ∧ a.t < b.t
instance (a b : Hd) : Decidable (bef a b) := by unfold bef; infer_instance
def befB (a b : Hd) : Bool := decide (bef a b)
theorem befB_iff {a b : Hd} : befB a b = true ↔ bef a b := by unfold befB; simp
theorem befB_no {a b : Hd} : befB a b = false ↔ ¬ bef a b := by unfold befB; simp
theorem bef_trans {a b c : Hd} (h : bef a b) (k : bef b c) : bef a c := by unfold bef at *; omega
theorem bef_irr (a : Hd) : ¬ bef a a := by unfold bef; omega
theorem bef_asym {a b : Hd} (h : bef a b) : ¬ bef b a := by unfold bef at *; omega
theorem bef_or {a b : Hd} : bef a b ∨ bef b a ∨ (a.k = b.k ∧ a.t = b.t) := by unfold bef; omega

/-- May there be such a hold? -/
def okH (h : Hd) : Prop := h.k < 64 ∧ 0 ≤ h.t ∧ h.t < 1000
instance (h : Hd) : Decidable (okH h) := by unfold okH; infer_instance
def okB (h : Hd) : Bool := decide (okH h)
theorem okB_iff {h : Hd} : okB h = true ↔ okH h := by unfold okB; simp
/-- May two holds be side by side? -/
def cl (a b : Hd) : Prop := a.k = b.k → a.w = false ∧ b.w = false
instance (a b : Hd) : Decidable (cl a b) := by unfold cl; infer_instance
/-- May one follow another one? -/
def folB (a b : Hd) : Bool := decide (bef a b ∧ cl a b)
theorem folB_iff {a b : Hd} : folB a b = true ↔ bef a b ∧ cl a b := by unfold folB; simp

def RightK (L : List Hd) : Prop := (∀ h ∈ L, okH h) ∧ L.Pairwise bef ∧ L.Pairwise cl
instance (L : List Hd) : Decidable (RightK L) := by unfold RightK; infer_instance
def rightKB (L : List Hd) : Bool := decide (RightK L)
theorem rightKB_iff {L : List Hd} : rightKB L = true ↔ RightK L := by unfold rightKB; simp
theorem rightKB_no {L : List Hd} : rightKB L = false ↔ ¬ RightK L := by unfold rightKB; simp

theorem rightK_nil : RightK [] := ⟨by simp, List.Pairwise.nil, List.Pairwise.nil⟩
theorem rightK_snoc {M : List Hd} {x : Hd} : RightK (M ++ [x]) ↔ RightK M ∧ okH x ∧ (∀ p ∈ M, bef p x) ∧ ∀ p ∈ M, cl p x := by
  unfold RightK
  rw [List.pairwise_append, List.pairwise_append]
  simp only [List.mem_append, List.mem_singleton, List.pairwise_cons, List.not_mem_nil, List.Pairwise.nil]
  constructor
  · rintro ⟨h1, ⟨h2, _, h3⟩, h4, _, h5⟩
    exact ⟨⟨fun h hh => h1 h (.inl hh), h2, h4⟩, h1 x (.inr rfl), fun p hp => h3 p hp x rfl, fun p hp => h5 p hp x rfl⟩
  · rintro ⟨⟨h1, h2, h3⟩, h4, h5, h6⟩
    refine ⟨?_, ⟨h2, by simp, ?_⟩, h3, by simp, ?_⟩
    · rintro h (hh | rfl)
      · exact h1 h hh
      · exact h4
    · rintro a ha b rfl; exact h5 a ha
    · rintro a ha b rfl; exact h6 a ha
theorem rightK_sub {L M : List Hd} (h : RightK L) (hs : M.Sublist L) : RightK M := ⟨fun p hp => h.1 p (hs.subset hp), h.2.1.sublist hs, h.2.2.sublist hs⟩
theorem rightK_two {M : List Hd} {x y : Hd} (h : RightK (M ++ [y])) : RightK (M ++ [y] ++ [x]) ↔ okH x ∧ bef y x ∧ cl y x := by
  rw [rightK_snoc]
  constructor
  · exact fun k => ⟨k.2.1, k.2.2.1 y (by simp), k.2.2.2 y (by simp)⟩
  · rintro ⟨k1, k2, k3⟩
    obtain ⟨_, _, h2, h3⟩ := rightK_snoc.1 h
    refine ⟨h, k1, fun p hp => ?_, fun p hp => ?_⟩
    · rcases List.mem_append.1 hp with hp | hp
      · exact bef_trans (h2 p hp) k2
      · simp at hp; subst hp; exact k2
    · rcases List.mem_append.1 hp with hp | hp
      · intro e
        have b1 := h2 p hp
        have e1 : p.k = y.k := by unfold bef at b1 k2; omega
        exact ⟨(h3 p hp e1).1, (k3 (by omega)).2⟩
      · simp at hp; subst hp; exact k3
theorem rightK_one {x : Hd} : RightK [x] ↔ okH x := by
  have := rightK_snoc (M := []) (x := x)
  rw [List.nil_append] at this
  rw [this]
  simp [rightK_nil]

/-- The j-th hold. -/
def tkK (L : List Hd) (j : Nat) : Hd := L[j]?.getD ⟨0, 0, false⟩
theorem tkK_take {L : List Hd} {j : Nat} (hj : j < L.length) : L.take (j + 1) = L.take j ++ [tkK L j] := by
  rw [List.take_succ_eq_append_getElem hj]
  unfold tkK
  rw [List.getElem?_eq_getElem hj]
  rfl
theorem tkK_mem {L : List Hd} {j : Nat} (hj : j < L.length) : tkK L j ∈ L := by
  unfold tkK
  rw [List.getElem?_eq_getElem hj]
  exact List.getElem_mem hj
theorem tkK_drop {L : List Hd} {j : Nat} (hj : j < L.length) : L.drop j = tkK L j :: L.drop (j + 1) := by
  rw [List.drop_eq_getElem_cons hj]
  unfold tkK
  rw [List.getElem?_eq_getElem hj]
  rfl
theorem mem_tkK {L : List Hd} {p : Hd} (hp : p ∈ L) : ∃ j, j < L.length ∧ tkK L j = p := by
  obtain ⟨j, hj, rfl⟩ := List.getElem_of_mem hp
  exact ⟨j, hj, by unfold tkK; rw [List.getElem?_eq_getElem hj]; rfl⟩

theorem pw_mem {R : Hd → Hd → Prop} : ∀ {L : List Hd}, L.Pairwise R → ∀ {p q : Hd}, p ∈ L → q ∈ L → p = q ∨ R p q ∨ R q p
  | [], _, _, _, hp, _ => by simp at hp
  | x :: r, h, p, q, hp, hq => by
    obtain ⟨h1, h2⟩ := List.pairwise_cons.1 h
    rcases List.mem_cons.1 hp with e1 | hp1
    · rcases List.mem_cons.1 hq with e2 | hq1
      · exact .inl (e1.trans e2.symm)
      · exact .inr (.inl (by rw [e1]; exact h1 q hq1))
    · rcases List.mem_cons.1 hq with e2 | hq1
      · exact .inr (.inr (by rw [e2]; exact h1 p hp1))
      · exact pw_mem h2 hp1 hq1
/-- Two of one key: neither is to write. -/
theorem rightK_cl {L : List Hd} (h : RightK L) {p q : Hd} (hp : p ∈ L) (hq : q ∈ L) (ht : p.t ≠ q.t) (hk : p.k = q.k) : p.w = false ∧ q.w = false := by
  rcases pw_mem h.2.2 hp hq with e | e | e
  · subst e; exact absurd rfl ht
  · exact e hk
  · exact (e hk.symm).symm
theorem rightK_uni {L : List Hd} (h : RightK L) {p q : Hd} (hp : p ∈ L) (hq : q ∈ L) (ht : p.t = q.t) (hk : p.k = q.k) : p = q := by
  rcases pw_mem h.2.1 hp hq with e | e | e
  · exact e
  · unfold bef at e; omega
  · unfold bef at e; omega

/-! ### who holds what -/
def isH (tx key : Int) (h : Hd) : Bool := decide (h.k = key) && decide (h.t = tx)
theorem isH_iff {tx key : Int} {h : Hd} : isH tx key h = true ↔ h.k = key ∧ h.t = tx := by unfold isH; simp
def wv (b : Bool) : Int := if b then 2 else 1
def hold (L : List Hd) (tx key : Int) : Int := match L.find? (isH tx key) with
  | none => 0
  | some h => wv h.w
theorem hold_nil (tx key : Int) : hold [] tx key = 0 := rfl
theorem hold_cons (x : Hd) (r : List Hd) (tx key : Int) : hold (x :: r) tx key = if isH tx key x then wv x.w else hold r tx key := by
  unfold hold
  rw [List.find?_cons]
  cases isH tx key x <;> simp
theorem hold_append (L M : List Hd) (tx key : Int) (h : ∀ p ∈ L, isH tx key p = false) : hold (L ++ M) tx key = hold M tx key := by
  induction L with
  | nil => rfl
  | cons x r ih =>
    rw [List.cons_append, hold_cons, h x (by simp), ih (fun p hp => h p (by simp [hp]))]
    rfl
theorem hold_fi : ∀ (L : List Hd) (tx key : Int), hold L tx key = if L.findIdx (isH tx key) < L.length then wv (tkK L (L.findIdx (isH tx key))).w else 0
  | [], tx, key => by simp [hold]
  | x :: r, tx, key => by
    rw [hold_cons, List.findIdx_cons, hold_fi r tx key]
    cases hx : isH tx key x with
    | true => simp [tkK]
    | false => simp [tkK]
theorem hold_vals (L : List Hd) (tx key : Int) : hold L tx key = 0 ∨ hold L tx key = 1 ∨ hold L tx key = 2 := by
  unfold hold wv
  split
  · exact .inl rfl
  · split
    · exact .inr (.inr rfl)
    · exact .inr (.inl rfl)
theorem hold_two {L : List Hd} {tx key : Int} (h : hold L tx key = 2) : ∃ p ∈ L, p.k = key ∧ p.t = tx ∧ p.w = true := by
  unfold hold at h
  split at h
  · cases h
  · rename_i p hp
    obtain ⟨h1, h2⟩ := isH_iff.1 (List.find?_some hp)
    refine ⟨p, List.mem_of_find?_eq_some hp, h1, h2, ?_⟩
    unfold wv at h
    split at h
    · assumption
    · cases h
theorem hold_of {L : List Hd} (h : RightK L) {p : Hd} (hp : p ∈ L) : hold L p.t p.k = wv p.w := by
  unfold hold
  cases hf : L.find? (isH p.t p.k) with
  | none =>
    have := List.find?_eq_none.1 hf p hp
    simp [isH] at this
  | some q =>
    obtain ⟨h1, h2⟩ := isH_iff.1 (List.find?_some hf)
    rw [rightK_uni h hp (List.mem_of_find?_eq_some hf) h2.symm h1.symm]

/-! ### what is freed -/
def fre (L : List Hd) (tx : Int) : List Hd := L.filter (fun h => !decide (h.t = tx))
theorem fre_sub (L : List Hd) (tx : Int) : (fre L tx).Sublist L := List.filter_sublist
theorem mem_fre {L : List Hd} {tx : Int} {p : Hd} : p ∈ fre L tx ↔ p ∈ L ∧ p.t ≠ tx := by unfold fre; simp
theorem fre_fre (L : List Hd) (tx : Int) : fre (fre L tx) tx = fre L tx := by
  unfold fre
  rw [List.filter_filter]
  congr 1
  funext p
  simp
theorem hold_fre (tx t k : Int) : ∀ L : List Hd, hold (fre L tx) t k = if t = tx then 0 else hold L t k
  | [] => by simp [fre, hold]
  | x :: r => by
    have ih := hold_fre tx t k r
    by_cases hx : x.t = tx
    · have e : fre (x :: r) tx = fre r tx := by simp [fre, hx]
      rw [e, ih, hold_cons]
      split
      · rfl
      · have : isH t k x = false := by unfold isH; simp; intro _; omega
        rw [this]; rfl
    · have e : fre (x :: r) tx = x :: fre r tx := by simp [fre, hx]
      rw [e, hold_cons, ih, hold_cons]
      by_cases ht : t = tx
      · subst ht
        have : isH t k x = false := by unfold isH; simp; intro _; omega
        simp [this]
      · simp [ht]
theorem fre_skip {M : List Hd} {x : Hd} {tx : Int} (h : x.t = tx) : fre (M ++ [x]) tx = fre M tx := by simp [fre, h]
theorem fre_more {M : List Hd} {x : Hd} {tx : Int} (h : x.t ≠ tx) : fre (M ++ [x]) tx = fre M tx ++ [x] := by simp [fre, h]

/-! ### what is put at its place -/
def putT (o : Hd) (L : List Hd) : List Hd := L.filter (fun p => befB p o) ++ o :: L.filter (fun p => befB o p)
theorem mem_put {o p : Hd} {L : List Hd} : p ∈ putT o L ↔ p = o ∨ p ∈ L ∧ (bef p o ∨ bef o p) := by
  unfold putT
  simp only [List.mem_append, List.mem_cons, List.mem_filter, befB_iff]
  constructor
  · rintro (⟨h1, h2⟩ | h | ⟨h1, h2⟩)
    · exact .inr ⟨h1, .inl h2⟩
    · exact .inl h
    · exact .inr ⟨h1, .inr h2⟩
  · rintro (h | ⟨h1, h2 | h2⟩)
    · exact .inr (.inl h)
    · exact .inl ⟨h1, h2⟩
    · exact .inr (.inr ⟨h1, h2⟩)
theorem take_fi {o : Hd} : ∀ {L : List Hd}, L.Pairwise bef → L.take (L.findIdx (fun p => !befB p o)) = L.filter (fun p => befB p o)
  | [], _ => rfl
  | x :: r, h => by
    obtain ⟨h1, h2⟩ := List.pairwise_cons.1 h
    rw [List.findIdx_cons]
    cases hx : befB x o with
    | true => simp [hx, take_fi h2]
    | false =>
      simp only [Bool.not_false, cond_true, List.take_zero]
      symm
      rw [List.filter_eq_nil_iff]
      intro p hp
      rw [befB_iff]
      rcases List.mem_cons.1 hp with rfl | hp
      · exact befB_no.1 hx
      · exact fun k => befB_no.1 hx (bef_trans (h1 p hp) k)
theorem drop_fi {o : Hd} : ∀ {L : List Hd}, L.Pairwise bef → L.drop (L.findIdx (fun p => befB o p)) = L.filter (fun p => befB o p)
  | [], _ => rfl
  | x :: r, h => by
    obtain ⟨h1, h2⟩ := List.pairwise_cons.1 h
    rw [List.findIdx_cons]
    cases hx : befB o x with
    | false => simp [hx, drop_fi h2]
    | true =>
      simp only [cond_true, List.drop_zero]
      symm
      rw [List.filter_eq_self]
      intro p hp
      rw [befB_iff]
      rcases List.mem_cons.1 hp with rfl | hp
      · exact befB_iff.1 hx
      · exact bef_trans (befB_iff.1 hx) (h1 p hp)
theorem put_fi {o : Hd} {L : List Hd} (h : L.Pairwise bef) : L.take (L.findIdx (fun p => !befB p o)) ++ [o] ++ L.drop (L.findIdx (fun p => befB o p)) = putT o L := by
  rw [take_fi h, drop_fi h]
  simp [putT]
theorem put_len (o : Hd) : ∀ L : List Hd, (putT o L).length ≤ L.length + 1 := by
  have : ∀ L : List Hd, (L.filter (fun p => befB p o)).length + (L.filter (fun p => befB o p)).length ≤ L.length := by
    intro L
    induction L with
    | nil => simp
    | cons x r ih =>
      cases hx : befB x o with
      | true =>
        have : befB o x = false := befB_no.2 (bef_asym (befB_iff.1 hx))
        simp [hx, this]; omega
      | false => cases hy : befB o x <;> simp [hx, hy] <;> omega
  intro L
  have := this L
  unfold putT
  simp
  omega
theorem hold_put (o : Hd) (L : List Hd) : hold (putT o L) o.t o.k = wv o.w := by
  unfold putT
  rw [hold_append]
  · rw [hold_cons]
    simp [isH]
  · intro p hp
    have := befB_iff.1 (List.mem_filter.1 hp).2
    unfold bef at this
    unfold isH
    simp
    omega
theorem put_put (o : Hd) (L : List Hd) : putT o (putT o L) = putT o L := by
  have e1 : (putT o L).filter (fun p => befB p o) = L.filter (fun p => befB p o) := by
    unfold putT
    rw [List.filter_append, List.filter_cons]
    have h0 : befB o o = false := befB_no.2 (bef_irr o)
    rw [h0, List.filter_filter]
    have h1 : (L.filter (fun p => befB o p)).filter (fun p => befB p o) = [] := by
      rw [List.filter_eq_nil_iff]
      intro p hp
      rw [befB_iff]
      exact bef_asym (befB_iff.1 (List.mem_filter.1 hp).2)
    rw [h1]
    simp
  have e2 : (putT o L).filter (fun p => befB o p) = L.filter (fun p => befB o p) := by
    unfold putT
    rw [List.filter_append, List.filter_cons]
    have h0 : befB o o = false := befB_no.2 (bef_irr o)
    rw [h0]
    have h1 : (L.filter (fun p => befB p o)).filter (fun p => befB o p) = [] := by
      rw [List.filter_eq_nil_iff]
      intro p hp
      rw [befB_iff]
      exact bef_asym (befB_iff.1 (List.mem_filter.1 hp).2)
    rw [h1, List.nil_append, List.filter_filter]
    simp
  show (putT o L).filter _ ++ o :: (putT o L).filter _ = _
  rw [e1, e2]
  rfl
theorem partsK {o : Hd} : ∀ {L : List Hd}, L.Pairwise bef → (∀ p ∈ L, bef p o ∨ bef o p) → L.filter (fun p => befB p o) ++ L.filter (fun p => befB o p) = L
  | [], _, _ => rfl
  | x :: r, h, ho => by
    obtain ⟨h1, h2⟩ := List.pairwise_cons.1 h
    have ih := partsK h2 (fun p hp => ho p (by simp [hp]))
    rcases ho x (by simp) with hx | hx
    · have a1 : befB x o = true := befB_iff.2 hx
      have a2 : befB o x = false := befB_no.2 (bef_asym hx)
      simp [a1, a2, ih]
    · have a1 : befB x o = false := befB_no.2 (bef_asym hx)
      have a2 : befB o x = true := befB_iff.2 hx
      have a3 : r.filter (fun p => befB p o) = [] := by
        rw [List.filter_eq_nil_iff]
        intro p hp
        rw [befB_iff]
        exact bef_asym (bef_trans hx (h1 p hp))
      rw [a3] at ih
      simp only [List.nil_append] at ih
      simp [a1, a2, a3, ih]
theorem fre_put {o : Hd} {L : List Hd} (h : L.Pairwise bef) : fre (putT o L) o.t = fre L o.t := by
  have hs := h.sublist (fre_sub L o.t)
  have hp := partsK (o := o) hs (fun p hp => by
    have := (mem_fre.1 hp).2
    unfold bef
    omega)
  rw [← hp]
  unfold putT fre
  rw [List.filter_append, List.filter_cons]
  simp [List.filter_filter, Bool.and_comm]

/-! ### what the calls come to -/
def way (tx key : Int) (wr : Bool) (h : Hd) : Bool := decide (h.k = key) && !decide (h.t = tx) && (h.w || wr)
theorem way_iff {tx key : Int} {wr : Bool} {h : Hd} : way tx key wr h = true ↔ h.k = key ∧ h.t ≠ tx ∧ (h.w = true ∨ wr = true) := by unfold way; simp [and_assoc]
def eTake (L : List Hd) (tx key : Int) (wr : Bool) : Int := if rightKB L = false ∨ okB ⟨key, tx, wr⟩ = false then 2 else if L.any (way tx key wr) then 9 else 0
def ownH (L : List Hd) (tx key : Int) (wr : Bool) : Hd := ⟨key, tx, wr || decide (hold L tx key = 2)⟩
def sTake (L : List Hd) (tx key : Int) (wr : Bool) : List Hd := if eTake L tx key wr = 0 then putT (ownH L tx key wr) L else L

theorem eTake_ok {L : List Hd} {tx key : Int} {wr : Bool} : eTake L tx key wr = 0 ↔ RightK L ∧ (key < 64 ∧ 0 ≤ tx ∧ tx < 1000) ∧ ∀ p ∈ L, way tx key wr p = false := by
  unfold eTake
  rw [← rightKB_iff]
  have h2 : okB ⟨key, tx, wr⟩ = true ↔ (key < 64 ∧ 0 ≤ tx ∧ tx < 1000) := by rw [okB_iff]; rfl
  rw [← h2]
  cases rightKB L
  · simp
  · cases okB ⟨key, tx, wr⟩
    · simp
    · simp only [Bool.true_eq_false, or_self, if_false, true_and]
      cases h : L.any (way tx key wr)
      · simp only [Bool.false_eq_true, if_false, true_iff]
        intro p hp
        rw [List.any_eq_false] at h
        simpa using h p hp
      · simp only [if_true]
        constructor
        · intro h; cases h
        · intro k
          obtain ⟨p, hp, hw⟩ := List.any_eq_true.1 h
          rw [k p hp] at hw
          cases hw
theorem eTake_lock {L : List Hd} {tx key : Int} {wr : Bool} : eTake L tx key wr = 9 ↔ RightK L ∧ (key < 64 ∧ 0 ≤ tx ∧ tx < 1000) ∧ ∃ p ∈ L, way tx key wr p = true := by
  unfold eTake
  rw [← rightKB_iff]
  have h2 : okB ⟨key, tx, wr⟩ = true ↔ (key < 64 ∧ 0 ≤ tx ∧ tx < 1000) := by rw [okB_iff]; rfl
  rw [← h2]
  cases rightKB L
  · simp
  · cases okB ⟨key, tx, wr⟩
    · simp
    · simp only [Bool.true_eq_false, or_self, if_false, true_and]
      cases h : L.any (way tx key wr)
      · rw [List.any_eq_false] at h
        simp only [Bool.false_eq_true, if_false]
        constructor
        · intro h; cases h
        · rintro ⟨p, hp, hw⟩
          exact absurd hw (h p hp)
      · simp only [if_true, true_iff]
        exact List.any_eq_true.1 h
theorem eTake_vals (L : List Hd) (tx key : Int) (wr : Bool) : eTake L tx key wr = 0 ∨ eTake L tx key wr = 2 ∨ eTake L tx key wr = 9 := by
  unfold eTake
  split
  · exact .inr (.inl rfl)
  · split
    · exact .inr (.inr rfl)
    · exact .inl rfl
theorem sTake_ok {L : List Hd} {tx key : Int} {wr : Bool} (h : eTake L tx key wr = 0) : sTake L tx key wr = putT (ownH L tx key wr) L := by unfold sTake; rw [if_pos h]
theorem sTake_err {L : List Hd} {tx key : Int} {wr : Bool} (h : eTake L tx key wr ≠ 0) : sTake L tx key wr = L := by unfold sTake; rw [if_neg h]
theorem sTake_len (L : List Hd) (tx key : Int) (wr : Bool) : (sTake L tx key wr).length ≤ L.length + 1 := by
  unfold sTake
  split
  · exact put_len _ _
  · omega
theorem rightK_put {L : List Hd} {o : Hd} (h : RightK L) (ho : okH o) (hc : ∀ p ∈ L, p.k = o.k → p.t ≠ o.t → p.w = false ∧ o.w = false) : RightK (putT o L) := by
  have hcl : ∀ p ∈ L, bef p o ∨ bef o p → p.k = o.k → p.w = false ∧ o.w = false := by
    intro p hp hb hk
    exact hc p hp hk (fun ht => by unfold bef at hb; omega)
  refine ⟨fun p hp => ?_, ?_, ?_⟩
  · rcases mem_put.1 hp with rfl | ⟨hp, _⟩
    · exact ho
    · exact h.1 p hp
  · unfold putT
    rw [List.pairwise_append]
    refine ⟨h.2.1.sublist List.filter_sublist, List.pairwise_cons.2 ⟨fun p hp => befB_iff.1 (List.mem_filter.1 hp).2, h.2.1.sublist List.filter_sublist⟩, fun a ha b hb => ?_⟩
    have h1 := befB_iff.1 (List.mem_filter.1 ha).2
    rcases List.mem_cons.1 hb with rfl | hb
    · exact h1
    · exact bef_trans h1 (befB_iff.1 (List.mem_filter.1 hb).2)
  · unfold putT
    rw [List.pairwise_append]
    refine ⟨h.2.2.sublist List.filter_sublist, List.pairwise_cons.2 ⟨fun p hp => ?_, h.2.2.sublist List.filter_sublist⟩, fun a ha b hb => ?_⟩
    · obtain ⟨h1, h2⟩ := List.mem_filter.1 hp
      intro e
      exact (hcl p h1 (.inr (befB_iff.1 h2)) e.symm).symm
    · obtain ⟨h1, h2⟩ := List.mem_filter.1 ha
      rcases List.mem_cons.1 hb with rfl | hb
      · exact hcl a h1 (.inl (befB_iff.1 h2))
      · obtain ⟨h3, h4⟩ := List.mem_filter.1 hb
        intro e
        have b1 := befB_iff.1 h2
        have b2 := befB_iff.1 h4
        have e1 : a.k = o.k := by unfold bef at b1 b2; omega
        exact ⟨(hcl a h1 (.inl b1) e1).1, (hcl b h3 (.inr b2) (by omega)).1⟩
theorem rightK_take {L : List Hd} {tx key : Int} {wr : Bool} (h : RightK L) : RightK (sTake L tx key wr) := by
  unfold sTake
  split
  · rename_i he
    obtain ⟨_, h2, h3⟩ := eTake_ok.1 he
    refine rightK_put h h2 fun p hp hk ht => ?_
    have hw := h3 p hp
    have hk' : p.k = key := hk
    have ht' : p.t ≠ tx := ht
    unfold way at hw
    simp [hk', ht'] at hw
    refine ⟨hw.1, ?_⟩
    show (wr || decide (hold L tx key = 2)) = false
    rw [hw.2, Bool.false_or, decide_eq_false_iff_not]
    intro h2
    obtain ⟨q, hq, q1, q2, q3⟩ := hold_two h2
    have := (rightK_cl h hp hq (by rw [q2]; exact ht') (by rw [q1]; exact hk')).2
    rw [q3] at this
    cases this
  · exact h
end Go.Proofs.Ytealcccjnmfkcaa
