/-
  Plain mathematics: lists of keys and values by rising keys, as maps: what is there for a key, put, taken away; lists that were gathered in any order. No program, no condition but those that each theorem names.
-/
import Derived.Maps.Range
namespace Go.Proofs.Ytfdboahcaiolgaa
open Go.ChangeMaps

section
variable {V : Type}

/-- By rising keys. -/
def Srt (L : List (Int × V)) : Prop := L.Pairwise (fun p q => p.1 < q.1)

/-- What a key has. -/
def getL (L : List (Int × V)) (k : Int) : Option V := (L.find? (fun p => p.1 == k)).map (·.2)

def hasL (L : List (Int × V)) (k : Int) : Bool := L.any (fun p => p.1 == k)

def delL (L : List (Int × V)) (k : Int) : List (Int × V) := L.filter (fun p => !(p.1 == k))

def insL (x : Int × V) : List (Int × V) → List (Int × V)
  | [] => [x]
  | y :: r => if x.1 < y.1 then x :: y :: r else y :: insL x r

def putM (L : List (Int × V)) (k : Int) (v : V) : List (Int × V) := insL (k, v) (delL L k)

theorem mem_insL {x p : Int × V} : ∀ {l : List (Int × V)}, p ∈ insL x l ↔ p = x ∨ p ∈ l
  | [] => by simp [insL]
  | y :: r => by
    unfold insL
    split
    · simp
    · simp only [List.mem_cons, mem_insL (l := r)]
      constructor
      · rintro (h | h | h) <;> simp [h]
      · rintro (h | h | h) <;> simp [h]

theorem perm_insL (x : Int × V) : ∀ l : List (Int × V), (insL x l).Perm (x :: l)
  | [] => List.Perm.refl _
  | y :: r => by
    unfold insL
    split
    · exact List.Perm.refl _
    · exact ((perm_insL x r).cons y).trans (List.Perm.swap x y r)

theorem srt_insL {x : Int × V} : ∀ {l : List (Int × V)}, Srt l → (∀ p ∈ l, p.1 ≠ x.1) → Srt (insL x l)
  | [], _, _ => by simp [insL, Srt]
  | y :: r, h, hn => by
    unfold Srt at h
    obtain ⟨h1, h2⟩ := List.pairwise_cons.1 h
    unfold insL
    split
    · rename_i hlt
      refine List.pairwise_cons.2 ⟨fun p hp => ?_, h⟩
      rcases List.mem_cons.1 hp with rfl | hp
      · exact hlt
      · have := h1 p hp; omega
    · rename_i hlt
      refine List.pairwise_cons.2 ⟨fun p hp => ?_, srt_insL (l := r) h2 (fun p hp => hn p (List.mem_cons_of_mem _ hp))⟩
      rcases mem_insL.1 hp with rfl | hp
      · have := hn y (List.mem_cons_self ..); omega
      · exact h1 p hp

theorem mem_delL {L : List (Int × V)} {k : Int} {p : Int × V} : p ∈ delL L k ↔ p ∈ L ∧ p.1 ≠ k := by
  unfold delL
  simp

theorem Srt.del {L : List (Int × V)} (h : Srt L) (k : Int) : Srt (delL L k) := by
  unfold delL Srt at *
  exact h.filter _

theorem Srt.put {L : List (Int × V)} (h : Srt L) (k : Int) (v : V) : Srt (putM L k v) :=
  srt_insL (h.del k) (fun _ hp => (mem_delL.1 hp).2)

theorem srt_nil : Srt ([] : List (Int × V)) := List.Pairwise.nil

theorem mem_putL {L : List (Int × V)} {k : Int} {v : V} {p : Int × V} : p ∈ putM L k v ↔ p = (k, v) ∨ (p ∈ L ∧ p.1 ≠ k) := by
  unfold putM
  rw [mem_insL, mem_delL]

/-- Among rising keys each stands once. -/
theorem Srt.one {L : List (Int × V)} (h : Srt L) {p q : Int × V} (hp : p ∈ L) (hq : q ∈ L) (e : p.1 = q.1) : p = q := by
  induction L with
  | nil => cases hp
  | cons a r ih =>
    obtain ⟨h1, h2⟩ := List.pairwise_cons.1 h
    rcases List.mem_cons.1 hp with rfl | hp'
    · rcases List.mem_cons.1 hq with rfl | hq'
      · rfl
      · have := h1 q hq'; omega
    · rcases List.mem_cons.1 hq with rfl | hq'
      · have := h1 p hp'; omega
      · exact ih h2 hp' hq'

theorem Srt.get_iff {L : List (Int × V)} (h : Srt L) {k : Int} {v : V} : getL L k = some v ↔ (k, v) ∈ L := by
  unfold getL
  constructor
  · intro e
    cases hf : L.find? (fun p => p.1 == k) with
    | none => rw [hf] at e; cases e
    | some p =>
      rw [hf] at e
      have h1 := List.find?_some hf
      have h2 := List.mem_of_find?_eq_some hf
      simp at h1 e
      obtain ⟨a, b⟩ := p
      simp at h1 e
      subst h1
      subst e
      exact h2
  · intro hm
    cases hf : L.find? (fun p => p.1 == k) with
    | none =>
      have := List.find?_eq_none.1 hf _ hm
      simp at this
    | some p =>
      have h1 := List.find?_some hf
      have h2 := List.mem_of_find?_eq_some hf
      simp at h1
      have := h.one h2 hm h1
      rw [this]
      rfl

theorem getL_none {L : List (Int × V)} {k : Int} : getL L k = none ↔ ∀ p ∈ L, p.1 ≠ k := by
  unfold getL
  simp

theorem has_get (L : List (Int × V)) (k : Int) : hasL L k = (getL L k).isSome := by
  unfold hasL getL
  rw [Option.isSome_map]
  rw [Bool.eq_iff_iff]
  simp [List.find?_isSome]

theorem getL_put (L : List (Int × V)) (h : Srt L) (k : Int) (v : V) (k' : Int) : getL (putM L k v) k' = if k' = k then some v else getL L k' := by
  split
  · rename_i e
    subst e
    exact (h.put _ _).get_iff.2 (mem_putL.2 (.inl rfl))
  · rename_i e
    cases hg : getL L k' with
    | none =>
      rw [getL_none] at hg ⊢
      intro p hp
      rcases mem_putL.1 hp with rfl | ⟨hp, _⟩
      · exact fun e' => e e'.symm
      · exact hg p hp
    | some u => exact (h.put _ _).get_iff.2 (mem_putL.2 (.inr ⟨h.get_iff.1 hg, e⟩))

theorem getL_del (L : List (Int × V)) (h : Srt L) (k k' : Int) : getL (delL L k) k' = if k' = k then none else getL L k' := by
  split
  · rename_i e
    subst e
    exact getL_none.2 fun p hp => (mem_delL.1 hp).2
  · rename_i e
    cases hg : getL L k' with
    | none =>
      rw [getL_none] at hg ⊢
      exact fun p hp => hg p (mem_delL.1 hp).1
    | some u => exact (h.del k).get_iff.2 (mem_delL.2 ⟨h.get_iff.1 hg, e⟩)

theorem delL_none {L : List (Int × V)} {k : Int} (h : getL L k = none) : delL L k = L := by
  unfold delL
  rw [List.filter_eq_self]
  intro p hp
  have := getL_none.1 h p hp
  simp [this]

theorem length_insL (x : Int × V) (l : List (Int × V)) : (insL x l).length = l.length + 1 := by
  have := (perm_insL x l).length_eq
  simpa using this

theorem length_del {L : List (Int × V)} (h : Srt L) (k : Int) : (delL L k).length + (if hasL L k then 1 else 0) = L.length := by
  induction L with
  | nil => rfl
  | cons a r ih =>
    obtain ⟨h1, h2⟩ := List.pairwise_cons.1 h
    have ih := ih h2
    by_cases e : a.1 = k
    · have hn : getL r k = none := getL_none.2 fun p hp => by have := h1 p hp; omega
      have e1 : delL (a :: r) k = r := by
        have : delL (a :: r) k = delL r k := by simp [delL, e]
        rw [this, delL_none hn]
      have e2 : hasL (a :: r) k = true := by simp [hasL, e]
      rw [e1, e2]
      simp
    · have e1 : delL (a :: r) k = a :: delL r k := by simp [delL, e]
      have e2 : hasL (a :: r) k = hasL r k := by simp [hasL, e]
      rw [e1, e2]
      simp only [List.length_cons]
      omega

theorem length_put {L : List (Int × V)} (h : Srt L) (k : Int) (v : V) : (putM L k v).length = if hasL L k then L.length else L.length + 1 := by
  unfold putM
  rw [length_insL]
  have := length_del h k
  split <;> simp_all

theorem length_del_le (L : List (Int × V)) (k : Int) : (delL L k).length ≤ L.length := List.length_filter_le _ _

/-- Two lists by rising keys with the same members are one. -/
theorem Srt.eq_of_perm {L M : List (Int × V)} (h : Srt L) (h' : Srt M) (hp : L.Perm M) : L = M := by
  induction L generalizing M with
  | nil => exact (hp.nil_eq)
  | cons a r ih =>
    cases M with
    | nil => exact absurd hp.length_eq (by simp)
    | cons b s =>
      obtain ⟨h1, h2⟩ := List.pairwise_cons.1 h
      obtain ⟨k1, k2⟩ := List.pairwise_cons.1 h'
      have e : a = b := by
        rcases List.mem_cons.1 (hp.mem_iff.1 (List.mem_cons_self ..)) with e | ha
        · exact e
        · rcases List.mem_cons.1 (hp.mem_iff.2 (List.mem_cons_self ..)) with e | hb
          · exact e.symm
          · have := k1 a ha
            have := h1 b hb
            omega
      subst e
      rw [ih h2 k2 ((List.perm_cons a).1 hp)]

/-- Lists by rising keys that answer alike are one. -/
theorem Srt.ext {L M : List (Int × V)} (h : Srt L) (h' : Srt M) (hg : ∀ k, getL L k = getL M k) : L = M := by
  refine h.eq_of_perm h' ?_
  have n1 : L.Nodup := h.imp (fun {p q} hlt => fun e => by rw [e] at hlt; omega)
  have n2 : M.Nodup := h'.imp (fun {p q} hlt => fun e => by rw [e] at hlt; omega)
  refine (List.perm_ext_iff_of_nodup n1 n2).2 fun p => ?_
  obtain ⟨k, v⟩ := p
  rw [← h.get_iff, ← h'.get_iff, hg]

/-- Keys that stand once each. -/
def Apart (s : List (Int × V)) : Prop := s.Pairwise (fun p q => p.1 ≠ q.1)

theorem Srt.apart {L : List (Int × V)} (h : Srt L) : Apart L := h.imp (fun {p q} hlt => by omega)

def ofL (s : List (Int × V)) : List (Int × V) := s.foldl (fun M p => putM M p.1 p.2) []

theorem ofL_snoc (s : List (Int × V)) (p : Int × V) : ofL (s ++ [p]) = putM (ofL s) p.1 p.2 := by
  simp [ofL, List.foldl_append]

theorem srt_ofL (s : List (Int × V)) : Srt (ofL s) := by
  unfold ofL
  have : ∀ (s M : List (Int × V)), Srt M → Srt (s.foldl (fun M p => putM M p.1 p.2) M) := by
    intro s
    induction s with
    | nil => exact fun M h => h
    | cons p r ih => exact fun M h => ih _ (h.put _ _)
  exact this s [] srt_nil

theorem foldl_perm : ∀ (s M : List (Int × V)), Apart s → (∀ p ∈ s, ∀ q ∈ M, q.1 ≠ p.1) → (s.foldl (fun M p => putM M p.1 p.2) M).Perm (M ++ s)
  | [], M, _, _ => by simp
  | p :: r, M, h, hd => by
    obtain ⟨h1, h2⟩ := List.pairwise_cons.1 h
    have e : delL M p.1 = M := delL_none (getL_none.2 fun q hq => hd p (List.mem_cons_self ..) q hq)
    have e2 : (putM M p.1 p.2).Perm (p :: M) := by
      unfold putM
      rw [e]
      exact perm_insL _ _
    refine (foldl_perm r (putM M p.1 p.2) h2 ?_).trans ?_
    · intro q hq x hx
      rcases List.mem_cons.1 (e2.mem_iff.1 hx) with rfl | hx
      · exact h1 q hq
      · exact hd q (List.mem_cons_of_mem _ hq) x hx
    · refine (e2.append_right r).trans ?_
      simpa using (List.perm_middle (a := p) (l₁ := M) (l₂ := r)).symm

theorem ofL_perm {s : List (Int × V)} (h : Apart s) : (ofL s).Perm s := by
  have := foldl_perm s [] h (by simp)
  unfold ofL
  simpa using this

theorem ofL_eq {s L : List (Int × V)} (h : Apart s) (hL : Srt L) (hp : s.Perm L) : ofL s = L := (srt_ofL s).eq_of_perm hL ((ofL_perm h).trans hp)

theorem ofL_length {s : List (Int × V)} (h : Apart s) : (ofL s).length = s.length := (ofL_perm h).length_eq

/-! ### as data of a map -/
variable (q : IntKind) (dv : V → DataW Unit)

/-- The datum that a map with these reads as. -/
def dat (L : List (Int × V)) : DataW Unit := .map (L.map fun p => (.int q p.1, dv p.2))

theorem same_int (a b : Int) : (Lit.int q a).sameKey (.int q b) = (a == b) := by
  simp only [Lit.sameKey]
  by_cases h : a = b <;> simp [h]

theorem dat_nil : dat q dv ([] : List (Int × V)) = .map [] := rfl

theorem dat_has (L : List (Int × V)) (k : Int) : Maps.has (dat q dv L) (.int q k) = hasL L k := by
  unfold dat hasL
  rw [Maps.has_eq, List.any_map]
  congr 1
  funext p
  exact same_int q p.1 k

theorem dat_size (L : List (Int × V)) : Maps.size (dat q dv L) = L.length := by simp [dat, Maps.size_eq]

theorem dat_del (L : List (Int × V)) (k : Int) : (dat q dv L).del (.int q k) = dat q dv (delL L k) := by
  unfold dat delL
  simp only [DataW.del, DataW.map.injEq]
  rw [List.filter_map]
  congr 1
  congr 1
  funext p
  simp only [Function.comp, same_int]

theorem dat_ins (x : Int × V) : ∀ L : List (Int × V), DataW.insert (.int q x.1, dv x.2) (L.map fun p => (.int q p.1, dv p.2)) = (insL x L).map fun p => (Lit.int q p.1, dv p.2)
  | [] => rfl
  | y :: r => by
    simp only [List.map_cons, DataW.insert, insL, Lit.before, decide_eq_true_eq]
    split
    · rfl
    · rw [List.map_cons, dat_ins x r]

theorem dat_put (L : List (Int × V)) (k : Int) (v : V) : (dat q dv L).put (.int q k) (dv v) = dat q dv (putM L k v) := by
  have h := dat_del q dv L k
  unfold dat at h
  simp only [DataW.del, DataW.map.injEq] at h
  unfold dat putM
  simp only [DataW.put, DataW.map.injEq]
  rw [h]
  exact dat_ins q dv (k, v) _

theorem dat_at (L : List (Int × V)) (k : Int) (z : DataW Unit) : (dat q dv L).atKey (.int q k) z = ((getL L k).map dv).getD z := by
  unfold dat getL
  simp only [DataW.atKey]
  rw [List.find?_map]
  have : (fun p : Lit × DataW Unit => p.1.sameKey (.int q k)) ∘ (fun p : Int × V => (Lit.int q p.1, dv p.2)) = fun p => p.1 == k := by
    funext p
    exact same_int q p.1 k
  rw [this]
  cases L.find? (fun p => p.1 == k) <;> rfl

/-! ### what a range over a map has met -/
/-- s: the entries met so far; left: which keys are still to come. -/
structure Coll (L : List (Int × V)) (left : Lit → Bool) (s : List (Int × V)) : Prop where
  apart : Apart s
  sub : ∀ p ∈ s, p ∈ L
  rest : ∀ p ∈ L, left (.int q p.1) = false → p ∈ s
  gone : ∀ p ∈ s, left (.int q p.1) = false

variable {q dv}
theorem Coll.start (L : List (Int × V)) : Coll q L (Maps.has (dat q dv L)) [] where
  apart := List.Pairwise.nil
  sub := by simp
  rest := fun p hp h => by
    rw [dat_has] at h
    have : hasL L p.1 = true := List.any_eq_true.2 ⟨p, hp, by simp⟩
    rw [this] at h
    cases h
  gone := by simp

theorem Coll.step {L : List (Int × V)} (hL : Srt L) {left : Lit → Bool} {s : List (Int × V)} (h : Coll q L left s) {k : Int} {v : V} (hl : left (.int q k) = true) (hm : (k, v) ∈ L) :
    Coll q L (fun z => left z && !z.sameKey (.int q k)) (s ++ [(k, v)]) where
  apart := by
    refine List.pairwise_append.2 ⟨h.apart, by simp, fun p hp r hr => ?_⟩
    simp at hr
    subst hr
    intro e
    have := h.gone p hp
    simp at e
    rw [e, hl] at this
    cases this
  sub := fun p hp => by
    rcases List.mem_append.1 hp with hp | hp
    · exact h.sub p hp
    · simp at hp; subst hp; exact hm
  rest := fun p hp hz => by
    by_cases e : p.1 = k
    · have : p = (k, v) := hL.one hp hm e
      subst this
      simp
    · rw [same_int] at hz
      have e2 : (p.1 == k) = false := by simp [e]
      rw [e2] at hz
      simp at hz
      exact List.mem_append_left _ (h.rest p hp hz)
  gone := fun p hp => by
    rcases List.mem_append.1 hp with hp | hp
    · simp [h.gone p hp]
    · simp at hp; subst hp; simp [same_int]

theorem Coll.perm {L : List (Int × V)} (hL : Srt L) {left : Lit → Bool} {s : List (Int × V)} (h : Coll q L left s) (h0 : ∀ kl, left kl = false) : s.Perm L := by
  have n1 : s.Nodup := h.apart.imp (fun {p q} hlt => fun e => hlt (by rw [e]))
  have n2 : L.Nodup := hL.imp (fun {p q} hlt => fun e => by rw [e] at hlt; omega)
  exact (List.perm_ext_iff_of_nodup n1 n2).2 fun p => ⟨h.sub p, fun hp => h.rest p hp (h0 _)⟩

theorem Apart.nodup {s : List (Int × V)} (h : Apart s) : s.Nodup := h.imp (fun {p q} hlt => fun e => hlt (by rw [e]))

theorem apart_length : ∀ {s L : List (Int × V)}, Apart s → (∀ p ∈ s, p ∈ L) → s.length ≤ L.length
  | [], _, _, _ => Nat.zero_le _
  | p :: r, L, h, hs => by
    obtain ⟨h1, h2⟩ := List.pairwise_cons.1 h
    obtain ⟨a, b, rfl⟩ := List.append_of_mem (hs p (List.mem_cons_self ..))
    have := apart_length (s := r) (L := a ++ b) h2 (fun x hx => by
      have := hs x (List.mem_cons_of_mem _ hx)
      simp only [List.mem_append, List.mem_cons] at this ⊢
      rcases this with h | h | h
      · exact .inl h
      · exact absurd (by rw [h]) (h1 x hx)
      · exact .inr h)
    simp at this ⊢
    omega
end
end Go.Proofs.Ytfdboahcaiolgaa
