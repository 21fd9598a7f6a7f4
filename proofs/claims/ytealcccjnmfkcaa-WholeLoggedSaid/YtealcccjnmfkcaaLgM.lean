/-
  Plain mathematics: ledgers, numbers by key that wrap around; what may be, a key's number, the ledger of any deltas, sums and opposites, and the laws of these. No program, no condition but those that each theorem names.
-/
import Derived.Below
import Derived.IntWalk
import Derived.RowKit
set_option linter.unusedVariables false
set_option linter.unusedSimpArgs false
namespace Go.Proofs.Ytealcccjnmfkcaa
open Go.RowKit Go.IntWalk

/-- A delta: a key, and by how much. -/
structure Dl where
  k : Int
  b : Int

/-- A delta that a program can have. -/
def inD (x : Dl) : Prop := (0 ≤ x.k ∧ x.k ≤ 255) ∧ (-9223372036854775808 ≤ x.b ∧ x.b ≤ 9223372036854775807)
def WfL (L : List Dl) : Prop := ∀ x ∈ L, inD x

def okD (x : Dl) : Prop := x.k < 64 ∧ x.b ≠ 0
instance (x : Dl) : Decidable (okD x) := by unfold okD; infer_instance
def ltD (a b : Dl) : Prop := a.k < b.k
instance (a b : Dl) : Decidable (ltD a b) := by unfold ltD; infer_instance
def RightP (L : List Dl) : Prop := (∀ x ∈ L, okD x) ∧ L.Pairwise ltD
instance (L : List Dl) : Decidable (RightP L) := by unfold RightP; infer_instance
def rightB (L : List Dl) : Bool := decide (RightP L)
theorem rightB_iff {L : List Dl} : rightB L = true ↔ RightP L := by unfold rightB; simp
theorem rightB_no {L : List Dl} : rightB L = false ↔ ¬ RightP L := by unfold rightB; simp
def KeysP (L : List Dl) : Prop := ∀ x ∈ L, x.k < 64
instance (L : List Dl) : Decidable (KeysP L) := by unfold KeysP; infer_instance
def keysB (L : List Dl) : Bool := decide (KeysP L)
theorem keysB_iff {L : List Dl} : keysB L = true ↔ KeysP L := by unfold keysB; simp
theorem keysB_no {L : List Dl} : keysB L = false ↔ ¬ KeysP L := by unfold keysB; simp

/-- A key's number: that of the first delta of it. -/
def getD (L : List Dl) (k : Int) : Int := match L with
  | [] => 0
  | x :: r => if x.k = k then x.b else getD r k
/-- The sum of all deltas of a key, as it is. -/
def tot (L : List Dl) (k : Int) : Int := match L with
  | [] => 0
  | x :: r => (if x.k = k then x.b else 0) + tot r k
/-- The same as an int64. -/
def num (L : List Dl) (k : Int) : Int := wrap64 (tot L k)
/-- What a ledger has for a key. -/
def cellD (L : List Dl) (i : Nat) : List Dl := if num L i = 0 then [] else [⟨i, num L i⟩]
/-- The ledger of any deltas, of the keys below n. -/
def ofN (L : List Dl) : Nat → List Dl
  | 0 => []
  | n + 1 => ofN L n ++ cellD L n
def ofD (L : List Dl) : List Dl := ofN L 64
def negD (x : Dl) : Dl := ⟨x.k, wrap64 (-x.b)⟩
def ePut (L D : List Dl) : Int := if RightP L ∧ KeysP D then 0 else 2
def sPut (L D : List Dl) : List Dl := if RightP L ∧ KeysP D then ofD (L ++ D) else L
def eSum (L D : List Dl) : Int := if RightP L ∧ RightP D then 0 else 2
def sSum (L D : List Dl) : List Dl := if RightP L ∧ RightP D then ofD (L ++ D) else []
def eLess (L : List Dl) : Int := if RightP L then 0 else 2
def sLess (L : List Dl) : List Dl := if RightP L then L.map negD else []

theorem right_keys {L : List Dl} (h : RightP L) : KeysP L := fun x hx => (h.1 x hx).1
theorem right_nil : RightP [] := ⟨by simp, List.Pairwise.nil⟩
theorem keys_nil : KeysP [] := by simp [KeysP]
theorem keys_snoc {M : List Dl} {x : Dl} : KeysP (M ++ [x]) ↔ KeysP M ∧ x.k < 64 := by
  unfold KeysP
  simp only [List.mem_append, List.mem_singleton]
  exact ⟨fun h => ⟨fun y hy => h y (.inl hy), h x (.inr rfl)⟩, fun h y hy => hy.elim (h.1 y) (fun e => e ▸ h.2)⟩
theorem keys_append {M K : List Dl} : KeysP (M ++ K) ↔ KeysP M ∧ KeysP K := by
  unfold KeysP
  simp only [List.mem_append]
  exact ⟨fun h => ⟨fun y hy => h y (.inl hy), fun y hy => h y (.inr hy)⟩, fun h y hy => hy.elim (h.1 y) (h.2 y)⟩
theorem right_snoc {M : List Dl} {x : Dl} : RightP (M ++ [x]) ↔ RightP M ∧ okD x ∧ ∀ p ∈ M, ltD p x := by
  unfold RightP
  rw [List.pairwise_append]
  simp only [List.mem_append, List.mem_singleton, List.pairwise_cons, List.not_mem_nil, List.Pairwise.nil]
  constructor
  · rintro ⟨h1, h2, _, h3⟩
    exact ⟨⟨fun h hh => h1 h (.inl hh), h2⟩, h1 x (.inr rfl), fun p hp => h3 p hp x rfl⟩
  · rintro ⟨⟨h1, h2⟩, h4, h5⟩
    refine ⟨?_, h2, by simp, ?_⟩
    · rintro h (hh | rfl)
      · exact h1 h hh
      · exact h4
    · rintro a ha b rfl; exact h5 a ha
theorem right_two {M : List Dl} {x y : Dl} (h : RightP (M ++ [y])) : RightP (M ++ [y] ++ [x]) ↔ okD x ∧ ltD y x := by
  rw [right_snoc]
  constructor
  · exact fun k => ⟨k.2.1, k.2.2 y (by simp)⟩
  · rintro ⟨k1, k2⟩
    obtain ⟨_, _, h2⟩ := right_snoc.1 h
    refine ⟨h, k1, fun p hp => ?_⟩
    rcases List.mem_append.1 hp with hp | hp
    · have := h2 p hp
      unfold ltD at *
      omega
    · simp at hp; subst hp; exact k2
theorem right_one {x : Dl} : RightP [x] ↔ okD x := by
  have := right_snoc (M := []) (x := x)
  rw [List.nil_append] at this
  rw [this]
  simp [right_nil]
theorem right_pre {M K : List Dl} (h : RightP (M ++ K)) : RightP M := ⟨fun x hx => h.1 x (by simp [hx]), (List.pairwise_append.1 h.2).1⟩
theorem right_tail {x : Dl} {r : List Dl} (h : RightP (x :: r)) : RightP r := ⟨fun y hy => h.1 y (by simp [hy]), (List.pairwise_cons.1 h.2).2⟩

theorem wrap_zero : wrap64 0 = 0 := by unfold wrap64; omega
theorem wrap_wrap (a : Int) : wrap64 (wrap64 a) = wrap64 a := by unfold wrap64; omega
theorem wrap_left (a b : Int) : wrap64 (wrap64 a + b) = wrap64 (a + b) := by unfold wrap64; omega
theorem wrap_right (a b : Int) : wrap64 (a + wrap64 b) = wrap64 (a + b) := by unfold wrap64; omega
theorem wrap_neg (a : Int) : wrap64 (-wrap64 a) = wrap64 (-a) := by unfold wrap64; omega
theorem wrap_rng (a : Int) : -9223372036854775808 ≤ wrap64 a ∧ wrap64 a ≤ 9223372036854775807 := by unfold wrap64; omega
theorem wrap_neg0 {a : Int} (h : -9223372036854775808 ≤ a ∧ a ≤ 9223372036854775807) (h0 : a ≠ 0) : wrap64 (-a) ≠ 0 := by unfold wrap64; omega

theorem tot_append (L M : List Dl) (k : Int) : tot (L ++ M) k = tot L k + tot M k := by
  induction L with
  | nil => simp [tot]
  | cons x r ih => rw [List.cons_append, tot, tot, ih]; omega
theorem num_append (L M : List Dl) (k : Int) : num (L ++ M) k = wrap64 (num L k + num M k) := by
  unfold num
  rw [tot_append, wrap_left, wrap_right]
theorem num_comm (L M : List Dl) (k : Int) : num (L ++ M) k = num (M ++ L) k := by
  unfold num
  rw [tot_append, tot_append, Int.add_comm]
theorem num_nil (k : Int) : num [] k = 0 := wrap_zero
theorem num_rng (L : List Dl) (k : Int) : -9223372036854775808 ≤ num L k ∧ num L k ≤ 9223372036854775807 := wrap_rng _
theorem num_one (x : Dl) (k : Int) : num [x] k = if x.k = k then wrap64 x.b else 0 := by
  unfold num
  simp only [tot, Int.add_zero]
  split
  · rfl
  · exact wrap_zero
theorem num_snoc (L : List Dl) (x : Dl) (k : Int) : num (L ++ [x]) k = if x.k = k then wrap64 (num L k + x.b) else num L k := by
  rw [num_append, num_one]
  split
  · rw [wrap_right]
  · rw [Int.add_zero]; exact wrap_wrap _
theorem num_hit {L : List Dl} {x : Dl} {k : Int} (h : x.k = k) : num (L ++ [x]) k = wrap64 (num L k + x.b) := by rw [num_snoc, if_pos h]
theorem num_miss {L : List Dl} {x : Dl} {k : Int} (h : ¬ x.k = k) : num (L ++ [x]) k = num L k := by rw [num_snoc, if_neg h]
theorem tot_neg (L : List Dl) (k : Int) : wrap64 (tot (L.map negD) k) = wrap64 (-tot L k) := by
  induction L with
  | nil => rfl
  | cons x r ih =>
    rw [List.map_cons, tot, tot, ← wrap_right, ih, wrap_right]
    show wrap64 ((if x.k = k then wrap64 (-x.b) else 0) + _) = _
    split
    · rw [wrap_left]; congr 1; omega
    · congr 1; omega
theorem num_neg (L : List Dl) (k : Int) : num (L.map negD) k = wrap64 (-num L k) := by
  unfold num
  rw [tot_neg, wrap_neg]

/-! ### the ledger of any deltas -/
theorem mem_cell {L : List Dl} {i : Nat} {x : Dl} (h : x ∈ cellD L i) : x.k = i ∧ x.b = num L i ∧ x.b ≠ 0 := by
  unfold cellD at h
  split at h
  · simp at h
  · simp at h; subst h; exact ⟨rfl, rfl, by assumption⟩
theorem mem_of {L : List Dl} {n : Nat} {x : Dl} (h : x ∈ ofN L n) : 0 ≤ x.k ∧ x.k < n ∧ x.b = num L x.k ∧ x.b ≠ 0 := by
  induction n with
  | zero => simp [ofN] at h
  | succ n ih =>
    rw [ofN] at h
    rcases List.mem_append.1 h with h | h
    · have := ih h; exact ⟨this.1, by omega, this.2.2⟩
    · obtain ⟨h1, h2, h3⟩ := mem_cell h
      exact ⟨by omega, by omega, by rw [h1]; exact h2, h3⟩
theorem right_ofN (L : List Dl) (n : Nat) (hn : n ≤ 64) : RightP (ofN L n) := by
  induction n with
  | zero => exact right_nil
  | succ n ih =>
    rw [ofN]
    have ih := ih (by omega)
    unfold cellD
    split
    · rw [List.append_nil]; exact ih
    · rename_i h0
      refine right_snoc.2 ⟨ih, ⟨by show (n : Int) < 64; omega, h0⟩, fun p hp => ?_⟩
      have := mem_of hp
      show p.k < (n : Int)
      omega
theorem right_of (L : List Dl) : RightP (ofD L) := right_ofN L 64 (by omega)
theorem len_ofN (L : List Dl) (n : Nat) : (ofN L n).length ≤ n := by
  induction n with
  | zero => simp [ofN]
  | succ n ih =>
    rw [ofN, List.length_append]
    have : (cellD L n).length ≤ 1 := by unfold cellD; split <;> simp
    omega
theorem len_of (L : List Dl) : (ofD L).length ≤ 64 := len_ofN L 64
theorem wf_of (L : List Dl) : WfL (ofD L) := fun x hx => by
  have := mem_of (n := 64) hx
  refine ⟨by omega, ?_⟩
  rw [this.2.2.1]
  exact num_rng _ _
theorem ofN_congr {L M : List Dl} (n : Nat) (h : ∀ i : Nat, i < n → num L i = num M i) : ofN L n = ofN M n := by
  induction n with
  | zero => rfl
  | succ n ih => rw [ofN, ofN, ih (fun i hi => h i (by omega))]; unfold cellD; rw [h n (by omega)]
theorem of_congr {L M : List Dl} (h : ∀ i : Nat, i < 64 → num L i = num M i) : ofD L = ofD M := ofN_congr 64 h

theorem get_miss {L : List Dl} {k : Int} (h : ∀ x ∈ L, x.k ≠ k) : getD L k = 0 := by
  induction L with
  | nil => rfl
  | cons x r ih => rw [getD, if_neg (h x (by simp))]; exact ih fun y hy => h y (by simp [hy])
theorem tot_miss {L : List Dl} {k : Int} (h : ∀ x ∈ L, x.k ≠ k) : tot L k = 0 := by
  induction L with
  | nil => rfl
  | cons x r ih => rw [tot, if_neg (h x (by simp)), ih fun y hy => h y (by simp [hy])]; rfl
/-- Of a ledger that may be a key's number is its sum. -/
theorem get_tot {L : List Dl} (h : L.Pairwise ltD) (k : Int) : getD L k = tot L k := by
  induction L with
  | nil => rfl
  | cons x r ih =>
    obtain ⟨h1, h2⟩ := List.pairwise_cons.1 h
    rw [getD, tot]
    by_cases e : x.k = k
    · rw [if_pos e, if_pos e, tot_miss fun y hy => by have := h1 y hy; unfold ltD at this; omega]; omega
    · rw [if_neg e, if_neg e, ih h2]; omega
theorem get_rng {L : List Dl} (h : WfL L) (k : Int) : -9223372036854775808 ≤ getD L k ∧ getD L k ≤ 9223372036854775807 := by
  induction L with
  | nil => simp [getD]
  | cons x r ih =>
    rw [getD]
    split
    · exact (h x (by simp)).2
    · exact ih fun y hy => h y (by simp [hy])
theorem get_num {L : List Dl} (h : L.Pairwise ltD) (hw : WfL L) (k : Int) : getD L k = num L k := by
  unfold num
  rw [← get_tot h, wrap64_in _ (get_rng hw k)]
theorem get_ofN (L : List Dl) (n : Nat) (hn : n ≤ 64) (k : Int) : getD (ofN L n) k = if 0 ≤ k ∧ k < n then num L k else 0 := by
  rw [get_tot (right_ofN L n hn).2]
  induction n with
  | zero => rw [if_neg (by omega)]; rfl
  | succ n ih =>
    rw [ofN, tot_append, ih (by omega)]
    have hc : tot (cellD L n) k = if k = n then num L k else 0 := by
      unfold cellD
      split
      · rename_i h0
        split
        · rename_i e; rw [e, h0]; rfl
        · rfl
      · simp only [tot, Int.add_zero]
        split
        · rename_i e; rw [if_pos e.symm, e]
        · rename_i e; rw [if_neg fun e' => e e'.symm]
    rw [hc]
    by_cases e : k = n
    · subst e
      rw [if_neg (by omega), if_pos rfl, if_pos (by omega)]; omega
    · rw [if_neg e]
      by_cases e2 : 0 ≤ k ∧ k < (n : Int)
      · rw [if_pos e2, if_pos (by omega)]; omega
      · rw [if_neg e2, if_neg (by omega)]; omega
theorem get_of (L : List Dl) (k : Int) : getD (ofD L) k = if 0 ≤ k ∧ k < 64 then num L k else 0 := get_ofN L 64 (by omega) k
theorem num_of {L : List Dl} {k : Int} (hk : 0 ≤ k ∧ k < 64) : num (ofD L) k = num L k := by
  rw [← get_num (right_of L).2 (wf_of L), get_of, if_pos hk]
theorem num_ofI (L : List Dl) (i : Nat) (hi : i < 64) : num (ofD L) i = num L i := num_of (by omega)

/-- Two ledgers that may be with the same numbers are the same. -/
theorem ext_get : ∀ {L M : List Dl}, RightP L → RightP M → (∀ k, getD L k = getD M k) → L = M
  | [], [], _, _, _ => rfl
  | [], y :: s, _, hM, h => by
    have := h y.k
    rw [getD, getD, if_pos rfl] at this
    exact absurd this.symm (hM.1 y (by simp)).2
  | x :: r, [], hL, _, h => by
    have := h x.k
    rw [getD, getD, if_pos rfl] at this
    exact absurd this (hL.1 x (by simp)).2
  | x :: r, y :: s, hL, hM, h => by
    obtain ⟨l1, l2⟩ := List.pairwise_cons.1 hL.2
    obtain ⟨m1, m2⟩ := List.pairwise_cons.1 hM.2
    have hx := h x.k
    have hy := h y.k
    rw [getD, getD, if_pos rfl] at hx
    rw [getD, getD, if_pos (c := y.k = y.k) rfl] at hy
    have nx := (hL.1 x (by simp)).2
    have ny := (hM.1 y (by simp)).2
    have hk : x.k = y.k := by
      by_cases e : x.k = y.k
      · exact e
      · rw [if_neg (fun e' => e e'.symm)] at hx
        rw [if_neg e] at hy
        by_cases e2 : x.k < y.k
        · exfalso
          apply nx
          rw [hx]
          exact get_miss fun z hz => by have := m1 z hz; unfold ltD at this; omega
        · exfalso
          apply ny
          rw [← hy]
          exact get_miss fun z hz => by have := l1 z hz; unfold ltD at this; omega
    rw [if_pos hk.symm] at hx
    have hxy : x = y := by cases x; cases y; simp at hk hx; rw [hk, hx]
    subst hxy
    congr 1
    refine ext_get (right_tail hL) (right_tail hM) fun k => ?_
    have := h k
    rw [getD, getD] at this
    by_cases e : x.k = k
    · subst e
      rw [get_miss fun z hz => by have := l1 z hz; unfold ltD at this; omega, get_miss fun z hz => by have := m1 z hz; unfold ltD at this; omega]
    · rw [if_neg e, if_neg e] at this
      exact this
theorem get_out {L : List Dl} (h : RightP L) (hw : WfL L) {k : Int} (hk : ¬ (0 ≤ k ∧ k < 64)) : getD L k = 0 :=
  get_miss fun x hx e => hk ⟨by have := (hw x hx).1; omega, by have := (h.1 x hx).1; omega⟩
/-- A ledger that may be is that of its own deltas. -/
theorem of_self {L : List Dl} (h : RightP L) (hw : WfL L) : ofD L = L := by
  refine ext_get (right_of L) h fun k => ?_
  rw [get_of]
  split
  · exact (get_num h.2 hw k).symm
  · rename_i e; rw [get_out h hw e]

theorem wf_append {L M : List Dl} (h : WfL L) (k : WfL M) : WfL (L ++ M) := fun x hx => (List.mem_append.1 hx).elim (h x) (k x)
theorem wf_neg {L : List Dl} (h : WfL L) : WfL (L.map negD) := fun x hx => by
  obtain ⟨y, hy, rfl⟩ := List.mem_map.1 hx
  exact ⟨(h y hy).1, wrap_rng _⟩
theorem right_neg {L : List Dl} (h : RightP L) (hw : WfL L) : RightP (L.map negD) := by
  refine ⟨fun x hx => ?_, ?_⟩
  · obtain ⟨y, hy, rfl⟩ := List.mem_map.1 hx
    exact ⟨(h.1 y hy).1, wrap_neg0 (hw y hy).2 (h.1 y hy).2⟩
  · rw [List.pairwise_map]
    exact h.2
theorem keys_neg {L : List Dl} (h : KeysP L) : KeysP (L.map negD) := fun x hx => by
  obtain ⟨y, hy, rfl⟩ := List.mem_map.1 hx
  exact h y hy

/-! ### the laws -/
theorem of_comm (L M : List Dl) : ofD (L ++ M) = ofD (M ++ L) := of_congr fun i _ => num_comm L M i
theorem of_left (L M : List Dl) : ofD (ofD L ++ M) = ofD (L ++ M) := of_congr fun i hi => by rw [num_append, num_append, num_ofI L i hi]
theorem of_right (L M : List Dl) : ofD (L ++ ofD M) = ofD (L ++ M) := by rw [of_comm, of_left, of_comm]
theorem of_turn (L M K : List Dl) : ofD (L ++ (M ++ K)) = ofD (L ++ (K ++ M)) := of_congr fun i _ => by rw [num_append, num_comm M K, ← num_append]
theorem num_opp (L : List Dl) (k : Int) : num (L ++ L.map negD) k = 0 := by
  rw [num_append, num_neg, wrap_right]
  show wrap64 _ = 0
  rw [show num L k + -num L k = 0 by omega]; exact wrap_zero
theorem of_none {L : List Dl} (h : ∀ i : Nat, i < 64 → num L i = 0) : ofD L = [] := by
  have : ∀ n : Nat, n ≤ 64 → ofN L n = [] := by
    intro n
    induction n with
    | zero => intro _; rfl
    | succ n ih =>
      intro hn
      rw [ofN, ih (by omega), List.nil_append]
      unfold cellD
      rw [if_pos (h n (by omega))]
  exact this 64 (by omega)
theorem of_opp (L : List Dl) : ofD (L ++ L.map negD) = [] := of_none fun i _ => num_opp L i
/-- What was put, and its opposite, leaves what there was. -/
theorem of_back {A D : List Dl} (h : RightP A) (hw : WfL A) : ofD (ofD (A ++ D) ++ D.map negD) = A := by
  rw [of_left, List.append_assoc]
  refine (of_congr fun i _ => ?_).trans (of_self h hw)
  rw [num_append, num_opp, Int.add_zero]
  exact wrap_wrap _
theorem of_zero {A : List Dl} (h : RightP A) (hw : WfL A) (k : Int) : ofD (A ++ [⟨k, 0⟩]) = A := by
  refine (of_congr fun i _ => ?_).trans (of_self h hw)
  rw [num_snoc]
  split
  · rw [Int.add_zero]; exact wrap_wrap _
  · rfl
theorem get_sum {A B : List Dl} (hA : RightP A) (hB : RightP B) (wA : WfL A) (wB : WfL B) (k : Int) : getD (ofD (A ++ B)) k = wrap64 (getD A k + getD B k) := by
  rw [get_of]
  split
  · rw [num_append, get_num hA.2 wA, get_num hB.2 wB]
  · rename_i e; rw [get_out hA wA e, get_out hB wB e]; exact wrap_zero.symm
theorem get_less {A : List Dl} (hA : RightP A) (wA : WfL A) (k : Int) : getD (A.map negD) k = wrap64 (-getD A k) := by
  rw [get_num (right_neg hA wA).2 (wf_neg wA), num_neg, get_num hA.2 wA]
theorem get_add {A : List Dl} (hA : RightP A) (wA : WfL A) (x : Dl) (hx : 0 ≤ x.k ∧ x.k < 64) (k : Int) : getD (ofD (A ++ [x])) k = if k = x.k then wrap64 (getD A k + x.b) else getD A k := by
  rw [get_of]
  split
  · rw [num_snoc, get_num hA.2 wA]
    by_cases e : x.k = k
    · rw [if_pos e, if_pos e.symm]
    · rw [if_neg e, if_neg fun e' => e e'.symm]
  · rename_i e
    rw [if_neg (by rintro rfl; exact e hx), get_out hA wA e]

/-- The j-th. -/
def tk (L : List Dl) (j : Nat) : Dl := (L[j]?).getD ⟨0, 0⟩
theorem tk_some {L : List Dl} {k : Nat} {x : Dl} (h : L[k]? = some x) : tk L k = x := by unfold tk; rw [h]; rfl
theorem tk_get {L : List Dl} {j : Nat} (h : j < L.length) : L[j]? = some (tk L j) := by unfold tk; rw [List.getElem?_eq_getElem h]; rfl
theorem tk_mem {L : List Dl} {j : Nat} (h : j < L.length) : tk L j ∈ L := List.mem_of_getElem? (tk_get h)
theorem tk_take {L : List Dl} {j : Nat} (h : j < L.length) : L.take (j + 1) = L.take j ++ [tk L j] := by
  rw [List.take_add_one, tk_get h]; rfl
theorem take_all {L : List Dl} {n : Nat} (h : L.length = n) : L.take n = L := List.take_of_length_le (by omega)
/-- A list that is turned. -/
theorem tk_turn {L : List Dl} {r i : Nat} (hr : r ≤ L.length) (hi : i < L.length) : tk L ((i + r) % L.length) = tk (L.drop r ++ L.take r) i := by
  unfold tk
  congr 1
  by_cases h : i + r < L.length
  · rw [Nat.mod_eq_of_lt h, List.getElem?_append_left (by rw [List.length_drop]; omega), List.getElem?_drop, Nat.add_comm]
  · rw [Nat.mod_eq_sub_mod (by omega), Nat.mod_eq_of_lt (by omega), List.getElem?_append_right (by rw [List.length_drop]; omega), List.length_drop, List.getElem?_take, if_pos (by omega)]
    congr 1
    omega
theorem get_stop {L : List Dl} {k : Int} {j : Nat} (hj : j < L.length) (h1 : ∀ q ∈ L.take j, q.k ≠ k) (h2 : (tk L j).k = k) : getD L k = (tk L j).b := by
  have e : L = L.take j ++ (tk L j :: L.drop (j + 1)) := by
    rw [show tk L j :: L.drop (j + 1) = [tk L j] ++ L.drop (j + 1) from rfl, ← List.append_assoc, ← tk_take hj, List.take_append_drop]
  generalize L.take j = M at *
  generalize tk L j = x at *
  rw [e]
  clear e
  induction M with
  | nil => rw [List.nil_append, getD, if_pos h2]
  | cons y r ih => rw [List.cons_append, getD, if_neg (h1 y (by simp))]; exact ih fun q hq => h1 q (by simp [hq])
theorem right_no_pre {L : List Dl} {j : Nat} (h : ¬ RightP (L.take j)) : ¬ RightP L := fun k => h (by rw [← List.take_append_drop j L] at k; exact right_pre k)
theorem keys_no_pre {L : List Dl} {j : Nat} (h : ¬ KeysP (L.take j)) : ¬ KeysP L := fun k => h fun x hx => k x (List.mem_of_mem_take hx)
end Go.Proofs.Ytealcccjnmfkcaa
