/-
  keysOf of package chair: the keys of wanted deals by rising numbers, whatever order the map gives them in. Conditions: the map's keys are below a thousand; the function that is handed in answers by the deal alone.
-/
import Derived.Test.YtjfmahceolhfnaaChF
import Derived.Test.YtjfmahceolhfnaaChS
import Derived.Shelf.Abstract
set_option linter.unusedVariables false
set_option linter.unusedSimpArgs false
set_option linter.unusedSectionVars false
namespace Go.Proofs.Ytjfmahceolhfnaa
open Go.RowKit Go.Maps Go.Sort Go.Shelf

/-- A number as a cell. -/
def zc (x : Nat) : List Value := [.int .i64 (x : Int)]
instance : Nonempty (EncOk zc 1) := ⟨⟨fun _ => rfl, fun x u hu => by
  simp [zc] at hu
  subst hu
  rfl, by omega⟩⟩
theorem zc_one (x : Nat) : ∀ u ∈ zc x, u.oneCell' = true := by
  intro u hu
  simp [zc] at hu
  subst hu
  rfl
theorem zc_get : ∀ (L : List Nat) (j : Nat), (rc zc L)[j]? = (L[j]?).map fun x => Value.int .i64 (x : Int)
  | [], j => by simp [rc]
  | x :: r, 0 => by simp [rc, zc]
  | x :: r, j + 1 => by
    have := zc_get r j
    rw [rc_cons]
    simpa [zc] using this
abbrev ZS (w : World) (A : Option Addr) (n c : Nat) (L : List Nat) : Prop := RS w 3 zc 1 A n c L
theorem RR.num {w : World} {A : Option Addr} {n c : Nat} {L : List Nat} (h : RR w zc 1 A n c L) {k : Nat} (hk : k < n) : ∃ g off x, L[k]? = some x ∧ A = some ⟨g, off, none⟩ ∧ w.cell? ⟨g, off + k, none⟩ = some (.int .i64 (x : Int)) := by
  obtain ⟨g, off, x, h1, h2, h3⟩ := h.at_ hk
  have := h3 0 _ rfl
  rw [Nat.mul_one] at this
  exact ⟨g, off, x, h1, h2, this⟩
/-- Those that are wanted, by rising numbers. -/
def wantB (D : DM) (p : Dl → Bool) (t : Nat) : Bool := match D t with | some d => p d | none => false
def keysF (D : DM) (p : Dl → Bool) : List Nat := (List.range 1000).filter (wantB D p)
theorem keysF_nodup (D : DM) (p : Dl → Bool) : (keysF D p).Nodup := List.Nodup.sublist List.filter_sublist List.nodup_range
theorem keysF_mem {D : DM} {p : Dl → Bool} {t : Nat} : t ∈ keysF D p ↔ t < 1000 ∧ wantB D p t = true := by simp [keysF]
theorem keysF_rise (D : DM) (p : Dl → Bool) : (keysF D p).Pairwise (· < ·) := List.Pairwise.sublist List.filter_sublist List.pairwise_lt_range
theorem keysF_len (D : DM) (p : Dl → Bool) : (keysF D p).length ≤ 1000 := by
  have := List.length_filter_le (wantB D p) (List.range 1000)
  rw [List.length_range] at this
  exact this
theorem keysF_cnt (D : DM) (p : Dl → Bool) : (keysF D p).length = cntB (wantB D p) 1000 := by
  unfold keysF
  generalize 1000 = n
  induction n with
  | zero => rfl
  | succ k ih =>
    rw [List.range_succ, List.filter_append, List.length_append, ih]
    cases h : wantB D p k with
    | true => rw [cntB_yes h]; simp [h]
    | false => rw [cntB_no h]; simp [h]
/-- What has come so far. -/
def Coll (D : DM) (p : Dl → Bool) (left : Lit → Bool) (ss : List Nat) : Prop := ss.Nodup ∧ ∀ t : Nat, t ∈ ss ↔ (wantB D p t = true ∧ left (.int .i64 (t : Int)) = false)
section
variable {D : DM} {p : Dl → Bool} {Dt : DataW Value} {left : Lit → Bool} {ss : List Nat}
theorem wantB_some {t : Nat} (h : wantB D p t = true) : ∃ d, D t = some d ∧ p d = true := by
  unfold wantB at h
  split at h
  · rename_i d hd; exact ⟨d, hd, h⟩
  · cases h
theorem Coll.start (h : Reads Dt D) : Coll D p (has Dt) [] := ⟨List.nodup_nil, fun t => by
  constructor
  · intro h; cases h
  · rintro ⟨h1, h2⟩
    obtain ⟨d, hd, _⟩ := wantB_some h1
    rw [(h (t : Int)).1, fnV_nat, hd] at h2
    cases h2⟩
theorem Coll.step (h : Coll D p left ss) {t : Nat} {d : Dl} (hd : D t = some d) (hl : left (.int .i64 (t : Int)) = true) :
    Coll D p (fun z => left z && !z.sameKey (.int .i64 (t : Int))) (if p d = true then ss ++ [t] else ss) := by
  have hnew : t ∉ ss := fun ht => by have := ((h.2 t).1 ht).2; rw [hl] at this; cases this
  have hk : ∀ u : Nat, (left (.int .i64 (u : Int)) && !(Lit.int .i64 (u : Int)).sameKey (.int .i64 (t : Int))) = false ↔ (left (.int .i64 (u : Int)) = false ∨ u = t) := fun u => by
    by_cases e : u = t
    · subst e; simp [Lit.sameKey]
    · have : (Lit.int .i64 (u : Int)).sameKey (.int .i64 (t : Int)) = false := by simp [Lit.sameKey]; omega
      rw [this]
      simp [e]
  have hw : wantB D p t = p d := by unfold wantB; rw [hd]
  split
  · rename_i hp
    refine ⟨List.nodup_append.2 ⟨h.1, by simp, fun a ha b hb => by simp at hb; subst hb; exact fun e => hnew (e ▸ ha)⟩, fun u => ?_⟩
    rw [hk u, List.mem_append, h.2 u, List.mem_singleton]
    constructor
    · rintro (⟨h1, h2⟩ | rfl)
      · exact ⟨h1, .inl h2⟩
      · exact ⟨hw.trans hp, .inr rfl⟩
    · rintro ⟨h1, h2 | h2⟩
      · exact .inl ⟨h1, h2⟩
      · exact .inr h2
  · rename_i hp
    refine ⟨h.1, fun u => ?_⟩
    rw [hk u, h.2 u]
    constructor
    · rintro ⟨h1, h2⟩
      exact ⟨h1, .inl h2⟩
    · rintro ⟨h1, h2 | rfl⟩
      · exact ⟨h1, h2⟩
      · rw [hw] at h1; exact absurd h1 hp
theorem Coll.perm (h : Coll D p left ss) (hf : Few D) (hl : ∀ kl, left kl = false) : ss.Perm (keysF D p) :=
  (List.perm_ext_iff_of_nodup h.1 (keysF_nodup D p)).2 fun t => by
    rw [h.2 t, keysF_mem]
    constructor
    · rintro ⟨h1, _⟩
      obtain ⟨d, hd, _⟩ := wantB_some h1
      exact ⟨hf _ _ hd, h1⟩
    · rintro ⟨_, h1⟩
      exact ⟨h1, hl _⟩
end
theorem Coll.len {D : DM} {p : Dl → Bool} {left : Lit → Bool} {ss : List Nat} (h : Coll D p left ss) (hf : Few D) : ss.length ≤ 1000 := few_nodup 1000 ss (fun t ht => by
  obtain ⟨d, hd, _⟩ := wantB_some ((h.2 t).1 ht).1
  exact hf _ _ hd) h.1
/-- Sorted: the rising list. -/
theorem sorted_keys {D : DM} {p : Dl → Bool} {ss : List Nat} (h : ss.Perm (keysF D p)) : (ss.map fun (x : Nat) => (x : Int)).mergeSort (fun x y => decide (x ≤ y)) = (keysF D p).map fun (x : Nat) => (x : Int) := by
  have tr : ∀ a b c : Int, decide (a ≤ b) = true → decide (b ≤ c) = true → decide (a ≤ c) = true := fun a b c h1 h2 => by simp only [decide_eq_true_eq] at *; omega
  have to : ∀ a b : Int, (decide (a ≤ b) || decide (b ≤ a)) = true := fun a b => by simp only [Bool.or_eq_true, decide_eq_true_eq]; omega
  refine List.Perm.eq_of_pairwise (le := fun a b => decide (a ≤ b) = true) (fun a b _ _ h1 h2 => ?_) (List.pairwise_mergeSort tr to _) ?_ ((List.mergeSort_perm _ _).trans (h.map _))
  · simp only [decide_eq_true_eq] at h1 h2; omega
  · refine List.pairwise_map.2 ((keysF_rise D p).imp fun {a b} hab => ?_)
    simp only [decide_eq_true_eq]
    omega
/-! ### the sort in memory -/
section
variable {w : World} {e : TypeId} {n c g off : Nat} {L L' : List Nat}
theorem holds_of_segZ (h : Seg w e 1 (some ⟨g, off, none⟩) n c (rc zc L) (some g)) : Holds (Value.int .i64) w g off (L.map fun (x : Nat) => (x : Int)).toArray := by
  intro j hj
  have hj' : j < L.length := by simpa using hj
  rcases h.2.2.2 with ⟨h0, _⟩ | ⟨g', off', cur, h1, h3, h4, _, h5⟩
  · cases h0
  · cases h1
    refine ⟨?_, h4.frozen _⟩
    rw [h4.cell, h5 j (.int .i64 (L[j] : Int)) (by rw [zc_get, List.getElem?_eq_getElem hj']; rfl)]
    simp [hj']
theorem grown_sortZ (d : Array Int) (m : Nat) (os : Array Obj) : w.grownBy (grow (putRow (Value.int .i64) (Sort.ahead w m) g off d) os) (some g) := by
  refine ⟨rfl, rfl, rfl, by simp, fun k hk hne => ?_⟩
  rw [heap_grow_old _ _ (by simpa using hk)]
  have : g ≠ k := fun e => hne (by rw [e])
  simp [putRow, mapBlock, Sort.ahead, Array.getElem?_modify, this]
theorem seg_sortZ (h : Seg w e 1 (some ⟨g, off, none⟩) n c (rc zc L) (some g)) (hl : L'.length = L.length) (m : Nat) (os : Array Obj) :
    Seg (grow (putRow (Value.int .i64) (Sort.ahead w m) g off (L'.map fun (x : Nat) => (x : Int)).toArray) os) e 1 (some ⟨g, off, none⟩) n c (rc zc L') (some g) := by
  have hn : L.length = n := rc_len h
  refine ⟨by rw [rc_length 1]; omega, h.2.1, h.2.2.1, ?_⟩
  rcases h.2.2.2 with ⟨h0, _⟩ | ⟨g', off', cur, h1, h3, h4, h5, h6⟩
  · cases h0
  · cases h1
    have hlt := h4.lt
    have h4' : w.heap[g]? = some (.cells cur e (0, 0)) := h4
    have hb : (grow (putRow (Value.int .i64) (Sort.ahead w m) g off (L'.map fun (x : Nat) => (x : Int)).toArray) os).heap[g]? = some (.cells (putCells (Value.int .i64) off (L'.map fun (x : Nat) => (x : Int)).toArray cur) e (0, 0)) := by
      rw [heap_grow_old _ _ (by simpa using hlt)]
      simp [putRow, mapBlock, Sort.ahead, Array.getElem?_modify, h4', onCells]
    refine .inr ⟨g, off, _, rfl, rfl, hb, by simpa [putCells] using h5, fun j u hu => ?_⟩
    rw [zc_get] at hu
    cases hx : L'[j]? with
    | none => rw [hx] at hu; cases hu
    | some x =>
      rw [hx] at hu
      cases hu
      obtain ⟨hj, hx⟩ := List.getElem?_eq_some_iff.1 hx
      have hc : off + j < cur.size := by
        have := h.2.1
        omega
      simp [putCells, hc, hj, hx]
end
/-- slices.Sort upon a row that a call has made. -/
theorem sortI_c (w : World) (A : Option Addr) (n c : Nat) (G : Option Nat) (D : DM) (p : Dl → Bool) (ss : List Nat) (h : Seg w 3 1 A n c (rc zc ss) G) (hp : ss.Perm (keysF D p)) :
    Calls Try.prog 36 #[.slice A n c] w fun e w' => e = .returned (.tuple #[]) ∧ Seg w' 3 1 A n c (rc zc (keysF D p)) G ∧ w.grownBy w' G := by
  have hl : ss.length = n := rc_len h
  have hl2 := hp.length_eq
  by_cases h0 : n = 0
  · subst h0
    have hs : ss = [] := List.eq_nil_of_length_eq_zero hl
    have hk : keysF D p = [] := List.eq_nil_of_length_eq_zero (by omega)
    have hcon := AnyM.slices_Sort_int_none Try.sortI A c w
    change Calls Try.prog 36 _ _ _ at hcon
    refine hcon.mono ?_
    rintro e w' ⟨rfl, rfl⟩
    rw [hk]
    rw [hs] at h
    exact ⟨rfl, h, World.grownBy.refl _ _⟩
  · have hg : ∃ g off, A = some ⟨g, off, none⟩ ∧ G = some g := by
      rcases h.2.2.2 with ⟨_, hc, _⟩ | ⟨g, off, cur, h1, h2, _⟩
      · have := h.2.1
        omega
      · exact ⟨g, off, h1, h2⟩
    obtain ⟨g, off, rfl, rfl⟩ := hg
    have hlen : (ss.map fun (x : Nat) => (x : Int)).length = n := by rw [List.length_map]; exact hl
    have hle := keysF_len D p
    have hcon := AnyM.slices_Sort_int Try.sortI g off c (ss.map fun (x : Nat) => (x : Int)) w (holds_of_segZ h) (h.lt g rfl) (by omega)
    change Calls Try.prog 36 _ _ _ at hcon
    rw [hlen, sorted_keys hp] at hcon
    refine hcon.mono ?_
    rintro e w' ⟨rfl, m, os, rfl⟩
    exact ⟨rfl, seg_sortZ h hl2.symm m os, grown_sortZ _ _ _⟩
end Go.Proofs.Ytjfmahceolhfnaa
