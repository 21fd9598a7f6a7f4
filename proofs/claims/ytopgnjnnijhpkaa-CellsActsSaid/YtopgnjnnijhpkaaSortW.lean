/-
  Plain facts on a row of pairs in memory that the library's sort has turned: the same slice reads as the sorted list; nothing else has changed. No condition on the program.
-/
import Derived.Test.YtopgnjnnijhpkaaMem
import Derived.Test.YtopgnjnnijhpkaaCellM
import Derived.Shelf.SlSortCmp.WholeK
namespace Go.Proofs.Ytopgnjnnijhpkaa
open Go.RowKit Go.Sort Go.Shelf Go.Lib Go.Proofs

section
variable {α : Type} [Inhabited α] {enc : α → List Value}

theorem flat_get (h2 : ∀ x, (enc x).length = 2) : ∀ (L : List α) (t : Nat), t < L.length * 2 → (L.flatMap enc)[t]? = some ((enc L[t / 2]!)[t % 2]!)
  | [], t, h => by simp at h
  | x :: r, t, h => by
    obtain ⟨a, b, e⟩ : ∃ a b, enc x = [a, b] := by
      have := h2 x
      match enc x, this with
      | [a, b], _ => exact ⟨a, b, rfl⟩
    match t with
    | 0 => simp [e]
    | 1 => simp [e]
    | t + 2 =>
      have ih := flat_get h2 r t (by simp at h; omega)
      have e1 : (t + 2) / 2 = t / 2 + 1 := by omega
      have e2 : (t + 2) % 2 = t % 2 := by omega
      rw [e1, e2, List.flatMap_cons, e]
      simp only [List.cons_append, List.nil_append, List.getElem?_cons_succ]
      rw [ih]
      simp

omit [Inhabited α] in
theorem flat_len (h2 : ∀ x, (enc x).length = 2) (L : List α) : (L.flatMap enc).length = L.length * 2 := by
  induction L with
  | nil => rfl
  | cons x r ih => rw [List.flatMap_cons, List.length_append, ih, h2, List.length_cons]; omega

theorem flat_flatK (h2 : ∀ x, (enc x).length = 2) (L : List α) {t : Nat} (ht : t < L.length * 2) : (flatK enc 2 L.toArray)[t]! = ((L.flatMap enc)[t]?).getD default := by
  rw [get_flatK _ _ _ _ (by simpa using ht), flat_get h2 L t ht]
  simp

variable {w : World} {e : TypeId} {n c g off : Nat} {L L' : List α}

theorem holdsK_of_seg (h2 : ∀ x, (enc x).length = 2) (h : Seg w e 2 (some ⟨g, off, none⟩) n c (L.flatMap enc) (some g)) : HoldsK enc 2 w g off L.toArray := by
  intro j hj
  have hj' : j < L.length * 2 := by simpa using hj
  rcases h.2.2.2 with ⟨h0, _⟩ | ⟨g', off', cur, h1, h3, h4, _, h5⟩
  · cases h0
  · cases h1
    have hg := flat_get h2 L j hj'
    refine ⟨?_, h4.frozen _⟩
    rw [h4.cell, h5 j _ hg]
    simp only [id]
    rw [flat_flatK h2 L hj', hg]
    rfl

theorem grown_sortK (d : Array α) (m : Nat) (os : Array Obj) : w.grownBy (sortWorldK enc 2 w g off m d os) (some g) := by
  refine ⟨rfl, rfl, rfl, size_sortWorldK_c enc 2 w g off m d os, fun k hk hne => ?_⟩
  unfold sortWorldK putRowK
  rw [heap_grow_old _ _ (by simpa using hk)]
  have : g ≠ k := fun e => hne (by rw [e])
  simp [putRow, mapBlock, Sort.ahead, Array.getElem?_modify, this]

theorem seg_sortK (h2 : ∀ x, (enc x).length = 2) (h : Seg w e 2 (some ⟨g, off, none⟩) n c (L.flatMap enc) (some g)) (hl : L'.length = L.length) (m : Nat) (os : Array Obj) :
    Seg (sortWorldK enc 2 w g off m L'.toArray os) e 2 (some ⟨g, off, none⟩) n c (L'.flatMap enc) (some g) := by
  have hn : L'.length = n := by
    have := h.1
    rw [flat_len h2] at this
    omega
  refine ⟨by rw [flat_len h2]; omega, h.2.1, h.2.2.1, ?_⟩
  rcases h.2.2.2 with ⟨h0, _⟩ | ⟨g', off', cur, h1, h3, h4, h5, h6⟩
  · cases h0
  · cases h1
    have hb : (sortWorldK enc 2 w g off m L'.toArray os).heap[g]? = some (.cells (putCells id off (flatK enc 2 L'.toArray) cur) e (0, 0)) := by
      have hlt := h4.lt
      have h4' : w.heap[g]? = some (.cells cur e (0, 0)) := h4
      unfold sortWorldK putRowK
      rw [heap_grow_old _ _ (by simpa using hlt)]
      simp [putRow, mapBlock, Sort.ahead, Array.getElem?_modify, h4', onCells]
    refine .inr ⟨g, off, _, rfl, rfl, hb, by simpa [putCells] using h5, fun j u hu => ?_⟩
    have hj : j < L'.length * 2 := by
      have := (List.getElem?_eq_some_iff.1 hu).1
      rwa [flat_len h2] at this
    have hc : off + j < cur.size := by
      have := h.2.1
      have : n * 2 ≤ c * 2 := Nat.mul_le_mul_right _ this
      omega
    have hv : (flatK enc 2 L'.toArray)[j]! = u := by rw [flat_flatK h2 L' hj, hu]; rfl
    have hsz : (flatK enc 2 L'.toArray).size = L'.length * 2 := by simp
    simp [putCells, hc, hj]
    rw [← hv]
    exact (getElem!_pos _ j (by rw [hsz]; exact hj)).symm
end

section
variable {V : Type}

/-- The order by keys. -/
def cfk (x y : Int × V) : Int := if x.1 < y.1 then -1 else if y.1 < x.1 then 1 else 0

theorem ltOf_cfk (x y : Int × V) : ltOf cfk x y = decide (x.1 < y.1) := by
  unfold ltOf cfk
  by_cases h1 : x.1 < y.1
  · simp [h1]
  · by_cases h2 : y.1 < x.1 <;> simp [h1, h2]

theorem swo_cfk : SWO (ltOf (cfk (V := V))) where
  irrefl x := by rw [ltOf_cfk]; simp
  trans x y z h1 h2 := by rw [ltOf_cfk] at *; simp at *; omega
  ntrans x y z h1 h2 := by rw [ltOf_cfk] at *; simp at *; omega

/-- What is sorted by its keys, each of which stands once, is by rising keys. -/
theorem srt_of_sort [Inhabited V] {s L : List (Int × V)} (hs : Apart s) (hL : Srt L) (hp : s.Perm L) {d' : Array (Int × V)} (h1 : PermIn 0 s.toArray.size s.toArray d') (h2 : SortedIn (ltOf cfk) 0 s.toArray.size d') : d'.toList = L := by
  obtain ⟨hz, _, h3⟩ := h1
  have e1 : d'.extract 0 s.toArray.size = d' := by rw [← hz]; simp
  have e2 : s.toArray.extract 0 s.toArray.size = s.toArray := by simp
  rw [e1, e2] at h3
  have hp2 : d'.toList.Perm s := h3
  have hap : Apart d'.toList := (hp2.pairwise_iff (fun {_ _} hne => Ne.symm hne)).2 hs
  refine Srt.eq_of_perm ?_ hL (hp2.trans hp)
  refine List.pairwise_iff_getElem.2 fun i j hi hj hij => ?_
  have hd := List.pairwise_iff_getElem.1 hap i j hi hj hij
  have hij' := h2 i j (Nat.zero_le _) hij (by rw [← hz]; simpa using hj)
  rw [ltOf_cfk] at hij'
  have hi' : i < d'.size := by simpa using hi
  have hj' : j < d'.size := by simpa using hj
  rw [getElem!_pos d' i hi', getElem!_pos d' j hj'] at hij'
  simp at hij' hd ⊢
  omega
end
end Go.Proofs.Ytopgnjnnijhpkaa
