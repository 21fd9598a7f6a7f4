/-
  Plain facts on a row of elements of z cells in memory that the library's sort has turned: the same slice reads as the sorted list; nothing else has changed. No condition on the program.
-/
import Derived.Test.YtmghckddofefkaaMem
import Derived.Test.YtmghckddofefkaaCellM
import Derived.Shelf.SlSortCmp.WholeK
namespace Go.Proofs.Ytmghckddofefkaa
open Go.RowKit Go.Sort Go.Shelf Go.Lib Go.Proofs

section
variable {α : Type} [Inhabited α] {enc : α → List Value}

theorem flat_get {z : Nat} (hz : 0 < z) (h2 : ∀ x, (enc x).length = z) : ∀ (L : List α) (t : Nat), t < L.length * z → (L.flatMap enc)[t]? = some ((enc L[t / z]!)[t % z]!)
  | [], t, h => by simp at h
  | x :: r, t, h => by
    rw [List.flatMap_cons]
    by_cases ht : t < z
    · rw [List.getElem?_append_left (by rw [h2]; exact ht), Nat.div_eq_of_lt ht, Nat.mod_eq_of_lt ht]
      have hl : t < (enc x).length := by rw [h2]; exact ht
      simp [hl]
    · have hge : z ≤ t := Nat.le_of_not_lt ht
      have hr : t - z < r.length * z := by
        simp only [List.length_cons, Nat.add_mul, Nat.one_mul] at h
        omega
      have ih := flat_get hz h2 r (t - z) hr
      have e1 : t / z = (t - z) / z + 1 := by rw [Nat.div_eq_sub_div hz hge]
      have e2 : t % z = (t - z) % z := Nat.mod_eq_sub_mod hge
      rw [List.getElem?_append_right (by rw [h2]; exact hge), h2, ih, e1, e2]
      simp

omit [Inhabited α] in
theorem flat_len {z : Nat} (h2 : ∀ x, (enc x).length = z) (L : List α) : (L.flatMap enc).length = L.length * z := by
  induction L with
  | nil => simp
  | cons x r ih => rw [List.flatMap_cons, List.length_append, ih, h2, List.length_cons, Nat.add_mul, Nat.one_mul, Nat.add_comm]

theorem flat_flatK {z : Nat} (hz : 0 < z) (h2 : ∀ x, (enc x).length = z) (L : List α) {t : Nat} (ht : t < L.length * z) : (flatK enc z L.toArray)[t]! = ((L.flatMap enc)[t]?).getD default := by
  rw [get_flatK _ _ _ _ (by simpa using ht), flat_get hz h2 L t ht]
  simp

variable {w : World} {e : TypeId} {n c g off : Nat} {L L' : List α}

theorem holdsK_of_seg {z : Nat} (hz : 0 < z) (h2 : ∀ x, (enc x).length = z) (h : Seg w e z (some ⟨g, off, none⟩) n c (L.flatMap enc) (some g)) : HoldsK enc z w g off L.toArray := by
  intro j hj
  have hj' : j < L.length * z := by simpa using hj
  rcases h.2.2.2 with ⟨h0, _⟩ | ⟨g', off', cur, h1, h3, h4, _, h5⟩
  · cases h0
  · cases h1
    have hg := flat_get hz h2 L j hj'
    refine ⟨?_, h4.frozen _⟩
    rw [h4.cell, h5 j _ hg]
    simp only [id]
    rw [flat_flatK hz h2 L hj', hg]
    rfl

theorem grown_sortK (z : Nat) (d : Array α) (m : Nat) (os : Array Obj) : w.grownBy (sortWorldK enc z w g off m d os) (some g) := by
  refine ⟨rfl, rfl, rfl, size_sortWorldK_c enc z w g off m d os, fun k hk hne => ?_⟩
  unfold sortWorldK putRowK
  rw [heap_grow_old _ _ (by simpa using hk)]
  have : g ≠ k := fun e => hne (by rw [e])
  simp [putRow, mapBlock, Sort.ahead, Array.getElem?_modify, this]

theorem seg_sortK {z : Nat} (hz : 0 < z) (h2 : ∀ x, (enc x).length = z) (h : Seg w e z (some ⟨g, off, none⟩) n c (L.flatMap enc) (some g)) (hl : L'.length = L.length) (m : Nat) (os : Array Obj) :
    Seg (sortWorldK enc z w g off m L'.toArray os) e z (some ⟨g, off, none⟩) n c (L'.flatMap enc) (some g) := by
  have hn : L'.length = n := by
    have := h.1
    rw [flat_len h2] at this
    exact hl.trans (Nat.eq_of_mul_eq_mul_right hz this)
  refine ⟨by rw [flat_len h2, hn], h.2.1, h.2.2.1, ?_⟩
  rcases h.2.2.2 with ⟨h0, _⟩ | ⟨g', off', cur, h1, h3, h4, h5, h6⟩
  · cases h0
  · cases h1
    have hb : (sortWorldK enc z w g off m L'.toArray os).heap[g]? = some (.cells (putCells id off (flatK enc z L'.toArray) cur) e (0, 0)) := by
      have hlt := h4.lt
      have h4' : w.heap[g]? = some (.cells cur e (0, 0)) := h4
      unfold sortWorldK putRowK
      rw [heap_grow_old _ _ (by simpa using hlt)]
      simp [putRow, mapBlock, Sort.ahead, Array.getElem?_modify, h4', onCells]
    refine .inr ⟨g, off, _, rfl, rfl, hb, by simpa [putCells] using h5, fun j u hu => ?_⟩
    have hj : j < L'.length * z := by
      have := (List.getElem?_eq_some_iff.1 hu).1
      rwa [flat_len h2] at this
    have hc : off + j < cur.size := by
      have := h.2.1
      have : n * z ≤ c * z := Nat.mul_le_mul_right _ this
      rw [hn] at hj
      omega
    have hv : (flatK enc z L'.toArray)[j]! = u := by rw [flat_flatK hz h2 L' hj, hu]; rfl
    have hsz : (flatK enc z L'.toArray).size = L'.length * z := by simp
    simp [putCells, hc, hj]
    rw [← hv]
    exact (getElem!_pos _ j (by rw [hsz]; exact hj)).symm
end

section
variable {V : Type}

/-- The order by keys. -/
def cfk (x y : Int × V) : Int := if x.1 < y.1 then -1 else if y.1 < x.1 then 1 else 0

theorem ltOf_cfk (x y : Int × V) : ltOf cfk x y = decide (x.1 < y.1) := by
  unfold ltOf cfk
  by_cases h1 : x.1 < y.1
  · simp [h1]
  · by_cases h2 : y.1 < x.1 <;> simp [h1, h2]

theorem swo_cfk : SWO (ltOf (cfk (V := V))) where
  irrefl x := by rw [ltOf_cfk]; simp
  trans x y z h1 h2 := by rw [ltOf_cfk] at *; simp at *; omega
  ntrans x y z h1 h2 := by rw [ltOf_cfk] at *; simp at *; omega

/-- What is sorted by its keys, each of which stands once, is by rising keys. -/
theorem srt_of_sort [Inhabited V] {s L : List (Int × V)} (hs : Apart s) (hL : Srt L) (hp : s.Perm L) {d' : Array (Int × V)} (h1 : PermIn 0 s.toArray.size s.toArray d') (h2 : SortedIn (ltOf cfk) 0 s.toArray.size d') : d'.toList = L := by
  obtain ⟨hz, _, h3⟩ := h1
  have e1 : d'.extract 0 s.toArray.size = d' := by rw [← hz]; simp
  have e2 : s.toArray.extract 0 s.toArray.size = s.toArray := by simp
  rw [e1, e2] at h3
  have hp2 : d'.toList.Perm s := h3
  have hap : Apart d'.toList := (hp2.pairwise_iff (fun {_ _} hne => Ne.symm hne)).2 hs
  refine Srt.eq_of_perm ?_ hL (hp2.trans hp)
  refine List.pairwise_iff_getElem.2 fun i j hi hj hij => ?_
  have hd := List.pairwise_iff_getElem.1 hap i j hi hj hij
  have hij' := h2 i j (Nat.zero_le _) hij (by rw [← hz]; simpa using hj)
  rw [ltOf_cfk] at hij'
  have hi' : i < d'.size := by simpa using hi
  have hj' : j < d'.size := by simpa using hj
  rw [getElem!_pos d' i hi', getElem!_pos d' j hj'] at hij'
  simp at hij' hd ⊢
  omega
end
end Go.Proofs.Ytmghckddofefkaa
