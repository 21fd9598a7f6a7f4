/-
  The document's answer for cells: find, Get, Drop and Set. Conditions: the lists read as the predicate RS says, and are not longer than ten thousand.
-/
import Derived.Test.YtopgnjnnijhpkaaCellU
namespace Go.Proofs.Ytopgnjnnijhpkaa
open Go.RowKit Go.Maps UI

theorem Srt.ext_mem {V : Type} {L M : List (Int × V)} (h : Srt L) (h' : Srt M) (hg : ∀ p, p ∈ L ↔ p ∈ M) : L = M := by
  refine h.eq_of_perm h' ?_
  have n1 : L.Nodup := h.imp (fun {p q} hlt => fun e => by rw [e] at hlt; omega)
  have n2 : M.Nodup := h'.imp (fun {p q} hlt => fun e => by rw [e] at hlt; omega)
  exact (List.perm_ext_iff_of_nodup n1 n2).2 hg

/-- What comes behind all others. -/
theorem put_last {M : List (Int × Int)} (h : Srt M) {k v : Int} (hk : ∀ p ∈ M, p.1 < k) : putL M k v = M ++ [(k, v)] := by
  refine Srt.ext_mem (h.put k v) ?_ fun p => ?_
  · refine List.pairwise_append.2 ⟨h, by simp, fun p hp q hq => ?_⟩
    simp at hq
    subst hq
    exact hk p hp
  · rw [mem_putL, List.mem_append, List.mem_singleton]
    constructor
    · rintro (h | ⟨h, _⟩)
      · exact .inr h
      · exact .inl h
    · rintro (h | h)
      · exact .inr ⟨h, by have := hk p h; omega⟩
      · exact .inl h
theorem put_two {M : List (Int × Int)} {k v x y : Int} (h : Srt (M ++ [(x, y)])) (hk : ∀ p ∈ M, p.1 < k) (hx : k < x) : putL (M ++ [(x, y)]) k v = M ++ [(k, v)] ++ [(x, y)] := by
  obtain ⟨h1, _, h3⟩ := List.pairwise_append.1 h
  refine Srt.ext_mem (h.put k v) ?_ fun p => ?_
  · refine List.pairwise_append.2 ⟨List.pairwise_append.2 ⟨h1, by simp, fun p hp q hq => ?_⟩, by simp, fun p hp q hq => ?_⟩
    · simp at hq
      subst hq
      exact hk p hp
    · simp at hq
      subst hq
      rcases List.mem_append.1 hp with hp | hp
      · exact h3 p hp _ (by simp)
      · simp at hp
        subst hp
        exact hx
  · rw [mem_putL]
    simp only [List.mem_append, List.mem_singleton]
    constructor
    · rintro (h | ⟨h | h, _⟩)
      · exact .inl (.inr h)
      · exact .inl (.inl h)
      · exact .inr h
    · rintro ((h | h) | h)
      · exact .inr ⟨.inl h, by have := hk p h; omega⟩
      · exact .inl h
      · exact .inr ⟨.inr h, by subst h; simp; omega⟩
theorem put_same {M : List (Int × Int)} {k v y : Int} (h : Srt (M ++ [(k, y)])) : putL (M ++ [(k, y)]) k v = M ++ [(k, v)] := by
  obtain ⟨h1, _, h3⟩ := List.pairwise_append.1 h
  refine Srt.ext_mem (h.put k v) ?_ fun p => ?_
  · refine List.pairwise_append.2 ⟨h1, by simp, fun p hp q hq => ?_⟩
    simp at hq
    subst hq
    exact h3 p hp (k, y) (by simp)
  · rw [mem_putL]
    simp only [List.mem_append, List.mem_singleton]
    constructor
    · rintro (h | ⟨h | h, hn⟩)
      · exact .inr h
      · exact .inl h
      · subst h; exact absurd rfl hn
    · rintro (h | h)
      · exact .inr ⟨.inl h, by have := h3 p h (k, y) (by simp); simp at this; omega⟩
      · exact .inl h
theorem put_behind {M : List (Int × Int)} {k v x y : Int} (h : Srt (M ++ [(x, y)])) (hx : k < x) : putL (M ++ [(x, y)]) k v = putL M k v ++ [(x, y)] := by
  obtain ⟨h1, _, h3⟩ := List.pairwise_append.1 h
  refine Srt.ext_mem (h.put k v) ?_ fun p => ?_
  · refine List.pairwise_append.2 ⟨Srt.put h1 k v, by simp, fun p hp q hq => ?_⟩
    simp at hq
    subst hq
    rcases mem_putL.1 hp with rfl | ⟨hp, _⟩
    · exact hx
    · exact h3 p hp _ (by simp)
  · rw [List.mem_append, mem_putL, mem_putL]
    simp only [List.mem_append, List.mem_singleton]
    constructor
    · rintro (h | ⟨h | h, hn⟩)
      · exact .inl (.inl h)
      · exact .inl (.inr ⟨h, hn⟩)
      · exact .inr h
    · rintro ((h | ⟨h, hn⟩) | h)
      · exact .inl h
      · exact .inr ⟨.inl h, hn⟩
      · exact .inr ⟨.inr h, by subst h; simp; omega⟩

theorem take_kth {L : List (Int × Int)} {j : Nat} (hj : j < L.length) : L.take (j + 1) = L.take j ++ [kth L j] := by
  rw [List.take_succ_eq_append_getElem hj]
  unfold kth
  rw [List.getElem?_eq_getElem hj]
  rfl
theorem kth_mem {L : List (Int × Int)} {j : Nat} (hj : j < L.length) : kth L j ∈ L := by
  unfold kth
  rw [List.getElem?_eq_getElem hj]
  exact List.getElem_mem hj
theorem Srt.take {L : List (Int × Int)} (h : Srt L) (j : Nat) : Srt (L.take j) := h.sublist (List.take_sublist _ _)
theorem mem_kth {L : List (Int × Int)} {p : Int × Int} (hp : p ∈ L) : ∃ j, j < L.length ∧ kth L j = p := by
  obtain ⟨j, hj, e⟩ := List.getElem_of_mem hp
  exact ⟨j, hj, by unfold kth; rw [List.getElem?_eq_getElem hj]; exact e⟩

/-- find answers the place of the key. -/
def FPost (L : List (Int × Int)) (k v : Int) (w : World) (e : Ending) (w' : World) : Prop := ∃ i : Nat, i < L.length ∧ kth L i = (k, v) ∧ e = .returned (.int .i64 i) ∧ w = w'

set_option maxHeartbeats 400000 in
theorem find_no (a : Option Addr) (cap : Nat) (L : List (Int × Int)) (k : Int) (w : World) (h : RS w a L.length cap L) (hm : L.length ≤ 10000) (hg : getL L k = none) :
    Calls Try.prog 34 #[.slice a L.length cap, .int .u8 k] w fun e w' => e = .returned (.int .i64 (-1)) ∧ w = w' := by
  have Hg := Lib.hid hg
  clear hg
  go_enter Try.func34, Try.ntmps34
  go_wp2
  go_loop [5] (fun i => ∃ j : Nat, j ≤ L.length ∧ i = .int .i64 j) (fun i => L.length - (intOf i).toNat)
  case atStart => exact ⟨0, by omega, rfl⟩
  case round =>
    obtain ⟨j, hj, rfl⟩ := hrel
    by_cases hlt : j < L.length
    · obtain ⟨g, off, rfl, d1, d2⟩ := h.at_ hlt
      have hne : (((kth L j).1 : Int) == k) = false := by
        have := getL_none.1 Hg.out _ (kth_mem hlt)
        simpa using this
      generalize kth L j = x at *
      obtain ⟨xk, xv⟩ := x
      simp only at d1 d2 hne
      go_wp2
      go_round
      case rel => exact ⟨j + 1, by omega, by go_num⟩
      case measure => simp [intOf]; omega
    · obtain rfl : j = L.length := by omega
      go_wp2
      go_ret
      exact ⟨rfl, rfl⟩

set_option maxHeartbeats 400000 in
theorem find_yes (a : Option Addr) (cap : Nat) (L : List (Int × Int)) (k v : Int) (w : World) (h : RS w a L.length cap L) (hm : L.length ≤ 10000) (hs : Srt L) (hg : getL L k = some v) :
    Calls Try.prog 34 #[.slice a L.length cap, .int .u8 k] w (FPost L k v w) := by
  have Hg := Lib.hid (hs.get_iff.1 hg)
  clear hg
  go_enter Try.func34, Try.ntmps34
  go_wp2
  go_loop [5] (fun i => ∃ j : Nat, j ≤ L.length ∧ i = .int .i64 j ∧ ∀ m, m < j → (kth L m).1 ≠ k) (fun i => L.length - (intOf i).toNat)
  case atStart => exact ⟨0, by omega, rfl, fun m hm => by omega⟩
  case round =>
    obtain ⟨j, hj, rfl, hno⟩ := hrel
    by_cases hlt : j < L.length
    · obtain ⟨g, off, rfl, d1, d2⟩ := h.at_ hlt
      have Hno := Lib.hid hno
      clear hno
      by_cases he : (kth L j).1 = k
      · have hx : kth L j = (k, v) := hs.one (kth_mem hlt) Hg.out he
        have Hx := Lib.hid hx
        rw [he] at d1
        clear hx he
        go_wp2
        go_ret
        exact ⟨j, hlt, Hx.out, rfl, rfl⟩
      · have hne : (((kth L j).1 : Int) == k) = false := by simpa using he
        have Hnx : Hid (∀ m, m < j + 1 → (kth L m).1 ≠ k) := Lib.hid (fun m hm => by
          by_cases e : m = j
          · rw [e]; exact he
          · exact Hno.out m (by omega))
        clear he
        generalize (kth L j).1 = xk at *
        generalize (kth L j).2 = xv at *
        go_wp2
        go_round
        case rel => exact ⟨j + 1, by omega, by go_num, Hnx.out⟩
        case measure => simp [intOf]; omega
    · exfalso
      obtain ⟨m, h1, h2⟩ := mem_kth Hg.out
      exact hno m (by omega) (by rw [h2])

/-- The document's cells, as one value. -/
abbrev rc (a : Option Addr) (n cap : Nat) (a2 : Option Addr) (n2 cap2 : Nat) (room : Int) : Value := .agg #[.slice a n cap, .slice a2 n2 cap2, .int .i64 room]

set_option maxHeartbeats 400000 in
theorem refGet_c (a a2 : Option Addr) (cap n2 cap2 : Nat) (room : Int) (L : List (Int × Int)) (k : Int) (w : World) (h : RS w a L.length cap L) (hm : L.length ≤ 10000) (hs : Srt L) :
    Calls Try.prog 12 #[.agg #[.slice a L.length cap, .slice a2 n2 cap2, .int .i64 room], .int .u8 k] w fun e w' => e = .returned (.tuple #[.int .i64 ((getL L k).getD 0), .int .i64 (gE L k)]) ∧ Below w.heap.size w w' := by
  have h1 : RS (w.alloc (.cells #[.slice a L.length cap, .slice a2 n2 cap2, .int .i64 room] 28)) a L.length cap L := h.keep ((Below.refl _ _).alloc (Nat.le_refl _) _)
  have hB : Below w.heap.size w (w.alloc (.cells #[.slice a L.length cap, .slice a2 n2 cap2, .int .i64 room] 28)) := (Below.refl _ _).alloc (Nat.le_refl _) _
  have HB := Lib.hid hB
  clear hB h
  cases hg : getL L k with
  | none =>
    have hgE : gE L k = 7 := by simp [gE, hg]
    rw [hgE]
    have hf := find_no a cap L k _ h1 hm hg
    clear hg hgE h1
    go_enter Try.func12, Try.ntmps12
    go_wp2_with (go_at_call 34; refine hf.mono ?_; rintro e w' ⟨rfl, rfl⟩)
    go_ret2
    exact ⟨rfl, HB.out⟩
  | some v =>
    have hgE : gE L k = 0 := by simp [gE, hg]
    rw [hgE]
    have hf := find_yes a cap L k v _ h1 hm hs hg
    have H1 := Lib.hid h1
    clear hg hgE h1
    go_enter Try.func12, Try.ntmps12
    go_wp2_with fail
    refine hf.mono ?_
    rintro e w' ⟨i, hi, hx, rfl, rfl⟩
    obtain ⟨g, off, rfl, d1, d2⟩ := H1.out.at_ hi
    rw [hx] at d1 d2
    simp only at d1 d2
    have hi0 : ¬ (i : Int) < 0 := by omega
    clear hx hf
    go_wp2
    go_ret2
    exact ⟨rfl, HB.out⟩
end Go.Proofs.Ytopgnjnnijhpkaa
