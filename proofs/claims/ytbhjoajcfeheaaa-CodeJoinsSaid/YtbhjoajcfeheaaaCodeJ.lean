/-
  The small functions of layer 2's laws: Theirs, Ours, few, Same, and the signs. Conditions: the values can be read.
-/
import Derived.Test.YtbhjoajcfeheaaaCodeI
namespace Go.Proofs.Ytbhjoajcfeheaaa
open Go.RowKit

/-- A call gave values back, in a slice of its own. -/
def LPost (w : World) (t : TypeId) (l : List CV) (e : Ending) (w' : World) : Prop :=
  ∃ A c G, e = .returned (.slice A l.length c) ∧ Seg w' t 2 A l.length c (vc l) G ∧ (∀ g, G = some g → w.heap.size ≤ g) ∧ Below w.heap.size w w'
theorem take_snoc_cv {l : List CV} {k : Nat} {v : CV} (hv : l[k]? = some v) : l.take (k + 1) = l.take k ++ [v] := by
  obtain ⟨h1, rfl⟩ := List.getElem?_eq_some_iff.1 hv
  exact List.take_succ_eq_append_getElem h1
theorem VR.okV {w : World} {A : Option Addr} {l : List CV} (h : VR w A l) : okV l := by
  intro v hv
  obtain ⟨i, hi⟩ := List.getElem?_of_mem hv
  obtain ⟨h1, h2, _⟩ := h i v hi
  exact ⟨h1, h2⟩

set_option maxHeartbeats 400000 in
theorem theirs_c (A : Option Addr) (cap : Nat) (l : List CV) (w : World) (hl : VR w A l) (hn : l.length ≤ 1000) :
    Calls Try.prog 13 #[.slice A l.length cap] w (LPost w 48 l) := by
  obtain ⟨i0, hi0, hz0, hz1, hz2⟩ := info_parts Try.infoV
  have Hi := Lib.hid hi0
  have Hz := Lib.hid hz0
  have Hz1 := Lib.hid hz1
  have Hz2 := Lib.hid hz2
  clear hi0 hz0 hz1 hz2
  go_enter Try.func13, Try.ntmps13
  go_wp2
  go_loopw [3, 8] (fun b i wr => ∃ (k : Nat) (A' : Option Addr) (n' c' : Nat) (G' : Option Nat), k ≤ l.length ∧ i = .int .i64 k ∧ b = .slice A' n' c' ∧ n' ≤ k ∧ Seg wr 48 2 A' n' c' (vc (l.take k)) G' ∧ (∀ g, G' = some g → w.heap.size ≤ g) ∧ Below w.heap.size w wr) (fun _ i _ => l.length - (intOf i).toNat)
  case atStart => exact ⟨0, none, 0, 0, none, by omega, rfl, rfl, by omega, by simpa [vc] using Seg.nil w _ _, (fun g e => by cases e), Below.refl _ _⟩
  case round =>
    obtain ⟨k, A', n', c', G', hk, rfl, rfl, hn', hs', hG', hbw⟩ := hrel
    by_cases hlt : k < l.length
    · obtain ⟨v, g, off, Hv, hv1, hv2, rfl, c0, c1⟩ := (hl.below hbw (Nat.le_refl _)).at_ hlt
      have p1 : n' + 1 ≤ maxLen := by simp only [maxLen]; omega
      have p2 : (n' + 1) * 24 ≤ 140737488355328 := by omega
      have p4 : 0 < 2 := by omega
      have hs3 := (hs'.alloc (.cells #[.int .u64 v.n, .string v.s] 50)).alloc (.cells #[.int .u64 v.n, .string v.s] 48)
      have hsrc := src2 (wr.alloc (.cells #[.int .u64 v.n, .string v.s] 50)) 48 v
      rw [show (wr.alloc (.cells #[.int .u64 v.n, .string v.s] 50)).heap.size = wr.heap.size + 1 by simp] at hsrc
      have hb3 := (hbw.alloc hbw.size (.cells #[.int .u64 v.n, .string v.s] 50)).alloc (by simp; have := hbw.size; omega) (.cells #[.int .u64 v.n, .string v.s] 48)
      have Ht := Lib.hid (take_snoc_cv Hv.out)
      clear hs' hbw Hv
      go_wp2_with (at_builtin; refine wpList_append_src _ rfl (.tmp 12) (.tmp 14) _ rfl 48 i0 _ 2 24 Try.underlying29 Hi.out Hz.out Hz1.out Hz2.out rfl p4 rfl hs3 rfl hsrc (vc_one _) p1 p2 ?_)
      intro A6 c6 G6 w6 hs6 hg6 hm6
      rw [← vc_append, ← Ht.out] at hs6
      have hb6 : Below w.heap.size w w6 := hb3.trans (grown_below hg6 hb3.size hG')
      have hG6 := Moved.ge hm6 hb3.size hG'
      clear hs3 hb3 hg6 hm6 hG' hsrc p1 p2 c0 c1
      go_wp2_with fail
      go_roundw
      case rel => exact ⟨k + 1, A6, n' + 1, c6, G6, by omega, by go_num, rfl, by omega, hs6, hG6, hb6⟩
      case measure => simp [intOf]; omega
    · obtain rfl : k = l.length := by omega
      rw [List.take_length] at hs'
      have H := Lib.hid (show LPost w 48 l (.returned (.slice A' n' c')) wr by
        have h1 := hs'.1
        rw [vc_length] at h1
        obtain rfl : n' = l.length := by omega
        exact ⟨A', c', G', rfl, hs', hG', hbw⟩)
      clear hs' hG' hbw
      go_wp2_with fail
      go_ret
      exact H.out

set_option maxHeartbeats 400000 in
theorem ours_c (A : Option Addr) (cap : Nat) (l : List CV) (w : World) (hl : VR w A l) (hn : l.length ≤ 1000) :
    Calls Try.prog 18 #[.slice A l.length cap] w (LPost w 50 l) := by
  obtain ⟨i0, hi0, hz0, hz1, hz2⟩ := info_parts Try.infoW
  have Hi := Lib.hid hi0
  have Hz := Lib.hid hz0
  have Hz1 := Lib.hid hz1
  have Hz2 := Lib.hid hz2
  clear hi0 hz0 hz1 hz2
  go_enter Try.func18, Try.ntmps18
  go_wp2
  go_loopw [3, 8] (fun b i wr => ∃ (k : Nat) (A' : Option Addr) (n' c' : Nat) (G' : Option Nat), k ≤ l.length ∧ i = .int .i64 k ∧ b = .slice A' n' c' ∧ n' ≤ k ∧ Seg wr 50 2 A' n' c' (vc (l.take k)) G' ∧ (∀ g, G' = some g → w.heap.size ≤ g) ∧ Below w.heap.size w wr) (fun _ i _ => l.length - (intOf i).toNat)
  case atStart => exact ⟨0, none, 0, 0, none, by omega, rfl, rfl, by omega, by simpa [vc] using Seg.nil w _ _, (fun g e => by cases e), Below.refl _ _⟩
  case round =>
    obtain ⟨k, A', n', c', G', hk, rfl, rfl, hn', hs', hG', hbw⟩ := hrel
    by_cases hlt : k < l.length
    · obtain ⟨v, g, off, Hv, hv1, hv2, rfl, c0, c1⟩ := (hl.below hbw (Nat.le_refl _)).at_ hlt
      have p1 : n' + 1 ≤ maxLen := by simp only [maxLen]; omega
      have p2 : (n' + 1) * 24 ≤ 140737488355328 := by omega
      have p4 : 0 < 2 := by omega
      have hs3 := (hs'.alloc (.cells #[.int .u64 v.n, .string v.s] 48)).alloc (.cells #[.int .u64 v.n, .string v.s] 50)
      have hsrc := src2 (wr.alloc (.cells #[.int .u64 v.n, .string v.s] 48)) 50 v
      rw [show (wr.alloc (.cells #[.int .u64 v.n, .string v.s] 48)).heap.size = wr.heap.size + 1 by simp] at hsrc
      have hb3 := (hbw.alloc hbw.size (.cells #[.int .u64 v.n, .string v.s] 48)).alloc (by simp; have := hbw.size; omega) (.cells #[.int .u64 v.n, .string v.s] 50)
      have Ht := Lib.hid (take_snoc_cv Hv.out)
      clear hs' hbw Hv
      go_wp2_with (at_builtin; refine wpList_append_src _ rfl (.tmp 12) (.tmp 14) _ rfl 50 i0 _ 2 24 Try.underlying22 Hi.out Hz.out Hz1.out Hz2.out rfl p4 rfl hs3 rfl hsrc (vc_one _) p1 p2 ?_)
      intro A6 c6 G6 w6 hs6 hg6 hm6
      rw [← vc_append, ← Ht.out] at hs6
      have hb6 : Below w.heap.size w w6 := hb3.trans (grown_below hg6 hb3.size hG')
      have hG6 := Moved.ge hm6 hb3.size hG'
      clear hs3 hb3 hg6 hm6 hG' hsrc p1 p2 c0 c1
      go_wp2_with fail
      go_roundw
      case rel => exact ⟨k + 1, A6, n' + 1, c6, G6, by omega, by go_num, rfl, by omega, hs6, hG6, hb6⟩
      case measure => simp [intOf]; omega
    · obtain rfl : k = l.length := by omega
      rw [List.take_length] at hs'
      have H := Lib.hid (show LPost w 50 l (.returned (.slice A' n' c')) wr by
        have h1 := hs'.1
        rw [vc_length] at h1
        obtain rfl : n' = l.length := by omega
        exact ⟨A', c', G', rfl, hs', hG', hbw⟩)
      clear hs' hG' hbw
      go_wp2_with fail
      go_ret
      exact H.out

/-- few said something: if yes, there are at most 110 values. -/
def FPost (w : World) (n : Nat) (e : Ending) (w' : World) : Prop := ∃ b : Bool, e = .returned (.bool b) ∧ (b = true → n ≤ 110) ∧ Below w.heap.size w w'

set_option maxHeartbeats 400000 in
theorem few_c (A : Option Addr) (cap : Nat) (l : List CV) (w : World) (hl : VR w A l) (hm : l.length ≤ maxLen) :
    Calls Try.prog 11 #[.slice A l.length cap] w (FPost w l.length) := by
  unfold maxLen at hm
  go_enter Try.func11, Try.ntmps11
  go_wp2
  go_loopw [3, 8] (fun z i wr => ∃ (k : Nat) (q : Int), k ≤ l.length ∧ i = .int .i64 k ∧ z = .int .i64 q ∧ Below w.heap.size w wr) (fun _ i _ => l.length - (intOf i).toNat)
  case atStart => exact ⟨0, 0, by omega, rfl, rfl, Below.refl _ _⟩
  case round =>
    obtain ⟨k, q, hk, rfl, rfl, hbw⟩ := hrel
    by_cases hlt : k < l.length
    · obtain ⟨v, g, off, Hv, hv1, hv2, rfl, c0, c1⟩ := (hl.below hbw (Nat.le_refl _)).at_ hlt
      have hb3 := hbw.alloc hbw.size (.cells #[.int .u64 v.n, .string v.s] 50)
      clear Hv hbw
      go_wp2_with fail
      go_roundw
      case rel => exact ⟨k + 1, _, by omega, by go_num, rfl, hb3⟩
      case measure => simp [intOf]; omega
    · by_cases hle : (l.length : Int) ≤ 110
      · have H := fun b : Bool => (show FPost w l.length (.returned (.bool b)) wr from ⟨b, rfl, fun _ => by omega, hbw⟩)
        have HH := Lib.hid H
        clear H hbw
        go_wp2_with fail
        go_ret
        exact HH.out _
      · have H := Lib.hid (show FPost w l.length (.returned (.bool false)) wr from ⟨false, rfl, (fun e => by cases e), hbw⟩)
        clear hbw
        go_wp2_with fail
        go_ret
        exact H.out

set_option maxHeartbeats 400000 in
theorem same_yes (A B : Option Addr) (c d : Nat) (l : List CV) (w : World) (h1 : VR w A l) (h2 : VR w B l) (hm : l.length ≤ 1000) :
    Calls Try.prog 17 #[.slice A l.length c, .slice B l.length d] w fun e w' => e = .returned (.bool true) ∧ Below w.heap.size w w' := by
  have hne : ((l.length : Int) != (l.length : Int)) = false := bne_self_eq_false _
  go_enter Try.func17, Try.ntmps17
  go_wp2
  go_loopw [5] (fun i wr => ∃ (k : Nat), k ≤ l.length ∧ i = .int .i64 k ∧ Below w.heap.size w wr) (fun i _ => l.length - (intOf i).toNat)
  case atStart => exact ⟨0, by omega, rfl, Below.refl _ _⟩
  case round =>
    obtain ⟨k, hk, rfl, hbw⟩ := hrel
    by_cases hlt : k < l.length
    · obtain ⟨v, g, off, Hv, hv1, hv2, rfl, c0, c1⟩ := (h1.below hbw (Nat.le_refl _)).at_ hlt
      obtain ⟨v', g', off', Hv', hv1', hv2', rfl, d0, d1⟩ := (h2.below hbw (Nat.le_refl _)).at_ hlt
      obtain rfl : v = v' := by have := Hv.out.symm.trans Hv'.out; simpa using this
      clear Hv Hv'
      have hlt' : (k : Int) < (l.length : Int) := by omega
      go_wp2_with fail
      go_quiet (fail)
      go_wp2_with fail
      go_roundw
      case rel => exact ⟨k + 1, by omega, by go_num, belowN hbw _⟩
      case measure => simp [intOf]; omega
    · go_wp2_with fail
      go_ret
      exact ⟨rfl, hbw⟩
end Go.Proofs.Ytbhjoajcfeheaaa
