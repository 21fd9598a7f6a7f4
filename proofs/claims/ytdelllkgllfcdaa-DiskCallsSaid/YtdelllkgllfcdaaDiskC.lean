/-
  slices.Grow and slices.Concat as package disk calls them: the bytes of all parts, one behind the other, in a slice of its own. Conditions: the parts can be read, they have a million bytes at most in all.
-/
import Derived.Test.YtdelllkgllfcdaaDiskA
import Derived.Lib.AppendZeros
namespace Go.Proofs.Ytdelllkgllfcdaa
open Go.RowKit

/-- An empty slice of bytes of the call's own. -/
def GPost (w : World) (e : Ending) (w' : World) : Prop :=
  ∃ A c G, e = .returned (.slice A 0 c) ∧ Seg w' 5 1 A 0 c [] G ∧ w.grownBy w' none ∧ Moved w none G

theorem run_zeros (m : Nat) (h0 : 0 < m) (hm : m ≤ 2000000) (w : World) (x : Int) (hx : x = m) : ∃ c w', (∀ ty, (Builtin.append_ #[22, 3] ty #[.slice none 0 0, .int .i64 x]).run Try.prog w = .ok (.slice (some ⟨w.heap.size, 0, none⟩) m c) w') ∧
    Seg w' 5 1 (some ⟨w.heap.size, 0, none⟩) 0 c [] (some w.heap.size) ∧ w.grownBy w' none := by
  obtain ⟨i0, Hi, Hz, Hz1, Hz2⟩ := info_hid
  subst hx
  have hge := grownCap_ge w m 0 5
  have hle := grownCap_le_maxLen w m 0 5 (by simp only [maxLen]; omega)
  refine ⟨grownCap w m 0 5, _, fun ty => Lib.run_append_nil_zeros (P := Try.prog) w 22 3 ty 5 i0 (.int .u8 0) .i64 .i64 Try.underlying22 Try.underlying3 Hi.out Hz.out m h0 (by rw [Hz1.out]; omega) (by omega) (by rw [Hz2.out]; omega), ⟨by simp, Nat.zero_le _, hle, .inr ⟨w.heap.size, 0, _, rfl, rfl, heap_alloc_new w.drew _, ?_, fun j u hu => by simp at hu⟩⟩, ⟨rfl, rfl, rfl, by simp, fun k hk _ => Below.heap_alloc w.drew _ k hk⟩⟩
  have hz1 : (Value.int IntKind.u8 0).cells.size = 1 := rfl
  simp only [Array.size_append, size_zeroCells, hz1]
  omega

set_option maxRecDepth 100000 in
set_option maxHeartbeats 1000000 in
theorem grow_c (m : Nat) (h0 : 0 < m) (hm : m ≤ 2000000) (w : World) :
    Calls Try.prog 36 #[.slice none 0 0, .int .i64 m] w (GPost w) := by
  obtain ⟨c1, w1, hrun, hs1, hg1⟩ := run_zeros m h0 hm w m rfl
  have hc1 := hs1.2.1
  have H := Lib.hid (show GPost w (.returned (.slice (some ⟨w.heap.size, 0, none⟩) 0 c1)) w1 from ⟨_, c1, _, rfl, hs1, hg1, .inr ⟨_, rfl, Nat.le_refl _⟩⟩)
  have q1 : ¬ (m : Int) < 0 := by omega
  have q2 : (0 : Int) < (m : Int) := by omega
  clear hs1 hg1
  go_enter Try.func36, Try.ntmps36
  go_wp2_with (at_builtin; refine Lib.wpList_append_run _ rfl _ _ _ _ rfl _ _ rfl rfl _ _ (hrun _) ?_)
  go_ret
  exact H.out

theorem flat_next {ls : List (List UInt8)} {k : Nat} {l : List UInt8} (h : ls[k]? = some l) : (ls.take (k + 1)).flatten = (ls.take k).flatten ++ l := by
  obtain ⟨h1, rfl⟩ := List.getElem?_eq_some_iff.1 h
  rw [List.take_succ_eq_append_getElem h1, List.flatten_append]
  simp
theorem flat_le (ls : List (List UInt8)) (k : Nat) : (ls.take k).flatten.length ≤ ls.flatten.length := by
  conv => rhs; rw [← List.take_append_drop k ls, List.flatten_append, List.length_append]
  omega

/-- Where the loop that joins parts stands. -/
structure KI (w : World) (xs : List UInt8) (A' : Option Addr) (n' c' : Nat) (wr : World) : Prop where
  ex : ∃ G', Seg wr 5 1 A' n' c' (bc xs) G' ∧ ∀ g, G' = some g → w.heap.size ≤ g
  bl : Below w.heap.size w wr
theorem KI.next {w : World} {xs ys zs : List UInt8} {A' : Option Addr} {n' c' : Nat} {wr w3 : World} (h : KI w xs A' n' c' wr) {G' G3 : Option Nat} (hG : ∀ g, G' = some g → w.heap.size ≤ g)
    {A3 : Option Addr} {m c3 : Nat} (hs : Seg w3 5 1 A3 m c3 (bc xs ++ bc ys) G3) (hg : wr.grownBy w3 G') (hm : Moved wr G' G3) (he : zs = xs ++ ys) : KI w zs A3 m c3 w3 := by
  subst he
  exact ⟨⟨G3, by rw [bc_append]; exact hs, hm.ge h.bl.size hG⟩, h.bl.trans (grown_below hg h.bl.size hG)⟩

set_option maxRecDepth 100000 in
set_option maxHeartbeats 2000000 in
theorem concat_f (A : Option Addr) (n c : Nat) (ls : List (List UInt8)) (w : World) (hl : LR w w.heap.size A n c ls) (m : Nat) (hm : ls.flatten.length = m) (h0 : 0 < m) (h1 : m ≤ 2000000) :
    Calls Try.prog 28 #[.slice A n c] w (SPostF w m ls.flatten) := by
  have hnm := hl.max
  have HM := Lib.hid hm
  have HL := Lib.hid hl.1
  clear hm
  obtain ⟨i0, Hi, Hz, Hz1, Hz2⟩ := info_hid
  have p4 : 0 < 1 := by omega
  go_enter Try.func28, Try.ntmps28
  go_wp2_with fail
  go_loop [3, 11] (fun x i => ∃ k q : Nat, k ≤ n ∧ i = .int .i64 k ∧ x = .int .i64 q ∧ Hid ((ls.take k).flatten.length = q)) (fun _ i => n - (intOf i).toNat)
  case atStart => exact ⟨0, 0, Nat.zero_le _, rfl, rfl, rfl⟩
  case round =>
    obtain ⟨k, q, hk, rfl, rfl, HQ⟩ := hrel
    by_cases hlt : k < n
    · obtain ⟨g, off, A1, n1, c1, l, rfl, Hl, cl, hb1⟩ := hl.at_ hlt
      have HN := Lib.hid (show (ls.take (k + 1)).flatten.length = q + n1 by rw [flat_next Hl.out, List.length_append, HQ.out, hb1.1])
      have hq : q + n1 ≤ m := by rw [← HN.out, ← HM.out]; exact flat_le ls (k + 1)
      have hq0 : ¬ (q : Int) + (n1 : Int) < 0 := by omega
      clear hb1
      go_wp2_with fail
      go_round
      case rel => exact ⟨k + 1, q + n1, by omega, by go_num, by go_num, HN.out⟩
      case measure => simp [intOf]; omega
    · obtain rfl : k = n := by omega
      obtain rfl : q = m := by rw [← HQ.out, ← HM.out, List.take_of_length_le (by rw [HL.out]; exact Nat.le_refl _)]
      clear HQ
      go_wp2_with fail
      refine (grow_c q h0 h1 w).mono ?_
      rintro e w1 ⟨A1, c1, G1, rfl, hs1, hg1, hm1⟩
      have HK : KI w [] A1 0 c1 w1 := ⟨⟨G1, hs1, hm1.ge (Nat.le_refl _) (fun g e => by cases e)⟩, grown_below hg1 (Nat.le_refl _) (fun g e => by cases e)⟩
      clear hs1 hg1 hm1
      go_wp2_with fail
      go_loopw [6, 27] (fun a i wr => ∃ (k' n' : Nat) (A' : Option Addr) (c' : Nat) (xs : List UInt8), k' ≤ k ∧ i = .int .i64 k' ∧ a = .slice A' n' c' ∧ KI w xs A' n' c' wr ∧ Hid ((ls.take k').flatten = xs)) (fun _ i _ => k - (intOf i).toNat)
      case atStart => exact ⟨0, 0, A1, c1, [], Nat.zero_le _, rfl, rfl, HK, rfl⟩
      case round =>
        clear HK
        obtain ⟨k', n', A', c', xs, hk', rfl, rfl, HK, HX⟩ := hrel
        obtain ⟨G', hs', hG'⟩ := HK.ex
        have hxl : xs.length = n' := by have := hs'.1; rw [bc_length] at this; omega
        have hxm : n' ≤ q := by rw [← hxl, ← HX.out, ← HM.out]; exact flat_le ls k'
        by_cases hlt' : k' < k
        · obtain ⟨g, off, A2, n2, c2, l, rfl, Hl, cl, hb2⟩ := (hl.below HK.bl (Nat.le_refl _)).at_ hlt'
          have HN := Lib.hid (show (ls.take (k' + 1)).flatten = xs ++ l by rw [flat_next Hl.out, HX.out])
          have hq2 : n' + n2 ≤ q := by have h5 := flat_le ls (k' + 1); rw [HN.out, List.length_append, HM.out, hxl, hb2.1] at h5; exact h5
          have hsrc := hb2.src
          have p1 : n' + n2 ≤ maxLen := by simp only [maxLen]; omega
          have p2 : (n' + n2) * 1 ≤ 140737488355328 := by omega
          have HNX := Lib.hid (fun A3 c3 G3 w3 => HK.next (ys := l) (zs := xs ++ l) (w3 := w3) (A3 := A3) (m := n' + n2) (c3 := c3) (G3 := G3) hG')
          clear HK hb2 hxl
          go_wp2_with (at_builtin; refine wpList_append_src _ rfl (.tmp 31) (.tmp 32) _ rfl 5 i0 _ 1 1 Try.underlying22 Hi.out Hz.out Hz1.out Hz2.out rfl p4 rfl hs' rfl hsrc (bc_one _) p1 p2 ?_; intro A3 c3 G3 w3 hs3 hg3 hm3; have HK := Lib.hid (HNX.out _ _ _ _ hs3 hg3 hm3 rfl); clear hs3 hg3 hm3)
          go_roundw
          case rel => exact ⟨k' + 1, n' + n2, A3, c3, xs ++ l, by omega, by go_num, rfl, HK.out, HN.out⟩
          case measure => simp [intOf]; omega
        · obtain rfl : k' = k := by omega
          have hxe : ls.flatten = xs := by rw [← HX.out, List.take_of_length_le (by rw [HL.out]; exact Nat.le_refl _)]
          obtain rfl : n' = q := by rw [← hxl, ← hxe, HM.out]
          have H := Lib.hid (show SPostF w n' ls.flatten (.returned (.slice A' n' c')) wr from ⟨A', c', rfl, by rw [hxe]; exact BR.of_seg hs', HK.bl, Fresh.of_seg hs' hG'⟩)
          clear HK hs' hxl hxe HX
          go_wp2_with fail
          go_ret
          exact H.out
end Go.Proofs.Ytdelllkgllfcdaa
