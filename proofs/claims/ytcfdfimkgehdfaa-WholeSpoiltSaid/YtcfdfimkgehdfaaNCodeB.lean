/-
  Bytes in memory: a slice of bytes of a call's own that grows by bytes and by strings; appendNumber of package code, number of the document's answer. Conditions: the slice is one of the call's own (Seg), numbers are of 64 bits and of 8 bytes at most.
-/
import Derived.Test.YtcfdfimkgehdfaaNCodeA
import Derived.Test.YtcfdfimkgehdfaaNMemC
import Derived.Lib.AppendStr
namespace Go.Proofs.Ytcfdfimkgehdfaa.Dk
set_option maxRecDepth 100000
open Go.RowKit


set_option maxHeartbeats 400000 in
theorem appendNumber_c (A : Option Addr) (n c : Nat) (bs : List UInt8) (G : Option Nat) (N k : Nat) (w : World) (hseg : Seg w 5 1 A n c (bc bs) G) (_hN : N < 18446744073709551616) (hk : k ≤ 8) (hn : n ≤ 1000000) :
    Calls Try.prog 85 #[.slice A n c, .int .u64 N, .int .i64 k] w (BPost w G (bs ++ num N k)) := by
  obtain ⟨i0, hi0, hz0, hz1, hz2⟩ := info_parts Try.infoB
  have Hi := Lib.hid hi0
  have Hz := Lib.hid hz0
  have Hz1 := Lib.hid hz1
  have Hz2 := Lib.hid hz2
  clear hi0 hz0 hz1 hz2
  go_enter Try.func85, Try.ntmps85
  go_wp2
  go_loopw [0, 7] (fun b i wr => ∃ (j : Nat) (A' : Option Addr) (n' c' : Nat) (G' : Option Nat), j ≤ k ∧ i = .int .i64 ((j : Int) - 1) ∧ b = .slice A' n' c' ∧ n' ≤ n + 8 - j ∧ Seg wr 5 1 A' n' c' (bc (bs ++ (num N k).take (k - j))) G' ∧ w.grownBy wr G ∧ Moved w G G') (fun _ i _ => ((intOf i) + 1).toNat)
  case atStart => exact ⟨k, A, n, c, G, Nat.le_refl _, rfl, rfl, by omega, by simpa using hseg, World.grownBy.refl w _, .inl rfl⟩
  case round =>
    obtain ⟨j, A', n', c', G', hj, rfl, rfl, hn', hs', hg', hm'⟩ := hrel
    match j, hj, hn', hs' with
    | 0, hj, hn', hs' =>
      have H := Lib.hid (show BPost w G (bs ++ num N k) (.returned (.slice A' n' c')) wr from ⟨A', n', c', G', rfl, by rw [Nat.sub_zero, List.take_of_length_le (by rw [num_length]; exact Nat.le_refl _)] at hs'; exact hs', hg', hm'⟩)
      go_wp2_with fail
      go_ret
      exact H.out
    | j + 1, hj, hn', hs' =>
      rw [show ((j + 1 : Nat) : Int) - 1 = (j : Int) by omega]
      have p1 : n' + 1 ≤ maxLen := by simp only [maxLen]; omega
      have p2 : (n' + 1) * 1 ≤ 140737488355328 := by omega
      have p4 : 0 < 1 := by omega
      clear hseg _hN
      go_wp2_with (at_builtin; refine wpList_append_src _ rfl (.tmp 14) (.tmp 20) _ rfl 5 i0 _ 1 1 Try.underlying30 Hi.out Hz.out Hz1.out Hz2.out rfl p4 rfl (hs'.alloc _) rfl (src1 _ _ _) (one_one _ _) p1 p2 ?_; intro A1 c1 G1 w1 hs1 hg1 hm1)
      rw [bc_snoc, List.append_assoc, num_snoc N k j (by omega)] at hs1
      have hm2 : Moved w G G1 := hm'.trans (hm1.of_size (by simp)) hg'.size
      have hg2 : w.grownBy w1 G := grown_trans (grown_alloc hg' _) hm' hg1
      clear hg1 hm1 hs' hg' hm' p1 p2
      go_wp2_with fail
      go_roundw
      case rel => exact ⟨j, A1, n' + 1, c1, G1, by omega, by go_num, rfl, by omega, hs1, hg2, hm2⟩
      case measure => simp [intOf]

theorem encV_t {v : CV} : encV 116 v = num v.s.size 2 ++ bl v.s := if_pos rfl
theorem encV_n {c : UInt8} {v : CV} (h : ¬ c = 116) : encV c v = num v.n (wd c) := if_neg h
set_option maxHeartbeats 400000 in
theorem appendValue_c (A : Option Addr) (n c : Nat) (bs : List UInt8) (G : Option Nat) (l : UInt8) (v : CV) (w : World) (hseg : Seg w 5 1 A n c (bc bs) G) (hv : v.n < 18446744073709551616) (hs : v.s.size ≤ 2000) (hn : n ≤ 1000000) :
    Calls Try.prog 77 #[.slice A n c, .int .u8 l.toNat, .agg #[.int .u64 v.n, .string v.s]] w (BPost w G (bs ++ encV l v)) := by
  obtain ⟨N, s⟩ := v
  simp only at hv hs ⊢
  obtain ⟨i0, hi0, hz0, hz1, hz2⟩ := info_parts Try.infoB
  have Hi := Lib.hid hi0
  have Hz := Lib.hid hz0
  have Hz1 := Lib.hid hz1
  have Hz2 := Lib.hid hz2
  clear hi0 hz0 hz1 hz2
  have hlen := hseg.1
  have hcb := CB.new w 142 #[.int .u64 N, .string s]
  have hsg := hseg.alloc (.cells #[.int .u64 N, .string s] 142)
  have hgr := grown_alloc (World.grownBy.refl w G) (.cells #[.int .u64 N, .string s] 142)
  have hne : some w.heap.size ≠ G := fun e => absurd (hseg.lt _ e.symm) (Nat.lt_irrefl _)
  have hsz : w.heap.size ≤ (w.alloc (.cells #[.int .u64 N, .string s] 142)).heap.size := by simp
  by_cases hc : l = 116
  · subst hc
    rw [encV_t]
    simp only
    go_enter Try.func77, Try.ntmps77
    go_wp2_with fail
    generalize w.alloc (.cells #[.int .u64 N, .string s] 142) = W at *
    have c1 := hcb.cell 1
    simp at c1
    go_still_tail 7, (by kernel_rfl)
    still_call ((width_c 116 _).mono fun e w' hh => ⟨hh.1, hh.2.symm⟩)
    repeat still_step
    refine wpStill_nil ?_
    change wpList _ _ _ _ _ W.drew
    go_wp2_with fail
    refine (appendNumber_c A n c bs G s.size 2 W.drew hsg.drew (by omega) (by omega) hn).mono ?_
    rintro e w1 ⟨A1, n1, c1', G1, rfl, hs1, hg1, hm1⟩
    have hcb1 : CB w1 w.heap.size 142 #[.int .u64 N, .string s] := hcb.drew.same (hg1.block _ hcb.lt hne)
    have d1 := hcb1.cell 1
    simp at d1
    have hn1 : n1 ≤ 1000002 := by have := hs1.1; rw [bc_length, List.length_append, num_length] at this; rw [bc_length] at hlen; omega
    have p1 : n1 + s.size ≤ maxLen := by simp only [maxLen]; omega
    have p2 : n1 + s.size ≤ 140737488355328 := by omega
    have hg1' : w.grownBy w1 G := grown_trans (grown_drew hgr) (.inl rfl) hg1
    have hm1' : Moved w G G1 := hm1.of_size hsz
    clear hcb hsg hgr hne hg1 hm1 hcb1 c1 hseg hlen hsz
    go_wp2_with (at_builtin; refine wpList_append_seg_string _ rfl (.tmp 17) (.tmp 19) _ _ rfl 5 i0 Try.underlying30 Try.underlying9 Hi.out Hz.out Hz1.out Hz2.out rfl hs1 s rfl p1 p2 ?_; intro A2 c2 G2 w2 hs2 hg2 hm2)
    rw [bc_str, ← bc_append, List.append_assoc] at hs2
    have H := Lib.hid (show BPost w G (bs ++ (num s.size 2 ++ bl s)) (.returned (.slice A2 (n1 + s.size) c2)) w2 from ⟨A2, _, c2, G2, rfl, hs2, grown_trans hg1' hm1' hg2, hm1'.trans hm2 hg1'.size⟩)
    clear hs2 hg2 hm2 hs1 hg1' hm1' p1 p2 d1
    go_wp2_with fail
    go_ret
    exact H.out
  · have e3 := u8ne 116 116 rfl hc
    have hw8 := wd_le l
    rw [encV_n hc]
    simp only
    clear hc
    go_enter Try.func77, Try.ntmps77
    go_wp2_with fail
    generalize w.alloc (.cells #[.int .u64 N, .string s] 142) = W at *
    have c0 := hcb.cell 0
    simp at c0
    go_still_tail 5, (by kernel_rfl)
    still_call ((width_c l _).mono fun e w' hh => ⟨hh.1, hh.2.symm⟩)
    repeat still_step
    refine wpStill_nil ?_
    change wpList _ _ _ _ _ W.drew
    go_wp2_with fail
    refine (appendNumber_c A n c bs G N (wd l) W.drew hsg.drew hv hw8 hn).mono ?_
    rintro e w1 ⟨A1, n1, c1', G1, rfl, hs1, hg1, hm1⟩
    have H := Lib.hid (show BPost w G (bs ++ num N (wd l)) (.returned (.slice A1 n1 c1')) w1 from ⟨A1, _, c1', G1, rfl, hs1, grown_trans (grown_drew hgr) (.inl rfl) hg1, hm1.of_size hsz⟩)
    clear hcb hsg hgr hne hg1 hm1 c0 hseg hlen hs1 hsz
    go_wp2_with fail
    go_ret
    exact H.out
end Go.Proofs.Ytcfdfimkgehdfaa.Dk
