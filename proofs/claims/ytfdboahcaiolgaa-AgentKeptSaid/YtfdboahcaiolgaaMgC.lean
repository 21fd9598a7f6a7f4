/-
  The small functions of layer 2: what width, fits and proper of package code, and width, fits and Shape of the document's answer return. Conditions: a value's number is one of 64 bits, its string and the shape are such as memory can hold.
-/
import Derived.Test.YtfdboahcaiolgaaRows
import Derived.Test.YtfdboahcaiolgaaMgM
import Derived.Test.YtfdboahcaiolgaaMgB
import Derived.WalkKit
import Derived.WalkSpells
import Derived.WalkLawsBesides
import Derived.Deep.QuietTactic
import Derived.BigQuiet
import Derived.Lib.Hide
import Derived.IntWalk
import Derived.StillTailTactics
import Derived.Laws.BitsAllLaws
import Derived.Lib.AppendStr
import Derived.Laws.MakeOwn
import Derived.Lib.ConvBytes
import Derived.Deep.RegionHeld3
namespace Go.Proofs.Ytfdboahcaiolgaa.Dk
set_option maxRecDepth 100000
open Go.RowKit

theorem width_c (c : UInt8) (w : World) :
    Calls Try.prog 54 #[.int .u8 c.toNat] w fun e w' => e = .returned (.int .i64 (wd c)) ∧ w = w' := by
  unfold wd
  by_cases h1 : c = 97
  · subst h1
    go_enter Try.func54, Try.ntmps54
    go_wp2
    go_ret
    exact ⟨rfl, rfl⟩
  rw [if_neg h1]
  by_cases h2 : c = 98
  · subst h2
    go_enter Try.func54, Try.ntmps54
    go_wp2
    go_ret
    exact ⟨rfl, rfl⟩
  rw [if_neg h2]
  by_cases h3 : c = 116
  · subst h3
    go_enter Try.func54, Try.ntmps54
    go_wp2
    go_ret
    exact ⟨rfl, rfl⟩
  rw [if_neg h3]
  by_cases h4 : c = 99
  · subst h4
    go_enter Try.func54, Try.ntmps54
    go_wp2
    go_ret
    exact ⟨rfl, rfl⟩
  rw [if_neg h4]
  by_cases h5 : c = 100
  · subst h5
    go_enter Try.func54, Try.ntmps54
    go_wp2
    go_ret
    exact ⟨rfl, rfl⟩
  rw [if_neg h5]
  have e1 := u8ne 97 97 rfl h1
  have e2 := u8ne 98 98 rfl h2
  have e3 := u8ne 116 116 rfl h3
  have e4 := u8ne 99 99 rfl h4
  have e5 := u8ne 100 100 rfl h5
  clear h1 h2 h3 h4 h5
  go_enter Try.func54, Try.ntmps54
  go_wp2
  go_ret
  exact ⟨rfl, rfl⟩

theorem width_r (c : UInt8) (w : World) :
    Calls Try.prog 60 #[.int .u8 c.toNat] w fun e w' => e = .returned (.int .i64 (wrf c)) ∧ w = w' := by
  unfold wrf wd
  by_cases h3 : c = 116
  · subst h3
    go_enter Try.func60, Try.ntmps60
    go_wp2
    go_ret
    exact ⟨rfl, rfl⟩
  rw [if_neg h3]
  by_cases h1 : c = 97
  · subst h1
    go_enter Try.func60, Try.ntmps60
    go_wp2
    go_ret
    exact ⟨rfl, rfl⟩
  rw [if_neg h1]
  by_cases h2 : c = 98
  · subst h2
    go_enter Try.func60, Try.ntmps60
    go_wp2
    go_ret
    exact ⟨rfl, rfl⟩
  rw [if_neg h2, if_neg h3]
  by_cases h4 : c = 99
  · subst h4
    go_enter Try.func60, Try.ntmps60
    go_wp2
    go_ret
    exact ⟨rfl, rfl⟩
  rw [if_neg h4]
  by_cases h5 : c = 100
  · subst h5
    go_enter Try.func60, Try.ntmps60
    go_wp2
    go_ret
    exact ⟨rfl, rfl⟩
  rw [if_neg h5]
  have e1 := u8ne 97 97 rfl h1
  have e2 := u8ne 98 98 rfl h2
  have e3 := u8ne 116 116 rfl h3
  have e4 := u8ne 99 99 rfl h4
  have e5 := u8ne 100 100 rfl h5
  clear h1 h2 h3 h4 h5
  go_enter Try.func60, Try.ntmps60
  go_wp2
  go_ret
  exact ⟨rfl, rfl⟩

theorem letB_of {c : UInt8} (h : ¬ wd c = 0) : letB c = true := by
  unfold letB
  simp only [bne_iff_ne]
  exact h

theorem all_snoc {sh : List UInt8} {k : Nat} {c : UInt8} (hc : sh[k]? = some c) : (sh.take (k + 1)).all letB = ((sh.take k).all letB && letB c) := by
  obtain ⟨h1, rfl⟩ := List.getElem?_eq_some_iff.1 hc
  rw [List.take_succ_eq_append_getElem h1, List.all_append]
  simp
theorem all_false {sh : List UInt8} {k : Nat} {c : UInt8} (hc : sh[k]? = some c) (h : letB c = false) : sh.all letB = false := by
  rw [List.all_eq_false]
  exact ⟨c, List.mem_of_getElem? hc, by simp [h]⟩
set_option maxHeartbeats 400000 in
theorem proper_c (s : ByteArray) (w : World) (hs : s.size ≤ maxLen) :
    Calls Try.prog 52 #[.string s] w fun e w' => e = .returned (.bool (properB (bl s))) ∧ w = w' := by
  unfold maxLen at hs
  by_cases hbig : 100 < s.size
  · have hp : properB (bl s) = false := by unfold properB; rw [bl_length, decide_eq_false (by omega), Bool.false_and]
    rw [hp]
    clear hp
    have hbig' : (100 : Int) < (s.size : Int) := by omega
    go_enter Try.func52, Try.ntmps52
    go_wp2
    go_ret
    exact ⟨rfl, rfl⟩
  have hp : properB (bl s) = (bl s).all letB := by unfold properB; rw [bl_length, decide_eq_true (by omega), Bool.true_and]
  rw [hp]
  clear hp
  have hbig' : ¬ (100 : Int) < (s.size : Int) := by omega
  go_enter Try.func52, Try.ntmps52
  go_wp2
  go_loop [9] (fun i => ∃ k : Nat, k ≤ s.size ∧ i = .int .i64 k ∧ Hid (((bl s).take k).all letB = true)) (fun i => s.size - (intOf i).toNat)
  case atStart => exact ⟨0, Nat.zero_le _, rfl, rfl⟩
  case round =>
    obtain ⟨k, hk, rfl, hall⟩ := hrel
    by_cases hlt : k < s.size
    · have Hg := Lib.hid (bl_get s k hlt)
      by_cases hw : wd s[k] = 0
      · have Hw := Lib.hid hw
        clear hw
        go_wp2_with fail
        refine (width_c s[k] _).mono ?_
        rintro e w' ⟨rfl, rfl⟩
        rw [Hw.out]
        go_wp2_with fail
        go_ret
        exact ⟨ret_bool (all_false Hg.out (by unfold letB; rw [Hw.out]; rfl)).symm, rfl⟩
      · have hne : ((wd s[k] : Int) == 0) = false := by rw [beq_eq_false_iff_ne]; omega
        have hw8 := wd_le s[k]
        go_wp2_with fail
        refine (width_c s[k] _).mono ?_
        rintro e w' ⟨rfl, rfl⟩
        go_wp2_with fail
        go_round
        case rel => exact ⟨k + 1, by omega, by go_num, show _ = _ by rw [all_snoc Hg.out, hall.out, letB_of hw]; rfl⟩
        case measure => simp [intOf]; omega
    · go_wp2_with fail
      go_ret
      have : k = s.size := by omega
      subst this
      exact ⟨ret_bool (by rw [← hall.out, List.take_of_length_le (by rw [bl_length]; exact Nat.le_refl _)]), rfl⟩

theorem shr_small (n k : Nat) : ((n : Int) / 2 ^ (8 * k) == 0) = decide (n < 256 ^ k) := by
  rw [shr_nat, Bool.eq_iff_iff]
  have hp : 0 < 256 ^ k := Nat.pow_pos (by omega)
  have := Nat.div_eq_zero_iff (a := n) (b := 256 ^ k)
  simp only [beq_iff_eq, decide_eq_true_eq]
  omega
set_option maxHeartbeats 400000 in
theorem fits_c (c : UInt8) (v : CV) (w : World) (hn : v.n < 18446744073709551616) (hs : v.s.size ≤ maxLen) :
    Calls Try.prog 53 #[.int .u8 c.toNat, .agg #[.int .u64 v.n, .string v.s]] w fun e w' => e = .returned (.bool (fitB c v)) ∧ Below w.heap.size w w' := by
  unfold maxLen at hs
  obtain ⟨n, s⟩ := v
  simp only at hn hs ⊢
  by_cases hc : c = 116
  · subst hc
    by_cases h0 : n = 0
    · subst h0
      go_enter Try.func53, Try.ntmps53
      go_wp2
      go_ret
      exact ⟨ret_bool (by simp [fitB]; omega), (Below.refl _ _).alloc (Nat.le_refl _) _⟩
    · have h0' : ((n : Int) == 0) = false := by rw [beq_eq_false_iff_ne]; omega
      have hf : fitB 116 ⟨n, s⟩ = false := by simp [fitB, h0]
      rw [hf]
      clear h0 hf
      go_enter Try.func53, Try.ntmps53
      go_wp2
      go_ret
      exact ⟨rfl, (Below.refl _ _).alloc (Nat.le_refl _) _⟩
  · have e3 := u8ne 116 116 rfl hc
    by_cases h0 : s.size = 0
    · obtain rfl : s = ByteArray.mk #[] := empty_of_size h0
      have hw8 := wd_le c
      have hf : fitB c ⟨n, ByteArray.mk #[]⟩ = decide (n < 256 ^ wd c) := by simp [fitB, hc, ByteArray.size]
      rw [hf]
      clear h0 hf hc
      go_enter Try.func53, Try.ntmps53
      go_wp2
      have h0' : 0 ≤ 8 * (wd c : Int) := by omega
      have hwr : IntKind.i64.wrap (8 * (wd c : Int)) = 8 * (wd c : Int) := IntWalk.i64_in _ (by omega)
      go_quiet ((go_at_call 54; exact Calls.quiet_of_same ((width_c c _).mono fun e w' hh => ⟨hh.1, hh.2.symm⟩)))
      clear hwr
      go_wp2
      go_ret
      exact ⟨ret_bool (shr_small n (wd c)), belowN ((Below.refl _ _).alloc (Nat.le_refl _) _) _⟩
    · have hse := isEmpty_of_size h0
      have hsn := ne_nil_of_size h0
      have hf : fitB c ⟨n, s⟩ = false := by simp [fitB, hc, h0]
      rw [hf]
      clear h0 hf hc
      go_enter Try.func53, Try.ntmps53
      go_wp2
      go_quiet ((go_at_call 54; exact Calls.quiet_of_same ((width_c c _).mono fun e w' hh => ⟨hh.1, hh.2.symm⟩)))
      go_wp2
      go_ret
      exact ⟨rfl, belowN ((Below.refl _ _).alloc (Nat.le_refl _) _) _⟩

theorem wr_ne {c : UInt8} (h : ¬ c = 116) : wrf c = wd c := if_neg h
set_option maxHeartbeats 400000 in
theorem fits_r (c : UInt8) (v : CV) (w : World) (hn : v.n < 18446744073709551616) (hs : v.s.size ≤ maxLen) :
    Calls Try.prog 58 #[.int .u8 c.toNat, .agg #[.int .u64 v.n, .string v.s]] w fun e w' => e = .returned (.bool (fitB c v)) ∧ Below w.heap.size w w' := by
  unfold maxLen at hs
  obtain ⟨n, s⟩ := v
  simp only at hn hs ⊢
  by_cases hc : c = 116
  · subst hc
    by_cases h0 : n = 0
    · subst h0
      go_enter Try.func58, Try.ntmps58
      go_wp2
      go_ret
      exact ⟨ret_bool (by simp [fitB]; omega), (Below.refl _ _).alloc (Nat.le_refl _) _⟩
    · have h0' : ((n : Int) == 0) = false := by rw [beq_eq_false_iff_ne]; omega
      have hf : fitB 116 ⟨n, s⟩ = false := by simp [fitB, h0]
      rw [hf]
      clear h0 hf
      go_enter Try.func58, Try.ntmps58
      go_wp2
      go_ret
      exact ⟨rfl, (Below.refl _ _).alloc (Nat.le_refl _) _⟩
  · have e3 := u8ne 116 116 rfl hc
    have hw8 := wd_le c
    have Hw := Lib.hid (wr_ne hc)
    have Hf := Lib.hid (show fitB c ⟨n, s⟩ = (decide (n / 256 ^ wd c = 0) && s.toList.isEmpty) by
      unfold fitB
      rw [if_neg hc, Bool.and_comm]
      congr 1
      · rw [decide_eq_decide, Nat.div_eq_zero_iff]
        have hp : 0 < 256 ^ wd c := Nat.pow_pos (by omega)
        simp only
        omega
      · by_cases h0 : s.size = 0
        · rw [empty_of_size h0, tl_bl]; rfl
        · rw [isEmpty_of_size h0]; simp [h0])
    clear hc
    generalize fitB c ⟨n, s⟩ = fb at *
    go_enter Try.func58, Try.ntmps58
    go_wp2
    go_loop [5, 6] (fun m i => ∃ k q : Nat, k ≤ wd c ∧ i = .int .i64 k ∧ m = .int .u64 q ∧ q ≤ n ∧ Hid (q = n / 256 ^ k)) (fun _ i => wd c - (intOf i).toNat)
    case atStart => exact ⟨0, n, Nat.zero_le _, rfl, rfl, Nat.le_refl _, show _ = _ by simp⟩
    case round =>
      obtain ⟨k, q, hk, rfl, rfl, hq, Hq⟩ := hrel
      by_cases hlt : k < wd c
      · go_wp2_with fail
        refine (width_r c _).mono ?_
        rintro e w' ⟨rfl, rfl⟩
        rw [Hw.out]
        go_wp2_with fail
        go_round
        case rel => exact ⟨k + 1, q / 256, by omega, by go_num, by go_num, by omega, show _ = _ by rw [Hq.out, div_pow_succ]⟩
        case measure => simp [intOf]; omega
      · obtain rfl : k = wd c := by omega
        go_wp2_with fail
        refine (width_r c _).mono ?_
        rintro e w' ⟨rfl, rfl⟩
        rw [Hw.out]
        by_cases hz : q = 0
        · subst hz
          have HF := Lib.hid (show fb = s.toList.isEmpty by rw [Hf.out, ← Hq.out]; rfl)
          clear Hf Hq
          go_wp2_with fail
          go_ret
          exact ⟨ret_bool HF.out.symm, (Below.refl _ _).alloc (Nat.le_refl _) _⟩
        · have hz' : ((q : Int) == 0) = false := by rw [beq_eq_false_iff_ne]; omega
          have HF := Lib.hid (show fb = false by rw [Hf.out, ← Hq.out, decide_eq_false hz]; rfl)
          clear hz Hf Hq
          go_wp2_with fail
          go_ret
          exact ⟨ret_bool HF.out.symm, (Below.refl _ _).alloc (Nat.le_refl _) _⟩

theorem letB_or (c : UInt8) : letB c = (!((wrf c : Int) == 0 && ((c.toNat : Int) != 116))) := by
  by_cases h : c = 116
  · subst h; rfl
  · have h2 := u8ne 116 116 rfl h
    rw [wr_ne h]
    unfold letB
    rw [Bool.eq_iff_iff]
    simp only [bne_iff_ne, Bool.not_eq_true', Bool.and_eq_false_iff, beq_eq_false_iff_ne]
    simp only [beq_eq_false_iff_ne] at h2
    simp only [bne_eq_false_iff_eq]
    omega

set_option maxHeartbeats 400000 in
theorem shape_r (s : ByteArray) (w : World) (hs : s.size ≤ maxLen) :
    Calls Try.prog 57 #[.string s] w fun e w' => e = .returned (.bool (properB (bl s))) ∧ w = w' := by
  unfold maxLen at hs
  go_enter Try.func57, Try.ntmps57
  go_wp2
  go_loop [3] (fun i => ∃ k : Nat, k ≤ s.size ∧ i = .int .i64 k ∧ Hid (((bl s).take k).all letB = true)) (fun i => s.size - (intOf i).toNat)
  case atStart => exact ⟨0, Nat.zero_le _, rfl, rfl⟩
  case round =>
    obtain ⟨k, hk, rfl, hall⟩ := hrel
    by_cases hlt : k < s.size
    · have Hg := Lib.hid (bl_get s k hlt)
      have hw8 := wr_le s[k]
      by_cases hw : ((wrf s[k] : Int) == 0) = true
      · by_cases ht : ((s[k].toNat : Int) != 116) = true
        · have Hl := Lib.hid (show letB s[k] = false by rw [letB_or, hw, ht]; rfl)
          have Hw := Lib.hid hw
          clear hw
          go_wp2_with fail
          refine (width_r s[k] _).mono ?_
          rintro e w' ⟨rfl, rfl⟩
          have hw := Hw.out
          go_wp2_with fail
          go_ret
          exact ⟨ret_bool (show false = _ by unfold properB; rw [all_false Hg.out Hl.out, Bool.and_false]), rfl⟩
        · have ht' : ((s[k].toNat : Int) != 116) = false := by simpa using ht
          have Hl := Lib.hid (show letB s[k] = true by rw [letB_or, ht', Bool.and_false]; rfl)
          clear ht
          go_wp2_with fail
          refine (width_r s[k] _).mono ?_
          rintro e w' ⟨rfl, rfl⟩
          go_wp2_with fail
          go_round
          case rel => exact ⟨k + 1, by omega, by go_num, show _ = _ by rw [all_snoc Hg.out, hall.out, Hl.out]; rfl⟩
          case measure => simp [intOf]; omega
      · have hw' : ((wrf s[k] : Int) == 0) = false := by simpa using hw
        have Hl := Lib.hid (show letB s[k] = true by rw [letB_or, hw', Bool.false_and]; rfl)
        clear hw
        go_wp2_with fail
        refine (width_r s[k] _).mono ?_
        rintro e w' ⟨rfl, rfl⟩
        go_wp2_with fail
        go_round
        case rel => exact ⟨k + 1, by omega, by go_num, show _ = _ by rw [all_snoc Hg.out, hall.out, Hl.out]; rfl⟩
        case measure => simp [intOf]; omega
    · go_wp2_with fail
      go_ret
      have : k = s.size := by omega
      subst this
      exact ⟨ret_bool (by
        unfold properB
        rw [List.take_of_length_le (by rw [bl_length]; exact Nat.le_refl _)] at hall
        rw [hall.out, Bool.and_true, bl_length, decide_eq_decide]
        omega), rfl⟩
end Go.Proofs.Ytfdboahcaiolgaa.Dk

/-
  Bytes in memory: a slice of bytes of a call's own that grows by bytes and by strings; appendNumber of package code, number of the document's answer. Conditions: the slice is one of the call's own (Seg), numbers are of 64 bits and of 8 bytes at most.
-/
namespace Go.Proofs.Ytfdboahcaiolgaa.Dk
set_option maxRecDepth 100000
open Go.RowKit


set_option maxHeartbeats 400000 in
theorem appendNumber_c (A : Option Addr) (n c : Nat) (bs : List UInt8) (G : Option Nat) (N k : Nat) (w : World) (hseg : Seg w 5 1 A n c (bc bs) G) (_hN : N < 18446744073709551616) (hk : k ≤ 8) (hn : n ≤ 1000000) :
    Calls Try.prog 79 #[.slice A n c, .int .u64 N, .int .i64 k] w (BPost w G (bs ++ num N k)) := by
  obtain ⟨i0, hi0, hz0, hz1, hz2⟩ := info_parts Try.infoB
  have Hi := Lib.hid hi0
  have Hz := Lib.hid hz0
  have Hz1 := Lib.hid hz1
  have Hz2 := Lib.hid hz2
  clear hi0 hz0 hz1 hz2
  go_enter Try.func79, Try.ntmps79
  go_wp2
  go_loopw [0, 7] (fun b i wr => ∃ (j : Nat) (A' : Option Addr) (n' c' : Nat) (G' : Option Nat), j ≤ k ∧ i = .int .i64 ((j : Int) - 1) ∧ b = .slice A' n' c' ∧ n' ≤ n + 8 - j ∧ Seg wr 5 1 A' n' c' (bc (bs ++ (num N k).take (k - j))) G' ∧ w.grownBy wr G ∧ Moved w G G') (fun _ i _ => ((intOf i) + 1).toNat)
  case atStart => exact ⟨k, A, n, c, G, Nat.le_refl _, rfl, rfl, by omega, by simpa using hseg, World.grownBy.refl w _, .inl rfl⟩
  case round =>
    obtain ⟨j, A', n', c', G', hj, rfl, rfl, hn', hs', hg', hm'⟩ := hrel
    match j, hj, hn', hs' with
    | 0, hj, hn', hs' =>
      have H := Lib.hid (show BPost w G (bs ++ num N k) (.returned (.slice A' n' c')) wr from ⟨A', n', c', G', rfl, by rw [Nat.sub_zero, List.take_of_length_le (by rw [num_length]; exact Nat.le_refl _)] at hs'; exact hs', hg', hm'⟩)
      go_wp2_with fail
      go_ret
      exact H.out
    | j + 1, hj, hn', hs' =>
      rw [show ((j + 1 : Nat) : Int) - 1 = (j : Int) by omega]
      have p1 : n' + 1 ≤ maxLen := by simp only [maxLen]; omega
      have p2 : (n' + 1) * 1 ≤ 140737488355328 := by omega
      have p4 : 0 < 1 := by omega
      clear hseg _hN
      go_wp2_with (at_builtin; refine wpList_append_src _ rfl (.tmp 14) (.tmp 20) _ rfl 5 i0 _ 1 1 Try.underlying77 Hi.out Hz.out Hz1.out Hz2.out rfl p4 rfl (hs'.alloc _) rfl (src1 _ _ _) (one_one _ _) p1 p2 ?_; intro A1 c1 G1 w1 hs1 hg1 hm1)
      rw [bc_snoc, List.append_assoc, num_snoc N k j (by omega)] at hs1
      have hm2 : Moved w G G1 := hm'.trans (hm1.of_size (by simp)) hg'.size
      have hg2 : w.grownBy w1 G := grown_trans (grown_alloc hg' _) hm' hg1
      clear hg1 hm1 hs' hg' hm' p1 p2
      go_wp2_with fail
      go_roundw
      case rel => exact ⟨j, A1, n' + 1, c1, G1, by omega, by go_num, rfl, by omega, hs1, hg2, hm2⟩
      case measure => simp [intOf]

set_option maxHeartbeats 400000 in
theorem number_r (N k : Nat) (w : World) (hN : N < 18446744073709551616) (hk : k ≤ 8) :
    Calls Try.prog 59 #[.int .u64 N, .int .i64 k] w (BPost w none (num N k)) := by
  obtain ⟨i0, hi0, hz0, hz1, hz2⟩ := info_parts Try.infoB
  have Hi := Lib.hid hi0
  have Hz := Lib.hid hz0
  have Hz1 := Lib.hid hz1
  have Hz2 := Lib.hid hz2
  clear hi0 hz0 hz1 hz2
  go_enter Try.func59, Try.ntmps59
  go_wp2
  go_loopw [5, 6] (fun b i wr => ∃ (j : Nat) (A' : Option Addr) (n' c' : Nat) (G' : Option Nat), j ≤ k ∧ i = .int .i64 ((j : Int) - 1) ∧ b = .slice A' n' c' ∧ n' ≤ 8 - j ∧ Seg wr 5 1 A' n' c' (bc ((num N k).take (k - j))) G' ∧ w.grownBy wr none ∧ Moved w none G') (fun _ i _ => ((intOf i) + 1).toNat)
  case atStart => exact ⟨k, none, 0, 0, none, Nat.le_refl _, rfl, rfl, by omega, by simpa [bc] using Seg.nil w _ _, World.grownBy.refl w _, .inl rfl⟩
  case round =>
    obtain ⟨j, A', n', c', G', hj, rfl, rfl, hn', hs', hg', hm'⟩ := hrel
    match j, hj, hn', hs' with
    | 0, hj, hn', hs' =>
      have H := Lib.hid (show BPost w none (num N k) (.returned (.slice A' n' c')) wr from ⟨A', n', c', G', rfl, by rw [Nat.sub_zero, List.take_of_length_le (by rw [num_length]; exact Nat.le_refl _)] at hs'; exact hs', hg', hm'⟩)
      go_wp2_with fail
      go_ret
      exact H.out
    | j + 1, hj, hn', hs' =>
      rw [show ((j + 1 : Nat) : Int) - 1 = (j : Int) by omega]
      go_wp2_with fail
      go_loop [7, 8] (fun m i => ∃ r q : Nat, r ≤ j ∧ i = .int .i64 r ∧ m = .int .u64 q ∧ q ≤ N ∧ Hid (q = N / 256 ^ r)) (fun _ i => j - (intOf i).toNat)
      case atStart => exact ⟨0, N, Nat.zero_le _, rfl, rfl, Nat.le_refl _, show _ = _ by simp⟩
      case round =>
        obtain ⟨r, q, hr, rfl, rfl, hq, Hq⟩ := hrel
        by_cases hlt : r < j
        · go_wp2_with fail
          go_round
          case rel => exact ⟨r + 1, q / 256, by omega, by go_num, by go_num, by omega, show _ = _ by rw [Hq.out, div_pow_succ]⟩
          case measure => simp [intOf]; omega
        · obtain rfl : r = j := by omega
          have p1 : n' + 1 ≤ maxLen := by simp only [maxLen]; omega
          have p2 : (n' + 1) * 1 ≤ 140737488355328 := by omega
          have p4 : 0 < 1 := by omega
          go_wp2_with (at_builtin; refine wpList_append_src _ rfl (.tmp 23) (.tmp 27) _ rfl 5 i0 _ 1 1 Try.underlying77 Hi.out Hz.out Hz1.out Hz2.out rfl p4 rfl (hs'.alloc _) rfl (src1 _ _ _) (one_one _ _) p1 p2 ?_; intro A1 c1 G1 w1 hs1 hg1 hm1)
          rw [byte_mod N r q Hq.out, bc_snoc, num_snoc N k r (by omega)] at hs1
          have hm2 : Moved w none G1 := hm'.trans (hm1.of_size (by simp)) hg'.size
          have hg2 : w.grownBy w1 none := grown_trans (grown_alloc hg' _) hm' hg1
          clear hg1 hm1 hs' hg' hm' p1 p2
          go_wp2_with fail
          go_roundw
          case rel => exact ⟨r, A1, n' + 1, c1, G1, by omega, by go_num, rfl, by omega, hs1, hg2, hm2⟩
          case measure => simp [intOf]

theorem encV_t {v : CV} : encV 116 v = num v.s.size 2 ++ bl v.s := if_pos rfl
theorem encV_n {c : UInt8} {v : CV} (h : ¬ c = 116) : encV c v = num v.n (wd c) := if_neg h
set_option maxHeartbeats 400000 in
theorem appendValue_c (A : Option Addr) (n c : Nat) (bs : List UInt8) (G : Option Nat) (l : UInt8) (v : CV) (w : World) (hseg : Seg w 5 1 A n c (bc bs) G) (hv : v.n < 18446744073709551616) (hs : v.s.size ≤ 2000) (hn : n ≤ 1000000) :
    Calls Try.prog 55 #[.slice A n c, .int .u8 l.toNat, .agg #[.int .u64 v.n, .string v.s]] w (BPost w G (bs ++ encV l v)) := by
  obtain ⟨N, s⟩ := v
  simp only at hv hs ⊢
  obtain ⟨i0, hi0, hz0, hz1, hz2⟩ := info_parts Try.infoB
  have Hi := Lib.hid hi0
  have Hz := Lib.hid hz0
  have Hz1 := Lib.hid hz1
  have Hz2 := Lib.hid hz2
  clear hi0 hz0 hz1 hz2
  have hlen := hseg.1
  have hcb := CB.new w 96 #[.int .u64 N, .string s]
  have hsg := hseg.alloc (.cells #[.int .u64 N, .string s] 96)
  have hgr := grown_alloc (World.grownBy.refl w G) (.cells #[.int .u64 N, .string s] 96)
  have hne : some w.heap.size ≠ G := fun e => absurd (hseg.lt _ e.symm) (Nat.lt_irrefl _)
  have hsz : w.heap.size ≤ (w.alloc (.cells #[.int .u64 N, .string s] 96)).heap.size := by simp
  by_cases hc : l = 116
  · subst hc
    rw [encV_t]
    simp only
    go_enter Try.func55, Try.ntmps55
    go_wp2_with fail
    generalize w.alloc (.cells #[.int .u64 N, .string s] 96) = W at *
    have c1 := hcb.cell 1
    simp at c1
    go_still_tail 7, (by kernel_rfl)
    still_call ((width_c 116 _).mono fun e w' hh => ⟨hh.1, hh.2.symm⟩)
    repeat still_step
    refine wpStill_nil ?_
    change wpList _ _ _ _ _ W.drew
    go_wp2_with fail
    refine (appendNumber_c A n c bs G s.size 2 W.drew hsg.drew (by omega) (by omega) hn).mono ?_
    rintro e w1 ⟨A1, n1, c1', G1, rfl, hs1, hg1, hm1⟩
    have hcb1 : CB w1 w.heap.size 96 #[.int .u64 N, .string s] := hcb.drew.same (hg1.block _ hcb.lt hne)
    have d1 := hcb1.cell 1
    simp at d1
    have hn1 : n1 ≤ 1000002 := by have := hs1.1; rw [bc_length, List.length_append, num_length] at this; rw [bc_length] at hlen; omega
    have p1 : n1 + s.size ≤ maxLen := by simp only [maxLen]; omega
    have p2 : n1 + s.size ≤ 140737488355328 := by omega
    have hg1' : w.grownBy w1 G := grown_trans (grown_drew hgr) (.inl rfl) hg1
    have hm1' : Moved w G G1 := hm1.of_size hsz
    clear hcb hsg hgr hne hg1 hm1 hcb1 c1 hseg hlen hsz
    go_wp2_with (at_builtin; refine wpList_append_seg_string _ rfl (.tmp 17) (.tmp 19) _ _ rfl 5 i0 Try.underlying77 Try.underlying9 Hi.out Hz.out Hz1.out Hz2.out rfl hs1 s rfl p1 p2 ?_; intro A2 c2 G2 w2 hs2 hg2 hm2)
    rw [bc_str, ← bc_append, List.append_assoc] at hs2
    have H := Lib.hid (show BPost w G (bs ++ (num s.size 2 ++ bl s)) (.returned (.slice A2 (n1 + s.size) c2)) w2 from ⟨A2, _, c2, G2, rfl, hs2, grown_trans hg1' hm1' hg2, hm1'.trans hm2 hg1'.size⟩)
    clear hs2 hg2 hm2 hs1 hg1' hm1' p1 p2 d1
    go_wp2_with fail
    go_ret
    exact H.out
  · have e3 := u8ne 116 116 rfl hc
    have hw8 := wd_le l
    rw [encV_n hc]
    simp only
    clear hc
    go_enter Try.func55, Try.ntmps55
    go_wp2_with fail
    generalize w.alloc (.cells #[.int .u64 N, .string s] 96) = W at *
    have c0 := hcb.cell 0
    simp at c0
    go_still_tail 5, (by kernel_rfl)
    still_call ((width_c l _).mono fun e w' hh => ⟨hh.1, hh.2.symm⟩)
    repeat still_step
    refine wpStill_nil ?_
    change wpList _ _ _ _ _ W.drew
    go_wp2_with fail
    refine (appendNumber_c A n c bs G N (wd l) W.drew hsg.drew hv hw8 hn).mono ?_
    rintro e w1 ⟨A1, n1, c1', G1, rfl, hs1, hg1, hm1⟩
    have H := Lib.hid (show BPost w G (bs ++ num N (wd l)) (.returned (.slice A1 n1 c1')) w1 from ⟨A1, _, c1', G1, rfl, hs1, grown_trans (grown_drew hgr) (.inl rfl) hg1, hm1.of_size hsz⟩)
    clear hcb hsg hgr hne hg1 hm1 c0 hseg hlen hs1 hsz
    go_wp2_with fail
    go_ret
    exact H.out
end Go.Proofs.Ytfdboahcaiolgaa.Dk

/-
  Encode of package code: it returns the document's bytes, or the document's error. Conditions: the shape and the strings are such as memory can hold, the values are readable.
-/
namespace Go.Proofs.Ytfdboahcaiolgaa.Dk
set_option maxRecDepth 100000
open Go.RowKit

/-- A slice of values that can be read. -/
def VR (w : World) (A : Option Addr) (l : List CV) : Prop :=
  ∀ (i : Nat) (v : CV), l[i]? = some v → v.n < 18446744073709551616 ∧ v.s.size ≤ maxLen ∧ ∃ g off, A = some ⟨g, off, none⟩ ∧ g < w.heap.size ∧
    w.cell? ⟨g, off + i * 2, none⟩ = some (.int .u64 v.n) ∧ w.cell? ⟨g, off + i * 2 + 1, none⟩ = some (.string v.s)
theorem VR.below {w w' : World} {A : Option Addr} {l : List CV} {B : Nat} (h : VR w A l) (hb : Below B w w') (hB : w.heap.size ≤ B) : VR w' A l := by
  intro i v hv
  obtain ⟨h1, h2, g, off, h3, h4, h5, h6⟩ := h i v hv
  exact ⟨h1, h2, g, off, h3, by have := hb.size; omega, (hb.cell (p := ⟨g, _, none⟩) (by simp only; omega)).trans h5, (hb.cell (p := ⟨g, _, none⟩) (by simp only; omega)).trans h6⟩
theorem VR.at_ {w : World} {A : Option Addr} {l : List CV} (h : VR w A l) {i : Nat} (hi : i < l.length) :
    ∃ (v : CV) (g off : Nat), Hid (l[i]? = some v) ∧ v.n < 18446744073709551616 ∧ v.s.size ≤ maxLen ∧ A = some ⟨g, off, none⟩ ∧
    w.cell? ⟨g, off + i * 2, none⟩ = some (.int .u64 v.n) ∧ w.cell? ⟨g, off + i * 2 + 1, none⟩ = some (.string v.s) := by
  obtain ⟨h1, h2, g, off, h3, h4, h5, h6⟩ := h i l[i] (List.getElem?_eq_getElem hi)
  exact ⟨l[i], g, off, List.getElem?_eq_getElem hi, h1, h2, h3, h5, h6⟩

/-- A call gave bytes and a number back. -/
def EPostC (w : World) (bs : List UInt8) (k : Nat) (e : Ending) (w' : World) : Prop :=
  ∃ A n c G, e = .returned (.tuple #[.slice A n c, .int .i64 (k : Int)]) ∧ Seg w' 5 1 A n c (bc bs) G ∧ Below w.heap.size w w'

theorem eE_bad {sh : List UInt8} {l : List CV} (h : okE sh l = false) : eE sh l = 2 ∧ bE sh l = [] := by
  have : eE sh l = 2 := by unfold eE; rw [h]; rfl
  exact ⟨this, by unfold bE; rw [this]; rfl⟩
theorem eE_big {sh : List UInt8} {l : List CV} (h : okE sh l = true) (h2 : 4000 < (enc sh l).length) : eE sh l = 3 ∧ bE sh l = [] := by
  have : eE sh l = 3 := by unfold eE; rw [h, if_pos rfl, if_pos h2]
  exact ⟨this, by unfold bE; rw [this]; rfl⟩
theorem eE_ok {sh : List UInt8} {l : List CV} (h : okE sh l = true) (h2 : ¬ 4000 < (enc sh l).length) : eE sh l = 0 ∧ bE sh l = enc sh l := by
  have : eE sh l = 0 := by unfold eE; rw [h, if_pos rfl, if_neg h2]
  exact ⟨this, by unfold bE; rw [if_pos this]⟩
theorem epost_nil {w w' : World} {sh : List UInt8} {l : List CV} {k : Nat} (h : eE sh l = k ∧ bE sh l = []) (hb : Below w.heap.size w w') : EPostC w (bE sh l) (eE sh l) (.returned (.tuple #[.slice none 0 0, .int .i64 (k : Int)])) w' := by
  rw [h.1, h.2]
  exact ⟨none, 0, 0, none, rfl, Seg.nil _ _ _, hb⟩
theorem ret2_eq {w w' : World} {bs : List UInt8} {k : Nat} {e e' : Ending} (h : EPostC w bs k e' w') (he : e = e') : EPostC w bs k e w' := by rw [he]; exact h
theorem fitB_size {c : UInt8} {v : CV} (h : fitB c v = true) : v.s.size ≤ 2000 := by
  unfold fitB at h
  split at h <;> simp only [Bool.and_eq_true, beq_iff_eq, decide_eq_true_eq] at h <;> omega

set_option maxRecDepth 100000 in
set_option maxHeartbeats 1000000 in
theorem encode_c (s : ByteArray) (A : Option Addr) (cap : Nat) (l : List CV) (w : World) (hs : s.size ≤ maxLen) (hl : VR w A l) :
    Calls Try.prog 27 #[.string s, .slice A l.length cap] w (EPostC w (bE (bl s) l) (eE (bl s) l)) := by
  have hs0 := hs
  unfold maxLen at hs
  have hbl := bl_length s
  by_cases hp : properB (bl s) = false
  · have H := Lib.hid (epost_nil (w := w) (w' := w) (eE_bad (l := l) (by unfold okE; rw [hp]; rfl)) (Below.refl _ _))
    have Hp := Lib.hid hp
    clear hp hbl
    go_enter Try.func27, Try.ntmps27
    go_wp2_with fail
    refine (proper_c s _ hs0).mono ?_
    rintro e w' ⟨rfl, rfl⟩
    rw [Hp.out]
    go_wp2_with fail
    go_ret2
    exact H.out
  have hp' : properB (bl s) = true := by simpa using hp
  have hp100 : s.size ≤ 100 := by
    unfold properB at hp'
    simp only [Bool.and_eq_true, decide_eq_true_eq] at hp'
    omega
  have Hp := Lib.hid hp'
  clear hp
  by_cases hne : l.length = s.size
  case neg =>
    have H := Lib.hid (epost_nil (w := w) (w' := w) (eE_bad (sh := bl s) (l := l) (by unfold okE; rw [show (l.length == (bl s).length) = false by rw [hbl]; simpa using hne]; simp)) (Below.refl _ _))
    have hne' : ((l.length : Int) != (s.size : Int)) = true := by rw [bne_iff_ne]; omega
    clear hp' hbl hne
    go_enter Try.func27, Try.ntmps27
    go_wp2_with fail
    refine (proper_c s _ hs0).mono ?_
    rintro e w' ⟨rfl, rfl⟩
    rw [Hp.out]
    go_wp2_with fail
    go_ret2
    exact H.out
  have Hlen := Lib.hid hne
  have hln : l.length ≤ 100 := by omega
  have hln' : s.size ≤ l.length := by omega
  have hln2 : l.length ≤ s.size := by omega
  have hne' : ((l.length : Int) != (s.size : Int)) = false := by rw [bne_eq_false_iff_eq]; omega
  have Hbl := Lib.hid hbl
  clear hp' hbl hne
  go_enter Try.func27, Try.ntmps27
  go_wp2_with fail
  refine (proper_c s _ hs0).mono ?_
  rintro e w' ⟨rfl, rfl⟩
  rw [Hp.out]
  go_wp2_with fail
  clear hne'
  go_loopw [6, 24] (fun sz i wr => ∃ k q : Nat, k ≤ l.length ∧ i = .int .i64 k ∧ sz = .int .i64 q ∧ q ≤ 2010 * k ∧ Hid (q = (enc ((bl s).take k) (l.take k)).length) ∧ Hid (fitsB ((bl s).take k) (l.take k) = true) ∧ Below w.heap.size w wr) (fun _ i _ => l.length - (intOf i).toNat)
  case atStart => exact ⟨0, 0, by omega, rfl, rfl, by omega, rfl, rfl, Below.refl _ _⟩
  case round =>
    obtain ⟨k, q, hk, rfl, rfl, hq, Hq, Hf, hbw⟩ := hrel
    by_cases hlt : k < l.length
    · obtain ⟨v, g, off, Hv, hv1, hv2, rfl, c0, c1⟩ := (hl.below hbw (Nat.le_refl _)).at_ hlt
      have hks : k < s.size := by omega
      have Hg := Lib.hid (bl_get s k hks)
      have hcb := CB.new wr 96 #[.int .u64 v.n, .string v.s]
      have hb1 : Below w.heap.size w (wr.alloc (.cells #[.int .u64 v.n, .string v.s] 96)) := hbw.alloc hbw.size _
      go_wp2_with fail
      generalize wr.alloc (.cells #[.int .u64 v.n, .string v.s] 96) = W at *
      have d0 := hcb.cell 0
      have d1 := hcb.cell 1
      simp at d0 d1
      go_still_tail 4, (by kernel_rfl)
      change wpList _ _ _ _ _ W.drew
      go_wp2_with fail
      refine (fits_c s[k] v _ hv1 hv2).mono ?_
      rintro e w2 ⟨rfl, hb2⟩
      have hcb2 : CB w2 wr.heap.size 96 #[.int .u64 v.n, .string v.s] := hcb.drew.same (hb2.block _ hcb.lt)
      have hbw2 : Below w.heap.size w w2 := hb1.drew.trans (hb2.mono hb1.size)
      clear hb2 hcb hb1 d0 d1 c0 c1
      cases hfit : fitB s[k] v
      · have H := Lib.hid (epost_nil (w := w) (w' := w2) (eE_bad (sh := bl s) (l := l) (by unfold okE; rw [fitsB_false (by rw [Hlen.out, Hbl.out]) Hg.out Hv.out hfit, Bool.and_false])) hbw2)
        clear hfit
        go_wp2_with fail
        go_ret2
        exact H.out
      · have hsz := fitB_size hfit
        have hw8 := wd_le s[k]
        have d1 := hcb2.cell 1
        simp at d1
        have HL := Lib.hid (show (enc ((bl s).take (k + 1)) (l.take (k + 1))).length = q + (wd s[k] + v.s.size) by rw [enc_snoc Hg.out Hv.out, List.length_append, ← Hq.out, encV_length hfit])
        have HF := Lib.hid (show fitsB ((bl s).take (k + 1)) (l.take (k + 1)) = true by rw [fitsB_snoc Hg.out Hv.out, Hf.out, hfit]; rfl)
        clear hfit Hq Hf Hg Hv hcb2
        go_wp2_with fail
        have e1 : IntKind.i64.wrap ((wd s[k] : Int) + (v.s.size : Int)) = (wd s[k] : Int) + (v.s.size : Int) := IntWalk.i64_in _ (by omega)
        have e2 : IntKind.i64.wrap ((q : Int) + ((wd s[k] : Int) + (v.s.size : Int))) = (q : Int) + ((wd s[k] : Int) + (v.s.size : Int)) := IntWalk.i64_in _ (by omega)
        go_quiet ((go_at_call 54; exact Calls.quiet_of_same ((width_c s[k] _).mono fun e w' hh => ⟨hh.1, hh.2.symm⟩)))
        clear e1 e2
        go_wp2_with fail
        go_roundw
        case rel => exact ⟨k + 1, q + (wd s[k] + v.s.size), by omega, by go_num, by go_num, by omega, HL.out.symm, HF.out, belowN hbw2 _⟩
        case measure => simp [intOf]; omega
    · obtain rfl : k = l.length := by omega
      have HF := Lib.hid (show fitsB (bl s) l = true by have := Hf.out; rwa [List.take_length, List.take_of_length_le (by rw [Hbl.out]; omega)] at this)
      have HQ := Lib.hid (show q = (enc (bl s) l).length by have := Hq.out; rwa [List.take_length, List.take_of_length_le (by rw [Hbl.out]; omega)] at this)
      have HO := Lib.hid (show okE (bl s) l = true by unfold okE; rw [Hp.out, HF.out, Hlen.out, Hbl.out]; simp)
      clear Hf Hq
      by_cases hbig : (4000 : Int) < (q : Int)
      · have H := Lib.hid (epost_nil (w := w) (w' := wr) (eE_big HO.out (by rw [← HQ.out]; omega)) hbw)
        go_wp2_with fail
        go_ret2
        exact H.out
      · obtain ⟨i0, hi0, hz0, hz1, hz2⟩ := info_parts Try.infoB
        obtain ⟨w3, hrun, hseg3, hg3⟩ := run_make_seg (P := Try.prog) wr 77 5 i0 _ 1 Try.underlying77 hi0 hz0 hz1 q (by rw [hz2]; omega) (by simp only [maxLen]; omega)
        have HE := Lib.hid (eE_ok HO.out (by rw [← HQ.out]; omega))
        have hb3 : Below w.heap.size w w3 := hbw.trans (grown_below hg3 hbw.size (fun g e => by cases e))
        have hG3 : w.heap.size ≤ wr.heap.size := hbw.size
        clear hi0 hz0 hz1 hz2 HQ hg3
        go_wp2_with fail
        clear hrun
        go_loopw [9, 52] (fun b i wq => ∃ (k : Nat) (A' : Option Addr) (n' c' : Nat) (G' : Option Nat), k ≤ l.length ∧ i = .int .i64 k ∧ b = .slice A' n' c' ∧ n' ≤ 2010 * k ∧ Seg wq 5 1 A' n' c' (bc (enc ((bl s).take k) (l.take k))) G' ∧ (∀ g, G' = some g → w.heap.size ≤ g) ∧ Below w.heap.size w wq) (fun _ i _ => l.length - (intOf i).toNat)
        case atStart => exact ⟨0, _, 0, q, _, by omega, rfl, rfl, by omega, by simpa [bc, enc] using hseg3, fun g e => by cases e; exact hG3, hb3⟩
        case round =>
          clear hseg3 hb3 hbw
          obtain ⟨k, A', n', c', G', hk', rfl, rfl, hn', hs', hG', hbq⟩ := hrel
          by_cases hlt' : k < l.length
          · obtain ⟨v, g, off, Hv, hv1, hv2, rfl, c0, c1⟩ := (hl.below hbq (Nat.le_refl _)).at_ hlt'
            have hks : k < s.size := by omega
            have Hg := Lib.hid (bl_get s k hks)
            have Hfit := Lib.hid (show fitB s[k] v = true by
              cases hfit : fitB s[k] v
              · have := fitsB_false (by rw [Hlen.out, Hbl.out]) Hg.out Hv.out hfit
                rw [HF.out] at this
                cases this
              · rfl)
            have hsz := fitB_size Hfit.out
            have hw8 := wd_le s[k]
            have HL := Lib.hid (enc_snoc Hg.out Hv.out)
            have hel := Lib.hid (encV_length Hfit.out)
            have hcb := CB.new wr 96 #[.int .u64 v.n, .string v.s]
            have hb1 : Below w.heap.size w (wr.alloc (.cells #[.int .u64 v.n, .string v.s] 96)) := hbq.alloc hbq.size _
            have hs1 := hs'.alloc (.cells #[.int .u64 v.n, .string v.s] 96)
            clear Hv Hg hs' hbq Hfit
            go_wp2_with fail
            generalize wr.alloc (.cells #[.int .u64 v.n, .string v.s] 96) = W at *
            have d0 := hcb.cell 0
            have d1 := hcb.cell 1
            simp at d0 d1
            go_still_tail 5, (by kernel_rfl)
            change wpList _ _ _ _ _ W.drew
            go_wp2_with fail
            refine (appendValue_c A' n' c' _ G' s[k] v _ hs1.drew hv1 hsz (by omega)).mono ?_
            rintro e w2 ⟨A2, n2, c2, G2, rfl, hs2, hg2, hm2⟩
            have hn2 : n2 ≤ 2010 * (k + 1) := by
              have h1 := hs1.1
              have h2 := hs2.1
              rw [bc_length] at h1 h2
              rw [List.length_append, hel.out] at h2
              omega
            rw [← HL.out] at hs2
            have hb2 : Below w.heap.size w w2 := hb1.drew.trans (grown_below hg2 hb1.size hG')
            have hG2 := Moved.ge hm2 hb1.size hG'
            clear hb1 hg2 hm2 hcb hs1 d0 d1 c0 c1 hG'
            go_wp2_with fail
            go_roundw
            case rel => exact ⟨k + 1, A2, n2, c2, G2, by omega, by go_num, rfl, hn2, hs2, hG2, hb2⟩
            case measure => simp [intOf]; omega
          · obtain rfl : k = l.length := by omega
            have H := Lib.hid (show EPostC w (bE (bl s) l) (eE (bl s) l) (.returned (.tuple #[.slice A' n' c', .int .i64 ((0 : Nat) : Int)])) wr by
              rw [HE.out.1, HE.out.2]
              rw [List.take_length, List.take_of_length_le (by rw [Hbl.out]; omega)] at hs'
              exact ⟨A', n', c', G', rfl, hs', hbq⟩)
            go_wp2_with fail
            go_ret2
            exact H.out
end Go.Proofs.Ytfdboahcaiolgaa.Dk

/-
  Encode of the document's answer for layer 2: it returns the bytes bE and the number eE. Conditions: the shape and the strings are such as memory can hold, the values are readable.
-/
namespace Go.Proofs.Ytfdboahcaiolgaa.Dk
set_option maxRecDepth 100000
open Go.RowKit

theorem conv_bytes {P : Program} (w : World) (src dst e : TypeId) (s : ByteArray) {u : TypeDesc} (hs : P.underlying src = some u) (hd : P.underlying dst = some (.slice e)) (he : P.underlying e = some (.int .u8)) :
    ∃ c w', (convert src dst (.string s)).run P w = .ok (.slice (some ⟨w.heap.size, 0, none⟩) s.size c) w' ∧ Src w' 1 (some ⟨w.heap.size, 0, none⟩) s.size (bc (bl s)) ∧ Below w.heap.size w w' := by
  refine ⟨_, _, Lib.run_convert_string_bytes (P := P) w src dst e s hs hd he, ⟨by rw [bc_length, bl_length]; omega, fun _ => ⟨_, rfl, fun j v hj => ?_⟩⟩, ⟨rfl, rfl, rfl, by rw [Lib.bytesWorld_size]; omega, fun i hi => Lib.bytesWorld_at_old w e s i hi⟩⟩
  have hjl : j < (bc (bl s)).length := (List.getElem?_eq_some_iff.1 hj).1
  have hj2 : j < s.size := by rw [bc_length, bl_length] at hjl; exact hjl
  rw [Addr.add_lit, Nat.zero_add, Lib.bytesWorld_cell w e s j hj2]
  unfold bc at hj
  rw [List.getElem?_map] at hj
  unfold bl at hj
  rw [List.getD_eq_getElem?_getD]
  cases hx : s.data.toList[j]? with
  | none => rw [hx] at hj; cases hj
  | some x => rw [hx] at hj; simpa using hj

set_option maxRecDepth 100000 in
set_option maxHeartbeats 1000000 in
theorem encode_r (s : ByteArray) (A : Option Addr) (cap : Nat) (l : List CV) (w : World) (hs : s.size ≤ maxLen) (hl : VR w A l) :
    Calls Try.prog 32 #[.string s, .slice A l.length cap] w (EPostC w (bE (bl s) l) (eE (bl s) l)) := by
  have hs0 := hs
  unfold maxLen at hs
  have hbl := bl_length s
  by_cases hp : properB (bl s) = false
  · have H := Lib.hid (epost_nil (w := w) (w' := w) (eE_bad (l := l) (by unfold okE; rw [hp]; rfl)) (Below.refl _ _))
    have Hp := Lib.hid hp
    clear hp hbl
    go_enter Try.func32, Try.ntmps32
    go_wp2_with fail
    refine (shape_r s _ hs0).mono ?_
    rintro e w' ⟨rfl, rfl⟩
    rw [Hp.out]
    go_wp2_with fail
    go_ret2
    exact H.out
  have hp' : properB (bl s) = true := by simpa using hp
  have hp100 : s.size ≤ 100 := by
    unfold properB at hp'
    simp only [Bool.and_eq_true, decide_eq_true_eq] at hp'
    omega
  have Hp := Lib.hid hp'
  clear hp
  by_cases hne : l.length = s.size
  case neg =>
    have H := Lib.hid (epost_nil (w := w) (w' := w) (eE_bad (sh := bl s) (l := l) (by unfold okE; rw [show (l.length == (bl s).length) = false by rw [hbl]; simpa using hne]; simp)) (Below.refl _ _))
    have hne' : ((l.length : Int) != (s.size : Int)) = true := by rw [bne_iff_ne]; omega
    clear hp' hbl hne
    go_enter Try.func32, Try.ntmps32
    go_wp2_with fail
    refine (shape_r s _ hs0).mono ?_
    rintro e w' ⟨rfl, rfl⟩
    rw [Hp.out]
    go_wp2_with fail
    go_ret2
    exact H.out
  have Hlen := Lib.hid hne
  have hln : l.length ≤ 100 := by omega
  have hln' : s.size ≤ l.length := by omega
  have hln2 : l.length ≤ s.size := by omega
  have hne' : ((l.length : Int) != (s.size : Int)) = false := by rw [bne_eq_false_iff_eq]; omega
  have Hbl := Lib.hid hbl
  obtain ⟨i0, hi0, hz0, hz1, hz2⟩ := info_parts Try.infoB
  have Hi := Lib.hid hi0
  have Hz := Lib.hid hz0
  have Hz1 := Lib.hid hz1
  have Hz2 := Lib.hid hz2
  clear hi0 hz0 hz1 hz2
  clear hp' hbl hne
  go_enter Try.func32, Try.ntmps32
  go_wp2_with fail
  refine (shape_r s _ hs0).mono ?_
  rintro e w' ⟨rfl, rfl⟩
  rw [Hp.out]
  go_wp2_with fail
  clear hne'
  go_loopw [6, 7] (fun b i wr => ∃ (k : Nat) (A' : Option Addr) (n' c' : Nat) (G' : Option Nat), k ≤ l.length ∧ i = .int .i64 k ∧ b = .slice A' n' c' ∧ n' ≤ 2010 * k ∧ Seg wr 5 1 A' n' c' (bc (enc ((bl s).take k) (l.take k))) G' ∧ (∀ g, G' = some g → w.heap.size ≤ g) ∧ Hid (fitsB ((bl s).take k) (l.take k) = true) ∧ Below w.heap.size w wr) (fun _ i _ => l.length - (intOf i).toNat)
  case atStart => exact ⟨0, none, 0, 0, none, by omega, rfl, rfl, by omega, by simpa [bc, enc] using Seg.nil w _ _, (fun g e => by cases e), rfl, Below.refl _ _⟩
  case round =>
    obtain ⟨k, A', n', c', G', hk, rfl, rfl, hn', hs', hG', Hf, hbw⟩ := hrel
    by_cases hlt : k < l.length
    · obtain ⟨v, g, off, Hv, hv1, hv2, rfl, c0, c1⟩ := (hl.below hbw (Nat.le_refl _)).at_ hlt
      have hks : k < s.size := by omega
      have Hg := Lib.hid (bl_get s k hks)
      go_wp2_with fail
      go_still_tail 7, (by kernel_rfl)
      change wpList _ _ _ _ _ wr.drew
      go_wp2_with fail
      refine (fits_r s[k] v _ hv1 hv2).mono ?_
      rintro e w2 ⟨rfl, hb2⟩
      have hbw2 : Below w.heap.size w w2 := hbw.drew.trans (hb2.mono hbw.size)
      cases hfit : fitB s[k] v
      · have H := Lib.hid (epost_nil (w := w) (w' := w2) (eE_bad (sh := bl s) (l := l) (by unfold okE; rw [fitsB_false (by rw [Hlen.out, Hbl.out]) Hg.out Hv.out hfit, Bool.and_false])) hbw2)
        clear hfit
        go_wp2_with fail
        go_ret2
        exact H.out
      · have hsz := fitB_size hfit
        have HL := Lib.hid (enc_snoc Hg.out Hv.out)
        have HF := Lib.hid (show fitsB ((bl s).take (k + 1)) (l.take (k + 1)) = true by rw [fitsB_snoc Hg.out Hv.out, Hf.out, hfit]; rfl)
        have hel := Lib.hid (encV_length hfit)
        have hw8 := wd_le s[k]
        have hs2 := (hs'.drew).below hb2 (Nat.le_refl _)
        have d0 := (hb2.cell (p := ⟨g, off + k * 2, none⟩) (World.block_lt_of_cell? wr _ c0)).trans c0
        have d1 := (hb2.cell (p := ⟨g, off + k * 2 + 1, none⟩) (World.block_lt_of_cell? wr _ c1)).trans c1
        clear hfit Hf Hg hs' hbw hb2 c0 c1
        by_cases hc : s[k] = 116
        · have e3 : ((s[k].toNat : Int) == 116) = true := by rw [hc]; rfl
          have HE := Lib.hid (show encV s[k] v = num v.s.size 2 ++ bl v.s by rw [hc]; exact encV_t)
          clear hc
          go_wp2_with fail
          refine (number_r v.s.size 2 _ (by omega) (by omega)).mono ?_
          rintro e w3 ⟨A3, n3, c3, G3, rfl, hs3, hg3, hm3⟩
          have hb3 : Below w2.heap.size w2 w3 := grown_below hg3 (Nat.le_refl _) (fun g e => by cases e)
          have hbw3 : Below w.heap.size w w3 := hbw2.trans (hb3.mono hbw2.size)
          have hs2' := hs2.below hb3 (Nat.le_refl _)
          have hn3 : n3 = 2 := by have := hs3.1; rw [bc_length, num_length] at this; omega
          subst hn3
          have d1' := (hb3.cell (p := ⟨g, off + k * 2 + 1, none⟩) (World.block_lt_of_cell? w2 _ d1)).trans d1
          have p1 : n' + 2 ≤ maxLen := by simp only [maxLen]; omega
          have p2 : (n' + 2) * 1 ≤ 140737488355328 := by omega
          have p4 : 0 < 1 := by omega
          have hsr3 := hs3.src
          clear hs3 hs2 hg3 hm3 d0 d1 hbw2
          go_wp2_with (at_builtin; refine wpList_append_src _ rfl (.tmp 37) (.tmp 45) _ rfl 5 i0 _ 1 1 Try.underlying77 Hi.out Hz.out Hz1.out Hz2.out rfl p4 rfl hs2' rfl hsr3 (bc_one _) p1 p2 ?_)
          intro A4 c4 G4 w4 hs4 hg4 hm4
          have hb4 : Below w.heap.size w3 w4 := grown_below hg4 hbw3.size hG'
          have hbw4 : Below w.heap.size w w4 := hbw3.trans hb4
          have hG4 := Moved.ge hm4 hbw3.size hG'
          obtain ⟨v', g', off', Hv', hv1', hv2', ha', d0', d1''⟩ := (hl.below hbw4 (Nat.le_refl _)).at_ hlt
          cases ha'
          obtain rfl : v = v' := by have := Hv.out.symm.trans Hv'.out; simpa using this
          obtain ⟨c5, w5, hcv, hsr5, hb5⟩ := conv_bytes (P := Try.prog) w4 9 77 5 v.s Try.underlying9 Try.underlying77 Try.underlying5
          have hbw5 : Below w.heap.size w w5 := hbw4.trans (hb5.mono hbw4.size)
          have hs5 := hs4.below hb5 (Nat.le_refl _)
          have q1 : n' + 2 + v.s.size ≤ maxLen := by simp only [maxLen]; omega
          have q2 : (n' + 2 + v.s.size) * 1 ≤ 140737488355328 := by omega
          clear hs2' hsr3 hg4 hm4 hs4 hb4 hb5 hbw4 hbw3 hb3 d0' d1' hG' Hv' Hv hv2' hv1' p1 p2
          go_wp2_with (at_builtin; refine wpList_append_src _ rfl (.tmp 47) (.tmp 53) _ rfl 5 i0 _ 1 1 Try.underlying77 Hi.out Hz.out Hz1.out Hz2.out rfl p4 rfl hs5 rfl hsr5 (bc_one _) q1 q2 ?_)
          intro A6 c6 G6 w6 hs6 hg6 hm6
          rw [← bc_append, ← bc_append, ← HE.out, ← HL.out] at hs6
          have hbw6 : Below w.heap.size w w6 := hbw5.trans (grown_below hg6 hbw5.size hG4)
          have hG6 := Moved.ge hm6 hbw5.size hG4
          clear hs5 hg6 hm6 hbw5 hG4 hcv hsr5 d1'' q1 q2
          go_wp2_with fail
          go_roundw
          case rel => exact ⟨k + 1, A6, _, c6, G6, by omega, by go_num, rfl, by omega, hs6, hG6, HF.out, hbw6⟩
          case measure => simp [intOf]; omega
        · have e3 := u8ne 116 116 rfl hc
          have HE := Lib.hid (show encV s[k] v = num v.n (wd s[k]) from encV_n hc)
          have Hw := Lib.hid (wr_ne hc)
          clear hc
          have hw8' := wr_le s[k]
          have hgl : g < w.heap.size := by
            obtain ⟨_, _, g1, off1, h3, h4, _⟩ := hl k v Hv.out
            cases h3
            exact h4
          obtain ⟨N, hN⟩ : ∃ N, n' + wrf s[k] = N := ⟨_, rfl⟩
          have p1 : n' + wrf s[k] ≤ maxLen := by simp only [maxLen]; omega
          have p2 : (n' + wrf s[k]) * 1 ≤ 140737488355328 := by omega
          have p4 : 0 < 1 := by omega
          have p5 : N ≤ 2010 * (k + 1) := by omega
          have HN := Lib.hid hN
          clear hN
          go_wp2_with fail
          go_region_held3 (fun W' => W'.cell? ⟨g, off + k * 2, none⟩ = some (.int .u64 v.n)) (first | exact d0 | exact d3 | exact d6) (first
            | (go_at_call 60; refine (width_r s[k] _).mono ?_; rintro e w' ⟨rfl, rfl⟩)
            | (go_at_call 59; refine (number_r v.n (wrf s[k]) _ hv1 hw8').mono ?_; rintro e w3 ⟨A3, n3, c3, G3, rfl, hs3, hg3, hm3⟩; obtain rfl : n3 = wrf s[k] := (by have := hs3.1; rw [bc_length, num_length] at this; omega); have hb3 : Below w2.heap.size w2 w3 := ⟨hg3.os, hg3.tape, hg3.output, hg3.size, fun i hi => hg3.block i hi (by simp)⟩; have hbw3 : Below w.heap.size w w3 := hbw2.trans (hb3.mono hbw2.size); have hs2' := hs2.below hb3 (Nat.le_refl _); have hsr3 := hs3.src; have d3 := (hb3.cell (p := ⟨g, off + k * 2, none⟩) (World.block_lt_of_cell? w2 _ d0)).trans d0)
            | (refine step_append_src _ (.tmp 55) (.tmp 65) _ (by rfl) 5 i0 _ 1 1 Try.underlying77 Hi.out Hz.out Hz1.out Hz2.out rfl p4 (by rfl) hs2' (by rfl) hsr3 (bc_one _) p1 p2 (by rfl) N HN.out ?_; intro A6 c6 G6 w6 hs6 hg6 hm6; have d6 := ((grown_below hg6 hbw3.size hG').cell (p := ⟨g, off + k * 2, none⟩) hgl).trans d3))
          rw [Hw.out] at hs6
          rw [← bc_append, ← HE.out, ← HL.out] at hs6
          have hbw6 : Below w.heap.size w w6 := hbw3.trans (grown_below hg6 hbw3.size hG')
          have hG6 := Moved.ge hm6 hbw3.size hG'
          clear hs2' hg6 hm6 hbw3 hG' hsr3 p1 p2
          go_wp2_with fail
          go_roundw
          case rel => exact ⟨k + 1, A6, N, c6, G6, by omega, by go_num, rfl, p5, hs6, hG6, HF.out, hbw6⟩
          case measure => simp [intOf]; omega
    · obtain rfl : k = l.length := by omega
      have HF := Lib.hid (show fitsB (bl s) l = true by have := Hf.out; rwa [List.take_length, List.take_of_length_le (by rw [Hbl.out]; omega)] at this)
      have HO := Lib.hid (show okE (bl s) l = true by unfold okE; rw [Hp.out, HF.out, Hlen.out, Hbl.out]; simp)
      rw [List.take_length, List.take_of_length_le (by rw [Hbl.out]; omega)] at hs'
      have HQ := Lib.hid (show n' = (enc (bl s) l).length by have := hs'.1; rw [bc_length] at this; omega)
      by_cases hbig : (4000 : Int) < (n' : Int)
      · have H := Lib.hid (epost_nil (w := w) (w' := wr) (eE_big HO.out (by rw [← HQ.out]; omega)) hbw)
        go_wp2_with fail
        go_ret2
        exact H.out
      · have HE := eE_ok HO.out (by rw [← HQ.out]; omega)
        have H := Lib.hid (show EPostC w (bE (bl s) l) (eE (bl s) l) (.returned (.tuple #[.slice A' n' c', .int .i64 ((0 : Nat) : Int)])) wr by
          rw [HE.1, HE.2]
          exact ⟨A', n', c', G', rfl, hs', hbw⟩)
        clear HE
        go_wp2_with fail
        go_ret2
        exact H.out
end Go.Proofs.Ytfdboahcaiolgaa.Dk

/-
  The reader of package code: take, number, text and value. Conditions: the reader's struct is a block of its own, the bytes that it reads lie below it.
-/
namespace Go.Proofs.Ytfdboahcaiolgaa.Dk
set_option maxRecDepth 100000
open Go.RowKit


/-- A reader: its struct is block rb, what is left of its bytes lies below B. -/
def RD (w : World) (B rb : Nat) (bs : List UInt8) : Prop := B ≤ rb ∧ ∃ A n c, CB w rb 122 #[.slice A n c] ∧ BR w B A n c bs

def TPost (w : World) (B rb k : Nat) (bs : List UInt8) (e : Ending) (w' : World) : Prop :=
  ∃ A c, e = .returned (.tuple #[.slice A k c, .bool true]) ∧ BR w' B A k c (bs.take k) ∧ RD w' B rb (bs.drop k) ∧ w.grownBy w' (some rb)

theorem take_no (B rb k : Nat) (bs : List UInt8) (w : World) (hr : RD w B rb bs) (h : bs.length < k) :
    Calls Try.prog 97 #[.pointer (some ⟨rb, 0, none⟩), .int .i64 k] w fun e w' => e = .returned (.tuple #[.slice none 0 0, .bool false]) ∧ w = w' := by
  obtain ⟨hB, A, n, c, hcb, hbr⟩ := hr
  have h1 : (n : Int) < (k : Int) := by have := hbr.1; omega
  have c0 := hcb.cell 0
  simp at c0
  clear hcb hbr h
  go_enter Try.func97, Try.ntmps97
  go_wp2
  go_ret2
  exact ⟨rfl, rfl⟩

theorem take_ok (B rb k : Nat) (bs : List UInt8) (w : World) (hr : RD w B rb bs) (h : k ≤ bs.length) :
    Calls Try.prog 97 #[.pointer (some ⟨rb, 0, none⟩), .int .i64 k] w (TPost w B rb k bs) := by
  obtain ⟨hB, A, n, c, hcb, hbr⟩ := hr
  have hn := hbr.1
  have hnc := hbr.2.1
  have hcm := hbr.2.2.1
  simp only [maxLen] at hcm
  have h1 : ¬ (n : Int) < (k : Int) := by omega
  have c0 := hcb.cell 0
  have f0 := hcb.frozen 0
  simp at c0
  have hcut1 : ∀ W, (Instr.slice 77 (.slice A n c) (some (.int .i64 k)) none none).run Try.prog W = _ := fun W => run_cut_from (P := Try.prog) 77 5 Try.underlying77 1 Try.sizeB A n c k (by omega) W
  have hcut2 : ∀ W, (Instr.slice 77 (.slice A n c) none (some (.int .i64 k)) none).run Try.prog W = _ := fun W => run_cut_upto (P := Try.prog) 77 5 Try.underlying77 1 Try.sizeB A n c k (by omega) W
  have hc := hbr.cut (k := k) (by omega)
  have hu := hbr.upto (k := k) (by omega)
  generalize hA1 : (if c = k then A else A.map (fun x : Addr => x.add (k * 1))) = A1 at hcut1 hc
  have hend : TPost w B rb k bs (.returned (.tuple #[.slice A k c, .bool true])) (w.setCell ⟨rb, 0, none⟩ (.slice A1 (n - k) (c - k))) :=
    ⟨A, c, rfl, hu.keep (fun g hg => Below.heap_setCell w _ _ g (by simp only; omega)), ⟨hB, A1, n - k, c - k, by simpa using hcb.put 0 (.slice A1 (n - k) (c - k)), hc.keep (fun g hg => Below.heap_setCell w _ _ g (by simp only; omega))⟩, grown_put (World.grownBy.refl w _) 0 _⟩
  have H := Lib.hid hend
  clear hend hc hu hbr hcb hA1 hn h
  go_enter Try.func97, Try.ntmps97
  go_wp2
  go_ret2
  exact H.out

/-- A call of the reader gave a value back. -/
def NPost (w : World) (B rb : Nat) (v : CV) (ok : Bool) (rest : List UInt8) (e : Ending) (w' : World) : Prop :=
  e = .returned (.tuple #[.agg #[.int .u64 v.n, .string v.s], .bool ok]) ∧ RD w' B rb rest ∧ w.grownBy w' (some rb)

theorem RD.lt {w : World} {B rb : Nat} {bs : List UInt8} (h : RD w B rb bs) : rb < w.heap.size := by
  obtain ⟨_, A, n, c, hcb, _⟩ := h
  exact hcb.lt
theorem RD.below {w w' : World} {B rb : Nat} {bs : List UInt8} (h : RD w B rb bs) {B' : Nat} (hb : Below B' w w') (hB : w.heap.size ≤ B') : RD w' B rb bs := by
  have hlt := h.lt
  obtain ⟨h1, A, n, c, hcb, hbr⟩ := h
  exact ⟨h1, A, n, c, hcb.same (hb.block _ (by omega)), hbr.below hb (by omega)⟩
theorem RD.alloc {w : World} {B rb : Nat} {bs : List UInt8} (h : RD w B rb bs) (o : Obj) : RD (w.alloc o) B rb bs := h.below ((Below.refl _ w).alloc (Nat.le_refl _) o) (Nat.le_refl _)
theorem RD.far {w : World} {B rb : Nat} {bs : List UInt8} (h : RD w B rb bs) {p : Addr} (hp : rb < p.block) (u : Value) : RD (w.setCell p u) B rb bs := by
  obtain ⟨h1, A, n, c, hcb, hbr⟩ := h
  exact ⟨h1, A, n, c, hcb.far (by omega) u, hbr.keep (fun g hg => Below.heap_setCell w p u g (by omega))⟩

set_option maxHeartbeats 400000 in
theorem number_ok (B rb k : Nat) (bs : List UInt8) (w : World) (hr : RD w B rb bs) (hk : k ≤ 8) (h : k ≤ bs.length) :
    Calls Try.prog 86 #[.pointer (some ⟨rb, 0, none⟩), .int .i64 k] w (NPost w B rb ⟨val (bs.take k), mkS []⟩ true (bs.drop k)) := by
  have hrb := hr.lt
  go_enter Try.func86, Try.ntmps86
  go_wp2_with fail
  refine (take_ok B rb k bs _ (hr.alloc _) h).mono ?_
  rintro e w2 ⟨A2, c2, rfl, hb2, hr2, hg2⟩
  have z2 : w.heap.size < w2.heap.size := by have := hg2.size; simp at this; omega
  have hz := hr2.1
  have hcb4 : CB w2 w.heap.size 96 #[.int .u64 0, .string (mkS [])] := (CB.new w _ _).same (hg2.block _ (by simp) (by simp; omega))
  have hg0 : w.grownBy w2 (some rb) := grown_trans (grown_alloc (World.grownBy.refl w _) _) (.inl rfl) hg2
  clear hg2 hr h
  go_wp2_with fail
  go_loopw [19] (fun i wr => ∃ j q : Nat, j ≤ k ∧ i = .int .i64 j ∧ Hid (q = val ((bs.take k).take j)) ∧ CB wr w2.heap.size 96 #[.int .u64 q, .string (mkS [])] ∧ CB wr w.heap.size 96 #[.int .u64 0, .string (mkS [])] ∧ RD wr B rb (bs.drop k) ∧ BR wr B A2 k c2 (bs.take k) ∧ w.grownBy wr (some rb)) (fun i _ => k - (intOf i).toNat)
  case atStart =>
    exact ⟨0, 0, by omega, rfl, rfl, CB.new _ _ _, hcb4.alloc _, hr2.alloc _, hb2.below ((Below.refl _ w2).alloc (Nat.le_refl _) _) (by omega), grown_alloc hg0 _⟩
  case round =>
    clear hb2 hr2 hcb4 hg0
    obtain ⟨j, q, hj, rfl, Hq, hcb8, hcb4, hrr, hbb, hgg⟩ := hrel
    have d0 := hcb8.cell 0
    have d1 := hcb8.cell 1
    have f0 := hcb8.frozen 0
    simp at d0 d1
    by_cases hlt : j < k
    · obtain ⟨g, off, b, rfl, hgB, Hb, cb⟩ := hbb.at_ hlt
      have HV := Lib.hid (val_step Hb.out)
      have h64 := val_lt64 ((bs.take k).take (j + 1)) (by rw [List.length_take]; omega)
      have HO := Lib.hid (or_step q b (by rw [Hq.out, ← HV.out]; exact h64))
      clear h64
      go_wp2_with fail
      rw [HO.out]
      go_roundw
      case rel =>
        refine ⟨j + 1, q * 256 + b.toNat, by omega, by go_num, ?_, by simpa using hcb8.put 0 (.int .u64 ((q * 256 + b.toNat : Nat) : Int)), hcb4.far (by simp only; omega) _, hrr.far (by simp only; omega) _, hbb.keep (fun g hg => Below.heap_setCell wr _ _ g (by simp only; omega)), grown_new hgg (by simp only; omega) _⟩
        show _ = _
        rw [HV.out, Hq.out]
      case measure => simp [intOf]; omega
    · obtain rfl : j = k := by omega
      have e0 := hcb4.cell 0
      have e1 := hcb4.cell 1
      have g0 := hcb4.frozen 0
      have g1 := hcb4.frozen 1
      simp at e0 e1
      have HQ := Lib.hid (show q = val (bs.take j) by rw [Hq.out, List.take_of_length_le (by rw [List.length_take]; omega)])
      have hcbF : CB ((wr.setCell ⟨w.heap.size, 0, none⟩ (.int .u64 q)).setCell ⟨w.heap.size, 1, none⟩ (.string (mkS []))) w.heap.size 96 #[.int .u64 q, .string (mkS [])] := by simpa using (hcb4.put 0 (.int .u64 q)).put 1 (.string (mkS []))
      have hrF : RD ((wr.setCell ⟨w.heap.size, 0, none⟩ (.int .u64 q)).setCell ⟨w.heap.size, 1, none⟩ (.string (mkS []))) B rb (bs.drop j) := (hrr.far (by simp only; omega) _).far (by simp only; omega) _
      have hgF : w.grownBy ((wr.setCell ⟨w.heap.size, 0, none⟩ (.int .u64 q)).setCell ⟨w.heap.size, 1, none⟩ (.string (mkS []))) (some rb) := grown_new (grown_new hgg (by simp only; omega) _) (by simp only; omega) _
      go_wp2_with fail
      generalize (wr.setCell ⟨w.heap.size, 0, none⟩ (.int .u64 q)).setCell ⟨w.heap.size, 1, none⟩ (.string (mkS [])) = W at *
      have x0 := hcbF.cell 0
      have x1 := hcbF.cell 1
      simp at x0 x1
      refine bodyPost_ret (v := .tuple #[.agg #[.int .u64 q, .string (mkS [])], .bool true]) (by simp [results, Try.results86, go_sem, x0, x1]) rfl ⟨by rw [HQ.out], hrF, hgF⟩

set_option maxHeartbeats 400000 in
theorem number_no (B rb k : Nat) (bs : List UInt8) (w : World) (hr : RD w B rb bs) (h : bs.length < k) :
    Calls Try.prog 86 #[.pointer (some ⟨rb, 0, none⟩), .int .i64 k] w (NPost w B rb ⟨0, mkS []⟩ false bs) := by
  have hrb := hr.lt
  have hz := hr.1
  go_enter Try.func86, Try.ntmps86
  go_wp2_with fail
  refine (take_no B rb k bs _ (hr.alloc _) h).mono ?_
  rintro e w2 ⟨rfl, rfl⟩
  have hcb4 : CB ((w.alloc (.cells #[.int .u64 0, .string ⟨#[]⟩] 96)).alloc (.cells #[.int .u64 0, .string ⟨#[]⟩] 96)) w.heap.size 96 #[.int .u64 0, .string (mkS [])] := (CB.new w _ _).alloc _
  have hcb8 : CB ((w.alloc (.cells #[.int .u64 0, .string ⟨#[]⟩] 96)).alloc (.cells #[.int .u64 0, .string ⟨#[]⟩] 96)) (w.heap.size + 1) 96 #[.int .u64 0, .string (mkS [])] := by
    have := CB.new (w.alloc (.cells #[.int .u64 0, .string ⟨#[]⟩] 96)) 96 #[.int .u64 0, .string ⟨#[]⟩]
    rw [show (w.alloc (.cells #[.int .u64 0, .string ⟨#[]⟩] 96)).heap.size = w.heap.size + 1 by simp] at this
    exact this
  have hr1 : RD ((w.alloc (.cells #[.int .u64 0, .string ⟨#[]⟩] 96)).alloc (.cells #[.int .u64 0, .string ⟨#[]⟩] 96)) B rb bs := (hr.alloc _).alloc _
  have hg1 : w.grownBy ((w.alloc (.cells #[.int .u64 0, .string ⟨#[]⟩] 96)).alloc (.cells #[.int .u64 0, .string ⟨#[]⟩] 96)) (some rb) := grown_alloc (grown_alloc (World.grownBy.refl w _) _) _
  clear hr h
  go_wp2_with fail
  generalize (w.alloc (.cells #[.int .u64 0, .string ⟨#[]⟩] 96)).alloc (.cells #[.int .u64 0, .string ⟨#[]⟩] 96) = W at *
  have d0 := hcb8.cell 0
  have d1 := hcb8.cell 1
  have e0 := hcb4.cell 0
  have e1 := hcb4.cell 1
  have g0 := hcb4.frozen 0
  have g1 := hcb4.frozen 1
  simp at d0 d1 e0 e1
  go_loop [19] (fun i => i = .int .i64 0) (fun _ => 0)
  case atStart => rfl
  case round =>
    subst hrel
    have hcbF : CB ((W.setCell ⟨w.heap.size, 0, none⟩ (.int .u64 0)).setCell ⟨w.heap.size, 1, none⟩ (.string (mkS []))) w.heap.size 96 #[.int .u64 0, .string (mkS [])] := by simpa using (hcb4.put 0 (.int .u64 0)).put 1 (.string (mkS []))
    have hrF : RD ((W.setCell ⟨w.heap.size, 0, none⟩ (.int .u64 0)).setCell ⟨w.heap.size, 1, none⟩ (.string (mkS []))) B rb bs := (hr1.far (by simp only; omega) _).far (by simp only; omega) _
    have hgF : w.grownBy ((W.setCell ⟨w.heap.size, 0, none⟩ (.int .u64 0)).setCell ⟨w.heap.size, 1, none⟩ (.string (mkS []))) (some rb) := grown_new (grown_new hg1 (by simp only; omega) _) (by simp only; omega) _
    go_wp2_with fail
    generalize (W.setCell ⟨w.heap.size, 0, none⟩ (.int .u64 0)).setCell ⟨w.heap.size, 1, none⟩ (.string (mkS [])) = W' at *
    have x0 := hcbF.cell 0
    have x1 := hcbF.cell 1
    simp at x0 x1
    exact bodyPost_ret (v := .tuple #[.agg #[.int .u64 0, .string (mkS [])], .bool false]) (by simp [results, Try.results86, go_sem, x0, x1]) rfl ⟨rfl, hrF, hgF⟩

end Go.Proofs.Ytfdboahcaiolgaa.Dk
