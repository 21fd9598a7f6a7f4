/-
  The small functions of layer 2: what width, fits and proper of package code, and width, fits and Shape of the document's answer return. Conditions: a value's number is one of 64 bits, its string and the shape are such as memory can hold.
-/
import Derived.Test.YtcfdfimkgehdfaaRows
import Derived.Test.YtcfdfimkgehdfaaNCodeM
import Derived.Test.YtcfdfimkgehdfaaNBytA
import Derived.Test.YtcfdfimkgehdfaaNMem
import Derived.WalkKit
import Derived.WalkSpells
import Derived.WalkLawsBesides
import Derived.Deep.QuietTactic
import Derived.BigQuiet
import Derived.Lib.Hide
import Derived.IntWalk
import Derived.StillTailTactics
import Derived.Laws.BitsAllLaws
namespace Go.Proofs.Ytcfdfimkgehdfaa.Dk
set_option maxRecDepth 100000
open Go.RowKit

theorem width_c (c : UInt8) (w : World) :
    Calls Try.prog 76 #[.int .u8 c.toNat] w fun e w' => e = .returned (.int .i64 (wd c)) ∧ w = w' := by
  unfold wd
  by_cases h1 : c = 97
  · subst h1
    go_enter Try.func76, Try.ntmps76
    go_wp2
    go_ret
    exact ⟨rfl, rfl⟩
  rw [if_neg h1]
  by_cases h2 : c = 98
  · subst h2
    go_enter Try.func76, Try.ntmps76
    go_wp2
    go_ret
    exact ⟨rfl, rfl⟩
  rw [if_neg h2]
  by_cases h3 : c = 116
  · subst h3
    go_enter Try.func76, Try.ntmps76
    go_wp2
    go_ret
    exact ⟨rfl, rfl⟩
  rw [if_neg h3]
  by_cases h4 : c = 99
  · subst h4
    go_enter Try.func76, Try.ntmps76
    go_wp2
    go_ret
    exact ⟨rfl, rfl⟩
  rw [if_neg h4]
  by_cases h5 : c = 100
  · subst h5
    go_enter Try.func76, Try.ntmps76
    go_wp2
    go_ret
    exact ⟨rfl, rfl⟩
  rw [if_neg h5]
  have e1 := u8ne 97 97 rfl h1
  have e2 := u8ne 98 98 rfl h2
  have e3 := u8ne 116 116 rfl h3
  have e4 := u8ne 99 99 rfl h4
  have e5 := u8ne 100 100 rfl h5
  clear h1 h2 h3 h4 h5
  go_enter Try.func76, Try.ntmps76
  go_wp2
  go_ret
  exact ⟨rfl, rfl⟩

theorem letB_of {c : UInt8} (h : ¬ wd c = 0) : letB c = true := by
  unfold letB
  simp only [bne_iff_ne]
  exact h

theorem all_snoc {sh : List UInt8} {k : Nat} {c : UInt8} (hc : sh[k]? = some c) : (sh.take (k + 1)).all letB = ((sh.take k).all letB && letB c) := by
  obtain ⟨h1, rfl⟩ := List.getElem?_eq_some_iff.1 hc
  rw [List.take_succ_eq_append_getElem h1, List.all_append]
  simp
theorem all_false {sh : List UInt8} {k : Nat} {c : UInt8} (hc : sh[k]? = some c) (h : letB c = false) : sh.all letB = false := by
  rw [List.all_eq_false]
  exact ⟨c, List.mem_of_getElem? hc, by simp [h]⟩
set_option maxHeartbeats 400000 in
theorem proper_c (s : ByteArray) (w : World) (hs : s.size ≤ maxLen) :
    Calls Try.prog 74 #[.string s] w fun e w' => e = .returned (.bool (properB (bl s))) ∧ w = w' := by
  unfold maxLen at hs
  by_cases hbig : 100 < s.size
  · have hp : properB (bl s) = false := by unfold properB; rw [bl_length, decide_eq_false (by omega), Bool.false_and]
    rw [hp]
    clear hp
    have hbig' : (100 : Int) < (s.size : Int) := by omega
    go_enter Try.func74, Try.ntmps74
    go_wp2
    go_ret
    exact ⟨rfl, rfl⟩
  have hp : properB (bl s) = (bl s).all letB := by unfold properB; rw [bl_length, decide_eq_true (by omega), Bool.true_and]
  rw [hp]
  clear hp
  have hbig' : ¬ (100 : Int) < (s.size : Int) := by omega
  go_enter Try.func74, Try.ntmps74
  go_wp2
  go_loop [9] (fun i => ∃ k : Nat, k ≤ s.size ∧ i = .int .i64 k ∧ Hid (((bl s).take k).all letB = true)) (fun i => s.size - (intOf i).toNat)
  case atStart => exact ⟨0, Nat.zero_le _, rfl, rfl⟩
  case round =>
    obtain ⟨k, hk, rfl, hall⟩ := hrel
    by_cases hlt : k < s.size
    · have Hg := Lib.hid (bl_get s k hlt)
      by_cases hw : wd s[k] = 0
      · have Hw := Lib.hid hw
        clear hw
        go_wp2_with fail
        refine (width_c s[k] _).mono ?_
        rintro e w' ⟨rfl, rfl⟩
        rw [Hw.out]
        go_wp2_with fail
        go_ret
        exact ⟨ret_bool (all_false Hg.out (by unfold letB; rw [Hw.out]; rfl)).symm, rfl⟩
      · have hne : ((wd s[k] : Int) == 0) = false := by rw [beq_eq_false_iff_ne]; omega
        have hw8 := wd_le s[k]
        go_wp2_with fail
        refine (width_c s[k] _).mono ?_
        rintro e w' ⟨rfl, rfl⟩
        go_wp2_with fail
        go_round
        case rel => exact ⟨k + 1, by omega, by go_num, show _ = _ by rw [all_snoc Hg.out, hall.out, letB_of hw]; rfl⟩
        case measure => simp [intOf]; omega
    · go_wp2_with fail
      go_ret
      have : k = s.size := by omega
      subst this
      exact ⟨ret_bool (by rw [← hall.out, List.take_of_length_le (by rw [bl_length]; exact Nat.le_refl _)]), rfl⟩

theorem shr_small (n k : Nat) : ((n : Int) / 2 ^ (8 * k) == 0) = decide (n < 256 ^ k) := by
  rw [shr_nat, Bool.eq_iff_iff]
  have hp : 0 < 256 ^ k := Nat.pow_pos (by omega)
  have := Nat.div_eq_zero_iff (a := n) (b := 256 ^ k)
  simp only [beq_iff_eq, decide_eq_true_eq]
  omega
set_option maxHeartbeats 400000 in
theorem fits_c (c : UInt8) (v : CV) (w : World) (hn : v.n < 18446744073709551616) (hs : v.s.size ≤ maxLen) :
    Calls Try.prog 75 #[.int .u8 c.toNat, .agg #[.int .u64 v.n, .string v.s]] w fun e w' => e = .returned (.bool (fitB c v)) ∧ Below w.heap.size w w' := by
  unfold maxLen at hs
  obtain ⟨n, s⟩ := v
  simp only at hn hs ⊢
  by_cases hc : c = 116
  · subst hc
    by_cases h0 : n = 0
    · subst h0
      go_enter Try.func75, Try.ntmps75
      go_wp2
      go_ret
      exact ⟨ret_bool (by simp [fitB]; omega), (Below.refl _ _).alloc (Nat.le_refl _) _⟩
    · have h0' : ((n : Int) == 0) = false := by rw [beq_eq_false_iff_ne]; omega
      have hf : fitB 116 ⟨n, s⟩ = false := by simp [fitB, h0]
      rw [hf]
      clear h0 hf
      go_enter Try.func75, Try.ntmps75
      go_wp2
      go_ret
      exact ⟨rfl, (Below.refl _ _).alloc (Nat.le_refl _) _⟩
  · have e3 := u8ne 116 116 rfl hc
    by_cases h0 : s.size = 0
    · obtain rfl : s = ByteArray.mk #[] := empty_of_size h0
      have hw8 := wd_le c
      have hf : fitB c ⟨n, ByteArray.mk #[]⟩ = decide (n < 256 ^ wd c) := by simp [fitB, hc, ByteArray.size]
      rw [hf]
      clear h0 hf hc
      go_enter Try.func75, Try.ntmps75
      go_wp2
      have h0' : 0 ≤ 8 * (wd c : Int) := by omega
      have hwr : IntKind.i64.wrap (8 * (wd c : Int)) = 8 * (wd c : Int) := IntWalk.i64_in _ (by omega)
      go_quiet ((go_at_call 76; exact Calls.quiet_of_same ((width_c c _).mono fun e w' hh => ⟨hh.1, hh.2.symm⟩)))
      clear hwr
      go_wp2
      go_ret
      exact ⟨ret_bool (shr_small n (wd c)), belowN ((Below.refl _ _).alloc (Nat.le_refl _) _) _⟩
    · have hse := isEmpty_of_size h0
      have hsn := ne_nil_of_size h0
      have hf : fitB c ⟨n, s⟩ = false := by simp [fitB, hc, h0]
      rw [hf]
      clear h0 hf hc
      go_enter Try.func75, Try.ntmps75
      go_wp2
      go_quiet ((go_at_call 76; exact Calls.quiet_of_same ((width_c c _).mono fun e w' hh => ⟨hh.1, hh.2.symm⟩)))
      go_wp2
      go_ret
      exact ⟨rfl, belowN ((Below.refl _ _).alloc (Nat.le_refl _) _) _⟩

theorem wr_ne {c : UInt8} (h : ¬ c = 116) : wrf c = wd c := if_neg h
theorem letB_or (c : UInt8) : letB c = (!((wrf c : Int) == 0 && ((c.toNat : Int) != 116))) := by
  by_cases h : c = 116
  · subst h; rfl
  · have h2 := u8ne 116 116 rfl h
    rw [wr_ne h]
    unfold letB
    rw [Bool.eq_iff_iff]
    simp only [bne_iff_ne, Bool.not_eq_true', Bool.and_eq_false_iff, beq_eq_false_iff_ne]
    simp only [beq_eq_false_iff_ne] at h2
    simp only [bne_eq_false_iff_eq]
    omega

end Go.Proofs.Ytcfdfimkgehdfaa.Dk
