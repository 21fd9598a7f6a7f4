/-
  The mobiles of bits, of package chair and of the document; what New comes to of them. No condition.
-/
import Derived.Test.YtjfmahceolhfnaaChB
import Derived.Laws.BitsAllLaws
set_option linter.unusedVariables false
set_option linter.unusedSimpArgs false
namespace Go.Proofs.Ytjfmahceolhfnaa
open Go.RowKit

theorem Try.infoB : (Try.prog.info? 5).map (fun i => (i.zero, i.size, i.bytes)) = some (some (.int .u8 0), 1, 1) := by kernel_rfl
theorem bit_all : ((List.range 256).all fun w => (List.range 8).all fun k => (bits BinOp.and IntKind.u8 (w : Int) (2 ^ k % 256) != 0) == bitN w k) = true := by kernel_rfl
theorem bit_is {w k : Nat} (hw : w < 256) (hk : k < 8) : (bits BinOp.and IntKind.u8 (w : Int) (2 ^ k % 256) != 0) = bitN w k := by
  have h := List.all_eq_true.1 bit_all w (List.mem_range.2 hw)
  have h := List.all_eq_true.1 h k (List.mem_range.2 hk)
  simpa using h
theorem few8 {p : Nat → Bool} {k : Nat} (hk : k < 8) : ((List.range k).filter p).length ≤ 8 := by
  have := List.length_filter_le p (List.range k)
  rw [List.length_range] at this
  omega
theorem uc_one (x : Nat) : ∀ u ∈ uc x, u.oneCell' = true := by
  intro u hu
  simp [uc] at hu
  subst hu
  rfl
set_option maxRecDepth 100000 in
set_option maxHeartbeats 1000000 in
theorem mobiles_c (who : Nat) (w : World) (hw : who < 256) : Calls Try.prog 54 #[.int .u8 (who : Int)] w (RPost w 5 uc 1 (mems who)) := by
  obtain ⟨i0, hi0, hz0, hz1, hz2⟩ := parts_of Try.infoB
  go_enter Try.func54, Try.ntmps54
  go_wp2_with fail
  go_loopw [3, 5] (fun lv iv wr => ∃ k : Nat, k ≤ 8 ∧ iv = .int .u8 k ∧ OS w 5 1 (rc uc ((List.range k).filter (bitN who))) lv wr) (fun _ iv _ => 8 - (intOf iv).toNat)
  case atStart => exact ⟨0, by omega, rfl, OS.start _ _ _ (Below.refl _ _)⟩
  case round =>
    obtain ⟨k, hk, rfl, hos⟩ := hrel
    by_cases hlt : k < 8
    · have j1 : (k : Int) < 8 := by omega
      have j2 : (0 : Int) ≤ (k : Int) := by omega
      have hbit := bit_is hw hlt
      have HN := Lib.hid (mems_next who k)
      have hfew := few8 (p := bitN who) hlt
      cases hb : bitN who k with
      | false =>
        rw [hb] at hbit
        have HN := Lib.hid (show (List.range (k + 1)).filter (bitN who) = (List.range k).filter (bitN who) by rw [HN.out, hb]; simp)
        have Hos := Lib.hid hos
        clear hos hb hfew
        go_wp2_with fail
        go_roundw
        case rel => exact ⟨k + 1, by omega, by go_num, by rw [HN.out]; exact Hos.out⟩
        case measure => simp [intOf]; omega
      | true =>
        rw [hb] at hbit
        have HN := Lib.hid (show (List.range (k + 1)).filter (bitN who) = (List.range k).filter (bitN who) ++ [k] by rw [HN.out, hb]; simp)
        have hlow := hos.low
        obtain ⟨A0, m, c0, G, rfl, hsg, hG⟩ := hos.out
        generalize (List.range k).filter (bitN who) = F at *
        have hm := rc_len hsg
        have p0 : 0 < 1 := by omega
        have p3 : m + 1 ≤ maxLen := by simp only [maxLen]; omega
        have p4 : (m + 1) * 1 ≤ 140737488355328 := by omega
        have hlow2 := Lib.hid (hlow.alloc hlow.size (.cells #[.int .u8 (k : Int)] 5))
        clear hlow hos hb hfew hm
        go_wp2_with (at_builtin; refine wpList_append_seg _ rfl (.tmp 13) (.tmp 15) _ rfl 5 i0 _ 1 1 Try.underlying95 hi0 hz0 hz1 hz2 rfl p0 rfl (hsg.alloc _) ⟨wr.heap.size, 0, none⟩ 1 1 (uc k) rfl rfl (cells_at _ _ (uc k) _ rfl) (uc_one k) p0 p3 p4 ?_; intro A1 c1 G1 w1 n1 m1 r1)
        rw [rc_snoc] at n1
        have hnext := Lib.hid (OS.app hlow2.out hG n1 m1 r1)
        clear hsg n1 m1 r1 hlow2
        go_wp2_with fail
        go_roundw
        case rel => exact ⟨k + 1, by omega, by go_num, by rw [HN.out]; exact hnext.out⟩
        case measure => simp [intOf]; omega
    · obtain rfl : k = 8 := by omega
      have H := Lib.hid (RPost.of_os hos)
      go_wp2_with fail
      go_ret
      exact H.out
set_option maxRecDepth 100000 in
set_option maxHeartbeats 1000000 in
theorem members_r (who : Nat) (w : World) (hw : who < 256) : Calls Try.prog 45 #[.int .u8 (who : Int)] w (RPost w 5 uc 1 (mems who)) := by
  obtain ⟨i0, hi0, hz0, hz1, hz2⟩ := parts_of Try.infoB
  go_enter Try.func45, Try.ntmps45
  go_wp2_with fail
  go_loopw [3, 4, 5] (fun lv nv iv wr => ∃ k q : Nat, k ≤ 8 ∧ iv = .int .i64 k ∧ nv = .int .u8 (q : Int) ∧ q < 256 ∧ Hid (who / 2 ^ k = q) ∧ OS w 5 1 (rc uc ((List.range k).filter (bitN who))) lv wr) (fun _ _ iv _ => 8 - (intOf iv).toNat)
  case atStart => exact ⟨0, who, by omega, rfl, rfl, hw, Lib.hid (by simp), OS.start _ _ _ (Below.refl _ _)⟩
  case round =>
    obtain ⟨k, q, hk, rfl, rfl, hq2, Hq, hos⟩ := hrel
    by_cases hlt : k < 8
    · have j1 : (k : Int) < 8 := by omega
      have j2 : (0 : Int) ≤ (k : Int) := by omega
      have HN := Lib.hid (mems_next who k)
      have hfew := few8 (p := bitN who) hlt
      obtain ⟨q3, hq3⟩ : ∃ q3, q / 2 = q3 := ⟨_, rfl⟩
      have Hq3 := Lib.hid (show who / 2 ^ (k + 1) = q3 by rw [Nat.pow_succ, ← Nat.div_div_eq_div_mul, Hq.out, hq3])
      have hq4 : q3 < 256 := by omega
      have e3 : IntKind.u8.wrap ((q : Int).tdiv 2) = (q3 : Int) := by rw [← hq3]; simp [IntKind.wrap, IntKind.bits, IntKind.signed]; omega
      have e4 : (q : Int) / 2 = (q3 : Int) := by omega
      have hbk : bitN who k = (q % 2 == 1) := by unfold bitN; rw [Hq.out]
      clear hq3
      cases hb : bitN who k with
      | false =>
        rw [hb] at hbk
        have hq5 : q % 2 = 0 := by have := hbk.symm; simp at this; omega
        have hq6 : ((q : Int) % 2 == 1) = false := by simp; omega
        have hq7 : (q % 2 == 1) = false := hbk.symm
        have HN := Lib.hid (show (List.range (k + 1)).filter (bitN who) = (List.range k).filter (bitN who) by rw [HN.out, hb]; simp)
        have Hos := Lib.hid hos
        clear hos hb hfew hbk hq5
        go_wp2_with fail
        go_roundw
        case rel => exact ⟨k + 1, q3, by omega, by go_num, by first | rfl | (rw [e3]) | (simp; omega), hq4, Hq3, by rw [HN.out]; exact Hos.out⟩
        case measure => simp [intOf]; omega
      | true =>
        rw [hb] at hbk
        have hq7 : (q % 2 == 1) = true := hbk.symm
        have hq6 : ((q : Int) % 2 == 1) = true := by simp at hq7 ⊢; omega
        have HN := Lib.hid (show (List.range (k + 1)).filter (bitN who) = (List.range k).filter (bitN who) ++ [k] by rw [HN.out, hb]; simp)
        have hlow := hos.low
        obtain ⟨A0, m, c0, G, rfl, hsg, hG⟩ := hos.out
        generalize (List.range k).filter (bitN who) = F at *
        have hm := rc_len hsg
        have p0 : 0 < 1 := by omega
        have p3 : m + 1 ≤ maxLen := by simp only [maxLen]; omega
        have p4 : (m + 1) * 1 ≤ 140737488355328 := by omega
        have hlow2 := Lib.hid (hlow.alloc hlow.size (.cells #[.int .u8 (k : Int)] 5))
        clear hlow hos hb hfew hm hbk
        go_wp2_with (at_builtin; refine wpList_append_seg _ rfl (.tmp 14) (.tmp 17) _ rfl 5 i0 _ 1 1 Try.underlying95 hi0 hz0 hz1 hz2 rfl p0 rfl (hsg.alloc _) ⟨wr.heap.size, 0, none⟩ 1 1 (uc k) rfl rfl (cells_at _ _ (uc k) _ rfl) (uc_one k) p0 p3 p4 ?_; intro A1 c1 G1 w1 n1 m1 r1)
        rw [rc_snoc] at n1
        have hnext := Lib.hid (OS.app hlow2.out hG n1 m1 r1)
        clear hsg n1 m1 r1 hlow2
        go_wp2_with fail
        go_roundw
        case rel => exact ⟨k + 1, q3, by omega, by go_num, by first | rfl | (rw [e3]) | (simp; omega), hq4, Hq3, by rw [HN.out]; exact hnext.out⟩
        case measure => simp [intOf]; omega
    · obtain rfl : k = 8 := by omega
      have H := Lib.hid (RPost.of_os hos)
      go_wp2_with fail
      go_ret
      exact H.out
end Go.Proofs.Ytjfmahceolhfnaa
