/-
  The small functions of layer 3: Sum of package sum and of the document's answer, number, clone. Conditions: the bytes can be read.
-/
import Derived.Test.YtcfdfimkgehdfaaNBytA
import Derived.Test.YtcfdfimkgehdfaaNSumM
namespace Go.Proofs.Ytcfdfimkgehdfaa.Dk
set_option maxRecDepth 100000
open Go.RowKit

theorem adl_next {bs : List UInt8} {k : Nat} {b : UInt8} (hb : bs[k]? = some b) : adl (bs.take (k + 1)) = adS (adl (bs.take k)) b := by
  obtain ⟨h1, rfl⟩ := List.getElem?_eq_some_iff.1 hb
  rw [List.take_succ_eq_append_getElem h1, adl_snoc]

theorem or_sum (X Y : Nat) (hX : X < 65521) (hY : Y < 65521) : bits .or .u32 ((Y : Int) * 65536) (X : Int) = ((Y * 65536 + X : Nat) : Int) := by
  have h1 : ((Y : Int) * 65536) = ((Y * 65536 : Nat) : Int) := by omega
  rw [h1, u32_or_nat _ _ (by omega) (by omega)]
  have := Nat.shiftLeft_add_eq_or_of_lt (show X < 2 ^ 16 by omega) Y
  rw [Nat.shiftLeft_eq] at this
  rw [← this]
theorem or_byte (q : Nat) (b : UInt8) (hq : q < 16777216) : bits .or .u32 ((q : Int) * 256) (b.toNat : Int) = ((q * 256 + b.toNat : Nat) : Int) := by
  have hb : b.toNat < 2 ^ 8 := b.toNat_lt
  have h1 : ((q : Int) * 256) = ((q * 256 : Nat) : Int) := by omega
  rw [h1, u32_or_nat _ _ (by omega) (by omega)]
  have := Nat.shiftLeft_add_eq_or_of_lt hb q
  rw [Nat.shiftLeft_eq] at this
  rw [← this]
theorem adl_pair {bs : List UInt8} {k X Y : Nat} {b : UInt8} (h1 : adl (bs.take (k + 1)) = adS (adl (bs.take k)) b) (h2 : adl (bs.take k) = (X, Y)) : adl (bs.take (k + 1)) = ((X + b.toNat) % 65521, (Y + (X + b.toNat) % 65521) % 65521) := by rw [h1, h2]; rfl
theorem ret_u32 {a b : Int} (h : a = b) : Ending.returned (.int .u32 a) = .returned (.int .u32 b) := by rw [h]
theorem sumB_end {bs : List UInt8} {n X Y : Nat} (hn : bs.length = n) (h : adl (bs.take n) = (X, Y)) : Y * 65536 + X = sumB bs := by
  rw [List.take_of_length_le (by omega)] at h
  unfold sumB
  rw [h]

set_option maxHeartbeats 400000 in
theorem sum_c (B : Nat) (A : Option Addr) (n c : Nat) (bs : List UInt8) (w : World) (hb : BR w B A n c bs) :
    Calls Try.prog 78 #[.slice A n c] w fun e w' => e = .returned (.int .u32 (sumB bs)) ∧ w = w' := by
  have hn := hb.1
  have hnm : n ≤ 9223372036854775807 := by have h1 := hb.2.1; have h2 := hb.2.2.1; simp only [maxLen] at h2; omega
  go_enter Try.func78, Try.ntmps78
  go_wp2
  go_loop [3, 4, 9] (fun x y i => ∃ k X Y : Nat, k ≤ n ∧ i = .int .i64 k ∧ x = .int .u32 X ∧ y = .int .u32 Y ∧ X < 65521 ∧ Y < 65521 ∧ Hid (adl (bs.take k) = (X, Y))) (fun _ _ i => n - (intOf i).toNat)
  case atStart => exact ⟨0, 1, 0, Nat.zero_le _, rfl, rfl, rfl, by omega, by omega, rfl⟩
  case round =>
    obtain ⟨k, X, Y, hk, rfl, rfl, rfl, hX, hY, HA⟩ := hrel
    by_cases hlt : k < n
    · obtain ⟨g, off, b, rfl, hgB, Hb, cb⟩ := hb.at_ hlt
      have HN := Lib.hid (adl_pair (adl_next Hb.out) HA.out)
      have hb8 : b.toNat < 256 := b.toNat_lt
      go_wp2_with fail
      go_round
      case rel => exact ⟨k + 1, (X + b.toNat) % 65521, (Y + (X + b.toNat) % 65521) % 65521, by omega, by go_num, by go_num, by go_num, Nat.mod_lt _ (by omega), Nat.mod_lt _ (by omega), HN.out⟩
      case measure => simp [intOf]; omega
    · obtain rfl : k = n := by omega
      have HS := Lib.hid (sumB_end hn HA.out)
      have HO := Lib.hid (or_sum X Y hX hY)
      go_wp2_with fail
      go_ret
      exact ⟨ret_u32 (by rw [HO.out, HS.out]), rfl⟩

theorem val_small {bs : List UInt8} {k : Nat} (hk : k ≤ 3) : val (bs.take k) < 16777216 := by
  have h1 := val_lt (bs.take k)
  have h2 : 256 ^ (bs.take k).length ≤ 256 ^ 3 := Nat.pow_le_pow_right (by omega) (by rw [List.length_take]; omega)
  have h3 : (256 : Nat) ^ 3 = 16777216 := rfl
  omega
theorem val_take {bs : List UInt8} {k : Nat} {b : UInt8} (hb : bs[k]? = some b) : val (bs.take (k + 1)) = val (bs.take k) * 256 + b.toNat := by
  obtain ⟨h1, rfl⟩ := List.getElem?_eq_some_iff.1 hb
  rw [List.take_succ_eq_append_getElem h1, val_snoc]

set_option maxHeartbeats 400000 in
theorem number_c (B : Nat) (A : Option Addr) (n c : Nat) (bs : List UInt8) (w : World) (hb : BR w B A n c bs) (h4 : n ≤ 4) :
    Calls Try.prog 86 #[.slice A n c] w fun e w' => e = .returned (.int .u32 (val bs)) ∧ w = w' := by
  have hn := hb.1
  go_enter Try.func86, Try.ntmps86
  go_wp2
  go_loop [3, 8] (fun x i => ∃ k q : Nat, k ≤ n ∧ i = .int .i64 k ∧ x = .int .u32 q ∧ Hid (q = val (bs.take k))) (fun _ i => n - (intOf i).toNat)
  case atStart => exact ⟨0, 0, Nat.zero_le _, rfl, rfl, rfl⟩
  case round =>
    obtain ⟨k, q, hk, rfl, rfl, Hq⟩ := hrel
    by_cases hlt : k < n
    · obtain ⟨g, off, b, rfl, hgB, Hb, cb⟩ := hb.at_ hlt
      have hq : q < 16777216 := by rw [Hq.out]; exact val_small (by omega)
      have HN := Lib.hid (show q * 256 + b.toNat = val (bs.take (k + 1)) by rw [val_take Hb.out, Hq.out])
      have hb8 : b.toNat < 256 := b.toNat_lt
      have HO := Lib.hid (or_byte q b hq)
      go_wp2_with fail
      rw [HO.out]
      go_round
      case rel => exact ⟨k + 1, q * 256 + b.toNat, by omega, by go_num, by go_num, HN.out⟩
      case measure => simp [intOf]; omega
    · obtain rfl : k = n := by omega
      have HS := Lib.hid (show q = val bs by rw [Hq.out, List.take_of_length_le (by omega)])
      go_wp2_with fail
      go_ret
      exact ⟨ret_u32 (by rw [HS.out]), rfl⟩

theorem BR.src {w : World} {B : Nat} {A : Option Addr} {n c : Nat} {bs : List UInt8} (h : BR w B A n c bs) : Src w 1 A n (bc bs) := by
  refine ⟨by rw [bc_length, h.1, Nat.mul_one], fun hn => ?_⟩
  obtain ⟨g, off, h1, _, h3⟩ := h.2.2.2 hn
  refine ⟨_, h1, fun j u hu => ?_⟩
  unfold bc at hu
  rw [List.getElem?_map] at hu
  cases hb : bs[j]? with
  | none => rw [hb] at hu; cases hu
  | some b => rw [hb] at hu; cases hu; rw [Addr.add_lit]; exact h3 j b hb

theorem BR.max {w : World} {B : Nat} {A : Option Addr} {n c : Nat} {bs : List UInt8} (h : BR w B A n c bs) : n ≤ 9223372036854775807 := by
  have h1 := h.2.1; have h2 := h.2.2.1; simp only [maxLen] at h2; omega

set_option maxHeartbeats 400000 in
theorem clone_c (B : Nat) (A : Option Addr) (n c : Nat) (bs : List UInt8) (w : World) (hb : BR w B A n c bs) (hn : n ≤ 1000000) :
    Calls Try.prog 81 #[.slice A n c] w (BPost w none bs) := by
  obtain ⟨i0, hi0, hz0, hz1, hz2⟩ := info_parts Try.infoB
  have Hi := Lib.hid hi0
  have Hz := Lib.hid hz0
  have Hz1 := Lib.hid hz1
  have Hz2 := Lib.hid hz2
  clear hi0 hz0 hz1 hz2
  have p1 : 0 + n ≤ maxLen := by simp only [maxLen]; omega
  have p2 : (0 + n) * 1 ≤ 140737488355328 := by omega
  have p4 : 0 < 1 := by omega
  have hsrc := hb.src
  clear hb
  go_enter Try.func81, Try.ntmps81
  go_wp2_with (at_builtin; refine wpList_append_src _ rfl (.const (.slice none 0 0)) (.tmp 3) _ rfl 5 i0 _ 1 1 Try.underlying30 Hi.out Hz.out Hz1.out Hz2.out rfl p4 rfl (Seg.nil w _ _) rfl hsrc (bc_one _) p1 p2 ?_; intro A1 c1 G1 w1 hs1 hg1 hm1)
  rw [List.nil_append, Nat.zero_add] at hs1
  have H := Lib.hid (show BPost w none bs (.returned (.slice A1 n c1)) w1 from ⟨A1, n, c1, G1, rfl, hs1, hg1, hm1⟩)
  clear hs1 hg1 hm1 hsrc
  go_wp2_with fail
  go_ret
  exact H.out
end Go.Proofs.Ytcfdfimkgehdfaa.Dk
