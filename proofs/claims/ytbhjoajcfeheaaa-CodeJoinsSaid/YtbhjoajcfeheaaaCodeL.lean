/-
  The walks of the laws CodeSigns, CodeEncodes and CodeDecodes: they return true and leave all memory that was there. Conditions: the numbers are of 64 bits; the strings are such as memory can hold; the slices can be read.
-/
import Derived.Test.YtbhjoajcfeheaaaCodeK
namespace Go.Proofs.Ytbhjoajcfeheaaa
open Go.RowKit

theorem lD_len (sh b : List UInt8) : (lD sh b).length ≤ sh.length := by
  unfold lD
  split
  · cases h : okD sh b with
    | none => simp
    | some l => have := (okD_some.1 h).1; simp [this]
  · simp

set_option maxRecDepth 100000 in
set_option maxHeartbeats 1000000 in
theorem signs_walk (a b n : Int) (w : World) (h1 : -9223372036854775808 ≤ a) (h2 : a ≤ 9223372036854775807) (h3 : -9223372036854775808 ≤ b) (h4 : b ≤ 9223372036854775807) (h5 : 0 ≤ n) (h6 : n ≤ 18446744073709551615) :
    Calls Try.prog 5 #[.int .i64 a, .int .i64 b, .int .u64 n] w fun e w' => e = .returned (.bool true) ∧ Below w.heap.size w w' := by
  have e1 : a + 9223372036854775808 - 9223372036854775808 = a := by omega
  have e2 : n - 9223372036854775808 + 9223372036854775808 = n := by omega
  go_enter Try.func5, Try.ntmps5
  go_wp2_with fail
  refine (alive_c _).mono ?_
  rintro e w1 ⟨rfl, hb1⟩
  go_wp2_with (first
    | (go_at_call 19; refine (sign_c _ _ (by omega) (by omega)).mono ?_; rintro e w' ⟨rfl, rfl⟩)
    | (go_at_call 20; refine (sign_r _ _ (by omega) (by omega)).mono ?_; rintro e w' ⟨rfl, rfl⟩)
    | (go_at_call 21; refine (unsign_c _ _ (by omega) (by omega)).mono ?_; rintro e w' ⟨rfl, rfl⟩)
    | (go_at_call 22; refine (unsign_r _ _ (by omega) (by omega)).mono ?_; rintro e w' ⟨rfl, rfl⟩))
  go_ret
  exact ⟨rfl, hb1⟩

set_option maxRecDepth 100000 in
set_option maxHeartbeats 1000000 in
theorem encodes_walk (s : ByteArray) (A : Option Addr) (cap : Nat) (l : List CV) (w : World) (hs : s.size ≤ maxLen) (hl : VR w A l) (hm : l.length ≤ maxLen) :
    Calls Try.prog 3 #[.string s, .slice A l.length cap] w fun e w' => e = .returned (.bool true) ∧ Below w.heap.size w w' := by
  have hs0 := hs
  unfold maxLen at hs
  go_enter Try.func3, Try.ntmps3
  go_wp2_with fail
  refine (alive_c _).mono ?_
  rintro e w1 ⟨rfl, hb1⟩
  by_cases hbig : (110 : Int) < (s.size : Int)
  · go_wp2_with fail
    go_ret
    exact ⟨rfl, hb1⟩
  go_wp2_with fail
  refine (few_c A cap l _ (hl.below hb1 (Nat.le_refl _)) hm).mono ?_
  rintro e w2 ⟨b, rfl, hf, hb2⟩
  have hb02 : Below w.heap.size w w2 := hb1.trans (hb2.mono hb1.size)
  cases b
  · go_wp2_with fail
    go_ret
    exact ⟨rfl, hb02⟩
  have hn : l.length ≤ 110 := hf rfl
  have hl2 := hl.below hb02 (Nat.le_refl _)
  clear hf hb1 hb2
  go_wp2_with fail
  refine (theirs_c A cap l _ hl2 (by omega)).mono ?_
  rintro e w3 ⟨A3, c3, G3, rfl, hs3, hG3, hb3⟩
  have hb03 : Below w.heap.size w w3 := hb02.trans (hb3.mono hb02.size)
  have hv3 := (VR.of_seg hs3 hl.okV).2
  have hl3 := hl.below hb03 (Nat.le_refl _)
  clear hs3 hG3 hb3 hb02 hl2
  go_wp2_with fail
  refine (encode_c s A3 c3 l _ hs0 hv3).mono ?_
  rintro e w4 ⟨A4, n4, c4, G4, rfl, hs4, hb4⟩
  have hb04 : Below w.heap.size w w4 := hb03.trans (hb4.mono hb03.size)
  have hl4 := hl.below hb04 (Nat.le_refl _)
  have hbr4 := BR.of_seg hs4
  clear hs4 hb4 hb03 hl3 hv3
  go_wp2_with fail
  refine (encode_r s A cap l _ hs0 hl4).mono ?_
  rintro e w5 ⟨A5, n5, c5, G5, rfl, hs5, hb5⟩
  have hb05 : Below w.heap.size w w5 := hb04.trans (hb5.mono hb04.size)
  have hcv1 := conv_br (hbr4.below hb5 (Nat.le_refl _))
  have hcv2 := conv_br (BR.of_seg hs5)
  generalize bE (bl s) l = bs at *
  generalize eE (bl s) l = es at *
  have hee : ((mkS bs).toList == (mkS bs).toList) = true := beq_self_eq_true _
  have hes : ((es : Int) == (es : Int)) = true := beq_self_eq_true _
  clear hs5 hb5 hb04 hl4 hbr4
  go_wp2_with fail
  go_ret
  exact ⟨rfl, hb05⟩

set_option maxRecDepth 100000 in
set_option maxHeartbeats 1000000 in
theorem decodes_walk (s : ByteArray) (A : Option Addr) (n cap : Nat) (bs : List UInt8) (w : World) (hs : s.size ≤ maxLen) (hb : BR w w.heap.size A n cap bs) :
    Calls Try.prog 4 #[.string s, .slice A n cap] w fun e w' => e = .returned (.bool true) ∧ Below w.heap.size w w' := by
  have hs0 := hs
  unfold maxLen at hs
  have hnm : n ≤ 9223372036854775807 := by have h1 := hb.2.1; have h2 := hb.2.2.1; simp only [maxLen] at h2; omega
  go_enter Try.func4, Try.ntmps4
  go_wp2_with fail
  refine (alive_c _).mono ?_
  rintro e w1 ⟨rfl, hb1⟩
  by_cases hbig : (110 : Int) < (s.size : Int)
  · go_wp2_with fail
    go_ret
    exact ⟨rfl, hb1⟩
  by_cases hbig2 : (5000 : Int) < (n : Int)
  · go_wp2_with fail
    go_ret
    exact ⟨rfl, hb1⟩
  have hbr1 := (hb.below hb1 (Nat.le_refl _)).more hb1.size
  have Hlen := Lib.hid (lD_len (bl s) bs)
  go_wp2_with fail
  refine (decode_c s A n cap bs _ hs0 hbr1).mono ?_
  rintro e w2 ⟨A2, c2, rfl, hv2, ho2, hb2⟩
  have hb02 : Below w.heap.size w w2 := hb1.trans (hb2.mono hb1.size)
  have hbr2 := (hb.below hb02 (Nat.le_refl _)).more hb02.size
  clear hb2 hb1 hbr1
  go_wp2_with fail
  refine (decode_r s A n cap bs _ hs0 hbr2 (by omega)).mono ?_
  rintro e w3 ⟨A3, c3, rfl, hv3, ho3, hb3⟩
  have hb03 : Below w.heap.size w w3 := hb02.trans (hb3.mono hb02.size)
  have hv23 := hv2.below hb3 (Nat.le_refl _)
  generalize lD (bl s) bs = l at *
  generalize eD (bl s) bs = es at *
  have hl1 : l.length ≤ 1000 := by have := Hlen.out; rw [bl_length] at this; omega
  clear hb3 hbr2 hv2 hb02 hb Hlen
  go_wp2_with fail
  refine (ours_c A2 c2 l _ hv23 hl1).mono ?_
  rintro e w4 ⟨A4, c4, G4, rfl, hs4, hG4, hb4⟩
  have hb04 : Below w.heap.size w w4 := hb03.trans (hb4.mono hb03.size)
  have hv4 := (VR.of_seg hs4 ho2).2
  have hv34 := hv3.below hb4 (Nat.le_refl _)
  clear hs4 hG4 hb4 hb03 hv23 hv3
  go_wp2_with fail
  refine (same_yes A4 A3 c4 c3 l _ hv4 hv34 hl1).mono ?_
  rintro e w5 ⟨rfl, hb5⟩
  have hb05 : Below w.heap.size w w5 := hb04.trans (hb5.mono hb04.size)
  have hes : ((es : Int) == (es : Int)) = true := beq_self_eq_true _
  clear hb5 hb04 hv4 hv34
  go_wp2_with fail
  go_ret
  exact ⟨rfl, hb05⟩
end Go.Proofs.Ytbhjoajcfeheaaa
