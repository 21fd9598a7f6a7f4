/-
  The walk of the law CodeRising: it returns true and leaves all memory that was there. Conditions: the numbers are of 64 bits, the letter of 8.
-/
import Derived.Test.YtbhjoajcfeheaaaCodeL
namespace Go.Proofs.Ytbhjoajcfeheaaa
open Go.RowKit

theorem fit_one {c : UInt8} (hc : ¬ c = 116) (a : Nat) : fitB c ⟨a, mkS []⟩ = decide (a < 256 ^ wd c) := by
  unfold fitB
  rw [if_neg hc]
  simp [mkS_size]
theorem ok_one {c : UInt8} (hw : 0 < wd c) (v : CV) : okE [c] [v] = fitB c v := by
  unfold okE properB
  have : letB c = true := by unfold letB; simp; omega
  simp [this, fitsB]
theorem enc_one {c : UInt8} (hc : ¬ c = 116) (a : Nat) : enc [c] [⟨a, mkS []⟩] = num a (wd c) := by
  simp only [enc, List.append_nil]
  exact encV_n hc
theorem eE_one_yes {c : UInt8} (hc : ¬ c = 116) (hw : 0 < wd c) (a : Nat) (h : a < 256 ^ wd c) : eE [c] [⟨a, mkS []⟩] = 0 ∧ bE [c] [⟨a, mkS []⟩] = num a (wd c) := by
  have h1 := eE_ok (sh := [c]) (l := [⟨a, mkS []⟩]) (by rw [ok_one hw, fit_one hc, decide_eq_true h]) (by rw [enc_one hc, num_length]; have := wd_le c; omega)
  rw [enc_one hc] at h1
  exact h1
theorem eE_one_no {c : UInt8} (hc : ¬ c = 116) (hw : 0 < wd c) (a : Nat) (h : ¬ a < 256 ^ wd c) : eE [c] [⟨a, mkS []⟩] = 2 ∧ bE [c] [⟨a, mkS []⟩] = [] :=
  eE_bad (by rw [ok_one hw, fit_one hc, decide_eq_false h])

theorem num_less : ∀ (k a b : Nat), a < 256 ^ k → b < 256 ^ k → Op.bytesLess (num a k) (num b k) = decide (a < b)
  | 0, a, b, ha, hb => by
    simp at ha hb
    subst ha hb
    rfl
  | k + 1, a, b, ha, hb => by
    have hp : 0 < 256 ^ k := Nat.pow_pos (by omega)
    rw [Nat.pow_succ] at ha hb
    have ha1 : a / 256 ^ k < 256 := (Nat.div_lt_iff_lt_mul hp).2 (by rw [Nat.mul_comm]; exact ha)
    have hb1 : b / 256 ^ k < 256 := (Nat.div_lt_iff_lt_mul hp).2 (by rw [Nat.mul_comm]; exact hb)
    have ea := Nat.div_add_mod a (256 ^ k)
    have eb := Nat.div_add_mod b (256 ^ k)
    have la := Nat.mod_lt a hp
    have lb := Nat.mod_lt b hp
    have ih := num_less k (a % 256 ^ k) (b % 256 ^ k) la lb
    rw [← num_mod a (a % 256 ^ k) k (by simp), ← num_mod b (b % 256 ^ k) k (by simp)] at ih
    simp only [num, Op.bytesLess, ih]
    have hlt : (UInt8.ofNat (a / 256 ^ k) < UInt8.ofNat (b / 256 ^ k)) ↔ a / 256 ^ k < b / 256 ^ k := by
      rw [UInt8.lt_iff_toNat_lt, UInt8.toNat_ofNat', UInt8.toNat_ofNat', Nat.mod_eq_of_lt ha1, Nat.mod_eq_of_lt hb1]
    have heq : (UInt8.ofNat (a / 256 ^ k) = UInt8.ofNat (b / 256 ^ k)) ↔ a / 256 ^ k = b / 256 ^ k := by
      rw [← UInt8.toNat_inj, UInt8.toNat_ofNat', UInt8.toNat_ofNat', Nat.mod_eq_of_lt ha1, Nat.mod_eq_of_lt hb1]
    rw [Bool.eq_iff_iff]
    simp only [Bool.or_eq_true, Bool.and_eq_true, decide_eq_true_eq, beq_iff_eq, hlt, heq]
    generalize a / 256 ^ k = qa at *
    generalize b / 256 ^ k = qb at *
    constructor
    · rintro (h | ⟨h, h2⟩)
      · have : 256 ^ k * (qa + 1) ≤ 256 ^ k * qb := Nat.mul_le_mul_left _ h
        rw [Nat.mul_add] at this
        omega
      · subst h
        omega
    · intro h
      rcases Nat.lt_trichotomy qa qb with h1 | h1 | h1
      · exact .inl h1
      · subst h1
        exact .inr ⟨rfl, by omega⟩
      · exfalso
        have : 256 ^ k * (qb + 1) ≤ 256 ^ k * qa := Nat.mul_le_mul_left _ h1
        rw [Nat.mul_add] at this
        omega

theorem vr_one (w : World) (a : Nat) (ha : a < 18446744073709551616) : VR (w.alloc (.cells #[.int .u64 a, .string ⟨#[]⟩] 48)) (some ⟨w.heap.size, 0, none⟩) [⟨a, mkS []⟩] := by
  have hcb := CB.new w 48 #[.int .u64 a, .string ⟨#[]⟩]
  intro i v hv
  match i, hv with
  | 0, hv => cases hv; exact ⟨ha, by rw [mkS_size]; exact Nat.zero_le _, _, _, rfl, by simp, hcb.cell 0, hcb.cell 1⟩

theorem hw0 : 256 ^ wd 97 = 256 := by rfl
theorem hwd0 : wd 97 = 1 := by rfl
theorem hstr0 : (ByteArray.mk #[97, 98, 99, 100]).extract 0 1 = mkS [97] := by rfl
theorem hbl0 : bl (mkS [97]) = [97] := rfl
set_option maxRecDepth 100000 in
set_option maxHeartbeats 2000000 in
theorem rising0 (a b : Nat) (x : Int) (w : World) (ha : a < 18446744073709551616) (hb : b < 18446744073709551616) (hx0 : 0 ≤ x) (hx1 : x ≤ 255) (hr : x % 4 = 0) :
    Calls Try.prog 7 #[.int .u64 a, .int .u64 b, .int .u8 x] w fun e w' => e = .returned (.bool true) ∧ Below w.heap.size w w' := by
  go_enter Try.func7, Try.ntmps7
  go_wp2_with fail
  refine (alive_c _).mono ?_
  rintro e w1 ⟨rfl, hb1⟩
  have hb1a := hb1.alloc hb1.size (.cells #[.int .u64 a, .string ⟨#[]⟩] 48)
  by_cases hsa : a < 256
  case neg =>
    have hra : ((a : Int) / 256 == 0) = false := by rw [beq_eq_false_iff_ne]; omega
    have E := Lib.hid (eE_one_no (c := 97) (by decide) (by decide) a (by rw [hw0]; exact hsa))
    clear hsa
    go_wp2_with fail
    rw [hstr0]
    refine (encode_c (mkS [97]) _ _ [⟨a, mkS []⟩] _ (by decide) (vr_one w1 a ha)).mono ?_
    rintro e w2 ⟨A2, n2, c2, G2, rfl, hs2, hb2⟩
    rw [hbl0, E.out.1]
    have hb02 : Below w.heap.size w w2 := hb1a.trans (hb2.mono hb1a.size)
    have hb2b := hb02.alloc hb02.size (.cells #[.int .u64 b, .string ⟨#[]⟩] 48)
    clear hs2 hb2 E
    go_wp2_with fail
    refine (encode_c (mkS [97]) _ _ [⟨b, mkS []⟩] _ (by decide) (vr_one w2 b hb)).mono ?_
    rintro e w3 ⟨A3, n3, c3, G3, rfl, hs3, hb3⟩
    have hb03 : Below w.heap.size w w3 := hb2b.trans (hb3.mono hb2b.size)
    generalize eE (bl (mkS [97])) [⟨b, mkS []⟩] = eb at *
    clear hs3 hb3
    go_wp2_with fail
    go_ret
    exact ⟨rfl, hb03⟩
  have hra : ((a : Int) / 256 == 0) = true := by rw [beq_iff_eq]; omega
  have E := Lib.hid (eE_one_yes (c := 97) (by decide) (by decide) a (by rw [hw0]; exact hsa))
  go_wp2_with fail
  rw [hstr0]
  refine (encode_c (mkS [97]) _ _ [⟨a, mkS []⟩] _ (by decide) (vr_one w1 a ha)).mono ?_
  rintro e w2 ⟨A2, n2, c2, G2, rfl, hs2, hb2⟩
  rw [hbl0, E.out.1]
  rw [hbl0, E.out.2, hwd0] at hs2
  have hb02 : Below w.heap.size w w2 := hb1a.trans (hb2.mono hb1a.size)
  have hb2b := hb02.alloc hb02.size (.cells #[.int .u64 b, .string ⟨#[]⟩] 48)
  have hs2b := hs2.alloc (.cells #[.int .u64 b, .string ⟨#[]⟩] 48)
  clear hb2 E
  go_wp2_with fail
  refine (encode_c (mkS [97]) _ _ [⟨b, mkS []⟩] _ (by decide) (vr_one w2 b hb)).mono ?_
  rintro e w3 ⟨A3, n3, c3, G3, rfl, hs3, hb3⟩
  have hb03 : Below w.heap.size w w3 := hb2b.trans (hb3.mono hb2b.size)
  by_cases hsb : b < 256
  case neg =>
    have Eb := Lib.hid (eE_one_no (c := 97) (by decide) (by decide) b (by rw [hw0]; exact hsb))
    rw [hbl0, Eb.out.1]
    clear Eb hsb hs3 hb3 hs2
    go_wp2_with fail
    go_ret
    exact ⟨rfl, hb03⟩
  have Eb := Lib.hid (eE_one_yes (c := 97) (by decide) (by decide) b (by rw [hw0]; exact hsb))
  rw [hbl0, Eb.out.1]
  rw [hbl0, Eb.out.2, hwd0] at hs3
  obtain rfl : n2 = 1 := by have := hs2.1; rw [bc_length, num_length] at this; omega
  obtain rfl : n3 = 1 := by have := hs3.1; rw [bc_length, num_length] at this; omega
  have hcv1 := conv_br ((BR.of_seg hs2b).below hb3 (Nat.le_refl _))
  have hcv2 := conv_br (BR.of_seg hs3)
  have hless : Op.bytesLess (mkS (num a 1)).toList (mkS (num b 1)).toList = decide (a < b) := by
    rw [tl_bl, tl_bl, bl_mkS, bl_mkS]
    exact num_less 1 a b hsa hsb
  clear hs2 hs3 hs2b hb3 Eb hb2b
  generalize num a 1 = na at *
  generalize num b 1 = nb at *
  by_cases hab : a < b
  · rw [decide_eq_true hab] at hless
    go_wp2_with fail
    go_ret
    exact ⟨rfl, hb03⟩
  · rw [decide_eq_false hab] at hless
    go_wp2_with fail
    go_ret
    exact ⟨rfl, hb03⟩

theorem hw1 : 256 ^ wd 98 = 65536 := by rfl
theorem hwd1 : wd 98 = 2 := by rfl
theorem hstr1 : (ByteArray.mk #[97, 98, 99, 100]).extract 1 2 = mkS [98] := by rfl
theorem hbl1 : bl (mkS [98]) = [98] := rfl
set_option maxRecDepth 100000 in
set_option maxHeartbeats 2000000 in
theorem rising1 (a b : Nat) (x : Int) (w : World) (ha : a < 18446744073709551616) (hb : b < 18446744073709551616) (hx0 : 0 ≤ x) (hx1 : x ≤ 255) (hr : x % 4 = 1) :
    Calls Try.prog 7 #[.int .u64 a, .int .u64 b, .int .u8 x] w fun e w' => e = .returned (.bool true) ∧ Below w.heap.size w w' := by
  go_enter Try.func7, Try.ntmps7
  go_wp2_with fail
  refine (alive_c _).mono ?_
  rintro e w1 ⟨rfl, hb1⟩
  have hb1a := hb1.alloc hb1.size (.cells #[.int .u64 a, .string ⟨#[]⟩] 48)
  by_cases hsa : a < 65536
  case neg =>
    have hra : ((a : Int) / 65536 == 0) = false := by rw [beq_eq_false_iff_ne]; omega
    have E := Lib.hid (eE_one_no (c := 98) (by decide) (by decide) a (by rw [hw1]; exact hsa))
    clear hsa
    go_wp2_with fail
    rw [hstr1]
    refine (encode_c (mkS [98]) _ _ [⟨a, mkS []⟩] _ (by decide) (vr_one w1 a ha)).mono ?_
    rintro e w2 ⟨A2, n2, c2, G2, rfl, hs2, hb2⟩
    rw [hbl1, E.out.1]
    have hb02 : Below w.heap.size w w2 := hb1a.trans (hb2.mono hb1a.size)
    have hb2b := hb02.alloc hb02.size (.cells #[.int .u64 b, .string ⟨#[]⟩] 48)
    clear hs2 hb2 E
    go_wp2_with fail
    refine (encode_c (mkS [98]) _ _ [⟨b, mkS []⟩] _ (by decide) (vr_one w2 b hb)).mono ?_
    rintro e w3 ⟨A3, n3, c3, G3, rfl, hs3, hb3⟩
    have hb03 : Below w.heap.size w w3 := hb2b.trans (hb3.mono hb2b.size)
    generalize eE (bl (mkS [98])) [⟨b, mkS []⟩] = eb at *
    clear hs3 hb3
    go_wp2_with fail
    go_ret
    exact ⟨rfl, hb03⟩
  have hra : ((a : Int) / 65536 == 0) = true := by rw [beq_iff_eq]; omega
  have E := Lib.hid (eE_one_yes (c := 98) (by decide) (by decide) a (by rw [hw1]; exact hsa))
  go_wp2_with fail
  rw [hstr1]
  refine (encode_c (mkS [98]) _ _ [⟨a, mkS []⟩] _ (by decide) (vr_one w1 a ha)).mono ?_
  rintro e w2 ⟨A2, n2, c2, G2, rfl, hs2, hb2⟩
  rw [hbl1, E.out.1]
  rw [hbl1, E.out.2, hwd1] at hs2
  have hb02 : Below w.heap.size w w2 := hb1a.trans (hb2.mono hb1a.size)
  have hb2b := hb02.alloc hb02.size (.cells #[.int .u64 b, .string ⟨#[]⟩] 48)
  have hs2b := hs2.alloc (.cells #[.int .u64 b, .string ⟨#[]⟩] 48)
  clear hb2 E
  go_wp2_with fail
  refine (encode_c (mkS [98]) _ _ [⟨b, mkS []⟩] _ (by decide) (vr_one w2 b hb)).mono ?_
  rintro e w3 ⟨A3, n3, c3, G3, rfl, hs3, hb3⟩
  have hb03 : Below w.heap.size w w3 := hb2b.trans (hb3.mono hb2b.size)
  by_cases hsb : b < 65536
  case neg =>
    have Eb := Lib.hid (eE_one_no (c := 98) (by decide) (by decide) b (by rw [hw1]; exact hsb))
    rw [hbl1, Eb.out.1]
    clear Eb hsb hs3 hb3 hs2
    go_wp2_with fail
    go_ret
    exact ⟨rfl, hb03⟩
  have Eb := Lib.hid (eE_one_yes (c := 98) (by decide) (by decide) b (by rw [hw1]; exact hsb))
  rw [hbl1, Eb.out.1]
  rw [hbl1, Eb.out.2, hwd1] at hs3
  obtain rfl : n2 = 2 := by have := hs2.1; rw [bc_length, num_length] at this; omega
  obtain rfl : n3 = 2 := by have := hs3.1; rw [bc_length, num_length] at this; omega
  have hcv1 := conv_br ((BR.of_seg hs2b).below hb3 (Nat.le_refl _))
  have hcv2 := conv_br (BR.of_seg hs3)
  have hless : Op.bytesLess (mkS (num a 2)).toList (mkS (num b 2)).toList = decide (a < b) := by
    rw [tl_bl, tl_bl, bl_mkS, bl_mkS]
    exact num_less 2 a b hsa hsb
  clear hs2 hs3 hs2b hb3 Eb hb2b
  generalize num a 2 = na at *
  generalize num b 2 = nb at *
  by_cases hab : a < b
  · rw [decide_eq_true hab] at hless
    go_wp2_with fail
    go_ret
    exact ⟨rfl, hb03⟩
  · rw [decide_eq_false hab] at hless
    go_wp2_with fail
    go_ret
    exact ⟨rfl, hb03⟩

theorem hw2 : 256 ^ wd 99 = 4294967296 := by rfl
theorem hwd2 : wd 99 = 4 := by rfl
theorem hstr2 : (ByteArray.mk #[97, 98, 99, 100]).extract 2 3 = mkS [99] := by rfl
theorem hbl2 : bl (mkS [99]) = [99] := rfl
set_option maxRecDepth 100000 in
set_option maxHeartbeats 2000000 in
theorem rising2 (a b : Nat) (x : Int) (w : World) (ha : a < 18446744073709551616) (hb : b < 18446744073709551616) (hx0 : 0 ≤ x) (hx1 : x ≤ 255) (hr : x % 4 = 2) :
    Calls Try.prog 7 #[.int .u64 a, .int .u64 b, .int .u8 x] w fun e w' => e = .returned (.bool true) ∧ Below w.heap.size w w' := by
  go_enter Try.func7, Try.ntmps7
  go_wp2_with fail
  refine (alive_c _).mono ?_
  rintro e w1 ⟨rfl, hb1⟩
  have hb1a := hb1.alloc hb1.size (.cells #[.int .u64 a, .string ⟨#[]⟩] 48)
  by_cases hsa : a < 4294967296
  case neg =>
    have hra : ((a : Int) / 4294967296 == 0) = false := by rw [beq_eq_false_iff_ne]; omega
    have E := Lib.hid (eE_one_no (c := 99) (by decide) (by decide) a (by rw [hw2]; exact hsa))
    clear hsa
    go_wp2_with fail
    rw [hstr2]
    refine (encode_c (mkS [99]) _ _ [⟨a, mkS []⟩] _ (by decide) (vr_one w1 a ha)).mono ?_
    rintro e w2 ⟨A2, n2, c2, G2, rfl, hs2, hb2⟩
    rw [hbl2, E.out.1]
    have hb02 : Below w.heap.size w w2 := hb1a.trans (hb2.mono hb1a.size)
    have hb2b := hb02.alloc hb02.size (.cells #[.int .u64 b, .string ⟨#[]⟩] 48)
    clear hs2 hb2 E
    go_wp2_with fail
    refine (encode_c (mkS [99]) _ _ [⟨b, mkS []⟩] _ (by decide) (vr_one w2 b hb)).mono ?_
    rintro e w3 ⟨A3, n3, c3, G3, rfl, hs3, hb3⟩
    have hb03 : Below w.heap.size w w3 := hb2b.trans (hb3.mono hb2b.size)
    generalize eE (bl (mkS [99])) [⟨b, mkS []⟩] = eb at *
    clear hs3 hb3
    go_wp2_with fail
    go_ret
    exact ⟨rfl, hb03⟩
  have hra : ((a : Int) / 4294967296 == 0) = true := by rw [beq_iff_eq]; omega
  have E := Lib.hid (eE_one_yes (c := 99) (by decide) (by decide) a (by rw [hw2]; exact hsa))
  go_wp2_with fail
  rw [hstr2]
  refine (encode_c (mkS [99]) _ _ [⟨a, mkS []⟩] _ (by decide) (vr_one w1 a ha)).mono ?_
  rintro e w2 ⟨A2, n2, c2, G2, rfl, hs2, hb2⟩
  rw [hbl2, E.out.1]
  rw [hbl2, E.out.2, hwd2] at hs2
  have hb02 : Below w.heap.size w w2 := hb1a.trans (hb2.mono hb1a.size)
  have hb2b := hb02.alloc hb02.size (.cells #[.int .u64 b, .string ⟨#[]⟩] 48)
  have hs2b := hs2.alloc (.cells #[.int .u64 b, .string ⟨#[]⟩] 48)
  clear hb2 E
  go_wp2_with fail
  refine (encode_c (mkS [99]) _ _ [⟨b, mkS []⟩] _ (by decide) (vr_one w2 b hb)).mono ?_
  rintro e w3 ⟨A3, n3, c3, G3, rfl, hs3, hb3⟩
  have hb03 : Below w.heap.size w w3 := hb2b.trans (hb3.mono hb2b.size)
  by_cases hsb : b < 4294967296
  case neg =>
    have Eb := Lib.hid (eE_one_no (c := 99) (by decide) (by decide) b (by rw [hw2]; exact hsb))
    rw [hbl2, Eb.out.1]
    clear Eb hsb hs3 hb3 hs2
    go_wp2_with fail
    go_ret
    exact ⟨rfl, hb03⟩
  have Eb := Lib.hid (eE_one_yes (c := 99) (by decide) (by decide) b (by rw [hw2]; exact hsb))
  rw [hbl2, Eb.out.1]
  rw [hbl2, Eb.out.2, hwd2] at hs3
  obtain rfl : n2 = 4 := by have := hs2.1; rw [bc_length, num_length] at this; omega
  obtain rfl : n3 = 4 := by have := hs3.1; rw [bc_length, num_length] at this; omega
  have hcv1 := conv_br ((BR.of_seg hs2b).below hb3 (Nat.le_refl _))
  have hcv2 := conv_br (BR.of_seg hs3)
  have hless : Op.bytesLess (mkS (num a 4)).toList (mkS (num b 4)).toList = decide (a < b) := by
    rw [tl_bl, tl_bl, bl_mkS, bl_mkS]
    exact num_less 4 a b hsa hsb
  clear hs2 hs3 hs2b hb3 Eb hb2b
  generalize num a 4 = na at *
  generalize num b 4 = nb at *
  by_cases hab : a < b
  · rw [decide_eq_true hab] at hless
    go_wp2_with fail
    go_ret
    exact ⟨rfl, hb03⟩
  · rw [decide_eq_false hab] at hless
    go_wp2_with fail
    go_ret
    exact ⟨rfl, hb03⟩

theorem hw3 : 256 ^ wd 100 = 18446744073709551616 := by rfl
theorem hwd3 : wd 100 = 8 := by rfl
theorem hstr3 : (ByteArray.mk #[97, 98, 99, 100]).extract 3 4 = mkS [100] := by rfl
theorem hbl3 : bl (mkS [100]) = [100] := rfl
set_option maxRecDepth 100000 in
set_option maxHeartbeats 2000000 in
theorem rising3 (a b : Nat) (x : Int) (w : World) (ha : a < 18446744073709551616) (hb : b < 18446744073709551616) (hx0 : 0 ≤ x) (hx1 : x ≤ 255) (hr : x % 4 = 3) :
    Calls Try.prog 7 #[.int .u64 a, .int .u64 b, .int .u8 x] w fun e w' => e = .returned (.bool true) ∧ Below w.heap.size w w' := by
  go_enter Try.func7, Try.ntmps7
  go_wp2_with fail
  refine (alive_c _).mono ?_
  rintro e w1 ⟨rfl, hb1⟩
  have hb1a := hb1.alloc hb1.size (.cells #[.int .u64 a, .string ⟨#[]⟩] 48)
  have E := Lib.hid (eE_one_yes (c := 100) (by decide) (by decide) a (by rw [hw3]; exact ha))
  go_wp2_with fail
  rw [hstr3]
  refine (encode_c (mkS [100]) _ _ [⟨a, mkS []⟩] _ (by decide) (vr_one w1 a ha)).mono ?_
  rintro e w2 ⟨A2, n2, c2, G2, rfl, hs2, hb2⟩
  rw [hbl3, E.out.1]
  rw [hbl3, E.out.2, hwd3] at hs2
  have hb02 : Below w.heap.size w w2 := hb1a.trans (hb2.mono hb1a.size)
  have hb2b := hb02.alloc hb02.size (.cells #[.int .u64 b, .string ⟨#[]⟩] 48)
  have hs2b := hs2.alloc (.cells #[.int .u64 b, .string ⟨#[]⟩] 48)
  clear hb2 E
  go_wp2_with fail
  refine (encode_c (mkS [100]) _ _ [⟨b, mkS []⟩] _ (by decide) (vr_one w2 b hb)).mono ?_
  rintro e w3 ⟨A3, n3, c3, G3, rfl, hs3, hb3⟩
  have hb03 : Below w.heap.size w w3 := hb2b.trans (hb3.mono hb2b.size)
  have Eb := Lib.hid (eE_one_yes (c := 100) (by decide) (by decide) b (by rw [hw3]; exact hb))
  rw [hbl3, Eb.out.1]
  rw [hbl3, Eb.out.2, hwd3] at hs3
  obtain rfl : n2 = 8 := by have := hs2.1; rw [bc_length, num_length] at this; omega
  obtain rfl : n3 = 8 := by have := hs3.1; rw [bc_length, num_length] at this; omega
  have hcv1 := conv_br ((BR.of_seg hs2b).below hb3 (Nat.le_refl _))
  have hcv2 := conv_br (BR.of_seg hs3)
  have hless : Op.bytesLess (mkS (num a 8)).toList (mkS (num b 8)).toList = decide (a < b) := by
    rw [tl_bl, tl_bl, bl_mkS, bl_mkS]
    exact num_less 8 a b ha hb
  clear hs2 hs3 hs2b hb3 Eb hb2b
  generalize num a 8 = na at *
  generalize num b 8 = nb at *
  by_cases hab : a < b
  · rw [decide_eq_true hab] at hless
    go_wp2_with fail
    go_ret
    exact ⟨rfl, hb03⟩
  · rw [decide_eq_false hab] at hless
    go_wp2_with fail
    go_ret
    exact ⟨rfl, hb03⟩

theorem rising_walk (a b : Nat) (x : Int) (w : World) (ha : a < 18446744073709551616) (hb : b < 18446744073709551616) (hx0 : 0 ≤ x) (hx1 : x ≤ 255) :
    Calls Try.prog 7 #[.int .u64 a, .int .u64 b, .int .u8 x] w fun e w' => e = .returned (.bool true) ∧ Below w.heap.size w w' := by
  have h : x % 4 = 0 ∨ x % 4 = 1 ∨ x % 4 = 2 ∨ x % 4 = 3 := by omega
  rcases h with h | h | h | h
  · exact rising0 a b x w ha hb hx0 hx1 h
  · exact rising1 a b x w ha hb hx0 hx1 h
  · exact rising2 a b x w ha hb hx0 hx1 h
  · exact rising3 a b x w ha hb hx0 hx1 h
end Go.Proofs.Ytbhjoajcfeheaaa
