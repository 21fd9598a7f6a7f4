/-
  The walk of the law CodeBack: it returns true and leaves all memory that was there. Conditions: the strings are such as memory can hold; the slices can be read.
-/
import Derived.Test.YtbhjoajcfeheaaaCodeL
namespace Go.Proofs.Ytbhjoajcfeheaaa
open Go.RowKit

theorem eD_zero {sh b : List UInt8} (h : eD sh b = 0) : eE sh (lD sh b) = 0 ∧ bE sh (lD sh b) = b := by
  have hp : properB sh = true := by
    cases hp : properB sh
    · rw [(eD_bad hp).1] at h
      cases h
    · rfl
  cases ho : okD sh b with
  | none => rw [(eD_no hp ho).1] at h; cases h
  | some l =>
    rw [(eD_yes hp ho).2]
    obtain ⟨k1, k2, k3, k4⟩ := okD_some.1 ho
    have he : eE sh l = 0 := eE_zero.2 ⟨hp, k1, k2, by rw [k3]; exact k4⟩
    exact ⟨he, by unfold bE; rw [if_pos he, k3]⟩
theorem eE_back {sh : List UInt8} {l : List CV} (h : eE sh l = 0) : bE sh l = enc sh l ∧ eD sh (enc sh l) = 0 ∧ lD sh (enc sh l) = l ∧ ∀ k, k < (enc sh l).length → eD sh ((enc sh l).take k) = 4 := by
  obtain ⟨hp, k1, k2, k3⟩ := eE_zero.1 h
  obtain ⟨d1, d2⟩ := eD_yes (b := enc sh l) hp (okD_some.2 ⟨k1, k2, rfl, k3⟩)
  exact ⟨by unfold bE; rw [if_pos h], d1, d2, fun k hk => (eD_no hp (okD_short sh l h k hk)).1⟩

set_option maxRecDepth 100000 in
set_option maxHeartbeats 2000000 in
theorem back_walk (s : ByteArray) (A' : Option Addr) (cap' : Nat) (l : List CV) (A : Option Addr) (n cap : Nat) (bs : List UInt8) (w : World) (hs : s.size ≤ maxLen) (hl : VR w A' l) (hm : l.length ≤ maxLen) (hb : BR w w.heap.size A n cap bs) :
    Calls Try.prog 6 #[.string s, .slice A' l.length cap', .slice A n cap] w fun e w' => e = .returned (.bool true) ∧ Below w.heap.size w w' := by
  have hs0 := hs
  unfold maxLen at hs
  have hnm : n ≤ 9223372036854775807 := by have h1 := hb.2.1; have h2 := hb.2.2.1; simp only [maxLen] at h2; omega
  go_enter Try.func6, Try.ntmps6
  go_wp2_with fail
  refine (alive_c _).mono ?_
  rintro e w1 ⟨rfl, hb1⟩
  by_cases hbig : (110 : Int) < (s.size : Int)
  · go_wp2_with fail
    go_ret
    exact ⟨rfl, hb1⟩
  go_wp2_with fail
  refine (few_c A' cap' l _ (hl.below hb1 (Nat.le_refl _)) hm).mono ?_
  rintro e w2 ⟨b, rfl, hf, hb2⟩
  have hb02 : Below w.heap.size w w2 := hb1.trans (hb2.mono hb1.size)
  cases b
  · go_wp2_with fail
    go_ret
    exact ⟨rfl, hb02⟩
  have hn : l.length ≤ 110 := hf rfl
  have hl2 := hl.below hb02 (Nat.le_refl _)
  clear hf hb1 hb2
  by_cases hbig2 : (5000 : Int) < (n : Int)
  · go_wp2_with fail
    go_ret
    exact ⟨rfl, hb02⟩
  go_wp2_with fail
  refine (theirs_c A' cap' l _ hl2 (by omega)).mono ?_
  rintro e w3 ⟨A3, c3, G3, rfl, hs3, hG3, hb3⟩
  have hb03 : Below w.heap.size w w3 := hb02.trans (hb3.mono hb02.size)
  have hv3 := (VR.of_seg hs3 hl.okV).2
  clear hs3 hG3 hb3 hb02 hl2
  go_wp2_with fail
  refine (encode_c s A3 c3 l _ hs0 hv3).mono ?_
  rintro e w4 ⟨A4, n4, c4, G4, rfl, hs4, hb4⟩
  have hb04 : Below w.heap.size w w4 := hb03.trans (hb4.mono hb03.size)
  have hbr4 := BR.of_seg hs4
  have hnc4 := hs4.2.1
  clear hs4 hb4 hb03 hv3
  by_cases he0 : eE (bl s) l = 0
  · have Hk := Lib.hid (eE_back he0)
    rw [Hk.out.1] at hbr4
    rw [he0]
    clear he0
    generalize enc (bl s) l = x at *
    go_wp2_with fail
    refine (decode_c s A4 n4 c4 x _ hs0 hbr4).mono ?_
    rintro e w5 ⟨A5, c5, he5, hv5, ho5, hb5⟩
    rw [Hk.out.2.1, Hk.out.2.2.1] at he5
    rw [Hk.out.2.2.1] at hv5 ho5
    subst he5
    have hb05 : Below w.heap.size w w5 := hb04.trans (hb5.mono hb04.size)
    have hbr5 := (hbr4.below hb5 (Nat.le_refl _)).more hb5.size
    clear hb5 hb04 hbr4
    go_wp2_with fail
    refine (ours_c A5 c5 l _ hv5 (by omega)).mono ?_
    rintro e w6 ⟨A6, c6, G6, rfl, hs6, hG6, hb6⟩
    have hb06 : Below w.heap.size w w6 := hb05.trans (hb6.mono hb05.size)
    have hv6 := (VR.of_seg hs6 ho5).2
    have hl6 := hl.below hb06 (Nat.le_refl _)
    have hbr6 := (hbr5.below hb6 (Nat.le_refl _)).more hb6.size
    clear hs6 hG6 hb6 hb05 hv5 ho5 hbr5
    go_wp2_with fail
    refine (same_yes A6 A' c6 cap' l _ hv6 hl6 (by omega)).mono ?_
    rintro e w7 ⟨rfl, hb7⟩
    have hb07 : Below w.heap.size w w7 := hb06.trans (hb7.mono hb06.size)
    have hbr7 := (hbr6.below hb7 (Nat.le_refl _)).more hb7.size
    clear hb7 hb06 hv6 hl6 hbr6
    by_cases hn0 : n4 = 0
    · subst hn0
      go_wp2_with fail
      refine (decode_c s A n cap bs _ hs0 ((hb.below hb07 (Nat.le_refl _)).more hb07.size)).mono ?_
      rintro e w8 ⟨A8, c8, rfl, hv8, ho8, hb8⟩
      have hb08 : Below w.heap.size w w8 := hb07.trans (hb8.mono hb07.size)
      clear hb8 hb07
      by_cases hd0 : eD (bl s) bs = 0
      · have hk := eD_zero hd0
        have Hk := Lib.hid hk
        clear hk
        generalize lD (bl s) bs = m at *
        rw [hd0]
        clear hd0
        go_wp2_with fail
        refine (encode_c s A8 c8 m _ hs0 hv8).mono ?_
        rintro e w9 ⟨A9, n9, c9, G9, rfl, hs9, hb9⟩
        rw [Hk.out.1]
        rw [Hk.out.2] at hs9
        have hcv1 := conv_br (BR.of_seg hs9)
        have hb09 : Below w.heap.size w w9 := hb08.trans (hb9.mono hb08.size)
        have hcv2 := conv_br (hb.below hb09 (Nat.le_refl _))
        have hee : ((mkS bs).toList == (mkS bs).toList) = true := beq_self_eq_true _
        clear hs9 hb9 hb08 hv8 ho8 Hk
        go_wp2_with fail
        go_ret
        exact ⟨rfl, hb09⟩
      · have hne : ((eD (bl s) bs : Int) == 0) = false := by rw [beq_eq_false_iff_ne]; omega
        generalize lD (bl s) bs = m at *
        generalize eD (bl s) bs = ed at *
        clear hd0
        go_wp2_with fail
        go_ret
        exact ⟨rfl, hb08⟩
    · have hx := Lib.hid hbr7.1
      obtain ⟨k, rfl⟩ : ∃ k, n4 = k + 1 := ⟨n4 - 1, by omega⟩
      have hcut : ∀ W, (Instr.slice 25 (.slice A4 (k + 1) c4) none (some (.int .i64 k)) none).run Try.prog W = .ok (.slice A4 k c4) W := fun W => run_cut_upto (P := Try.prog) 25 5 Try.underlying25 1 Try.sizeB A4 (k + 1) c4 k (by omega) W
      have hbru := hbr7.upto (k := k) (by omega)
      have hk4 := Lib.hid (Hk.out.2.2.2 k (by rw [hx.out]; omega))
      have hkm : k ≤ 9223372036854775806 := by have h1 := hbr7.2.2.1; simp only [maxLen] at h1; omega
      generalize x.take k = xt at *
      clear hbr7 hn0
      go_wp2_with fail
      refine (decode_c s A4 k c4 xt _ hs0 hbru).mono ?_
      rintro e w0 ⟨A0, c0, rfl, _, _, hb0⟩
      have hb00 : Below w.heap.size w w0 := hb07.trans (hb0.mono hb07.size)
      generalize lD (bl s) xt = lx at *
      rw [hk4.out]
      clear hb0 hb07 hcut hbru hk4
      go_wp2_with fail
      refine (decode_c s A n cap bs _ hs0 ((hb.below hb00 (Nat.le_refl _)).more hb00.size)).mono ?_
      rintro e w8 ⟨A8, c8, rfl, hv8, ho8, hb8⟩
      have hb08 : Below w.heap.size w w8 := hb00.trans (hb8.mono hb00.size)
      clear hb8 hb00
      by_cases hd0 : eD (bl s) bs = 0
      · have hk := eD_zero hd0
        have Hk := Lib.hid hk
        clear hk
        generalize lD (bl s) bs = m at *
        rw [hd0]
        clear hd0
        go_wp2_with fail
        refine (encode_c s A8 c8 m _ hs0 hv8).mono ?_
        rintro e w9 ⟨A9, n9, c9, G9, rfl, hs9, hb9⟩
        rw [Hk.out.1]
        rw [Hk.out.2] at hs9
        have hcv1 := conv_br (BR.of_seg hs9)
        have hb09 : Below w.heap.size w w9 := hb08.trans (hb9.mono hb08.size)
        have hcv2 := conv_br (hb.below hb09 (Nat.le_refl _))
        have hee : ((mkS bs).toList == (mkS bs).toList) = true := beq_self_eq_true _
        clear hs9 hb9 hb08 hv8 ho8 Hk
        go_wp2_with fail
        go_ret
        exact ⟨rfl, hb09⟩
      · have hne : ((eD (bl s) bs : Int) == 0) = false := by rw [beq_eq_false_iff_ne]; omega
        generalize lD (bl s) bs = m at *
        generalize eD (bl s) bs = ed at *
        clear hd0
        go_wp2_with fail
        go_ret
        exact ⟨rfl, hb08⟩
  · have hne : ((eE (bl s) l : Int) == 0) = false := by rw [beq_eq_false_iff_ne]; omega
    generalize eE (bl s) l = ee at *
    generalize bE (bl s) l = be at *
    clear he0 hbr4
    go_wp2_with fail
    refine (decode_c s A n cap bs _ hs0 ((hb.below hb04 (Nat.le_refl _)).more hb04.size)).mono ?_
    rintro e w8 ⟨A8, c8, rfl, hv8, ho8, hb8⟩
    have hb08 : Below w.heap.size w w8 := hb04.trans (hb8.mono hb04.size)
    clear hb8 hb04
    by_cases hd0 : eD (bl s) bs = 0
    · have hk := eD_zero hd0
      have Hk := Lib.hid hk
      clear hk
      generalize lD (bl s) bs = m at *
      rw [hd0]
      clear hd0
      go_wp2_with fail
      refine (encode_c s A8 c8 m _ hs0 hv8).mono ?_
      rintro e w9 ⟨A9, n9, c9, G9, rfl, hs9, hb9⟩
      rw [Hk.out.1]
      rw [Hk.out.2] at hs9
      have hcv1 := conv_br (BR.of_seg hs9)
      have hb09 : Below w.heap.size w w9 := hb08.trans (hb9.mono hb08.size)
      have hcv2 := conv_br (hb.below hb09 (Nat.le_refl _))
      have hee : ((mkS bs).toList == (mkS bs).toList) = true := beq_self_eq_true _
      clear hs9 hb9 hb08 hv8 ho8 Hk
      go_wp2_with fail
      go_ret
      exact ⟨rfl, hb09⟩
    · have hne : ((eD (bl s) bs : Int) == 0) = false := by rw [beq_eq_false_iff_ne]; omega
      generalize lD (bl s) bs = m at *
      generalize eD (bl s) bs = ed at *
      clear hd0
      go_wp2_with fail
      go_ret
      exact ⟨rfl, hb08⟩
end Go.Proofs.Ytbhjoajcfeheaaa
