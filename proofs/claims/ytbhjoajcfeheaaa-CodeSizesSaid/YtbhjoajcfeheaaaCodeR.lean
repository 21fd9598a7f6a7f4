/-
  The walk of the law CodeSizes: it returns true and leaves all memory that was there. Conditions: the strings are such as memory can hold; the slice can be read.
-/
import Derived.Test.YtbhjoajcfeheaaaCodeL
namespace Go.Proofs.Ytbhjoajcfeheaaa
open Go.RowKit

theorem letters {c : UInt8} (h : 0 < wd c) : c = 116 ∨ c = 97 ∨ c = 98 ∨ c = 99 ∨ c = 100 := by
  unfold wd at h
  by_cases h1 : c = 97
  · exact .inr (.inl h1)
  · by_cases h2 : c = 98
    · exact .inr (.inr (.inl h2))
    · by_cases h3 : c = 116
      · exact .inl h3
      · by_cases h4 : c = 99
        · exact .inr (.inr (.inr (.inl h4)))
        · by_cases h5 : c = 100
          · exact .inr (.inr (.inr (.inr h5)))
          · simp [h1, h2, h3, h4, h5] at h
theorem proper_let {sh : List UInt8} (h : properB sh = true) (k : Nat) (c : UInt8) (hc : sh[k]? = some c) : 0 < wd c := by
  unfold properB at h
  simp only [Bool.and_eq_true] at h
  have := List.all_eq_true.1 h.2 c (List.mem_of_getElem? hc)
  unfold letB at this
  simp only [bne_iff_ne] at this
  omega
theorem fits_at {sh : List UInt8} {l : List CV} (hl : l.length = sh.length) (h : fitsB sh l = true) {k : Nat} {c : UInt8} {v : CV} (hc : sh[k]? = some c) (hv : l[k]? = some v) : fitB c v = true := by
  cases hf : fitB c v
  · rw [fitsB_false hl hc hv hf] at h
    cases h
  · rfl

set_option maxRecDepth 100000 in
set_option maxHeartbeats 2000000 in
theorem sizes_walk (s : ByteArray) (A : Option Addr) (cap : Nat) (l : List CV) (w : World) (hs : s.size ≤ maxLen) (hl : VR w A l) (hm : l.length ≤ maxLen) :
    Calls Try.prog 8 #[.string s, .slice A l.length cap] w fun e w' => e = .returned (.bool true) ∧ Below w.heap.size w w' := by
  have hs0 := hs
  unfold maxLen at hs
  go_enter Try.func8, Try.ntmps8
  go_wp2_with fail
  refine (alive_c _).mono ?_
  rintro e w1 ⟨rfl, hb1⟩
  by_cases hbig : (110 : Int) < (s.size : Int)
  · go_wp2_with fail
    go_ret
    exact ⟨rfl, hb1⟩
  go_wp2_with fail
  refine (few_c A cap l _ (hl.below hb1 (Nat.le_refl _)) hm).mono ?_
  rintro e w2 ⟨b, rfl, hf, hb2⟩
  have hb02 : Below w.heap.size w w2 := hb1.trans (hb2.mono hb1.size)
  cases b
  · go_wp2_with fail
    go_ret
    exact ⟨rfl, hb02⟩
  have hn : l.length ≤ 110 := hf rfl
  have hl2 := hl.below hb02 (Nat.le_refl _)
  clear hf hb1 hb2
  go_wp2_with fail
  refine (theirs_c A cap l _ hl2 (by omega)).mono ?_
  rintro e w3 ⟨A3, c3, G3, rfl, hs3, hG3, hb3⟩
  have hb03 : Below w.heap.size w w3 := hb02.trans (hb3.mono hb02.size)
  have hv3 := (VR.of_seg hs3 hl.okV).2
  clear hs3 hG3 hb3 hb02 hl2
  go_wp2_with fail
  refine (encode_c s A3 c3 l _ hs0 hv3).mono ?_
  rintro e w4 ⟨A4, n4, c4, G4, rfl, hs4, hb4⟩
  have hb04 : Below w.heap.size w w4 := hb03.trans (hb4.mono hb03.size)
  have hl4 := hl.below hb04 (Nat.le_refl _)
  have h4 := hs4.1
  rw [bc_length, Nat.mul_one] at h4
  clear hs4 hb4 hb03 hv3
  by_cases he0 : eE (bl s) l = 0
  case neg =>
    have hn4 : n4 = 0 := by rw [← h4]; unfold bE; rw [if_neg he0]; rfl
    subst hn4
    have hne : ((eE (bl s) l : Int) != 0) = true := by rw [bne_iff_ne]; omega
    generalize eE (bl s) l = ee at *
    clear h4 he0
    go_wp2_with fail
    go_ret
    exact ⟨rfl, hb04⟩
  obtain ⟨hp, hll, hfit, h4000⟩ := eE_zero.1 he0
  have H4 := Lib.hid (show n4 = (enc (bl s) l).length by rw [← h4]; unfold bE; rw [if_pos he0])
  have hn4 : (n4 : Int) ≤ 4000 := by have := H4.out; omega
  have Hp := Lib.hid hp
  have Hl := Lib.hid hll
  have Hf := Lib.hid hfit
  have hlen1 : l.length ≤ s.size := by rw [bl_length] at hll; omega
  have hlen2 : s.size ≤ l.length := by rw [bl_length] at hll; omega
  rw [he0]
  clear he0 h4 hp hll hfit h4000
  go_wp2_with fail
  go_loop [7, 33] (fun z i => ∃ k q : Nat, k ≤ s.size ∧ i = .int .i64 k ∧ z = .int .i64 q ∧ q ≤ 2010 * k ∧ Hid (q = (enc ((bl s).take k) (l.take k)).length)) (fun _ i => s.size - (intOf i).toNat)
  case atStart => exact ⟨0, 0, by omega, rfl, rfl, by omega, rfl⟩
  case round =>
    obtain ⟨k, q, hk, rfl, rfl, hq, Hq⟩ := hrel
    by_cases hlt : k < s.size
    case neg =>
      obtain rfl : k = s.size := by omega
      have hq4 : q = n4 := by
        rw [H4.out, Hq.out, List.take_of_length_le (by rw [bl_length]; exact Nat.le_refl _), List.take_of_length_le hlen1]
      subst hq4
      have hee : ((q : Int) == (q : Int)) = true := beq_self_eq_true _
      clear Hq H4
      go_wp2_with fail
      go_ret
      exact ⟨rfl, hb04⟩
    have Hg := Lib.hid (bl_get s k hlt)
    obtain ⟨v, g, off, Hv, hv1, hv2, rfl, c0, c1⟩ := hl4.at_ (show k < l.length by omega)
    have Hfit := Lib.hid (fits_at Hl.out Hf.out Hg.out Hv.out)
    have hsz := fitB_size Hfit.out
    have hlet := letters (proper_let Hp.out k _ Hg.out)
    rcases hlet with hc | hc | hc | hc | hc
    · -- 116
      have e116 : ((s[k].toNat : Int) == 116) = true := by rw [hc]; rfl
      have HL := Lib.hid (show (enc ((bl s).take (k + 1)) (l.take (k + 1))).length = q + (2 + v.s.size) by
        rw [enc_snoc Hg.out Hv.out, List.length_append, ← Hq.out, encV_length Hfit.out, hc]; rfl)
      clear hc Hq Hg Hv Hfit
      go_wp2_with fail
      go_round
      case rel => exact ⟨k + 1, q + (2 + v.s.size), by omega, by go_num, by go_num, by omega, HL.out.symm⟩
      case measure => simp [intOf]; omega
    · -- 97
      have e116 : ((s[k].toNat : Int) == 116) = false := by rw [hc]; rfl
      have e97 : ((s[k].toNat : Int) == 97) = true := by rw [hc]; rfl
      have HL := Lib.hid (show (enc ((bl s).take (k + 1)) (l.take (k + 1))).length = q + 1 by
        rw [enc_snoc Hg.out Hv.out, List.length_append, ← Hq.out, encV_n (by rw [hc]; decide), num_length, hc]; rfl)
      clear hc Hq Hg Hv Hfit
      go_wp2_with fail
      go_round
      case rel => exact ⟨k + 1, q + 1, by omega, by go_num, by go_num, by omega, HL.out.symm⟩
      case measure => simp [intOf]; omega
    · -- 98
      have e116 : ((s[k].toNat : Int) == 116) = false := by rw [hc]; rfl
      have e97 : ((s[k].toNat : Int) == 97) = false := by rw [hc]; rfl
      have e98 : ((s[k].toNat : Int) == 98) = true := by rw [hc]; rfl
      have HL := Lib.hid (show (enc ((bl s).take (k + 1)) (l.take (k + 1))).length = q + 2 by
        rw [enc_snoc Hg.out Hv.out, List.length_append, ← Hq.out, encV_n (by rw [hc]; decide), num_length, hc]; rfl)
      clear hc Hq Hg Hv Hfit
      go_wp2_with fail
      go_round
      case rel => exact ⟨k + 1, q + 2, by omega, by go_num, by go_num, by omega, HL.out.symm⟩
      case measure => simp [intOf]; omega
    · -- 99
      have e116 : ((s[k].toNat : Int) == 116) = false := by rw [hc]; rfl
      have e97 : ((s[k].toNat : Int) == 97) = false := by rw [hc]; rfl
      have e98 : ((s[k].toNat : Int) == 98) = false := by rw [hc]; rfl
      have e99 : ((s[k].toNat : Int) == 99) = true := by rw [hc]; rfl
      have HL := Lib.hid (show (enc ((bl s).take (k + 1)) (l.take (k + 1))).length = q + 4 by
        rw [enc_snoc Hg.out Hv.out, List.length_append, ← Hq.out, encV_n (by rw [hc]; decide), num_length, hc]; rfl)
      clear hc Hq Hg Hv Hfit
      go_wp2_with fail
      go_round
      case rel => exact ⟨k + 1, q + 4, by omega, by go_num, by go_num, by omega, HL.out.symm⟩
      case measure => simp [intOf]; omega
    · -- 100
      have e116 : ((s[k].toNat : Int) == 116) = false := by rw [hc]; rfl
      have e97 : ((s[k].toNat : Int) == 97) = false := by rw [hc]; rfl
      have e98 : ((s[k].toNat : Int) == 98) = false := by rw [hc]; rfl
      have e99 : ((s[k].toNat : Int) == 99) = false := by rw [hc]; rfl
      have HL := Lib.hid (show (enc ((bl s).take (k + 1)) (l.take (k + 1))).length = q + 8 by
        rw [enc_snoc Hg.out Hv.out, List.length_append, ← Hq.out, encV_n (by rw [hc]; decide), num_length, hc]; rfl)
      clear hc Hq Hg Hv Hfit
      go_wp2_with fail
      go_round
      case rel => exact ⟨k + 1, q + 8, by omega, by go_num, by go_num, by omega, HL.out.symm⟩
      case measure => simp [intOf]; omega
end Go.Proofs.Ytbhjoajcfeheaaa
