/-
  The walk of the law CodeJoins: it returns true and leaves all memory that was there. Conditions: the strings are such as memory can hold; the slices can be read.
-/
import Derived.Test.YtbhjoajcfeheaaaCodeL
namespace Go.Proofs.Ytbhjoajcfeheaaa
open Go.RowKit

theorem bl_add (s t : ByteArray) : bl (s ++ t) = bl s ++ bl t := by
  unfold bl
  rw [ByteArray.data_append, Array.toList_append]
/-- Bytes and a number that stand at two shapes, one behind the other. -/
theorem eE_join {s0 s1 : List UInt8} {l m : List CV} (h0 : eE s0 l = 0) (h1 : eE s1 m = 0) (k0 : s0.length ≤ 50) (k1 : s1.length ≤ 50) :
    ((enc s0 l).length + (enc s1 m).length ≤ 4000 ∧ eE (s0 ++ s1) (l ++ m) = 0 ∧ bE (s0 ++ s1) (l ++ m) = enc s0 l ++ enc s1 m) ∨ (4000 < (enc s0 l).length + (enc s1 m).length ∧ eE (s0 ++ s1) (l ++ m) = 3) := by
  obtain ⟨p0, l0, f0, _⟩ := eE_zero.1 h0
  obtain ⟨p1, l1, f1, _⟩ := eE_zero.1 h1
  have he := enc_append s0 s1 l m l0
  have hok : okE (s0 ++ s1) (l ++ m) = true := by
    unfold okE
    rw [fitsB_append _ _ _ _ l0, f0, f1]
    unfold properB at *
    simp only [Bool.and_eq_true, decide_eq_true_eq] at p0 p1
    have : decide ((s0 ++ s1).length ≤ 100) = true := by rw [decide_eq_true_eq, List.length_append]; omega
    rw [this, List.all_append, p0.2, p1.2]
    simp [l0, l1]
  by_cases hb : 4000 < (enc (s0 ++ s1) (l ++ m)).length
  · refine .inr ⟨?_, (eE_big hok hb).1⟩
    rw [he, List.length_append] at hb
    exact hb
  · refine .inl ⟨?_, (eE_ok hok hb).1, ?_⟩
    · rw [he, List.length_append] at hb
      omega
    · rw [(eE_ok hok hb).2, he]
theorem encode_cn (s : ByteArray) (A : Option Addr) (N cap : Nat) (l : List CV) (w : World) (hs : s.size ≤ maxLen) (hl : VR w A l) (hN : l.length = N) :
    Calls Try.prog 12 #[.string s, .slice A N cap] w (EPost w (bE (bl s) l) (eE (bl s) l)) := by
  subst hN
  exact encode_c s A cap l w hs hl
theorem okV.append {l m : List CV} (h : okV l) (k : okV m) : okV (l ++ m) := by
  intro v hv
  rcases List.mem_append.1 hv with h1 | h1
  · exact h v h1
  · exact k v h1
theorem eE_zero_b {sh : List UInt8} {l : List CV} (h : eE sh l = 0) : bE sh l = enc sh l := by unfold bE; rw [if_pos h]

set_option maxRecDepth 100000 in
set_option maxHeartbeats 2000000 in
theorem joins_walk (s0 s1 : ByteArray) (A : Option Addr) (cap : Nat) (l : List CV) (A' : Option Addr) (cap' : Nat) (m : List CV) (w : World) (hs0 : s0.size ≤ maxLen) (hs1 : s1.size ≤ maxLen) (hl : VR w A l) (hlm : l.length ≤ maxLen) (hm : VR w A' m) (hmm : m.length ≤ maxLen) :
    Calls Try.prog 9 #[.agg #[.string s0, .string s1], .slice A l.length cap, .slice A' m.length cap'] w fun e w' => e = .returned (.bool true) ∧ Below w.heap.size w w' := by
  have hz0 := hs0
  have hz1 := hs1
  unfold maxLen at hz0 hz1
  have hbx := (Below.refl w.heap.size w).alloc (Nat.le_refl _) (.cells #[.string s0, .string s1] 51)
  have hcb := CB.new w 51 #[.string s0, .string s1]
  have hlx := hl.below hbx (Nat.le_refl _)
  have hmx := hm.below hbx (Nat.le_refl _)
  go_enter Try.func9, Try.ntmps9
  go_wp2_with fail
  generalize w.alloc (.cells #[.string s0, .string s1] 51) = wx at *
  have hbox : ∀ W, Below wx.heap.size wx W → W.cell? ⟨w.heap.size, 0, none⟩ = some (.string s0) ∧ W.cell? ⟨w.heap.size, 1, none⟩ = some (.string s1) := by
    intro W hW
    have := hcb.same (hW.block _ hcb.lt)
    exact ⟨this.cell 0, this.cell 1⟩
  have Hbox := Lib.hid hbox
  clear hbox hcb hl hm
  refine (alive_c _).mono ?_
  rintro e w1 ⟨rfl, hb1⟩
  have hfin : ∀ W, Below wx.heap.size wx W → Below w.heap.size w W := fun W hW => hbx.trans (hW.mono hbx.size)
  have Hfin := Lib.hid hfin
  clear hfin hbx
  obtain ⟨c0, c1⟩ := Hbox.out _ hb1
  by_cases hg0 : (50 : Int) < (s0.size : Int)
  · go_wp2_with fail
    go_ret
    exact ⟨rfl, Hfin.out _ hb1⟩
  by_cases hg1 : (50 : Int) < (s1.size : Int)
  · go_wp2_with fail
    go_ret
    exact ⟨rfl, Hfin.out _ hb1⟩
  go_wp2_with fail
  refine (few_c A cap l _ (hlx.below hb1 (Nat.le_refl _)) hlm).mono ?_
  rintro e w2 ⟨b, rfl, hf, hb2⟩
  have hb02 : Below wx.heap.size wx w2 := hb1.trans (hb2.mono hb1.size)
  cases b
  · go_wp2_with fail
    go_ret
    exact ⟨rfl, Hfin.out _ hb02⟩
  have hln : l.length ≤ 110 := hf rfl
  clear hf hb1 hb2 c0 c1
  go_wp2_with fail
  refine (few_c A' cap' m _ (hmx.below hb02 (Nat.le_refl _)) hmm).mono ?_
  rintro e w3 ⟨b, rfl, hf, hb3⟩
  have hb03 : Below wx.heap.size wx w3 := hb02.trans (hb3.mono hb02.size)
  cases b
  · go_wp2_with fail
    go_ret
    exact ⟨rfl, Hfin.out _ hb03⟩
  have hmn : m.length ≤ 110 := hf rfl
  clear hf hb02 hb3
  have hlv := hlx.okV
  have hmv := hmx.okV
  have hb03d := hb03.drew
  have hl3 := hlx.below hb03d (Nat.le_refl _)
  obtain ⟨d0, d1⟩ := Hbox.out _ hb03
  have hln' : l.length ≤ 1000 := by omega
  have hmn' : m.length ≤ 1000 := by omega
  go_wp2_with fail
  go_region_held3 (fun W' => W'.cell? ⟨w.heap.size, 0, none⟩ = some (.string s0)) (first | exact d0 | exact x4.1 | exact x5.1) (first
    | (go_at_call 13; refine (theirs_c A cap l _ hl3 hln').mono ?_; rintro e w4 ⟨A4, c4, G4, rfl, hs4, hG4, hb4⟩; have hb04 : Below wx.heap.size wx w4 := hb03d.trans (hb4.mono hb03d.size); have hv4 := (VR.of_seg hs4 hlv).2; have x4 := Hbox.out _ hb04)
    | (go_at_call 12; refine (encode_c s0 A4 c4 l _ hs0 hv4).mono ?_; rintro e w5 ⟨A5, n5, c5, G5, rfl, hs5, hb5⟩; have hb05 : Below wx.heap.size wx w5 := hb04.trans (hb5.mono hb04.size); have x5 := Hbox.out _ hb05))
  have hbr5 := BR.of_seg hs5
  clear hs5 hb5 hb04 hv4 x4 hs4 hG4 hb4 hl3 hb03 hb03d d0 d1 x5
  have hb05d := hb05.drew
  have hm5 := hmx.below hb05d (Nat.le_refl _)
  obtain ⟨d0, d1⟩ := Hbox.out _ hb05
  go_wp2_with fail
  go_region_held3 (fun W' => W'.cell? ⟨w.heap.size, 1, none⟩ = some (.string s1)) (first | exact d1 | exact x6.2 | exact x7.2) (first
    | (go_at_call 13; refine (theirs_c A' cap' m _ hm5 hmn').mono ?_; rintro e w6 ⟨A6, c6, G6, rfl, hs6, hG6, hb6⟩; have hb06 : Below wx.heap.size wx w6 := hb05d.trans (hb6.mono hb05d.size); have hv6 := (VR.of_seg hs6 hmv).2; have x6 := Hbox.out _ hb06)
    | (go_at_call 12; refine (encode_c s1 A6 c6 m _ hs1 hv6).mono ?_; rintro e w7 ⟨A7, n7, c7, G7, rfl, hs7, hb7⟩; have hb07 : Below wx.heap.size wx w7 := hb06.trans (hb7.mono hb06.size); have x7 := Hbox.out _ hb07))
  have hbr7 := BR.of_seg hs7
  have hbr57 : BR w7 w5.heap.size A5 n5 c5 (bE (bl s0) l) := (hbr5.below (w' := w6) ⟨hb6.os, hb6.tape, hb6.output, hb6.size, hb6.block⟩ (Nat.le_refl _)).below hb7 hb6.size
  have hsz57 : w5.heap.size ≤ w7.heap.size := Nat.le_trans hb6.size hb7.size
  have hbr5b := hbr57.more hsz57
  clear hs7 hb7 hb06 hv6 x6 hs6 hG6 hb6 hm5 hb05 hb05d d0 d1 x7 hbr5 hbr57 hsz57
  by_cases he0 : eE (bl s0) l = 0
  case neg =>
    have hne : ((eE (bl s0) l : Int) != 0) = true := by rw [bne_iff_ne]; omega
    generalize eE (bl s0) l = ee at *
    generalize eE (bl s1) m = ef at *
    go_wp2_with fail
    go_ret
    exact ⟨rfl, Hfin.out _ hb07⟩
  by_cases he1 : eE (bl s1) m = 0
  case neg =>
    have hne : ((eE (bl s1) m : Int) != 0) = true := by rw [bne_iff_ne]; omega
    rw [he0]
    generalize eE (bl s1) m = ef at *
    clear he0
    go_wp2_with fail
    go_ret
    exact ⟨rfl, Hfin.out _ hb07⟩
  have hjoin := Lib.hid (eE_join he0 he1 (by rw [bl_length]; omega) (by rw [bl_length]; omega))
  rw [eE_zero_b he0] at hbr5b
  rw [eE_zero_b he1] at hbr7
  have H5 := Lib.hid hbr5b.1
  have H7 := Lib.hid hbr7.1
  have h5m : n5 ≤ 4000 := by rw [← H5.out]; exact (eE_zero.1 he0).2.2.2
  have h7m : n7 ≤ 4000 := by rw [← H7.out]; exact (eE_zero.1 he1).2.2.2
  rw [he0, he1]
  clear he0 he1
  generalize enc (bl s0) l = x0 at *
  generalize enc (bl s1) m = x1 at *
  have hb07d := hb07.drew
  have hl7 := hlx.below hb07d (Nat.le_refl _)
  obtain ⟨d0, d1⟩ := Hbox.out _ hb07
  obtain ⟨i0, hi0, hz0', hz1', hz2'⟩ := info_parts Try.infoV
  have Hi := Lib.hid hi0
  have Hz := Lib.hid hz0'
  have Hz1 := Lib.hid hz1'
  have Hz2 := Lib.hid hz2'
  obtain ⟨N, hN⟩ : ∃ N, l.length + m.length = N := ⟨_, rfl⟩
  have p1 : l.length + m.length ≤ maxLen := by simp only [maxLen]; omega
  have p2 : (l.length + m.length) * 24 ≤ 140737488355328 := by omega
  have p4 : 0 < 2 := by omega
  have HN := Lib.hid hN
  have HN2 := Lib.hid (show (l ++ m).length = N by rw [List.length_append, hN])
  have hjs : (s0 ++ s1).size ≤ maxLen := by rw [ByteArray.size_append]; simp only [maxLen]; omega
  have hbl := Lib.hid (bl_add s0 s1)
  have hadd : ¬ 9223372036854775807 < s0.size + s1.size := by omega
  clear hN hi0 hz0' hz1' hz2'
  go_wp2_with fail
  go_region_held3 (fun W' => W'.cell? ⟨w.heap.size, 0, none⟩ = some (.string s0) ∧ W'.cell? ⟨w.heap.size, 1, none⟩ = some (.string s1)) (first | exact ⟨d0, d1⟩ | exact x8 | exact x9 | exact x10 | exact x11) (first
    | (go_at_call 13; (with_reducible refine (theirs_c A cap l _ hl7 hln').mono ?_); rintro e w8 ⟨A8, c8, G8, rfl, hs8, hG8, hb8⟩; have hb08 : Below wx.heap.size wx w8 := hb07d.trans (hb8.mono hb07d.size); have hm8 := hmx.below hb08 (Nat.le_refl _); have x8 := Hbox.out _ hb08)
    | (go_at_call 13; (with_reducible refine (theirs_c A' cap' m _ hm8 hmn').mono ?_); rintro e w9 ⟨A9, c9, G9, rfl, hs9, hG9, hb9⟩; have hb09 : Below wx.heap.size wx w9 := hb08.trans (hb9.mono hb08.size); have hs89 := hs8.below hb9 (Nat.le_refl _); have hsr9 := hs9.src; have x9 := Hbox.out _ hb09)
    | (refine step_append_src _ (.tmp 64) (.tmp 66) _ (by rfl) 48 i0 _ 2 24 Try.underlying29 Hi.out Hz.out Hz1.out Hz2.out rfl p4 (by rfl) hs89 (by rfl) hsr9 (vc_one _) p1 p2 (by rfl) N HN.out ?_; intro A10 c10 G10 w10 hs10 hg10 hm10; have hb010 : Below wx.heap.size wx w10 := hb09.trans (grown_below hg10 hb09.size (fun g e => Nat.le_trans hb07d.size (hG8 g e))); have hv10 := (VR.of_seg (by rw [← vc_append] at hs10; exact hs10) (hlv.append hmv)).2; have x10 := Hbox.out _ hb010)
    | (go_at_call 12; refine (encode_cn (s0 ++ s1) A10 N c10 (l ++ m) _ hjs hv10 HN2.out).mono ?_; rintro e w11 ⟨A11, n11, c11, G11, rfl, hs11, hb11⟩; have hb011 : Below wx.heap.size wx w11 := hb010.trans (hb11.mono hb010.size); have x11 := Hbox.out _ hb011))
  rw [hbl.out] at hs11
  rw [hbl.out]
  have hb711 : Below w7.heap.size w7 w11 := by
    have e1 : Below w7.heap.size w7 w8 := ⟨hb8.os, hb8.tape, hb8.output, hb8.size, hb8.block⟩
    have e2 : Below w7.heap.size w7 w9 := e1.trans (hb9.mono e1.size)
    have e3 : Below w7.heap.size w7 w10 := e2.trans (grown_below hg10 e2.size (fun g e => hG8 g e))
    exact e3.trans (hb11.mono e3.size)
  have hcva := conv_br (hbr5b.below hb711 (Nat.le_refl _))
  have hcvb := conv_br (hbr7.below hb711 (Nat.le_refl _))
  have hcvc := conv_br (BR.of_seg hs11)
  clear hs8 hG8 hb8 hb08 hm8 x8 hs9 hG9 hb9 hb09 hs89 hsr9 x9 hs10 hg10 hm10 hb010 hv10 x10 hs11 hb11 x11 hb711 hbr5b hbr7 hl7 d0 d1 hb07 hb07d hlx hmx hjs hadd
  rcases hjoin.out with ⟨k1, k2, k3⟩ | ⟨k1, k2⟩
  · rw [k3] at hcvc
    rw [k2]
    have hee : ((mkS (x0 ++ x1)).toList == (mkS x0 ++ mkS x1).toList) = true := by
      rw [tl_bl, tl_bl, bl_add, bl_mkS, bl_mkS, bl_mkS, beq_self_eq_true]
    have h4 : (n5 : Int) + (n7 : Int) ≤ 4000 := by rw [H5.out, H7.out] at k1; omega
    have hadd : ¬ 9223372036854775807 < (mkS x0).size + (mkS x1).size := by rw [mkS_size, mkS_size]; omega
    clear k1 k2 k3 hjoin
    generalize x0 ++ x1 = xx at *
    go_wp2_with fail
    go_ret
    exact ⟨rfl, Hfin.out _ hb011⟩
  · rw [k2]
    have h4 : ¬ (n5 : Int) + (n7 : Int) ≤ 4000 := by rw [H5.out, H7.out] at k1; omega
    have h57 : n5 + n7 ≤ 9223372036854775807 := by omega
    generalize bE (bl s0 ++ bl s1) (l ++ m) = xx at *
    clear k1 k2 hjoin
    go_wp2_with fail
    go_ret
    exact ⟨rfl, Hfin.out _ hb011⟩
end Go.Proofs.Ytbhjoajcfeheaaa
