/-
  What a call makes of a deal that it begins, package chair. Condition: the bits are a byte.
-/
import Derived.Test.YtjfmahceolhfnaaChC
set_option linter.unusedVariables false
set_option linter.unusedSimpArgs false
namespace Go.Proofs.Ytjfmahceolhfnaa
open Go.RowKit

/-- What begun hands back. -/
def eBg (r : Rd) : Nat := if r.who = 0 then 2 else Te.eNew r.now r.sp r.cap
def xBg (r : Rd) : Dl := if r.who = 0 then zeroD else dBeg r
set_option maxRecDepth 100000 in
set_option maxHeartbeats 4000000 in
theorem begun_c (r : Rd) (w : World) (hw : r.who < 256) : Calls Try.prog 40 #[.agg (rA r)] w fun zz w' => zz = .returned (.tuple #[.agg (dA (xBg r)), .int .i64 ((eBg r : Nat) : Int)]) ∧ Below w.heap.size w w' := by
  have M1 := fun W => mobiles_c r.who W hw
  have N1 := fun (A : Option Addr) (n c : Nat) (W : World) (h : RR W uc 1 A n c (mems r.who)) => new_c A n c (mems r.who) W h
  by_cases h0 : r.who = 0
  · have HE := Lib.hid (show eBg r = 2 by unfold eBg; rw [if_pos h0])
    have HS := Lib.hid (show xBg r = zeroD by unfold xBg; rw [if_pos h0])
    have hno : ¬ okL (mems r.who) := by rw [h0]; exact mems_no
    rw [eNew_2 hno, sNew_2 hno] at N1
    clear hno h0
    go_enter Try.func40, Try.ntmps40
    go_wp2_with (first | ((with_reducible refine st_box 33 _ (rA r) ?_ ?_); exact rfl))
    refine ⟨fun V1 g1 n1 f1 => ?_⟩
    have up1 : w.heap.size ≤ g1 := Nat.le_of_eq f1.at_
    have bl1 := f1.bel
    clear f1
    have l2 := le_tr (Below.refl _ _) bl1
    clear bl1
    go_wp2_with (first | ((with_reducible refine st_alloc 44 (dA zeroD) ?_ ?_); exact zero_dl))
    refine ⟨fun V3 g3 n3 f3 => ?_⟩
    have ne3_r := f3.ne n1
    have up3 : w.heap.size ≤ g3 := f3.up l2
    have bl3 := f3.bel
    clear f3
    have r4_r := le_on n1 bl3
    have l4 := le_tr l2 bl3
    clear n1 l2
    clear bl3
    have c5 : V3.cell? ⟨g1, 2, none⟩ = some (.int .u8 (r.who : Int)) := CB.cell r4_r 2
    go_wp2_with fail
    refine (M1 _).mono ?_
    rintro e w6 ⟨A1, n1, c1, rfl, hs1, b6⟩
    clear c5
    have r7_r := le_on r4_r b6
    have r7_z := le_on n3 b6
    have l7 := le_tr l4 b6
    clear r4_r n3 l4
    clear b6
    go_wp2_with fail
    refine (N1 _ _ _ _ (hs1).rr).mono ?_
    rintro e w8 ⟨rfl, b8⟩
    have r9_r := le_on r7_r b8
    have r9_z := le_on r7_z b8
    have l9 := le_tr l7 b8
    clear r7_r r7_z hs1 l7
    clear b8
    go_wp2_with (first | ((with_reducible refine st_alloc 40 (tA zeroY) ?_ ?_); exact zero_c))
    refine ⟨fun V10 g10 n10 f10 => ?_⟩
    have ne10_r := f10.ne r9_r
    have ne10_z := f10.ne r9_z
    have up10 : w.heap.size ≤ g10 := f10.up l9
    have bl10 := f10.bel
    clear f10
    have r11_r := le_on r9_r bl10
    have r11_z := le_on r9_z bl10
    have l11 := le_tr l9 bl10
    clear r9_r r9_z l9
    clear bl10
    go_wp2_with (first | ((with_reducible refine st_store 40 _ _ g10 (tA zeroY) ?_ ?_ n10 ?_ ?_ ?_ ?_); exact rfl; exact rfl; exact Try.zTc; exact rfl; exact tA_one _))
    refine ⟨fun V12 n12 k12 => ?_⟩
    have m12_r := k12.on r11_r ne10_r
    have m12_z := k12.on r11_z ne10_z
    have o12 := k12.bel _ _ l11 up10
    clear k12
    clear n10 r11_r r11_z l11
    go_wp2_with (first | ((with_reducible refine st_built0 44 (dA zeroD) ?_ ?_); exact built_d0) | ((with_reducible refine st_store 44 _ _ g3 (dA zeroD) ?_ ?_ m12_z ?_ ?_ ?_ ?_); exact rfl; exact rfl; exact Try.zDl; exact rfl; exact dA_one _))
    refine ⟨fun V13 n13 k13 => ?_⟩
    have m13_r := k13.on m12_r ne3_r
    have m13_t := k13.on n12 (Ne.symm ne10_z)
    have o13 := k13.bel _ _ o12 up3
    clear k13
    clear m12_z m12_r n12 o12
    go_wp2_with fail
    exact bodyPost_ret (v := .tuple #[.agg (dA zeroD), .int .i64 2]) (res_two Try.results40 rfl rfl n13 Try.underlying44 rfl Try.zDl) rfl ⟨(by rw [HE.out, HS.out] <;> rfl), o13⟩
  · have HE := Lib.hid (show eBg r = Te.eNew r.now r.sp r.cap by unfold eBg; rw [if_neg h0])
    have HS := Lib.hid (show xBg r = ⟨⟨memF (mems r.who), fun _ => 0, fun _ => 0⟩, Te.sNew r.now r.sp r.cap, 0⟩ by unfold xBg dBeg; rw [if_neg h0])
    have hok := mems_ok hw h0
    rw [eNew_0 hok, sNew_0 hok] at N1
    clear hok h0
    have X1 := fun W => new_m r.now r.sp r.cap W
    obtain ⟨E, hE⟩ : ∃ E, Te.eNew r.now r.sp r.cap = E := ⟨_, rfl⟩
    obtain ⟨t, ht⟩ : ∃ t, Te.sNew r.now r.sp r.cap = t := ⟨_, rfl⟩
    obtain ⟨U, hU⟩ : ∃ U : Ty, ⟨memF (mems r.who), fun _ => 0, fun _ => 0⟩ = U := ⟨_, rfl⟩
    rw [hE, ht] at X1
    rw [hE] at HE
    rw [ht, hU] at HS
    rw [hU] at N1
    clear hE ht hU
    go_enter Try.func40, Try.ntmps40
    go_wp2_with (first | ((with_reducible refine st_box 33 _ (rA r) ?_ ?_); exact rfl))
    refine ⟨fun V1 g1 n1 f1 => ?_⟩
    have up1 : w.heap.size ≤ g1 := Nat.le_of_eq f1.at_
    have bl1 := f1.bel
    clear f1
    have l2 := le_tr (Below.refl _ _) bl1
    clear bl1
    go_wp2_with (first | ((with_reducible refine st_alloc 44 (dA zeroD) ?_ ?_); exact zero_dl))
    refine ⟨fun V3 g3 n3 f3 => ?_⟩
    have ne3_r := f3.ne n1
    have up3 : w.heap.size ≤ g3 := f3.up l2
    have bl3 := f3.bel
    clear f3
    have r4_r := le_on n1 bl3
    have l4 := le_tr l2 bl3
    clear n1 l2
    clear bl3
    have c5 : V3.cell? ⟨g1, 2, none⟩ = some (.int .u8 (r.who : Int)) := CB.cell r4_r 2
    go_wp2_with fail
    refine (M1 _).mono ?_
    rintro e w6 ⟨A1, n1, c1, rfl, hs1, b6⟩
    clear c5
    have r7_r := le_on r4_r b6
    have r7_z := le_on n3 b6
    have l7 := le_tr l4 b6
    clear r4_r n3 l4
    clear b6
    go_wp2_with fail
    refine (N1 _ _ _ _ (hs1).rr).mono ?_
    rintro e w8 ⟨rfl, b8⟩
    have r9_r := le_on r7_r b8
    have r9_z := le_on r7_z b8
    have l9 := le_tr l7 b8
    clear r7_r r7_z hs1 l7
    clear b8
    go_wp2_with (first | ((with_reducible refine st_alloc 40 (tA zeroY) ?_ ?_); exact zero_c))
    refine ⟨fun V10 g10 n10 f10 => ?_⟩
    have ne10_r := f10.ne r9_r
    have ne10_z := f10.ne r9_z
    have up10 : w.heap.size ≤ g10 := f10.up l9
    have bl10 := f10.bel
    clear f10
    have r11_r := le_on r9_r bl10
    have r11_z := le_on r9_z bl10
    have l11 := le_tr l9 bl10
    clear r9_r r9_z l9
    clear bl10
    go_wp2_with (first | ((with_reducible refine st_store 40 _ _ g10 (tA U) ?_ ?_ n10 ?_ ?_ ?_ ?_); exact rfl; exact rfl; exact Try.zTc; exact rfl; exact tA_one _))
    refine ⟨fun V12 n12 k12 => ?_⟩
    have m12_r := k12.on r11_r ne10_r
    have m12_z := k12.on r11_z ne10_z
    have o12 := k12.bel _ _ l11 up10
    clear k12
    clear n10 r11_r r11_z l11
    have c13 : V12.cell? ⟨g1, 5, none⟩ = some (.int .i64 r.now) := CB.cell m12_r 5
    have c14 : V12.cell? ⟨g1, 6, none⟩ = some (.int .i64 r.sp) := CB.cell m12_r 6
    have c15 : V12.cell? ⟨g1, 7, none⟩ = some (.int .i64 r.cap) := CB.cell m12_r 7
    go_wp2_with fail
    refine (X1 _).mono ?_
    rintro e w16 ⟨rfl, b16⟩
    clear c13 c14 c15
    have r17_r := le_on m12_r b16
    have r17_z := le_on m12_z b16
    have r17_t := le_on n12 b16
    have l17 := le_tr o12 b16
    clear m12_r m12_z n12 o12
    clear b16
    go_wp2_with (first | ((with_reducible refine st_alloc 42 (mA zeroM) ?_ ?_); exact zero_tm))
    refine ⟨fun V18 g18 n18 f18 => ?_⟩
    have ne18_r := f18.ne r17_r
    have ne18_z := f18.ne r17_z
    have ne18_t := f18.ne r17_t
    have up18 : w.heap.size ≤ g18 := f18.up l17
    have bl18 := f18.bel
    clear f18
    have r19_r := le_on r17_r bl18
    have r19_z := le_on r17_z bl18
    have r19_t := le_on r17_t bl18
    have l19 := le_tr l17 bl18
    clear r17_r r17_z r17_t l17
    clear bl18
    go_wp2_with (first | ((with_reducible refine st_store 42 _ _ g18 (mA t) ?_ ?_ n18 ?_ ?_ ?_ ?_); exact rfl; exact rfl; exact Try.zTm; exact rfl; exact mA_one _))
    refine ⟨fun V20 n20 k20 => ?_⟩
    have m20_r := k20.on r19_r ne18_r
    have m20_z := k20.on r19_z ne18_z
    have m20_t := k20.on r19_t ne18_t
    have o20 := k20.bel _ _ l19 up18
    clear k20
    clear n18 r19_r r19_z r19_t l19
    go_wp2_with (first | ((with_reducible refine st_load 40 _ g10 ?_ m20_t Try.underlying40 ?_ ?_ ?_); exact rfl; exact rfl; exact Try.zTc) | ((with_reducible refine st_load 42 _ g18 ?_ n20 Try.underlying42 ?_ ?_ ?_); exact rfl; exact rfl; exact Try.zTm) | ((with_reducible refine st_built3 44 _ _ _ (.agg (tA U)) (.agg (mA t)) (.int .i64 0) (dA ⟨U, t, 0⟩) ?_ ?_ ?_ ?_ ?_); exact rfl; exact rfl; exact rfl; exact built_d _ _ _) | ((with_reducible refine st_store 44 _ _ g3 (dA (Dl.mk U t 0)) ?_ ?_ m20_z ?_ ?_ ?_ ?_); exact rfl; exact rfl; exact Try.zDl; exact rfl; exact dA_one _))
    refine ⟨fun V21 n21 k21 => ?_⟩
    have m21_r := k21.on m20_r ne3_r
    have m21_t := k21.on m20_t (Ne.symm ne10_z)
    have m21_m := k21.on n20 (Ne.symm ne18_z)
    have o21 := k21.bel _ _ o20 up3
    clear k21
    clear m20_z m20_r m20_t n20 o20
    go_wp2_with fail
    exact bodyPost_ret (v := .tuple #[.agg (dA (Dl.mk U t 0)), .int .i64 (E : Int)]) (res_two Try.results40 rfl rfl n21 Try.underlying44 rfl Try.zDl) rfl ⟨(by rw [HE.out, HS.out] <;> rfl), o21⟩
end Go.Proofs.Ytjfmahceolhfnaa
