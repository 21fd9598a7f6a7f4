/-
  The document's layer 15: Vote and Extend of a deal. No condition.
-/
import Derived.Test.YtjfmahceolhfnaaChC
set_option linter.unusedVariables false
set_option linter.unusedSimpArgs false
namespace Go.Proofs.Ytjfmahceolhfnaa
open Go.RowKit

theorem over_x (t : Te.Tm) (x : Int) (w : World) : Calls Try.prog 43 #[.agg (mA t), .int .i64 x] w fun r w' => r = .returned (.bool (Te.overT t x)) ∧ Below w.heap.size w w' := Te.over_r t.dl t.sp t.us t.cp x w
theorem extend_x (t : Te.Tm) (x : Int) (w : World) : Calls Try.prog 48 #[.agg (mA t), .int .i64 x] w fun r w' => r = .returned (.tuple #[.agg (mA (Te.sExt t x)), .int .i64 ((Te.eExt t x : Nat) : Int)]) ∧ Below w.heap.size w w' := Te.extend_r t.dl t.sp t.us t.cp x w
theorem new_x (x s m : Int) (w : World) : Calls Try.prog 46 #[.int .i64 x, .int .i64 s, .int .i64 m] w fun r w' => r = .returned (.tuple #[.agg (mA (Te.sNew x s m)), .int .i64 ((Te.eNew x s m : Nat) : Int)]) ∧ Below w.heap.size w w' := Te.new_r x s m w
/-- What the document's deal hands back. -/
def xDl (e : Dd) (r : Rd) : Dd := if eDeal e.d r = 0 then ⟨e.tx, dDeal e.d r⟩ else e
theorem xDl_z {e : Dd} {r : Rd} (h : eDeal e.d r = 0) : xDl e r = ⟨e.tx, dDeal e.d r⟩ := by unfold xDl; rw [if_pos h]
theorem xDl_n {e : Dd} {r : Rd} (h : ¬ eDeal e.d r = 0) : xDl e r = e := by unfold xDl; rw [if_neg h]
theorem eD_13 {d : Dl} {r : Rd} (h : ¬ d.out = 0) : eDeal d r = 13 := by unfold eDeal eExD eVot; rw [if_pos h, if_pos h]; split <;> rfl
theorem eD_h {d : Dl} {r : Rd} (h : d.out = 0) (h3 : r.kind = 3) (he : ¬ eHear d.ty r.who r.ep = 0) : eDeal d r = eHear d.ty r.who r.ep := by unfold eDeal eExD; rw [if_pos h3, if_neg (not_not_intro h), if_pos he]
theorem eD_x {d : Dl} {r : Rd} (h : d.out = 0) (h3 : r.kind = 3) (he : eHear d.ty r.who r.ep = 0) : eDeal d r = Te.eExt d.tm r.now := by unfold eDeal eExD; rw [if_pos h3, if_neg (not_not_intro h), if_neg (not_not_intro he)]
theorem eD_11 {d : Dl} {r : Rd} (h : d.out = 0) (h3 : ¬ r.kind = 3) (ho : Te.overT d.tm r.now = true) : eDeal d r = 11 := by unfold eDeal eVot; rw [if_neg h3, if_neg (not_not_intro h), if_pos ho]
theorem eD_p {d : Dl} {r : Rd} (h : d.out = 0) (h3 : ¬ r.kind = 3) (ho : Te.overT d.tm r.now = false) : eDeal d r = ePut d.ty r.who r.ep r.vote := by unfold eDeal eVot; rw [if_neg h3, if_neg (not_not_intro h), if_neg (by simp [ho])]
theorem dD_3 {d : Dl} {r : Rd} (h3 : r.kind = 3) : dDeal d r = dExD d r := by unfold dDeal; rw [if_pos h3]
theorem dD_2 {d : Dl} {r : Rd} (h3 : ¬ r.kind = 3) : dDeal d r = dVot d r := by unfold dDeal; rw [if_neg h3]
set_option maxRecDepth 100000 in
set_option maxHeartbeats 4000000 in
theorem deal_r (e : Dd) (r : Rd) (w : World) : Calls Try.prog 35 #[.agg (xA e), .agg (rA r)] w fun zz w' => zz = .returned (.tuple #[.agg (xA (xDl e r)), .int .i64 ((eDeal e.d r : Nat) : Int)]) ∧ Below w.heap.size w w' := by
  by_cases h0 : e.d.out = 0
  · have q0 : (e.d.out != 0) = false := by simp [h0]
    by_cases h3 : r.kind = 3
    · have q3 : (r.kind == 3) = true := by simp [h3]
      have H1 := fun W => hear_r e.d.ty r.who r.ep W
      by_cases he : eHear e.d.ty r.who r.ep = 0
      · have HE0 := Lib.hid (eD_x (r := r) h0 h3 he)
        rw [he] at H1
        have X1 := fun W => extend_x e.d.tm r.now W
        obtain ⟨U, hU⟩ : ∃ U, sHear e.d.ty r.who r.ep = U := ⟨_, rfl⟩
        obtain ⟨t, ht⟩ : ∃ t, Te.sExt e.d.tm r.now = t := ⟨_, rfl⟩
        obtain ⟨E, hE⟩ : ∃ E, Te.eExt e.d.tm r.now = E := ⟨_, rfl⟩
        rw [hU] at H1
        rw [ht, hE] at X1
        by_cases hx : E = 0
        · subst hx
          have HE := Lib.hid (HE0.out.trans hE)
          have HS := Lib.hid (show xDl e r = ⟨e.tx, U, t, e.d.out⟩ by rw [xDl_z HE.out, dD_3 h3, dExD, hU, ht])
          clear h0 h3 he hU ht hE HE0
          go_enter Try.func35, Try.ntmps35
          go_wp2_with (first | ((with_reducible refine st_box 76 _ (xA e) ?_ ?_); exact rfl))
          refine ⟨fun V1 g1 n1 f1 => ?_⟩
          have up1 : w.heap.size ≤ g1 := Nat.le_of_eq f1.at_
          have bl1 := f1.bel
          clear f1
          have l2 := le_tr (Below.refl _ _) bl1
          clear bl1
          go_wp2_with (first | ((with_reducible refine st_box 34 _ (rA r) ?_ ?_); exact rfl))
          refine ⟨fun V3 g3 n3 f3 => ?_⟩
          have ne3_e := f3.ne n1
          have up3 : w.heap.size ≤ g3 := f3.up l2
          have bl3 := f3.bel
          clear f3
          have r4_e := le_on n1 bl3
          have l4 := le_tr l2 bl3
          clear n1 l2
          clear bl3
          go_wp2_with (first | ((with_reducible refine st_alloc 76 (xA zeroX) ?_ ?_); exact zero_dr))
          refine ⟨fun V5 g5 n5 f5 => ?_⟩
          have ne5_e := f5.ne r4_e
          have ne5_r := f5.ne n3
          have up5 : w.heap.size ≤ g5 := f5.up l4
          have bl5 := f5.bel
          clear f5
          have r6_e := le_on r4_e bl5
          have r6_r := le_on n3 bl5
          have l6 := le_tr l4 bl5
          clear r4_e n3 l4
          clear bl5
          have c7 : V5.cell? ⟨g1, 29, none⟩ = some (.int .i64 e.d.out) := CB.cell r6_e 29
          have c8 : V5.cell? ⟨g3, 0, none⟩ = some (.int .i64 r.kind) := CB.cell r6_r 0
          have c9 : V5.cell? ⟨g3, 2, none⟩ = some (.int .u8 (r.who : Int)) := CB.cell r6_r 2
          have c10 : V5.cell? ⟨g3, 3, none⟩ = some (.int .i64 r.ep) := CB.cell r6_r 3
          go_wp2_with (first | ((with_reducible refine st_part 73 _ g1 1 ?_ (pt := tA e.d.ty) r6_e ?_ Try.underlying73 ?_ ?_ ?_); exact rfl; exact xA_pty _; exact rfl; exact Try.zTr))
          refine (H1 _).mono ?_
          rintro e w11 ⟨rfl, b11⟩
          clear c7 c8 c9 c10
          have r12_e := le_on r6_e b11
          have r12_r := le_on r6_r b11
          have r12_z := le_on n5 b11
          have l12 := le_tr l6 b11
          clear r6_e r6_r n5 l6
          clear b11
          go_wp2_with (first | ((with_reducible refine st_alloc 73 (tA zeroY) ?_ ?_); exact zero_r))
          refine ⟨fun V13 g13 n13 f13 => ?_⟩
          have ne13_e := f13.ne r12_e
          have ne13_r := f13.ne r12_r
          have ne13_z := f13.ne r12_z
          have up13 : w.heap.size ≤ g13 := f13.up l12
          have bl13 := f13.bel
          clear f13
          have r14_e := le_on r12_e bl13
          have r14_r := le_on r12_r bl13
          have r14_z := le_on r12_z bl13
          have l14 := le_tr l12 bl13
          clear r12_e r12_r r12_z l12
          clear bl13
          go_wp2_with (first | ((with_reducible refine st_store 73 _ _ g13 (tA U) ?_ ?_ n13 ?_ ?_ ?_ ?_); exact rfl; exact rfl; exact Try.zTr; exact rfl; exact tA_one _))
          refine ⟨fun V15 n15 k15 => ?_⟩
          have m15_e := k15.on r14_e ne13_e
          have m15_r := k15.on r14_r ne13_r
          have m15_z := k15.on r14_z ne13_z
          have o15 := k15.bel _ _ l14 up13
          clear k15
          clear n13 r14_e r14_r r14_z l14
          have c16 : V15.cell? ⟨g3, 5, none⟩ = some (.int .i64 r.now) := CB.cell m15_r 5
          go_wp2_with (first | ((with_reducible refine st_part 74 _ g1 25 ?_ (pt := mA e.d.tm) m15_e ?_ Try.underlying74 ?_ ?_ ?_); exact rfl; exact xA_ptm _; exact rfl; exact Try.zTmr))
          refine (X1 _).mono ?_
          rintro e w17 ⟨rfl, b17⟩
          clear c16
          have r18_e := le_on m15_e b17
          have r18_r := le_on m15_r b17
          have r18_z := le_on m15_z b17
          have r18_h := le_on n15 b17
          have l18 := le_tr o15 b17
          clear m15_e m15_r m15_z n15 o15
          clear b17
          go_wp2_with (first | ((with_reducible refine st_alloc 74 (mA zeroM) ?_ ?_); exact zero_tmr))
          refine ⟨fun V19 g19 n19 f19 => ?_⟩
          have ne19_e := f19.ne r18_e
          have ne19_r := f19.ne r18_r
          have ne19_z := f19.ne r18_z
          have ne19_h := f19.ne r18_h
          have up19 : w.heap.size ≤ g19 := f19.up l18
          have bl19 := f19.bel
          clear f19
          have r20_e := le_on r18_e bl19
          have r20_r := le_on r18_r bl19
          have r20_z := le_on r18_z bl19
          have r20_h := le_on r18_h bl19
          have l20 := le_tr l18 bl19
          clear r18_e r18_r r18_z r18_h l18
          clear bl19
          go_wp2_with (first | ((with_reducible refine st_store 74 _ _ g19 (mA t) ?_ ?_ n19 ?_ ?_ ?_ ?_); exact rfl; exact rfl; exact Try.zTmr; exact rfl; exact mA_one _))
          refine ⟨fun V21 n21 k21 => ?_⟩
          have m21_e := k21.on r20_e ne19_e
          have m21_r := k21.on r20_r ne19_r
          have m21_z := k21.on r20_z ne19_z
          have m21_h := k21.on r20_h ne19_h
          have o21 := k21.bel _ _ l20 up19
          clear k21
          clear n19 r20_e r20_r r20_z r20_h l20
          go_wp2_with (first | ((with_reducible refine st_load 73 _ g13 ?_ m21_h Try.underlying73 ?_ ?_ ?_); exact rfl; exact rfl; exact Try.zTr) | ((with_reducible refine st_mid 73 _ _ g1 1 (tA U) ?_ ?_ m21_e ?_ (new := xA (Dd.mk e.tx ⟨U, e.d.tm, e.d.out⟩)) ?_ ?_ ?_ ?_); exact rfl; exact rfl; exact (by decide : 1 + 24 ≤ 30); exact xA_ty _ _; exact Try.zTr; exact tA_one _))
          refine ⟨fun V22 n22 k22 => ?_⟩
          have m22_r := k22.on m21_r (Ne.symm ne3_e)
          have m22_z := k22.on m21_z (Ne.symm ne5_e)
          have m22_h := k22.on m21_h (Ne.symm ne13_e)
          have m22_t := k22.on n21 (Ne.symm ne19_e)
          have o22 := k22.bel _ _ o21 up1
          clear k22
          clear m21_e m21_r m21_z m21_h n21 o21
          go_wp2_with (first | ((with_reducible refine st_load 74 _ g19 ?_ m22_t Try.underlying74 ?_ ?_ ?_); exact rfl; exact rfl; exact Try.zTmr) | ((with_reducible refine st_mid 74 _ _ g1 25 (mA t) ?_ ?_ n22 ?_ (new := xA (Dd.mk e.tx ⟨U, t, e.d.out⟩)) ?_ ?_ ?_ ?_); exact rfl; exact rfl; exact (by decide : 25 + 4 ≤ 30); exact xA_tm _ _; exact Try.zTmr; exact mA_one _))
          refine ⟨fun V23 n23 k23 => ?_⟩
          have m23_r := k23.on m22_r (Ne.symm ne3_e)
          have m23_z := k23.on m22_z (Ne.symm ne5_e)
          have m23_h := k23.on m22_h (Ne.symm ne13_e)
          have m23_t := k23.on m22_t (Ne.symm ne19_e)
          have o23 := k23.bel _ _ o22 up1
          clear k23
          clear n22 m22_r m22_z m22_h m22_t o22
          go_wp2_with (first | ((with_reducible refine st_load 76 _ g1 ?_ n23 Try.underlying76 ?_ ?_ ?_); exact rfl; exact rfl; exact Try.zDr) | ((with_reducible refine st_store 76 _ _ g5 (xA (Dd.mk e.tx ⟨U, t, e.d.out⟩)) ?_ ?_ m23_z ?_ ?_ ?_ ?_); exact rfl; exact rfl; exact Try.zDr; exact rfl; exact xA_one _))
          refine ⟨fun V24 n24 k24 => ?_⟩
          have m24_e := k24.on n23 ne5_e
          have m24_r := k24.on m23_r ne5_r
          have m24_h := k24.on m23_h (Ne.symm ne13_z)
          have m24_t := k24.on m23_t (Ne.symm ne19_z)
          have o24 := k24.bel _ _ o23 up5
          clear k24
          clear m23_z n23 m23_r m23_h m23_t o23
          go_wp2_with fail
          exact bodyPost_ret (v := .tuple #[.agg (xA (Dd.mk e.tx ⟨U, t, e.d.out⟩)), .int .i64 0]) (res_two Try.results35 rfl rfl n24 Try.underlying76 rfl Try.zDr) rfl ⟨(by rw [HE.out, HS.out] <;> rfl), o24⟩
        have HE := Lib.hid (HE0.out.trans hE)
        have HS := Lib.hid (show xDl e r = e by rw [xDl_n (by rw [HE.out]; exact hx)])
        have q5 : ((E : Int) != 0) = true := by simp [hx]
        have q6 : (E != 0) = true := by simp [hx]
        clear h0 h3 he hU ht hE hx HE0
        go_enter Try.func35, Try.ntmps35
        go_wp2_with (first | ((with_reducible refine st_box 76 _ (xA e) ?_ ?_); exact rfl))
        refine ⟨fun V1 g1 n1 f1 => ?_⟩
        have up1 : w.heap.size ≤ g1 := Nat.le_of_eq f1.at_
        have bl1 := f1.bel
        clear f1
        have l2 := le_tr (Below.refl _ _) bl1
        clear bl1
        go_wp2_with (first | ((with_reducible refine st_box 34 _ (rA r) ?_ ?_); exact rfl))
        refine ⟨fun V3 g3 n3 f3 => ?_⟩
        have ne3_e := f3.ne n1
        have up3 : w.heap.size ≤ g3 := f3.up l2
        have bl3 := f3.bel
        clear f3
        have r4_e := le_on n1 bl3
        have l4 := le_tr l2 bl3
        clear n1 l2
        clear bl3
        go_wp2_with (first | ((with_reducible refine st_alloc 76 (xA zeroX) ?_ ?_); exact zero_dr))
        refine ⟨fun V5 g5 n5 f5 => ?_⟩
        have ne5_e := f5.ne r4_e
        have ne5_r := f5.ne n3
        have up5 : w.heap.size ≤ g5 := f5.up l4
        have bl5 := f5.bel
        clear f5
        have r6_e := le_on r4_e bl5
        have r6_r := le_on n3 bl5
        have l6 := le_tr l4 bl5
        clear r4_e n3 l4
        clear bl5
        have c7 : V5.cell? ⟨g1, 29, none⟩ = some (.int .i64 e.d.out) := CB.cell r6_e 29
        have c8 : V5.cell? ⟨g3, 0, none⟩ = some (.int .i64 r.kind) := CB.cell r6_r 0
        have c9 : V5.cell? ⟨g3, 2, none⟩ = some (.int .u8 (r.who : Int)) := CB.cell r6_r 2
        have c10 : V5.cell? ⟨g3, 3, none⟩ = some (.int .i64 r.ep) := CB.cell r6_r 3
        go_wp2_with (first | ((with_reducible refine st_part 73 _ g1 1 ?_ (pt := tA e.d.ty) r6_e ?_ Try.underlying73 ?_ ?_ ?_); exact rfl; exact xA_pty _; exact rfl; exact Try.zTr))
        refine (H1 _).mono ?_
        rintro e w11 ⟨rfl, b11⟩
        clear c7 c8 c9 c10
        have r12_e := le_on r6_e b11
        have r12_r := le_on r6_r b11
        have r12_z := le_on n5 b11
        have l12 := le_tr l6 b11
        clear r6_e r6_r n5 l6
        clear b11
        go_wp2_with (first | ((with_reducible refine st_alloc 73 (tA zeroY) ?_ ?_); exact zero_r))
        refine ⟨fun V13 g13 n13 f13 => ?_⟩
        have ne13_e := f13.ne r12_e
        have ne13_r := f13.ne r12_r
        have ne13_z := f13.ne r12_z
        have up13 : w.heap.size ≤ g13 := f13.up l12
        have bl13 := f13.bel
        clear f13
        have r14_e := le_on r12_e bl13
        have r14_r := le_on r12_r bl13
        have r14_z := le_on r12_z bl13
        have l14 := le_tr l12 bl13
        clear r12_e r12_r r12_z l12
        clear bl13
        go_wp2_with (first | ((with_reducible refine st_store 73 _ _ g13 (tA U) ?_ ?_ n13 ?_ ?_ ?_ ?_); exact rfl; exact rfl; exact Try.zTr; exact rfl; exact tA_one _))
        refine ⟨fun V15 n15 k15 => ?_⟩
        have m15_e := k15.on r14_e ne13_e
        have m15_r := k15.on r14_r ne13_r
        have m15_z := k15.on r14_z ne13_z
        have o15 := k15.bel _ _ l14 up13
        clear k15
        clear n13 r14_e r14_r r14_z l14
        have c16 : V15.cell? ⟨g3, 5, none⟩ = some (.int .i64 r.now) := CB.cell m15_r 5
        go_wp2_with (first | ((with_reducible refine st_part 74 _ g1 25 ?_ (pt := mA e.d.tm) m15_e ?_ Try.underlying74 ?_ ?_ ?_); exact rfl; exact xA_ptm _; exact rfl; exact Try.zTmr))
        refine (X1 _).mono ?_
        rintro e w17 ⟨rfl, b17⟩
        clear c16
        have r18_e := le_on m15_e b17
        have r18_r := le_on m15_r b17
        have r18_z := le_on m15_z b17
        have r18_h := le_on n15 b17
        have l18 := le_tr o15 b17
        clear m15_e m15_r m15_z n15 o15
        clear b17
        go_wp2_with (first | ((with_reducible refine st_alloc 74 (mA zeroM) ?_ ?_); exact zero_tmr))
        refine ⟨fun V19 g19 n19 f19 => ?_⟩
        have ne19_e := f19.ne r18_e
        have ne19_r := f19.ne r18_r
        have ne19_z := f19.ne r18_z
        have ne19_h := f19.ne r18_h
        have up19 : w.heap.size ≤ g19 := f19.up l18
        have bl19 := f19.bel
        clear f19
        have r20_e := le_on r18_e bl19
        have r20_r := le_on r18_r bl19
        have r20_z := le_on r18_z bl19
        have r20_h := le_on r18_h bl19
        have l20 := le_tr l18 bl19
        clear r18_e r18_r r18_z r18_h l18
        clear bl19
        go_wp2_with (first | ((with_reducible refine st_store 74 _ _ g19 (mA t) ?_ ?_ n19 ?_ ?_ ?_ ?_); exact rfl; exact rfl; exact Try.zTmr; exact rfl; exact mA_one _))
        refine ⟨fun V21 n21 k21 => ?_⟩
        have m21_e := k21.on r20_e ne19_e
        have m21_r := k21.on r20_r ne19_r
        have m21_z := k21.on r20_z ne19_z
        have m21_h := k21.on r20_h ne19_h
        have o21 := k21.bel _ _ l20 up19
        clear k21
        clear n19 r20_e r20_r r20_z r20_h l20
        go_wp2_with (first | ((with_reducible refine st_load 76 _ g1 ?_ m21_e Try.underlying76 ?_ ?_ ?_); exact rfl; exact rfl; exact Try.zDr) | ((with_reducible refine st_store 76 _ _ g5 (xA e) ?_ ?_ m21_z ?_ ?_ ?_ ?_); exact rfl; exact rfl; exact Try.zDr; exact rfl; exact xA_one _))
        refine ⟨fun V22 n22 k22 => ?_⟩
        have m22_e := k22.on m21_e ne5_e
        have m22_r := k22.on m21_r ne5_r
        have m22_h := k22.on m21_h (Ne.symm ne13_z)
        have m22_t := k22.on n21 (Ne.symm ne19_z)
        have o22 := k22.bel _ _ o21 up5
        clear k22
        clear m21_z m21_e m21_r m21_h n21 o21
        go_wp2_with fail
        exact bodyPost_ret (v := .tuple #[.agg (xA e), .int .i64 (E : Int)]) (res_two Try.results35 rfl rfl n22 Try.underlying76 rfl Try.zDr) rfl ⟨(by rw [HE.out, HS.out] <;> rfl), o22⟩
      · have HE := Lib.hid (eD_h (r := r) h0 h3 he)
        have HS := Lib.hid (show xDl e r = e by rw [xDl_n (by rw [HE.out]; exact he)])
        rw [sHear_n he] at H1
        obtain ⟨m, hm⟩ : ∃ m : Nat, eHear e.d.ty r.who r.ep = m := ⟨_, rfl⟩
        rw [hm] at H1 he
        have HE := Lib.hid (HE.out.trans hm)
        have q5 : ((m : Int) != 0) = true := by simp [he]
        have q6 : (m != 0) = true := by simp [he]
        clear hm he h0 h3
        go_enter Try.func35, Try.ntmps35
        go_wp2_with (first | ((with_reducible refine st_box 76 _ (xA e) ?_ ?_); exact rfl))
        refine ⟨fun V1 g1 n1 f1 => ?_⟩
        have up1 : w.heap.size ≤ g1 := Nat.le_of_eq f1.at_
        have bl1 := f1.bel
        clear f1
        have l2 := le_tr (Below.refl _ _) bl1
        clear bl1
        go_wp2_with (first | ((with_reducible refine st_box 34 _ (rA r) ?_ ?_); exact rfl))
        refine ⟨fun V3 g3 n3 f3 => ?_⟩
        have ne3_e := f3.ne n1
        have up3 : w.heap.size ≤ g3 := f3.up l2
        have bl3 := f3.bel
        clear f3
        have r4_e := le_on n1 bl3
        have l4 := le_tr l2 bl3
        clear n1 l2
        clear bl3
        go_wp2_with (first | ((with_reducible refine st_alloc 76 (xA zeroX) ?_ ?_); exact zero_dr))
        refine ⟨fun V5 g5 n5 f5 => ?_⟩
        have ne5_e := f5.ne r4_e
        have ne5_r := f5.ne n3
        have up5 : w.heap.size ≤ g5 := f5.up l4
        have bl5 := f5.bel
        clear f5
        have r6_e := le_on r4_e bl5
        have r6_r := le_on n3 bl5
        have l6 := le_tr l4 bl5
        clear r4_e n3 l4
        clear bl5
        have c7 : V5.cell? ⟨g1, 29, none⟩ = some (.int .i64 e.d.out) := CB.cell r6_e 29
        have c8 : V5.cell? ⟨g3, 0, none⟩ = some (.int .i64 r.kind) := CB.cell r6_r 0
        have c9 : V5.cell? ⟨g3, 2, none⟩ = some (.int .u8 (r.who : Int)) := CB.cell r6_r 2
        have c10 : V5.cell? ⟨g3, 3, none⟩ = some (.int .i64 r.ep) := CB.cell r6_r 3
        go_wp2_with (first | ((with_reducible refine st_part 73 _ g1 1 ?_ (pt := tA e.d.ty) r6_e ?_ Try.underlying73 ?_ ?_ ?_); exact rfl; exact xA_pty _; exact rfl; exact Try.zTr))
        refine (H1 _).mono ?_
        rintro e w11 ⟨rfl, b11⟩
        clear c7 c8 c9 c10
        have r12_e := le_on r6_e b11
        have r12_r := le_on r6_r b11
        have r12_z := le_on n5 b11
        have l12 := le_tr l6 b11
        clear r6_e r6_r n5 l6
        clear b11
        go_wp2_with (first | ((with_reducible refine st_alloc 73 (tA zeroY) ?_ ?_); exact zero_r))
        refine ⟨fun V13 g13 n13 f13 => ?_⟩
        have ne13_e := f13.ne r12_e
        have ne13_r := f13.ne r12_r
        have ne13_z := f13.ne r12_z
        have up13 : w.heap.size ≤ g13 := f13.up l12
        have bl13 := f13.bel
        clear f13
        have r14_e := le_on r12_e bl13
        have r14_r := le_on r12_r bl13
        have r14_z := le_on r12_z bl13
        have l14 := le_tr l12 bl13
        clear r12_e r12_r r12_z l12
        clear bl13
        go_wp2_with (first | ((with_reducible refine st_store 73 _ _ g13 (tA (e.d.ty)) ?_ ?_ n13 ?_ ?_ ?_ ?_); exact rfl; exact rfl; exact Try.zTr; exact rfl; exact tA_one _))
        refine ⟨fun V15 n15 k15 => ?_⟩
        have m15_e := k15.on r14_e ne13_e
        have m15_r := k15.on r14_r ne13_r
        have m15_z := k15.on r14_z ne13_z
        have o15 := k15.bel _ _ l14 up13
        clear k15
        clear n13 r14_e r14_r r14_z l14
        go_wp2_with (first | ((with_reducible refine st_load 76 _ g1 ?_ m15_e Try.underlying76 ?_ ?_ ?_); exact rfl; exact rfl; exact Try.zDr) | ((with_reducible refine st_store 76 _ _ g5 (xA e) ?_ ?_ m15_z ?_ ?_ ?_ ?_); exact rfl; exact rfl; exact Try.zDr; exact rfl; exact xA_one _))
        refine ⟨fun V16 n16 k16 => ?_⟩
        have m16_e := k16.on m15_e ne5_e
        have m16_r := k16.on m15_r ne5_r
        have m16_h := k16.on n15 (Ne.symm ne13_z)
        have o16 := k16.bel _ _ o15 up5
        clear k16
        clear m15_z m15_e m15_r n15 o15
        go_wp2_with fail
        exact bodyPost_ret (v := .tuple #[.agg (xA e), .int .i64 (m : Int)]) (res_two Try.results35 rfl rfl n16 Try.underlying76 rfl Try.zDr) rfl ⟨(by rw [HE.out, HS.out] <;> rfl), o16⟩
    have q3 : (r.kind == 3) = false := by simp [h3]
    have O1 := fun W => over_x e.d.tm r.now W
    cases ho : Te.overT e.d.tm r.now with
    | true =>
      have HE := Lib.hid (eD_11 (r := r) h0 h3 ho)
      have HS := Lib.hid (show xDl e r = e by rw [xDl_n (by rw [HE.out]; decide)])
      rw [ho] at O1
      clear h0 h3 ho
      go_enter Try.func35, Try.ntmps35
      go_wp2_with (first | ((with_reducible refine st_box 76 _ (xA e) ?_ ?_); exact rfl))
      refine ⟨fun V1 g1 n1 f1 => ?_⟩
      have up1 : w.heap.size ≤ g1 := Nat.le_of_eq f1.at_
      have bl1 := f1.bel
      clear f1
      have l2 := le_tr (Below.refl _ _) bl1
      clear bl1
      go_wp2_with (first | ((with_reducible refine st_box 34 _ (rA r) ?_ ?_); exact rfl))
      refine ⟨fun V3 g3 n3 f3 => ?_⟩
      have ne3_e := f3.ne n1
      have up3 : w.heap.size ≤ g3 := f3.up l2
      have bl3 := f3.bel
      clear f3
      have r4_e := le_on n1 bl3
      have l4 := le_tr l2 bl3
      clear n1 l2
      clear bl3
      go_wp2_with (first | ((with_reducible refine st_alloc 76 (xA zeroX) ?_ ?_); exact zero_dr))
      refine ⟨fun V5 g5 n5 f5 => ?_⟩
      have ne5_e := f5.ne r4_e
      have ne5_r := f5.ne n3
      have up5 : w.heap.size ≤ g5 := f5.up l4
      have bl5 := f5.bel
      clear f5
      have r6_e := le_on r4_e bl5
      have r6_r := le_on n3 bl5
      have l6 := le_tr l4 bl5
      clear r4_e n3 l4
      clear bl5
      have c7 : V5.cell? ⟨g1, 29, none⟩ = some (.int .i64 e.d.out) := CB.cell r6_e 29
      have c8 : V5.cell? ⟨g3, 0, none⟩ = some (.int .i64 r.kind) := CB.cell r6_r 0
      have c9 : V5.cell? ⟨g3, 5, none⟩ = some (.int .i64 r.now) := CB.cell r6_r 5
      go_wp2_with (first | ((with_reducible refine st_part 74 _ g1 25 ?_ (pt := mA e.d.tm) r6_e ?_ Try.underlying74 ?_ ?_ ?_); exact rfl; exact xA_ptm _; exact rfl; exact Try.zTmr))
      refine (O1 _).mono ?_
      rintro e w10 ⟨rfl, b10⟩
      clear c7 c8 c9
      have r11_e := le_on r6_e b10
      have r11_r := le_on r6_r b10
      have r11_z := le_on n5 b10
      have l11 := le_tr l6 b10
      clear r6_e r6_r n5 l6
      clear b10
      go_wp2_with (first | ((with_reducible refine st_load 76 _ g1 ?_ r11_e Try.underlying76 ?_ ?_ ?_); exact rfl; exact rfl; exact Try.zDr) | ((with_reducible refine st_store 76 _ _ g5 (xA e) ?_ ?_ r11_z ?_ ?_ ?_ ?_); exact rfl; exact rfl; exact Try.zDr; exact rfl; exact xA_one _))
      refine ⟨fun V12 n12 k12 => ?_⟩
      have m12_e := k12.on r11_e ne5_e
      have m12_r := k12.on r11_r ne5_r
      have o12 := k12.bel _ _ l11 up5
      clear k12
      clear r11_z r11_e r11_r l11
      go_wp2_with fail
      exact bodyPost_ret (v := .tuple #[.agg (xA e), .int .i64 11]) (res_two Try.results35 rfl rfl n12 Try.underlying76 rfl Try.zDr) rfl ⟨(by rw [HE.out, HS.out] <;> rfl), o12⟩
    | false =>
      have HE0 := Lib.hid (eD_p (r := r) h0 h3 ho)
      rw [ho] at O1
      have P1 := fun W => put_r e.d.ty r.who r.ep r.vote W
      obtain ⟨U, hU⟩ : ∃ U, sPut e.d.ty r.who r.ep r.vote = U := ⟨_, rfl⟩
      obtain ⟨E, hE⟩ : ∃ E, ePut e.d.ty r.who r.ep r.vote = E := ⟨_, rfl⟩
      rw [hU, hE] at P1
      by_cases hx : E = 0
      · subst hx
        have HE := Lib.hid (HE0.out.trans hE)
        have HS := Lib.hid (show xDl e r = ⟨e.tx, U, e.d.tm, outY U⟩ by rw [xDl_z HE.out, dD_2 h3, dVot, hU])
        have U1 := fun W => out_r U W
        clear h0 h3 ho hU hE HE0
        go_enter Try.func35, Try.ntmps35
        go_wp2_with (first | ((with_reducible refine st_box 76 _ (xA e) ?_ ?_); exact rfl))
        refine ⟨fun V1 g1 n1 f1 => ?_⟩
        have up1 : w.heap.size ≤ g1 := Nat.le_of_eq f1.at_
        have bl1 := f1.bel
        clear f1
        have l2 := le_tr (Below.refl _ _) bl1
        clear bl1
        go_wp2_with (first | ((with_reducible refine st_box 34 _ (rA r) ?_ ?_); exact rfl))
        refine ⟨fun V3 g3 n3 f3 => ?_⟩
        have ne3_e := f3.ne n1
        have up3 : w.heap.size ≤ g3 := f3.up l2
        have bl3 := f3.bel
        clear f3
        have r4_e := le_on n1 bl3
        have l4 := le_tr l2 bl3
        clear n1 l2
        clear bl3
        go_wp2_with (first | ((with_reducible refine st_alloc 76 (xA zeroX) ?_ ?_); exact zero_dr))
        refine ⟨fun V5 g5 n5 f5 => ?_⟩
        have ne5_e := f5.ne r4_e
        have ne5_r := f5.ne n3
        have up5 : w.heap.size ≤ g5 := f5.up l4
        have bl5 := f5.bel
        clear f5
        have r6_e := le_on r4_e bl5
        have r6_r := le_on n3 bl5
        have l6 := le_tr l4 bl5
        clear r4_e n3 l4
        clear bl5
        have c7 : V5.cell? ⟨g1, 29, none⟩ = some (.int .i64 e.d.out) := CB.cell r6_e 29
        have c8 : V5.cell? ⟨g3, 0, none⟩ = some (.int .i64 r.kind) := CB.cell r6_r 0
        have c9 : V5.cell? ⟨g3, 5, none⟩ = some (.int .i64 r.now) := CB.cell r6_r 5
        go_wp2_with (first | ((with_reducible refine st_part 74 _ g1 25 ?_ (pt := mA e.d.tm) r6_e ?_ Try.underlying74 ?_ ?_ ?_); exact rfl; exact xA_ptm _; exact rfl; exact Try.zTmr))
        refine (O1 _).mono ?_
        rintro e w10 ⟨rfl, b10⟩
        clear c7 c8 c9
        have r11_e := le_on r6_e b10
        have r11_r := le_on r6_r b10
        have r11_z := le_on n5 b10
        have l11 := le_tr l6 b10
        clear r6_e r6_r n5 l6
        clear b10
        have c12 : w10.cell? ⟨g3, 2, none⟩ = some (.int .u8 (r.who : Int)) := CB.cell r11_r 2
        have c13 : w10.cell? ⟨g3, 3, none⟩ = some (.int .i64 r.ep) := CB.cell r11_r 3
        have c14 : w10.cell? ⟨g3, 4, none⟩ = some (.int .i64 r.vote) := CB.cell r11_r 4
        go_wp2_with (first | ((with_reducible refine st_part 73 _ g1 1 ?_ (pt := tA e.d.ty) r11_e ?_ Try.underlying73 ?_ ?_ ?_); exact rfl; exact xA_pty _; exact rfl; exact Try.zTr))
        refine (P1 _).mono ?_
        rintro e w15 ⟨rfl, b15⟩
        clear c12 c13 c14
        have r16_e := le_on r11_e b15
        have r16_r := le_on r11_r b15
        have r16_z := le_on r11_z b15
        have l16 := le_tr l11 b15
        clear r11_e r11_r r11_z l11
        clear b15
        go_wp2_with (first | ((with_reducible refine st_alloc 73 (tA zeroY) ?_ ?_); exact zero_r))
        refine ⟨fun V17 g17 n17 f17 => ?_⟩
        have ne17_e := f17.ne r16_e
        have ne17_r := f17.ne r16_r
        have ne17_z := f17.ne r16_z
        have up17 : w.heap.size ≤ g17 := f17.up l16
        have bl17 := f17.bel
        clear f17
        have r18_e := le_on r16_e bl17
        have r18_r := le_on r16_r bl17
        have r18_z := le_on r16_z bl17
        have l18 := le_tr l16 bl17
        clear r16_e r16_r r16_z l16
        clear bl17
        go_wp2_with (first | ((with_reducible refine st_store 73 _ _ g17 (tA U) ?_ ?_ n17 ?_ ?_ ?_ ?_); exact rfl; exact rfl; exact Try.zTr; exact rfl; exact tA_one _))
        refine ⟨fun V19 n19 k19 => ?_⟩
        have m19_e := k19.on r18_e ne17_e
        have m19_r := k19.on r18_r ne17_r
        have m19_z := k19.on r18_z ne17_z
        have o19 := k19.bel _ _ l18 up17
        clear k19
        clear n17 r18_e r18_r r18_z l18
        go_wp2_with (first | ((with_reducible refine st_load 73 _ g17 ?_ n19 Try.underlying73 ?_ ?_ ?_); exact rfl; exact rfl; exact Try.zTr) | ((with_reducible refine st_mid 73 _ _ g1 1 (tA U) ?_ ?_ m19_e ?_ (new := xA (Dd.mk e.tx ⟨U, e.d.tm, e.d.out⟩)) ?_ ?_ ?_ ?_); exact rfl; exact rfl; exact (by decide : 1 + 24 ≤ 30); exact xA_ty _ _; exact Try.zTr; exact tA_one _))
        refine ⟨fun V20 n20 k20 => ?_⟩
        have m20_r := k20.on m19_r (Ne.symm ne3_e)
        have m20_z := k20.on m19_z (Ne.symm ne5_e)
        have m20_v := k20.on n19 (Ne.symm ne17_e)
        have o20 := k20.bel _ _ o19 up1
        clear k20
        clear m19_e m19_r m19_z n19 o19
        go_wp2_with (first | ((with_reducible refine st_load 73 _ g17 ?_ m20_v Try.underlying73 ?_ ?_ ?_); exact rfl; exact rfl; exact Try.zTr))
        refine (U1 _).mono ?_
        rintro e w21 ⟨rfl, b21⟩
        have r22_e := le_on n20 b21
        have r22_r := le_on m20_r b21
        have r22_z := le_on m20_z b21
        have r22_v := le_on m20_v b21
        have l22 := le_tr o20 b21
        clear n20 m20_r m20_z m20_v o20
        clear b21
        go_wp2_with (first | ((with_reducible refine st_cell 3 _ _ g1 29 (.int .i64 (outY U)) ?_ ?_ r22_e (new := xA (Dd.mk e.tx ⟨U, e.d.tm, outY U⟩)) ?_ ?_ ?_ ?_ ?_ ?_); exact rfl; exact rfl; exact (by rw [xA_size]; decide); exact xA_out _ _; exact one_i; exact rfl; exact rfl))
        refine ⟨fun V23 n23 k23 => ?_⟩
        have m23_r := k23.on r22_r (Ne.symm ne3_e)
        have m23_z := k23.on r22_z (Ne.symm ne5_e)
        have m23_v := k23.on r22_v (Ne.symm ne17_e)
        have o23 := k23.bel _ _ l22 up1
        clear k23
        clear r22_e r22_r r22_z r22_v l22
        go_wp2_with (first | ((with_reducible refine st_load 76 _ g1 ?_ n23 Try.underlying76 ?_ ?_ ?_); exact rfl; exact rfl; exact Try.zDr) | ((with_reducible refine st_store 76 _ _ g5 (xA (Dd.mk e.tx ⟨U, e.d.tm, outY U⟩)) ?_ ?_ m23_z ?_ ?_ ?_ ?_); exact rfl; exact rfl; exact Try.zDr; exact rfl; exact xA_one _))
        refine ⟨fun V24 n24 k24 => ?_⟩
        have m24_e := k24.on n23 ne5_e
        have m24_r := k24.on m23_r ne5_r
        have m24_v := k24.on m23_v (Ne.symm ne17_z)
        have o24 := k24.bel _ _ o23 up5
        clear k24
        clear m23_z n23 m23_r m23_v o23
        go_wp2_with fail
        exact bodyPost_ret (v := .tuple #[.agg (xA (Dd.mk e.tx ⟨U, e.d.tm, outY U⟩)), .int .i64 0]) (res_two Try.results35 rfl rfl n24 Try.underlying76 rfl Try.zDr) rfl ⟨(by rw [HE.out, HS.out] <;> rfl), o24⟩
      have HE := Lib.hid (HE0.out.trans hE)
      have HS := Lib.hid (show xDl e r = e by rw [xDl_n (by rw [HE.out]; exact hx)])
      have q5 : ((E : Int) != 0) = true := by simp [hx]
      have q6 : (E != 0) = true := by simp [hx]
      clear h0 h3 ho hU hE hx HE0
      go_enter Try.func35, Try.ntmps35
      go_wp2_with (first | ((with_reducible refine st_box 76 _ (xA e) ?_ ?_); exact rfl))
      refine ⟨fun V1 g1 n1 f1 => ?_⟩
      have up1 : w.heap.size ≤ g1 := Nat.le_of_eq f1.at_
      have bl1 := f1.bel
      clear f1
      have l2 := le_tr (Below.refl _ _) bl1
      clear bl1
      go_wp2_with (first | ((with_reducible refine st_box 34 _ (rA r) ?_ ?_); exact rfl))
      refine ⟨fun V3 g3 n3 f3 => ?_⟩
      have ne3_e := f3.ne n1
      have up3 : w.heap.size ≤ g3 := f3.up l2
      have bl3 := f3.bel
      clear f3
      have r4_e := le_on n1 bl3
      have l4 := le_tr l2 bl3
      clear n1 l2
      clear bl3
      go_wp2_with (first | ((with_reducible refine st_alloc 76 (xA zeroX) ?_ ?_); exact zero_dr))
      refine ⟨fun V5 g5 n5 f5 => ?_⟩
      have ne5_e := f5.ne r4_e
      have ne5_r := f5.ne n3
      have up5 : w.heap.size ≤ g5 := f5.up l4
      have bl5 := f5.bel
      clear f5
      have r6_e := le_on r4_e bl5
      have r6_r := le_on n3 bl5
      have l6 := le_tr l4 bl5
      clear r4_e n3 l4
      clear bl5
      have c7 : V5.cell? ⟨g1, 29, none⟩ = some (.int .i64 e.d.out) := CB.cell r6_e 29
      have c8 : V5.cell? ⟨g3, 0, none⟩ = some (.int .i64 r.kind) := CB.cell r6_r 0
      have c9 : V5.cell? ⟨g3, 5, none⟩ = some (.int .i64 r.now) := CB.cell r6_r 5
      go_wp2_with (first | ((with_reducible refine st_part 74 _ g1 25 ?_ (pt := mA e.d.tm) r6_e ?_ Try.underlying74 ?_ ?_ ?_); exact rfl; exact xA_ptm _; exact rfl; exact Try.zTmr))
      refine (O1 _).mono ?_
      rintro e w10 ⟨rfl, b10⟩
      clear c7 c8 c9
      have r11_e := le_on r6_e b10
      have r11_r := le_on r6_r b10
      have r11_z := le_on n5 b10
      have l11 := le_tr l6 b10
      clear r6_e r6_r n5 l6
      clear b10
      have c12 : w10.cell? ⟨g3, 2, none⟩ = some (.int .u8 (r.who : Int)) := CB.cell r11_r 2
      have c13 : w10.cell? ⟨g3, 3, none⟩ = some (.int .i64 r.ep) := CB.cell r11_r 3
      have c14 : w10.cell? ⟨g3, 4, none⟩ = some (.int .i64 r.vote) := CB.cell r11_r 4
      go_wp2_with (first | ((with_reducible refine st_part 73 _ g1 1 ?_ (pt := tA e.d.ty) r11_e ?_ Try.underlying73 ?_ ?_ ?_); exact rfl; exact xA_pty _; exact rfl; exact Try.zTr))
      refine (P1 _).mono ?_
      rintro e w15 ⟨rfl, b15⟩
      clear c12 c13 c14
      have r16_e := le_on r11_e b15
      have r16_r := le_on r11_r b15
      have r16_z := le_on r11_z b15
      have l16 := le_tr l11 b15
      clear r11_e r11_r r11_z l11
      clear b15
      go_wp2_with (first | ((with_reducible refine st_alloc 73 (tA zeroY) ?_ ?_); exact zero_r))
      refine ⟨fun V17 g17 n17 f17 => ?_⟩
      have ne17_e := f17.ne r16_e
      have ne17_r := f17.ne r16_r
      have ne17_z := f17.ne r16_z
      have up17 : w.heap.size ≤ g17 := f17.up l16
      have bl17 := f17.bel
      clear f17
      have r18_e := le_on r16_e bl17
      have r18_r := le_on r16_r bl17
      have r18_z := le_on r16_z bl17
      have l18 := le_tr l16 bl17
      clear r16_e r16_r r16_z l16
      clear bl17
      go_wp2_with (first | ((with_reducible refine st_store 73 _ _ g17 (tA U) ?_ ?_ n17 ?_ ?_ ?_ ?_); exact rfl; exact rfl; exact Try.zTr; exact rfl; exact tA_one _))
      refine ⟨fun V19 n19 k19 => ?_⟩
      have m19_e := k19.on r18_e ne17_e
      have m19_r := k19.on r18_r ne17_r
      have m19_z := k19.on r18_z ne17_z
      have o19 := k19.bel _ _ l18 up17
      clear k19
      clear n17 r18_e r18_r r18_z l18
      go_wp2_with (first | ((with_reducible refine st_load 76 _ g1 ?_ m19_e Try.underlying76 ?_ ?_ ?_); exact rfl; exact rfl; exact Try.zDr) | ((with_reducible refine st_store 76 _ _ g5 (xA e) ?_ ?_ m19_z ?_ ?_ ?_ ?_); exact rfl; exact rfl; exact Try.zDr; exact rfl; exact xA_one _))
      refine ⟨fun V20 n20 k20 => ?_⟩
      have m20_e := k20.on m19_e ne5_e
      have m20_r := k20.on m19_r ne5_r
      have m20_v := k20.on n19 (Ne.symm ne17_z)
      have o20 := k20.bel _ _ o19 up5
      clear k20
      clear m19_z m19_e m19_r n19 o19
      go_wp2_with fail
      exact bodyPost_ret (v := .tuple #[.agg (xA e), .int .i64 (E : Int)]) (res_two Try.results35 rfl rfl n20 Try.underlying76 rfl Try.zDr) rfl ⟨(by rw [HE.out, HS.out] <;> rfl), o20⟩
  have q0 : (e.d.out != 0) = true := by simp [h0]
  have HE := Lib.hid (eD_13 (r := r) h0)
  have HS := Lib.hid (show xDl e r = e by rw [xDl_n (by rw [HE.out]; decide)])
  clear h0
  go_enter Try.func35, Try.ntmps35
  go_wp2_with (first | ((with_reducible refine st_box 76 _ (xA e) ?_ ?_); exact rfl))
  refine ⟨fun V1 g1 n1 f1 => ?_⟩
  have up1 : w.heap.size ≤ g1 := Nat.le_of_eq f1.at_
  have bl1 := f1.bel
  clear f1
  have l2 := le_tr (Below.refl _ _) bl1
  clear bl1
  go_wp2_with (first | ((with_reducible refine st_box 34 _ (rA r) ?_ ?_); exact rfl))
  refine ⟨fun V3 g3 n3 f3 => ?_⟩
  have ne3_e := f3.ne n1
  have up3 : w.heap.size ≤ g3 := f3.up l2
  have bl3 := f3.bel
  clear f3
  have r4_e := le_on n1 bl3
  have l4 := le_tr l2 bl3
  clear n1 l2
  clear bl3
  go_wp2_with (first | ((with_reducible refine st_alloc 76 (xA zeroX) ?_ ?_); exact zero_dr))
  refine ⟨fun V5 g5 n5 f5 => ?_⟩
  have ne5_e := f5.ne r4_e
  have ne5_r := f5.ne n3
  have up5 : w.heap.size ≤ g5 := f5.up l4
  have bl5 := f5.bel
  clear f5
  have r6_e := le_on r4_e bl5
  have r6_r := le_on n3 bl5
  have l6 := le_tr l4 bl5
  clear r4_e n3 l4
  clear bl5
  have c7 : V5.cell? ⟨g1, 29, none⟩ = some (.int .i64 e.d.out) := CB.cell r6_e 29
  go_wp2_with (first | ((with_reducible refine st_load 76 _ g1 ?_ r6_e Try.underlying76 ?_ ?_ ?_); exact rfl; exact rfl; exact Try.zDr) | ((with_reducible refine st_store 76 _ _ g5 (xA e) ?_ ?_ n5 ?_ ?_ ?_ ?_); exact rfl; exact rfl; exact Try.zDr; exact rfl; exact xA_one _))
  refine ⟨fun V8 n8 k8 => ?_⟩
  clear c7
  have m8_e := k8.on r6_e ne5_e
  have m8_r := k8.on r6_r ne5_r
  have o8 := k8.bel _ _ l6 up5
  clear k8
  clear n5 r6_e r6_r l6
  go_wp2_with fail
  exact bodyPost_ret (v := .tuple #[.agg (xA e), .int .i64 13]) (res_two Try.results35 rfl rfl n8 Try.underlying76 rfl Try.zDr) rfl ⟨(by rw [HE.out, HS.out] <;> rfl), o8⟩
end Go.Proofs.Ytjfmahceolhfnaa
