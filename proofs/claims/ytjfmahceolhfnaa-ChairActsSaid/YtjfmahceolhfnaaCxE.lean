/-
  The document's layer 15: Do. Conditions: the deals and the log can be read, no transaction stands twice, all are below a thousand; the bits are a byte; the log has not a thousand records.
-/
import Derived.Test.YtjfmahceolhfnaaCxD
set_option linter.unusedVariables false
set_option linter.unusedSimpArgs false
namespace Go.Proofs.Ytjfmahceolhfnaa
open Go.RowKit

set_option linter.unusedSectionVars false
/-- Behind the document's Do. -/
def DrPost (w : World) (C : List Dd) (L : List Rd) (r : Rd) (e : Ending) (w' : World) : Prop :=
  ∃ A n c A2 n2 c2 C', e = .returned (.tuple #[.agg (yA ⟨A, n, c, A2, n2, c2⟩), .int .i64 ((nDoC (fnC C) r : Nat) : Int), .int .i64 ((eDoC (fnC C) r : Nat) : Int)]) ∧ XD w' A n c C' ∧ KD w' A2 n2 c2 (lDoC (fnC C) L r) ∧ OkC C' ∧ fnC C' = sDoC (fnC C) r ∧ Below w.heap.size w w'
set_option maxRecDepth 100000 in
set_option maxHeartbeats 4000000 in
theorem do_r (xa : Option Addr) (xn xc : Nat) (la : Option Addr) (ln lc : Nat) (C : List Dd) (L : List Rd) (r : Rd) (w : World) (h : XD w xa xn xc C) (hk : KD w la ln lc L) (hC : OkC C) (hw : r.who < 256) (hl : L.length ≤ 999) : Calls Try.prog 13 #[.agg (yA ⟨xa, xn, xc, la, ln, lc⟩), .agg (rA r)] w (DrPost w C L r) := by
  have S0 := fun (W : World) (h : XD W xa xn xc C) => step_r xa xn xc la ln lc C r W h hC hw
  obtain ⟨E, hE⟩ : ∃ E, eDoC (fnC C) r = E := ⟨_, rfl⟩
  obtain ⟨N, hN⟩ : ∃ N, nDoC (fnC C) r = N := ⟨_, rfl⟩
  have S1 : ∀ (W : World), XD W xa xn xc C → Calls Try.prog 26 #[.agg (yA ⟨xa, xn, xc, la, ln, lc⟩), .agg (rA r)] W fun e w' => ∃ A n c C', e = .returned (.tuple #[.agg (yA ⟨A, n, c, la, ln, lc⟩), .int .i64 (N : Int), .int .i64 (E : Int)]) ∧ XD w' A n c C' ∧ OkC C' ∧ fnC C' = sDoC (fnC C) r ∧ Below W.heap.size W w' := fun W h => by have := S0 W h; unfold StPost at this; rw [hE, hN] at this; exact this
  have hlen := hk.len
  have hl4 : ln ≤ 1000 := by omega
  have HE := Lib.hid hE
  have HN := Lib.hid hN
  clear hE hN S0 hl
  by_cases he : E = 0
  · subst he
    have HL := Lib.hid (lDoC_z L HE.out)
    go_enter Try.func13, Try.ntmps13
    go_wp2_with (first | ((with_reducible refine st_box 28 _ (yA ⟨xa, xn, xc, la, ln, lc⟩) ?_ ?_); exact rfl))
    refine ⟨fun V1 g1 n1 f1 => ?_⟩
    have up1 : w.heap.size ≤ g1 := Nat.le_of_eq f1.at_
    have bl1 := f1.bel
    clear f1
    have r2_xs := (h).on bl1
    have r2_ls := (hk).on bl1
    have l2 := le_tr (Below.refl _ _) bl1
    clear h hk
    clear bl1
    go_wp2_with (first | ((with_reducible refine st_box 34 _ (rA r) ?_ ?_); exact rfl))
    refine ⟨fun V3 g3 n3 f3 => ?_⟩
    have ne3_y := f3.ne n1
    have up3 : w.heap.size ≤ g3 := f3.up l2
    have bl3 := f3.bel
    clear f3
    have r4_y := le_on n1 bl3
    have r4_xs := (r2_xs).on bl3
    have r4_ls := (r2_ls).on bl3
    have l4 := le_tr l2 bl3
    clear n1 r2_xs r2_ls l2
    clear bl3
    go_wp2_with (first | ((with_reducible refine st_alloc 28 (yA zeroC) ?_ ?_); exact zero_cr))
    refine ⟨fun V5 g5 n5 f5 => ?_⟩
    have ne5_y := f5.ne r4_y
    have ne5_r := f5.ne n3
    have up5 : w.heap.size ≤ g5 := f5.up l4
    have bl5 := f5.bel
    clear f5
    have r6_y := le_on r4_y bl5
    have r6_r := le_on n3 bl5
    have r6_xs := (r4_xs).on bl5
    have r6_ls := (r4_ls).on bl5
    have l6 := le_tr l4 bl5
    clear r4_y n3 r4_xs r4_ls l4
    clear bl5
    go_wp2_with (first | ((with_reducible refine st_load 28 _ g1 ?_ r6_y Try.underlying28 ?_ ?_ ?_); exact rfl; exact rfl; exact Try.zCr) | ((with_reducible refine st_load 34 _ g3 ?_ r6_r Try.underlying34 ?_ ?_ ?_); exact rfl; exact rfl; exact Try.zRr))
    refine (S1 _ r6_xs).mono ?_
    rintro e w7 ⟨A5, qn, qc, C5, rfl, s5, ok5, fq5, b7⟩
    have r8_y := le_on r6_y b7
    have r8_r := le_on r6_r b7
    have r8_z := le_on n5 b7
    have r8_xs := (r6_xs).on b7
    have r8_ls := (r6_ls).on b7
    have l8 := le_tr l6 b7
    clear r6_y r6_r n5 r6_xs r6_ls l6
    clear b7
    have FQ := Lib.hid fq5
    clear fq5
    go_wp2_with (first | ((with_reducible refine st_alloc 28 (yA zeroC) ?_ ?_); exact zero_cr))
    refine ⟨fun V9 g9 n9 f9 => ?_⟩
    have ne9_y := f9.ne r8_y
    have ne9_r := f9.ne r8_r
    have ne9_z := f9.ne r8_z
    have up9 : w.heap.size ≤ g9 := f9.up l8
    have bl9 := f9.bel
    clear f9
    have r10_y := le_on r8_y bl9
    have r10_r := le_on r8_r bl9
    have r10_z := le_on r8_z bl9
    have r10_xs := (r8_xs).on bl9
    have r10_ls := (r8_ls).on bl9
    have r10_s := (s5).on bl9
    have l10 := le_tr l8 bl9
    clear r8_y r8_r r8_z r8_xs r8_ls s5 l8
    clear bl9
    go_wp2_with (first | ((with_reducible refine st_store 28 _ _ g9 (yA ⟨A5, qn, qc, la, ln, lc⟩) ?_ ?_ n9 ?_ ?_ ?_ ?_); exact rfl; exact rfl; exact Try.zCr; exact rfl; exact yA_one _))
    refine ⟨fun V11 n11 k11 => ?_⟩
    have m11_y := k11.on r10_y ne9_y
    have m11_r := k11.on r10_r ne9_r
    have m11_z := k11.on r10_z ne9_z
    have m11_xs := (r10_xs).wr k11 n9 (by decide)
    have m11_ls := (r10_ls).wr k11 n9 (by decide)
    have m11_s := (r10_s).wr k11 n9 (by decide)
    have o11 := k11.bel _ _ l10 up9
    clear k11
    clear n9 r10_y r10_r r10_z r10_xs r10_ls r10_s l10
    clear m11_xs
    have lo12 : w.heap.size ≤ V11.heap.size := o11.size
    go_wp2_with (first | ((with_reducible refine st_lit0 22 34 Try.underlying22 Try.infoR2 ?_)))
    refine ⟨fun V12 g12 n12 f12 => ?_⟩
    have ys12 := le_on m11_y f12.bel
    have xs12 := (m11_ls).on f12.bel
    have bl12 := f12.bel
    have at12 := f12.at_
    clear f12
    have cy12 : V12.cell? ⟨g1, 1, none⟩ = some (.slice la ln lc) := CB.cell ys12 1
    obtain ⟨Gx12, sx12⟩ := xs12
    go_wp2_with (first | ((with_reducible refine st_app (.tmp 22) (.tmp 24) 22 34 Try.underlying22 Try.infoR rfl (by decide) (A := some ⟨g12, 0, none⟩) (n := 0) (c := 0) (G := some g12) rfl (Seg.lit0 n12) (k := lc) rfl sx12.src (rc_one 8 L) (by simp only [maxLen]; omega) (by omega) ln (by omega) ?_)))
    refine ⟨fun B12 m12 q12 w12 s12 h12 k12 => ?_⟩
    simp only [List.nil_append] at s12
    have hG12 : ∀ g, q12 = some g → w.heap.size ≤ g := fun g e => by
      rcases k12 with e' | ⟨g', e', hg'⟩
      · rw [e'] at e; cases e; omega
      · rw [e'] at e; cases e; exact Nat.le_trans lo12 (Nat.le_trans bl12.size hg')
    have hGG12 : ∀ g, q12 = some g → V11.heap.size ≤ g := fun g e => by
      rcases k12 with e' | ⟨g', e', hg'⟩
      · rw [e'] at e; cases e; omega
      · rw [e'] at e; cases e; exact Nat.le_trans bl12.size hg'
    have bb12 : Below V11.heap.size V11 w12 := bl12.grown h12 bl12.size (fun g e => by cases e; omega)
    clear h12 k12 n12 ys12 sx12 cy12 bl12
    have r13_y := le_on m11_y bb12
    have r13_r := le_on m11_r bb12
    have r13_z := le_on m11_z bb12
    have r13_d := le_on n11 bb12
    have r13_ls := (m11_ls).on bb12
    have r13_s := (m11_s).on bb12
    have l13 := le_tr o11 bb12
    clear m11_y m11_r m11_z n11 m11_ls m11_s o11
    clear bb12 at12
    go_wp2_with (first | ((with_reducible refine st_load 34 _ g3 ?_ r13_r Try.underlying34 ?_ ?_ ?_); exact rfl; exact rfl; exact Try.zRr) | ((with_reducible refine st_lit1 22 34 _ (rA r) ?_ Try.underlying22 Try.infoR2 rfl (by decide) (by decide) ?_); exact rfl))
    clear r13_ls r13_r
    refine ⟨fun V14 g14 n14 f14 => ?_⟩
    have sl14 := s12.on f14.bel
    have up14 : w.heap.size ≤ g14 := f14.up l13
    have bl14 := f14.bel
    clear f14 s12
    have r15_y := le_on r13_y bl14
    have r15_z := le_on r13_z bl14
    have r15_d := le_on r13_d bl14
    have r15_s := (r13_s).on bl14
    have l15 := le_tr l13 bl14
    clear r13_y r13_z r13_d r13_s l13
    clear bl14
    go_wp2_with (first | ((with_reducible refine st_app (.tmp 26) (.tmp 28) 22 34 Try.underlying22 Try.infoR rfl (by decide) rfl sl14 (k := 1) rfl (Src.box n14 rfl) (all_list (rA_one _)) (by simp only [maxLen]; omega) (by omega) (ln + 1) rfl ?_)))
    refine ⟨fun B16 m16 q16 w16 s16 h16 k16 => ?_⟩
    have s16 : Seg w16 34 8 B16 (ln + 1) m16 (rc kcl (L ++ [r])) q16 := by rw [← rc_snoc]; exact s16
    have e16_y := sl14.grow_cb h16 r15_y (by decide)
    have e16_z := sl14.grow_cb h16 r15_z (by decide)
    have e16_d := sl14.grow_cb h16 r15_d (by decide)
    have e16_x := (r15_s).grow sl14 h16 (by decide)
    have e16_low := l15.grown h16 l15.size (fun g e => hG12 g e)
    clear h16 k16 sl14 n14 r15_y r15_z r15_d r15_s l15
    go_wp2_with (first | ((with_reducible refine st_cell 22 _ _ g9 1 (.slice B16 (ln + 1) m16) ?_ ?_ e16_d (new := yA ⟨A5, qn, qc, B16, ln + 1, m16⟩) ?_ ?_ ?_ ?_ ?_ ?_); exact rfl; exact rfl; exact (by rw [yA_size]; decide); exact yA_2 _ _ _ _; exact one_sr; exact rfl; exact rfl))
    refine ⟨fun V17 n17 k17 => ?_⟩
    have m17_y := k17.on e16_y ne9_y
    have m17_z := k17.on e16_z ne9_z
    have m17_s := (e16_x).wr k17 e16_d (by decide)
    have m17_l := (s16).keep fun g e => k17.far g (fun e' => (s16).ne_ e16_d (by decide) (by rw [e, e']))
    have o17 := k17.bel _ _ e16_low up9
    clear k17
    clear e16_d e16_y e16_z e16_x s16 e16_low
    go_wp2_with (first | ((with_reducible refine st_load 28 _ g9 ?_ n17 Try.underlying28 ?_ ?_ ?_); exact rfl; exact rfl; exact Try.zCr) | ((with_reducible refine st_store 28 _ _ g5 (yA ⟨A5, qn, qc, B16, ln + 1, m16⟩) ?_ ?_ m17_z ?_ ?_ ?_ ?_); exact rfl; exact rfl; exact Try.zCr; exact rfl; exact yA_one _))
    refine ⟨fun V18 n18 k18 => ?_⟩
    have m18_y := k18.on m17_y ne5_y
    have m18_d := k18.on n17 (Ne.symm ne9_z)
    have m18_s := (m17_s).wr k18 m17_z (by decide)
    have m18_l := (m17_l).keep fun g e => k18.far g (fun e' => (m17_l).ne_ m17_z (by decide) (by rw [e, e']))
    have o18 := k18.bel _ _ o17 up5
    clear k18
    clear m17_z m17_y n17 m17_s m17_l o17
    go_wp2_with fail
    refine bodyPost_ret (v := .tuple #[.agg (yA ⟨A5, qn, qc, B16, ln + 1, m16⟩), .int .i64 (N : Int), .int .i64 0]) (res_three Try.results13 rfl rfl rfl n18 Try.underlying28 rfl Try.zCr) rfl ⟨A5, qn, qc, B16, ln + 1, m16, C5, by rw [HN.out, HE.out] <;> rfl, m18_s, by rw [HL.out]; exact ⟨_, m18_l⟩, ok5, FQ.out, o18⟩
  · have hz : ¬ eDoC (fnC C) r = 0 := by rw [HE.out]; exact he
    have HL := Lib.hid (lDoC_n L hz)
    have HS := Lib.hid (sDoC_n hz)
    have HN0 := Lib.hid (show N = 0 by rw [← HN.out]; exact nDoC_n hz)
    have HN2 := Lib.hid (nDoC_n hz)
    clear HN
    have HN := HN2
    have q5 : ((E : Int) != 0) = true := by simp [he]
    have q6 : (E != 0) = true := by simp [he]
    clear hz he HN2 HN0
    go_enter Try.func13, Try.ntmps13
    go_wp2_with (first | ((with_reducible refine st_box 28 _ (yA ⟨xa, xn, xc, la, ln, lc⟩) ?_ ?_); exact rfl))
    refine ⟨fun V1 g1 n1 f1 => ?_⟩
    have up1 : w.heap.size ≤ g1 := Nat.le_of_eq f1.at_
    have bl1 := f1.bel
    clear f1
    have r2_xs := (h).on bl1
    have r2_ls := (hk).on bl1
    have l2 := le_tr (Below.refl _ _) bl1
    clear h hk
    clear bl1
    go_wp2_with (first | ((with_reducible refine st_box 34 _ (rA r) ?_ ?_); exact rfl))
    refine ⟨fun V3 g3 n3 f3 => ?_⟩
    have ne3_y := f3.ne n1
    have up3 : w.heap.size ≤ g3 := f3.up l2
    have bl3 := f3.bel
    clear f3
    have r4_y := le_on n1 bl3
    have r4_xs := (r2_xs).on bl3
    have r4_ls := (r2_ls).on bl3
    have l4 := le_tr l2 bl3
    clear n1 r2_xs r2_ls l2
    clear bl3
    go_wp2_with (first | ((with_reducible refine st_alloc 28 (yA zeroC) ?_ ?_); exact zero_cr))
    refine ⟨fun V5 g5 n5 f5 => ?_⟩
    have ne5_y := f5.ne r4_y
    have ne5_r := f5.ne n3
    have up5 : w.heap.size ≤ g5 := f5.up l4
    have bl5 := f5.bel
    clear f5
    have r6_y := le_on r4_y bl5
    have r6_r := le_on n3 bl5
    have r6_xs := (r4_xs).on bl5
    have r6_ls := (r4_ls).on bl5
    have l6 := le_tr l4 bl5
    clear r4_y n3 r4_xs r4_ls l4
    clear bl5
    go_wp2_with (first | ((with_reducible refine st_load 28 _ g1 ?_ r6_y Try.underlying28 ?_ ?_ ?_); exact rfl; exact rfl; exact Try.zCr) | ((with_reducible refine st_load 34 _ g3 ?_ r6_r Try.underlying34 ?_ ?_ ?_); exact rfl; exact rfl; exact Try.zRr))
    refine (S1 _ r6_xs).mono ?_
    rintro e w7 ⟨A5, qn, qc, C5, rfl, s5, ok5, fq5, b7⟩
    have r8_y := le_on r6_y b7
    have r8_r := le_on r6_r b7
    have r8_z := le_on n5 b7
    have r8_xs := (r6_xs).on b7
    have r8_ls := (r6_ls).on b7
    have l8 := le_tr l6 b7
    clear r6_y r6_r n5 r6_xs r6_ls l6
    clear b7
    have FQ := Lib.hid fq5
    clear fq5
    go_wp2_with (first | ((with_reducible refine st_alloc 28 (yA zeroC) ?_ ?_); exact zero_cr))
    refine ⟨fun V9 g9 n9 f9 => ?_⟩
    have ne9_y := f9.ne r8_y
    have ne9_r := f9.ne r8_r
    have ne9_z := f9.ne r8_z
    have up9 : w.heap.size ≤ g9 := f9.up l8
    have bl9 := f9.bel
    clear f9
    have r10_y := le_on r8_y bl9
    have r10_r := le_on r8_r bl9
    have r10_z := le_on r8_z bl9
    have r10_xs := (r8_xs).on bl9
    have r10_ls := (r8_ls).on bl9
    have r10_s := (s5).on bl9
    have l10 := le_tr l8 bl9
    clear r8_y r8_r r8_z r8_xs r8_ls s5 l8
    clear bl9
    go_wp2_with (first | ((with_reducible refine st_store 28 _ _ g9 (yA ⟨A5, qn, qc, la, ln, lc⟩) ?_ ?_ n9 ?_ ?_ ?_ ?_); exact rfl; exact rfl; exact Try.zCr; exact rfl; exact yA_one _))
    refine ⟨fun V11 n11 k11 => ?_⟩
    have m11_y := k11.on r10_y ne9_y
    have m11_r := k11.on r10_r ne9_r
    have m11_z := k11.on r10_z ne9_z
    have m11_xs := (r10_xs).wr k11 n9 (by decide)
    have m11_ls := (r10_ls).wr k11 n9 (by decide)
    have m11_s := (r10_s).wr k11 n9 (by decide)
    have o11 := k11.bel _ _ l10 up9
    clear k11
    clear n9 r10_y r10_r r10_z r10_xs r10_ls r10_s l10
    go_wp2_with (first | ((with_reducible refine st_load 28 _ g1 ?_ m11_y Try.underlying28 ?_ ?_ ?_); exact rfl; exact rfl; exact Try.zCr) | ((with_reducible refine st_store 28 _ _ g5 (yA ⟨xa, xn, xc, la, ln, lc⟩) ?_ ?_ m11_z ?_ ?_ ?_ ?_); exact rfl; exact rfl; exact Try.zCr; exact rfl; exact yA_one _))
    refine ⟨fun V12 n12 k12 => ?_⟩
    have m12_y := k12.on m11_y ne5_y
    have m12_r := k12.on m11_r ne5_r
    have m12_d := k12.on n11 (Ne.symm ne9_z)
    have m12_xs := (m11_xs).wr k12 m11_z (by decide)
    have m12_ls := (m11_ls).wr k12 m11_z (by decide)
    have m12_s := (m11_s).wr k12 m11_z (by decide)
    have o12 := k12.bel _ _ o11 up5
    clear k12
    clear m11_z m11_y m11_r n11 m11_xs m11_ls m11_s o11
    go_wp2_with fail
    refine bodyPost_ret (v := .tuple #[.agg (yA ⟨xa, xn, xc, la, ln, lc⟩), .int .i64 0, .int .i64 (E : Int)]) (res_three Try.results13 rfl rfl rfl n12 Try.underlying28 rfl Try.zCr) rfl ⟨xa, xn, xc, la, ln, lc, C, by rw [HN.out, HE.out] <;> rfl, m12_xs, by rw [HL.out]; exact m12_ls, hC, HS.out.symm, o12⟩
end Go.Proofs.Ytjfmahceolhfnaa
