/-
  The document's layer 15: tick. Conditions: the deals can be read, no transaction stands twice, all are below a thousand.
-/
import Derived.Test.YtjfmahceolhfnaaCxB
set_option linter.unusedVariables false
set_option linter.unusedSimpArgs false
namespace Go.Proofs.Ytjfmahceolhfnaa
open Go.RowKit

theorem seg_some {w : World} {e : TypeId} {size : Nat} {A : Option Addr} {n c : Nat} {xs : List Value} {G : Option Nat} (h : Seg w e size A n c xs G) (hn : 0 < n) : ∃ g off, A = some ⟨g, off, none⟩ ∧ G = some g := by
  rcases h.2.2.2 with ⟨_, h0, _⟩ | ⟨g, off, cur, h1, h2, _⟩
  · have := h.2.1
    omega
  · exact ⟨g, off, h1, h2⟩
/-- The list behind some steps of a tick. -/
def tkE (x : Int) (e : Dd) : Dd := ⟨e.tx, dTick x e.d⟩
def tkL (C : List Dd) (x : Int) (k : Nat) : List Dd := (C.take k).map (tkE x) ++ C.drop k
theorem tkL_0 (C : List Dd) (x : Int) : tkL C x 0 = C := by simp [tkL]
theorem tkL_end (C : List Dd) (x : Int) {n : Nat} (hn : C.length = n) : tkL C x n = tickL C x := by
  unfold tkL tickL tkE
  rw [List.take_of_length_le (by omega), List.drop_eq_nil_of_le (by omega), List.append_nil]
theorem tkL_at {C : List Dd} {x : Int} {k : Nat} : (tkL C x k)[k]? = C[k]? := by
  unfold tkL
  by_cases h : k < C.length
  · rw [List.getElem?_append_right (by simp; omega)]
    simp
    congr 1
    omega
  · rw [List.getElem?_eq_none (by simp; omega), List.getElem?_eq_none (by omega)]
theorem tkL_next {C : List Dd} {x : Int} {k : Nat} {e : Dd} (he : C[k]? = some e) : tkL C x (k + 1) = (tkL C x k).set k (tkE x e) := by
  obtain ⟨hl, hx⟩ := List.getElem?_eq_some_iff.1 he
  unfold tkL
  have h1 : ((C.take k).map (tkE x)).length = k := by simp; omega
  rw [List.set_append_right _ _ (by omega), h1, Nat.sub_self, List.take_add_one, he, List.map_append]
  have h2 : C.drop k = e :: C.drop (k + 1) := by rw [← hx]; exact List.drop_eq_getElem_cons hl
  rw [h2, List.set_cons_zero]
  simp
theorem tkE_no {x : Int} {e : Dd} (h : isOO e.d x = false) : tkE x e = e := by unfold tkE dTick; rw [if_neg (by simp [h])]
theorem tkE_yes {x : Int} {e : Dd} (h : isOO e.d x = true) : tkE x e = ⟨e.tx, e.d.ty, e.d.tm, 2⟩ := by unfold tkE dTick; rw [if_pos h]
theorem tkL_same {C : List Dd} {x : Int} {k : Nat} {e : Dd} (he : C[k]? = some e) (h : isOO e.d x = false) : tkL C x (k + 1) = tkL C x k := by
  rw [tkL_next he, tkE_no h]
  have := tkL_at (C := C) (x := x) (k := k)
  rw [he] at this
  obtain ⟨hl, hx⟩ := List.getElem?_eq_some_iff.1 this
  rw [← hx]
  exact List.set_getElem_self hl
theorem cntL_next {C : List Dd} {x : Int} {k : Nat} {e : Dd} (he : C[k]? = some e) : cntL (C.take (k + 1)) x = cntL (C.take k) x + if isOO e.d x = true then 1 else 0 := by
  unfold cntL
  rw [List.take_add_one, he, List.countP_append]
  simp [List.countP_cons]
/-- Behind tick. -/
def TrPost (w : World) (la : Option Addr) (ln lc : Nat) (C : List Dd) (x : Int) (e : Ending) (w' : World) : Prop :=
  ∃ A n c, e = .returned (.tuple #[.agg (yA ⟨A, n, c, la, ln, lc⟩), .int .i64 ((cntL C x : Nat) : Int)]) ∧ XD w' A n c (tickL C x) ∧ Below w.heap.size w w'
set_option maxRecDepth 100000 in
set_option maxHeartbeats 4000000 in
theorem tick_r (xa : Option Addr) (xn xc : Nat) (la : Option Addr) (ln lc : Nat) (C : List Dd) (x : Int) (w : World) (h : XD w xa xn xc C) (hC : OkC C) : Calls Try.prog 33 #[.agg (yA ⟨xa, xn, xc, la, ln, lc⟩), .int .i64 x] w (TrPost w la ln lc C x) := by
  have hlen := h.len
  have hl3 := okC_len hC
  have hn3 : xn ≤ 1000 := by omega
  go_enter Try.func33, Try.ntmps33
  go_wp2_with (first | ((with_reducible refine st_box 28 _ (yA ⟨xa, xn, xc, la, ln, lc⟩) ?_ ?_); exact rfl))
  refine ⟨fun V1 g1 n1 f1 => ?_⟩
  have up1 : w.heap.size ≤ g1 := Nat.le_of_eq f1.at_
  have bl1 := f1.bel
  clear f1
  have r2_xs := (h).on bl1
  have l2 := le_tr (Below.refl _ _) bl1
  clear h
  clear bl1
  go_wp2_with (first | ((with_reducible refine st_alloc 28 (yA zeroC) ?_ ?_); exact zero_cr))
  refine ⟨fun V3 g3 n3 f3 => ?_⟩
  have ne3_y := f3.ne n1
  have up3 : w.heap.size ≤ g3 := f3.up l2
  have bl3 := f3.bel
  clear f3
  have r4_y := le_on n1 bl3
  have r4_xs := (r2_xs).on bl3
  have l4 := le_tr l2 bl3
  clear n1 r2_xs l2
  clear bl3
  have lo5 : w.heap.size ≤ V3.heap.size := l4.size
  go_wp2_with (first | ((with_reducible refine st_lit0 26 76 Try.underlying26 Try.infoX2 ?_)))
  refine ⟨fun V5 g5 n5 f5 => ?_⟩
  have ys5 := le_on r4_y f5.bel
  have xs5 := (r4_xs).on f5.bel
  have bl5 := f5.bel
  have at5 := f5.at_
  clear f5
  have cy5 : V5.cell? ⟨g1, 0, none⟩ = some (.slice xa xn xc) := CB.cell ys5 0
  obtain ⟨Gx5, sx5⟩ := xs5
  go_wp2_with (first | ((with_reducible refine st_app (.tmp 10) (.tmp 12) 26 76 Try.underlying26 Try.infoX rfl (by decide) (A := some ⟨g5, 0, none⟩) (n := 0) (c := 0) (G := some g5) rfl (Seg.lit0 n5) (k := xc) rfl sx5.src (rc_one 30 C) (by simp only [maxLen]; omega) (by omega) xn (by omega) ?_)))
  refine ⟨fun B5 m5 q5 w5 s5 h5 k5 => ?_⟩
  simp only [List.nil_append] at s5
  have hG5 : ∀ g, q5 = some g → w.heap.size ≤ g := fun g e => by
    rcases k5 with e' | ⟨g', e', hg'⟩
    · rw [e'] at e; cases e; omega
    · rw [e'] at e; cases e; exact Nat.le_trans lo5 (Nat.le_trans bl5.size hg')
  have hGG5 : ∀ g, q5 = some g → V3.heap.size ≤ g := fun g e => by
    rcases k5 with e' | ⟨g', e', hg'⟩
    · rw [e'] at e; cases e; omega
    · rw [e'] at e; cases e; exact Nat.le_trans bl5.size hg'
  have bb5 : Below V3.heap.size V3 w5 := bl5.grown h5 bl5.size (fun g e => by cases e; omega)
  clear h5 k5 n5 ys5 sx5 cy5 bl5
  have r6_y := le_on r4_y bb5
  have r6_z := le_on n3 bb5
  have r6_xs := (r4_xs).on bb5
  have l6 := le_tr l4 bb5
  clear r4_y n3 r4_xs l4
  clear bb5 at5
  go_wp2_with fail
  have hs0 := s5
  rw [← tkL_0 C x] at hs0
  go_loopw [6, 8] (fun nv iv wr => ∃ k : Nat, k ≤ xn ∧ iv = .int .i64 k ∧ nv = .int .i64 ((cntL (C.take k) x : Nat) : Int) ∧ CB wr g1 28 (yA ⟨xa, xn, xc, la, ln, lc⟩) ∧ CB wr g3 28 (yA zeroC) ∧ Seg wr 76 30 B5 xn m5 (rc xcl (tkL C x k)) q5 ∧ Below w.heap.size w wr) (fun _ iv _ => xn - (intOf iv).toNat)
  case atStart => exact ⟨0, by omega, rfl, rfl, r6_y, r6_z, hs0, l6⟩
  case round =>
    clear r6_y r6_z l6 hs0 s5 r6_xs
    obtain ⟨k, hk, rfl, rfl, hy, hz, hs, hb⟩ := hrel
    by_cases hlt : k < xn
    · have l1 : (k : Int) < xn := by omega
      have l2 : (0 : Int) ≤ (k : Int) := by omega
      obtain ⟨gs, ofs, hBs, hqs⟩ := seg_some hs (by omega)
      subst hBs hqs
      obtain ⟨ga, ofa, e, he, hA, hr⟩ := (RR.of_seg hs).elem hlt
      obtain ⟨rfl, rfl⟩ : ga = gs ∧ ofa = ofs := by cases hA; exact ⟨rfl, rfl⟩
      rw [tkL_at] at he
      have hr : wr.rangeAt ga (ofa + k * 30) (xA e).toList := hr
      have hup : w.heap.size ≤ ga := hG5 _ rfl
      have HC := Lib.hid (cntL_next (x := x) he)
      have hcb : cntL (C.take k) x ≤ 1000 := Nat.le_trans List.countP_le_length (by rw [List.length_take]; omega)
      obtain ⟨cn, hcn⟩ : ∃ cn, cntL (C.take k) x = cn := ⟨_, rfl⟩
      rw [hcn] at HC hcb ⊢
      clear hcn
      have O1 := fun W => over_x e.d.tm x W
      clear hA
      go_wp2_with (first | ((with_reducible refine st_elem 76 _ ga (ofa + k * 30) (xA e) ?_ hr Try.underlying76 ?_ ?_ ?_); exact rfl; exact rfl; exact Try.zDr) | ((with_reducible refine st_alloc 76 (xA zeroX) ?_ ?_); exact zero_dr))
      refine ⟨fun V101 g101 n101 f101 => ?_⟩
      have nes : ga ≠ g101 := by have := hs.lt ga rfl; have := f101.at_; omega
      have neY := f101.ne hy
      have neZ := f101.ne hz
      have up101 : w.heap.size ≤ g101 := f101.up hb
      have bl101 := f101.bel
      clear f101 hr
      have r102_y := le_on hy bl101
      have r102_z := le_on hz bl101
      have r102_s := (hs).on bl101
      have l102 := le_tr hb bl101
      clear hy hz hs hb
      clear bl101
      go_wp2_with (first | ((with_reducible refine st_store 76 _ _ g101 (xA e) ?_ ?_ n101 ?_ ?_ ?_ ?_); exact rfl; exact rfl; exact Try.zDr; exact rfl; exact xA_one _))
      refine ⟨fun V103 n103 k103 => ?_⟩
      have m103_y := k103.on r102_y neY
      have m103_z := k103.on r102_z neZ
      have m103_s := (r102_s).keep fun g e => k103.far g (fun e' => nes (by cases e; exact e'))
      have o103 := k103.bel _ _ l102 up101
      clear k103
      clear n101 r102_y r102_z r102_s l102
      cases h0 : (e.d.out == 0) with
      | false =>
        have hoo : isOO e.d x = false := by unfold isOO; rw [h0]; rfl
        have HL := Lib.hid (tkL_same he hoo)
        have HC2 := Lib.hid (show cntL (C.take (k + 1)) x = cn by rw [HC.out, if_neg (by simp [hoo])]; rfl)
        clear hoo he
        have xo : V103.cell? ⟨g101, 29, none⟩ = some (.int .i64 e.d.out) := CB.cell n103 29
        go_wp2_with fail
        have hs9 := m103_s
        rw [← HL.out] at hs9
        go_roundw
        case rel => exact ⟨k + 1, by omega, by go_num, by rw [HC2.out], m103_y, m103_z, hs9, o103⟩
        case measure => simp [intOf]; omega
      | true =>
        cases ho : Te.overT e.d.tm x with
        | false =>
          rw [ho] at O1
          have hoo : isOO e.d x = false := by unfold isOO; rw [h0, ho]; rfl
          have HL := Lib.hid (tkL_same he hoo)
          have HC2 := Lib.hid (show cntL (C.take (k + 1)) x = cn by rw [HC.out, if_neg (by simp [hoo])]; rfl)
          clear hoo he
          have xo : V103.cell? ⟨g101, 29, none⟩ = some (.int .i64 e.d.out) := CB.cell n103 29
          go_wp2_with (first | (first | ((with_reducible refine st_part 74 _ g101 25 ?_ (pt := mA e.d.tm) n103 ?_ Try.underlying74 ?_ ?_ ?_); exact rfl; exact xA_ptm _; exact rfl; exact Try.zTmr) | ((with_reducible refine st_partG 74 _ g101 25 ?_ (pt := mA e.d.tm) n103 ?_ Try.underlying74 ?_ ?_ ?_ ?_); exact rfl; exact xA_ptm _; exact rfl; exact Try.zTmr; exact rfl)))
          refine (O1 _).mono ?_
          rintro e w104 ⟨rfl, b104⟩
          clear xo
          have r105_y := le_on m103_y b104
          have r105_z := le_on m103_z b104
          have r105_d := le_on n103 b104
          have r105_s := (m103_s).on b104
          have l105 := le_tr o103 b104
          clear m103_y m103_z n103 m103_s o103
          clear b104
          go_wp2_with fail
          have hs9 := r105_s
          rw [← HL.out] at hs9
          go_roundw
          case rel => exact ⟨k + 1, by omega, by go_num, by rw [HC2.out], r105_y, r105_z, hs9, l105⟩
          case measure => simp [intOf]; omega
        | true =>
          rw [ho] at O1
          have hoo : isOO e.d x = true := by unfold isOO; rw [h0, ho]; rfl
          have HL := Lib.hid (tkL_next (x := x) he)
          rw [tkE_yes hoo] at HL
          have HC2 := Lib.hid (show cntL (C.take (k + 1)) x = cn + 1 by rw [HC.out, if_pos hoo])
          clear hoo he
          have xo : V103.cell? ⟨g101, 29, none⟩ = some (.int .i64 e.d.out) := CB.cell n103 29
          go_wp2_with (first | (first | ((with_reducible refine st_part 74 _ g101 25 ?_ (pt := mA e.d.tm) n103 ?_ Try.underlying74 ?_ ?_ ?_); exact rfl; exact xA_ptm _; exact rfl; exact Try.zTmr) | ((with_reducible refine st_partG 74 _ g101 25 ?_ (pt := mA e.d.tm) n103 ?_ Try.underlying74 ?_ ?_ ?_ ?_); exact rfl; exact xA_ptm _; exact rfl; exact Try.zTmr; exact rfl)))
          refine (O1 _).mono ?_
          rintro e w104 ⟨rfl, b104⟩
          clear xo
          have r105_y := le_on m103_y b104
          have r105_z := le_on m103_z b104
          have r105_d := le_on n103 b104
          have r105_s := (m103_s).on b104
          have l105 := le_tr o103 b104
          clear m103_y m103_z n103 m103_s o103
          clear b104
          go_wp2_with (first | ((with_reducible refine st_cell 3 _ _ g101 29 (.int .i64 2) ?_ ?_ r105_d (new := xA (Dd.mk e.tx ⟨e.d.ty, e.d.tm, 2⟩)) ?_ ?_ ?_ ?_ ?_ ?_); exact rfl; exact rfl; exact (by rw [xA_size]; decide); exact xA_out _ _; exact one_i; exact rfl; exact rfl))
          refine ⟨fun V106 n106 k106 => ?_⟩
          have m106_y := k106.on r105_y neY
          have m106_z := k106.on r105_z neZ
          have m106_s := (r105_s).keep fun g e => k106.far g (fun e' => nes (by cases e; exact e'))
          have o106 := k106.bel _ _ l105 up101
          clear k106
          clear r105_d r105_y r105_z r105_s l105
          go_wp2_with (first | (first | ((with_reducible refine st_load 76 _ g101 ?_ n106 Try.underlying76 ?_ ?_ ?_); exact rfl; exact rfl; exact Try.zDr) | ((with_reducible refine st_loadG 76 _ g101 ?_ n106 Try.underlying76 ?_ ?_ ?_ ?_); exact rfl; exact rfl; exact Try.zDr; exact rfl)) | ((with_reducible refine st_slot (c := xcl) (s := 30) 76 _ _ ga ofa k (Dd.mk e.tx ⟨e.d.ty, e.d.tm, 2⟩) ?_ ?_ m106_s hlt ?_ ?_ ?_); exact rfl; exact rfl; exact Try.zDr; exact xA_one _))
          refine ⟨fun V107 s107 k107 => ?_⟩
          have y107 := k107.on m106_y (fun e => by subst e; exact (m106_s).ne_ m106_y (by decide) rfl)
          have z107 := k107.on m106_z (fun e => by subst e; exact (m106_s).ne_ m106_z (by decide) rfl)
          have b107 := k107.bel _ _ o106 hup
          rw [← HL.out] at s107
          clear k107 m106_y m106_z m106_s o106 n106
          go_wp2_with fail
          go_roundw
          case rel => exact ⟨k + 1, by omega, by go_num, by rw [HC2.out]; go_num, y107, z107, s107, b107⟩
          case measure => simp [intOf]; omega
    · obtain rfl : k = xn := by omega
      have H1 := Lib.hid (show cntL (C.take k) x = cntL C x by rw [List.take_of_length_le (by omega)])
      rw [tkL_end C x hlen] at hs
      rw [H1.out]
      go_wp2_with (first | ((with_reducible refine st_cell 26 _ _ g1 0 (.slice B5 k m5) ?_ ?_ hy (new := yA ⟨B5, k, m5, la, ln, lc⟩) ?_ ?_ ?_ ?_ ?_ ?_); exact rfl; exact rfl; exact (by rw [yA_size]; decide); exact yA_1 _ _ _ _; exact one_sx; exact rfl; exact rfl))
      refine ⟨fun V301 n301 k301 => ?_⟩
      have m301_z := k301.on hz (Ne.symm ne3_y)
      have m301_s := (hs).keep fun g e => k301.far g (fun e' => (hs).ne_ hy (by decide) (by rw [e, e']))
      have o301 := k301.bel _ _ hb up1
      clear k301
      clear hy hz hs hb
      go_wp2_with (first | (first | ((with_reducible refine st_load 28 _ g1 ?_ n301 Try.underlying28 ?_ ?_ ?_); exact rfl; exact rfl; exact Try.zCr) | ((with_reducible refine st_loadG 28 _ g1 ?_ n301 Try.underlying28 ?_ ?_ ?_ ?_); exact rfl; exact rfl; exact Try.zCr; exact rfl)) | ((with_reducible refine st_store 28 _ _ g3 (yA ⟨B5, k, m5, la, ln, lc⟩) ?_ ?_ m301_z ?_ ?_ ?_ ?_); exact rfl; exact rfl; exact Try.zCr; exact rfl; exact yA_one _))
      refine ⟨fun V302 n302 k302 => ?_⟩
      have m302_y := k302.on n301 ne3_y
      have m302_s := (m301_s).keep fun g e => k302.far g (fun e' => (m301_s).ne_ m301_z (by decide) (by rw [e, e']))
      have o302 := k302.bel _ _ o301 up3
      clear k302
      clear m301_z n301 m301_s o301
      go_wp2_with fail
      refine bodyPost_ret (v := .tuple #[.agg (yA ⟨B5, k, m5, la, ln, lc⟩), .int .i64 ((cntL C x : Nat) : Int)]) (res_two Try.results33 rfl rfl n302 Try.underlying28 rfl Try.zCr) rfl ⟨B5, k, m5, rfl, ⟨_, m302_s⟩, o302⟩
end Go.Proofs.Ytjfmahceolhfnaa
