/-
  same of ChairActs. Conditions: the chair has the deals and the log of the document's, no transaction stands twice, all are below a thousand; the log has a thousand records at most.
-/
import Derived.Test.YtjfmahceolhfnaaCxE
import Derived.Test.YtjfmahceolhfnaaChX
import Derived.Test.YtjfmahceolhfnaaChT
set_option linter.unusedVariables false
set_option linter.unusedSimpArgs false
namespace Go.Proofs.Ytjfmahceolhfnaa
open Go.RowKit

set_option linter.unusedSectionVars false
/-- Cells of an element that is read only. -/
structure RA (W : World) (g o : Nat) (l : List Value) : Prop where
  out : W.rangeAt g o l
  lt : g < W.heap.size
theorem RA.on {W V : World} {g o : Nat} {l : List Value} (h : RA W g o l) (hb : Below W.heap.size W V) : RA V g o l := ⟨fun i v hv => (World.cell?_of_block (a := ⟨g, o + i, none⟩) (hb.block g h.lt)).trans (h.out i v hv), Nat.lt_of_lt_of_le h.lt hb.size⟩
theorem RA.drew {W : World} {g o : Nat} {l : List Value} (h : RA W g o l) : RA W.drew g o l := ⟨h.out, h.lt⟩
theorem RS.elem {α : Type} {c : α → List Value} {s : Nat} [Nonempty (EncOk c s)] {W : World} {T : TypeId} {A : Option Addr} {n q : Nat} {L : List α} (h : RS W T c s A n q L) {k : Nat} (hk : k < n) : ∃ g off x, L[k]? = some x ∧ A = some ⟨g, off, none⟩ ∧ RA W g (off + k * s) (c x) := by
  obtain ⟨G, h1⟩ := h
  obtain ⟨g, off, x, e1, e2, e3⟩ := (RR.of_seg h1).elem hk
  obtain ⟨g', off', e4, e5⟩ := seg_some h1 (by omega)
  rw [e2] at e4
  cases e4
  exact ⟨g, off, x, e1, e2, e3, h1.lt g e5⟩
/-- How many of the first are open. -/
def opK (C : List Dd) (k : Nat) : Nat := (C.take k).countP fun e => e.d.out == 0
theorem opK_0 (C : List Dd) : opK C 0 = 0 := by simp [opK]
theorem opK_le (C : List Dd) (k : Nat) : opK C k ≤ k := Nat.le_trans List.countP_le_length (by rw [List.length_take]; omega)
theorem opK_next {C : List Dd} {k : Nat} {e : Dd} (he : C[k]? = some e) : opK C (k + 1) = opK C k + if e.d.out = 0 then 1 else 0 := by
  unfold opK
  rw [List.take_add_one, he, List.countP_append]
  by_cases h : e.d.out = 0 <;> simp [List.countP_cons, h]
theorem opK_end {C : List Dd} {n : Nat} (h : OkC C) (hn : C.length = n) : opK C n = (opensF (fnC C)).length := by
  unfold opK
  rw [List.take_of_length_le (by omega), opens_cnt, cnt_list (fun d => d.out == 0) C h]
  rfl
theorem opens_rise {D : DM} {j t u : Nat} (h1 : (opensF D)[j]? = some u) (h2 : (opensF D)[j + 1]? = some t) : u < t := by
  obtain ⟨a1, b1⟩ := List.getElem?_eq_some_iff.1 h1
  obtain ⟨a2, b2⟩ := List.getElem?_eq_some_iff.1 h2
  have := List.pairwise_iff_getElem.1 (keysF_rise D (fun d => d.out == 0)) j (j + 1) a1 a2 (by omega)
  rw [← b1, ← b2]
  exact this
set_option maxRecDepth 100000 in
set_option maxHeartbeats 4000000 in
theorem same_c (b m : Nat) (G : Option Nat) (xa : Option Addr) (xn xc : Nat) (la : Option Addr) (ln lc : Nat) (C : List Dd) (L : List Rd) (w : World) (hm : CM w b m G (fnC C) L) (hf : Few (fnC C)) (h : XD w xa xn xc C) (hk : KD w la ln lc L) (hC : OkC C) (hl : L.length ≤ 1000) : Calls Try.prog 16 #[.pointer (some ⟨b, 0, none⟩), .agg (yA ⟨xa, xn, xc, la, ln, lc⟩)] w fun zz w' => zz = .returned (.bool true) ∧ Below w.heap.size w w' := by
  have hxl := h.len
  have hkl := hk.len
  have hl3 := okC_len hC
  have hn3 : xn ≤ 1000 := by omega
  have hn4 : ln ≤ 1000 := by omega
  have cu := CU.start hm
  have xl := RL.start h
  have kl := RL.start hk
  clear h hk hm
  have hFind := fun (tx : Int) (W : World) (h : XD W xa xn xc C) => find_r xa xn xc la ln lc C tx W h
  have hrr : ∀ (r : Rd) (V : World), (Op.equalIn 10000 34 (.agg (rA r)) (.agg (rA r))).run Try.prog V = .ok true V := fun r V => eqrr_refl r 9998 V
  have htr : ∀ (U : Ty) (V : World), (Op.equalIn 10000 73 (.agg (tA U)) (.agg (tA U))).run Try.prog V = .ok true V := fun U V => by have := eq_tr U U V; rw [eqY_refl] at this; exact this
  have hmr : ∀ (t : Te.Tm) (V : World), (Op.equalIn 10000 74 (.agg (mA t)) (.agg (mA t))).run Try.prog V = .ok true V := fun t V => eqmr_refl t 9998 V
  go_enter Try.func16, Try.ntmps16
  go_wp2_with (first | ((with_reducible refine st_box 28 _ (yA ⟨xa, xn, xc, la, ln, lc⟩) ?_ ?_); exact rfl))
  refine ⟨fun V1 g1 n1 f1 => ?_⟩
  have up1 : w.heap.size ≤ g1 := Nat.le_of_eq f1.at_
  have bl1 := f1.bel
  clear f1
  have r2_cu := (cu).on bl1
  have r2_xl := (xl).on bl1
  have r2_kl := (kl).on bl1
  have l2 := le_tr (Below.refl _ _) bl1
  clear cu xl kl
  clear bl1
  go_wp2_with fail
  (with_reducible refine (log_c b m G (fnC C) L _ r2_cu.cm (by omega)).mono ?_)
  rintro e w2 ⟨Al, nl, cl, rfl, sl, b2⟩
  have en : nl = ln := by rw [← sl.len]; exact hkl
  rw [en] at sl ⊢
  clear en
  have r3_y := le_on n1 b2
  have r3_cu := (r2_cu).on b2
  have r3_xl := (r2_xl).on b2
  have r3_kl := (r2_kl).on b2
  have l3 := le_tr l2 b2
  clear n1 r2_cu r2_xl r2_kl l2
  clear b2
  have q0 : ((ln : Int) != (ln : Int)) = false := by simp
  have c4 : w2.cell? ⟨g1, 1, none⟩ = some (.slice la ln lc) := CB.cell r3_y 1
  go_wp2_with fail
  clear c4
  go_loopw [26] (fun iv wr => ∃ k : Nat, k ≤ ln ∧ iv = .int .i64 k ∧ CB wr g1 28 (yA ⟨xa, xn, xc, la, ln, lc⟩) ∧ CU w wr b m G (fnC C) L ∧ RL w wr 76 xcl 30 xa xn xc C ∧ RL w wr 34 kcl 8 la ln lc L ∧ RS wr 33 kcl 8 Al ln cl L ∧ Below w.heap.size w wr) (fun iv _ => ln - (intOf iv).toNat)
  case atStart => exact ⟨0, by omega, rfl, r3_y, r3_cu, r3_xl, r3_kl, sl, l3⟩
  case round =>
    clear r3_y r3_cu r3_xl r3_kl sl l3
    obtain ⟨k, hk, rfl, hy, hcu, hxr, hkr, hsl, hb⟩ := hrel
    by_cases hlt : k < ln
    · have l1 : (k : Int) < ln := by omega
      have l2 : (0 : Int) ≤ (k : Int) := by omega
      obtain ⟨p1, o1, x, hx1, rfl, r1⟩ := hsl.elem hlt
      obtain ⟨p2, o2, x2, hx2, rfl, r2⟩ := hkr.rs.elem hlt
      obtain rfl : x = x2 := by rw [hx1] at hx2; cases hx2; rfl
      clear hx1 hx2
      have hq := hrr x
      go_wp2_with fail
      have y101 := Lib.hid (show (fun V : World => CB V g1 28 (yA ⟨xa, xn, xc, some ⟨p2, o2, none⟩, ln, lc⟩) ∧ RA V p1 (o1 + k * 8) (kcl x) ∧ RA V p2 (o2 + k * 8) (kcl x)) wr.drew from ⟨CB.drew hy, (r1).drew, (r2).drew⟩)
      refine wp_region_held_drew (S := (fun V : World => CB V g1 28 (yA ⟨xa, xn, xc, some ⟨p2, o2, none⟩, ln, lc⟩) ∧ RA V p1 (o1 + k * 8) (kcl x) ∧ RA V p2 (o2 + k * 8) (kcl x))) (by kernel_rfl) y101.out (fun hHeld => ?_)
      obtain ⟨D101, hD101⟩ : ∃ V, wr.drew = V := ⟨_, rfl⟩
      have b101 : Below wr.heap.size wr D101 := by rw [← hD101]; exact le_dr (Below.refl _ _)
      rw [hD101] at hHeld ⊢
      clear hD101
      have r102_y := le_on hy b101
      have r102_cu := (hcu).on b101
      have r102_xl := (hxr).on b101
      have r102_kl := (hkr).on b101
      have r102_sl := (hsl).on b101
      have r102_r1 := (r1).on b101
      have r102_r2 := (r2).on b101
      have l102 := le_tr hb b101
      clear hy hcu hxr hkr hsl r1 r2 hb
      clear b101
      refine wpAnyH_takeL (i := 0) (d := some 29) (v := .slice (some ⟨p1, o1, none⟩) ln cl) rfl rfl (by kernel_rfl) (by kernel_rfl) (by kernel_rfl) (fun _ _ _ h => h) (Or.inl ⟨by rfl, ?_⟩) hHeld ?_
      · intro w hSw; (try dsimp only at hSw); go_simp
      try simp only [Act.put, List.setIfInBounds_toArray, List.set_cons_zero, List.set_cons_succ]
      refine wpAnyH_takeL (i := 1) (d := some 30) (v := .int .i64 (k : Int)) rfl rfl (by kernel_rfl) (by kernel_rfl) (by kernel_rfl) (fun _ _ _ h => h) (Or.inl ⟨by rfl, ?_⟩) hHeld ?_
      · intro w hSw; (try dsimp only at hSw); go_simp
      try simp only [Act.put, List.setIfInBounds_toArray, List.set_cons_zero, List.set_cons_succ]
      refine wpAnyH_takeL (i := 2) (d := some 31) (v := .pointer (some ⟨p1, o1 + k * 8, none⟩)) rfl rfl (by kernel_rfl) (by kernel_rfl) (by kernel_rfl) (fun _ _ _ h => h) (Or.inl ⟨by rfl, ?_⟩) hHeld ?_
      · intro w hSw; (try dsimp only at hSw); go_simp
      try simp only [Act.put, List.setIfInBounds_toArray, List.set_cons_zero, List.set_cons_succ]
      refine wpAnyH_takeL (i := 3) (d := some 32) (v := .agg (rA x)) rfl rfl (by kernel_rfl) (by kernel_rfl) (by kernel_rfl) (fun _ _ _ h => h) (Or.inl ⟨by rfl, ?_⟩) hHeld ?_
      · intro w hSw; exact yl_elem 33 _ p1 (o1 + k * 8) (rA x) rfl (show w.rangeAt p1 (o1 + k * 8) (rA x).toList from (hSw.2.1).out) Try.underlying33 rfl Try.zRk
      try simp only [Act.put, List.setIfInBounds_toArray, List.set_cons_zero, List.set_cons_succ]
      refine wpAnyH_takeL (i := 4) (d := some 33) (v := .pointer (some ⟨g1, 1, none⟩)) rfl rfl (by kernel_rfl) (by kernel_rfl) (by kernel_rfl) (fun _ _ _ h => h) (Or.inl ⟨by rfl, ?_⟩) hHeld ?_
      · intro w hSw; (try dsimp only at hSw); go_simp
      try simp only [Act.put, List.setIfInBounds_toArray, List.set_cons_zero, List.set_cons_succ]
      refine wpAnyH_takeL (i := 5) (d := some 34) (v := .slice (some ⟨p2, o2, none⟩) ln lc) rfl rfl (by kernel_rfl) (by kernel_rfl) (by kernel_rfl) (fun _ _ _ h => h) (Or.inl ⟨by rfl, ?_⟩) hHeld ?_
      · intro w hSw; (try dsimp only at hSw); have hcc : w.cell? ⟨g1, 1, none⟩ = some (.slice (some ⟨p2, o2, none⟩) ln lc) := CB.cell hSw.1 1; go_simp
      try simp only [Act.put, List.setIfInBounds_toArray, List.set_cons_zero, List.set_cons_succ]
      refine wpAnyH_takeL (i := 6) (d := some 35) (v := .int .i64 (k : Int)) rfl rfl (by kernel_rfl) (by kernel_rfl) (by kernel_rfl) (fun _ _ _ h => h) (Or.inl ⟨by rfl, ?_⟩) hHeld ?_
      · intro w hSw; (try dsimp only at hSw); go_simp
      try simp only [Act.put, List.setIfInBounds_toArray, List.set_cons_zero, List.set_cons_succ]
      refine wpAnyH_takeL (i := 7) (d := some 36) (v := .pointer (some ⟨p2, o2 + k * 8, none⟩)) rfl rfl (by kernel_rfl) (by kernel_rfl) (by kernel_rfl) (fun _ _ _ h => h) (Or.inl ⟨by rfl, ?_⟩) hHeld ?_
      · intro w hSw; (try dsimp only at hSw); go_simp
      try simp only [Act.put, List.setIfInBounds_toArray, List.set_cons_zero, List.set_cons_succ]
      refine wpAnyH_takeL (i := 8) (d := some 37) (v := .agg (rA x)) rfl rfl (by kernel_rfl) (by kernel_rfl) (by kernel_rfl) (fun _ _ _ h => h) (Or.inl ⟨by rfl, ?_⟩) hHeld ?_
      · intro w hSw; exact yl_elem 34 _ p2 (o2 + k * 8) (rA x) rfl (show w.rangeAt p2 (o2 + k * 8) (rA x).toList from (hSw.2.2).out) Try.underlying34 rfl Try.zRr
      try simp only [Act.put, List.setIfInBounds_toArray, List.set_cons_zero, List.set_cons_succ]
      refine wpAnyH_takeL (i := 9) (d := some 38) (v := .bool false) rfl rfl (by kernel_rfl) (by kernel_rfl) (by kernel_rfl) (fun _ _ _ h => h) (Or.inl ⟨by rfl, ?_⟩) hHeld ?_
      · intro w hSw; (try dsimp only at hSw); go_simp
      try simp only [Act.put, List.setIfInBounds_toArray, List.set_cons_zero, List.set_cons_succ]
      refine wpAnyH_done (by kernel_rfl) ?_ _
      go_wp2_with fail
      go_roundw
      case rel => exact ⟨k + 1, by omega, by go_num, r102_y, r102_cu, r102_xl, r102_kl, r102_sl, l102⟩
      case measure => simp [intOf]; omega
    · obtain rfl : k = ln := by omega
      clear hlt hk
      go_wp2_with fail
      (with_reducible refine (open_c b m G (fnC C) L _ hcu.cm hf).mono ?_)
      rintro e w3 ⟨A1, n1, c1, rfl, s1, b3⟩
      clear hkr hsl
      have r201_y := le_on hy b3
      have r201_cu := (hcu).on b3
      have r201_xl := (hxr).on b3
      have l201 := le_tr hb b3
      clear hy hcu hxr hb
      clear b3
      have hn1 := s1.len
      have hn13 : n1 ≤ 1000 := by rw [← hn1]; exact keysF_len _ _
      go_wp2_with fail
      go_loopw [44] (fun iv wr => ∃ j : Nat, j ≤ n1 ∧ iv = .int .i64 j ∧ CB wr g1 28 (yA ⟨xa, xn, xc, la, k, lc⟩) ∧ CU w wr b m G (fnC C) L ∧ RL w wr 76 xcl 30 xa xn xc C ∧ ZS wr A1 n1 c1 (opensF (fnC C)) ∧ Below w.heap.size w wr) (fun iv _ => n1 - (intOf iv).toNat)
      case atStart => exact ⟨0, by omega, rfl, r201_y, r201_cu, r201_xl, s1, l201⟩
      case round =>
        clear r201_y r201_cu r201_xl s1 l201
        obtain ⟨j, hj, rfl, hy, hcu, hxr, hop, hb⟩ := hrel
        by_cases hlt : j < n1
        · have l1 : (j : Int) < n1 := by omega
          have l2 : (0 : Int) ≤ (j : Int) := by omega
          obtain ⟨gx, ox, t, ht, hA1, cx⟩ := hop.rr.num hlt
          subst hA1
          obtain ⟨d, hd, hd0, ht0⟩ := opens_at ht
          obtain ⟨i, e0, hi, hk0, he0⟩ : ∃ (i : Nat) (e0 : Dd), findI C (t : Int) = (i : Int) ∧ C[i]? = some e0 ∧ e0.tx = (t : Int) := by
            rcases findI_cases C (t : Int) with ⟨_, hno⟩ | h
            · rw [fnC_none.2 (fun e he => hno e he)] at hd; cases hd
            · exact h
          have hde : fnC C t = some e0.d := fnC_of hC hk0 he0
          have hout : e0.d.out = 0 := by rw [hd] at hde; cases hde; exact hd0
          have F1 := fun (W : World) (h : XD W xa xn xc C) => hFind (t : Int) W h
          rw [hi] at F1
          have hin : i < xn := by rw [← hxl]; exact (List.getElem?_eq_some_iff.1 hk0).1
          obtain ⟨ga, ofa, e1, he1, hA, ra⟩ := hxr.rs.elem hin
          obtain rfl : e0 = e1 := by rw [hk0] at he1; cases he1; rfl
          subst hA
          have q1 : decide ((i : Int) < 0) = false := by simp
          have q1' : ¬ ((i : Int) < 0) := by omega
          have i1 : (i : Int) < xn := by omega
          have i2 : (0 : Int) ≤ (i : Int) := by omega
          have HT := Lib.hid ht
          clear hd hde hi hk0 he0 he1 ht d hd0
          by_cases hj0 : j = 0
          · subst hj0
            rw [Nat.add_zero] at cx
            go_wp2_with (first | (first | ((with_reducible refine st_load 28 _ g1 ?_ hy Try.underlying28 ?_ ?_ ?_); exact rfl; exact rfl; exact Try.zCr) | ((with_reducible refine st_loadG 28 _ g1 ?_ hy Try.underlying28 ?_ ?_ ?_ ?_); exact rfl; exact rfl; exact Try.zCr; exact rfl)))
            refine (F1 _ hxr.rs).mono ?_
            rintro e w301 ⟨rfl, b301⟩
            have r302_y := le_on hy b301
            have r302_cu := (hcu).on b301
            have r302_xl := (hxr).on b301
            have r302_op := (hop).on b301
            have r302_ra := (ra).on b301
            have l302 := le_tr hb b301
            clear hy hcu hxr hop ra hb
            clear b301
            have q2 : decide (((0 : Nat) : Int) > 0) = false := by decide
            have q2' : decide ((0 : Int) > 0) = false := by decide
            have cx2 : w301.cell? ⟨ga, ofa + i * 30 + 29, none⟩ = some (.int .i64 0) := by rw [← hout]; exact r302_ra.out 29 _ rfl
            have c303 : w301.cell? ⟨g1, 0, none⟩ = some (.slice (some ⟨ga, ofa, none⟩) xn xc) := CB.cell r302_y 0
            go_wp2_with fail
            clear cx2 c303
            go_roundw
            case rel => exact ⟨0 + 1, by omega, by go_num, r302_y, r302_cu, r302_xl, r302_op, l302⟩
            case measure => simp [intOf]; omega
          · obtain ⟨j', rfl⟩ : ∃ j', j = j' + 1 := ⟨j - 1, by omega⟩
            obtain ⟨gx2, ox2, u, hu, hA2, _⟩ := hop.rr.num (show j' < n1 by omega)
            cases hA2
            have hut := opens_rise hu HT.out
            clear HT
            have q2 : decide (((j' + 1 : Nat) : Int) > 0) = true := by rw [decide_eq_true_iff]; omega
            have q2' : decide ((j' : Int) + 1 > 0) = true := by rw [decide_eq_true_iff]; omega
            have q3 : decide ((u : Int) ≥ (t : Int)) = false := by simp; omega
            have l3 : (j' : Int) < n1 := by omega
            have l4 : (0 : Int) ≤ (j' : Int) := by omega
            go_wp2_with (first | (first | ((with_reducible refine st_load 28 _ g1 ?_ hy Try.underlying28 ?_ ?_ ?_); exact rfl; exact rfl; exact Try.zCr) | ((with_reducible refine st_loadG 28 _ g1 ?_ hy Try.underlying28 ?_ ?_ ?_ ?_); exact rfl; exact rfl; exact Try.zCr; exact rfl)))
            refine (F1 _ hxr.rs).mono ?_
            rintro e w301 ⟨rfl, b301⟩
            have r302_y := le_on hy b301
            have r302_cu := (hcu).on b301
            have r302_xl := (hxr).on b301
            have r302_op := (hop).on b301
            have r302_ra := (ra).on b301
            have l302 := le_tr hb b301
            clear hy hcu hxr hop ra hb
            clear b301
            obtain ⟨gx3, ox3, u2, hu2, hA3, cu2⟩ := r302_op.rr.num (show j' < n1 by omega)
            cases hA3
            obtain rfl : u = u2 := by rw [hu] at hu2; cases hu2; rfl
            clear hu2
            have cx2 : w301.cell? ⟨ga, ofa + i * 30 + 29, none⟩ = some (.int .i64 0) := by rw [← hout]; exact r302_ra.out 29 _ rfl
            have c303 : w301.cell? ⟨g1, 0, none⟩ = some (.slice (some ⟨ga, ofa, none⟩) xn xc) := CB.cell r302_y 0
            go_wp2_with fail
            clear cu2 cx2 c303
            go_roundw
            case rel => exact ⟨j' + 1 + 1, by omega, by go_num, r302_y, r302_cu, r302_xl, r302_op, l302⟩
            case measure => simp [intOf]; omega
        · obtain rfl : j = n1 := by omega
          clear hlt hj
          have c501 : wr.cell? ⟨g1, 0, none⟩ = some (.slice xa xn xc) := CB.cell hy 0
          go_wp2_with fail
          clear c501
          go_loopw [8, 80] (fun nv iv wr => ∃ i : Nat, i ≤ xn ∧ iv = .int .i64 i ∧ nv = .int .i64 ((opK C i : Nat) : Int) ∧ CU w wr b m G (fnC C) L ∧ RL w wr 76 xcl 30 xa xn xc C ∧ Below w.heap.size w wr) (fun _ iv _ => xn - (intOf iv).toNat)
          case atStart => exact ⟨0, by omega, rfl, by rw [opK_0]; rfl, hcu, hxr, hb⟩
          case round =>
            clear hcu hxr hb hy
            obtain ⟨i, hi, rfl, rfl, hcu, hxr, hb⟩ := hrel
            by_cases hlt : i < xn
            · have l1 : (i : Int) < xn := by omega
              have l2 : (0 : Int) ≤ (i : Int) := by omega
              obtain ⟨ga, ofa, e, he, hA, ra⟩ := hxr.rs.elem hlt
              subst hA
              have hrg := hC.rng e (List.mem_of_getElem? he)
              have hfe := fnC_at hC he
              have hdo : dOf (fnC C) e.tx = some e.d := by unfold dOf; rw [if_pos hrg.1]; exact hfe
              have hdg : dGet (fnC C) e.tx = e.d := by unfold dGet; rw [hdo]; rfl
              have hds : (dOf (fnC C) e.tx).isSome = true := by rw [hdo]; rfl
              have DC := fun (W : World) (h : CM W b m G (fnC C) L) => deal_c b m G (fnC C) L e.tx W h (wfI (by omega))
              rw [hdg, hds] at DC
              have HC := Lib.hid (opK_next he)
              have hcb := Nat.le_trans (opK_le C i) hi
              obtain ⟨cn, hcn⟩ : ∃ cn, opK C i = cn := ⟨_, rfl⟩
              rw [hcn] at HC hcb ⊢
              clear hcn hdo hdg hds hfe he hrg
              have hE1 := htr e.d.ty
              have hE2 := hmr e.d.tm
              have q5 : (e.d.out != e.d.out) = false := by simp
              have r0 : wr.rangeAt ga (ofa + i * 30) (xA e).toList := ra.out
              go_wp2_with (first | ((with_reducible refine st_elem 76 _ ga (ofa + i * 30) (xA e) ?_ r0 Try.underlying76 ?_ ?_ ?_); exact rfl; exact rfl; exact Try.zDr) | ((with_reducible refine st_alloc 76 (xA zeroX) ?_ ?_); exact zero_dr))
              refine ⟨fun V601 g601 n601 f601 => ?_⟩
              have up601 : w.heap.size ≤ g601 := f601.up hb
              have bl601 := f601.bel
              clear f601
              have r602_cu := (hcu).on bl601
              have r602_xl := (hxr).on bl601
              have l602 := le_tr hb bl601
              clear hcu hxr hb
              clear bl601
              clear r0 ra
              go_wp2_with (first | ((with_reducible refine st_store 76 _ _ g601 (xA e) ?_ ?_ n601 ?_ ?_ ?_ ?_); exact rfl; exact rfl; exact Try.zDr; exact rfl; exact xA_one _))
              refine ⟨fun V603 n603 k603 => ?_⟩
              have m603_cu := (r602_cu).wr k603 up601
              have m603_xl := (r602_xl).wr k603 up601
              have o603 := k603.bel _ _ l602 up601
              clear k603
              clear n601 r602_cu r602_xl l602
              have c604 : V603.cell? ⟨g601, 0, none⟩ = some (.int .i64 e.tx) := CB.cell n603 0
              go_wp2_with fail
              refine (DC _ m603_cu.cm).mono ?_
              rintro e w605 ⟨rfl, b605⟩
              clear c604
              have r606_x := le_on n603 b605
              have r606_cu := (m603_cu).on b605
              have r606_xl := (m603_xl).on b605
              have l606 := le_tr o603 b605
              clear n603 m603_cu m603_xl o603
              clear b605
              go_wp2_with (first | ((with_reducible refine st_alloc 44 (dA zeroD) ?_ ?_); exact zero_dl))
              refine ⟨fun V607 g607 n607 f607 => ?_⟩
              have ne607_x := f607.ne r606_x
              have up607 : w.heap.size ≤ g607 := f607.up l606
              have bl607 := f607.bel
              clear f607
              have r608_x := le_on r606_x bl607
              have r608_cu := (r606_cu).on bl607
              have r608_xl := (r606_xl).on bl607
              have l608 := le_tr l606 bl607
              clear r606_x r606_cu r606_xl l606
              clear bl607
              go_wp2_with (first | ((with_reducible refine st_store 44 _ _ g607 (dA (e.d)) ?_ ?_ n607 ?_ ?_ ?_ ?_); exact rfl; exact rfl; exact Try.zDl; exact rfl; exact dA_one _))
              refine ⟨fun V609 n609 k609 => ?_⟩
              have m609_x := k609.on r608_x ne607_x
              have m609_cu := (r608_cu).wr k609 up607
              have m609_xl := (r608_xl).wr k609 up607
              have o609 := k609.bel _ _ l608 up607
              clear k609
              clear n607 r608_x r608_cu r608_xl l608
              have c610 : V609.cell? ⟨g607, 28, none⟩ = some (.int .i64 (e.d).out) := CB.cell n609 28
              have c611 : V609.cell? ⟨g601, 29, none⟩ = some (.int .i64 e.d.out) := CB.cell m609_x 29
              by_cases ho : e.d.out = 0
              · have q6 : (e.d.out == 0) = true := by simp [ho]
                have HC2 := Lib.hid (show opK C (i + 1) = cn + 1 by rw [HC.out]; rw [if_pos ho])
                clear ho HC
                go_wp2_with (first | (first | ((with_reducible refine st_part 40 _ g607 0 ?_ (pt := tA (e.d).ty) n609 ?_ Try.underlying40 ?_ ?_ ?_); exact rfl; exact dA_pty _; exact rfl; exact Try.zTc) | ((with_reducible refine st_partG 40 _ g607 0 ?_ (pt := tA (e.d).ty) n609 ?_ Try.underlying40 ?_ ?_ ?_ ?_); exact rfl; exact dA_pty _; exact rfl; exact Try.zTc; exact rfl)) | (first | ((with_reducible refine st_part 73 _ g601 1 ?_ (pt := tA e.d.ty) m609_x ?_ Try.underlying73 ?_ ?_ ?_); exact rfl; exact xA_pty _; exact rfl; exact Try.zTr) | ((with_reducible refine st_partG 73 _ g601 1 ?_ (pt := tA e.d.ty) m609_x ?_ Try.underlying73 ?_ ?_ ?_ ?_); exact rfl; exact xA_pty _; exact rfl; exact Try.zTr; exact rfl)) | (first | ((with_reducible refine st_part 42 _ g607 24 ?_ (pt := mA (e.d).tm) n609 ?_ Try.underlying42 ?_ ?_ ?_); exact rfl; exact dA_ptm _; exact rfl; exact Try.zTm) | ((with_reducible refine st_partG 42 _ g607 24 ?_ (pt := mA (e.d).tm) n609 ?_ Try.underlying42 ?_ ?_ ?_ ?_); exact rfl; exact dA_ptm _; exact rfl; exact Try.zTm; exact rfl)) | (first | ((with_reducible refine st_part 74 _ g601 25 ?_ (pt := mA e.d.tm) m609_x ?_ Try.underlying74 ?_ ?_ ?_); exact rfl; exact xA_ptm _; exact rfl; exact Try.zTmr) | ((with_reducible refine st_partG 74 _ g601 25 ?_ (pt := mA e.d.tm) m609_x ?_ Try.underlying74 ?_ ?_ ?_ ?_); exact rfl; exact xA_ptm _; exact rfl; exact Try.zTmr; exact rfl)))
                go_roundw
                case rel => exact ⟨i + 1, by omega, by go_num, by rw [HC2.out]; go_num, m609_cu, m609_xl, o609⟩
                case measure => simp [intOf]; omega
              · have q6 : (e.d.out == 0) = false := by simp [ho]
                have HC2 := Lib.hid (show opK C (i + 1) = cn by rw [HC.out]; rw [if_neg ho]; rfl)
                clear ho HC
                go_wp2_with (first | (first | ((with_reducible refine st_part 40 _ g607 0 ?_ (pt := tA (e.d).ty) n609 ?_ Try.underlying40 ?_ ?_ ?_); exact rfl; exact dA_pty _; exact rfl; exact Try.zTc) | ((with_reducible refine st_partG 40 _ g607 0 ?_ (pt := tA (e.d).ty) n609 ?_ Try.underlying40 ?_ ?_ ?_ ?_); exact rfl; exact dA_pty _; exact rfl; exact Try.zTc; exact rfl)) | (first | ((with_reducible refine st_part 73 _ g601 1 ?_ (pt := tA e.d.ty) m609_x ?_ Try.underlying73 ?_ ?_ ?_); exact rfl; exact xA_pty _; exact rfl; exact Try.zTr) | ((with_reducible refine st_partG 73 _ g601 1 ?_ (pt := tA e.d.ty) m609_x ?_ Try.underlying73 ?_ ?_ ?_ ?_); exact rfl; exact xA_pty _; exact rfl; exact Try.zTr; exact rfl)) | (first | ((with_reducible refine st_part 42 _ g607 24 ?_ (pt := mA (e.d).tm) n609 ?_ Try.underlying42 ?_ ?_ ?_); exact rfl; exact dA_ptm _; exact rfl; exact Try.zTm) | ((with_reducible refine st_partG 42 _ g607 24 ?_ (pt := mA (e.d).tm) n609 ?_ Try.underlying42 ?_ ?_ ?_ ?_); exact rfl; exact dA_ptm _; exact rfl; exact Try.zTm; exact rfl)) | (first | ((with_reducible refine st_part 74 _ g601 25 ?_ (pt := mA e.d.tm) m609_x ?_ Try.underlying74 ?_ ?_ ?_); exact rfl; exact xA_ptm _; exact rfl; exact Try.zTmr) | ((with_reducible refine st_partG 74 _ g601 25 ?_ (pt := mA e.d.tm) m609_x ?_ Try.underlying74 ?_ ?_ ?_ ?_); exact rfl; exact xA_ptm _; exact rfl; exact Try.zTmr; exact rfl)))
                go_roundw
                case rel => exact ⟨i + 1, by omega, by go_num, by rw [HC2.out], m609_cu, m609_xl, o609⟩
                case measure => simp [intOf]; omega
            · obtain rfl : i = xn := by omega
              have HO := opK_end hC hxl
              rw [hn1] at HO
              rw [HO]
              have q7 : ((j : Int) == (j : Int)) = true := by simp
              clear HO hlt hi
              go_wp2_with fail
              go_ret
              exact ⟨rfl, hb⟩
end Go.Proofs.Ytjfmahceolhfnaa
