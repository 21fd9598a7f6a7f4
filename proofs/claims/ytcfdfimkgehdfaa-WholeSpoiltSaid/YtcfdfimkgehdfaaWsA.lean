/-
  The law WholeSpoilt, walked. Conditions: the note's bytes are in their type's range, the place is a number of its type.
-/
import Derived.Test.YtcfdfimkgehdfaaWqL
import Derived.Test.YtcfdfimkgehdfaaAiPk
import Derived.Test.YtcfdfimkgehdfaaAiMb
import Derived.Test.YtcfdfimkgehdfaaDzTopN
set_option linter.unusedVariables false
set_option linter.unusedSimpArgs false
namespace Go.Proofs.Ytcfdfimkgehdfaa
open Go.RowKit
open Dk (Nt InN RightN BoundN MsgN NoMsg KindN EpN bound_n)


theorem rr_of {W : World} {x : Lm} {f t : Nat} {bs : List UInt8} (h : RR W bcl 1 x.A x.n x.c x.b) (hx : x.lt = ⟨f, t, bs⟩) : RR W bcl 1 x.A x.n x.c bs := by
  have hb : x.b = bs := congrArg Lt.b hx
  rw [hb] at h
  exact h
theorem xor_nb {a b : UInt8} (h : ¬ b = 0) : ¬ a = a ^^^ b := by
  intro e
  apply h
  have := congrArg (a ^^^ ·) e
  simpa [← UInt8.xor_assoc] using this.symm
theorem spoilt_b {n : Nt} (hi : InN n) (hr : RightN n) {j : Nat} {y : UInt8} (h3 : 3 ≤ j) (hj : j < (Dk.byN n).length) (hy : ¬ y = 0) : Dk.dNt (tnB (Dk.byN n) j y) = none := by
  rw [tnB_at (Dk.byN n) j y (j := j) (Nat.mod_eq_of_lt hj)]
  have hx : (Dk.byN n)[j]? = some (Dk.byN n)[j] := List.getElem?_eq_getElem hj
  rw [hx]
  exact Dk.dNt_turned hi hr hx (xor_nb hy) (.inr h3)
set_option maxRecDepth 100000 in
set_option maxHeartbeats 8000000 in
theorem spoilt_walk (n : Nt) (p : Nat) (y : UInt8) (w : World) (hi : InN n) (hp : p < 65536) : Calls Try.prog 10 #[.agg (ntA n), .int .u16 (p : Int), .int .u8 (y.toNat : Int)] w fun e w' => e = .returned (.bool true) ∧ Below w.heap.size w w' := by
  by_cases hs : n.cg.size ≤ 500
  rotate_left
  · skip
    have q1 : decide ((500 : Int) < (n.cg.size : Int)) = true := by simp; omega
    have q1' : decide ((n.cg.size : Int) > (500 : Int)) = true := by simp; omega
    go_enter Try.func10, Try.ntmps10
    go_wp2_with (first | ((with_reducible refine st_box 81 _ (ntA n) ?_ ?_); exact rfl))
    refine ⟨fun V1 g1 n1 f1 => ?_⟩
    have up1 : w.heap.size ≤ g1 := Nat.le_of_eq f1.at_
    have bl1 := f1.bel
    clear f1
    have l4 := le_tr (Below.refl _ _) bl1
    clear bl1
    have c5 : V1.cell? ⟨g1, 9, none⟩ = some (.string (n.cg)) := CB.cell n1 9
    go_wp2_with fail
    (with_reducible refine (Dz.works_c _).mono ?_)
    rintro e w6 ⟨rfl, b6⟩
    clear c5
    have r9_n := le_on n1 b6
    have l9 := le_tr l4 b6
    clear n1 l4
    clear b6
    go_wp2_with fail
    go_ret
    exact ⟨rfl, l9⟩
  have q1 : decide ((500 : Int) < (n.cg.size : Int)) = false := by simp; omega
  have q1' : decide ((n.cg.size : Int) > (500 : Int)) = false := by simp; omega
  by_cases hy : y = 0
  · have q2 : ((y.toNat : Int) == 0) = true := by rw [hy]; rfl
    go_enter Try.func10, Try.ntmps10
    go_wp2_with (first | ((with_reducible refine st_box 81 _ (ntA n) ?_ ?_); exact rfl))
    refine ⟨fun V1 g1 n1 f1 => ?_⟩
    have up1 : w.heap.size ≤ g1 := Nat.le_of_eq f1.at_
    have bl1 := f1.bel
    clear f1
    have l4 := le_tr (Below.refl _ _) bl1
    clear bl1
    have c5 : V1.cell? ⟨g1, 9, none⟩ = some (.string (n.cg)) := CB.cell n1 9
    go_wp2_with fail
    (with_reducible refine (Dz.works_c _).mono ?_)
    rintro e w6 ⟨rfl, b6⟩
    clear c5
    have r9_n := le_on n1 b6
    have l9 := le_tr l4 b6
    clear n1 l4
    clear b6
    go_wp2_with fail
    go_ret
    exact ⟨rfl, l9⟩
  have q2 : ((y.toNat : Int) == 0) = false := by rw [beq_eq_false_iff_ne]; intro e; exact hy (UInt8.toNat_inj.1 (by simpa using e))
  obtain ⟨k, hk⟩ : ∃ k, 25 + n.cg.size = k := ⟨_, rfl⟩
  have hkb : k ≤ 525 := by omega
  have hka : 25 ≤ k := by omega
  clear hs
  have C1 := fun W => right_c n W
  by_cases hr : RightN n
  rotate_left
  · simp only [decide_eq_false hr] at C1
    have HI := Lib.hid hi
    have HR := Lib.hid hr
    clear hi hr hk hkb hka hy
    go_enter Try.func10, Try.ntmps10
    go_wp2_with (first | ((with_reducible refine st_box 81 _ (ntA n) ?_ ?_); exact rfl))
    refine ⟨fun V1 g1 n1 f1 => ?_⟩
    have up1 : w.heap.size ≤ g1 := Nat.le_of_eq f1.at_
    have bl1 := f1.bel
    clear f1
    have l4 := le_tr (Below.refl _ _) bl1
    clear bl1
    have c5 : V1.cell? ⟨g1, 9, none⟩ = some (.string (n.cg)) := CB.cell n1 9
    go_wp2_with fail
    (with_reducible refine (Dz.works_c _).mono ?_)
    rintro e w6 ⟨rfl, b6⟩
    clear c5
    have r9_n := le_on n1 b6
    have l9 := le_tr l4 b6
    clear n1 l4
    clear b6
    go_wp2_with (first | (first | ((with_reducible refine st_load 81 _ g1 ?_ r9_n Try.underlying81 ?_ ?_ ?_); exact rfl; exact rfl; exact Try.zNc) | ((with_reducible refine st_loadG 81 _ g1 ?_ r9_n Try.underlying81 ?_ ?_ ?_ ?_); exact rfl; exact rfl; exact Try.zNc; exact rfl)))
    have lt10_n := CB.lt r9_n
    have lb10 : w.heap.size ≤ w6.heap.size := Below.size (B := w.heap.size) l9
    (with_reducible refine (enc_not n _ HI.out HR.out).mono ?_)
    rintro e w10 ⟨A2, q2, G2, rfl, h2, b10⟩
    have r13_n := le_on r9_n b10
    have l13 := le_tr l9 b10
    clear r9_n l9
    clear b10
    have na14 := SO.above h2 lt10_n
    have sm10_x := SO.mono h2 lb10
    clear h2
    clear lb10 lt10_n
    go_wp2_with fail
    have cn15 := anew_c (3 : Int) w10
    (with_reducible refine cn15.mono ?_)
    clear cn15
    intro e w15 hp15
    obtain ⟨ba15, S15, rfl, ao15, h015, bl15⟩ := NPost.yes (r := 3) (by omega) (by omega) hp15
    clear hp15
    have nb15_n : ¬ S15 g1 := fun e => by have := h015 _ e; have := CB.lt r13_n; omega
    have ns15_x : ∀ g, G2 = some g → ¬ S15 g := fun g e e2 => by have := h015 g e2; have := sm10_x.seg.lt g e; omega
    have hi15 : ∀ i, S15 i → w.heap.size ≤ i := fun i e => Nat.le_trans (l13).size (h015 i e)
    clear h015
    have r17_x := SO.on sm10_x bl15
    have r18_n := le_on r13_n bl15
    have l18 := le_tr l13 bl15
    clear r13_n l13
    clear sm10_x
    clear bl15
    go_wp2_with (first | (first | ((with_reducible refine st_load 81 _ g1 ?_ r18_n Try.underlying81 ?_ ?_ ?_); exact rfl; exact rfl; exact Try.zNc) | ((with_reducible refine st_loadG 81 _ g1 ?_ r18_n Try.underlying81 ?_ ?_ ?_ ?_); exact rfl; exact rfl; exact Try.zNc; exact rfl)))
    (with_reducible refine (C1 _).mono ?_)
    rintro e w19 ⟨rfl, b19⟩
    have r20_oa := ao15.on b19
    have r21_x := SO.on r17_x b19
    have r22_n := le_on r18_n b19
    have l22 := le_tr l18 b19
    clear r18_n l18
    clear r17_x
    clear ao15
    clear b19
    go_wp2_with fail
    go_ret
    exact ⟨rfl, l22⟩
  simp only [decide_eq_true hr] at C1
  obtain ⟨j, hj⟩ : ∃ j, 3 + p % (k - 3) = j := ⟨_, rfl⟩
  have hjn : j < k := by rw [← hj]; have := Nat.mod_lt p (show 0 < k - 3 by omega); omega
  have hj3 : 3 ≤ j := by omega
  have hsub : (k : Int) - 3 = ((k - 3 : Nat) : Int) := by omega
  have ws : IntKind.i64.wrap ((k : Int) - 3) = (k : Int) - 3 := IntWalk.i64_in _ (by omega)
  have wp : IntKind.i64.wrap (p : Int) = (p : Int) := IntWalk.i64_in _ (by omega)
  obtain ⟨j0, hj0⟩ : ∃ j, p % (k - 3) = j := ⟨_, rfl⟩
  have tm : Int.tmod (p : Int) ((k : Int) - 3) = (j0 : Int) := by rw [hsub, tmod_nat, hj0]
  have em : (p : Int) % ((k : Int) - 3) = (j0 : Int) := by rw [hsub, ← hj0]; rfl
  have n1 : ¬ (k : Int) - 3 = 0 := by omega
  have ej : (3 : Int) + (j0 : Int) = (j : Int) := by omega
  have wj : IntKind.i64.wrap ((3 : Int) + (j0 : Int)) = (j : Int) := by rw [ej]; exact IntWalk.i64_in _ (by omega)
  have wu : IntKind.u16.wrap (j : Int) = (j : Int) := IntWalk.u16_in _ (by omega)
  have hlen : (Dk.byN n).length = k := by rw [Dk.byN_length]; exact hk
  obtain ⟨B, hB⟩ : ∃ B, Dk.byN n = B := ⟨_, rfl⟩
  have hsp : Dk.dNt (tnB B j y) = none := by rw [← hB]; exact spoilt_b hi hr hj3 (by rw [hlen]; exact hjn) hy
  have hbk : Dk.dNt B = some n := by rw [← hB]; exact back_n hi hr
  have HE := Lib.hid (fun W => enc_yes n k W hi hr hk)
  rw [hB] at hlen
  simp only [hB] at HE
  obtain ⟨z1, z2⟩ := ql_snd (t := 16) (room := 3) (f := 1) (L := []) (b := B) (by decide) (by decide) (by omega) (by decide)
  obtain ⟨z3, z4⟩ := ql_ag (t := 16) (room := 3) (L := [⟨1, 16, B⟩]) (k := 0) (by decide) rfl (by simp)
  obtain ⟨z5, z6⟩ := ql_tn (t := 16) (L := [⟨1, 16, B⟩, ⟨1, 16, B⟩]) (k := 0) (p := j) (y := y) (by decide) rfl (by simp only; omega)
  obtain ⟨z7, z8, z9⟩ := ql_tk (t := 16) (L := [tnL ⟨1, 16, B⟩ j y, ⟨1, 16, B⟩]) (k := 0) (by decide) rfl
  obtain ⟨y7, y8, y9⟩ := ql_tk (t := 16) (L := [⟨1, 16, B⟩]) (k := 0) (by decide) rfl
  have Z1 := Lib.hid z1
  have Z2 := Lib.hid z2
  have Z3 := Lib.hid z3
  have Z4 := Lib.hid z4
  have Z5 := Lib.hid z5
  have Z6 := Lib.hid z6
  have Z7 := Lib.hid z7
  have Z8 := Lib.hid z8
  have Z9 := Lib.hid z9
  have Y7 := Lib.hid y7
  have Y8 := Lib.hid y8
  have Y9 := Lib.hid y9
  have HSP := Lib.hid hsp
  have HBK := Lib.hid hbk
  have HJ : j < 65536 := by omega
  have E : ∀ V : World, (Op.equalIn 10000 81 (.agg (ntA n)) (.agg (ntA n))).run Try.prog V = .ok true V := fun V => by have := eq_nc n n V; rw [eqN_refl] at this; exact this
  clear z1 z2 z3 z4 z5 z6 z7 z8 z9 y7 y8 y9 hy hr hi hk hB hlen hsp hbk hsub hj hj0 C1
  go_enter Try.func10, Try.ntmps10
  go_wp2_with (first | ((with_reducible refine st_box 81 _ (ntA n) ?_ ?_); exact rfl))
  refine ⟨fun V1 g1 n1 f1 => ?_⟩
  have up1 : w.heap.size ≤ g1 := Nat.le_of_eq f1.at_
  have bl1 := f1.bel
  clear f1
  have l4 := le_tr (Below.refl _ _) bl1
  clear bl1
  have c5 : V1.cell? ⟨g1, 9, none⟩ = some (.string (n.cg)) := CB.cell n1 9
  go_wp2_with fail
  (with_reducible refine (Dz.works_c _).mono ?_)
  rintro e w6 ⟨rfl, b6⟩
  clear c5
  have r9_n := le_on n1 b6
  have l9 := le_tr l4 b6
  clear n1 l4
  clear b6
  go_wp2_with (first | (first | ((with_reducible refine st_load 81 _ g1 ?_ r9_n Try.underlying81 ?_ ?_ ?_); exact rfl; exact rfl; exact Try.zNc) | ((with_reducible refine st_loadG 81 _ g1 ?_ r9_n Try.underlying81 ?_ ?_ ?_ ?_); exact rfl; exact rfl; exact Try.zNc; exact rfl)))
  have lt10_n := CB.lt r9_n
  have lb10 : w.heap.size ≤ w6.heap.size := Below.size (B := w.heap.size) l9
  (with_reducible refine (HE.out _).mono ?_)
  rintro e w10 ⟨A2, q2, G2, rfl, h2, b10⟩
  have r13_n := le_on r9_n b10
  have l13 := le_tr l9 b10
  clear r9_n l9
  clear b10
  have na14 := SO.above h2 lt10_n
  have sm10_x := SO.mono h2 lb10
  clear h2
  clear lb10 lt10_n
  go_wp2_with fail
  have cn15 := anew_c (3 : Int) w10
  (with_reducible refine cn15.mono ?_)
  clear cn15
  intro e w15 hp15
  obtain ⟨ba15, S15, rfl, ao15, h015, bl15⟩ := NPost.yes (r := 3) (by omega) (by omega) hp15
  clear hp15
  have nb15_n : ¬ S15 g1 := fun e => by have := h015 _ e; have := CB.lt r13_n; omega
  have ns15_x : ∀ g, G2 = some g → ¬ S15 g := fun g e e2 => by have := h015 g e2; have := sm10_x.seg.lt g e; omega
  have hi15 : ∀ i, S15 i → w.heap.size ≤ i := fun i e => Nat.le_trans (l13).size (h015 i e)
  clear h015
  have r17_x := SO.on sm10_x bl15
  have r18_n := le_on r13_n bl15
  have l18 := le_tr l13 bl15
  clear r13_n l13
  clear sm10_x
  clear bl15
  have ao0 : AO S15 ba15 3 (QL 16 []) w15 := by rw [ql_nil]; exact ao15
  clear ao15
  go_wp2_with fail
  have cc19 := (show Calls Try.prog 19 #[.pointer (some ⟨ba15, 0, none⟩), .agg #[.int .u8 1, .int .u8 16, .slice A2 k q2]] _ _ from send_k (l := ⟨1, 16, B⟩) (z := 0) (⟨1, 16, B, A2, k, q2⟩ : Lm) ao0 r17_x.rr rfl Z1.out Z2.out)
  (with_reducible refine cc19.mono ?_)
  clear cc19
  rintro e w19 ⟨rfl, S19, ao19, ou19, nw19⟩
  have q19_n := ou19.box r18_n nb15_n
  have no19_n : ¬ S19 g1 := fun e => (nw19 _ e).elim nb15_n (fun e => by have := CB.lt r18_n; omega)
  have q19_x := SO.outS r17_x ou19 ns15_x
  have ns19_x := SO.farS r17_x ns15_x nw19
  have hi19 : ∀ i, S19 i → w.heap.size ≤ i := fun i e => (nw19 i e).elim (hi15 i) (fun e => Nat.le_trans (l18).size e)
  have l19 := below_out l18 ou19 hi15
  clear ou19 nw19 ao0 r18_n nb15_n r17_x ns15_x hi15 l18
  clear q19_x ns19_x
  go_wp2_with fail
  have cc20 := (show Calls Try.prog 20 #[.pointer (some ⟨ba15, 0, none⟩), .int .u8 16, .int .i64 0] _ _ from again_k (t := 16) (i := 0) (z := 0) ao19 Z3.out Z4.out)
  (with_reducible refine cc20.mono ?_)
  clear cc20
  rintro e w20 ⟨rfl, S20, ao20, ou20, nw20⟩
  have q20_n := ou20.box q19_n no19_n
  have no20_n : ¬ S20 g1 := fun e => (nw20 _ e).elim no19_n (fun e => by have := CB.lt q19_n; omega)
  have hi20 : ∀ i, S20 i → w.heap.size ≤ i := fun i e => (nw20 i e).elim (hi19 i) (fun e => Nat.le_trans (l19).size e)
  have l20 := below_out l19 ou20 hi19
  clear ou20 nw20 ao19 q19_n no19_n hi19 l19
  go_wp2_with fail
  have cc21 := (show Calls Try.prog 21 #[.pointer (some ⟨ba15, 0, none⟩), .int .u8 16, .int .i64 0, .int .u16 (j : Int), .int .u8 (y.toNat : Int)] _ _ from turn_k (t := 16) (i := 0) (z := 0) HJ ao20 Z5.out Z6.out)
  (with_reducible refine cc21.mono ?_)
  clear cc21
  rintro e w21 ⟨rfl, S21, ao21, ou21, nw21⟩
  have q21_n := ou21.box q20_n no20_n
  have no21_n : ¬ S21 g1 := fun e => (nw21 _ e).elim no20_n (fun e => by have := CB.lt q20_n; omega)
  have hi21 : ∀ i, S21 i → w.heap.size ≤ i := fun i e => (nw21 i e).elim (hi20 i) (fun e => Nat.le_trans (l20).size e)
  have l21 := below_out l20 ou21 hi20
  clear ou21 nw21 ao20 q20_n no20_n hi20 l20
  go_wp2_with fail
  have cc22 := (show Calls Try.prog 17 #[.pointer (some ⟨ba15, 0, none⟩), .int .u8 16, .int .i64 0] _ _ from take_k (t := 16) (i := 0) (z := 0) ao21 Z8.out Z7.out Z9.out)
  (with_reducible refine cc22.mono ?_)
  clear cc22
  rintro e w22 ⟨x22, rfl, hx22, rs22, S22, ao22, ou22, nw22, xo22⟩
  have q22_n := ou22.box q21_n no21_n
  have no22_n : ¬ S22 g1 := fun e => (nw22 _ e).elim no21_n (fun e => by have := CB.lt q21_n; omega)
  have nx22_n : ¬ InB x22.A g1 := fun e => no21_n (xo22 _ e).1
  have hi22 : ∀ i, S22 i → w.heap.size ≤ i := fun i e => (nw22 i e).elim (hi21 i) (fun e => Nat.le_trans (l21).size e)
  have l22 := below_out l21 ou22 hi21
  have rb22 := rs22.ob
  have xa22 : ∀ i, InB x22.A i → ¬ S22 i := fun i a => (xo22 i a).2
  have xb22 : ∀ i, S22 i → ¬ InB x22.A i := fun i a b => xa22 i b a
  have hx22_ : ∀ i, InB x22.A i → w.heap.size ≤ i := fun i e => hi21 i (xo22 i e).1
  clear ou22 nw22 rs22 xo22 ao21 q21_n no21_n hi21 l21
  go_wp2_with (first | ((with_reducible refine st_alloc 40 (lA zeroL) ?_ ?_); exact zero_lc))
  refine ⟨fun V23 g23 n23 f23 => ?_⟩
  have ne23_n := f23.ne q22_n
  have nn23_oa := ao22.fresh (Nat.le_of_eq f23.at_)
  have nn23_tu := rb22.fresh (Nat.le_of_eq f23.at_)
  have up23 : w.heap.size ≤ g23 := f23.up l22
  have bl23 := f23.bel
  clear f23
  have r24_oa := ao22.on bl23
  have r24_tu := rb22.on bl23
  have r26_n := le_on q22_n bl23
  have l26 := le_tr l22 bl23
  clear q22_n l22
  clear ao22 rb22
  clear bl23
  go_wp2_with (first | ((with_reducible refine st_store 40 _ _ g23 (lA x22) ?_ ?_ n23 ?_ ?_ ?_ ?_); exact rfl; exact rfl; exact Try.zLc; exact rfl; exact lA_one _))
  refine ⟨fun V27 n27 k27 => ?_⟩
  have m27_n := k27.on r26_n ne23_n
  have m27_oa := r24_oa.wr k27 nn23_oa
  have m27_tu := r24_tu.wr k27 nn23_tu
  have o27 := k27.bel _ _ l26 up23
  clear k27
  clear n23 r26_n r24_oa r24_tu l26
  go_wp2_with fail
  have cc28 := (show Calls Try.prog 17 #[.pointer (some ⟨ba15, 0, none⟩), .int .u8 16, .int .i64 0] _ _ from take_k (t := 16) (i := 0) (z := 0) m27_oa Y8.out Y7.out Y9.out)
  (with_reducible refine cc28.mono ?_)
  clear cc28
  rintro e w28 ⟨x28, rfl, hx28, rs28, S28, ao28, ou28, nw28, xo28⟩
  have q28_n := ou28.box m27_n no22_n
  have no28_n : ¬ S28 g1 := fun e => (nw28 _ e).elim no22_n (fun e => by have := CB.lt m27_n; omega)
  have nx28_n : ¬ InB x28.A g1 := fun e => no22_n (xo28 _ e).1
  have q28_u := ou28.box n27 nn23_oa
  have no28_u : ¬ S28 g23 := fun e => (nw28 _ e).elim nn23_oa (fun e => by have := CB.lt n27; omega)
  have nx28_u : ¬ InB x28.A g23 := fun e => nn23_oa (xo28 _ e).1
  have q28_tu := m27_tu.out ou28 xa22
  have ds28_tu := Ob.far m27_tu xa22 nw28
  have dt28_tu : ∀ i, S28 i → ¬ (InB x22.A) i := fun i a b => ds28_tu i b a
  have dx28_tu : ∀ i, InB x28.A i → ¬ (InB x22.A) i := fun i a b => xa22 i b (xo28 i a).1
  have dy28_tu : ∀ i, (InB x22.A) i → ¬ InB x28.A i := fun i a b => dx28_tu i b a
  have hi28 : ∀ i, S28 i → w.heap.size ≤ i := fun i e => (nw28 i e).elim (hi22 i) (fun e => Nat.le_trans (o27).size e)
  have l28 := below_out o27 ou28 hi22
  have rb28 := rs28.ob
  have xa28 : ∀ i, InB x28.A i → ¬ S28 i := fun i a => (xo28 i a).2
  have xb28 : ∀ i, S28 i → ¬ InB x28.A i := fun i a b => xa28 i b a
  have hx28_ : ∀ i, InB x28.A i → w.heap.size ≤ i := fun i e => hi22 i (xo28 i e).1
  clear ou28 nw28 rs28 xo28 m27_oa m27_n no22_n n27 nn23_oa m27_tu xa22 xb22 hi22 o27
  go_wp2_with (first | ((with_reducible refine st_alloc 40 (lA zeroL) ?_ ?_); exact zero_lc))
  refine ⟨fun V29 g29 n29 f29 => ?_⟩
  have ne29_n := f29.ne q28_n
  have ne29_u := f29.ne q28_u
  have nn29_oa := ao28.fresh (Nat.le_of_eq f29.at_)
  have nn29_tu := q28_tu.fresh (Nat.le_of_eq f29.at_)
  have nn29_tv := rb28.fresh (Nat.le_of_eq f29.at_)
  have up29 : w.heap.size ≤ g29 := f29.up l28
  have bl29 := f29.bel
  clear f29
  have r30_oa := ao28.on bl29
  have r30_tu := q28_tu.on bl29
  have r30_tv := rb28.on bl29
  have r32_n := le_on q28_n bl29
  have r32_u := le_on q28_u bl29
  have l32 := le_tr l28 bl29
  clear q28_n q28_u l28
  clear ao28 q28_tu rb28
  clear bl29
  go_wp2_with (first | ((with_reducible refine st_store 40 _ _ g29 (lA x28) ?_ ?_ n29 ?_ ?_ ?_ ?_); exact rfl; exact rfl; exact Try.zLc; exact rfl; exact lA_one _))
  refine ⟨fun V33 n33 k33 => ?_⟩
  have m33_n := k33.on r32_n ne29_n
  have m33_u := k33.on r32_u ne29_u
  have m33_oa := r30_oa.wr k33 nn29_oa
  have m33_tu := r30_tu.wr k33 nn29_tu
  have m33_tv := r30_tv.wr k33 nn29_tv
  have o33 := k33.bel _ _ l32 up29
  clear k33
  clear n29 r32_n r32_u r30_oa r30_tu r30_tv l32
  have c34 : V33.cell? ⟨g23, 2, none⟩ = some (.slice (x22.A) (x22.n) (x22.c)) := CB.cell m33_u 2
  go_wp2_with fail
  (with_reducible refine (dec_no_c HSP.out _ _ _ _ (rr_of m33_tu.ok.rr hx22)).mono ?_)
  rintro e w35 ⟨rfl, b35⟩
  clear c34
  have r36_tu := m33_tu.on b35
  have r36_tv := m33_tv.on b35
  have r38_n := le_on m33_n b35
  have r38_u := le_on m33_u b35
  have r38_v := le_on n33 b35
  have l38 := le_tr o33 b35
  clear m33_n m33_u n33 o33
  clear m33_tu m33_tv
  clear b35
  go_wp2_with (first | ((with_reducible refine st_alloc 81 (ntA zN) ?_ ?_); exact zero_nc))
  refine ⟨fun V39 g39 n39 f39 => ?_⟩
  have ne39_n := f39.ne r38_n
  have ne39_u := f39.ne r38_u
  have ne39_v := f39.ne r38_v
  have nn39_tu := r36_tu.fresh (Nat.le_of_eq f39.at_)
  have nn39_tv := r36_tv.fresh (Nat.le_of_eq f39.at_)
  have up39 : w.heap.size ≤ g39 := f39.up l38
  have bl39 := f39.bel
  clear f39
  have r40_tu := r36_tu.on bl39
  have r40_tv := r36_tv.on bl39
  have r42_n := le_on r38_n bl39
  have r42_u := le_on r38_u bl39
  have r42_v := le_on r38_v bl39
  have l42 := le_tr l38 bl39
  clear r38_n r38_u r38_v l38
  clear r36_tu r36_tv
  clear bl39
  go_wp2_with (first | ((with_reducible refine st_store 81 _ _ g39 (ntA zN) ?_ ?_ n39 ?_ ?_ ?_ ?_); exact rfl; exact rfl; exact Try.zNc; exact rfl; exact ntA_one _))
  refine ⟨fun V43 n43 k43 => ?_⟩
  have m43_n := k43.on r42_n ne39_n
  have m43_u := k43.on r42_u ne39_u
  have m43_v := k43.on r42_v ne39_v
  have m43_tu := r40_tu.wr k43 nn39_tu
  have m43_tv := r40_tv.wr k43 nn39_tv
  have o43 := k43.bel _ _ l42 up39
  clear k43
  clear n39 r42_n r42_u r42_v r40_tu r40_tv l42
  have c44 : V43.cell? ⟨g29, 2, none⟩ = some (.slice (x28.A) (x28.n) (x28.c)) := CB.cell m43_v 2
  go_wp2_with fail
  (with_reducible refine (dec_yes_c HBK.out _ _ _ _ (rr_of m43_tv.ok.rr hx28)).mono ?_)
  rintro e w45 ⟨rfl, b45⟩
  clear c44
  have r46_tu := m43_tu.on b45
  have r46_tv := m43_tv.on b45
  have r48_n := le_on m43_n b45
  have r48_u := le_on m43_u b45
  have r48_v := le_on m43_v b45
  have r48_h := le_on n43 b45
  have l48 := le_tr o43 b45
  clear m43_n m43_u m43_v n43 o43
  clear m43_tu m43_tv
  clear b45
  go_wp2_with (first | ((with_reducible refine st_alloc 81 (ntA zN) ?_ ?_); exact zero_nc))
  refine ⟨fun V49 g49 n49 f49 => ?_⟩
  have ne49_n := f49.ne r48_n
  have ne49_u := f49.ne r48_u
  have ne49_v := f49.ne r48_v
  have ne49_h := f49.ne r48_h
  have nn49_tu := r46_tu.fresh (Nat.le_of_eq f49.at_)
  have nn49_tv := r46_tv.fresh (Nat.le_of_eq f49.at_)
  have up49 : w.heap.size ≤ g49 := f49.up l48
  have bl49 := f49.bel
  clear f49
  have r50_tu := r46_tu.on bl49
  have r50_tv := r46_tv.on bl49
  have r52_n := le_on r48_n bl49
  have r52_u := le_on r48_u bl49
  have r52_v := le_on r48_v bl49
  have r52_h := le_on r48_h bl49
  have l52 := le_tr l48 bl49
  clear r48_n r48_u r48_v r48_h l48
  clear r46_tu r46_tv
  clear bl49
  go_wp2_with (first | ((with_reducible refine st_store 81 _ _ g49 (ntA n) ?_ ?_ n49 ?_ ?_ ?_ ?_); exact rfl; exact rfl; exact Try.zNc; exact rfl; exact ntA_one _))
  refine ⟨fun V53 n53 k53 => ?_⟩
  have m53_n := k53.on r52_n ne49_n
  have m53_u := k53.on r52_u ne49_u
  have m53_v := k53.on r52_v ne49_v
  have m53_h := k53.on r52_h ne49_h
  have m53_tu := r50_tu.wr k53 nn49_tu
  have m53_tv := r50_tv.wr k53 nn49_tv
  have o53 := k53.bel _ _ l52 up49
  clear k53
  clear n49 r52_n r52_u r52_v r52_h r50_tu r50_tv l52
  go_wp2_with (first | (first | ((with_reducible refine st_load 81 _ g1 ?_ m53_n Try.underlying81 ?_ ?_ ?_); exact rfl; exact rfl; exact Try.zNc) | ((with_reducible refine st_loadG 81 _ g1 ?_ m53_n Try.underlying81 ?_ ?_ ?_ ?_); exact rfl; exact rfl; exact Try.zNc; exact rfl)) | (first | ((with_reducible refine st_load 81 _ g49 ?_ n53 Try.underlying81 ?_ ?_ ?_); exact rfl; exact rfl; exact Try.zNc) | ((with_reducible refine st_loadG 81 _ g49 ?_ n53 Try.underlying81 ?_ ?_ ?_ ?_); exact rfl; exact rfl; exact Try.zNc; exact rfl)))
  go_ret
  exact ⟨rfl, o53⟩
end Go.Proofs.Ytcfdfimkgehdfaa
