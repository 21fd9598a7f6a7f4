/-
  Layer 16: Say of package party. Conditions: what waits can be read and is right.
-/
import Derived.Test.YtcfdfimkgehdfaaQaC
set_option linter.unusedVariables false
set_option linter.unusedSimpArgs false
namespace Go.Proofs.Ytcfdfimkgehdfaa
open Go.RowKit

/-- Behind Say, Acked. -/
def SPost (w : World) (o : Ou) (t : ByteArray) (e : Ending) (w' : World) : Prop :=
  ∃ A n c G, e = .returned (.tuple #[.agg (oA ⟨(sSay o t).next, A, n, c, o.room⟩), .agg (pA (pSay o t)), .int .i64 ((eSay o t : Nat) : Int)]) ∧ SO w.heap.size w' 70 pcl 2 A n c (sSay o t).wait G ∧ Below w.heap.size w w'
def APostP (w : World) (o : Ou) (h : Int) (e : Ending) (w' : World) : Prop :=
  ∃ A n c G, e = .returned (.tuple #[.agg (oA ⟨o.next, A, n, c, o.room⟩), .int .i64 0]) ∧ SO w.heap.size w' 70 pcl 2 A n c (sAck o h).wait G ∧ Below w.heap.size w w'
theorem say_3 {o : Ou} {t : ByteArray} (hR : RightO o) (h : 500 < t.size ∨ o.next = 1048576) : eSay o t = 3 := by unfold eSay; rw [if_neg (not_not_intro hR), if_pos h]
theorem say_6 {o : Ou} {t : ByteArray} (hR : RightO o) (h : ¬ (500 < t.size ∨ o.next = 1048576)) (h2 : o.room ≤ o.wait.length) : eSay o t = 6 := by unfold eSay; rw [if_neg (not_not_intro hR), if_neg h, if_pos h2]
theorem say_0 {o : Ou} {t : ByteArray} (hR : RightO o) (h : ¬ (500 < t.size ∨ o.next = 1048576)) (h2 : ¬ o.room ≤ o.wait.length) : eSay o t = 0 := by unfold eSay; rw [if_neg (not_not_intro hR), if_neg h, if_neg h2]
theorem SPost.no {w : World} {o : Ou} {t : ByteArray} {k : Nat} {w' : World} (he : eSay o t = k) (hk : k ≠ 0) {A : Option Addr} {n c : Nat} {G : Option Nat} {x : Int} (hx : x = o.next) (hs : SO w.heap.size w' 70 pcl 2 A n c o.wait G) (hb : Below w.heap.size w w') :
    SPost w o t (.returned (.tuple #[.agg (oA ⟨x, A, n, c, o.room⟩), .agg (pA zeroP), .int .i64 (k : Int)])) w' := by
  subst hx he
  have e1 : sSay o t = o := by unfold sSay; rw [if_neg hk]
  have e2 : pSay o t = zeroP := by unfold pSay; rw [if_neg hk]; rfl
  exact ⟨A, n, c, G, by rw [e1, e2], by rw [e1]; exact hs, hb⟩
theorem SPost.yes {w : World} {o : Ou} {t : ByteArray} {w' : World} (he : eSay o t = 0) {A : Option Addr} {n c : Nat} {G : Option Nat} (hs : SO w.heap.size w' 70 pcl 2 A n c (o.wait ++ [⟨o.next, t⟩]) G) (hb : Below w.heap.size w w') :
    SPost w o t (.returned (.tuple #[.agg (oA ⟨o.next + 1, A, n, c, o.room⟩), .agg (pA ⟨o.next, t⟩), .int .i64 0])) w' := by
  have e1 : sSay o t = ⟨o.next + 1, o.wait ++ [⟨o.next, t⟩], o.room⟩ := by unfold sSay; rw [if_pos he]
  have e2 : pSay o t = ⟨o.next, t⟩ := by unfold pSay; rw [if_pos he]
  exact ⟨A, n, c, G, by rw [e1, e2, he]; rfl, by rw [e1]; exact hs, hb⟩
set_option maxRecDepth 100000 in
set_option maxHeartbeats 4000000 in
theorem say_c (nx : Int) (A : Option Addr) (n c : Nat) (L : List Pk) (rm : Int) (t : ByteArray) (w : World) (h : RR w pcl 2 A n c L) (hR : RightO ⟨nx, L, rm⟩) : Calls Try.prog 26 #[.agg (oA ⟨nx, A, n, c, rm⟩), .string t] w (SPost w ⟨nx, L, rm⟩ t) := by
  have hlen := h.len
  have hl := RL.start h
  obtain ⟨ha1, ha2⟩ := hR.2.1
  obtain ⟨hn1, hn2⟩ := hR.2.2.1
  have hlr := hR.2.2.2
  simp only at ha1 ha2 hn1 hn2 hlr
  rw [hlen] at hlr
  have hn3 : n ≤ 1000 := by omega
  have R1 := fun (V : World) (h : RR V pcl 2 A n c L) => right_t nx A n c L rm V h hR
  have C1 := fun (V : World) (h : RR V pcl 2 A n c L) => clone_p nx A n c L rm V h hn3
  have F1 := fun V => fits_c t V
  have HR := Lib.hid hR
  clear hR h
  by_cases h5 : t.size ≤ 500
  · skip
    rw [show decide (t.size ≤ 500) = true by simp [h5]] at F1
    by_cases hx : nx = 1048576
    · have q1 : (nx == 1048576) = true := by simp [hx]
      have HE := Lib.hid (say_3 (t := t) HR.out (.inr hx))
      clear h5 hx
      go_enter Try.func26, Try.ntmps26
      go_wp2_with (first | ((with_reducible refine st_box 64 _ (oA ⟨nx, A, n, c, rm⟩) ?_ ?_); exact rfl))
      refine ⟨fun V1 g1 n1 f1 => ?_⟩
      have up1 : w.heap.size ≤ g1 := Nat.le_of_eq f1.at_
      have bl1 := f1.bel
      clear f1
      have r3_l := (hl).on bl1
      have l3 := le_tr (Below.refl _ _) bl1
      clear hl
      clear bl1
      go_wp2_with (first | ((with_reducible refine st_alloc 64 (oA zeroO) ?_ ?_); exact zero_ou))
      refine ⟨fun V4 g4 n4 f4 => ?_⟩
      have ne4_o := f4.ne n1
      have up4 : w.heap.size ≤ g4 := f4.up l3
      have bl4 := f4.bel
      clear f4
      have r6_o := le_on n1 bl4
      have r6_l := (r3_l).on bl4
      have l6 := le_tr l3 bl4
      clear n1 r3_l l3
      clear bl4
      go_wp2_with (first | ((with_reducible refine st_alloc 70 (pA zeroP) ?_ ?_); exact zero_pk))
      refine ⟨fun V7 g7 n7 f7 => ?_⟩
      have ne7_o := f7.ne r6_o
      have ne7_r := f7.ne n4
      have up7 : w.heap.size ≤ g7 := f7.up l6
      have bl7 := f7.bel
      clear f7
      have r9_o := le_on r6_o bl7
      have r9_r := le_on n4 bl7
      have r9_l := (r6_l).on bl7
      have l9 := le_tr l6 bl7
      clear r6_o n4 r6_l l6
      clear bl7
      go_wp2_with (first | ((with_reducible refine st_load 64 _ g1 ?_ r9_o Try.underlying64 ?_ ?_ ?_); exact rfl; exact rfl; exact Try.zOu))
      (with_reducible refine (R1 _ (r9_l).rr).mono ?_)
      rintro e w10 ⟨rfl, b10⟩
      have r12_o := le_on r9_o b10
      have r12_r := le_on r9_r b10
      have r12_p := le_on n7 b10
      have r12_l := (r9_l).on b10
      have l12 := le_tr l9 b10
      clear r9_o r9_r n7 r9_l l9
      clear b10
      go_wp2_with fail
      (with_reducible refine (F1 _).mono ?_)
      rintro e w13 ⟨rfl, b13⟩
      have r15_o := le_on r12_o b13
      have r15_r := le_on r12_r b13
      have r15_p := le_on r12_p b13
      have r15_l := (r12_l).on b13
      have l15 := le_tr l12 b13
      clear r12_o r12_r r12_p r12_l l12
      clear b13
      have c16 : w13.cell? ⟨g1, 0, none⟩ = some (.int .i64 nx) := CB.cell r15_o 0
      go_wp2_with (first | ((with_reducible refine st_load 64 _ g1 ?_ r15_o Try.underlying64 ?_ ?_ ?_); exact rfl; exact rfl; exact Try.zOu))
      have lt17_o := CB.lt r15_o
      have lt17_r := CB.lt r15_r
      have lt17_p := CB.lt r15_p
      have lb17 : w.heap.size ≤ w13.heap.size := Below.size (B := w.heap.size) l15
      (with_reducible refine (C1 _ (r15_l).rr).mono ?_)
      rintro e w17 ⟨A1, c1, q1, rfl, so1, b17⟩
      clear c16
      have r19_o := le_on r15_o b17
      have r19_r := le_on r15_r b17
      have r19_p := le_on r15_p b17
      have r19_l := (r15_l).on b17
      have l19 := le_tr l15 b17
      clear r15_o r15_r r15_p r15_l l15
      clear b17
      have na20 := SO.above so1 lt17_o
      have na21 := SO.above so1 lt17_r
      have na22 := SO.above so1 lt17_p
      have sm17_s := SO.mono so1 lb17
      clear so1
      clear lb17 lt17_o lt17_r lt17_p
      go_wp2_with (first | ((with_reducible refine st_built0 70 (pA zeroP) ?_ ?_); exact built_p0) | ((with_reducible refine st_store 64 _ _ g4 (oA ⟨nx, A1, n, c1, rm⟩) ?_ ?_ r19_r ?_ ?_ ?_ ?_); exact rfl; exact rfl; exact Try.zOu; exact rfl; exact oA_one _))
      refine ⟨fun V23 n23 k23 => ?_⟩
      have m23_o := k23.on r19_o ne4_o
      have m23_p := k23.on r19_p (Ne.symm ne7_r)
      have m23_l := (r19_l).wr k23 up4
      have m23_s := SO.wr sm17_s k23 na21
      have o23 := k23.bel _ _ l19 up4
      clear k23
      clear r19_r r19_o r19_p r19_l sm17_s l19
      go_wp2_with (first | ((with_reducible refine st_store 70 _ _ g7 (pA zeroP) ?_ ?_ m23_p ?_ ?_ ?_ ?_); exact rfl; exact rfl; exact Try.zPk; exact rfl; exact pA_one _))
      refine ⟨fun V24 n24 k24 => ?_⟩
      have m24_o := k24.on m23_o ne7_o
      have m24_r := k24.on n23 ne7_r
      have m24_l := (m23_l).wr k24 up7
      have m24_s := SO.wr m23_s k24 na22
      have o24 := k24.bel _ _ o23 up7
      clear k24
      clear m23_p m23_o n23 m23_l m23_s o23
      go_wp2_with fail
      exact bodyPost_ret (v := .tuple #[.agg (oA ⟨nx, A1, n, c1, rm⟩), .agg (pA zeroP), .int .i64 3]) (res_cct Try.results26 rfl rfl rfl m24_r n24 Try.underlying64 rfl Try.zOu Try.underlying70 rfl Try.zPk) rfl (SPost.no (o := ⟨nx, L, rm⟩) HE.out (by decide) rfl m24_s o24)
    have q1 : (nx == 1048576) = false := by simp [hx]
    by_cases hr : (n : Int) = rm
    · have q2 : ((n : Int) == rm) = true := by simp [hr]
      have HE := Lib.hid (say_6 (t := t) HR.out (by simp only; omega) (by simp only [hlen]; omega))
      clear h5 hx hr
      go_enter Try.func26, Try.ntmps26
      go_wp2_with (first | ((with_reducible refine st_box 64 _ (oA ⟨nx, A, n, c, rm⟩) ?_ ?_); exact rfl))
      refine ⟨fun V1 g1 n1 f1 => ?_⟩
      have up1 : w.heap.size ≤ g1 := Nat.le_of_eq f1.at_
      have bl1 := f1.bel
      clear f1
      have r3_l := (hl).on bl1
      have l3 := le_tr (Below.refl _ _) bl1
      clear hl
      clear bl1
      go_wp2_with (first | ((with_reducible refine st_alloc 64 (oA zeroO) ?_ ?_); exact zero_ou))
      refine ⟨fun V4 g4 n4 f4 => ?_⟩
      have ne4_o := f4.ne n1
      have up4 : w.heap.size ≤ g4 := f4.up l3
      have bl4 := f4.bel
      clear f4
      have r6_o := le_on n1 bl4
      have r6_l := (r3_l).on bl4
      have l6 := le_tr l3 bl4
      clear n1 r3_l l3
      clear bl4
      go_wp2_with (first | ((with_reducible refine st_alloc 70 (pA zeroP) ?_ ?_); exact zero_pk))
      refine ⟨fun V7 g7 n7 f7 => ?_⟩
      have ne7_o := f7.ne r6_o
      have ne7_r := f7.ne n4
      have up7 : w.heap.size ≤ g7 := f7.up l6
      have bl7 := f7.bel
      clear f7
      have r9_o := le_on r6_o bl7
      have r9_r := le_on n4 bl7
      have r9_l := (r6_l).on bl7
      have l9 := le_tr l6 bl7
      clear r6_o n4 r6_l l6
      clear bl7
      go_wp2_with (first | ((with_reducible refine st_load 64 _ g1 ?_ r9_o Try.underlying64 ?_ ?_ ?_); exact rfl; exact rfl; exact Try.zOu))
      (with_reducible refine (R1 _ (r9_l).rr).mono ?_)
      rintro e w10 ⟨rfl, b10⟩
      have r12_o := le_on r9_o b10
      have r12_r := le_on r9_r b10
      have r12_p := le_on n7 b10
      have r12_l := (r9_l).on b10
      have l12 := le_tr l9 b10
      clear r9_o r9_r n7 r9_l l9
      clear b10
      go_wp2_with fail
      (with_reducible refine (F1 _).mono ?_)
      rintro e w13 ⟨rfl, b13⟩
      have r15_o := le_on r12_o b13
      have r15_r := le_on r12_r b13
      have r15_p := le_on r12_p b13
      have r15_l := (r12_l).on b13
      have l15 := le_tr l12 b13
      clear r12_o r12_r r12_p r12_l l12
      clear b13
      have c16 : w13.cell? ⟨g1, 0, none⟩ = some (.int .i64 nx) := CB.cell r15_o 0
      have c17 : w13.cell? ⟨g1, 1, none⟩ = some (.slice A n c) := CB.cell r15_o 1
      have c18 : w13.cell? ⟨g1, 2, none⟩ = some (.int .i64 rm) := CB.cell r15_o 2
      go_wp2_with (first | ((with_reducible refine st_load 64 _ g1 ?_ r15_o Try.underlying64 ?_ ?_ ?_); exact rfl; exact rfl; exact Try.zOu))
      have lt19_o := CB.lt r15_o
      have lt19_r := CB.lt r15_r
      have lt19_p := CB.lt r15_p
      have lb19 : w.heap.size ≤ w13.heap.size := Below.size (B := w.heap.size) l15
      (with_reducible refine (C1 _ (r15_l).rr).mono ?_)
      rintro e w19 ⟨A1, c1, q1, rfl, so1, b19⟩
      clear c16 c17 c18
      have r21_o := le_on r15_o b19
      have r21_r := le_on r15_r b19
      have r21_p := le_on r15_p b19
      have r21_l := (r15_l).on b19
      have l21 := le_tr l15 b19
      clear r15_o r15_r r15_p r15_l l15
      clear b19
      have na22 := SO.above so1 lt19_o
      have na23 := SO.above so1 lt19_r
      have na24 := SO.above so1 lt19_p
      have sm19_s := SO.mono so1 lb19
      clear so1
      clear lb19 lt19_o lt19_r lt19_p
      go_wp2_with (first | ((with_reducible refine st_built0 70 (pA zeroP) ?_ ?_); exact built_p0) | ((with_reducible refine st_store 64 _ _ g4 (oA ⟨nx, A1, n, c1, rm⟩) ?_ ?_ r21_r ?_ ?_ ?_ ?_); exact rfl; exact rfl; exact Try.zOu; exact rfl; exact oA_one _))
      refine ⟨fun V25 n25 k25 => ?_⟩
      have m25_o := k25.on r21_o ne4_o
      have m25_p := k25.on r21_p (Ne.symm ne7_r)
      have m25_l := (r21_l).wr k25 up4
      have m25_s := SO.wr sm19_s k25 na23
      have o25 := k25.bel _ _ l21 up4
      clear k25
      clear r21_r r21_o r21_p r21_l sm19_s l21
      go_wp2_with (first | ((with_reducible refine st_store 70 _ _ g7 (pA zeroP) ?_ ?_ m25_p ?_ ?_ ?_ ?_); exact rfl; exact rfl; exact Try.zPk; exact rfl; exact pA_one _))
      refine ⟨fun V26 n26 k26 => ?_⟩
      have m26_o := k26.on m25_o ne7_o
      have m26_r := k26.on n25 ne7_r
      have m26_l := (m25_l).wr k26 up7
      have m26_s := SO.wr m25_s k26 na24
      have o26 := k26.bel _ _ o25 up7
      clear k26
      clear m25_p m25_o n25 m25_l m25_s o25
      go_wp2_with fail
      exact bodyPost_ret (v := .tuple #[.agg (oA ⟨nx, A1, n, c1, rm⟩), .agg (pA zeroP), .int .i64 6]) (res_cct Try.results26 rfl rfl rfl m26_r n26 Try.underlying64 rfl Try.zOu Try.underlying70 rfl Try.zPk) rfl (SPost.no (o := ⟨nx, L, rm⟩) HE.out (by decide) rfl m26_s o26)
    have q2 : ((n : Int) == rm) = false := by simp [hr]
    have HE := Lib.hid (say_0 (t := t) HR.out (by simp only; omega) (by simp only [hlen]; omega))
    have q3 : IntKind.i64.wrap (nx + 1) = nx + 1 := IntWalk.i64_in _ (by omega)
    clear h5 hx hr hlr
    go_enter Try.func26, Try.ntmps26
    go_wp2_with (first | ((with_reducible refine st_box 64 _ (oA ⟨nx, A, n, c, rm⟩) ?_ ?_); exact rfl))
    refine ⟨fun V1 g1 n1 f1 => ?_⟩
    have up1 : w.heap.size ≤ g1 := Nat.le_of_eq f1.at_
    have bl1 := f1.bel
    clear f1
    have r3_l := (hl).on bl1
    have l3 := le_tr (Below.refl _ _) bl1
    clear hl
    clear bl1
    go_wp2_with (first | ((with_reducible refine st_alloc 64 (oA zeroO) ?_ ?_); exact zero_ou))
    refine ⟨fun V4 g4 n4 f4 => ?_⟩
    have ne4_o := f4.ne n1
    have up4 : w.heap.size ≤ g4 := f4.up l3
    have bl4 := f4.bel
    clear f4
    have r6_o := le_on n1 bl4
    have r6_l := (r3_l).on bl4
    have l6 := le_tr l3 bl4
    clear n1 r3_l l3
    clear bl4
    go_wp2_with (first | ((with_reducible refine st_alloc 70 (pA zeroP) ?_ ?_); exact zero_pk))
    refine ⟨fun V7 g7 n7 f7 => ?_⟩
    have ne7_o := f7.ne r6_o
    have ne7_r := f7.ne n4
    have up7 : w.heap.size ≤ g7 := f7.up l6
    have bl7 := f7.bel
    clear f7
    have r9_o := le_on r6_o bl7
    have r9_r := le_on n4 bl7
    have r9_l := (r6_l).on bl7
    have l9 := le_tr l6 bl7
    clear r6_o n4 r6_l l6
    clear bl7
    go_wp2_with (first | ((with_reducible refine st_load 64 _ g1 ?_ r9_o Try.underlying64 ?_ ?_ ?_); exact rfl; exact rfl; exact Try.zOu))
    (with_reducible refine (R1 _ (r9_l).rr).mono ?_)
    rintro e w10 ⟨rfl, b10⟩
    have r12_o := le_on r9_o b10
    have r12_r := le_on r9_r b10
    have r12_p := le_on n7 b10
    have r12_l := (r9_l).on b10
    have l12 := le_tr l9 b10
    clear r9_o r9_r n7 r9_l l9
    clear b10
    go_wp2_with fail
    (with_reducible refine (F1 _).mono ?_)
    rintro e w13 ⟨rfl, b13⟩
    have r15_o := le_on r12_o b13
    have r15_r := le_on r12_r b13
    have r15_p := le_on r12_p b13
    have r15_l := (r12_l).on b13
    have l15 := le_tr l12 b13
    clear r12_o r12_r r12_p r12_l l12
    clear b13
    have c16 : w13.cell? ⟨g1, 0, none⟩ = some (.int .i64 nx) := CB.cell r15_o 0
    have c17 : w13.cell? ⟨g1, 1, none⟩ = some (.slice A n c) := CB.cell r15_o 1
    have c18 : w13.cell? ⟨g1, 2, none⟩ = some (.int .i64 rm) := CB.cell r15_o 2
    go_wp2_with (first | ((with_reducible refine st_built2 70 _ _ (.int .i64 nx) (.string t) (pA ⟨nx, t⟩) ?_ ?_ ?_ ?_); exact rfl; exact rfl; exact built_p _ _) | ((with_reducible refine st_alloc 70 (pA zeroP) ?_ ?_); exact zero_pk))
    refine ⟨fun V19 g19 n19 f19 => ?_⟩
    clear c16 c17 c18
    have ne19_o := f19.ne r15_o
    have ne19_r := f19.ne r15_r
    have ne19_p := f19.ne r15_p
    have up19 : w.heap.size ≤ g19 := f19.up l15
    have bl19 := f19.bel
    clear f19
    have r21_o := le_on r15_o bl19
    have r21_r := le_on r15_r bl19
    have r21_p := le_on r15_p bl19
    have r21_l := (r15_l).on bl19
    have l21 := le_tr l15 bl19
    clear r15_o r15_r r15_p r15_l l15
    clear bl19
    go_wp2_with (first | ((with_reducible refine st_store 70 _ _ g19 (pA ⟨nx, t⟩) ?_ ?_ n19 ?_ ?_ ?_ ?_); exact rfl; exact rfl; exact Try.zPk; exact rfl; exact pA_one _))
    refine ⟨fun V22 n22 k22 => ?_⟩
    have m22_o := k22.on r21_o ne19_o
    have m22_r := k22.on r21_r ne19_r
    have m22_p := k22.on r21_p ne19_p
    have m22_l := (r21_l).wr k22 up19
    have o22 := k22.bel _ _ l21 up19
    clear k22
    clear n19 r21_o r21_r r21_p r21_l l21
    go_wp2_with (first | ((with_reducible refine st_load 64 _ g1 ?_ m22_o Try.underlying64 ?_ ?_ ?_); exact rfl; exact rfl; exact Try.zOu))
    have lt23_o := CB.lt m22_o
    have lt23_r := CB.lt m22_r
    have lt23_p := CB.lt m22_p
    have lt23_q := CB.lt n22
    have lb23 : w.heap.size ≤ V22.heap.size := Below.size (B := w.heap.size) o22
    (with_reducible refine (C1 _ (m22_l).rr).mono ?_)
    rintro e w23 ⟨A1, c1, q1, rfl, so1, b23⟩
    have r25_o := le_on m22_o b23
    have r25_r := le_on m22_r b23
    have r25_p := le_on m22_p b23
    have r25_q := le_on n22 b23
    have r25_l := (m22_l).on b23
    have l25 := le_tr o22 b23
    clear m22_o m22_r m22_p n22 m22_l o22
    clear b23
    have na26 := SO.above so1 lt23_o
    have na27 := SO.above so1 lt23_r
    have na28 := SO.above so1 lt23_p
    have na29 := SO.above so1 lt23_q
    have sm23_s := SO.mono so1 lb23
    clear so1
    clear lb23 lt23_o lt23_r lt23_p lt23_q
    go_wp2_with (first | ((with_reducible refine st_alloc 64 (oA zeroO) ?_ ?_); exact zero_ou))
    refine ⟨fun V30 g30 n30 f30 => ?_⟩
    have ne30_o := f30.ne r25_o
    have ne30_r := f30.ne r25_r
    have ne30_p := f30.ne r25_p
    have ne30_q := f30.ne r25_q
    have no30_s := SO.fresh sm23_s (Nat.le_of_eq f30.at_)
    have up30 : w.heap.size ≤ g30 := f30.up l25
    have bl30 := f30.bel
    clear f30
    have r31_s := SO.on sm23_s bl30
    have r32_o := le_on r25_o bl30
    have r32_r := le_on r25_r bl30
    have r32_p := le_on r25_p bl30
    have r32_q := le_on r25_q bl30
    have r32_l := (r25_l).on bl30
    have l32 := le_tr l25 bl30
    clear r25_o r25_r r25_p r25_q r25_l l25
    clear sm23_s
    clear bl30
    go_wp2_with (first | ((with_reducible refine st_store 64 _ _ g30 (oA ⟨nx, A1, n, c1, rm⟩) ?_ ?_ n30 ?_ ?_ ?_ ?_); exact rfl; exact rfl; exact Try.zOu; exact rfl; exact oA_one _))
    refine ⟨fun V33 n33 k33 => ?_⟩
    have m33_o := k33.on r32_o ne30_o
    have m33_r := k33.on r32_r ne30_r
    have m33_p := k33.on r32_p ne30_p
    have m33_q := k33.on r32_q ne30_q
    have m33_l := (r32_l).wr k33 up30
    have m33_s := SO.wr r31_s k33 no30_s
    have o33 := k33.bel _ _ l32 up30
    clear k33
    clear n30 r32_o r32_r r32_p r32_q r32_l r31_s l32
    have c34 : V33.cell? ⟨g30, 1, none⟩ = some (.slice A1 n c1) := CB.cell n33 1
    go_wp2_with (first | ((with_reducible refine st_load 70 _ g19 ?_ m33_q Try.underlying70 ?_ ?_ ?_); exact rfl; exact rfl; exact Try.zPk) | ((with_reducible refine st_lit1 62 70 _ (pA ⟨nx, t⟩) ?_ Try.underlying62 Try.infoP2 rfl (by decide) (by decide) ?_); exact rfl))
    refine ⟨fun V35 g35 n35 f35 => ?_⟩
    clear c34
    have ne35_o := f35.ne m33_o
    have ne35_r := f35.ne m33_r
    have ne35_p := f35.ne m33_p
    have ne35_q := f35.ne m33_q
    have ne35_d := f35.ne n33
    have no35_s := SO.fresh m33_s (Nat.le_of_eq f35.at_)
    have up35 : w.heap.size ≤ g35 := f35.up o33
    have bl35 := f35.bel
    clear f35
    have r36_s := SO.on m33_s bl35
    have r37_o := le_on m33_o bl35
    have r37_r := le_on m33_r bl35
    have r37_p := le_on m33_p bl35
    have r37_q := le_on m33_q bl35
    have r37_d := le_on n33 bl35
    have r37_l := (m33_l).on bl35
    have l37 := le_tr o33 bl35
    clear m33_o m33_r m33_p m33_q n33 m33_l o33
    clear m33_s
    clear bl35
    go_wp2_with (first | ((with_reducible refine st_app (.tmp 43) (.tmp 45) 62 70 Try.underlying62 Try.infoP rfl (by decide) (A := A1) (n := n) (c := c1) (G := q1) rfl r36_s.seg (As := (some ⟨g35, 0, none⟩)) (m := 1) (k := 1) rfl (Src.box n35 rfl) (all_list (pA_one _)) (by simp only [maxLen]; omega) (by omega) (n + 1) (by omega) ?_)))
    refine ⟨fun B38 m38 q38 w38 s38 h38 k38 => ?_⟩
    have s38 : Seg w38 70 2 B38 (n + 1) m38 (rc pcl (L ++ [⟨nx, t⟩])) q38 := by rw [← rc_snoc]; exact s38
    have hg38 : ∀ g, q1 = some g → w.heap.size ≤ g := fun g e => r36_s.hi g e
    have so38 : SO w.heap.size w38 70 pcl 2 B38 (n + 1) m38 (L ++ [⟨nx, t⟩]) q38 := ⟨s38, k38.ge (l37).size hg38⟩
    have e38_o := CB.same r37_o (h38.block _ (CB.lt r37_o) (fun e => na26 _ e.symm rfl))
    have na38_o := moved_ne k38 (CB.lt r37_o) na26
    have e38_r := CB.same r37_r (h38.block _ (CB.lt r37_r) (fun e => na27 _ e.symm rfl))
    have na38_r := moved_ne k38 (CB.lt r37_r) na27
    have e38_p := CB.same r37_p (h38.block _ (CB.lt r37_p) (fun e => na28 _ e.symm rfl))
    have na38_p := moved_ne k38 (CB.lt r37_p) na28
    have e38_q := CB.same r37_q (h38.block _ (CB.lt r37_q) (fun e => na29 _ e.symm rfl))
    have na38_q := moved_ne k38 (CB.lt r37_q) na29
    have e38_d := CB.same r37_d (h38.block _ (CB.lt r37_d) (fun e => no30_s _ e.symm rfl))
    have na38_d := moved_ne k38 (CB.lt r37_d) no30_s
    have e38_z := CB.same n35 (h38.block _ (CB.lt n35) (fun e => no35_s _ e.symm rfl))
    have na38_z := moved_ne k38 (CB.lt n35) no35_s
    have e38_l := (r37_l).grow h38 hg38
    have lw38 := (l37).grown h38 (l37).size hg38
    clear h38 k38 s38 hg38 r36_s r37_o na26 r37_r na27 r37_p na28 r37_q na29 r37_d no30_s n35 no35_s r37_l l37
    go_wp2_with (first | ((with_reducible refine st_cell 62 _ _ g30 1 (.slice B38 (n + 1) m38) ?_ ?_ e38_d (new := oA ⟨nx, B38, n + 1, m38, rm⟩) ?_ ?_ ?_ ?_ ?_ ?_); exact rfl; exact rfl; exact (by rw [oA_size]; decide); exact oA_w _ _ _ _; exact one_pp; exact rfl; exact rfl))
    refine ⟨fun V39 n39 k39 => ?_⟩
    have m39_o := k39.on e38_o ne30_o
    have m39_r := k39.on e38_r ne30_r
    have m39_p := k39.on e38_p ne30_p
    have m39_q := k39.on e38_q ne30_q
    have m39_z := k39.on e38_z (Ne.symm ne35_d)
    have m39_l := (e38_l).wr k39 up30
    have m39_s := SO.wr so38 k39 na38_d
    have o39 := k39.bel _ _ lw38 up30
    clear k39
    clear e38_d e38_o e38_r e38_p e38_q e38_z e38_l so38 lw38
    have c40 : V39.cell? ⟨g30, 0, none⟩ = some (.int .i64 nx) := CB.cell n39 0
    go_wp2_with (first | ((with_reducible refine st_cell 3 _ _ g30 0 (.int .i64 (nx + 1)) ?_ ?_ n39 (new := oA ⟨nx + 1, B38, n + 1, m38, rm⟩) ?_ ?_ ?_ ?_ ?_ ?_); exact rfl; exact rfl; exact (by rw [oA_size]; decide); exact oA_n _ _; exact one_ip; exact rfl; exact rfl))
    refine ⟨fun V41 n41 k41 => ?_⟩
    clear c40
    have m41_o := k41.on m39_o ne30_o
    have m41_r := k41.on m39_r ne30_r
    have m41_p := k41.on m39_p ne30_p
    have m41_q := k41.on m39_q ne30_q
    have m41_z := k41.on m39_z (Ne.symm ne35_d)
    have m41_l := (m39_l).wr k41 up30
    have m41_s := SO.wr m39_s k41 na38_d
    have o41 := k41.bel _ _ o39 up30
    clear k41
    clear n39 m39_o m39_r m39_p m39_q m39_z m39_l m39_s o39
    go_wp2_with fail
    have y42 := Lib.hid (show (fun V : World => CB V g30 64 (oA ⟨nx + 1, B38, n + 1, m38, rm⟩) ∧ CB V g19 70 (pA ⟨nx, t⟩)) V41.drew from ⟨CB.drew n41, CB.drew m41_q⟩)
    refine wp_region_held_drew (S := (fun V : World => CB V g30 64 (oA ⟨nx + 1, B38, n + 1, m38, rm⟩) ∧ CB V g19 70 (pA ⟨nx, t⟩))) (by kernel_rfl) y42.out (fun hHeld => ?_)
    obtain ⟨D42, hD42⟩ : ∃ V, V41.drew = V := ⟨_, rfl⟩
    have b42 : Below V41.heap.size V41 D42 := by rw [← hD42]; exact le_dr (Below.refl _ _)
    rw [hD42] at hHeld ⊢
    clear hD42
    have r43_s := SO.on m41_s b42
    have r44_o := le_on m41_o b42
    have r44_r := le_on m41_r b42
    have r44_p := le_on m41_p b42
    have r44_q := le_on m41_q b42
    have r44_d := le_on n41 b42
    have r44_z := le_on m41_z b42
    have r44_l := (m41_l).on b42
    have l44 := le_tr o41 b42
    clear m41_o m41_r m41_p m41_q n41 m41_z m41_l o41
    clear m41_s
    clear b42
    refine wpAnyH_takeL (i := 0) (d := some 52) (v := .agg (oA ⟨nx + 1, B38, n + 1, m38, rm⟩)) rfl rfl (by kernel_rfl) (by kernel_rfl) (by kernel_rfl) (fun _ _ _ h => h) (Or.inl ⟨by rfl, ?_⟩) hHeld ?_
    · intro w hSw; exact yl_whole 64 _ g30 rfl hSw.1 Try.underlying64 rfl Try.zOu
    try simp only [Act.put, List.setIfInBounds_toArray, List.set_cons_zero, List.set_cons_succ]
    refine wpAnyH_takeL (i := 1) (d := some 53) (v := .agg (pA ⟨nx, t⟩)) rfl rfl (by kernel_rfl) (by kernel_rfl) (by kernel_rfl) (fun _ _ _ h => h) (Or.inl ⟨by rfl, ?_⟩) hHeld ?_
    · intro w hSw; exact yl_whole 70 _ g19 rfl hSw.2 Try.underlying70 rfl Try.zPk
    try simp only [Act.put, List.setIfInBounds_toArray, List.set_cons_zero, List.set_cons_succ]
    refine wpAnyH_ready (rs := [2]) (by kernel_rfl) (by simp) ?_
    refine AllReadyH.cons rfl (fun K hK => ?_) AllReadyH.nil
    refine rd_store rfl 64 _ _ rfl none rfl g4 (oA ⟨nx + 1, B38, n + 1, m38, rm⟩) rfl rfl r44_r Try.zOu rfl (oA_one _) ?_
    refine ⟨fun V45 n45 k45 => ?_⟩
    have m45_o := k45.on r44_o ne4_o
    have m45_p := k45.on r44_p (Ne.symm ne7_r)
    have m45_q := k45.on r44_q (Ne.symm ne19_r)
    have m45_d := k45.on r44_d (Ne.symm ne30_r)
    have m45_z := k45.on r44_z (Ne.symm ne35_r)
    have m45_l := (r44_l).wr k45 up4
    have m45_s := SO.wr r43_s k45 na38_r
    have o45 := k45.bel _ _ l44 up4
    clear k45
    clear r44_r r44_o r44_p r44_q r44_d r44_z r44_l r43_s l44
    have y46 := Lib.hid (show (fun V : World => CB V g30 64 (oA ⟨nx + 1, B38, n + 1, m38, rm⟩) ∧ CB V g19 70 (pA ⟨nx, t⟩)) V45 from ⟨m45_d, m45_q⟩)
    refine hK.out _ _ y46.out (fun hHeld => ?_)
    clear hK K y46
    try simp only [Act.put, List.setIfInBounds_toArray, List.set_cons_zero, List.set_cons_succ]
    refine wpAnyH_ready (rs := [3]) (by kernel_rfl) (by simp) ?_
    refine AllReadyH.cons rfl (fun K hK => ?_) AllReadyH.nil
    refine rd_store rfl 70 _ _ rfl none rfl g7 (pA ⟨nx, t⟩) rfl rfl m45_p Try.zPk rfl (pA_one _) ?_
    refine ⟨fun V47 n47 k47 => ?_⟩
    have m47_o := k47.on m45_o ne7_o
    have m47_r := k47.on n45 ne7_r
    have m47_q := k47.on m45_q (Ne.symm ne19_p)
    have m47_d := k47.on m45_d (Ne.symm ne30_p)
    have m47_z := k47.on m45_z (Ne.symm ne35_p)
    have m47_l := (m45_l).wr k47 up7
    have m47_s := SO.wr m45_s k47 na38_p
    have o47 := k47.bel _ _ o45 up7
    clear k47
    clear m45_p m45_o n45 m45_q m45_d m45_z m45_l m45_s o45
    have y48 := Lib.hid (show (fun V : World => CB V g30 64 (oA ⟨nx + 1, B38, n + 1, m38, rm⟩) ∧ CB V g19 70 (pA ⟨nx, t⟩)) V47 from ⟨m47_d, m47_q⟩)
    refine hK.out _ _ y48.out (fun hHeld => ?_)
    clear hK K y48
    try simp only [Act.put, List.setIfInBounds_toArray, List.set_cons_zero, List.set_cons_succ]
    refine wpAnyH_takeL (i := 4) (d := some 6) (v := .int .i64 0) rfl rfl (by kernel_rfl) (by kernel_rfl) (by kernel_rfl) (fun _ _ _ h => h) (Or.inl ⟨by rfl, ?_⟩) hHeld ?_
    · intro w hSw; (try dsimp only at hSw); go_simp
    try simp only [Act.put, List.setIfInBounds_toArray, List.set_cons_zero, List.set_cons_succ]
    refine wpAnyH_done (by kernel_rfl) ?_ _
    go_wp2_with fail
    exact bodyPost_ret (v := .tuple #[.agg (oA ⟨nx + 1, B38, n + 1, m38, rm⟩), .agg (pA ⟨nx, t⟩), .int .i64 0]) (res_cct Try.results26 rfl rfl rfl m47_r n47 Try.underlying64 rfl Try.zOu Try.underlying70 rfl Try.zPk) rfl (SPost.yes (o := ⟨nx, L, rm⟩) HE.out m47_s o47)
  · have HE := Lib.hid (say_3 (t := t) HR.out (.inl (by omega)))
    rw [show decide (t.size ≤ 500) = false by simp; omega] at F1
    clear h5
    go_enter Try.func26, Try.ntmps26
    go_wp2_with (first | ((with_reducible refine st_box 64 _ (oA ⟨nx, A, n, c, rm⟩) ?_ ?_); exact rfl))
    refine ⟨fun V1 g1 n1 f1 => ?_⟩
    have up1 : w.heap.size ≤ g1 := Nat.le_of_eq f1.at_
    have bl1 := f1.bel
    clear f1
    have r3_l := (hl).on bl1
    have l3 := le_tr (Below.refl _ _) bl1
    clear hl
    clear bl1
    go_wp2_with (first | ((with_reducible refine st_alloc 64 (oA zeroO) ?_ ?_); exact zero_ou))
    refine ⟨fun V4 g4 n4 f4 => ?_⟩
    have ne4_o := f4.ne n1
    have up4 : w.heap.size ≤ g4 := f4.up l3
    have bl4 := f4.bel
    clear f4
    have r6_o := le_on n1 bl4
    have r6_l := (r3_l).on bl4
    have l6 := le_tr l3 bl4
    clear n1 r3_l l3
    clear bl4
    go_wp2_with (first | ((with_reducible refine st_alloc 70 (pA zeroP) ?_ ?_); exact zero_pk))
    refine ⟨fun V7 g7 n7 f7 => ?_⟩
    have ne7_o := f7.ne r6_o
    have ne7_r := f7.ne n4
    have up7 : w.heap.size ≤ g7 := f7.up l6
    have bl7 := f7.bel
    clear f7
    have r9_o := le_on r6_o bl7
    have r9_r := le_on n4 bl7
    have r9_l := (r6_l).on bl7
    have l9 := le_tr l6 bl7
    clear r6_o n4 r6_l l6
    clear bl7
    go_wp2_with (first | ((with_reducible refine st_load 64 _ g1 ?_ r9_o Try.underlying64 ?_ ?_ ?_); exact rfl; exact rfl; exact Try.zOu))
    (with_reducible refine (R1 _ (r9_l).rr).mono ?_)
    rintro e w10 ⟨rfl, b10⟩
    have r12_o := le_on r9_o b10
    have r12_r := le_on r9_r b10
    have r12_p := le_on n7 b10
    have r12_l := (r9_l).on b10
    have l12 := le_tr l9 b10
    clear r9_o r9_r n7 r9_l l9
    clear b10
    go_wp2_with fail
    (with_reducible refine (F1 _).mono ?_)
    rintro e w13 ⟨rfl, b13⟩
    have r15_o := le_on r12_o b13
    have r15_r := le_on r12_r b13
    have r15_p := le_on r12_p b13
    have r15_l := (r12_l).on b13
    have l15 := le_tr l12 b13
    clear r12_o r12_r r12_p r12_l l12
    clear b13
    go_wp2_with (first | ((with_reducible refine st_load 64 _ g1 ?_ r15_o Try.underlying64 ?_ ?_ ?_); exact rfl; exact rfl; exact Try.zOu))
    have lt16_o := CB.lt r15_o
    have lt16_r := CB.lt r15_r
    have lt16_p := CB.lt r15_p
    have lb16 : w.heap.size ≤ w13.heap.size := Below.size (B := w.heap.size) l15
    (with_reducible refine (C1 _ (r15_l).rr).mono ?_)
    rintro e w16 ⟨A1, c1, q1, rfl, so1, b16⟩
    have r18_o := le_on r15_o b16
    have r18_r := le_on r15_r b16
    have r18_p := le_on r15_p b16
    have r18_l := (r15_l).on b16
    have l18 := le_tr l15 b16
    clear r15_o r15_r r15_p r15_l l15
    clear b16
    have na19 := SO.above so1 lt16_o
    have na20 := SO.above so1 lt16_r
    have na21 := SO.above so1 lt16_p
    have sm16_s := SO.mono so1 lb16
    clear so1
    clear lb16 lt16_o lt16_r lt16_p
    go_wp2_with (first | ((with_reducible refine st_built0 70 (pA zeroP) ?_ ?_); exact built_p0) | ((with_reducible refine st_store 64 _ _ g4 (oA ⟨nx, A1, n, c1, rm⟩) ?_ ?_ r18_r ?_ ?_ ?_ ?_); exact rfl; exact rfl; exact Try.zOu; exact rfl; exact oA_one _))
    refine ⟨fun V22 n22 k22 => ?_⟩
    have m22_o := k22.on r18_o ne4_o
    have m22_p := k22.on r18_p (Ne.symm ne7_r)
    have m22_l := (r18_l).wr k22 up4
    have m22_s := SO.wr sm16_s k22 na20
    have o22 := k22.bel _ _ l18 up4
    clear k22
    clear r18_r r18_o r18_p r18_l sm16_s l18
    go_wp2_with (first | ((with_reducible refine st_store 70 _ _ g7 (pA zeroP) ?_ ?_ m22_p ?_ ?_ ?_ ?_); exact rfl; exact rfl; exact Try.zPk; exact rfl; exact pA_one _))
    refine ⟨fun V23 n23 k23 => ?_⟩
    have m23_o := k23.on m22_o ne7_o
    have m23_r := k23.on n22 ne7_r
    have m23_l := (m22_l).wr k23 up7
    have m23_s := SO.wr m22_s k23 na21
    have o23 := k23.bel _ _ o22 up7
    clear k23
    clear m22_p m22_o n22 m22_l m22_s o22
    go_wp2_with fail
    exact bodyPost_ret (v := .tuple #[.agg (oA ⟨nx, A1, n, c1, rm⟩), .agg (pA zeroP), .int .i64 3]) (res_cct Try.results26 rfl rfl rfl m23_r n23 Try.underlying64 rfl Try.zOu Try.underlying70 rfl Try.zPk) rfl (SPost.no (o := ⟨nx, L, rm⟩) HE.out (by decide) rfl m23_s o23)
end Go.Proofs.Ytcfdfimkgehdfaa
