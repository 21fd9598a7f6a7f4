/-
  The law NoteTurned, walked. Condition: the bytes are in their type's range.
-/
import Derived.Test.YtbkfepgcnijlfaaNoL
import Derived.Test.YtbkfepgcnijlfaaNoD
set_option linter.unusedVariables false
set_option linter.unusedSimpArgs false
namespace Go.Proofs.Ytbkfepgcnijlfaa
open Go.RowKit
open Dk (Nt InN RightN BoundN MsgN NoMsg KindN EpN bound_n)


theorem xor_b (a b : UInt8) : bits .xor .u8 (a.toNat : Int) (b.toNat : Int) = ((a ^^^ b).toNat : Int) := by
  rw [u8_xor_nat _ _ a.toNat_lt b.toNat_lt, UInt8.toNat_xor]
theorem xor_nb {a b : UInt8} (h : ¬ b = 0) : ¬ a = a ^^^ b := by
  intro e
  apply h
  have := congrArg (a ^^^ ·) e
  simpa [← UInt8.xor_assoc] using this.symm
theorem slot_b {W : World} {N : Nat} {A : Option Addr} {n q : Nat} {L : List UInt8} {G : Option Nat} (h : SO N W 5 bcl 1 A n q L G) (i : Nat) (hi : i < n) :
    ∃ g off x, A = some ⟨g, off, none⟩ ∧ G = some g ∧ L[i]? = some x ∧ W.frozen? ⟨g, off + i, none⟩ = false ∧ W.cell? ⟨g, off + i, none⟩ = some (.int .u8 (x.toNat : Int)) ∧ N ≤ g ∧
      ∀ y : UInt8, SO N (W.setCell ⟨g, off + i, none⟩ (.int .u8 (y.toNat : Int))) 5 bcl 1 A n q (L.set i y) G ∧ Wr W (W.setCell ⟨g, off + i, none⟩ (.int .u8 (y.toNat : Int))) g := by
  have hl := h.len
  obtain ⟨g, off, hA, hG, fz, hc, hs⟩ := h.seg.slot i (by omega)
  have hx : L[i]? = some L[i] := List.getElem?_eq_getElem (by omega)
  have hr : (rc bcl L)[i]? = some (.int .u8 (L[i].toNat : Int)) := by rw [rc_bcl]; unfold Dk.bc; rw [List.getElem?_map, hx]; rfl
  obtain ⟨cs, hcs⟩ := seg_typeS (e := 5) (by have := h.seg; rw [hG] at this; exact this)
  refine ⟨g, off, L[i], hA, hG, hx, fz, hc _ hr, h.hi g hG, fun y => ⟨⟨?_, h.hi⟩, Wr.cell hcs _ _⟩⟩
  have := hs (.int .u8 (y.toNat : Int))
  have e : (rc bcl L).set i (.int .u8 (y.toNat : Int)) = rc bcl (L.set i y) := by rw [rc_bcl, rc_bcl]; unfold Dk.bc; rw [List.map_set]
  rw [e] at this
  exact this
set_option maxRecDepth 100000 in
set_option maxHeartbeats 4000000 in
theorem turned_walk (n : Nt) (a : Nat) (y : UInt8) (w : World) (hi : InN n) (ha : a < 65536) : Calls Try.prog 5 #[.agg (ntA n), .int .u16 (a : Int), .int .u8 (y.toNat : Int)] w fun r w' => r = .returned (.bool true) ∧ Below w.heap.size w w' := by
  by_cases hs : n.cg.size ≤ 700
  rotate_left
  · skip
    have q1 : decide ((700 : Int) < (n.cg.size : Int)) = true := by simp; omega
    have q1' : decide ((n.cg.size : Int) > 700) = true := by simp; omega
    go_enter Try.func5, Try.ntmps5
    go_wp2_with (first | ((with_reducible refine st_box 25 _ (ntA n) ?_ ?_); exact rfl))
    refine ⟨fun V1 g1 n1 f1 => ?_⟩
    have up1 : w.heap.size ≤ g1 := Nat.le_of_eq f1.at_
    have bl1 := f1.bel
    clear f1
    have l3 := le_tr (Below.refl _ _) bl1
    clear bl1
    go_wp2_with fail
    (with_reducible refine (alive_c _).mono ?_)
    rintro e w4 ⟨rfl, b4⟩
    have r6_n := le_on n1 b4
    have l6 := le_tr l3 b4
    clear n1 l3
    clear b4
    have c7 : w4.cell? ⟨g1, 9, none⟩ = some (.string (n.cg)) := CB.cell r6_n 9
    go_wp2_with fail
    go_ret
    exact ⟨rfl, l6⟩
  have q1 : decide ((700 : Int) < (n.cg.size : Int)) = false := by simp; omega
  have q1' : decide ((n.cg.size : Int) > 700) = false := by simp; omega
  obtain ⟨k, hk⟩ : ∃ k, 25 + n.cg.size = k := ⟨_, rfl⟩
  have hkb : k ≤ 725 := by omega
  have hka : 25 ≤ k := by omega
  clear hs
  have C1 := fun W => right_r n W
  by_cases hr : RightN n
  rotate_left
  · simp only [decide_eq_false hr] at C1
    have HI := Lib.hid hi
    have HR := Lib.hid hr
    clear hi hr hk hkb hka
    go_enter Try.func5, Try.ntmps5
    go_wp2_with (first | ((with_reducible refine st_box 25 _ (ntA n) ?_ ?_); exact rfl))
    refine ⟨fun V1 g1 n1 f1 => ?_⟩
    have up1 : w.heap.size ≤ g1 := Nat.le_of_eq f1.at_
    have bl1 := f1.bel
    clear f1
    have l3 := le_tr (Below.refl _ _) bl1
    clear bl1
    go_wp2_with fail
    (with_reducible refine (alive_c _).mono ?_)
    rintro e w4 ⟨rfl, b4⟩
    have r6_n := le_on n1 b4
    have l6 := le_tr l3 b4
    clear n1 l3
    clear b4
    have c7 : w4.cell? ⟨g1, 9, none⟩ = some (.string (n.cg)) := CB.cell r6_n 9
    go_wp2_with (first | (first | ((with_reducible refine st_load 25 _ g1 ?_ r6_n Try.underlying25 ?_ ?_ ?_); exact rfl; exact rfl; exact Try.zNr) | ((with_reducible refine st_loadG 25 _ g1 ?_ r6_n Try.underlying25 ?_ ?_ ?_ ?_); exact rfl; exact rfl; exact Try.zNr; exact rfl)))
    (with_reducible refine (theirs_c n _).mono ?_)
    rintro e w8 ⟨rfl, b8⟩
    clear c7
    have r10_n := le_on r6_n b8
    have l10 := le_tr l6 b8
    clear r6_n l6
    clear b8
    go_wp2_with fail
    have lt11_n := CB.lt r10_n
    have lb11 : w.heap.size ≤ w8.heap.size := Below.size (B := w.heap.size) l10
    (with_reducible refine (enc_not n _ HI.out HR.out).mono ?_)
    rintro e w11 ⟨A2, q2, G2, rfl, h2, b11⟩
    have r13_n := le_on r10_n b11
    have l13 := le_tr l10 b11
    clear r10_n l10
    clear b11
    have na14 := SO.above h2 lt11_n
    have sm11_x := SO.mono h2 lb11
    clear h2
    clear lb11 lt11_n
    go_wp2_with (first | (first | ((with_reducible refine st_load 25 _ g1 ?_ r13_n Try.underlying25 ?_ ?_ ?_); exact rfl; exact rfl; exact Try.zNr) | ((with_reducible refine st_loadG 25 _ g1 ?_ r13_n Try.underlying25 ?_ ?_ ?_ ?_); exact rfl; exact rfl; exact Try.zNr; exact rfl)))
    (with_reducible refine (C1 _).mono ?_)
    rintro e w15 ⟨rfl, b15⟩
    have r16_x := SO.on sm11_x b15
    have r17_n := le_on r13_n b15
    have l17 := le_tr l13 b15
    clear r13_n l13
    clear sm11_x
    clear b15
    go_wp2_with fail
    go_ret
    exact ⟨rfl, l17⟩
  have hlen := Lib.hid (show (Dk.byN n).length = k by rw [Dk.byN_length]; exact hk)
  have HB := Lib.hid (fun (j : Nat) (x z : UInt8) => Dk.dNt_turned (j := j) (x := x) (y := z) hi hr)
  have HS := Lib.hid (fun (j : Nat) (hj : j < k) => Dk.dNt_short (j := j) hi hr (by rw [hlen.out]; exact hj))
  have HI := Lib.hid hi
  have HR := Lib.hid hr
  have HK := Lib.hid hk
  simp only [decide_eq_true hr] at C1
  clear hi hr hk
  have l8 : decide ((k : Int) < 8) = false := by simp; omega
  by_cases hy : y = 0
  · have q3 : ((y.toNat : Int) == 0) = true := by rw [hy]; rfl
    clear hy
    go_enter Try.func5, Try.ntmps5
    go_wp2_with (first | ((with_reducible refine st_box 25 _ (ntA n) ?_ ?_); exact rfl))
    refine ⟨fun V1 g1 n1 f1 => ?_⟩
    have up1 : w.heap.size ≤ g1 := Nat.le_of_eq f1.at_
    have bl1 := f1.bel
    clear f1
    have l3 := le_tr (Below.refl _ _) bl1
    clear bl1
    go_wp2_with fail
    (with_reducible refine (alive_c _).mono ?_)
    rintro e w4 ⟨rfl, b4⟩
    have r6_n := le_on n1 b4
    have l6 := le_tr l3 b4
    clear n1 l3
    clear b4
    have c7 : w4.cell? ⟨g1, 9, none⟩ = some (.string (n.cg)) := CB.cell r6_n 9
    go_wp2_with (first | (first | ((with_reducible refine st_load 25 _ g1 ?_ r6_n Try.underlying25 ?_ ?_ ?_); exact rfl; exact rfl; exact Try.zNr) | ((with_reducible refine st_loadG 25 _ g1 ?_ r6_n Try.underlying25 ?_ ?_ ?_ ?_); exact rfl; exact rfl; exact Try.zNr; exact rfl)))
    (with_reducible refine (theirs_c n _).mono ?_)
    rintro e w8 ⟨rfl, b8⟩
    clear c7
    have r10_n := le_on r6_n b8
    have l10 := le_tr l6 b8
    clear r6_n l6
    clear b8
    go_wp2_with fail
    have lt11_n := CB.lt r10_n
    have lb11 : w.heap.size ≤ w8.heap.size := Below.size (B := w.heap.size) l10
    (with_reducible refine (enc_yes n k _ HI.out HR.out HK.out).mono ?_)
    rintro e w11 ⟨A2, q2, G2, rfl, h2, b11⟩
    have r13_n := le_on r10_n b11
    have l13 := le_tr l10 b11
    clear r10_n l10
    clear b11
    have na14 := SO.above h2 lt11_n
    have sm11_x := SO.mono h2 lb11
    clear h2
    clear lb11 lt11_n
    go_wp2_with (first | (first | ((with_reducible refine st_load 25 _ g1 ?_ r13_n Try.underlying25 ?_ ?_ ?_); exact rfl; exact rfl; exact Try.zNr) | ((with_reducible refine st_loadG 25 _ g1 ?_ r13_n Try.underlying25 ?_ ?_ ?_ ?_); exact rfl; exact rfl; exact Try.zNr; exact rfl)))
    (with_reducible refine (C1 _).mono ?_)
    rintro e w15 ⟨rfl, b15⟩
    have r16_x := SO.on sm11_x b15
    have r17_n := le_on r13_n b15
    have l17 := le_tr l13 b15
    clear r13_n l13
    clear sm11_x
    clear b15
    go_wp2_with fail
    go_ret
    exact ⟨rfl, l17⟩
  have q3 : ((y.toNat : Int) == 0) = false := by rw [beq_eq_false_iff_ne]; intro e; exact hy (UInt8.toNat_inj.1 (by simpa using e))
  have HY := Lib.hid hy
  clear hy C1
  obtain ⟨j1, hj1⟩ : ∃ j, a % k = j := ⟨_, rfl⟩
  have hl1 : j1 < k := by rw [← hj1]; exact Nat.mod_lt _ (by omega)
  have tm1 : Int.tmod (a : Int) (k : Int) = (j1 : Int) := by rw [tmod_nat, hj1]
  obtain ⟨j2, hj2⟩ : ∃ j, a % (k - 2) = j := ⟨_, rfl⟩
  have hl2 : j2 < k - 2 := by rw [← hj2]; exact Nat.mod_lt _ (by omega)
  have hsub : (k : Int) - 2 = ((k - 2 : Nat) : Int) := by omega
  have tm2 : Int.tmod (a : Int) ((k : Int) - 2) = (j2 : Int) := by rw [hsub, tmod_nat, hj2]
  have em1 : (a : Int) % (k : Int) = (j1 : Int) := by rw [← hj1]; rfl
  have em2 : (a : Int) % ((k : Int) - 2) = (j2 : Int) := by rw [hsub, ← hj2]; rfl
  have n1 : ¬ (k : Int) = 0 := by omega
  have n1' : k ≠ 0 := by omega
  have n2 : ¬ (k : Int) - 2 = 0 := by omega
  have wa : IntKind.i64.wrap (a : Int) = (a : Int) := IntWalk.i64_in _ (by omega)
  clear hsub hj1 hj2
  by_cases h0 : j2 = 0
  · skip
    subst h0
    have q9 : decide ((0 : Int) < ((0 : Nat) : Int)) = false := by simp
    go_enter Try.func5, Try.ntmps5
    go_wp2_with (first | ((with_reducible refine st_box 25 _ (ntA n) ?_ ?_); exact rfl))
    refine ⟨fun V1 g1 n1 f1 => ?_⟩
    have up1 : w.heap.size ≤ g1 := Nat.le_of_eq f1.at_
    have bl1 := f1.bel
    clear f1
    have l3 := le_tr (Below.refl _ _) bl1
    clear bl1
    go_wp2_with fail
    (with_reducible refine (alive_c _).mono ?_)
    rintro e w4 ⟨rfl, b4⟩
    have r6_n := le_on n1 b4
    have l6 := le_tr l3 b4
    clear n1 l3
    clear b4
    have c7 : w4.cell? ⟨g1, 9, none⟩ = some (.string (n.cg)) := CB.cell r6_n 9
    go_wp2_with (first | (first | ((with_reducible refine st_load 25 _ g1 ?_ r6_n Try.underlying25 ?_ ?_ ?_); exact rfl; exact rfl; exact Try.zNr) | ((with_reducible refine st_loadG 25 _ g1 ?_ r6_n Try.underlying25 ?_ ?_ ?_ ?_); exact rfl; exact rfl; exact Try.zNr; exact rfl)))
    (with_reducible refine (theirs_c n _).mono ?_)
    rintro e w8 ⟨rfl, b8⟩
    clear c7
    have r10_n := le_on r6_n b8
    have l10 := le_tr l6 b8
    clear r6_n l6
    clear b8
    go_wp2_with fail
    have lt11_n := CB.lt r10_n
    have lb11 : w.heap.size ≤ w8.heap.size := Below.size (B := w.heap.size) l10
    (with_reducible refine (enc_yes n k _ HI.out HR.out HK.out).mono ?_)
    rintro e w11 ⟨A2, q2, G2, rfl, h2, b11⟩
    have r13_n := le_on r10_n b11
    have l13 := le_tr l10 b11
    clear r10_n l10
    clear b11
    have na14 := SO.above h2 lt11_n
    have sm11_x := SO.mono h2 lb11
    clear h2
    clear lb11 lt11_n
    have hq := (sm11_x).rr.cap
    have cut := cut_b A2 k q2 j1 (by omega)
    go_wp2_with fail
    (with_reducible refine (dec_no_c (HS.out j1 hl1) _ _ _ _ ((SO.rr sm11_x).upto (k := j1) (by omega))).mono ?_)
    rintro e w15 ⟨rfl, b15⟩
    have r16_x := SO.on sm11_x b15
    have r17_n := le_on r13_n b15
    have l17 := le_tr l13 b15
    clear r13_n l13
    clear sm11_x
    clear b15
    go_wp2_with (first | ((with_reducible refine st_alloc 33 (ntA zN) ?_ ?_); exact zero_nc))
    refine ⟨fun V18 g18 n18 f18 => ?_⟩
    have ne18_n := f18.ne r17_n
    have no18_x := SO.fresh r16_x (Nat.le_of_eq f18.at_)
    have up18 : w.heap.size ≤ g18 := f18.up l17
    have bl18 := f18.bel
    clear f18
    have r19_x := SO.on r16_x bl18
    have r20_n := le_on r17_n bl18
    have l20 := le_tr l17 bl18
    clear r17_n l17
    clear r16_x
    clear bl18
    go_wp2_with (first | ((with_reducible refine st_store 33 _ _ g18 (ntA zN) ?_ ?_ n18 ?_ ?_ ?_ ?_); exact rfl; exact rfl; exact Try.zNc; exact rfl; exact ntA_one _))
    refine ⟨fun V21 n21 k21 => ?_⟩
    have m21_n := k21.on r20_n ne18_n
    have m21_x := SO.wr r19_x k21 no18_x
    have o21 := k21.bel _ _ l20 up18
    clear k21
    clear n18 r20_n r19_x l20
    obtain ⟨gs, os, x, rfl, rfl, hx, fz, cx, hg, hset⟩ := slot_b m21_x (0) (by omega)
    have hsx := hset (x ^^^ y)
    have HX := Lib.hid hx
    have HXO := Lib.hid (xor_b x y)
    clear hset hx
    obtain ⟨V9, hV9⟩ : ∃ V, V21.setCell ⟨gs, os + (0), none⟩ (.int .u8 ((x ^^^ y).toNat : Int)) = V := ⟨_, rfl⟩
    rw [hV9] at hsx
    obtain ⟨hs9, hk9⟩ := hsx
    simp only [Nat.add_zero] at fz cx hV9
    have HV := Lib.hid hV9
    clear hV9
    go_wp2_with fail
    rw [HXO.out]
    rw [HV.out]
    have z9_n := hk9.on m21_n (fun e => na14 _ rfl e.symm)
    have z9_u := hk9.on n21 (fun e => no18_x _ rfl e.symm)
    have z9_l := hk9.bel _ _ o21 hg
    clear cx fz
    go_wp2_with fail
    (with_reducible refine (dec_no_c (HB.out (0) x (x ^^^ y) HX.out (xor_nb HY.out) (by omega)) _ _ _ _ (SO.rr hs9)).mono ?_)
    rintro e w22 ⟨rfl, b22⟩
    have r23_x := SO.on hs9 b22
    have r24_n := le_on z9_n b22
    have r24_u := le_on z9_u b22
    have l24 := le_tr z9_l b22
    clear z9_n z9_u z9_l
    clear hs9
    clear b22
    go_wp2_with (first | ((with_reducible refine st_alloc 33 (ntA zN) ?_ ?_); exact zero_nc))
    refine ⟨fun V25 g25 n25 f25 => ?_⟩
    have ne25_n := f25.ne r24_n
    have ne25_u := f25.ne r24_u
    have up25 : w.heap.size ≤ g25 := f25.up l24
    have bl25 := f25.bel
    clear f25
    have r27_n := le_on r24_n bl25
    have r27_u := le_on r24_u bl25
    have l27 := le_tr l24 bl25
    clear r24_n r24_u l24
    clear bl25
    go_wp2_with (first | ((with_reducible refine st_store 33 _ _ g25 (ntA zN) ?_ ?_ n25 ?_ ?_ ?_ ?_); exact rfl; exact rfl; exact Try.zNc; exact rfl; exact ntA_one _))
    refine ⟨fun V28 n28 k28 => ?_⟩
    have m28_n := k28.on r27_n ne25_n
    have m28_u := k28.on r27_u ne25_u
    have o28 := k28.bel _ _ l27 up25
    clear k28
    clear n25 r27_n r27_u l27
    go_wp2_with fail
    go_ret
    exact ⟨rfl, o28⟩
  have q9 : decide ((0 : Int) < (j2 : Int)) = true := by simp; omega
  have q9' : decide ((j2 : Int) > 0) = true := by simp; omega
  go_enter Try.func5, Try.ntmps5
  go_wp2_with (first | ((with_reducible refine st_box 25 _ (ntA n) ?_ ?_); exact rfl))
  refine ⟨fun V1 g1 n1 f1 => ?_⟩
  have up1 : w.heap.size ≤ g1 := Nat.le_of_eq f1.at_
  have bl1 := f1.bel
  clear f1
  have l3 := le_tr (Below.refl _ _) bl1
  clear bl1
  go_wp2_with fail
  (with_reducible refine (alive_c _).mono ?_)
  rintro e w4 ⟨rfl, b4⟩
  have r6_n := le_on n1 b4
  have l6 := le_tr l3 b4
  clear n1 l3
  clear b4
  have c7 : w4.cell? ⟨g1, 9, none⟩ = some (.string (n.cg)) := CB.cell r6_n 9
  go_wp2_with (first | (first | ((with_reducible refine st_load 25 _ g1 ?_ r6_n Try.underlying25 ?_ ?_ ?_); exact rfl; exact rfl; exact Try.zNr) | ((with_reducible refine st_loadG 25 _ g1 ?_ r6_n Try.underlying25 ?_ ?_ ?_ ?_); exact rfl; exact rfl; exact Try.zNr; exact rfl)))
  (with_reducible refine (theirs_c n _).mono ?_)
  rintro e w8 ⟨rfl, b8⟩
  clear c7
  have r10_n := le_on r6_n b8
  have l10 := le_tr l6 b8
  clear r6_n l6
  clear b8
  go_wp2_with fail
  have lt11_n := CB.lt r10_n
  have lb11 : w.heap.size ≤ w8.heap.size := Below.size (B := w.heap.size) l10
  (with_reducible refine (enc_yes n k _ HI.out HR.out HK.out).mono ?_)
  rintro e w11 ⟨A2, q2, G2, rfl, h2, b11⟩
  have r13_n := le_on r10_n b11
  have l13 := le_tr l10 b11
  clear r10_n l10
  clear b11
  have na14 := SO.above h2 lt11_n
  have sm11_x := SO.mono h2 lb11
  clear h2
  clear lb11 lt11_n
  have hq := (sm11_x).rr.cap
  have cut := cut_b A2 k q2 j1 (by omega)
  go_wp2_with fail
  (with_reducible refine (dec_no_c (HS.out j1 hl1) _ _ _ _ ((SO.rr sm11_x).upto (k := j1) (by omega))).mono ?_)
  rintro e w15 ⟨rfl, b15⟩
  have r16_x := SO.on sm11_x b15
  have r17_n := le_on r13_n b15
  have l17 := le_tr l13 b15
  clear r13_n l13
  clear sm11_x
  clear b15
  go_wp2_with (first | ((with_reducible refine st_alloc 33 (ntA zN) ?_ ?_); exact zero_nc))
  refine ⟨fun V18 g18 n18 f18 => ?_⟩
  have ne18_n := f18.ne r17_n
  have no18_x := SO.fresh r16_x (Nat.le_of_eq f18.at_)
  have up18 : w.heap.size ≤ g18 := f18.up l17
  have bl18 := f18.bel
  clear f18
  have r19_x := SO.on r16_x bl18
  have r20_n := le_on r17_n bl18
  have l20 := le_tr l17 bl18
  clear r17_n l17
  clear r16_x
  clear bl18
  go_wp2_with (first | ((with_reducible refine st_store 33 _ _ g18 (ntA zN) ?_ ?_ n18 ?_ ?_ ?_ ?_); exact rfl; exact rfl; exact Try.zNc; exact rfl; exact ntA_one _))
  refine ⟨fun V21 n21 k21 => ?_⟩
  have m21_n := k21.on r20_n ne18_n
  have m21_x := SO.wr r19_x k21 no18_x
  have o21 := k21.bel _ _ l20 up18
  clear k21
  clear n18 r20_n r19_x l20
  obtain ⟨gs, os, x, rfl, rfl, hx, fz, cx, hg, hset⟩ := slot_b m21_x (j2 + 2) (by omega)
  have hsx := hset (x ^^^ y)
  have HX := Lib.hid hx
  have HXO := Lib.hid (xor_b x y)
  clear hset hx
  obtain ⟨V9, hV9⟩ : ∃ V, V21.setCell ⟨gs, os + (j2 + 2), none⟩ (.int .u8 ((x ^^^ y).toNat : Int)) = V := ⟨_, rfl⟩
  rw [hV9] at hsx
  obtain ⟨hs9, hk9⟩ := hsx
  have HV := Lib.hid hV9
  clear hV9
  go_wp2_with fail
  rw [HXO.out]
  rw [HV.out]
  have z9_n := hk9.on m21_n (fun e => na14 _ rfl e.symm)
  have z9_u := hk9.on n21 (fun e => no18_x _ rfl e.symm)
  have z9_l := hk9.bel _ _ o21 hg
  clear cx fz
  go_wp2_with fail
  (with_reducible refine (dec_no_c (HB.out (j2 + 2) x (x ^^^ y) HX.out (xor_nb HY.out) (by omega)) _ _ _ _ (SO.rr hs9)).mono ?_)
  rintro e w22 ⟨rfl, b22⟩
  have r23_x := SO.on hs9 b22
  have r24_n := le_on z9_n b22
  have r24_u := le_on z9_u b22
  have l24 := le_tr z9_l b22
  clear z9_n z9_u z9_l
  clear hs9
  clear b22
  go_wp2_with (first | ((with_reducible refine st_alloc 33 (ntA zN) ?_ ?_); exact zero_nc))
  refine ⟨fun V25 g25 n25 f25 => ?_⟩
  have ne25_n := f25.ne r24_n
  have ne25_u := f25.ne r24_u
  have up25 : w.heap.size ≤ g25 := f25.up l24
  have bl25 := f25.bel
  clear f25
  have r27_n := le_on r24_n bl25
  have r27_u := le_on r24_u bl25
  have l27 := le_tr l24 bl25
  clear r24_n r24_u l24
  clear bl25
  go_wp2_with (first | ((with_reducible refine st_store 33 _ _ g25 (ntA zN) ?_ ?_ n25 ?_ ?_ ?_ ?_); exact rfl; exact rfl; exact Try.zNc; exact rfl; exact ntA_one _))
  refine ⟨fun V28 n28 k28 => ?_⟩
  have m28_n := k28.on r27_n ne25_n
  have m28_u := k28.on r27_u ne25_u
  have o28 := k28.bel _ _ l27 up25
  clear k28
  clear n25 r27_n r27_u l27
  go_wp2_with fail
  go_ret
  exact ⟨rfl, o28⟩
end Go.Proofs.Ytbkfepgcnijlfaa
