/-
  Layer 17: Decode of package note. Condition: the bytes can be read.
-/
import Derived.Test.YtbkfepgcnijlfaaNoI
import Derived.Test.YtbkfepgcnijlfaaNoC
set_option linter.unusedVariables false
set_option linter.unusedSimpArgs false
namespace Go.Proofs.Ytbkfepgcnijlfaa
open Go.RowKit
open Dk (Nt InN RightN BoundN MsgN NoMsg KindN EpN bound_n)


set_option maxRecDepth 100000 in
set_option maxHeartbeats 4000000 in
theorem decode_c (A : Option Addr) (n c : Nat) (bs : List UInt8) (w : World) (hb : RR w bcl 1 A n c bs) : Calls Try.prog 12 #[.slice A n c] w (DPost w bs) := by
  have hlen := Lib.hid hb.len
  have hl := RL.start hb
  obtain ⟨x, hx⟩ : ∃ x, Dk.fC bs = x := ⟨_, rfl⟩
  obtain ⟨e0, he⟩ : ∃ x, Dk.fE bs = x := ⟨_, rfl⟩
  obtain ⟨k0, hk⟩ : ∃ x, Dk.fK bs = x := ⟨_, rfl⟩
  have C1 := fun V (h : RR V bcl 1 A n c bs) => first_C A n c bs V h
  unfold FstPost at C1
  rw [hx, he, hk] at C1
  by_cases h1 : e0 = 0 ∧ k0 = n
  rotate_left
  · have HN := Lib.hid (d_no1 (bs := bs) (by rw [he, hk, hlen.out]; exact h1))
    by_cases h3 : e0 = 0
    · have q0 : ((e0 : Int) != 0) = false := by simp [h3]
      have q1 : ((k0 : Int) != (n : Int)) = true := by simp; omega
      have q2 : (k0 != n) = true := by simp; omega
      clear h1 h3 he hk hx
      go_enter Try.func12, Try.ntmps12
      go_wp2_with (first | ((with_reducible refine st_alloc 33 (ntA zN) ?_ ?_); exact zero_nc))
      refine ⟨fun V1 g1 n1 f1 => ?_⟩
      have up1 : w.heap.size ≤ g1 := Nat.le_of_eq f1.at_
      have bl1 := f1.bel
      clear f1
      have r3_l := (hl).on bl1
      have l3 := le_tr (Below.refl _ _) bl1
      clear hl
      clear bl1
      go_wp2_with fail
      (with_reducible refine (C1 _ (r3_l).rr).mono ?_)
      rintro e w4 ⟨A2, n2, c2, rfl, h2, b4⟩
      have r6_r := le_on n1 b4
      have l6 := le_tr l3 b4
      clear n1 r3_l l3
      clear b4
      clear h2
      go_wp2_with (first | ((with_reducible refine st_store 33 _ _ g1 (ntA zN) ?_ ?_ r6_r ?_ ?_ ?_ ?_); exact rfl; exact rfl; exact Try.zNc; exact rfl; exact ntA_one _))
      refine ⟨fun V7 n7 k7 => ?_⟩
      have o7 := k7.bel _ _ l6 up1
      clear k7
      clear r6_r l6
      go_wp2_with fail
      exact bodyPost_ret (v := .tuple #[.agg (ntA zN), .int .i64 4]) (res_two Try.results12 rfl rfl n7 Try.underlying33 rfl Try.zNc) rfl ⟨dp_no HN.out, o7⟩
    have q0 : ((e0 : Int) != 0) = true := by simp; omega
    have q3 : (e0 != 0) = true := by simp [h3]
    clear h1 h3 he hk hx
    go_enter Try.func12, Try.ntmps12
    go_wp2_with (first | ((with_reducible refine st_alloc 33 (ntA zN) ?_ ?_); exact zero_nc))
    refine ⟨fun V1 g1 n1 f1 => ?_⟩
    have up1 : w.heap.size ≤ g1 := Nat.le_of_eq f1.at_
    have bl1 := f1.bel
    clear f1
    have r3_l := (hl).on bl1
    have l3 := le_tr (Below.refl _ _) bl1
    clear hl
    clear bl1
    go_wp2_with fail
    (with_reducible refine (C1 _ (r3_l).rr).mono ?_)
    rintro e w4 ⟨A2, n2, c2, rfl, h2, b4⟩
    have r6_r := le_on n1 b4
    have l6 := le_tr l3 b4
    clear n1 r3_l l3
    clear b4
    clear h2
    go_wp2_with (first | ((with_reducible refine st_store 33 _ _ g1 (ntA zN) ?_ ?_ r6_r ?_ ?_ ?_ ?_); exact rfl; exact rfl; exact Try.zNc; exact rfl; exact ntA_one _))
    refine ⟨fun V7 n7 k7 => ?_⟩
    have o7 := k7.bel _ _ l6 up1
    clear k7
    clear r6_r l6
    go_wp2_with fail
    exact bodyPost_ret (v := .tuple #[.agg (ntA zN), .int .i64 4]) (res_two Try.results12 rfl rfl n7 Try.underlying33 rfl Try.zNc) rfl ⟨dp_no HN.out, o7⟩
  obtain ⟨rfl, rfl⟩ := h1
  have HY := Lib.hid (show Dk.fE bs = 0 ∧ Dk.fK bs = bs.length from ⟨he, by rw [hk, hlen.out]⟩)
  have q0 : (((0 : Nat) : Int) != 0) = false := by simp
  have q1 : ((k0 : Int) != (k0 : Int)) = false := by simp
  have q2 : (k0 != k0) = false := by simp
  clear he hk
  rcases dec10 x with ho | ⟨k, b, t, e, v, q, f, g, m, cg, ho, hw⟩
  · have HO := Lib.hid ho
    have HN := Lib.hid (d_no2 (bs := bs) (by rw [hx]; exact ho))
    clear ho
    go_enter Try.func12, Try.ntmps12
    go_wp2_with (first | ((with_reducible refine st_alloc 33 (ntA zN) ?_ ?_); exact zero_nc))
    refine ⟨fun V1 g1 n1 f1 => ?_⟩
    have up1 : w.heap.size ≤ g1 := Nat.le_of_eq f1.at_
    have bl1 := f1.bel
    clear f1
    have r3_l := (hl).on bl1
    have l3 := le_tr (Below.refl _ _) bl1
    clear hl
    clear bl1
    go_wp2_with fail
    (with_reducible refine (C1 _ (r3_l).rr).mono ?_)
    rintro e w4 ⟨A2, n2, c2, rfl, h2, b4⟩
    have r6_r := le_on n1 b4
    have l6 := le_tr l3 b4
    clear n1 r3_l l3
    clear b4
    go_wp2_with fail
    (with_reducible refine (decx_C HO.out _ _ _ _ h2).mono ?_)
    rintro e w7 ⟨A3, c3, rfl, b7⟩
    have r9_r := le_on r6_r b7
    have r9_y := (h2).on b7
    have l9 := le_tr l6 b7
    clear r6_r h2 l6
    clear b7
    clear r9_y
    go_wp2_with (first | ((with_reducible refine st_store 33 _ _ g1 (ntA zN) ?_ ?_ r9_r ?_ ?_ ?_ ?_); exact rfl; exact rfl; exact Try.zNc; exact rfl; exact ntA_one _))
    refine ⟨fun V10 n10 k10 => ?_⟩
    have o10 := k10.bel _ _ l9 up1
    clear k10
    clear r9_r l9
    go_wp2_with fail
    exact bodyPost_ret (v := .tuple #[.agg (ntA zN), .int .i64 4]) (res_two Try.results12 rfl rfl n10 Try.underlying33 rfl Try.zNc) rfl ⟨dp_no HN.out, o10⟩
  have HO := Lib.hid ho
  have HR1 := fun h => Lib.hid (d_no3 (bs := bs) (by rw [hx]; exact ho) h)
  have HR2 := fun h => Lib.hid (d_yes (bs := bs) HY.out (by rw [hx]; exact ho) h)
  clear ho
  have C5 := fun W => right_c ⟨(k : Int), (b : Int), (t : Int), (e : Int), (v : Int), (q : Int), (f : Int), (g : Int), (m : Int), cg⟩ W
  by_cases hr : RightN ⟨(k : Int), (b : Int), (t : Int), (e : Int), (v : Int), (q : Int), (f : Int), (g : Int), (m : Int), cg⟩
  · skip
    simp only [decide_eq_true hr] at C5
    have HZ := HR2 hr
    clear hr HR1 HR2
    go_enter Try.func12, Try.ntmps12
    go_wp2_with (first | ((with_reducible refine st_alloc 33 (ntA zN) ?_ ?_); exact zero_nc))
    refine ⟨fun V1 g1 n1 f1 => ?_⟩
    have up1 : w.heap.size ≤ g1 := Nat.le_of_eq f1.at_
    have bl1 := f1.bel
    clear f1
    have r3_l := (hl).on bl1
    have l3 := le_tr (Below.refl _ _) bl1
    clear hl
    clear bl1
    go_wp2_with fail
    (with_reducible refine (C1 _ (r3_l).rr).mono ?_)
    rintro e w4 ⟨A2, n2, c2, rfl, h2, b4⟩
    have r6_r := le_on n1 b4
    have l6 := le_tr l3 b4
    clear n1 r3_l l3
    clear b4
    go_wp2_with fail
    (with_reducible refine (decn_C HO.out _ _ _ _ h2).mono ?_)
    rintro e w7 ⟨A3, c3, rfl, h5, b7⟩
    have r9_r := le_on r6_r b7
    have r9_y := (h2).on b7
    have l9 := le_tr l6 b7
    clear r6_r h2 l6
    clear b7
    go_wp2_with fail
    (with_reducible refine (noteOf_c k b t e v q f g m cg _ _ _ hw h5).mono ?_)
    rintro e w10 ⟨rfl, b10⟩
    have r12_r := le_on r9_r b10
    have r12_y := (h5).on b10
    have l12 := le_tr l9 b10
    clear r9_r h5 l9
    clear b10
    go_wp2_with (first | ((with_reducible refine st_alloc 33 (ntA zN) ?_ ?_); exact zero_nc))
    refine ⟨fun V13 g13 n13 f13 => ?_⟩
    have ne13_r := f13.ne r12_r
    have up13 : w.heap.size ≤ g13 := f13.up l12
    have bl13 := f13.bel
    clear f13
    have r15_r := le_on r12_r bl13
    have l15 := le_tr l12 bl13
    clear r12_r l12
    clear bl13
    go_wp2_with (first | ((with_reducible refine st_store 33 _ _ g13 (ntA ⟨(k : Int), (b : Int), (t : Int), (e : Int), (v : Int), (q : Int), (f : Int), (g : Int), (m : Int), cg⟩) ?_ ?_ n13 ?_ ?_ ?_ ?_); exact rfl; exact rfl; exact Try.zNc; exact rfl; exact ntA_one _))
    refine ⟨fun V16 n16 k16 => ?_⟩
    have m16_r := k16.on r15_r ne13_r
    have o16 := k16.bel _ _ l15 up13
    clear k16
    clear n13 r15_r l15
    go_wp2_with (first | (first | ((with_reducible refine st_load 33 _ g13 ?_ n16 Try.underlying33 ?_ ?_ ?_); exact rfl; exact rfl; exact Try.zNc) | ((with_reducible refine st_loadG 33 _ g13 ?_ n16 Try.underlying33 ?_ ?_ ?_ ?_); exact rfl; exact rfl; exact Try.zNc; exact rfl)))
    (with_reducible refine (C5 _).mono ?_)
    rintro e w17 ⟨rfl, b17⟩
    have r19_r := le_on m16_r b17
    have r19_n := le_on n16 b17
    have l19 := le_tr o16 b17
    clear m16_r n16 o16
    clear b17
    go_wp2_with (first | (first | ((with_reducible refine st_load 33 _ g13 ?_ r19_n Try.underlying33 ?_ ?_ ?_); exact rfl; exact rfl; exact Try.zNc) | ((with_reducible refine st_loadG 33 _ g13 ?_ r19_n Try.underlying33 ?_ ?_ ?_ ?_); exact rfl; exact rfl; exact Try.zNc; exact rfl)) | ((with_reducible refine st_store 33 _ _ g1 (ntA ⟨(k : Int), (b : Int), (t : Int), (e : Int), (v : Int), (q : Int), (f : Int), (g : Int), (m : Int), cg⟩) ?_ ?_ r19_r ?_ ?_ ?_ ?_); exact rfl; exact rfl; exact Try.zNc; exact rfl; exact ntA_one _))
    refine ⟨fun V20 n20 k20 => ?_⟩
    have m20_n := k20.on r19_n (Ne.symm ne13_r)
    have o20 := k20.bel _ _ l19 up1
    clear k20
    clear r19_r r19_n l19
    go_wp2_with fail
    exact bodyPost_ret (v := .tuple #[.agg (ntA ⟨(k : Int), (b : Int), (t : Int), (e : Int), (v : Int), (q : Int), (f : Int), (g : Int), (m : Int), cg⟩), .int .i64 0]) (res_two Try.results12 rfl rfl n20 Try.underlying33 rfl Try.zNc) rfl ⟨dp_yes HZ.out, o20⟩
  simp only [decide_eq_false hr] at C5
  have HZ := HR1 hr
  clear hr HR1 HR2
  go_enter Try.func12, Try.ntmps12
  go_wp2_with (first | ((with_reducible refine st_alloc 33 (ntA zN) ?_ ?_); exact zero_nc))
  refine ⟨fun V1 g1 n1 f1 => ?_⟩
  have up1 : w.heap.size ≤ g1 := Nat.le_of_eq f1.at_
  have bl1 := f1.bel
  clear f1
  have r3_l := (hl).on bl1
  have l3 := le_tr (Below.refl _ _) bl1
  clear hl
  clear bl1
  go_wp2_with fail
  (with_reducible refine (C1 _ (r3_l).rr).mono ?_)
  rintro e w4 ⟨A2, n2, c2, rfl, h2, b4⟩
  have r6_r := le_on n1 b4
  have l6 := le_tr l3 b4
  clear n1 r3_l l3
  clear b4
  go_wp2_with fail
  (with_reducible refine (decn_C HO.out _ _ _ _ h2).mono ?_)
  rintro e w7 ⟨A3, c3, rfl, h5, b7⟩
  have r9_r := le_on r6_r b7
  have r9_y := (h2).on b7
  have l9 := le_tr l6 b7
  clear r6_r h2 l6
  clear b7
  go_wp2_with fail
  (with_reducible refine (noteOf_c k b t e v q f g m cg _ _ _ hw h5).mono ?_)
  rintro e w10 ⟨rfl, b10⟩
  have r12_r := le_on r9_r b10
  have r12_y := (h5).on b10
  have l12 := le_tr l9 b10
  clear r9_r h5 l9
  clear b10
  go_wp2_with (first | ((with_reducible refine st_alloc 33 (ntA zN) ?_ ?_); exact zero_nc))
  refine ⟨fun V13 g13 n13 f13 => ?_⟩
  have ne13_r := f13.ne r12_r
  have up13 : w.heap.size ≤ g13 := f13.up l12
  have bl13 := f13.bel
  clear f13
  have r15_r := le_on r12_r bl13
  have l15 := le_tr l12 bl13
  clear r12_r l12
  clear bl13
  go_wp2_with (first | ((with_reducible refine st_store 33 _ _ g13 (ntA ⟨(k : Int), (b : Int), (t : Int), (e : Int), (v : Int), (q : Int), (f : Int), (g : Int), (m : Int), cg⟩) ?_ ?_ n13 ?_ ?_ ?_ ?_); exact rfl; exact rfl; exact Try.zNc; exact rfl; exact ntA_one _))
  refine ⟨fun V16 n16 k16 => ?_⟩
  have m16_r := k16.on r15_r ne13_r
  have o16 := k16.bel _ _ l15 up13
  clear k16
  clear n13 r15_r l15
  go_wp2_with (first | (first | ((with_reducible refine st_load 33 _ g13 ?_ n16 Try.underlying33 ?_ ?_ ?_); exact rfl; exact rfl; exact Try.zNc) | ((with_reducible refine st_loadG 33 _ g13 ?_ n16 Try.underlying33 ?_ ?_ ?_ ?_); exact rfl; exact rfl; exact Try.zNc; exact rfl)))
  (with_reducible refine (C5 _).mono ?_)
  rintro e w17 ⟨rfl, b17⟩
  have r19_r := le_on m16_r b17
  have r19_n := le_on n16 b17
  have l19 := le_tr o16 b17
  clear m16_r n16 o16
  clear b17
  go_wp2_with (first | ((with_reducible refine st_store 33 _ _ g1 (ntA zN) ?_ ?_ r19_r ?_ ?_ ?_ ?_); exact rfl; exact rfl; exact Try.zNc; exact rfl; exact ntA_one _))
  refine ⟨fun V20 n20 k20 => ?_⟩
  have m20_n := k20.on r19_n (Ne.symm ne13_r)
  have o20 := k20.bel _ _ l19 up1
  clear k20
  clear r19_r r19_n l19
  go_wp2_with fail
  exact bodyPost_ret (v := .tuple #[.agg (ntA zN), .int .i64 4]) (res_two Try.results12 rfl rfl n20 Try.underlying33 rfl Try.zNc) rfl ⟨dp_no HZ.out, o20⟩
end Go.Proofs.Ytbkfepgcnijlfaa
