/-
  The law NoteBytes, walked. Conditions: the note's bytes are in their type's range, the bytes can be read.
-/
import Derived.Test.YtbkfepgcnijlfaaNoL
import Derived.Test.YtbkfepgcnijlfaaNoH
import Derived.Test.YtbkfepgcnijlfaaNoK
set_option linter.unusedVariables false
set_option linter.unusedSimpArgs false
namespace Go.Proofs.Ytbkfepgcnijlfaa
open Go.RowKit
open Dk (Nt InN RightN BoundN MsgN NoMsg KindN EpN bound_n)


set_option maxRecDepth 100000 in
set_option maxHeartbeats 4000000 in
theorem bytes_walk (n : Nt) (A : Option Addr) (c q : Nat) (bs : List UInt8) (w : World) (hi : InN n) (hb : RR w bcl 1 A c q bs) : Calls Try.prog 3 #[.agg (ntA n), .slice A c q] w fun r w' => r = .returned (.bool true) ∧ Below w.heap.size w w' := by
  have hl := RL.start hb
  have hbl := Lib.hid hb.len
  have hmx := hl.max
  clear hb
  by_cases hs : n.cg.size ≤ 700
  rotate_left
  · skip
    have q1 : decide ((700 : Int) < (n.cg.size : Int)) = true := by simp; omega
    have q1' : decide ((n.cg.size : Int) > 700) = true := by simp; omega
    go_enter Try.func3, Try.ntmps3
    go_wp2_with (first | ((with_reducible refine st_box 25 _ (ntA n) ?_ ?_); exact rfl))
    refine ⟨fun V1 g1 n1 f1 => ?_⟩
    have up1 : w.heap.size ≤ g1 := Nat.le_of_eq f1.at_
    have bl1 := f1.bel
    clear f1
    have r3_l := (hl).on bl1
    have l3 := le_tr (Below.refl _ _) bl1
    clear hl
    clear bl1
    go_wp2_with fail
    (with_reducible refine (alive_c _).mono ?_)
    rintro e w4 ⟨rfl, b4⟩
    have r6_n := le_on n1 b4
    have r6_l := (r3_l).on b4
    have l6 := le_tr l3 b4
    clear n1 r3_l l3
    clear b4
    have c7 : w4.cell? ⟨g1, 9, none⟩ = some (.string (n.cg)) := CB.cell r6_n 9
    go_wp2_with fail
    go_ret
    exact ⟨rfl, l6⟩
  have q1 : decide ((700 : Int) < (n.cg.size : Int)) = false := by simp; omega
  have q1' : decide ((n.cg.size : Int) > 700) = false := by simp; omega
  clear hs
  by_cases hs : c ≤ 700
  rotate_left
  · skip
    have q2 : decide ((700 : Int) < (c : Int)) = true := by simp; omega
    have q2' : decide ((c : Int) > 700) = true := by simp; omega
    go_enter Try.func3, Try.ntmps3
    go_wp2_with (first | ((with_reducible refine st_box 25 _ (ntA n) ?_ ?_); exact rfl))
    refine ⟨fun V1 g1 n1 f1 => ?_⟩
    have up1 : w.heap.size ≤ g1 := Nat.le_of_eq f1.at_
    have bl1 := f1.bel
    clear f1
    have r3_l := (hl).on bl1
    have l3 := le_tr (Below.refl _ _) bl1
    clear hl
    clear bl1
    go_wp2_with fail
    (with_reducible refine (alive_c _).mono ?_)
    rintro e w4 ⟨rfl, b4⟩
    have r6_n := le_on n1 b4
    have r6_l := (r3_l).on b4
    have l6 := le_tr l3 b4
    clear n1 r3_l l3
    clear b4
    have c7 : w4.cell? ⟨g1, 9, none⟩ = some (.string (n.cg)) := CB.cell r6_n 9
    go_wp2_with fail
    go_ret
    exact ⟨rfl, l6⟩
  have q2 : decide ((700 : Int) < (c : Int)) = false := by simp; omega
  have q2' : decide ((c : Int) > 700) = false := by simp; omega
  have C1 := fun W => encode_c n W hi
  have C2 := fun W => encode_r n W hi
  have C3 := fun W (h : RR W bcl 1 A c q bs) => decode_c A c q bs W h
  have C4 := fun W (h : RR W bcl 1 A c q bs) => decode_r A c q bs W h (by omega)
  have C5 := fun W => right_c n W
  have C6 := fun W => right_r n W
  unfold EPost at C1 C2
  unfold DPost at C3 C4
  obtain ⟨L, hL⟩ : ∃ L, Dk.bNt n = L := ⟨_, rfl⟩
  obtain ⟨e0, he⟩ : ∃ e, Dk.eNt n = e := ⟨_, rfl⟩
  obtain ⟨u, hu⟩ : ∃ u, nD bs = u := ⟨_, rfl⟩
  obtain ⟨e1, he1⟩ : ∃ e, kD bs = e := ⟨_, rfl⟩
  obtain ⟨bR, hR⟩ : ∃ b, decide (RightN n) = b := ⟨_, rfl⟩
  obtain ⟨m, hm⟩ : ∃ m, L.length = m := ⟨_, rfl⟩
  rw [hL, he, hm] at C1 C2
  rw [hu, he1] at C3 C4
  rw [hR] at C5 C6
  clear hL he hu he1 hR hs hm hi
  have E : ∀ V : World, (Op.equalIn 10000 25 (.agg (ntA u)) (.agg (ntA u))).run Try.prog V = .ok true V := fun V => by have := eq_nr u u V; rw [eqN_refl] at this; exact this
  have qs : ((Dk.mkS L).toList == (Dk.mkS L).toList) = true := beq_self_eq_true _
  have qe0 : ((e0 : Int) == (e0 : Int)) = true := by simp
  have qe1 : ((e1 : Int) == (e1 : Int)) = true := by simp
  go_enter Try.func3, Try.ntmps3
  go_wp2_with (first | ((with_reducible refine st_box 25 _ (ntA n) ?_ ?_); exact rfl))
  refine ⟨fun V1 g1 n1 f1 => ?_⟩
  have up1 : w.heap.size ≤ g1 := Nat.le_of_eq f1.at_
  have bl1 := f1.bel
  clear f1
  have r3_l := (hl).on bl1
  have l3 := le_tr (Below.refl _ _) bl1
  clear hl
  clear bl1
  go_wp2_with fail
  (with_reducible refine (alive_c _).mono ?_)
  rintro e w4 ⟨rfl, b4⟩
  have r6_n := le_on n1 b4
  have r6_l := (r3_l).on b4
  have l6 := le_tr l3 b4
  clear n1 r3_l l3
  clear b4
  have c7 : w4.cell? ⟨g1, 9, none⟩ = some (.string (n.cg)) := CB.cell r6_n 9
  go_wp2_with (first | (first | ((with_reducible refine st_load 25 _ g1 ?_ r6_n Try.underlying25 ?_ ?_ ?_); exact rfl; exact rfl; exact Try.zNr) | ((with_reducible refine st_loadG 25 _ g1 ?_ r6_n Try.underlying25 ?_ ?_ ?_ ?_); exact rfl; exact rfl; exact Try.zNr; exact rfl)))
  (with_reducible refine (theirs_c n _).mono ?_)
  rintro e w8 ⟨rfl, b8⟩
  clear c7
  have r10_n := le_on r6_n b8
  have r10_l := (r6_l).on b8
  have l10 := le_tr l6 b8
  clear r6_n r6_l l6
  clear b8
  go_wp2_with fail
  have lt11_n := CB.lt r10_n
  have lb11 : w.heap.size ≤ w8.heap.size := Below.size (B := w.heap.size) l10
  (with_reducible refine (C1 _).mono ?_)
  rintro e w11 ⟨A1, q1x, G1, rfl, h1, b11⟩
  have r13_n := le_on r10_n b11
  have r13_l := (r10_l).on b11
  have l13 := le_tr l10 b11
  clear r10_n r10_l l10
  clear b11
  have na14 := SO.above h1 lt11_n
  have sm11_x := SO.mono h1 lb11
  clear h1
  clear lb11 lt11_n
  go_wp2_with (first | (first | ((with_reducible refine st_load 25 _ g1 ?_ r13_n Try.underlying25 ?_ ?_ ?_); exact rfl; exact rfl; exact Try.zNr) | ((with_reducible refine st_loadG 25 _ g1 ?_ r13_n Try.underlying25 ?_ ?_ ?_ ?_); exact rfl; exact rfl; exact Try.zNr; exact rfl)))
  have lt15_n := CB.lt r13_n
  have lb15 : w.heap.size ≤ w11.heap.size := Below.size (B := w.heap.size) l13
  (with_reducible refine (C2 _).mono ?_)
  rintro e w15 ⟨A2, q2x, G2, rfl, h2, b15⟩
  have r16_x := SO.on sm11_x b15
  have r17_n := le_on r13_n b15
  have r17_l := (r13_l).on b15
  have l17 := le_tr l13 b15
  clear r13_n r13_l l13
  clear sm11_x
  clear b15
  have na18 := SO.above h2 lt15_n
  have sm15_y := SO.mono h2 lb15
  clear h2
  clear lb15 lt15_n
  go_wp2_with fail
  (with_reducible refine (C3 _ r17_l.rr).mono ?_)
  rintro e w19 ⟨rfl, b19⟩
  have r20_x := SO.on r16_x b19
  have r20_y := SO.on sm15_y b19
  have r21_n := le_on r17_n b19
  have r21_l := (r17_l).on b19
  have l21 := le_tr l17 b19
  clear r17_n r17_l l17
  clear r16_x sm15_y
  clear b19
  go_wp2_with (first | ((with_reducible refine st_alloc 33 (ntA zN) ?_ ?_); exact zero_nc))
  refine ⟨fun V22 g22 n22 f22 => ?_⟩
  have ne22_n := f22.ne r21_n
  have no22_x := SO.fresh r20_x (Nat.le_of_eq f22.at_)
  have no22_y := SO.fresh r20_y (Nat.le_of_eq f22.at_)
  have up22 : w.heap.size ≤ g22 := f22.up l21
  have bl22 := f22.bel
  clear f22
  have r23_x := SO.on r20_x bl22
  have r23_y := SO.on r20_y bl22
  have r24_n := le_on r21_n bl22
  have r24_l := (r21_l).on bl22
  have l24 := le_tr l21 bl22
  clear r21_n r21_l l21
  clear r20_x r20_y
  clear bl22
  go_wp2_with (first | ((with_reducible refine st_store 33 _ _ g22 (ntA u) ?_ ?_ n22 ?_ ?_ ?_ ?_); exact rfl; exact rfl; exact Try.zNc; exact rfl; exact ntA_one _))
  refine ⟨fun V25 n25 k25 => ?_⟩
  have m25_n := k25.on r24_n ne22_n
  have m25_l := (r24_l).wr k25 up22
  have m25_x := SO.wr r23_x k25 no22_x
  have m25_y := SO.wr r23_y k25 no22_y
  have o25 := k25.bel _ _ l24 up22
  clear k25
  clear n22 r24_n r24_l r23_x r23_y l24
  go_wp2_with fail
  (with_reducible refine (C4 _ m25_l.rr).mono ?_)
  rintro e w26 ⟨rfl, b26⟩
  have r27_x := SO.on m25_x b26
  have r27_y := SO.on m25_y b26
  have r28_n := le_on m25_n b26
  have r28_u := le_on n25 b26
  have r28_l := (m25_l).on b26
  have l28 := le_tr o25 b26
  clear m25_n n25 m25_l o25
  clear m25_x m25_y
  clear b26
  go_wp2_with (first | ((with_reducible refine st_alloc 25 (ntA zN) ?_ ?_); exact zero_nr))
  refine ⟨fun V29 g29 n29 f29 => ?_⟩
  have ne29_n := f29.ne r28_n
  have ne29_u := f29.ne r28_u
  have no29_x := SO.fresh r27_x (Nat.le_of_eq f29.at_)
  have no29_y := SO.fresh r27_y (Nat.le_of_eq f29.at_)
  have up29 : w.heap.size ≤ g29 := f29.up l28
  have bl29 := f29.bel
  clear f29
  have r30_x := SO.on r27_x bl29
  have r30_y := SO.on r27_y bl29
  have r31_n := le_on r28_n bl29
  have r31_u := le_on r28_u bl29
  have r31_l := (r28_l).on bl29
  have l31 := le_tr l28 bl29
  clear r28_n r28_u r28_l l28
  clear r27_x r27_y
  clear bl29
  go_wp2_with (first | ((with_reducible refine st_store 25 _ _ g29 (ntA u) ?_ ?_ n29 ?_ ?_ ?_ ?_); exact rfl; exact rfl; exact Try.zNr; exact rfl; exact ntA_one _))
  refine ⟨fun V32 n32 k32 => ?_⟩
  have m32_n := k32.on r31_n ne29_n
  have m32_u := k32.on r31_u ne29_u
  have m32_l := (r31_l).wr k32 up29
  have m32_x := SO.wr r30_x k32 no29_x
  have m32_y := SO.wr r30_y k32 no29_y
  have o32 := k32.bel _ _ l31 up29
  clear k32
  clear n29 r31_n r31_u r31_l r30_x r30_y l31
  clear m32_l
  go_wp2_with fail
  have hr1_x := SO.rr m32_x
  clear m32_x
  have hr2_y := SO.rr m32_y
  clear m32_y
  have y33 := Lib.hid (show (fun V : World => CB V g1 25 (ntA n) ∧ CB V g22 33 (ntA u) ∧ CB V g29 25 (ntA u) ∧ RR V bcl 1 A1 m q1x L ∧ RR V bcl 1 A2 m q2x L) V32.drew from ⟨CB.drew m32_n, CB.drew m32_u, CB.drew n32, (hr1_x).drew, (hr2_y).drew⟩)
  refine wp_region_held_drew (S := (fun V : World => CB V g1 25 (ntA n) ∧ CB V g22 33 (ntA u) ∧ CB V g29 25 (ntA u) ∧ RR V bcl 1 A1 m q1x L ∧ RR V bcl 1 A2 m q2x L)) (by kernel_rfl) y33.out (fun hHeld => ?_)
  obtain ⟨D33, hD33⟩ : ∃ V, V32.drew = V := ⟨_, rfl⟩
  have b33 : Below V32.heap.size V32 D33 := by rw [← hD33]; exact le_dr (Below.refl _ _)
  rw [hD33] at hHeld ⊢
  clear hD33
  have r35_n := le_on m32_n b33
  have r35_u := le_on m32_u b33
  have r35_v := le_on n32 b33
  have r35_x := (hr1_x).on b33
  have r35_y := (hr2_y).on b33
  have l35 := le_tr o32 b33
  clear m32_n m32_u n32 hr1_x hr2_y o32
  clear b33
  refine wpAnyH_takeL (i := 0) (d := some 46) (v := .agg (ntA n)) rfl rfl (by kernel_rfl) (by kernel_rfl) (by kernel_rfl) (fun _ _ _ h => h) (Or.inl ⟨by rfl, ?_⟩) hHeld ?_
  · intro w hSw; exact yl_whole 25 _ g1 rfl hSw.1 Try.underlying25 rfl Try.zNr
  try simp only [Act.put, List.setIfInBounds_toArray, List.set_cons_zero, List.set_cons_succ]
  refine wpAnyH_takeL (i := 3) (d := some 49) (v := .agg (ntA n)) rfl rfl (by kernel_rfl) (by kernel_rfl) (by kernel_rfl) (fun _ _ _ h => h) (Or.inl ⟨by rfl, ?_⟩) hHeld ?_
  · intro w hSw; exact yl_whole 25 _ g1 rfl hSw.1 Try.underlying25 rfl Try.zNr
  try simp only [Act.put, List.setIfInBounds_toArray, List.set_cons_zero, List.set_cons_succ]
  refine wpAnyH_ready (rs := [1]) (by kernel_rfl) (by simp) ?_
  refine AllReadyH.cons rfl (fun K hK => ?_) AllReadyH.nil
  go_simp
  (with_reducible refine (theirs_c n _).mono ?_)
  rintro e u36 ⟨rfl, b36⟩
  have r38_n := le_on r35_n b36
  have r38_u := le_on r35_u b36
  have r38_v := le_on r35_v b36
  have r38_x := (r35_x).on b36
  have r38_y := (r35_y).on b36
  have l38 := le_tr l35 b36
  clear r35_n r35_u r35_v r35_x r35_y l35
  clear b36
  go_wp2_with fail
  have y39 := Lib.hid (show (fun V : World => CB V g1 25 (ntA n) ∧ CB V g22 33 (ntA u) ∧ CB V g29 25 (ntA u) ∧ RR V bcl 1 A1 m q1x L ∧ RR V bcl 1 A2 m q2x L) u36 from ⟨r38_n, r38_u, r38_v, r38_x, r38_y⟩)
  refine hK.out _ _ y39.out (fun hHeld => ?_)
  clear hK K y39
  try simp only [Act.put, List.setIfInBounds_toArray, List.set_cons_zero, List.set_cons_succ]
  refine wpAnyH_ready (rs := [2]) (by kernel_rfl) (by simp) ?_
  refine AllReadyH.cons rfl (fun K hK => ?_) AllReadyH.nil
  go_simp
  (with_reducible refine (C5 _).mono ?_)
  rintro e u40 ⟨rfl, b40⟩
  have r42_n := le_on r38_n b40
  have r42_u := le_on r38_u b40
  have r42_v := le_on r38_v b40
  have r42_x := (r38_x).on b40
  have r42_y := (r38_y).on b40
  have l42 := le_tr l38 b40
  clear r38_n r38_u r38_v r38_x r38_y l38
  clear b40
  go_wp2_with fail
  have y43 := Lib.hid (show (fun V : World => CB V g1 25 (ntA n) ∧ CB V g22 33 (ntA u) ∧ CB V g29 25 (ntA u) ∧ RR V bcl 1 A1 m q1x L ∧ RR V bcl 1 A2 m q2x L) u40 from ⟨r42_n, r42_u, r42_v, r42_x, r42_y⟩)
  refine hK.out _ _ y43.out (fun hHeld => ?_)
  clear hK K y43
  try simp only [Act.put, List.setIfInBounds_toArray, List.set_cons_zero, List.set_cons_succ]
  refine wpAnyH_ready (rs := [4]) (by kernel_rfl) (by simp) ?_
  refine AllReadyH.cons rfl (fun K hK => ?_) AllReadyH.nil
  go_simp
  (with_reducible refine (C6 _).mono ?_)
  rintro e u44 ⟨rfl, b44⟩
  have r46_n := le_on r42_n b44
  have r46_u := le_on r42_u b44
  have r46_v := le_on r42_v b44
  have r46_x := (r42_x).on b44
  have r46_y := (r42_y).on b44
  have l46 := le_tr l42 b44
  clear r42_n r42_u r42_v r42_x r42_y l42
  clear b44
  go_wp2_with fail
  have y47 := Lib.hid (show (fun V : World => CB V g1 25 (ntA n) ∧ CB V g22 33 (ntA u) ∧ CB V g29 25 (ntA u) ∧ RR V bcl 1 A1 m q1x L ∧ RR V bcl 1 A2 m q2x L) u44 from ⟨r46_n, r46_u, r46_v, r46_x, r46_y⟩)
  refine hK.out _ _ y47.out (fun hHeld => ?_)
  clear hK K y47
  try simp only [Act.put, List.setIfInBounds_toArray, List.set_cons_zero, List.set_cons_succ]
  refine wpAnyH_takeL (i := 5) (d := some 51) (v := .bool true) rfl rfl (by kernel_rfl) (by kernel_rfl) (by kernel_rfl) (fun _ _ _ h => h) (Or.inl ⟨by rfl, ?_⟩) hHeld ?_
  · intro w hSw; (try dsimp only at hSw); go_simp
  try simp only [Act.put, List.setIfInBounds_toArray, List.set_cons_zero, List.set_cons_succ]
  refine wpAnyH_takeL (i := 6) (d := some 52) (v := .bool true) rfl rfl (by kernel_rfl) (by kernel_rfl) (by kernel_rfl) (fun _ _ _ h => h) (Or.inl ⟨by rfl, ?_⟩) hHeld ?_
  · intro w hSw; (try dsimp only at hSw); go_simp
  try simp only [Act.put, List.setIfInBounds_toArray, List.set_cons_zero, List.set_cons_succ]
  refine wpAnyH_takeL (i := 7) (d := some 53) (v := .slice A1 m q1x) rfl rfl (by kernel_rfl) (by kernel_rfl) (by kernel_rfl) (fun _ _ _ h => h) (Or.inl ⟨by rfl, ?_⟩) hHeld ?_
  · intro w hSw; (try dsimp only at hSw); go_simp
  try simp only [Act.put, List.setIfInBounds_toArray, List.set_cons_zero, List.set_cons_succ]
  refine wpAnyH_takeL (i := 8) (d := some 54) (v := .string (Dk.mkS L)) rfl rfl (by kernel_rfl) (by kernel_rfl) (by kernel_rfl) (fun _ _ _ h => h) (Or.inl ⟨by rfl, ?_⟩) hHeld ?_
  · intro w hSw; have hcc := conv_C _ _ _ _ _ (hSw.2.2.2.1); go_simp
  try simp only [Act.put, List.setIfInBounds_toArray, List.set_cons_zero, List.set_cons_succ]
  refine wpAnyH_takeL (i := 9) (d := some 55) (v := .slice A2 m q2x) rfl rfl (by kernel_rfl) (by kernel_rfl) (by kernel_rfl) (fun _ _ _ h => h) (Or.inl ⟨by rfl, ?_⟩) hHeld ?_
  · intro w hSw; (try dsimp only at hSw); go_simp
  try simp only [Act.put, List.setIfInBounds_toArray, List.set_cons_zero, List.set_cons_succ]
  refine wpAnyH_takeL (i := 10) (d := some 56) (v := .string (Dk.mkS L)) rfl rfl (by kernel_rfl) (by kernel_rfl) (by kernel_rfl) (fun _ _ _ h => h) (Or.inl ⟨by rfl, ?_⟩) hHeld ?_
  · intro w hSw; have hcc := conv_C _ _ _ _ _ (hSw.2.2.2.2); go_simp
  try simp only [Act.put, List.setIfInBounds_toArray, List.set_cons_zero, List.set_cons_succ]
  refine wpAnyH_takeL (i := 11) (d := some 57) (v := .bool true) rfl rfl (by kernel_rfl) (by kernel_rfl) (by kernel_rfl) (fun _ _ _ h => h) (Or.inl ⟨by rfl, ?_⟩) hHeld ?_
  · intro w hSw; (try dsimp only at hSw); go_simp
  try simp only [Act.put, List.setIfInBounds_toArray, List.set_cons_zero, List.set_cons_succ]
  refine wpAnyH_takeL (i := 12) (d := some 58) (v := .bool true) rfl rfl (by kernel_rfl) (by kernel_rfl) (by kernel_rfl) (fun _ _ _ h => h) (Or.inl ⟨by rfl, ?_⟩) hHeld ?_
  · intro w hSw; (try dsimp only at hSw); go_simp
  try simp only [Act.put, List.setIfInBounds_toArray, List.set_cons_zero, List.set_cons_succ]
  refine wpAnyH_takeL (i := 13) (d := some 59) (v := .bool true) rfl rfl (by kernel_rfl) (by kernel_rfl) (by kernel_rfl) (fun _ _ _ h => h) (Or.inl ⟨by rfl, ?_⟩) hHeld ?_
  · intro w hSw; (try dsimp only at hSw); go_simp
  try simp only [Act.put, List.setIfInBounds_toArray, List.set_cons_zero, List.set_cons_succ]
  refine wpAnyH_takeL (i := 14) (d := some 60) (v := .int .i64 (e0 : Int)) rfl rfl (by kernel_rfl) (by kernel_rfl) (by kernel_rfl) (fun _ _ _ h => h) (Or.inl ⟨by rfl, ?_⟩) hHeld ?_
  · intro w hSw; (try dsimp only at hSw); go_simp
  try simp only [Act.put, List.setIfInBounds_toArray, List.set_cons_zero, List.set_cons_succ]
  refine wpAnyH_takeL (i := 15) (d := some 61) (v := .int .i64 (e0 : Int)) rfl rfl (by kernel_rfl) (by kernel_rfl) (by kernel_rfl) (fun _ _ _ h => h) (Or.inl ⟨by rfl, ?_⟩) hHeld ?_
  · intro w hSw; (try dsimp only at hSw); go_simp
  try simp only [Act.put, List.setIfInBounds_toArray, List.set_cons_zero, List.set_cons_succ]
  refine wpAnyH_takeL (i := 16) (d := some 62) (v := .bool true) rfl rfl (by kernel_rfl) (by kernel_rfl) (by kernel_rfl) (fun _ _ _ h => h) (Or.inl ⟨by rfl, ?_⟩) hHeld ?_
  · intro w hSw; (try dsimp only at hSw); go_simp
  try simp only [Act.put, List.setIfInBounds_toArray, List.set_cons_zero, List.set_cons_succ]
  refine wpAnyH_takeL (i := 17) (d := some 63) (v := .bool true) rfl rfl (by kernel_rfl) (by kernel_rfl) (by kernel_rfl) (fun _ _ _ h => h) (Or.inl ⟨by rfl, ?_⟩) hHeld ?_
  · intro w hSw; (try dsimp only at hSw); go_simp
  try simp only [Act.put, List.setIfInBounds_toArray, List.set_cons_zero, List.set_cons_succ]
  refine wpAnyH_takeL (i := 18) (d := some 64) (v := .bool true) rfl rfl (by kernel_rfl) (by kernel_rfl) (by kernel_rfl) (fun _ _ _ h => h) (Or.inl ⟨by rfl, ?_⟩) hHeld ?_
  · intro w hSw; (try dsimp only at hSw); go_simp
  try simp only [Act.put, List.setIfInBounds_toArray, List.set_cons_zero, List.set_cons_succ]
  refine wpAnyH_takeL (i := 19) (d := some 65) (v := .agg (ntA u)) rfl rfl (by kernel_rfl) (by kernel_rfl) (by kernel_rfl) (fun _ _ _ h => h) (Or.inl ⟨by rfl, ?_⟩) hHeld ?_
  · intro w hSw; exact yl_whole 33 _ g22 rfl hSw.2.1 Try.underlying33 rfl Try.zNc
  try simp only [Act.put, List.setIfInBounds_toArray, List.set_cons_zero, List.set_cons_succ]
  refine wpAnyH_takeL (i := 21) (d := some 67) (v := .agg (ntA u)) rfl rfl (by kernel_rfl) (by kernel_rfl) (by kernel_rfl) (fun _ _ _ h => h) (Or.inl ⟨by rfl, ?_⟩) hHeld ?_
  · intro w hSw; exact yl_whole 25 _ g29 rfl hSw.2.2.1 Try.underlying25 rfl Try.zNr
  try simp only [Act.put, List.setIfInBounds_toArray, List.set_cons_zero, List.set_cons_succ]
  refine wpAnyH_ready (rs := [20]) (by kernel_rfl) (by simp) ?_
  refine AllReadyH.cons rfl (fun K hK => ?_) AllReadyH.nil
  go_simp
  (with_reducible refine (ours_c u _).mono ?_)
  rintro e u48 ⟨rfl, b48⟩
  have r50_n := le_on r46_n b48
  have r50_u := le_on r46_u b48
  have r50_v := le_on r46_v b48
  have r50_x := (r46_x).on b48
  have r50_y := (r46_y).on b48
  have l50 := le_tr l46 b48
  clear r46_n r46_u r46_v r46_x r46_y l46
  clear b48
  go_wp2_with fail
  have y51 := Lib.hid (show (fun V : World => CB V g1 25 (ntA n) ∧ CB V g22 33 (ntA u) ∧ CB V g29 25 (ntA u) ∧ RR V bcl 1 A1 m q1x L ∧ RR V bcl 1 A2 m q2x L) u48 from ⟨r50_n, r50_u, r50_v, r50_x, r50_y⟩)
  refine hK.out _ _ y51.out (fun hHeld => ?_)
  clear hK K y51
  try simp only [Act.put, List.setIfInBounds_toArray, List.set_cons_zero, List.set_cons_succ]
  refine wpAnyH_takeL (i := 22) (d := some 68) (v := .bool true) rfl rfl (by kernel_rfl) (by kernel_rfl) (by kernel_rfl) (fun _ _ _ h => h) (Or.inl ⟨by rfl, ?_⟩) hHeld ?_
  · intro w hSw; have hE := E w; go_simp
  try simp only [Act.put, List.setIfInBounds_toArray, List.set_cons_zero, List.set_cons_succ]
  refine wpAnyH_takeL (i := 23) (d := some 69) (v := .bool true) rfl rfl (by kernel_rfl) (by kernel_rfl) (by kernel_rfl) (fun _ _ _ h => h) (Or.inl ⟨by rfl, ?_⟩) hHeld ?_
  · intro w hSw; (try dsimp only at hSw); go_simp
  try simp only [Act.put, List.setIfInBounds_toArray, List.set_cons_zero, List.set_cons_succ]
  refine wpAnyH_takeL (i := 24) (d := some 70) (v := .bool true) rfl rfl (by kernel_rfl) (by kernel_rfl) (by kernel_rfl) (fun _ _ _ h => h) (Or.inl ⟨by rfl, ?_⟩) hHeld ?_
  · intro w hSw; (try dsimp only at hSw); go_simp
  try simp only [Act.put, List.setIfInBounds_toArray, List.set_cons_zero, List.set_cons_succ]
  refine wpAnyH_takeL (i := 25) (d := some 71) (v := .int .i64 (e1 : Int)) rfl rfl (by kernel_rfl) (by kernel_rfl) (by kernel_rfl) (fun _ _ _ h => h) (Or.inl ⟨by rfl, ?_⟩) hHeld ?_
  · intro w hSw; (try dsimp only at hSw); go_simp
  try simp only [Act.put, List.setIfInBounds_toArray, List.set_cons_zero, List.set_cons_succ]
  refine wpAnyH_takeL (i := 26) (d := some 72) (v := .int .i64 (e1 : Int)) rfl rfl (by kernel_rfl) (by kernel_rfl) (by kernel_rfl) (fun _ _ _ h => h) (Or.inl ⟨by rfl, ?_⟩) hHeld ?_
  · intro w hSw; (try dsimp only at hSw); go_simp
  try simp only [Act.put, List.setIfInBounds_toArray, List.set_cons_zero, List.set_cons_succ]
  refine wpAnyH_takeL (i := 27) (d := some 73) (v := .bool true) rfl rfl (by kernel_rfl) (by kernel_rfl) (by kernel_rfl) (fun _ _ _ h => h) (Or.inl ⟨by rfl, ?_⟩) hHeld ?_
  · intro w hSw; (try dsimp only at hSw); go_simp
  try simp only [Act.put, List.setIfInBounds_toArray, List.set_cons_zero, List.set_cons_succ]
  refine wpAnyH_takeL (i := 28) (d := some 74) (v := .bool true) rfl rfl (by kernel_rfl) (by kernel_rfl) (by kernel_rfl) (fun _ _ _ h => h) (Or.inl ⟨by rfl, ?_⟩) hHeld ?_
  · intro w hSw; (try dsimp only at hSw); go_simp
  try simp only [Act.put, List.setIfInBounds_toArray, List.set_cons_zero, List.set_cons_succ]
  refine wpAnyH_takeL (i := 29) (d := some 4) (v := .bool true) rfl rfl (by kernel_rfl) (by kernel_rfl) (by kernel_rfl) (fun _ _ _ h => h) (Or.inl ⟨by rfl, ?_⟩) hHeld ?_
  · intro w hSw; (try dsimp only at hSw); go_simp
  try simp only [Act.put, List.setIfInBounds_toArray, List.set_cons_zero, List.set_cons_succ]
  refine wpAnyH_done (by kernel_rfl) ?_ _
  go_wp2_with fail
  go_ret
  exact ⟨rfl, l50⟩
end Go.Proofs.Ytbkfepgcnijlfaa
