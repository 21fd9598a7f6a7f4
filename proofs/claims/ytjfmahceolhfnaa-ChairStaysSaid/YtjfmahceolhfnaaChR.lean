/-
  ChairStays, the walk. Conditions: the records can be read and may be.
-/
import Derived.Test.YtjfmahceolhfnaaChR0
set_option linter.unusedVariables false
set_option linter.unusedSimpArgs false
namespace Go.Proofs.Ytjfmahceolhfnaa
open Go.RowKit Go.Maps

set_option maxRecDepth 100000 in
set_option maxHeartbeats 4000000 in
theorem stays_walk (A : Option Addr) (n c : Nat) (L : List Rd) (w : World) (h : RR w kcl 8 A n c L) (hok : OkL L) : Calls Try.prog 5 #[.slice A n c] w fun zz w' => zz = .returned (.bool true) ∧ Below w.heap.size w w' := by
  have hlen := Lib.hid h.len
  have hmx : n ≤ maxLen := Nat.le_trans h.cap h.max
  simp only [maxLen] at hmx
  go_enter Try.func5, Try.ntmps5
  go_wp2_with fail
  refine (alive_c _).mono ?_
  rintro e w1 ⟨rfl, b1⟩
  have l2 := le_tr (Below.refl _ _) b1
  clear b1
  go_wp2_with fail
  (with_reducible refine (chair_new w1).mono ?_)
  rintro e w3 ⟨b, m, rfl, q1, q2, q3, q4, q5⟩
  have st3 : ST w.heap.size w w3 b m none (fun _ => none) [] := ⟨q1, (by rintro i (rfl | rfl | e) <;> first | (exact Nat.le_trans l2.size q2) | (exact Nat.le_trans l2.size q3) | cases e), le_tr l2 q5⟩
  clear q1 q2 q3 q4
  have l4 := le_tr l2 q5
  clear l2
  clear q5
  have hmk := run_mk2 w3
  obtain ⟨V5, hV5⟩ : ∃ V, w3.alloc (.map #[] 0) = V := ⟨_, rfl⟩
  obtain ⟨m2, hm2⟩ : ∃ m2, w3.heap.size = m2 := ⟨_, rfl⟩
  have mb0 : MO w.heap.size V5 m2 (fun _ => none) := ⟨by rw [← hV5, ← hm2]; exact MG.made _, by rw [← hm2]; exact l4.size⟩
  have no2 := st3.fresh (Nat.le_of_eq hm2)
  have bl5 : Below w3.heap.size w3 V5 := by rw [← hV5]; exact le_al _ _
  rw [hm2, hV5] at hmk
  clear hm2 hV5
  go_wp2_with fail
  clear hmk
  have r5_c := st3.on bl5
  have l5 := le_tr l4 bl5
  clear st3 l4
  clear bl5
  go_loopw [5] (fun iv wr => ∃ (k : Nat) (G : Option Nat) (D : DM) (Kg : List Rd) (f : Nat → Option Int), k ≤ n ∧ k ≤ 120 ∧ iv = .int .i64 k ∧ ST w.heap.size w wr b m G D Kg ∧ MO w.heap.size wr m2 f ∧ ¬ Own b m G m2 ∧ Kg.length ≤ k ∧ Hid (InvO D f)) (fun iv _ => n - (intOf iv).toNat)
  case atStart => exact ⟨0, none, _, [], _, by omega, by omega, rfl, r5_c, mb0, no2, by simp, Lib.hid (invO_0 _)⟩
  case round =>
    clear r5_c mb0 no2 l5
    obtain ⟨k, G, D, Kg, f, hk, hk2, rfl, hst, hmb, hno, hkl, HI⟩ := hrel
    have l9 := hst.low
    by_cases hlt : k < n
    · have l1 : decide ((k : Int) < n) = true := by simp; omega
      have l1' : (k : Int) < n := by omega
      have l2 : (0 : Int) ≤ (k : Int) := by omega
      by_cases hl2 : k < 120
      · have l3 : decide ((k : Int) < 120) = true := by simp; omega
        obtain ⟨ga, ofa, x, hx, hAeq, hr⟩ := (h.on hst.low).elem hlt
        subst hAeq
        have hr : wr.rangeAt ga (ofa + k * 8) (rA x).toList := hr
        have hxw := hok.at_ hx
        have hti := hok.wf hx
        have hg := hst.cr.good
        have hdoc := Lib.hid (fun t d d' ht h1 h2 h3 h4 => do_commit (D := D) (r := x) (t := t) (d := d) (d' := d') hg hxw ht h1 h2 h3 h4)
        have hgf := Lib.hid hg.few
        have hgf2 := Lib.hid (good_do (r := x) hg hxw).few
        clear hx hg
        go_wp2_with (first | ((with_reducible refine st_elem 34 _ ga (ofa + k * 8) (rA x) ?_ hr Try.underlying34 ?_ ?_ ?_); exact rfl; exact rfl; exact Try.zRr) | ((with_reducible refine st_alloc 33 (rA zeroR) ?_ ?_); exact zero_rk))
        refine ⟨fun V101 g101 n101 f101 => ?_⟩
        have no101_c := hst.fresh (Nat.le_of_eq f101.at_)
        have up101 : w.heap.size ≤ g101 := f101.up l9
        have bl101 := f101.bel
        clear f101
        have r102_mb := (hmb).on bl101
        have r102_c := hst.on bl101
        have l102 := le_tr l9 bl101
        clear hmb hst l9
        clear bl101
        clear hr
        go_wp2_with (first | ((with_reducible refine st_store 33 _ _ g101 (rA x) ?_ ?_ n101 ?_ ?_ ?_ ?_); exact rfl; exact rfl; exact Try.zRk; exact rfl; exact rA_one _))
        refine ⟨fun V103 n103 k103 => ?_⟩
        have m103_mb := (r102_mb).wr k103 n101
        have m103_c := r102_c.wr k103 no101_c up101
        have o103 := k103.bel _ _ l102 up101
        clear k103
        clear n101 r102_mb r102_c l102
        have c104 : V103.cell? ⟨g101, 1, none⟩ = some (.int .i64 x.tx) := CB.cell n103 1
        cases hd : dOf D x.tx with
        | none =>
          have E1 := Lib.hid (show dGet D x.tx = zeroD by unfold dGet; rw [hd]; rfl)
          have E2 := Lib.hid (show (dOf D x.tx).isSome = false by rw [hd]; rfl)
          clear hd hdoc
          have DC105 := deal_c b m G D Kg x.tx _ m103_c.cr.cm hti
          rw [E1.out, E2.out] at DC105
          go_wp2_with fail
          refine (DC105).mono ?_
          rintro e w106 ⟨rfl, b106⟩
          clear c104
          have r107_r := le_on n103 b106
          have r107_mb := (m103_mb).on b106
          have r107_c := m103_c.on b106
          have l107 := le_tr o103 b106
          clear n103 m103_mb m103_c o103
          clear b106
          clear DC105
          go_wp2_with (first | ((with_reducible refine st_alloc 44 (dA zeroD) ?_ ?_); exact zero_dl))
          refine ⟨fun V108 g108 n108 f108 => ?_⟩
          have ne108_r := f108.ne r107_r
          have no108_c := r107_c.fresh (Nat.le_of_eq f108.at_)
          have up108 : w.heap.size ≤ g108 := f108.up l107
          have bl108 := f108.bel
          clear f108
          have r109_r := le_on r107_r bl108
          have r109_mb := (r107_mb).on bl108
          have r109_c := r107_c.on bl108
          have l109 := le_tr l107 bl108
          clear r107_r r107_mb r107_c l107
          clear bl108
          go_wp2_with (first | ((with_reducible refine st_store 44 _ _ g108 (dA zeroD) ?_ ?_ n108 ?_ ?_ ?_ ?_); exact rfl; exact rfl; exact Try.zDl; exact rfl; exact dA_one _))
          refine ⟨fun V110 n110 k110 => ?_⟩
          have m110_r := k110.on r109_r ne108_r
          have m110_mb := (r109_mb).wr k110 n108
          have m110_c := r109_c.wr k110 no108_c up108
          have o110 := k110.bel _ _ l109 up108
          clear k110
          clear n108 r109_r r109_mb r109_c l109
          have hmlt := m110_mb.md.lt
          have hdo111 := do_c b m G D Kg x V110 m110_c.cr hxw (by omega)
          go_wp2_with (first | (first | ((with_reducible refine st_load 33 _ g101 ?_ m110_r Try.underlying33 ?_ ?_ ?_); exact rfl; exact rfl; exact Try.zRk) | ((with_reducible refine st_loadG 33 _ g101 ?_ m110_r Try.underlying33 ?_ ?_ ?_ ?_); exact rfl; exact rfl; exact Try.zRk; exact rfl)))
          (with_reducible refine hdo111.mono ?_)
          intro e w111 hp111
          obtain ⟨rfl, G111, st111, ou111, nw111⟩ := m110_c.done hp111
          clear hp111 hdo111
          have q111_r := ou111.box m110_r no101_c
          have no111_r := nw111 _ (m110_r).lt no101_c
          have q111_be := ou111.box n110 no108_c
          have no111_be := nw111 _ (n110).lt no108_c
          have q111_mb := (m110_mb).out ou111 hno
          have l111 := st111.low
          clear ou111 m110_c m110_r no101_c n110 no108_c m110_mb o110
          have hno1 := nw111 m2 hmlt hno
          clear nw111 hno hmlt
          have HI1 := Lib.hid (invO_do HI.out x)
          have hkl1 : (lDoC D Kg x).length ≤ k + 1 := Nat.le_trans (lDoC_len D Kg x) (by omega)
          clear HI hkl
          obtain ⟨D1, hD1⟩ : ∃ D1, sDoC D x = D1 := ⟨_, rfl⟩
          obtain ⟨K1, hK1⟩ : ∃ K1, lDoC D Kg x = K1 := ⟨_, rfl⟩
          rw [hD1] at HI1 hgf2
          rw [hK1] at hkl1
          rw [hD1, hK1] at st111
          have HD1 := Lib.hid hD1
          clear hD1 hK1
          obtain ⟨d9, hd9⟩ : ∃ d, dGet D1 x.tx = d := ⟨_, rfl⟩
          obtain ⟨q9, hq9⟩ : ∃ q, (dOf D1 x.tx).isSome = q := ⟨_, rfl⟩
          have E3 := Lib.hid hd9
          have E4 := Lib.hid hq9
          clear hd9 hq9
          have c112 : w111.cell? ⟨g101, 1, none⟩ = some (.int .i64 x.tx) := CB.cell q111_r 1
          have DC113 := deal_c b m G111 D1 K1 x.tx _ st111.cr.cm hti
          rw [E3.out, E4.out] at DC113
          go_wp2_with fail
          refine (DC113).mono ?_
          rintro e w114 ⟨rfl, b114⟩
          clear c112
          have r115_r := le_on q111_r b114
          have r115_be := le_on q111_be b114
          have r115_mb := (q111_mb).on b114
          have r115_c := st111.on b114
          have l115 := le_tr l111 b114
          clear q111_r q111_be q111_mb st111 l111
          clear b114
          clear DC113
          go_wp2_with (first | ((with_reducible refine st_alloc 44 (dA zeroD) ?_ ?_); exact zero_dl))
          refine ⟨fun V116 g116 n116 f116 => ?_⟩
          have ne116_r := f116.ne r115_r
          have ne116_be := f116.ne r115_be
          have no116_c := r115_c.fresh (Nat.le_of_eq f116.at_)
          have up116 : w.heap.size ≤ g116 := f116.up l115
          have bl116 := f116.bel
          clear f116
          have r117_r := le_on r115_r bl116
          have r117_be := le_on r115_be bl116
          have r117_mb := (r115_mb).on bl116
          have r117_c := r115_c.on bl116
          have l117 := le_tr l115 bl116
          clear r115_r r115_be r115_mb r115_c l115
          clear bl116
          go_wp2_with (first | ((with_reducible refine st_store 44 _ _ g116 (dA d9) ?_ ?_ n116 ?_ ?_ ?_ ?_); exact rfl; exact rfl; exact Try.zDl; exact rfl; exact dA_one _))
          refine ⟨fun V118 n118 k118 => ?_⟩
          have m118_r := k118.on r117_r ne116_r
          have m118_be := k118.on r117_be ne116_be
          have m118_mb := (r117_mb).wr k118 n116
          have m118_c := r117_c.wr k118 no116_c up116
          have o118 := k118.bel _ _ l117 up116
          clear k118
          clear n116 r117_r r117_be r117_mb r117_c l117
          clear m118_r m118_be n118
          have hmi := m118_mb.md
          have hmhi := m118_mb.hi
          obtain ⟨Dt, hown, hRd⟩ := hmi
          have nor := m118_c.fresh (Nat.le_refl _)
          have hrl : w.heap.size ≤ V118.heap.size := o118.size
          go_wp2_with (at_range; refine wpList_range_own _ rfl _ 58 rfl 3 3 lawI Try.underlying58 _ m2 1000 _ rfl hown ?_; intro w0 hrg0 hg0 hs0; refine Stay.mk ?_)
          refine Stay.open_ ?_
          have k0 : Below V118.heap.size V118 w0 := grown_below hg0 (Nat.le_refl _) (fun g e => by cases e)
          have st0 := m118_c.on k0
          clear hg0 hs0 hown k0 m118_c m118_mb o118
          go_wp2_with fail
          go_loopw [97] (fun _ wi => ∃ (left : Lit → Bool) (cnt : Nat), wi.ranges Try.prog 3 RV m2 V118.heap.size 1000 Dt left cnt ∧ ST w.heap.size w wi b m G111 D1 K1) (fun _ wi => wi.rangeLeft m2 V118.heap.size)
          case atStart => exact ⟨_, _, hrg0, st0⟩
          case round =>
            clear hrg0 st0
            obtain ⟨left, cnt, hrg, hst⟩ := hrel
            go_wp2_with (at_next; refine wpList_next_ranges _ rfl _ rfl 3 lawI RV (Value.int .i64) (fun v : Value => v) (fun key kl hk => by obtain ⟨x, hx, _⟩ := Maps.keyOf_int_inv Try.underlying3 hk; exact ⟨x, hx⟩) (fun v y hv => ⟨v, rfl⟩) m2 V118.heap.size 1000 _ _ _ rfl hrg ?_ ?_)
            · intro hc0 hl0
              have hmb : MO w.heap.size wr m2 f := ⟨⟨Dt, hrg.owns, hRd⟩, hmhi⟩
              have l9 := hst.low
              clear hrg hl0 hc0 hRd
              go_wp2_with fail
              go_loopw [17] (fun iv wi => ∃ (j : Nat) (f : Nat → Option Int), j ≤ k + 1 ∧ iv = .int .i64 j ∧ ST w.heap.size w wi b m G111 D1 K1 ∧ MO w.heap.size wi m2 f ∧ Hid (InvO D1 f)) (fun iv _ => k + 1 - (intOf iv).toNat)
              case atStart => exact ⟨0, f, by omega, rfl, hst, hmb, HI1⟩
              case round =>
                clear hst hmb l9 HI1
                obtain ⟨j, f, hj, rfl, hst, hmb, HI⟩ := hrel
                have l9 := hst.low
                by_cases hjk : j ≤ k
                · have l4 : (j : Int) ≤ (k : Int) := by omega
                  have l5 : (0 : Int) ≤ (j : Int) := by omega
                  have l6 : (j : Int) < n := by omega
                  obtain ⟨gb, ofb, x2, hx2, hA2, hr2⟩ := (h.on hst.low).elem (show j < n by omega)
                  obtain ⟨rfl, rfl⟩ : ga = gb ∧ ofa = ofb := by cases hA2; exact ⟨rfl, rfl⟩
                  have hga : ga < w.heap.size := h.lt rfl (by omega)
                  have hti2 := hok.wf hx2
                  have rl : rangeL w.heap.size wr ga (ofa + j * 8) x2 := ⟨hr2, hga⟩
                  clear hr2 hx2 hA2
                  have htx := rl.tx
                  cases hd : dOf D1 x2.tx with
                  | none =>
                    have E1 := Lib.hid (show dGet D1 x2.tx = zeroD by unfold dGet; rw [hd]; rfl)
                    have E2 := Lib.hid (show (dOf D1 x2.tx).isSome = false by rw [hd]; rfl)
                    clear hd
                    have DC401 := deal_c b m G111 D1 K1 x2.tx _ hst.cr.cm hti2
                    rw [E1.out, E2.out] at DC401
                    go_wp2_with fail
                    refine (DC401).mono ?_
                    rintro e w402 ⟨rfl, b402⟩
                    clear htx
                    have r403_mb := (hmb).on b402
                    have r403_rl := (rl).on b402
                    have r403_c := hst.on b402
                    have l403 := le_tr l9 b402
                    clear hmb rl hst l9
                    clear b402
                    clear DC401
                    go_wp2_with (first | ((with_reducible refine st_alloc 44 (dA zeroD) ?_ ?_); exact zero_dl))
                    refine ⟨fun V404 g404 n404 f404 => ?_⟩
                    have no404_c := r403_c.fresh (Nat.le_of_eq f404.at_)
                    have up404 : w.heap.size ≤ g404 := f404.up l403
                    have bl404 := f404.bel
                    clear f404
                    have r405_mb := (r403_mb).on bl404
                    have r405_rl := (r403_rl).on bl404
                    have r405_c := r403_c.on bl404
                    have l405 := le_tr l403 bl404
                    clear r403_mb r403_rl r403_c l403
                    clear bl404
                    go_wp2_with (first | ((with_reducible refine st_store 44 _ _ g404 (dA zeroD) ?_ ?_ n404 ?_ ?_ ?_ ?_); exact rfl; exact rfl; exact Try.zDl; exact rfl; exact dA_one _))
                    refine ⟨fun V406 n406 k406 => ?_⟩
                    have m406_mb := (r405_mb).wr k406 n404
                    have m406_rl := (r405_rl).wr k406 up404
                    have m406_c := r405_c.wr k406 no404_c up404
                    have o406 := k406.bel _ _ l405 up404
                    clear k406
                    clear n404 r405_mb r405_rl r405_c l405
                    go_wp2_with fail
                    go_roundw
                    case rel => exact ⟨j + 1, _, by omega, by go_num, m406_c, m406_mb, HI⟩
                    case measure => simp [intOf]; omega
                  | some d2 =>
                    have E1 := Lib.hid (show dGet D1 x2.tx = d2 by unfold dGet; rw [hd]; rfl)
                    have E2 := Lib.hid (show (dOf D1 x2.tx).isSome = true by rw [hd]; rfl)
                    obtain ⟨t, ht, hdt, ht3⟩ := dOf_some hgf2.out hd
                    have Ht := Lib.hid ht
                    have hff := invO_few HI.out hgf2.out
                    clear ht
                    clear hd
                    have DC401 := deal_c b m G111 D1 K1 x2.tx _ hst.cr.cm hti2
                    rw [E1.out, E2.out] at DC401
                    go_wp2_with fail
                    refine (DC401).mono ?_
                    rintro e w402 ⟨rfl, b402⟩
                    clear htx
                    have r403_mb := (hmb).on b402
                    have r403_rl := (rl).on b402
                    have r403_c := hst.on b402
                    have l403 := le_tr l9 b402
                    clear hmb rl hst l9
                    clear b402
                    clear DC401
                    go_wp2_with (first | ((with_reducible refine st_alloc 44 (dA zeroD) ?_ ?_); exact zero_dl))
                    refine ⟨fun V404 g404 n404 f404 => ?_⟩
                    have no404_c := r403_c.fresh (Nat.le_of_eq f404.at_)
                    have up404 : w.heap.size ≤ g404 := f404.up l403
                    have bl404 := f404.bel
                    clear f404
                    have r405_mb := (r403_mb).on bl404
                    have r405_rl := (r403_rl).on bl404
                    have r405_c := r403_c.on bl404
                    have l405 := le_tr l403 bl404
                    clear r403_mb r403_rl r403_c l403
                    clear bl404
                    go_wp2_with (first | ((with_reducible refine st_store 44 _ _ g404 (dA d2) ?_ ?_ n404 ?_ ?_ ?_ ?_); exact rfl; exact rfl; exact Try.zDl; exact rfl; exact dA_one _))
                    refine ⟨fun V406 n406 k406 => ?_⟩
                    have m406_mb := (r405_mb).wr k406 n404
                    have m406_rl := (r405_rl).wr k406 up404
                    have m406_c := r405_c.wr k406 no404_c up404
                    have o406 := k406.bel _ _ l405 up404
                    clear k406
                    clear n404 r405_mb r405_rl r405_c l405
                    have xo : V406.cell? ⟨g404, 28, none⟩ = some (.int .i64 d2.out) := CB.cell n406 28
                    by_cases ho : d2.out = 0
                    · have qo : (d2.out != 0) = false := by simp [ho]
                      clear ho
                      go_wp2_with fail
                      go_roundw
                      case rel => exact ⟨j + 1, _, by omega, by go_num, m406_c, m406_mb, HI⟩
                      case measure => simp [intOf]; omega
                    have qo : (d2.out != 0) = true := by simp [ho]
                    have HI2 := Lib.hid (invO_upd HI.out hdt ho)
                    clear ho hdt HI
                    go_wp2_with fail
                    clear xo
                    have y407 := Lib.hid (show (fun V : World => CB V g404 44 (dA d2) ∧ rangeL w.heap.size V ga (ofa + j * 8) x2) V406.drew from ⟨CB.drew n406, (m406_rl).drew⟩)
                    refine wp_region_held_drew (S := (fun V : World => CB V g404 44 (dA d2) ∧ rangeL w.heap.size V ga (ofa + j * 8) x2)) (by kernel_rfl) y407.out (fun hHeld => ?_)
                    obtain ⟨D407, hD407⟩ : ∃ V, V406.drew = V := ⟨_, rfl⟩
                    have b407 : Below V406.heap.size V406 D407 := by rw [← hD407]; exact le_dr (Below.refl _ _)
                    rw [hD407] at hHeld ⊢
                    clear hD407
                    have r408_d1 := le_on n406 b407
                    have r408_mb := (m406_mb).on b407
                    have r408_rl := (m406_rl).on b407
                    have r408_c := m406_c.on b407
                    have l408 := le_tr o406 b407
                    clear n406 m406_mb m406_rl m406_c o406
                    clear b407
                    refine wpAnyH_takeL (i := 0) (d := some 137) (v := .map (some m2)) rfl rfl (by kernel_rfl) (by kernel_rfl) (by kernel_rfl) (fun _ _ _ h => h) (Or.inl ⟨by rfl, ?_⟩) hHeld ?_
                    · intro w hSw; (try dsimp only at hSw); go_simp
                    try simp only [Act.put, List.setIfInBounds_toArray, List.set_cons_zero, List.set_cons_succ]
                    refine wpAnyH_takeL (i := 1) (d := some 138) (v := .slice (some ⟨ga, ofa, none⟩) n c) rfl rfl (by kernel_rfl) (by kernel_rfl) (by kernel_rfl) (fun _ _ _ h => h) (Or.inl ⟨by rfl, ?_⟩) hHeld ?_
                    · intro w hSw; (try dsimp only at hSw); go_simp
                    try simp only [Act.put, List.setIfInBounds_toArray, List.set_cons_zero, List.set_cons_succ]
                    refine wpAnyH_takeL (i := 2) (d := some 139) (v := .int .i64 (j : Int)) rfl rfl (by kernel_rfl) (by kernel_rfl) (by kernel_rfl) (fun _ _ _ h => h) (Or.inl ⟨by rfl, ?_⟩) hHeld ?_
                    · intro w hSw; (try dsimp only at hSw); go_simp
                    try simp only [Act.put, List.setIfInBounds_toArray, List.set_cons_zero, List.set_cons_succ]
                    refine wpAnyH_takeL (i := 3) (d := some 140) (v := .pointer (some ⟨ga, ofa + j * 8, none⟩)) rfl rfl (by kernel_rfl) (by kernel_rfl) (by kernel_rfl) (fun _ _ _ h => h) (Or.inl ⟨by rfl, ?_⟩) hHeld ?_
                    · intro w hSw; (try dsimp only at hSw); go_simp
                    try simp only [Act.put, List.setIfInBounds_toArray, List.set_cons_zero, List.set_cons_succ]
                    refine wpAnyH_takeL (i := 4) (d := some 141) (v := .pointer (some ⟨ga, ofa + j * 8 + 1, none⟩)) rfl rfl (by kernel_rfl) (by kernel_rfl) (by kernel_rfl) (fun _ _ _ h => h) (Or.inl ⟨by rfl, ?_⟩) hHeld ?_
                    · intro w hSw; (try dsimp only at hSw); go_simp
                    try simp only [Act.put, List.setIfInBounds_toArray, List.set_cons_zero, List.set_cons_succ]
                    refine wpAnyH_takeL (i := 5) (d := some 142) (v := .int .i64 x2.tx) rfl rfl (by kernel_rfl) (by kernel_rfl) (by kernel_rfl) (fun _ _ _ h => h) (Or.inl ⟨by rfl, ?_⟩) hHeld ?_
                    · intro w hSw; (have hcc := hSw.2.tx; go_simp)
                    try simp only [Act.put, List.setIfInBounds_toArray, List.set_cons_zero, List.set_cons_succ]
                    refine wpAnyH_takeL (i := 6) (d := some 143) (v := .pointer (some ⟨g404, 28, none⟩)) rfl rfl (by kernel_rfl) (by kernel_rfl) (by kernel_rfl) (fun _ _ _ h => h) (Or.inl ⟨by rfl, ?_⟩) hHeld ?_
                    · intro w hSw; (try dsimp only at hSw); go_simp
                    try simp only [Act.put, List.setIfInBounds_toArray, List.set_cons_zero, List.set_cons_succ]
                    refine wpAnyH_takeL (i := 7) (d := some 144) (v := .int .i64 d2.out) rfl rfl (by kernel_rfl) (by kernel_rfl) (by kernel_rfl) (fun _ _ _ h => h) (Or.inl ⟨by rfl, ?_⟩) hHeld ?_
                    · intro w hSw; (try dsimp only at hSw); have hcc : w.cell? ⟨g404, 28, none⟩ = some (.int .i64 d2.out) := CB.cell hSw.1 28; go_simp
                    try simp only [Act.put, List.setIfInBounds_toArray, List.set_cons_zero, List.set_cons_succ]
                    refine wpAnyH_ready (rs := [8]) (by kernel_rfl) (by simp) ?_
                    refine AllReadyH.cons rfl (fun K hK => ?_) AllReadyH.nil
                    obtain ⟨V7, q1, q2, q3⟩ := r408_mb.md.store hff ht3 d2.out
                    have Q3 := Mt.of q3
                    clear q3
                    rw [← Ht.out] at q1
                    refine rd_mapu rfl 58 _ _ _ rfl none rfl q1 ?_
                    refine ⟨?_⟩
                    clear q1
                    have mb7 : MO w.heap.size V7 m2 _ := ⟨q2, r408_mb.hi⟩
                    have st7 := r408_c.mt Q3 hno1 r408_mb.hi
                    have d7 := Q3.onG r408_d1 r408_mb.md
                    have rl7 := r408_rl.mt Q3 r408_mb.hi
                    have l7 := st7.low
                    clear Q3 q2 r408_mb r408_c r408_d1 r408_rl l408
                    have y409 := Lib.hid (show (fun V : World => CB V g404 44 (dA d2) ∧ rangeL w.heap.size V ga (ofa + j * 8) x2) V7 from ⟨d7, rl7⟩)
                    refine hK.out _ _ y409.out (fun hHeld => ?_)
                    clear hK K y409
                    try simp only [Act.put, List.setIfInBounds_toArray, List.set_cons_zero, List.set_cons_succ]
                    refine wpAnyH_done (by kernel_rfl) ?_ _
                    go_wp2_with fail
                    go_roundw
                    case rel => exact ⟨j + 1, _, by omega, by go_num, st7, mb7, HI2⟩
                    case measure => simp [intOf]; omega
                obtain rfl : j = k + 1 := by omega
                have l4 : ¬ (((k + 1 : Nat) : Int) ≤ (k : Int)) := by omega
                have l4' : decide (((k + 1 : Nat) : Int) ≤ (k : Int)) = false := by simp; omega
                have l4'' : decide ((k : Int) + 1 ≤ (k : Int)) = false := by simp; omega
                go_wp2_with fail
                go_roundw
                case rel => exact ⟨k + 1, _, _, _, f, by omega, by omega, by go_num, hst, hmb, hno1, hkl1, HI⟩
                case measure => simp [intOf]; omega
            · intro x9 c9 kl yd yp w2 cnt2 hkey hlk hv hat hrg2 hlt3 hg2 hs2 hen
              obtain ⟨x', ex, rfl, hwx⟩ := Maps.keyOf_int_inv Try.underlying3 hkey
              obtain rfl : x9 = x' := by cases ex; rfl
              obtain ⟨t, o, rfl, hfo, rfl⟩ := readsI_at hRd hat hv
              obtain ⟨d, hd, hdo, hdn⟩ := HI1.out t o hfo
              have Hle := Lib.hid hrg.left_eq
              have Hlt := Lib.hid hlt3
              have hst2 := hst.turn hg2 nor hrl
              have hti9 : (Lit.int .i64 (t : Int)).wf = true := hwx
              have E1 := Lib.hid (show dGet D1 (t : Int) = d by unfold dGet; rw [dOf_nat, hd]; rfl)
              have E2 := Lib.hid (show (dOf D1 (t : Int)).isSome = true by rw [dOf_nat, hd]; rfl)
              have l9 := hst2.low
              clear hst hrg hg2 hs2 hkey hlk hv hat ex hwx hd hlt3 hfo
              have DC601 := deal_c b m G111 D1 K1 (t : Int) _ hst2.cr.cm hti9
              rw [E1.out, E2.out] at DC601
              go_wp2_with fail
              refine (DC601).mono ?_
              rintro e w602 ⟨rfl, b602⟩
              clear hen
              have rg603 := rg_on hrg2 b602
              have r604_c := hst2.on b602
              have l604 := le_tr l9 b602
              clear hst2 l9
              clear hrg2
              clear b602
              clear DC601
              go_wp2_with (first | ((with_reducible refine st_alloc 44 (dA zeroD) ?_ ?_); exact zero_dl))
              refine ⟨fun V605 g605 n605 f605 => ?_⟩
              have no605_c := r604_c.fresh (Nat.le_of_eq f605.at_)
              have up605 : w.heap.size ≤ g605 := f605.up l604
              have bl605 := f605.bel
              clear f605
              have rg606 := rg_on rg603 bl605
              have r607_c := r604_c.on bl605
              have l607 := le_tr l604 bl605
              clear r604_c l604
              clear rg603
              clear bl605
              go_wp2_with (first | ((with_reducible refine st_store 44 _ _ g605 (dA d) ?_ ?_ n605 ?_ ?_ ?_ ?_); exact rfl; exact rfl; exact Try.zDl; exact rfl; exact dA_one _))
              refine ⟨fun V608 n608 k608 => ?_⟩
              have m608_rg := rg_wr rg606 k608 n605
              have m608_c := r607_c.wr k608 no605_c up605
              have o608 := k608.bel _ _ l607 up605
              clear k608
              clear n605 rg606 r607_c l607
              have xo : V608.cell? ⟨g605, 28, none⟩ = some (.int .i64 d.out) := CB.cell n608 28
              rw [hdo] at xo
              have qo : (o != o) = false := by simp
              go_wp2_with fail
              go_roundw
              case rel => exact ⟨_, cnt2, m608_rg, m608_c⟩
              case measure => rw [(m608_rg).left_eq, Hle.out]; exact Hlt.out
        | some d =>
          have E1 := Lib.hid (show dGet D x.tx = d by unfold dGet; rw [hd]; rfl)
          have E2 := Lib.hid (show (dOf D x.tx).isSome = true by rw [hd]; rfl)
          obtain ⟨t, ht, hdt, ht3⟩ := dOf_some hgf.out hd
          have Ht := Lib.hid ht
          clear hd ht
          have DC105 := deal_c b m G D Kg x.tx _ m103_c.cr.cm hti
          rw [E1.out, E2.out] at DC105
          go_wp2_with fail
          refine (DC105).mono ?_
          rintro e w106 ⟨rfl, b106⟩
          clear c104
          have r107_r := le_on n103 b106
          have r107_mb := (m103_mb).on b106
          have r107_c := m103_c.on b106
          have l107 := le_tr o103 b106
          clear n103 m103_mb m103_c o103
          clear b106
          clear DC105
          go_wp2_with (first | ((with_reducible refine st_alloc 44 (dA zeroD) ?_ ?_); exact zero_dl))
          refine ⟨fun V108 g108 n108 f108 => ?_⟩
          have ne108_r := f108.ne r107_r
          have no108_c := r107_c.fresh (Nat.le_of_eq f108.at_)
          have up108 : w.heap.size ≤ g108 := f108.up l107
          have bl108 := f108.bel
          clear f108
          have r109_r := le_on r107_r bl108
          have r109_mb := (r107_mb).on bl108
          have r109_c := r107_c.on bl108
          have l109 := le_tr l107 bl108
          clear r107_r r107_mb r107_c l107
          clear bl108
          go_wp2_with (first | ((with_reducible refine st_store 44 _ _ g108 (dA d) ?_ ?_ n108 ?_ ?_ ?_ ?_); exact rfl; exact rfl; exact Try.zDl; exact rfl; exact dA_one _))
          refine ⟨fun V110 n110 k110 => ?_⟩
          have m110_r := k110.on r109_r ne108_r
          have m110_mb := (r109_mb).wr k110 n108
          have m110_c := r109_c.wr k110 no108_c up108
          have o110 := k110.bel _ _ l109 up108
          clear k110
          clear n108 r109_r r109_mb r109_c l109
          have hmlt := m110_mb.md.lt
          have hdo111 := do_c b m G D Kg x V110 m110_c.cr hxw (by omega)
          go_wp2_with (first | (first | ((with_reducible refine st_load 33 _ g101 ?_ m110_r Try.underlying33 ?_ ?_ ?_); exact rfl; exact rfl; exact Try.zRk) | ((with_reducible refine st_loadG 33 _ g101 ?_ m110_r Try.underlying33 ?_ ?_ ?_ ?_); exact rfl; exact rfl; exact Try.zRk; exact rfl)))
          (with_reducible refine hdo111.mono ?_)
          intro e w111 hp111
          obtain ⟨rfl, G111, st111, ou111, nw111⟩ := m110_c.done hp111
          clear hp111 hdo111
          have q111_r := ou111.box m110_r no101_c
          have no111_r := nw111 _ (m110_r).lt no101_c
          have q111_be := ou111.box n110 no108_c
          have no111_be := nw111 _ (n110).lt no108_c
          have q111_mb := (m110_mb).out ou111 hno
          have l111 := st111.low
          clear ou111 m110_c m110_r no101_c n110 no108_c m110_mb o110
          have hno1 := nw111 m2 hmlt hno
          clear nw111 hno hmlt
          have HI1 := Lib.hid (invO_do HI.out x)
          have hkl1 : (lDoC D Kg x).length ≤ k + 1 := Nat.le_trans (lDoC_len D Kg x) (by omega)
          clear HI hkl
          obtain ⟨D1, hD1⟩ : ∃ D1, sDoC D x = D1 := ⟨_, rfl⟩
          obtain ⟨K1, hK1⟩ : ∃ K1, lDoC D Kg x = K1 := ⟨_, rfl⟩
          rw [hD1] at HI1 hgf2
          rw [hK1] at hkl1
          rw [hD1, hK1] at st111
          have HD1 := Lib.hid hD1
          clear hD1 hK1
          have hsome : ∃ d', D1 t = some d' := by
            have := do_has (D := D) (r := x) (t := t) (by rw [hdt]; rfl)
            rw [HD1.out] at this
            cases h9 : D1 t with
            | none => rw [h9] at this; cases this
            | some d' => exact ⟨d', rfl⟩
          obtain ⟨d9, h9⟩ := hsome
          have E3 := Lib.hid (show dGet D1 x.tx = d9 by unfold dGet; rw [Ht.out, dOf_nat, h9]; rfl)
          have E4 := Lib.hid (show (dOf D1 x.tx).isSome = true by rw [Ht.out, dOf_nat, h9]; rfl)
          have c112 : w111.cell? ⟨g101, 1, none⟩ = some (.int .i64 x.tx) := CB.cell q111_r 1
          have DC113 := deal_c b m G111 D1 K1 x.tx _ st111.cr.cm hti
          rw [E3.out, E4.out] at DC113
          go_wp2_with fail
          refine (DC113).mono ?_
          rintro e w114 ⟨rfl, b114⟩
          clear c112
          have r115_r := le_on q111_r b114
          have r115_be := le_on q111_be b114
          have r115_mb := (q111_mb).on b114
          have r115_c := st111.on b114
          have l115 := le_tr l111 b114
          clear q111_r q111_be q111_mb st111 l111
          clear b114
          clear DC113
          go_wp2_with (first | ((with_reducible refine st_alloc 44 (dA zeroD) ?_ ?_); exact zero_dl))
          refine ⟨fun V116 g116 n116 f116 => ?_⟩
          have ne116_r := f116.ne r115_r
          have ne116_be := f116.ne r115_be
          have no116_c := r115_c.fresh (Nat.le_of_eq f116.at_)
          have up116 : w.heap.size ≤ g116 := f116.up l115
          have bl116 := f116.bel
          clear f116
          have r117_r := le_on r115_r bl116
          have r117_be := le_on r115_be bl116
          have r117_mb := (r115_mb).on bl116
          have r117_c := r115_c.on bl116
          have l117 := le_tr l115 bl116
          clear r115_r r115_be r115_mb r115_c l115
          clear bl116
          go_wp2_with (first | ((with_reducible refine st_store 44 _ _ g116 (dA d9) ?_ ?_ n116 ?_ ?_ ?_ ?_); exact rfl; exact rfl; exact Try.zDl; exact rfl; exact dA_one _))
          refine ⟨fun V118 n118 k118 => ?_⟩
          have m118_r := k118.on r117_r ne116_r
          have m118_be := k118.on r117_be ne116_be
          have m118_mb := (r117_mb).wr k118 n116
          have m118_c := r117_c.wr k118 no116_c up116
          have o118 := k118.bel _ _ l117 up116
          clear k118
          clear n116 r117_r r117_be r117_mb r117_c l117
          by_cases ho : d.out = 0
          · have qo : (d.out == 0) = true := by simp [ho]
            have xb : V118.cell? ⟨g108, 28, none⟩ = some (.int .i64 d.out) := CB.cell m118_be 28
            have xa : V118.cell? ⟨g116, 28, none⟩ = some (.int .i64 d9.out) := CB.cell n118 28
            by_cases h1 : d9.out = 1
            · have q1 : (d9.out == 1) = true := by simp [h1]
              obtain ⟨e1, e2, e3⟩ := hdoc.out t d d9 Ht.out hdt ho (by rw [HD1.out]; exact h9) h1
              have HA := Lib.hid e3
              have q2 : (x.kind != 2) = false := by simp [e1]
              have O1 := fun W => over_m d.tm x.now W
              rw [e2] at O1
              clear e1 e2 e3 h1 ho hdoc hdt h9
              go_wp2_with (first | ((with_reducible refine st_part 37 _ g116 0 ?_ (pt := bA d9.ty.wh) n118 ?_ Try.underlying37 ?_ ?_ ?_); exact rfl; exact dA_pwh _; exact rfl; exact Try.zB8))
              clear xb xa
              go_loopw [71] (fun iv wi => ∃ j : Nat, j ≤ 8 ∧ iv = .int .i64 j ∧ CB wi g101 33 (rA x) ∧ CB wi g108 44 (dA d) ∧ CB wi g116 44 (dA d9) ∧ ST w.heap.size w wi b m G111 D1 K1 ∧ MO w.heap.size wi m2 f) (fun iv _ => 8 - (intOf iv).toNat)
              case atStart => exact ⟨0, by omega, rfl, m118_r, m118_be, n118, m118_c, m118_mb⟩
              case round =>
                clear m118_r m118_be n118 m118_c m118_mb o118
                obtain ⟨j, hj, rfl, hbr, hbb, hba, hst, hmb⟩ := hrel
                have l9 := hst.low
                by_cases hj8 : j < 8
                · have l4 : (j : Int) < 8 := by omega
                  have l5 : (0 : Int) ≤ (j : Int) := by omega
                  have hix := fun V => idx_b d9.ty.wh hj8 V
                  have cv : wr.cell? ⟨g116, 8 + j, none⟩ = some (.int .i64 (d9.ty.vt j)) := (CB.cell hba (8 + j)).trans (dA_vt d9 hj8)
                  cases hwj : d9.ty.wh j with
                  | false =>
                    rw [hwj] at hix
                    clear hwj
                    go_wp2_with fail
                    go_roundw
                    case rel => exact ⟨j + 1, by omega, by go_num, hbr, hbb, hba, hst, hmb⟩
                    case measure => simp [intOf]; omega
                  | true =>
                    rw [hwj] at hix
                    have hv1 : d9.ty.vt j = 1 := HA.out j hj8 hwj
                    rw [hv1] at cv
                    clear hv1
                    clear hwj
                    go_wp2_with fail
                    go_roundw
                    case rel => exact ⟨j + 1, by omega, by go_num, hbr, hbb, hba, hst, hmb⟩
                    case measure => simp [intOf]; omega
                obtain rfl : j = 8 := by omega
                clear HA
                have c301 : wr.cell? ⟨g101, 5, none⟩ = some (.int .i64 x.now) := CB.cell hbr 5
                have c302 : wr.cell? ⟨g101, 0, none⟩ = some (.int .i64 x.kind) := CB.cell hbr 0
                go_wp2_with (first | (first | ((with_reducible refine st_part 42 _ g108 24 ?_ (pt := mA d.tm) hbb ?_ Try.underlying42 ?_ ?_ ?_); exact rfl; exact dA_ptm _; exact rfl; exact Try.zTm) | ((with_reducible refine st_partG 42 _ g108 24 ?_ (pt := mA d.tm) hbb ?_ Try.underlying42 ?_ ?_ ?_ ?_); exact rfl; exact dA_ptm _; exact rfl; exact Try.zTm; exact rfl)))
                refine (O1 _).mono ?_
                rintro e w303 ⟨rfl, b303⟩
                clear c301 c302
                have r304_r := le_on hbr b303
                have r304_be := le_on hbb b303
                have r304_af := le_on hba b303
                have r304_mb := (hmb).on b303
                have r304_c := hst.on b303
                have l304 := le_tr l9 b303
                clear hbr hbb hba hmb hst l9
                clear b303
                have c305 : w303.cell? ⟨g101, 0, none⟩ = some (.int .i64 x.kind) := CB.cell r304_r 0
                clear r304_r r304_be r304_af
                have hmi := r304_mb.md
                have hmhi := r304_mb.hi
                obtain ⟨Dt, hown, hRd⟩ := hmi
                have nor := r304_c.fresh (Nat.le_refl _)
                have hrl : w.heap.size ≤ w303.heap.size := l304.size
                go_wp2_with (at_range; refine wpList_range_own _ rfl _ 58 rfl 3 3 lawI Try.underlying58 _ m2 1000 _ rfl hown ?_; intro w0 hrg0 hg0 hs0; refine Stay.mk ?_)
                refine Stay.open_ ?_
                have k0 : Below w303.heap.size w303 w0 := grown_below hg0 (Nat.le_refl _) (fun g e => by cases e)
                have st0 := r304_c.on k0
                clear hg0 hs0 hown k0 r304_c r304_mb l304
                clear c305
                go_wp2_with fail
                go_loopw [97] (fun _ wi => ∃ (left : Lit → Bool) (cnt : Nat), wi.ranges Try.prog 3 RV m2 w303.heap.size 1000 Dt left cnt ∧ ST w.heap.size w wi b m G111 D1 K1) (fun _ wi => wi.rangeLeft m2 w303.heap.size)
                case atStart => exact ⟨_, _, hrg0, st0⟩
                case round =>
                  clear hrg0 st0
                  obtain ⟨left, cnt, hrg, hst⟩ := hrel
                  go_wp2_with (at_next; refine wpList_next_ranges _ rfl _ rfl 3 lawI RV (Value.int .i64) (fun v : Value => v) (fun key kl hk => by obtain ⟨x, hx, _⟩ := Maps.keyOf_int_inv Try.underlying3 hk; exact ⟨x, hx⟩) (fun v y hv => ⟨v, rfl⟩) m2 w303.heap.size 1000 _ _ _ rfl hrg ?_ ?_)
                  · intro hc0 hl0
                    have hmb : MO w.heap.size wr m2 f := ⟨⟨Dt, hrg.owns, hRd⟩, hmhi⟩
                    have l9 := hst.low
                    clear hrg hl0 hc0 hRd
                    go_wp2_with fail
                    go_loopw [17] (fun iv wi => ∃ (j : Nat) (f : Nat → Option Int), j ≤ k + 1 ∧ iv = .int .i64 j ∧ ST w.heap.size w wi b m G111 D1 K1 ∧ MO w.heap.size wi m2 f ∧ Hid (InvO D1 f)) (fun iv _ => k + 1 - (intOf iv).toNat)
                    case atStart => exact ⟨0, f, by omega, rfl, hst, hmb, HI1⟩
                    case round =>
                      clear hst hmb l9 HI1
                      obtain ⟨j, f, hj, rfl, hst, hmb, HI⟩ := hrel
                      have l9 := hst.low
                      by_cases hjk : j ≤ k
                      · have l4 : (j : Int) ≤ (k : Int) := by omega
                        have l5 : (0 : Int) ≤ (j : Int) := by omega
                        have l6 : (j : Int) < n := by omega
                        obtain ⟨gb, ofb, x2, hx2, hA2, hr2⟩ := (h.on hst.low).elem (show j < n by omega)
                        obtain ⟨rfl, rfl⟩ : ga = gb ∧ ofa = ofb := by cases hA2; exact ⟨rfl, rfl⟩
                        have hga : ga < w.heap.size := h.lt rfl (by omega)
                        have hti2 := hok.wf hx2
                        have rl : rangeL w.heap.size wr ga (ofa + j * 8) x2 := ⟨hr2, hga⟩
                        clear hr2 hx2 hA2
                        have htx := rl.tx
                        cases hd : dOf D1 x2.tx with
                        | none =>
                          have E1 := Lib.hid (show dGet D1 x2.tx = zeroD by unfold dGet; rw [hd]; rfl)
                          have E2 := Lib.hid (show (dOf D1 x2.tx).isSome = false by rw [hd]; rfl)
                          clear hd
                          have DC401 := deal_c b m G111 D1 K1 x2.tx _ hst.cr.cm hti2
                          rw [E1.out, E2.out] at DC401
                          go_wp2_with fail
                          refine (DC401).mono ?_
                          rintro e w402 ⟨rfl, b402⟩
                          clear htx
                          have r403_mb := (hmb).on b402
                          have r403_rl := (rl).on b402
                          have r403_c := hst.on b402
                          have l403 := le_tr l9 b402
                          clear hmb rl hst l9
                          clear b402
                          clear DC401
                          go_wp2_with (first | ((with_reducible refine st_alloc 44 (dA zeroD) ?_ ?_); exact zero_dl))
                          refine ⟨fun V404 g404 n404 f404 => ?_⟩
                          have no404_c := r403_c.fresh (Nat.le_of_eq f404.at_)
                          have up404 : w.heap.size ≤ g404 := f404.up l403
                          have bl404 := f404.bel
                          clear f404
                          have r405_mb := (r403_mb).on bl404
                          have r405_rl := (r403_rl).on bl404
                          have r405_c := r403_c.on bl404
                          have l405 := le_tr l403 bl404
                          clear r403_mb r403_rl r403_c l403
                          clear bl404
                          go_wp2_with (first | ((with_reducible refine st_store 44 _ _ g404 (dA zeroD) ?_ ?_ n404 ?_ ?_ ?_ ?_); exact rfl; exact rfl; exact Try.zDl; exact rfl; exact dA_one _))
                          refine ⟨fun V406 n406 k406 => ?_⟩
                          have m406_mb := (r405_mb).wr k406 n404
                          have m406_rl := (r405_rl).wr k406 up404
                          have m406_c := r405_c.wr k406 no404_c up404
                          have o406 := k406.bel _ _ l405 up404
                          clear k406
                          clear n404 r405_mb r405_rl r405_c l405
                          go_wp2_with fail
                          go_roundw
                          case rel => exact ⟨j + 1, _, by omega, by go_num, m406_c, m406_mb, HI⟩
                          case measure => simp [intOf]; omega
                        | some d2 =>
                          have E1 := Lib.hid (show dGet D1 x2.tx = d2 by unfold dGet; rw [hd]; rfl)
                          have E2 := Lib.hid (show (dOf D1 x2.tx).isSome = true by rw [hd]; rfl)
                          obtain ⟨t, ht, hdt, ht3⟩ := dOf_some hgf2.out hd
                          have Ht := Lib.hid ht
                          have hff := invO_few HI.out hgf2.out
                          clear ht
                          clear hd
                          have DC401 := deal_c b m G111 D1 K1 x2.tx _ hst.cr.cm hti2
                          rw [E1.out, E2.out] at DC401
                          go_wp2_with fail
                          refine (DC401).mono ?_
                          rintro e w402 ⟨rfl, b402⟩
                          clear htx
                          have r403_mb := (hmb).on b402
                          have r403_rl := (rl).on b402
                          have r403_c := hst.on b402
                          have l403 := le_tr l9 b402
                          clear hmb rl hst l9
                          clear b402
                          clear DC401
                          go_wp2_with (first | ((with_reducible refine st_alloc 44 (dA zeroD) ?_ ?_); exact zero_dl))
                          refine ⟨fun V404 g404 n404 f404 => ?_⟩
                          have no404_c := r403_c.fresh (Nat.le_of_eq f404.at_)
                          have up404 : w.heap.size ≤ g404 := f404.up l403
                          have bl404 := f404.bel
                          clear f404
                          have r405_mb := (r403_mb).on bl404
                          have r405_rl := (r403_rl).on bl404
                          have r405_c := r403_c.on bl404
                          have l405 := le_tr l403 bl404
                          clear r403_mb r403_rl r403_c l403
                          clear bl404
                          go_wp2_with (first | ((with_reducible refine st_store 44 _ _ g404 (dA d2) ?_ ?_ n404 ?_ ?_ ?_ ?_); exact rfl; exact rfl; exact Try.zDl; exact rfl; exact dA_one _))
                          refine ⟨fun V406 n406 k406 => ?_⟩
                          have m406_mb := (r405_mb).wr k406 n404
                          have m406_rl := (r405_rl).wr k406 up404
                          have m406_c := r405_c.wr k406 no404_c up404
                          have o406 := k406.bel _ _ l405 up404
                          clear k406
                          clear n404 r405_mb r405_rl r405_c l405
                          have xo : V406.cell? ⟨g404, 28, none⟩ = some (.int .i64 d2.out) := CB.cell n406 28
                          by_cases ho : d2.out = 0
                          · have qo : (d2.out != 0) = false := by simp [ho]
                            clear ho
                            go_wp2_with fail
                            go_roundw
                            case rel => exact ⟨j + 1, _, by omega, by go_num, m406_c, m406_mb, HI⟩
                            case measure => simp [intOf]; omega
                          have qo : (d2.out != 0) = true := by simp [ho]
                          have HI2 := Lib.hid (invO_upd HI.out hdt ho)
                          clear ho hdt HI
                          go_wp2_with fail
                          clear xo
                          have y407 := Lib.hid (show (fun V : World => CB V g404 44 (dA d2) ∧ rangeL w.heap.size V ga (ofa + j * 8) x2) V406.drew from ⟨CB.drew n406, (m406_rl).drew⟩)
                          refine wp_region_held_drew (S := (fun V : World => CB V g404 44 (dA d2) ∧ rangeL w.heap.size V ga (ofa + j * 8) x2)) (by kernel_rfl) y407.out (fun hHeld => ?_)
                          obtain ⟨D407, hD407⟩ : ∃ V, V406.drew = V := ⟨_, rfl⟩
                          have b407 : Below V406.heap.size V406 D407 := by rw [← hD407]; exact le_dr (Below.refl _ _)
                          rw [hD407] at hHeld ⊢
                          clear hD407
                          have r408_d1 := le_on n406 b407
                          have r408_mb := (m406_mb).on b407
                          have r408_rl := (m406_rl).on b407
                          have r408_c := m406_c.on b407
                          have l408 := le_tr o406 b407
                          clear n406 m406_mb m406_rl m406_c o406
                          clear b407
                          refine wpAnyH_takeL (i := 0) (d := some 137) (v := .map (some m2)) rfl rfl (by kernel_rfl) (by kernel_rfl) (by kernel_rfl) (fun _ _ _ h => h) (Or.inl ⟨by rfl, ?_⟩) hHeld ?_
                          · intro w hSw; (try dsimp only at hSw); go_simp
                          try simp only [Act.put, List.setIfInBounds_toArray, List.set_cons_zero, List.set_cons_succ]
                          refine wpAnyH_takeL (i := 1) (d := some 138) (v := .slice (some ⟨ga, ofa, none⟩) n c) rfl rfl (by kernel_rfl) (by kernel_rfl) (by kernel_rfl) (fun _ _ _ h => h) (Or.inl ⟨by rfl, ?_⟩) hHeld ?_
                          · intro w hSw; (try dsimp only at hSw); go_simp
                          try simp only [Act.put, List.setIfInBounds_toArray, List.set_cons_zero, List.set_cons_succ]
                          refine wpAnyH_takeL (i := 2) (d := some 139) (v := .int .i64 (j : Int)) rfl rfl (by kernel_rfl) (by kernel_rfl) (by kernel_rfl) (fun _ _ _ h => h) (Or.inl ⟨by rfl, ?_⟩) hHeld ?_
                          · intro w hSw; (try dsimp only at hSw); go_simp
                          try simp only [Act.put, List.setIfInBounds_toArray, List.set_cons_zero, List.set_cons_succ]
                          refine wpAnyH_takeL (i := 3) (d := some 140) (v := .pointer (some ⟨ga, ofa + j * 8, none⟩)) rfl rfl (by kernel_rfl) (by kernel_rfl) (by kernel_rfl) (fun _ _ _ h => h) (Or.inl ⟨by rfl, ?_⟩) hHeld ?_
                          · intro w hSw; (try dsimp only at hSw); go_simp
                          try simp only [Act.put, List.setIfInBounds_toArray, List.set_cons_zero, List.set_cons_succ]
                          refine wpAnyH_takeL (i := 4) (d := some 141) (v := .pointer (some ⟨ga, ofa + j * 8 + 1, none⟩)) rfl rfl (by kernel_rfl) (by kernel_rfl) (by kernel_rfl) (fun _ _ _ h => h) (Or.inl ⟨by rfl, ?_⟩) hHeld ?_
                          · intro w hSw; (try dsimp only at hSw); go_simp
                          try simp only [Act.put, List.setIfInBounds_toArray, List.set_cons_zero, List.set_cons_succ]
                          refine wpAnyH_takeL (i := 5) (d := some 142) (v := .int .i64 x2.tx) rfl rfl (by kernel_rfl) (by kernel_rfl) (by kernel_rfl) (fun _ _ _ h => h) (Or.inl ⟨by rfl, ?_⟩) hHeld ?_
                          · intro w hSw; (have hcc := hSw.2.tx; go_simp)
                          try simp only [Act.put, List.setIfInBounds_toArray, List.set_cons_zero, List.set_cons_succ]
                          refine wpAnyH_takeL (i := 6) (d := some 143) (v := .pointer (some ⟨g404, 28, none⟩)) rfl rfl (by kernel_rfl) (by kernel_rfl) (by kernel_rfl) (fun _ _ _ h => h) (Or.inl ⟨by rfl, ?_⟩) hHeld ?_
                          · intro w hSw; (try dsimp only at hSw); go_simp
                          try simp only [Act.put, List.setIfInBounds_toArray, List.set_cons_zero, List.set_cons_succ]
                          refine wpAnyH_takeL (i := 7) (d := some 144) (v := .int .i64 d2.out) rfl rfl (by kernel_rfl) (by kernel_rfl) (by kernel_rfl) (fun _ _ _ h => h) (Or.inl ⟨by rfl, ?_⟩) hHeld ?_
                          · intro w hSw; (try dsimp only at hSw); have hcc : w.cell? ⟨g404, 28, none⟩ = some (.int .i64 d2.out) := CB.cell hSw.1 28; go_simp
                          try simp only [Act.put, List.setIfInBounds_toArray, List.set_cons_zero, List.set_cons_succ]
                          refine wpAnyH_ready (rs := [8]) (by kernel_rfl) (by simp) ?_
                          refine AllReadyH.cons rfl (fun K hK => ?_) AllReadyH.nil
                          obtain ⟨V7, q1, q2, q3⟩ := r408_mb.md.store hff ht3 d2.out
                          have Q3 := Mt.of q3
                          clear q3
                          rw [← Ht.out] at q1
                          refine rd_mapu rfl 58 _ _ _ rfl none rfl q1 ?_
                          refine ⟨?_⟩
                          clear q1
                          have mb7 : MO w.heap.size V7 m2 _ := ⟨q2, r408_mb.hi⟩
                          have st7 := r408_c.mt Q3 hno1 r408_mb.hi
                          have d7 := Q3.onG r408_d1 r408_mb.md
                          have rl7 := r408_rl.mt Q3 r408_mb.hi
                          have l7 := st7.low
                          clear Q3 q2 r408_mb r408_c r408_d1 r408_rl l408
                          have y409 := Lib.hid (show (fun V : World => CB V g404 44 (dA d2) ∧ rangeL w.heap.size V ga (ofa + j * 8) x2) V7 from ⟨d7, rl7⟩)
                          refine hK.out _ _ y409.out (fun hHeld => ?_)
                          clear hK K y409
                          try simp only [Act.put, List.setIfInBounds_toArray, List.set_cons_zero, List.set_cons_succ]
                          refine wpAnyH_done (by kernel_rfl) ?_ _
                          go_wp2_with fail
                          go_roundw
                          case rel => exact ⟨j + 1, _, by omega, by go_num, st7, mb7, HI2⟩
                          case measure => simp [intOf]; omega
                      obtain rfl : j = k + 1 := by omega
                      have l4 : ¬ (((k + 1 : Nat) : Int) ≤ (k : Int)) := by omega
                      have l4' : decide (((k + 1 : Nat) : Int) ≤ (k : Int)) = false := by simp; omega
                      have l4'' : decide ((k : Int) + 1 ≤ (k : Int)) = false := by simp; omega
                      go_wp2_with fail
                      go_roundw
                      case rel => exact ⟨k + 1, _, _, _, f, by omega, by omega, by go_num, hst, hmb, hno1, hkl1, HI⟩
                      case measure => simp [intOf]; omega
                  · intro x9 c9 kl yd yp w2 cnt2 hkey hlk hv hat hrg2 hlt3 hg2 hs2 hen
                    obtain ⟨x', ex, rfl, hwx⟩ := Maps.keyOf_int_inv Try.underlying3 hkey
                    obtain rfl : x9 = x' := by cases ex; rfl
                    obtain ⟨t, o, rfl, hfo, rfl⟩ := readsI_at hRd hat hv
                    obtain ⟨d, hd, hdo, hdn⟩ := HI1.out t o hfo
                    have Hle := Lib.hid hrg.left_eq
                    have Hlt := Lib.hid hlt3
                    have hst2 := hst.turn hg2 nor hrl
                    have hti9 : (Lit.int .i64 (t : Int)).wf = true := hwx
                    have E1 := Lib.hid (show dGet D1 (t : Int) = d by unfold dGet; rw [dOf_nat, hd]; rfl)
                    have E2 := Lib.hid (show (dOf D1 (t : Int)).isSome = true by rw [dOf_nat, hd]; rfl)
                    have l9 := hst2.low
                    clear hst hrg hg2 hs2 hkey hlk hv hat ex hwx hd hlt3 hfo
                    have DC601 := deal_c b m G111 D1 K1 (t : Int) _ hst2.cr.cm hti9
                    rw [E1.out, E2.out] at DC601
                    go_wp2_with fail
                    refine (DC601).mono ?_
                    rintro e w602 ⟨rfl, b602⟩
                    clear hen
                    have rg603 := rg_on hrg2 b602
                    have r604_c := hst2.on b602
                    have l604 := le_tr l9 b602
                    clear hst2 l9
                    clear hrg2
                    clear b602
                    clear DC601
                    go_wp2_with (first | ((with_reducible refine st_alloc 44 (dA zeroD) ?_ ?_); exact zero_dl))
                    refine ⟨fun V605 g605 n605 f605 => ?_⟩
                    have no605_c := r604_c.fresh (Nat.le_of_eq f605.at_)
                    have up605 : w.heap.size ≤ g605 := f605.up l604
                    have bl605 := f605.bel
                    clear f605
                    have rg606 := rg_on rg603 bl605
                    have r607_c := r604_c.on bl605
                    have l607 := le_tr l604 bl605
                    clear r604_c l604
                    clear rg603
                    clear bl605
                    go_wp2_with (first | ((with_reducible refine st_store 44 _ _ g605 (dA d) ?_ ?_ n605 ?_ ?_ ?_ ?_); exact rfl; exact rfl; exact Try.zDl; exact rfl; exact dA_one _))
                    refine ⟨fun V608 n608 k608 => ?_⟩
                    have m608_rg := rg_wr rg606 k608 n605
                    have m608_c := r607_c.wr k608 no605_c up605
                    have o608 := k608.bel _ _ l607 up605
                    clear k608
                    clear n605 rg606 r607_c l607
                    have xo : V608.cell? ⟨g605, 28, none⟩ = some (.int .i64 d.out) := CB.cell n608 28
                    rw [hdo] at xo
                    have qo : (o != o) = false := by simp
                    go_wp2_with fail
                    go_roundw
                    case rel => exact ⟨_, cnt2, m608_rg, m608_c⟩
                    case measure => rw [(m608_rg).left_eq, Hle.out]; exact Hlt.out
            have q1 : (d9.out == 1) = false := by simp [h1]
            clear h1 ho hdoc hdt h9
            clear m118_r m118_be n118
            have hmi := m118_mb.md
            have hmhi := m118_mb.hi
            obtain ⟨Dt, hown, hRd⟩ := hmi
            have nor := m118_c.fresh (Nat.le_refl _)
            have hrl : w.heap.size ≤ V118.heap.size := o118.size
            go_wp2_with (at_range; refine wpList_range_own _ rfl _ 58 rfl 3 3 lawI Try.underlying58 _ m2 1000 _ rfl hown ?_; intro w0 hrg0 hg0 hs0; refine Stay.mk ?_)
            refine Stay.open_ ?_
            have k0 : Below V118.heap.size V118 w0 := grown_below hg0 (Nat.le_refl _) (fun g e => by cases e)
            have st0 := m118_c.on k0
            clear hg0 hs0 hown k0 m118_c m118_mb o118
            clear xb xa
            go_wp2_with fail
            go_loopw [97] (fun _ wi => ∃ (left : Lit → Bool) (cnt : Nat), wi.ranges Try.prog 3 RV m2 V118.heap.size 1000 Dt left cnt ∧ ST w.heap.size w wi b m G111 D1 K1) (fun _ wi => wi.rangeLeft m2 V118.heap.size)
            case atStart => exact ⟨_, _, hrg0, st0⟩
            case round =>
              clear hrg0 st0
              obtain ⟨left, cnt, hrg, hst⟩ := hrel
              go_wp2_with (at_next; refine wpList_next_ranges _ rfl _ rfl 3 lawI RV (Value.int .i64) (fun v : Value => v) (fun key kl hk => by obtain ⟨x, hx, _⟩ := Maps.keyOf_int_inv Try.underlying3 hk; exact ⟨x, hx⟩) (fun v y hv => ⟨v, rfl⟩) m2 V118.heap.size 1000 _ _ _ rfl hrg ?_ ?_)
              · intro hc0 hl0
                have hmb : MO w.heap.size wr m2 f := ⟨⟨Dt, hrg.owns, hRd⟩, hmhi⟩
                have l9 := hst.low
                clear hrg hl0 hc0 hRd
                go_wp2_with fail
                go_loopw [17] (fun iv wi => ∃ (j : Nat) (f : Nat → Option Int), j ≤ k + 1 ∧ iv = .int .i64 j ∧ ST w.heap.size w wi b m G111 D1 K1 ∧ MO w.heap.size wi m2 f ∧ Hid (InvO D1 f)) (fun iv _ => k + 1 - (intOf iv).toNat)
                case atStart => exact ⟨0, f, by omega, rfl, hst, hmb, HI1⟩
                case round =>
                  clear hst hmb l9 HI1
                  obtain ⟨j, f, hj, rfl, hst, hmb, HI⟩ := hrel
                  have l9 := hst.low
                  by_cases hjk : j ≤ k
                  · have l4 : (j : Int) ≤ (k : Int) := by omega
                    have l5 : (0 : Int) ≤ (j : Int) := by omega
                    have l6 : (j : Int) < n := by omega
                    obtain ⟨gb, ofb, x2, hx2, hA2, hr2⟩ := (h.on hst.low).elem (show j < n by omega)
                    obtain ⟨rfl, rfl⟩ : ga = gb ∧ ofa = ofb := by cases hA2; exact ⟨rfl, rfl⟩
                    have hga : ga < w.heap.size := h.lt rfl (by omega)
                    have hti2 := hok.wf hx2
                    have rl : rangeL w.heap.size wr ga (ofa + j * 8) x2 := ⟨hr2, hga⟩
                    clear hr2 hx2 hA2
                    have htx := rl.tx
                    cases hd : dOf D1 x2.tx with
                    | none =>
                      have E1 := Lib.hid (show dGet D1 x2.tx = zeroD by unfold dGet; rw [hd]; rfl)
                      have E2 := Lib.hid (show (dOf D1 x2.tx).isSome = false by rw [hd]; rfl)
                      clear hd
                      have DC401 := deal_c b m G111 D1 K1 x2.tx _ hst.cr.cm hti2
                      rw [E1.out, E2.out] at DC401
                      go_wp2_with fail
                      refine (DC401).mono ?_
                      rintro e w402 ⟨rfl, b402⟩
                      clear htx
                      have r403_mb := (hmb).on b402
                      have r403_rl := (rl).on b402
                      have r403_c := hst.on b402
                      have l403 := le_tr l9 b402
                      clear hmb rl hst l9
                      clear b402
                      clear DC401
                      go_wp2_with (first | ((with_reducible refine st_alloc 44 (dA zeroD) ?_ ?_); exact zero_dl))
                      refine ⟨fun V404 g404 n404 f404 => ?_⟩
                      have no404_c := r403_c.fresh (Nat.le_of_eq f404.at_)
                      have up404 : w.heap.size ≤ g404 := f404.up l403
                      have bl404 := f404.bel
                      clear f404
                      have r405_mb := (r403_mb).on bl404
                      have r405_rl := (r403_rl).on bl404
                      have r405_c := r403_c.on bl404
                      have l405 := le_tr l403 bl404
                      clear r403_mb r403_rl r403_c l403
                      clear bl404
                      go_wp2_with (first | ((with_reducible refine st_store 44 _ _ g404 (dA zeroD) ?_ ?_ n404 ?_ ?_ ?_ ?_); exact rfl; exact rfl; exact Try.zDl; exact rfl; exact dA_one _))
                      refine ⟨fun V406 n406 k406 => ?_⟩
                      have m406_mb := (r405_mb).wr k406 n404
                      have m406_rl := (r405_rl).wr k406 up404
                      have m406_c := r405_c.wr k406 no404_c up404
                      have o406 := k406.bel _ _ l405 up404
                      clear k406
                      clear n404 r405_mb r405_rl r405_c l405
                      go_wp2_with fail
                      go_roundw
                      case rel => exact ⟨j + 1, _, by omega, by go_num, m406_c, m406_mb, HI⟩
                      case measure => simp [intOf]; omega
                    | some d2 =>
                      have E1 := Lib.hid (show dGet D1 x2.tx = d2 by unfold dGet; rw [hd]; rfl)
                      have E2 := Lib.hid (show (dOf D1 x2.tx).isSome = true by rw [hd]; rfl)
                      obtain ⟨t, ht, hdt, ht3⟩ := dOf_some hgf2.out hd
                      have Ht := Lib.hid ht
                      have hff := invO_few HI.out hgf2.out
                      clear ht
                      clear hd
                      have DC401 := deal_c b m G111 D1 K1 x2.tx _ hst.cr.cm hti2
                      rw [E1.out, E2.out] at DC401
                      go_wp2_with fail
                      refine (DC401).mono ?_
                      rintro e w402 ⟨rfl, b402⟩
                      clear htx
                      have r403_mb := (hmb).on b402
                      have r403_rl := (rl).on b402
                      have r403_c := hst.on b402
                      have l403 := le_tr l9 b402
                      clear hmb rl hst l9
                      clear b402
                      clear DC401
                      go_wp2_with (first | ((with_reducible refine st_alloc 44 (dA zeroD) ?_ ?_); exact zero_dl))
                      refine ⟨fun V404 g404 n404 f404 => ?_⟩
                      have no404_c := r403_c.fresh (Nat.le_of_eq f404.at_)
                      have up404 : w.heap.size ≤ g404 := f404.up l403
                      have bl404 := f404.bel
                      clear f404
                      have r405_mb := (r403_mb).on bl404
                      have r405_rl := (r403_rl).on bl404
                      have r405_c := r403_c.on bl404
                      have l405 := le_tr l403 bl404
                      clear r403_mb r403_rl r403_c l403
                      clear bl404
                      go_wp2_with (first | ((with_reducible refine st_store 44 _ _ g404 (dA d2) ?_ ?_ n404 ?_ ?_ ?_ ?_); exact rfl; exact rfl; exact Try.zDl; exact rfl; exact dA_one _))
                      refine ⟨fun V406 n406 k406 => ?_⟩
                      have m406_mb := (r405_mb).wr k406 n404
                      have m406_rl := (r405_rl).wr k406 up404
                      have m406_c := r405_c.wr k406 no404_c up404
                      have o406 := k406.bel _ _ l405 up404
                      clear k406
                      clear n404 r405_mb r405_rl r405_c l405
                      have xo : V406.cell? ⟨g404, 28, none⟩ = some (.int .i64 d2.out) := CB.cell n406 28
                      by_cases ho : d2.out = 0
                      · have qo : (d2.out != 0) = false := by simp [ho]
                        clear ho
                        go_wp2_with fail
                        go_roundw
                        case rel => exact ⟨j + 1, _, by omega, by go_num, m406_c, m406_mb, HI⟩
                        case measure => simp [intOf]; omega
                      have qo : (d2.out != 0) = true := by simp [ho]
                      have HI2 := Lib.hid (invO_upd HI.out hdt ho)
                      clear ho hdt HI
                      go_wp2_with fail
                      clear xo
                      have y407 := Lib.hid (show (fun V : World => CB V g404 44 (dA d2) ∧ rangeL w.heap.size V ga (ofa + j * 8) x2) V406.drew from ⟨CB.drew n406, (m406_rl).drew⟩)
                      refine wp_region_held_drew (S := (fun V : World => CB V g404 44 (dA d2) ∧ rangeL w.heap.size V ga (ofa + j * 8) x2)) (by kernel_rfl) y407.out (fun hHeld => ?_)
                      obtain ⟨D407, hD407⟩ : ∃ V, V406.drew = V := ⟨_, rfl⟩
                      have b407 : Below V406.heap.size V406 D407 := by rw [← hD407]; exact le_dr (Below.refl _ _)
                      rw [hD407] at hHeld ⊢
                      clear hD407
                      have r408_d1 := le_on n406 b407
                      have r408_mb := (m406_mb).on b407
                      have r408_rl := (m406_rl).on b407
                      have r408_c := m406_c.on b407
                      have l408 := le_tr o406 b407
                      clear n406 m406_mb m406_rl m406_c o406
                      clear b407
                      refine wpAnyH_takeL (i := 0) (d := some 137) (v := .map (some m2)) rfl rfl (by kernel_rfl) (by kernel_rfl) (by kernel_rfl) (fun _ _ _ h => h) (Or.inl ⟨by rfl, ?_⟩) hHeld ?_
                      · intro w hSw; (try dsimp only at hSw); go_simp
                      try simp only [Act.put, List.setIfInBounds_toArray, List.set_cons_zero, List.set_cons_succ]
                      refine wpAnyH_takeL (i := 1) (d := some 138) (v := .slice (some ⟨ga, ofa, none⟩) n c) rfl rfl (by kernel_rfl) (by kernel_rfl) (by kernel_rfl) (fun _ _ _ h => h) (Or.inl ⟨by rfl, ?_⟩) hHeld ?_
                      · intro w hSw; (try dsimp only at hSw); go_simp
                      try simp only [Act.put, List.setIfInBounds_toArray, List.set_cons_zero, List.set_cons_succ]
                      refine wpAnyH_takeL (i := 2) (d := some 139) (v := .int .i64 (j : Int)) rfl rfl (by kernel_rfl) (by kernel_rfl) (by kernel_rfl) (fun _ _ _ h => h) (Or.inl ⟨by rfl, ?_⟩) hHeld ?_
                      · intro w hSw; (try dsimp only at hSw); go_simp
                      try simp only [Act.put, List.setIfInBounds_toArray, List.set_cons_zero, List.set_cons_succ]
                      refine wpAnyH_takeL (i := 3) (d := some 140) (v := .pointer (some ⟨ga, ofa + j * 8, none⟩)) rfl rfl (by kernel_rfl) (by kernel_rfl) (by kernel_rfl) (fun _ _ _ h => h) (Or.inl ⟨by rfl, ?_⟩) hHeld ?_
                      · intro w hSw; (try dsimp only at hSw); go_simp
                      try simp only [Act.put, List.setIfInBounds_toArray, List.set_cons_zero, List.set_cons_succ]
                      refine wpAnyH_takeL (i := 4) (d := some 141) (v := .pointer (some ⟨ga, ofa + j * 8 + 1, none⟩)) rfl rfl (by kernel_rfl) (by kernel_rfl) (by kernel_rfl) (fun _ _ _ h => h) (Or.inl ⟨by rfl, ?_⟩) hHeld ?_
                      · intro w hSw; (try dsimp only at hSw); go_simp
                      try simp only [Act.put, List.setIfInBounds_toArray, List.set_cons_zero, List.set_cons_succ]
                      refine wpAnyH_takeL (i := 5) (d := some 142) (v := .int .i64 x2.tx) rfl rfl (by kernel_rfl) (by kernel_rfl) (by kernel_rfl) (fun _ _ _ h => h) (Or.inl ⟨by rfl, ?_⟩) hHeld ?_
                      · intro w hSw; (have hcc := hSw.2.tx; go_simp)
                      try simp only [Act.put, List.setIfInBounds_toArray, List.set_cons_zero, List.set_cons_succ]
                      refine wpAnyH_takeL (i := 6) (d := some 143) (v := .pointer (some ⟨g404, 28, none⟩)) rfl rfl (by kernel_rfl) (by kernel_rfl) (by kernel_rfl) (fun _ _ _ h => h) (Or.inl ⟨by rfl, ?_⟩) hHeld ?_
                      · intro w hSw; (try dsimp only at hSw); go_simp
                      try simp only [Act.put, List.setIfInBounds_toArray, List.set_cons_zero, List.set_cons_succ]
                      refine wpAnyH_takeL (i := 7) (d := some 144) (v := .int .i64 d2.out) rfl rfl (by kernel_rfl) (by kernel_rfl) (by kernel_rfl) (fun _ _ _ h => h) (Or.inl ⟨by rfl, ?_⟩) hHeld ?_
                      · intro w hSw; (try dsimp only at hSw); have hcc : w.cell? ⟨g404, 28, none⟩ = some (.int .i64 d2.out) := CB.cell hSw.1 28; go_simp
                      try simp only [Act.put, List.setIfInBounds_toArray, List.set_cons_zero, List.set_cons_succ]
                      refine wpAnyH_ready (rs := [8]) (by kernel_rfl) (by simp) ?_
                      refine AllReadyH.cons rfl (fun K hK => ?_) AllReadyH.nil
                      obtain ⟨V7, q1, q2, q3⟩ := r408_mb.md.store hff ht3 d2.out
                      have Q3 := Mt.of q3
                      clear q3
                      rw [← Ht.out] at q1
                      refine rd_mapu rfl 58 _ _ _ rfl none rfl q1 ?_
                      refine ⟨?_⟩
                      clear q1
                      have mb7 : MO w.heap.size V7 m2 _ := ⟨q2, r408_mb.hi⟩
                      have st7 := r408_c.mt Q3 hno1 r408_mb.hi
                      have d7 := Q3.onG r408_d1 r408_mb.md
                      have rl7 := r408_rl.mt Q3 r408_mb.hi
                      have l7 := st7.low
                      clear Q3 q2 r408_mb r408_c r408_d1 r408_rl l408
                      have y409 := Lib.hid (show (fun V : World => CB V g404 44 (dA d2) ∧ rangeL w.heap.size V ga (ofa + j * 8) x2) V7 from ⟨d7, rl7⟩)
                      refine hK.out _ _ y409.out (fun hHeld => ?_)
                      clear hK K y409
                      try simp only [Act.put, List.setIfInBounds_toArray, List.set_cons_zero, List.set_cons_succ]
                      refine wpAnyH_done (by kernel_rfl) ?_ _
                      go_wp2_with fail
                      go_roundw
                      case rel => exact ⟨j + 1, _, by omega, by go_num, st7, mb7, HI2⟩
                      case measure => simp [intOf]; omega
                  obtain rfl : j = k + 1 := by omega
                  have l4 : ¬ (((k + 1 : Nat) : Int) ≤ (k : Int)) := by omega
                  have l4' : decide (((k + 1 : Nat) : Int) ≤ (k : Int)) = false := by simp; omega
                  have l4'' : decide ((k : Int) + 1 ≤ (k : Int)) = false := by simp; omega
                  go_wp2_with fail
                  go_roundw
                  case rel => exact ⟨k + 1, _, _, _, f, by omega, by omega, by go_num, hst, hmb, hno1, hkl1, HI⟩
                  case measure => simp [intOf]; omega
              · intro x9 c9 kl yd yp w2 cnt2 hkey hlk hv hat hrg2 hlt3 hg2 hs2 hen
                obtain ⟨x', ex, rfl, hwx⟩ := Maps.keyOf_int_inv Try.underlying3 hkey
                obtain rfl : x9 = x' := by cases ex; rfl
                obtain ⟨t, o, rfl, hfo, rfl⟩ := readsI_at hRd hat hv
                obtain ⟨d, hd, hdo, hdn⟩ := HI1.out t o hfo
                have Hle := Lib.hid hrg.left_eq
                have Hlt := Lib.hid hlt3
                have hst2 := hst.turn hg2 nor hrl
                have hti9 : (Lit.int .i64 (t : Int)).wf = true := hwx
                have E1 := Lib.hid (show dGet D1 (t : Int) = d by unfold dGet; rw [dOf_nat, hd]; rfl)
                have E2 := Lib.hid (show (dOf D1 (t : Int)).isSome = true by rw [dOf_nat, hd]; rfl)
                have l9 := hst2.low
                clear hst hrg hg2 hs2 hkey hlk hv hat ex hwx hd hlt3 hfo
                have DC601 := deal_c b m G111 D1 K1 (t : Int) _ hst2.cr.cm hti9
                rw [E1.out, E2.out] at DC601
                go_wp2_with fail
                refine (DC601).mono ?_
                rintro e w602 ⟨rfl, b602⟩
                clear hen
                have rg603 := rg_on hrg2 b602
                have r604_c := hst2.on b602
                have l604 := le_tr l9 b602
                clear hst2 l9
                clear hrg2
                clear b602
                clear DC601
                go_wp2_with (first | ((with_reducible refine st_alloc 44 (dA zeroD) ?_ ?_); exact zero_dl))
                refine ⟨fun V605 g605 n605 f605 => ?_⟩
                have no605_c := r604_c.fresh (Nat.le_of_eq f605.at_)
                have up605 : w.heap.size ≤ g605 := f605.up l604
                have bl605 := f605.bel
                clear f605
                have rg606 := rg_on rg603 bl605
                have r607_c := r604_c.on bl605
                have l607 := le_tr l604 bl605
                clear r604_c l604
                clear rg603
                clear bl605
                go_wp2_with (first | ((with_reducible refine st_store 44 _ _ g605 (dA d) ?_ ?_ n605 ?_ ?_ ?_ ?_); exact rfl; exact rfl; exact Try.zDl; exact rfl; exact dA_one _))
                refine ⟨fun V608 n608 k608 => ?_⟩
                have m608_rg := rg_wr rg606 k608 n605
                have m608_c := r607_c.wr k608 no605_c up605
                have o608 := k608.bel _ _ l607 up605
                clear k608
                clear n605 rg606 r607_c l607
                have xo : V608.cell? ⟨g605, 28, none⟩ = some (.int .i64 d.out) := CB.cell n608 28
                rw [hdo] at xo
                have qo : (o != o) = false := by simp
                go_wp2_with fail
                go_roundw
                case rel => exact ⟨_, cnt2, m608_rg, m608_c⟩
                case measure => rw [(m608_rg).left_eq, Hle.out]; exact Hlt.out
          have qo : (d.out == 0) = false := by simp [ho]
          clear ho hdoc hdt h9
          have xb : V118.cell? ⟨g108, 28, none⟩ = some (.int .i64 d.out) := CB.cell m118_be 28
          clear m118_r m118_be n118
          have hmi := m118_mb.md
          have hmhi := m118_mb.hi
          obtain ⟨Dt, hown, hRd⟩ := hmi
          have nor := m118_c.fresh (Nat.le_refl _)
          have hrl : w.heap.size ≤ V118.heap.size := o118.size
          go_wp2_with (at_range; refine wpList_range_own _ rfl _ 58 rfl 3 3 lawI Try.underlying58 _ m2 1000 _ rfl hown ?_; intro w0 hrg0 hg0 hs0; refine Stay.mk ?_)
          refine Stay.open_ ?_
          have k0 : Below V118.heap.size V118 w0 := grown_below hg0 (Nat.le_refl _) (fun g e => by cases e)
          have st0 := m118_c.on k0
          clear hg0 hs0 hown k0 m118_c m118_mb o118
          clear xb
          go_wp2_with fail
          go_loopw [97] (fun _ wi => ∃ (left : Lit → Bool) (cnt : Nat), wi.ranges Try.prog 3 RV m2 V118.heap.size 1000 Dt left cnt ∧ ST w.heap.size w wi b m G111 D1 K1) (fun _ wi => wi.rangeLeft m2 V118.heap.size)
          case atStart => exact ⟨_, _, hrg0, st0⟩
          case round =>
            clear hrg0 st0
            obtain ⟨left, cnt, hrg, hst⟩ := hrel
            go_wp2_with (at_next; refine wpList_next_ranges _ rfl _ rfl 3 lawI RV (Value.int .i64) (fun v : Value => v) (fun key kl hk => by obtain ⟨x, hx, _⟩ := Maps.keyOf_int_inv Try.underlying3 hk; exact ⟨x, hx⟩) (fun v y hv => ⟨v, rfl⟩) m2 V118.heap.size 1000 _ _ _ rfl hrg ?_ ?_)
            · intro hc0 hl0
              have hmb : MO w.heap.size wr m2 f := ⟨⟨Dt, hrg.owns, hRd⟩, hmhi⟩
              have l9 := hst.low
              clear hrg hl0 hc0 hRd
              go_wp2_with fail
              go_loopw [17] (fun iv wi => ∃ (j : Nat) (f : Nat → Option Int), j ≤ k + 1 ∧ iv = .int .i64 j ∧ ST w.heap.size w wi b m G111 D1 K1 ∧ MO w.heap.size wi m2 f ∧ Hid (InvO D1 f)) (fun iv _ => k + 1 - (intOf iv).toNat)
              case atStart => exact ⟨0, f, by omega, rfl, hst, hmb, HI1⟩
              case round =>
                clear hst hmb l9 HI1
                obtain ⟨j, f, hj, rfl, hst, hmb, HI⟩ := hrel
                have l9 := hst.low
                by_cases hjk : j ≤ k
                · have l4 : (j : Int) ≤ (k : Int) := by omega
                  have l5 : (0 : Int) ≤ (j : Int) := by omega
                  have l6 : (j : Int) < n := by omega
                  obtain ⟨gb, ofb, x2, hx2, hA2, hr2⟩ := (h.on hst.low).elem (show j < n by omega)
                  obtain ⟨rfl, rfl⟩ : ga = gb ∧ ofa = ofb := by cases hA2; exact ⟨rfl, rfl⟩
                  have hga : ga < w.heap.size := h.lt rfl (by omega)
                  have hti2 := hok.wf hx2
                  have rl : rangeL w.heap.size wr ga (ofa + j * 8) x2 := ⟨hr2, hga⟩
                  clear hr2 hx2 hA2
                  have htx := rl.tx
                  cases hd : dOf D1 x2.tx with
                  | none =>
                    have E1 := Lib.hid (show dGet D1 x2.tx = zeroD by unfold dGet; rw [hd]; rfl)
                    have E2 := Lib.hid (show (dOf D1 x2.tx).isSome = false by rw [hd]; rfl)
                    clear hd
                    have DC401 := deal_c b m G111 D1 K1 x2.tx _ hst.cr.cm hti2
                    rw [E1.out, E2.out] at DC401
                    go_wp2_with fail
                    refine (DC401).mono ?_
                    rintro e w402 ⟨rfl, b402⟩
                    clear htx
                    have r403_mb := (hmb).on b402
                    have r403_rl := (rl).on b402
                    have r403_c := hst.on b402
                    have l403 := le_tr l9 b402
                    clear hmb rl hst l9
                    clear b402
                    clear DC401
                    go_wp2_with (first | ((with_reducible refine st_alloc 44 (dA zeroD) ?_ ?_); exact zero_dl))
                    refine ⟨fun V404 g404 n404 f404 => ?_⟩
                    have no404_c := r403_c.fresh (Nat.le_of_eq f404.at_)
                    have up404 : w.heap.size ≤ g404 := f404.up l403
                    have bl404 := f404.bel
                    clear f404
                    have r405_mb := (r403_mb).on bl404
                    have r405_rl := (r403_rl).on bl404
                    have r405_c := r403_c.on bl404
                    have l405 := le_tr l403 bl404
                    clear r403_mb r403_rl r403_c l403
                    clear bl404
                    go_wp2_with (first | ((with_reducible refine st_store 44 _ _ g404 (dA zeroD) ?_ ?_ n404 ?_ ?_ ?_ ?_); exact rfl; exact rfl; exact Try.zDl; exact rfl; exact dA_one _))
                    refine ⟨fun V406 n406 k406 => ?_⟩
                    have m406_mb := (r405_mb).wr k406 n404
                    have m406_rl := (r405_rl).wr k406 up404
                    have m406_c := r405_c.wr k406 no404_c up404
                    have o406 := k406.bel _ _ l405 up404
                    clear k406
                    clear n404 r405_mb r405_rl r405_c l405
                    go_wp2_with fail
                    go_roundw
                    case rel => exact ⟨j + 1, _, by omega, by go_num, m406_c, m406_mb, HI⟩
                    case measure => simp [intOf]; omega
                  | some d2 =>
                    have E1 := Lib.hid (show dGet D1 x2.tx = d2 by unfold dGet; rw [hd]; rfl)
                    have E2 := Lib.hid (show (dOf D1 x2.tx).isSome = true by rw [hd]; rfl)
                    obtain ⟨t, ht, hdt, ht3⟩ := dOf_some hgf2.out hd
                    have Ht := Lib.hid ht
                    have hff := invO_few HI.out hgf2.out
                    clear ht
                    clear hd
                    have DC401 := deal_c b m G111 D1 K1 x2.tx _ hst.cr.cm hti2
                    rw [E1.out, E2.out] at DC401
                    go_wp2_with fail
                    refine (DC401).mono ?_
                    rintro e w402 ⟨rfl, b402⟩
                    clear htx
                    have r403_mb := (hmb).on b402
                    have r403_rl := (rl).on b402
                    have r403_c := hst.on b402
                    have l403 := le_tr l9 b402
                    clear hmb rl hst l9
                    clear b402
                    clear DC401
                    go_wp2_with (first | ((with_reducible refine st_alloc 44 (dA zeroD) ?_ ?_); exact zero_dl))
                    refine ⟨fun V404 g404 n404 f404 => ?_⟩
                    have no404_c := r403_c.fresh (Nat.le_of_eq f404.at_)
                    have up404 : w.heap.size ≤ g404 := f404.up l403
                    have bl404 := f404.bel
                    clear f404
                    have r405_mb := (r403_mb).on bl404
                    have r405_rl := (r403_rl).on bl404
                    have r405_c := r403_c.on bl404
                    have l405 := le_tr l403 bl404
                    clear r403_mb r403_rl r403_c l403
                    clear bl404
                    go_wp2_with (first | ((with_reducible refine st_store 44 _ _ g404 (dA d2) ?_ ?_ n404 ?_ ?_ ?_ ?_); exact rfl; exact rfl; exact Try.zDl; exact rfl; exact dA_one _))
                    refine ⟨fun V406 n406 k406 => ?_⟩
                    have m406_mb := (r405_mb).wr k406 n404
                    have m406_rl := (r405_rl).wr k406 up404
                    have m406_c := r405_c.wr k406 no404_c up404
                    have o406 := k406.bel _ _ l405 up404
                    clear k406
                    clear n404 r405_mb r405_rl r405_c l405
                    have xo : V406.cell? ⟨g404, 28, none⟩ = some (.int .i64 d2.out) := CB.cell n406 28
                    by_cases ho : d2.out = 0
                    · have qo : (d2.out != 0) = false := by simp [ho]
                      clear ho
                      go_wp2_with fail
                      go_roundw
                      case rel => exact ⟨j + 1, _, by omega, by go_num, m406_c, m406_mb, HI⟩
                      case measure => simp [intOf]; omega
                    have qo : (d2.out != 0) = true := by simp [ho]
                    have HI2 := Lib.hid (invO_upd HI.out hdt ho)
                    clear ho hdt HI
                    go_wp2_with fail
                    clear xo
                    have y407 := Lib.hid (show (fun V : World => CB V g404 44 (dA d2) ∧ rangeL w.heap.size V ga (ofa + j * 8) x2) V406.drew from ⟨CB.drew n406, (m406_rl).drew⟩)
                    refine wp_region_held_drew (S := (fun V : World => CB V g404 44 (dA d2) ∧ rangeL w.heap.size V ga (ofa + j * 8) x2)) (by kernel_rfl) y407.out (fun hHeld => ?_)
                    obtain ⟨D407, hD407⟩ : ∃ V, V406.drew = V := ⟨_, rfl⟩
                    have b407 : Below V406.heap.size V406 D407 := by rw [← hD407]; exact le_dr (Below.refl _ _)
                    rw [hD407] at hHeld ⊢
                    clear hD407
                    have r408_d1 := le_on n406 b407
                    have r408_mb := (m406_mb).on b407
                    have r408_rl := (m406_rl).on b407
                    have r408_c := m406_c.on b407
                    have l408 := le_tr o406 b407
                    clear n406 m406_mb m406_rl m406_c o406
                    clear b407
                    refine wpAnyH_takeL (i := 0) (d := some 137) (v := .map (some m2)) rfl rfl (by kernel_rfl) (by kernel_rfl) (by kernel_rfl) (fun _ _ _ h => h) (Or.inl ⟨by rfl, ?_⟩) hHeld ?_
                    · intro w hSw; (try dsimp only at hSw); go_simp
                    try simp only [Act.put, List.setIfInBounds_toArray, List.set_cons_zero, List.set_cons_succ]
                    refine wpAnyH_takeL (i := 1) (d := some 138) (v := .slice (some ⟨ga, ofa, none⟩) n c) rfl rfl (by kernel_rfl) (by kernel_rfl) (by kernel_rfl) (fun _ _ _ h => h) (Or.inl ⟨by rfl, ?_⟩) hHeld ?_
                    · intro w hSw; (try dsimp only at hSw); go_simp
                    try simp only [Act.put, List.setIfInBounds_toArray, List.set_cons_zero, List.set_cons_succ]
                    refine wpAnyH_takeL (i := 2) (d := some 139) (v := .int .i64 (j : Int)) rfl rfl (by kernel_rfl) (by kernel_rfl) (by kernel_rfl) (fun _ _ _ h => h) (Or.inl ⟨by rfl, ?_⟩) hHeld ?_
                    · intro w hSw; (try dsimp only at hSw); go_simp
                    try simp only [Act.put, List.setIfInBounds_toArray, List.set_cons_zero, List.set_cons_succ]
                    refine wpAnyH_takeL (i := 3) (d := some 140) (v := .pointer (some ⟨ga, ofa + j * 8, none⟩)) rfl rfl (by kernel_rfl) (by kernel_rfl) (by kernel_rfl) (fun _ _ _ h => h) (Or.inl ⟨by rfl, ?_⟩) hHeld ?_
                    · intro w hSw; (try dsimp only at hSw); go_simp
                    try simp only [Act.put, List.setIfInBounds_toArray, List.set_cons_zero, List.set_cons_succ]
                    refine wpAnyH_takeL (i := 4) (d := some 141) (v := .pointer (some ⟨ga, ofa + j * 8 + 1, none⟩)) rfl rfl (by kernel_rfl) (by kernel_rfl) (by kernel_rfl) (fun _ _ _ h => h) (Or.inl ⟨by rfl, ?_⟩) hHeld ?_
                    · intro w hSw; (try dsimp only at hSw); go_simp
                    try simp only [Act.put, List.setIfInBounds_toArray, List.set_cons_zero, List.set_cons_succ]
                    refine wpAnyH_takeL (i := 5) (d := some 142) (v := .int .i64 x2.tx) rfl rfl (by kernel_rfl) (by kernel_rfl) (by kernel_rfl) (fun _ _ _ h => h) (Or.inl ⟨by rfl, ?_⟩) hHeld ?_
                    · intro w hSw; (have hcc := hSw.2.tx; go_simp)
                    try simp only [Act.put, List.setIfInBounds_toArray, List.set_cons_zero, List.set_cons_succ]
                    refine wpAnyH_takeL (i := 6) (d := some 143) (v := .pointer (some ⟨g404, 28, none⟩)) rfl rfl (by kernel_rfl) (by kernel_rfl) (by kernel_rfl) (fun _ _ _ h => h) (Or.inl ⟨by rfl, ?_⟩) hHeld ?_
                    · intro w hSw; (try dsimp only at hSw); go_simp
                    try simp only [Act.put, List.setIfInBounds_toArray, List.set_cons_zero, List.set_cons_succ]
                    refine wpAnyH_takeL (i := 7) (d := some 144) (v := .int .i64 d2.out) rfl rfl (by kernel_rfl) (by kernel_rfl) (by kernel_rfl) (fun _ _ _ h => h) (Or.inl ⟨by rfl, ?_⟩) hHeld ?_
                    · intro w hSw; (try dsimp only at hSw); have hcc : w.cell? ⟨g404, 28, none⟩ = some (.int .i64 d2.out) := CB.cell hSw.1 28; go_simp
                    try simp only [Act.put, List.setIfInBounds_toArray, List.set_cons_zero, List.set_cons_succ]
                    refine wpAnyH_ready (rs := [8]) (by kernel_rfl) (by simp) ?_
                    refine AllReadyH.cons rfl (fun K hK => ?_) AllReadyH.nil
                    obtain ⟨V7, q1, q2, q3⟩ := r408_mb.md.store hff ht3 d2.out
                    have Q3 := Mt.of q3
                    clear q3
                    rw [← Ht.out] at q1
                    refine rd_mapu rfl 58 _ _ _ rfl none rfl q1 ?_
                    refine ⟨?_⟩
                    clear q1
                    have mb7 : MO w.heap.size V7 m2 _ := ⟨q2, r408_mb.hi⟩
                    have st7 := r408_c.mt Q3 hno1 r408_mb.hi
                    have d7 := Q3.onG r408_d1 r408_mb.md
                    have rl7 := r408_rl.mt Q3 r408_mb.hi
                    have l7 := st7.low
                    clear Q3 q2 r408_mb r408_c r408_d1 r408_rl l408
                    have y409 := Lib.hid (show (fun V : World => CB V g404 44 (dA d2) ∧ rangeL w.heap.size V ga (ofa + j * 8) x2) V7 from ⟨d7, rl7⟩)
                    refine hK.out _ _ y409.out (fun hHeld => ?_)
                    clear hK K y409
                    try simp only [Act.put, List.setIfInBounds_toArray, List.set_cons_zero, List.set_cons_succ]
                    refine wpAnyH_done (by kernel_rfl) ?_ _
                    go_wp2_with fail
                    go_roundw
                    case rel => exact ⟨j + 1, _, by omega, by go_num, st7, mb7, HI2⟩
                    case measure => simp [intOf]; omega
                obtain rfl : j = k + 1 := by omega
                have l4 : ¬ (((k + 1 : Nat) : Int) ≤ (k : Int)) := by omega
                have l4' : decide (((k + 1 : Nat) : Int) ≤ (k : Int)) = false := by simp; omega
                have l4'' : decide ((k : Int) + 1 ≤ (k : Int)) = false := by simp; omega
                go_wp2_with fail
                go_roundw
                case rel => exact ⟨k + 1, _, _, _, f, by omega, by omega, by go_num, hst, hmb, hno1, hkl1, HI⟩
                case measure => simp [intOf]; omega
            · intro x9 c9 kl yd yp w2 cnt2 hkey hlk hv hat hrg2 hlt3 hg2 hs2 hen
              obtain ⟨x', ex, rfl, hwx⟩ := Maps.keyOf_int_inv Try.underlying3 hkey
              obtain rfl : x9 = x' := by cases ex; rfl
              obtain ⟨t, o, rfl, hfo, rfl⟩ := readsI_at hRd hat hv
              obtain ⟨d, hd, hdo, hdn⟩ := HI1.out t o hfo
              have Hle := Lib.hid hrg.left_eq
              have Hlt := Lib.hid hlt3
              have hst2 := hst.turn hg2 nor hrl
              have hti9 : (Lit.int .i64 (t : Int)).wf = true := hwx
              have E1 := Lib.hid (show dGet D1 (t : Int) = d by unfold dGet; rw [dOf_nat, hd]; rfl)
              have E2 := Lib.hid (show (dOf D1 (t : Int)).isSome = true by rw [dOf_nat, hd]; rfl)
              have l9 := hst2.low
              clear hst hrg hg2 hs2 hkey hlk hv hat ex hwx hd hlt3 hfo
              have DC601 := deal_c b m G111 D1 K1 (t : Int) _ hst2.cr.cm hti9
              rw [E1.out, E2.out] at DC601
              go_wp2_with fail
              refine (DC601).mono ?_
              rintro e w602 ⟨rfl, b602⟩
              clear hen
              have rg603 := rg_on hrg2 b602
              have r604_c := hst2.on b602
              have l604 := le_tr l9 b602
              clear hst2 l9
              clear hrg2
              clear b602
              clear DC601
              go_wp2_with (first | ((with_reducible refine st_alloc 44 (dA zeroD) ?_ ?_); exact zero_dl))
              refine ⟨fun V605 g605 n605 f605 => ?_⟩
              have no605_c := r604_c.fresh (Nat.le_of_eq f605.at_)
              have up605 : w.heap.size ≤ g605 := f605.up l604
              have bl605 := f605.bel
              clear f605
              have rg606 := rg_on rg603 bl605
              have r607_c := r604_c.on bl605
              have l607 := le_tr l604 bl605
              clear r604_c l604
              clear rg603
              clear bl605
              go_wp2_with (first | ((with_reducible refine st_store 44 _ _ g605 (dA d) ?_ ?_ n605 ?_ ?_ ?_ ?_); exact rfl; exact rfl; exact Try.zDl; exact rfl; exact dA_one _))
              refine ⟨fun V608 n608 k608 => ?_⟩
              have m608_rg := rg_wr rg606 k608 n605
              have m608_c := r607_c.wr k608 no605_c up605
              have o608 := k608.bel _ _ l607 up605
              clear k608
              clear n605 rg606 r607_c l607
              have xo : V608.cell? ⟨g605, 28, none⟩ = some (.int .i64 d.out) := CB.cell n608 28
              rw [hdo] at xo
              have qo : (o != o) = false := by simp
              go_wp2_with fail
              go_roundw
              case rel => exact ⟨_, cnt2, m608_rg, m608_c⟩
              case measure => rw [(m608_rg).left_eq, Hle.out]; exact Hlt.out
      obtain rfl : k = 120 := by omega
      have l3 : decide (((120 : Nat) : Int) < 120) = false := by simp
      go_wp2_with fail
      go_ret
      exact ⟨rfl, l9⟩
    have l1 : decide ((k : Int) < n) = false := by simp; omega
    go_wp2_with fail
    go_ret
    exact ⟨rfl, l9⟩
end Go.Proofs.Ytjfmahceolhfnaa
