/-
  The law PartyAll, walked. Condition: the steps can be read, their numbers are in their types' range.
-/
import Derived.Test.YtemhfaodgofcpaaPaQ0
set_option linter.unusedVariables false
set_option linter.unusedSimpArgs false
namespace Go.Proofs.Ytemhfaodgofcpaa
open Go.RowKit

set_option maxRecDepth 100000 in
set_option maxHeartbeats 8000000 in
theorem all_walk (A : Option Addr) (n c : Nat) (L : List Sp) (w : World) (h : RR w zcl 3 A n c L) (hbd : ∀ x ∈ L, x.kd < 256 ∧ x.at_ < 65536) : Calls Try.prog 5 #[.slice A n c] w fun r w' => r = .returned (.bool true) ∧ Below w.heap.size w w' := by
  have hlen := Lib.hid h.len
  have hl := RL.start h
  have h0rr := h
  have hmx := hl.max
  have HB := Lib.hid hbd
  clear h hbd
  go_enter Try.func5, Try.ntmps5
  go_wp2_with fail
  (with_reducible refine (alive_c _).mono ?_)
  rintro e w1 ⟨rfl, b1⟩
  have r3_l := (hl).on b1
  have l3 := le_tr (Below.refl _ _) b1
  clear hl
  clear b1
  go_wp2_with (first | ((with_reducible refine st_builtn 39 2 _ (.int .i64 9) (oA ⟨0, none, 0, 0, 9⟩) ?_ ?_ ?_); exact rfl; exact built_or _) | ((with_reducible refine st_builtn 42 0 _ (.agg (oA ⟨0, none, 0, 0, 9⟩)) (kA ⟨⟨0, none, 0, 0, 9⟩, 0, none, 0, 0, none, 0, 0, none, 0, 0⟩) ?_ ?_ ?_); exact rfl; exact built_k _) | ((with_reducible refine st_box 42 _ (kA ⟨⟨0, none, 0, 0, 9⟩, 0, none, 0, 0, none, 0, 0, none, 0, 0⟩) ?_ ?_); exact rfl))
  refine ⟨fun V4 g4 n4 f4 => ?_⟩
  have up4 : w.heap.size ≤ g4 := f4.up l3
  have bl4 := f4.bel
  clear f4
  have r6_l := (r3_l).on bl4
  have l6 := le_tr l3 bl4
  clear r3_l l3
  clear bl4
  go_wp2_with fail
  have htx := TX.start n4 l6 up4
  obtain ⟨b, hbb⟩ : ∃ b, g4 = b := ⟨_, rfl⟩
  rw [hbb] at htx ⊢
  clear n4 l6 up4 hbb
  go_loopw [4] (fun iv wr => ∃ (j : Nat) (t : Tk), j ≤ n ∧ j ≤ 300 ∧ iv = .int .i64 j ∧ TX w wr b t ∧ RL w wr zcl 3 A n c L ∧ Hid (OkT 9 t) ∧ Hid (t.S.length ≤ j)) (fun iv _ => n - (intOf iv).toNat)
  case atStart => exact ⟨0, ⟨[], 0, 0⟩, by omega, by omega, rfl, htx, r6_l, Lib.hid okT_0, Lib.hid (by simp)⟩
  case round =>
    clear htx r6_l
    obtain ⟨j, t, hj, hj3, rfl, htx, hl2, hok, hle⟩ := hrel
    by_cases hlt : j < n
    · have l1 : (j : Int) < (n : Int) := by omega
      have l2 : (0 : Int) ≤ (j : Int) := by omega
      by_cases h3 : j < 300
      · obtain ⟨ga, ofa, s, hs, rfl, hr⟩ := hl2.rr.elem hlt
        obtain ⟨kd, x, at_⟩ := s
        obtain ⟨hkd, hat⟩ := HB.out _ (List.mem_of_getElem? hs)
        simp only at hkd hat
        have cx : wr.cell? ⟨ga, ofa + j * 3 + 1, none⟩ = some (.string x) := hr 1 _ rfl
        have l3 : (j : Int) < 300 := by omega
        have l4 : decide ((j : Int) < 300) = true := by simp; omega
        by_cases h6 : x.size ≤ 600
        · skip
          have q1 : decide ((x.size : Int) ≤ 600) = true := by simp; omega
          have hr2 : wr.rangeAt ga (ofa + j * 3) (sA ⟨kd, x, at_⟩).toList := hr
          clear hr
          go_wp2_with (first | ((with_reducible refine st_elemG 45 _ ga (ofa + j * 3) (sA ⟨kd, x, at_⟩) ?_ hr2 Try.underlying45 ?_ ?_ ?_ ?_); exact rfl; exact rfl; exact Try.zSp; exact rfl))
          (with_reducible refine (step_c w wr b t htx hok.out (by have := hle.out; omega) ⟨kd, x, at_⟩ hkd hat).mono ?_)
          rintro e u1 ⟨rfl, t2, hx1, ho1, hl1, _⟩
          have ho2 := Lib.hid ho1
          have hle2 := Lib.hid hl1
          have rl1 := RL.low hl2 (TX.low hx1) h0rr
          clear ho1 hl1 htx hl2 hr2 cx
          go_wp2_with fail
          go_roundw
          case rel => exact ⟨j + 1, t2, by omega, by omega, by go_num, hx1, rl1, ho2, Lib.hid (by have := hle.out; have := hle2.out; omega)⟩
          case measure => simp [intOf]; omega
        have q1 : decide ((x.size : Int) ≤ 600) = false := by simp; omega
        clear h6
        go_wp2_with fail
        go_roundw
        case rel => exact ⟨j + 1, t, by omega, by omega, by go_num, htx, hl2, hok, Lib.hid (by have := hle.out; omega)⟩
        case measure => simp [intOf]; omega
      have l4 : decide ((j : Int) < 300) = false := by simp; omega
      have l3 : ¬ (j : Int) < 300 := by omega
      clear h3
      have hx9 := htx
      obtain ⟨⟨⟨nx, A0, n0, c0, rm⟩, hh, A1, n1, c1, A2, n2, c2, A3, n3, c3⟩, G0, G1, G2, G3, ht⟩ := hx9
      have s0 := ht.s0
      have kcb := ht.cb
      simp only at s0
      have m0 := s0.len
      rw [pkF_len] at m0
      have j9 : t.S.length ≤ 1000 := by have := hle.out; omega
      have n9 : n0 ≤ 9 := by have := hok.out.2.2.2; omega
      have M0 := Lib.hid m0
      have J9 := Lib.hid j9
      clear m0 j9 ht hl2
      have cw : wr.cell? ⟨b, 1, none⟩ = some (.slice A0 n0 c0) := CB.cell kcb 1
      go_wp2_with (first | ((with_reducible refine st_app (.const (.slice none 0 0)) (.tmp 43) 37 30 Try.underlying37 Try.infoP rfl (by decide) (A := none) (n := 0) (c := 0) (G := none) rfl (Seg.nil _ _ _) (As := A0) (m := n0) (k := c0) rfl s0.rr.src (rc_one 2 (pkF t.S t.a)) (by simp only [maxLen]; omega) (by omega) (n0) (by omega) ?_)))
      refine ⟨fun B101 m101 q101 w101 s101 h101 k101 => ?_⟩
      clear cw
      have s101 : Seg w101 30 2 B101 (n0) m101 (rc pcl (pkF t.S t.a)) q101 := by simpa using s101
      have so101 : SO w.heap.size w101 30 pcl 2 B101 (n0) m101 (pkF t.S t.a) q101 := ⟨s101, k101.ge ((TX.low htx)).size (fun g e => by cases e)⟩
      have e101_tx := TX.on htx (grown_below h101 (Nat.le_refl _) (fun g e => by cases e))
      have lw101 := ((TX.low htx)).grown h101 ((TX.low htx)).size (fun g e => by cases e)
      clear h101 k101 s101 htx
      clear s0 kcb
      go_wp2_with fail
      go_loopw [46] (fun iv wi => ∃ (i : Nat) (t' : Tk), i ≤ n0 ∧ iv = .int .i64 i ∧ TX w wi b t' ∧ Hid (t'.S = t.S ∧ t'.a = t.a) ∧ Hid (OkT 9 t') ∧ Hid (t.a + i ≤ t'.h) ∧ SO w.heap.size wi 30 pcl 2 B101 n0 m101 (pkF t.S t.a) q101) (fun iv _ => n0 - (intOf iv).toNat)
      case atStart => exact ⟨0, t, by omega, rfl, e101_tx, Lib.hid ⟨rfl, rfl⟩, hok, Lib.hid (by have := hok.out.1; omega), so101⟩
      case round =>
        clear e101_tx so101 lw101
        obtain ⟨i, t', hi, rfl, hx, hst, ho, hh', hcp⟩ := hrel
        by_cases hlt2 : i < n0
        · have l5 : (i : Int) < (n0 : Int) := by omega
          have l6 : (0 : Int) ≤ (i : Int) := by omega
          have hil : t.a + i < t.S.length := by have := M0.out; omega
          obtain ⟨x, hx0⟩ : ∃ x, t.S[t.a + i]? = some x := ⟨t.S[t.a + i], List.getElem?_eq_getElem hil⟩
          have hel : (pkF t.S t.a)[i]? = some ⟨((t.a + i : Nat) : Int), x⟩ := by rw [pkF_at, hx0]; rfl
          have hk0 : t'.S[t.a + i]? = some x := by rw [hst.out.1]; exact hx0
          obtain ⟨ga, ofa, p0, _, hA, _⟩ := hcp.rr.elem hlt2
          obtain ⟨k, hk⟩ : ∃ k : Int, ((t.a + i : Nat) : Int) = k := ⟨_, rfl⟩
          have hr2 : wr.rangeAt ga (ofa + i * 2) (pA ⟨k, x⟩).toList := by
            rw [hk] at hel
            exact RR.elemAt hcp.rr hel hA
          have HK := Lib.hid hk
          have HA := Lib.hid hA
          clear hel hx0 hil hk hA
          have hA := HA.out
          subst hA
          clear HA
          go_wp2_with (first | ((with_reducible refine st_elem 30 _ ga (ofa + i * 2) (pA ⟨k, x⟩) ?_ hr2 Try.underlying30 ?_ ?_ ?_); exact rfl; exact rfl; exact Try.zPk) | ((with_reducible refine st_alloc 30 (pA zeroP) ?_ ?_); exact zero_pk))
          refine ⟨fun V301 g301 n301 f301 => ?_⟩
          have up301 : wr.heap.size ≤ g301 := Nat.le_of_eq f301.at_
          have bl301 := f301.bel
          clear f301
          have l303 := le_tr (Below.refl _ _) bl301
          clear bl301
          go_wp2_with (first | ((with_reducible refine st_store 30 _ _ g301 (pA ⟨k, x⟩) ?_ ?_ n301 ?_ ?_ ?_ ?_); exact rfl; exact rfl; exact Try.zPk; exact rfl; exact pA_one _))
          refine ⟨fun V304 n304 k304 => ?_⟩
          have o304 := k304.bel _ _ l303 up301
          clear k304
          clear n301 l303
          go_wp2_with (first | ((with_reducible refine st_load 30 _ g301 ?_ n304 Try.underlying30 ?_ ?_ ?_); exact rfl; exact rfl; exact Try.zPk))
          have tx5 := TX.on hx o304
          have cp5 := SO.on hcp o304
          have hl5 : t'.S.length ≤ 1000 := by rw [hst.out.1]; exact J9.out
          have H5 := hear_k w V304 b t' tx5 ho.out hl5 (t.a + i) x hk0
          rw [HK.out] at H5
          (with_reducible refine H5.mono ?_)
          rintro e u9 ⟨rfl, hx5, hp5⟩
          have cp6 := SO.ps cp5 hp5
          clear H5 hp5 cp5 tx5 hx hcp
          go_wp2_with fail
          go_roundw
          case rel => exact ⟨i + 1, heT t' (t.a + i), by omega, by go_num, hx5, Lib.hid ⟨(heT_S _ _).trans hst.out.1, (heT_a _ _).trans hst.out.2⟩, Lib.hid (heT_ok ho.out (by rw [hst.out.1]; have := M0.out; omega)), Lib.hid (by have := hh'.out; unfold heT; split <;> (try simp only) <;> omega), cp6⟩
          case measure => simp [intOf]; omega
        obtain rfl : i = n0 := by omega
        clear hcp hlt2
        have hE : t'.h = t'.S.length := by have := hh'.out; have := M0.out; have := hok.out.1; have := hok.out.2.1; have := ho.out.2.1; rw [hst.out.1] at this ⊢; omega
        have HE := Lib.hid hE
        have J5 := Lib.hid (show t'.S.length < 1000 by rw [hst.out.1]; have := hle.out; omega)
        clear hE
        go_wp2_with (first | ((with_reducible refine st_builtn 45 0 _ (.int .u8 3) (sA ⟨3, ByteArray.empty, 0⟩) ?_ ?_ ?_); exact rfl; exact built_s 3))
        (with_reducible refine (step_c w wr b t' hx ho.out J5.out ⟨3, ByteArray.empty, 0⟩ (by decide) (by decide)).mono ?_)
        rintro e u7 ⟨rfl, t2, hx7, ho7, _, hi7⟩
        obtain rfl := hi7 rfl
        have Ho7 := Lib.hid ho7
        clear hx ho7 hi7
        go_wp2_with fail
        have y301 := Lib.hid (show (fun V : World => True) u7.drew from trivial)
        refine wp_region_held_drew (S := (fun V : World => True)) (by kernel_rfl) y301.out (fun hHeld => ?_)
        obtain ⟨D301, hD301⟩ : ∃ V, u7.drew = V := ⟨_, rfl⟩
        have b301 : Below u7.heap.size u7 D301 := by rw [← hD301]; exact le_dr (Below.refl _ _)
        rw [hD301]
        clear hD301
        have r303_tx := (hx7).on b301
        have l303 := le_tr (TX.low hx7) b301
        clear hx7
        clear b301
        refine wpAnyH_takeL (i := 0) (d := some 57) (v := .bool true) rfl rfl (by kernel_rfl) (by kernel_rfl) (by kernel_rfl) (fun _ _ _ h => h) (Or.inl ⟨by rfl, ?_⟩) hHeld ?_
        · intro w hSw; (try dsimp only at hSw); go_simp
        try simp only [Act.put, List.setIfInBounds_toArray, List.set_cons_zero, List.set_cons_succ]
        refine wpAnyH_takeL (i := 1) (d := some 58) (v := .bool true) rfl rfl (by kernel_rfl) (by kernel_rfl) (by kernel_rfl) (fun _ _ _ h => h) (Or.inl ⟨by rfl, ?_⟩) hHeld ?_
        · intro w hSw; (try dsimp only at hSw); go_simp
        try simp only [Act.put, List.setIfInBounds_toArray, List.set_cons_zero, List.set_cons_succ]
        refine wpAnyH_takeL (i := 2) (d := some 59) (v := .pointer (some ⟨b, 0, none⟩)) rfl rfl (by kernel_rfl) (by kernel_rfl) (by kernel_rfl) (fun _ _ _ h => h) (Or.inl ⟨by rfl, ?_⟩) hHeld ?_
        · intro w hSw; (try dsimp only at hSw); go_simp
        try simp only [Act.put, List.setIfInBounds_toArray, List.set_cons_zero, List.set_cons_succ]
        refine wpAnyH_ready (rs := [3]) (by kernel_rfl) (by simp) ?_
        refine AllReadyH.cons rfl (fun K hK => ?_) AllReadyH.nil
        go_simp
        (with_reducible refine (begins_c w D301 b ⟨t'.S, t'.h, t'.h⟩ r303_tx Ho7.out).mono ?_)
        rintro e u304 ⟨rfl, b304⟩
        have hx304 := TX.on r303_tx b304
        clear b304 r303_tx
        go_wp2_with fail
        have hx9 := hx304
        obtain ⟨⟨⟨ny, B0, k0, d0, rn⟩, hz, B1, k1, d1, B2, k2, d2, B3, k3, d3⟩, H0, H1, H2, H3, ht⟩ := hx9
        obtain ⟨kcb, _, _, _, s0, s1, s2, _, _, _, _, _⟩ := ht
        simp only at s0 s1 s2
        have m0 := s0.len
        rw [pkF_len] at m0
        have m1 := s1.len
        have m2 := s2.len
        rw [List.length_take] at m2
        have qa : ((k2 : Int) == (k1 : Int)) = true := by have := HE.out; simp only [beq_iff_eq]; omega
        have qb : ((k0 : Int) == 0) = true := by have := HE.out; simp only [beq_iff_eq]; omega
        clear s0 s1 s2 m0 m1 m2
        have y305 := Lib.hid (show (fun V : World => True) u304 from trivial)
        refine hK.out _ _ y305.out (fun hHeld => ?_)
        clear hK K y305
        try simp only [Act.put, List.setIfInBounds_toArray, List.set_cons_zero, List.set_cons_succ]
        refine wpAnyH_takeL (i := 4) (d := some 61) (v := .bool true) rfl rfl (by kernel_rfl) (by kernel_rfl) (by kernel_rfl) (fun _ _ _ h => h) (Or.inl ⟨by rfl, ?_⟩) hHeld ?_
        · intro w hSw; (try dsimp only at hSw); go_simp
        try simp only [Act.put, List.setIfInBounds_toArray, List.set_cons_zero, List.set_cons_succ]
        refine wpAnyH_takeL (i := 5) (d := some 62) (v := .bool true) rfl rfl (by kernel_rfl) (by kernel_rfl) (by kernel_rfl) (fun _ _ _ h => h) (Or.inl ⟨by rfl, ?_⟩) hHeld ?_
        · intro w hSw; (try dsimp only at hSw); go_simp
        try simp only [Act.put, List.setIfInBounds_toArray, List.set_cons_zero, List.set_cons_succ]
        refine wpAnyH_takeL (i := 6) (d := some 63) (v := .pointer (some ⟨b, 0, none⟩)) rfl rfl (by kernel_rfl) (by kernel_rfl) (by kernel_rfl) (fun _ _ _ h => h) (Or.inl ⟨by rfl, ?_⟩) hHeld ?_
        · intro w hSw; (try dsimp only at hSw); go_simp
        try simp only [Act.put, List.setIfInBounds_toArray, List.set_cons_zero, List.set_cons_succ]
        refine wpAnyH_takeL (i := 7) (d := some 64) (v := .pointer (some ⟨b, 0, none⟩)) rfl rfl (by kernel_rfl) (by kernel_rfl) (by kernel_rfl) (fun _ _ _ h => h) (Or.inl ⟨by rfl, ?_⟩) hHeld ?_
        · intro w hSw; (try dsimp only at hSw); go_simp
        try simp only [Act.put, List.setIfInBounds_toArray, List.set_cons_zero, List.set_cons_succ]
        refine wpAnyH_takeL (i := 8) (d := some 65) (v := .pointer (some ⟨b, 5, none⟩)) rfl rfl (by kernel_rfl) (by kernel_rfl) (by kernel_rfl) (fun _ _ _ h => h) (Or.inl ⟨by rfl, ?_⟩) hHeld ?_
        · intro w hSw; (try dsimp only at hSw); go_simp
        try simp only [Act.put, List.setIfInBounds_toArray, List.set_cons_zero, List.set_cons_succ]
        refine wpAnyH_takeL (i := 11) (d := some 68) (v := .pointer (some ⟨b, 0, none⟩)) rfl rfl (by kernel_rfl) (by kernel_rfl) (by kernel_rfl) (fun _ _ _ h => h) (Or.inl ⟨by rfl, ?_⟩) hHeld ?_
        · intro w hSw; (try dsimp only at hSw); go_simp
        try simp only [Act.put, List.setIfInBounds_toArray, List.set_cons_zero, List.set_cons_succ]
        refine wpAnyH_takeL (i := 12) (d := some 69) (v := .pointer (some ⟨b, 0, none⟩)) rfl rfl (by kernel_rfl) (by kernel_rfl) (by kernel_rfl) (fun _ _ _ h => h) (Or.inl ⟨by rfl, ?_⟩) hHeld ?_
        · intro w hSw; (try dsimp only at hSw); go_simp
        try simp only [Act.put, List.setIfInBounds_toArray, List.set_cons_zero, List.set_cons_succ]
        refine wpAnyH_takeL (i := 13) (d := some 70) (v := .pointer (some ⟨b, 4, none⟩)) rfl rfl (by kernel_rfl) (by kernel_rfl) (by kernel_rfl) (fun _ _ _ h => h) (Or.inl ⟨by rfl, ?_⟩) hHeld ?_
        · intro w hSw; (try dsimp only at hSw); go_simp
        try simp only [Act.put, List.setIfInBounds_toArray, List.set_cons_zero, List.set_cons_succ]
        refine wpAnyH_ready (rs := [9, 14]) (by kernel_rfl) (by simp) ?_
        refine AllReadyH.cons rfl (fun K hK => ?_) (AllReadyH.cons rfl (fun K hK => ?_) AllReadyH.nil)
        · skip
          refine rd_loadG rfl 40 _ rfl (some 66) rfl (.slice B2 k2 d2) b (5) rfl (ld_ss (CB.cell kcb 5)) ?_
          refine ⟨?_⟩
          have y306 := Lib.hid (show (fun V : World => True) u304 from trivial)
          refine hK.out _ _ y306.out (fun hHeld => ?_)
          clear hK K y306
          try simp only [Act.put, List.setIfInBounds_toArray, List.set_cons_zero, List.set_cons_succ]
          refine wpAnyH_takeL (i := 10) (d := some 67) (v := .int .i64 (k2 : Int)) rfl rfl (by kernel_rfl) (by kernel_rfl) (by kernel_rfl) (fun _ _ _ h => h) (Or.inl ⟨by rfl, ?_⟩) hHeld ?_
          · intro w hSw; (try dsimp only at hSw); go_simp
          try simp only [Act.put, List.setIfInBounds_toArray, List.set_cons_zero, List.set_cons_succ]
          refine wpAnyH_ready (rs := [14]) (by kernel_rfl) (by simp) ?_
          refine AllReadyH.cons rfl (fun K hK => ?_) AllReadyH.nil
          refine rd_loadG rfl 40 _ rfl (some 71) rfl (.slice B1 k1 d1) b (4) rfl (ld_ss (CB.cell kcb 4)) ?_
          refine ⟨?_⟩
          have y307 := Lib.hid (show (fun V : World => True) u304 from trivial)
          refine hK.out _ _ y307.out (fun hHeld => ?_)
          clear hK K y307
          try simp only [Act.put, List.setIfInBounds_toArray, List.set_cons_zero, List.set_cons_succ]
          refine wpAnyH_takeL (i := 15) (d := some 72) (v := .int .i64 (k1 : Int)) rfl rfl (by kernel_rfl) (by kernel_rfl) (by kernel_rfl) (fun _ _ _ h => h) (Or.inl ⟨by rfl, ?_⟩) hHeld ?_
          · intro w hSw; (try dsimp only at hSw); go_simp
          try simp only [Act.put, List.setIfInBounds_toArray, List.set_cons_zero, List.set_cons_succ]
          refine wpAnyH_takeL (i := 16) (d := some 73) (v := .bool true) rfl rfl (by kernel_rfl) (by kernel_rfl) (by kernel_rfl) (fun _ _ _ h => h) (Or.inl ⟨by rfl, ?_⟩) hHeld ?_
          · intro w hSw; (try dsimp only at hSw); go_simp
          try simp only [Act.put, List.setIfInBounds_toArray, List.set_cons_zero, List.set_cons_succ]
          refine wpAnyH_takeL (i := 17) (d := some 74) (v := .bool true) rfl rfl (by kernel_rfl) (by kernel_rfl) (by kernel_rfl) (fun _ _ _ h => h) (Or.inl ⟨by rfl, ?_⟩) hHeld ?_
          · intro w hSw; (try dsimp only at hSw); go_simp
          try simp only [Act.put, List.setIfInBounds_toArray, List.set_cons_zero, List.set_cons_succ]
          refine wpAnyH_takeL (i := 18) (d := some 75) (v := .bool true) rfl rfl (by kernel_rfl) (by kernel_rfl) (by kernel_rfl) (fun _ _ _ h => h) (Or.inl ⟨by rfl, ?_⟩) hHeld ?_
          · intro w hSw; (try dsimp only at hSw); go_simp
          try simp only [Act.put, List.setIfInBounds_toArray, List.set_cons_zero, List.set_cons_succ]
          refine wpAnyH_takeL (i := 19) (d := some 76) (v := .pointer (some ⟨b, 0, none⟩)) rfl rfl (by kernel_rfl) (by kernel_rfl) (by kernel_rfl) (fun _ _ _ h => h) (Or.inl ⟨by rfl, ?_⟩) hHeld ?_
          · intro w hSw; (try dsimp only at hSw); go_simp
          try simp only [Act.put, List.setIfInBounds_toArray, List.set_cons_zero, List.set_cons_succ]
          refine wpAnyH_takeL (i := 20) (d := some 77) (v := .pointer (some ⟨b, 0, none⟩)) rfl rfl (by kernel_rfl) (by kernel_rfl) (by kernel_rfl) (fun _ _ _ h => h) (Or.inl ⟨by rfl, ?_⟩) hHeld ?_
          · intro w hSw; (try dsimp only at hSw); go_simp
          try simp only [Act.put, List.setIfInBounds_toArray, List.set_cons_zero, List.set_cons_succ]
          refine wpAnyH_takeL (i := 21) (d := some 78) (v := .pointer (some ⟨b, 0, none⟩)) rfl rfl (by kernel_rfl) (by kernel_rfl) (by kernel_rfl) (fun _ _ _ h => h) (Or.inl ⟨by rfl, ?_⟩) hHeld ?_
          · intro w hSw; (try dsimp only at hSw); go_simp
          try simp only [Act.put, List.setIfInBounds_toArray, List.set_cons_zero, List.set_cons_succ]
          refine wpAnyH_takeL (i := 22) (d := some 79) (v := .pointer (some ⟨b, 1, none⟩)) rfl rfl (by kernel_rfl) (by kernel_rfl) (by kernel_rfl) (fun _ _ _ h => h) (Or.inl ⟨by rfl, ?_⟩) hHeld ?_
          · intro w hSw; (try dsimp only at hSw); go_simp
          try simp only [Act.put, List.setIfInBounds_toArray, List.set_cons_zero, List.set_cons_succ]
          refine wpAnyH_ready (rs := [23]) (by kernel_rfl) (by simp) ?_
          refine AllReadyH.cons rfl (fun K hK => ?_) AllReadyH.nil
          refine rd_loadG rfl 37 _ rfl (some 80) rfl (.slice B0 k0 d0) b (1) rfl (ld_pp (CB.cell kcb 1)) ?_
          refine ⟨?_⟩
          have y308 := Lib.hid (show (fun V : World => True) u304 from trivial)
          refine hK.out _ _ y308.out (fun hHeld => ?_)
          clear hK K y308
          try simp only [Act.put, List.setIfInBounds_toArray, List.set_cons_zero, List.set_cons_succ]
          refine wpAnyH_takeL (i := 24) (d := some 81) (v := .int .i64 (k0 : Int)) rfl rfl (by kernel_rfl) (by kernel_rfl) (by kernel_rfl) (fun _ _ _ h => h) (Or.inl ⟨by rfl, ?_⟩) hHeld ?_
          · intro w hSw; (try dsimp only at hSw); go_simp
          try simp only [Act.put, List.setIfInBounds_toArray, List.set_cons_zero, List.set_cons_succ]
          refine wpAnyH_takeL (i := 25) (d := some 82) (v := .bool true) rfl rfl (by kernel_rfl) (by kernel_rfl) (by kernel_rfl) (fun _ _ _ h => h) (Or.inl ⟨by rfl, ?_⟩) hHeld ?_
          · intro w hSw; (try dsimp only at hSw); go_simp
          try simp only [Act.put, List.setIfInBounds_toArray, List.set_cons_zero, List.set_cons_succ]
          refine wpAnyH_takeL (i := 26) (d := some 83) (v := .bool true) rfl rfl (by kernel_rfl) (by kernel_rfl) (by kernel_rfl) (fun _ _ _ h => h) (Or.inl ⟨by rfl, ?_⟩) hHeld ?_
          · intro w hSw; (try dsimp only at hSw); go_simp
          try simp only [Act.put, List.setIfInBounds_toArray, List.set_cons_zero, List.set_cons_succ]
          refine wpAnyH_takeL (i := 27) (d := some 2) (v := .bool true) rfl rfl (by kernel_rfl) (by kernel_rfl) (by kernel_rfl) (fun _ _ _ h => h) (Or.inl ⟨by rfl, ?_⟩) hHeld ?_
          · intro w hSw; (try dsimp only at hSw); go_simp
          try simp only [Act.put, List.setIfInBounds_toArray, List.set_cons_zero, List.set_cons_succ]
          refine wpAnyH_done (by kernel_rfl) ?_ _
          go_wp2_with fail
          go_ret
          exact ⟨rfl, (TX.low hx304)⟩
        · skip
          refine rd_loadG rfl 40 _ rfl (some 71) rfl (.slice B1 k1 d1) b (4) rfl (ld_ss (CB.cell kcb 4)) ?_
          refine ⟨?_⟩
          have y306 := Lib.hid (show (fun V : World => True) u304 from trivial)
          refine hK.out _ _ y306.out (fun hHeld => ?_)
          clear hK K y306
          try simp only [Act.put, List.setIfInBounds_toArray, List.set_cons_zero, List.set_cons_succ]
          refine wpAnyH_takeL (i := 15) (d := some 72) (v := .int .i64 (k1 : Int)) rfl rfl (by kernel_rfl) (by kernel_rfl) (by kernel_rfl) (fun _ _ _ h => h) (Or.inl ⟨by rfl, ?_⟩) hHeld ?_
          · intro w hSw; (try dsimp only at hSw); go_simp
          try simp only [Act.put, List.setIfInBounds_toArray, List.set_cons_zero, List.set_cons_succ]
          refine wpAnyH_ready (rs := [9]) (by kernel_rfl) (by simp) ?_
          refine AllReadyH.cons rfl (fun K hK => ?_) AllReadyH.nil
          refine rd_loadG rfl 40 _ rfl (some 66) rfl (.slice B2 k2 d2) b (5) rfl (ld_ss (CB.cell kcb 5)) ?_
          refine ⟨?_⟩
          have y307 := Lib.hid (show (fun V : World => True) u304 from trivial)
          refine hK.out _ _ y307.out (fun hHeld => ?_)
          clear hK K y307
          try simp only [Act.put, List.setIfInBounds_toArray, List.set_cons_zero, List.set_cons_succ]
          refine wpAnyH_takeL (i := 10) (d := some 67) (v := .int .i64 (k2 : Int)) rfl rfl (by kernel_rfl) (by kernel_rfl) (by kernel_rfl) (fun _ _ _ h => h) (Or.inl ⟨by rfl, ?_⟩) hHeld ?_
          · intro w hSw; (try dsimp only at hSw); go_simp
          try simp only [Act.put, List.setIfInBounds_toArray, List.set_cons_zero, List.set_cons_succ]
          refine wpAnyH_takeL (i := 16) (d := some 73) (v := .bool true) rfl rfl (by kernel_rfl) (by kernel_rfl) (by kernel_rfl) (fun _ _ _ h => h) (Or.inl ⟨by rfl, ?_⟩) hHeld ?_
          · intro w hSw; (try dsimp only at hSw); go_simp
          try simp only [Act.put, List.setIfInBounds_toArray, List.set_cons_zero, List.set_cons_succ]
          refine wpAnyH_takeL (i := 17) (d := some 74) (v := .bool true) rfl rfl (by kernel_rfl) (by kernel_rfl) (by kernel_rfl) (fun _ _ _ h => h) (Or.inl ⟨by rfl, ?_⟩) hHeld ?_
          · intro w hSw; (try dsimp only at hSw); go_simp
          try simp only [Act.put, List.setIfInBounds_toArray, List.set_cons_zero, List.set_cons_succ]
          refine wpAnyH_takeL (i := 18) (d := some 75) (v := .bool true) rfl rfl (by kernel_rfl) (by kernel_rfl) (by kernel_rfl) (fun _ _ _ h => h) (Or.inl ⟨by rfl, ?_⟩) hHeld ?_
          · intro w hSw; (try dsimp only at hSw); go_simp
          try simp only [Act.put, List.setIfInBounds_toArray, List.set_cons_zero, List.set_cons_succ]
          refine wpAnyH_takeL (i := 19) (d := some 76) (v := .pointer (some ⟨b, 0, none⟩)) rfl rfl (by kernel_rfl) (by kernel_rfl) (by kernel_rfl) (fun _ _ _ h => h) (Or.inl ⟨by rfl, ?_⟩) hHeld ?_
          · intro w hSw; (try dsimp only at hSw); go_simp
          try simp only [Act.put, List.setIfInBounds_toArray, List.set_cons_zero, List.set_cons_succ]
          refine wpAnyH_takeL (i := 20) (d := some 77) (v := .pointer (some ⟨b, 0, none⟩)) rfl rfl (by kernel_rfl) (by kernel_rfl) (by kernel_rfl) (fun _ _ _ h => h) (Or.inl ⟨by rfl, ?_⟩) hHeld ?_
          · intro w hSw; (try dsimp only at hSw); go_simp
          try simp only [Act.put, List.setIfInBounds_toArray, List.set_cons_zero, List.set_cons_succ]
          refine wpAnyH_takeL (i := 21) (d := some 78) (v := .pointer (some ⟨b, 0, none⟩)) rfl rfl (by kernel_rfl) (by kernel_rfl) (by kernel_rfl) (fun _ _ _ h => h) (Or.inl ⟨by rfl, ?_⟩) hHeld ?_
          · intro w hSw; (try dsimp only at hSw); go_simp
          try simp only [Act.put, List.setIfInBounds_toArray, List.set_cons_zero, List.set_cons_succ]
          refine wpAnyH_takeL (i := 22) (d := some 79) (v := .pointer (some ⟨b, 1, none⟩)) rfl rfl (by kernel_rfl) (by kernel_rfl) (by kernel_rfl) (fun _ _ _ h => h) (Or.inl ⟨by rfl, ?_⟩) hHeld ?_
          · intro w hSw; (try dsimp only at hSw); go_simp
          try simp only [Act.put, List.setIfInBounds_toArray, List.set_cons_zero, List.set_cons_succ]
          refine wpAnyH_ready (rs := [23]) (by kernel_rfl) (by simp) ?_
          refine AllReadyH.cons rfl (fun K hK => ?_) AllReadyH.nil
          refine rd_loadG rfl 37 _ rfl (some 80) rfl (.slice B0 k0 d0) b (1) rfl (ld_pp (CB.cell kcb 1)) ?_
          refine ⟨?_⟩
          have y308 := Lib.hid (show (fun V : World => True) u304 from trivial)
          refine hK.out _ _ y308.out (fun hHeld => ?_)
          clear hK K y308
          try simp only [Act.put, List.setIfInBounds_toArray, List.set_cons_zero, List.set_cons_succ]
          refine wpAnyH_takeL (i := 24) (d := some 81) (v := .int .i64 (k0 : Int)) rfl rfl (by kernel_rfl) (by kernel_rfl) (by kernel_rfl) (fun _ _ _ h => h) (Or.inl ⟨by rfl, ?_⟩) hHeld ?_
          · intro w hSw; (try dsimp only at hSw); go_simp
          try simp only [Act.put, List.setIfInBounds_toArray, List.set_cons_zero, List.set_cons_succ]
          refine wpAnyH_takeL (i := 25) (d := some 82) (v := .bool true) rfl rfl (by kernel_rfl) (by kernel_rfl) (by kernel_rfl) (fun _ _ _ h => h) (Or.inl ⟨by rfl, ?_⟩) hHeld ?_
          · intro w hSw; (try dsimp only at hSw); go_simp
          try simp only [Act.put, List.setIfInBounds_toArray, List.set_cons_zero, List.set_cons_succ]
          refine wpAnyH_takeL (i := 26) (d := some 83) (v := .bool true) rfl rfl (by kernel_rfl) (by kernel_rfl) (by kernel_rfl) (fun _ _ _ h => h) (Or.inl ⟨by rfl, ?_⟩) hHeld ?_
          · intro w hSw; (try dsimp only at hSw); go_simp
          try simp only [Act.put, List.setIfInBounds_toArray, List.set_cons_zero, List.set_cons_succ]
          refine wpAnyH_takeL (i := 27) (d := some 2) (v := .bool true) rfl rfl (by kernel_rfl) (by kernel_rfl) (by kernel_rfl) (fun _ _ _ h => h) (Or.inl ⟨by rfl, ?_⟩) hHeld ?_
          · intro w hSw; (try dsimp only at hSw); go_simp
          try simp only [Act.put, List.setIfInBounds_toArray, List.set_cons_zero, List.set_cons_succ]
          refine wpAnyH_done (by kernel_rfl) ?_ _
          go_wp2_with fail
          go_ret
          exact ⟨rfl, (TX.low hx304)⟩
    obtain rfl : j = n := by omega
    clear hlt
    have hx9 := htx
    obtain ⟨⟨⟨nx, A0, n0, c0, rm⟩, hh, A1, n1, c1, A2, n2, c2, A3, n3, c3⟩, G0, G1, G2, G3, ht⟩ := hx9
    have s0 := ht.s0
    have kcb := ht.cb
    simp only at s0
    have m0 := s0.len
    rw [pkF_len] at m0
    have j9 : t.S.length ≤ 1000 := by have := hle.out; omega
    have n9 : n0 ≤ 9 := by have := hok.out.2.2.2; omega
    have M0 := Lib.hid m0
    have J9 := Lib.hid j9
    clear m0 j9 ht hl2
    have cw : wr.cell? ⟨b, 1, none⟩ = some (.slice A0 n0 c0) := CB.cell kcb 1
    go_wp2_with (first | ((with_reducible refine st_app (.const (.slice none 0 0)) (.tmp 43) 37 30 Try.underlying37 Try.infoP rfl (by decide) (A := none) (n := 0) (c := 0) (G := none) rfl (Seg.nil _ _ _) (As := A0) (m := n0) (k := c0) rfl s0.rr.src (rc_one 2 (pkF t.S t.a)) (by simp only [maxLen]; omega) (by omega) (n0) (by omega) ?_)))
    refine ⟨fun B101 m101 q101 w101 s101 h101 k101 => ?_⟩
    clear cw
    have s101 : Seg w101 30 2 B101 (n0) m101 (rc pcl (pkF t.S t.a)) q101 := by simpa using s101
    have so101 : SO w.heap.size w101 30 pcl 2 B101 (n0) m101 (pkF t.S t.a) q101 := ⟨s101, k101.ge ((TX.low htx)).size (fun g e => by cases e)⟩
    have e101_tx := TX.on htx (grown_below h101 (Nat.le_refl _) (fun g e => by cases e))
    have lw101 := ((TX.low htx)).grown h101 ((TX.low htx)).size (fun g e => by cases e)
    clear h101 k101 s101 htx
    clear s0 kcb
    go_wp2_with fail
    go_loopw [46] (fun iv wi => ∃ (i : Nat) (t' : Tk), i ≤ n0 ∧ iv = .int .i64 i ∧ TX w wi b t' ∧ Hid (t'.S = t.S ∧ t'.a = t.a) ∧ Hid (OkT 9 t') ∧ Hid (t.a + i ≤ t'.h) ∧ SO w.heap.size wi 30 pcl 2 B101 n0 m101 (pkF t.S t.a) q101) (fun iv _ => n0 - (intOf iv).toNat)
    case atStart => exact ⟨0, t, by omega, rfl, e101_tx, Lib.hid ⟨rfl, rfl⟩, hok, Lib.hid (by have := hok.out.1; omega), so101⟩
    case round =>
      clear e101_tx so101 lw101
      obtain ⟨i, t', hi, rfl, hx, hst, ho, hh', hcp⟩ := hrel
      by_cases hlt2 : i < n0
      · have l5 : (i : Int) < (n0 : Int) := by omega
        have l6 : (0 : Int) ≤ (i : Int) := by omega
        have hil : t.a + i < t.S.length := by have := M0.out; omega
        obtain ⟨x, hx0⟩ : ∃ x, t.S[t.a + i]? = some x := ⟨t.S[t.a + i], List.getElem?_eq_getElem hil⟩
        have hel : (pkF t.S t.a)[i]? = some ⟨((t.a + i : Nat) : Int), x⟩ := by rw [pkF_at, hx0]; rfl
        have hk0 : t'.S[t.a + i]? = some x := by rw [hst.out.1]; exact hx0
        obtain ⟨ga, ofa, p0, _, hA, _⟩ := hcp.rr.elem hlt2
        obtain ⟨k, hk⟩ : ∃ k : Int, ((t.a + i : Nat) : Int) = k := ⟨_, rfl⟩
        have hr2 : wr.rangeAt ga (ofa + i * 2) (pA ⟨k, x⟩).toList := by
          rw [hk] at hel
          exact RR.elemAt hcp.rr hel hA
        have HK := Lib.hid hk
        have HA := Lib.hid hA
        clear hel hx0 hil hk hA
        have hA := HA.out
        subst hA
        clear HA
        go_wp2_with (first | ((with_reducible refine st_elem 30 _ ga (ofa + i * 2) (pA ⟨k, x⟩) ?_ hr2 Try.underlying30 ?_ ?_ ?_); exact rfl; exact rfl; exact Try.zPk) | ((with_reducible refine st_alloc 30 (pA zeroP) ?_ ?_); exact zero_pk))
        refine ⟨fun V301 g301 n301 f301 => ?_⟩
        have up301 : wr.heap.size ≤ g301 := Nat.le_of_eq f301.at_
        have bl301 := f301.bel
        clear f301
        have l303 := le_tr (Below.refl _ _) bl301
        clear bl301
        go_wp2_with (first | ((with_reducible refine st_store 30 _ _ g301 (pA ⟨k, x⟩) ?_ ?_ n301 ?_ ?_ ?_ ?_); exact rfl; exact rfl; exact Try.zPk; exact rfl; exact pA_one _))
        refine ⟨fun V304 n304 k304 => ?_⟩
        have o304 := k304.bel _ _ l303 up301
        clear k304
        clear n301 l303
        go_wp2_with (first | ((with_reducible refine st_load 30 _ g301 ?_ n304 Try.underlying30 ?_ ?_ ?_); exact rfl; exact rfl; exact Try.zPk))
        have tx5 := TX.on hx o304
        have cp5 := SO.on hcp o304
        have hl5 : t'.S.length ≤ 1000 := by rw [hst.out.1]; exact J9.out
        have H5 := hear_k w V304 b t' tx5 ho.out hl5 (t.a + i) x hk0
        rw [HK.out] at H5
        (with_reducible refine H5.mono ?_)
        rintro e u9 ⟨rfl, hx5, hp5⟩
        have cp6 := SO.ps cp5 hp5
        clear H5 hp5 cp5 tx5 hx hcp
        go_wp2_with fail
        go_roundw
        case rel => exact ⟨i + 1, heT t' (t.a + i), by omega, by go_num, hx5, Lib.hid ⟨(heT_S _ _).trans hst.out.1, (heT_a _ _).trans hst.out.2⟩, Lib.hid (heT_ok ho.out (by rw [hst.out.1]; have := M0.out; omega)), Lib.hid (by have := hh'.out; unfold heT; split <;> (try simp only) <;> omega), cp6⟩
        case measure => simp [intOf]; omega
      obtain rfl : i = n0 := by omega
      clear hcp hlt2
      have hE : t'.h = t'.S.length := by have := hh'.out; have := M0.out; have := hok.out.1; have := hok.out.2.1; have := ho.out.2.1; rw [hst.out.1] at this ⊢; omega
      have HE := Lib.hid hE
      have J5 := Lib.hid (show t'.S.length < 1000 by rw [hst.out.1]; have := hle.out; omega)
      clear hE
      go_wp2_with (first | ((with_reducible refine st_builtn 45 0 _ (.int .u8 3) (sA ⟨3, ByteArray.empty, 0⟩) ?_ ?_ ?_); exact rfl; exact built_s 3))
      (with_reducible refine (step_c w wr b t' hx ho.out J5.out ⟨3, ByteArray.empty, 0⟩ (by decide) (by decide)).mono ?_)
      rintro e u7 ⟨rfl, t2, hx7, ho7, _, hi7⟩
      obtain rfl := hi7 rfl
      have Ho7 := Lib.hid ho7
      clear hx ho7 hi7
      go_wp2_with fail
      have y301 := Lib.hid (show (fun V : World => True) u7.drew from trivial)
      refine wp_region_held_drew (S := (fun V : World => True)) (by kernel_rfl) y301.out (fun hHeld => ?_)
      obtain ⟨D301, hD301⟩ : ∃ V, u7.drew = V := ⟨_, rfl⟩
      have b301 : Below u7.heap.size u7 D301 := by rw [← hD301]; exact le_dr (Below.refl _ _)
      rw [hD301]
      clear hD301
      have r303_tx := (hx7).on b301
      have l303 := le_tr (TX.low hx7) b301
      clear hx7
      clear b301
      refine wpAnyH_takeL (i := 0) (d := some 57) (v := .bool true) rfl rfl (by kernel_rfl) (by kernel_rfl) (by kernel_rfl) (fun _ _ _ h => h) (Or.inl ⟨by rfl, ?_⟩) hHeld ?_
      · intro w hSw; (try dsimp only at hSw); go_simp
      try simp only [Act.put, List.setIfInBounds_toArray, List.set_cons_zero, List.set_cons_succ]
      refine wpAnyH_takeL (i := 1) (d := some 58) (v := .bool true) rfl rfl (by kernel_rfl) (by kernel_rfl) (by kernel_rfl) (fun _ _ _ h => h) (Or.inl ⟨by rfl, ?_⟩) hHeld ?_
      · intro w hSw; (try dsimp only at hSw); go_simp
      try simp only [Act.put, List.setIfInBounds_toArray, List.set_cons_zero, List.set_cons_succ]
      refine wpAnyH_takeL (i := 2) (d := some 59) (v := .pointer (some ⟨b, 0, none⟩)) rfl rfl (by kernel_rfl) (by kernel_rfl) (by kernel_rfl) (fun _ _ _ h => h) (Or.inl ⟨by rfl, ?_⟩) hHeld ?_
      · intro w hSw; (try dsimp only at hSw); go_simp
      try simp only [Act.put, List.setIfInBounds_toArray, List.set_cons_zero, List.set_cons_succ]
      refine wpAnyH_ready (rs := [3]) (by kernel_rfl) (by simp) ?_
      refine AllReadyH.cons rfl (fun K hK => ?_) AllReadyH.nil
      go_simp
      (with_reducible refine (begins_c w D301 b ⟨t'.S, t'.h, t'.h⟩ r303_tx Ho7.out).mono ?_)
      rintro e u304 ⟨rfl, b304⟩
      have hx304 := TX.on r303_tx b304
      clear b304 r303_tx
      go_wp2_with fail
      have hx9 := hx304
      obtain ⟨⟨⟨ny, B0, k0, d0, rn⟩, hz, B1, k1, d1, B2, k2, d2, B3, k3, d3⟩, H0, H1, H2, H3, ht⟩ := hx9
      obtain ⟨kcb, _, _, _, s0, s1, s2, _, _, _, _, _⟩ := ht
      simp only at s0 s1 s2
      have m0 := s0.len
      rw [pkF_len] at m0
      have m1 := s1.len
      have m2 := s2.len
      rw [List.length_take] at m2
      have qa : ((k2 : Int) == (k1 : Int)) = true := by have := HE.out; simp only [beq_iff_eq]; omega
      have qb : ((k0 : Int) == 0) = true := by have := HE.out; simp only [beq_iff_eq]; omega
      clear s0 s1 s2 m0 m1 m2
      have y305 := Lib.hid (show (fun V : World => True) u304 from trivial)
      refine hK.out _ _ y305.out (fun hHeld => ?_)
      clear hK K y305
      try simp only [Act.put, List.setIfInBounds_toArray, List.set_cons_zero, List.set_cons_succ]
      refine wpAnyH_takeL (i := 4) (d := some 61) (v := .bool true) rfl rfl (by kernel_rfl) (by kernel_rfl) (by kernel_rfl) (fun _ _ _ h => h) (Or.inl ⟨by rfl, ?_⟩) hHeld ?_
      · intro w hSw; (try dsimp only at hSw); go_simp
      try simp only [Act.put, List.setIfInBounds_toArray, List.set_cons_zero, List.set_cons_succ]
      refine wpAnyH_takeL (i := 5) (d := some 62) (v := .bool true) rfl rfl (by kernel_rfl) (by kernel_rfl) (by kernel_rfl) (fun _ _ _ h => h) (Or.inl ⟨by rfl, ?_⟩) hHeld ?_
      · intro w hSw; (try dsimp only at hSw); go_simp
      try simp only [Act.put, List.setIfInBounds_toArray, List.set_cons_zero, List.set_cons_succ]
      refine wpAnyH_takeL (i := 6) (d := some 63) (v := .pointer (some ⟨b, 0, none⟩)) rfl rfl (by kernel_rfl) (by kernel_rfl) (by kernel_rfl) (fun _ _ _ h => h) (Or.inl ⟨by rfl, ?_⟩) hHeld ?_
      · intro w hSw; (try dsimp only at hSw); go_simp
      try simp only [Act.put, List.setIfInBounds_toArray, List.set_cons_zero, List.set_cons_succ]
      refine wpAnyH_takeL (i := 7) (d := some 64) (v := .pointer (some ⟨b, 0, none⟩)) rfl rfl (by kernel_rfl) (by kernel_rfl) (by kernel_rfl) (fun _ _ _ h => h) (Or.inl ⟨by rfl, ?_⟩) hHeld ?_
      · intro w hSw; (try dsimp only at hSw); go_simp
      try simp only [Act.put, List.setIfInBounds_toArray, List.set_cons_zero, List.set_cons_succ]
      refine wpAnyH_takeL (i := 8) (d := some 65) (v := .pointer (some ⟨b, 5, none⟩)) rfl rfl (by kernel_rfl) (by kernel_rfl) (by kernel_rfl) (fun _ _ _ h => h) (Or.inl ⟨by rfl, ?_⟩) hHeld ?_
      · intro w hSw; (try dsimp only at hSw); go_simp
      try simp only [Act.put, List.setIfInBounds_toArray, List.set_cons_zero, List.set_cons_succ]
      refine wpAnyH_takeL (i := 11) (d := some 68) (v := .pointer (some ⟨b, 0, none⟩)) rfl rfl (by kernel_rfl) (by kernel_rfl) (by kernel_rfl) (fun _ _ _ h => h) (Or.inl ⟨by rfl, ?_⟩) hHeld ?_
      · intro w hSw; (try dsimp only at hSw); go_simp
      try simp only [Act.put, List.setIfInBounds_toArray, List.set_cons_zero, List.set_cons_succ]
      refine wpAnyH_takeL (i := 12) (d := some 69) (v := .pointer (some ⟨b, 0, none⟩)) rfl rfl (by kernel_rfl) (by kernel_rfl) (by kernel_rfl) (fun _ _ _ h => h) (Or.inl ⟨by rfl, ?_⟩) hHeld ?_
      · intro w hSw; (try dsimp only at hSw); go_simp
      try simp only [Act.put, List.setIfInBounds_toArray, List.set_cons_zero, List.set_cons_succ]
      refine wpAnyH_takeL (i := 13) (d := some 70) (v := .pointer (some ⟨b, 4, none⟩)) rfl rfl (by kernel_rfl) (by kernel_rfl) (by kernel_rfl) (fun _ _ _ h => h) (Or.inl ⟨by rfl, ?_⟩) hHeld ?_
      · intro w hSw; (try dsimp only at hSw); go_simp
      try simp only [Act.put, List.setIfInBounds_toArray, List.set_cons_zero, List.set_cons_succ]
      refine wpAnyH_ready (rs := [9, 14]) (by kernel_rfl) (by simp) ?_
      refine AllReadyH.cons rfl (fun K hK => ?_) (AllReadyH.cons rfl (fun K hK => ?_) AllReadyH.nil)
      · skip
        refine rd_loadG rfl 40 _ rfl (some 66) rfl (.slice B2 k2 d2) b (5) rfl (ld_ss (CB.cell kcb 5)) ?_
        refine ⟨?_⟩
        have y306 := Lib.hid (show (fun V : World => True) u304 from trivial)
        refine hK.out _ _ y306.out (fun hHeld => ?_)
        clear hK K y306
        try simp only [Act.put, List.setIfInBounds_toArray, List.set_cons_zero, List.set_cons_succ]
        refine wpAnyH_takeL (i := 10) (d := some 67) (v := .int .i64 (k2 : Int)) rfl rfl (by kernel_rfl) (by kernel_rfl) (by kernel_rfl) (fun _ _ _ h => h) (Or.inl ⟨by rfl, ?_⟩) hHeld ?_
        · intro w hSw; (try dsimp only at hSw); go_simp
        try simp only [Act.put, List.setIfInBounds_toArray, List.set_cons_zero, List.set_cons_succ]
        refine wpAnyH_ready (rs := [14]) (by kernel_rfl) (by simp) ?_
        refine AllReadyH.cons rfl (fun K hK => ?_) AllReadyH.nil
        refine rd_loadG rfl 40 _ rfl (some 71) rfl (.slice B1 k1 d1) b (4) rfl (ld_ss (CB.cell kcb 4)) ?_
        refine ⟨?_⟩
        have y307 := Lib.hid (show (fun V : World => True) u304 from trivial)
        refine hK.out _ _ y307.out (fun hHeld => ?_)
        clear hK K y307
        try simp only [Act.put, List.setIfInBounds_toArray, List.set_cons_zero, List.set_cons_succ]
        refine wpAnyH_takeL (i := 15) (d := some 72) (v := .int .i64 (k1 : Int)) rfl rfl (by kernel_rfl) (by kernel_rfl) (by kernel_rfl) (fun _ _ _ h => h) (Or.inl ⟨by rfl, ?_⟩) hHeld ?_
        · intro w hSw; (try dsimp only at hSw); go_simp
        try simp only [Act.put, List.setIfInBounds_toArray, List.set_cons_zero, List.set_cons_succ]
        refine wpAnyH_takeL (i := 16) (d := some 73) (v := .bool true) rfl rfl (by kernel_rfl) (by kernel_rfl) (by kernel_rfl) (fun _ _ _ h => h) (Or.inl ⟨by rfl, ?_⟩) hHeld ?_
        · intro w hSw; (try dsimp only at hSw); go_simp
        try simp only [Act.put, List.setIfInBounds_toArray, List.set_cons_zero, List.set_cons_succ]
        refine wpAnyH_takeL (i := 17) (d := some 74) (v := .bool true) rfl rfl (by kernel_rfl) (by kernel_rfl) (by kernel_rfl) (fun _ _ _ h => h) (Or.inl ⟨by rfl, ?_⟩) hHeld ?_
        · intro w hSw; (try dsimp only at hSw); go_simp
        try simp only [Act.put, List.setIfInBounds_toArray, List.set_cons_zero, List.set_cons_succ]
        refine wpAnyH_takeL (i := 18) (d := some 75) (v := .bool true) rfl rfl (by kernel_rfl) (by kernel_rfl) (by kernel_rfl) (fun _ _ _ h => h) (Or.inl ⟨by rfl, ?_⟩) hHeld ?_
        · intro w hSw; (try dsimp only at hSw); go_simp
        try simp only [Act.put, List.setIfInBounds_toArray, List.set_cons_zero, List.set_cons_succ]
        refine wpAnyH_takeL (i := 19) (d := some 76) (v := .pointer (some ⟨b, 0, none⟩)) rfl rfl (by kernel_rfl) (by kernel_rfl) (by kernel_rfl) (fun _ _ _ h => h) (Or.inl ⟨by rfl, ?_⟩) hHeld ?_
        · intro w hSw; (try dsimp only at hSw); go_simp
        try simp only [Act.put, List.setIfInBounds_toArray, List.set_cons_zero, List.set_cons_succ]
        refine wpAnyH_takeL (i := 20) (d := some 77) (v := .pointer (some ⟨b, 0, none⟩)) rfl rfl (by kernel_rfl) (by kernel_rfl) (by kernel_rfl) (fun _ _ _ h => h) (Or.inl ⟨by rfl, ?_⟩) hHeld ?_
        · intro w hSw; (try dsimp only at hSw); go_simp
        try simp only [Act.put, List.setIfInBounds_toArray, List.set_cons_zero, List.set_cons_succ]
        refine wpAnyH_takeL (i := 21) (d := some 78) (v := .pointer (some ⟨b, 0, none⟩)) rfl rfl (by kernel_rfl) (by kernel_rfl) (by kernel_rfl) (fun _ _ _ h => h) (Or.inl ⟨by rfl, ?_⟩) hHeld ?_
        · intro w hSw; (try dsimp only at hSw); go_simp
        try simp only [Act.put, List.setIfInBounds_toArray, List.set_cons_zero, List.set_cons_succ]
        refine wpAnyH_takeL (i := 22) (d := some 79) (v := .pointer (some ⟨b, 1, none⟩)) rfl rfl (by kernel_rfl) (by kernel_rfl) (by kernel_rfl) (fun _ _ _ h => h) (Or.inl ⟨by rfl, ?_⟩) hHeld ?_
        · intro w hSw; (try dsimp only at hSw); go_simp
        try simp only [Act.put, List.setIfInBounds_toArray, List.set_cons_zero, List.set_cons_succ]
        refine wpAnyH_ready (rs := [23]) (by kernel_rfl) (by simp) ?_
        refine AllReadyH.cons rfl (fun K hK => ?_) AllReadyH.nil
        refine rd_loadG rfl 37 _ rfl (some 80) rfl (.slice B0 k0 d0) b (1) rfl (ld_pp (CB.cell kcb 1)) ?_
        refine ⟨?_⟩
        have y308 := Lib.hid (show (fun V : World => True) u304 from trivial)
        refine hK.out _ _ y308.out (fun hHeld => ?_)
        clear hK K y308
        try simp only [Act.put, List.setIfInBounds_toArray, List.set_cons_zero, List.set_cons_succ]
        refine wpAnyH_takeL (i := 24) (d := some 81) (v := .int .i64 (k0 : Int)) rfl rfl (by kernel_rfl) (by kernel_rfl) (by kernel_rfl) (fun _ _ _ h => h) (Or.inl ⟨by rfl, ?_⟩) hHeld ?_
        · intro w hSw; (try dsimp only at hSw); go_simp
        try simp only [Act.put, List.setIfInBounds_toArray, List.set_cons_zero, List.set_cons_succ]
        refine wpAnyH_takeL (i := 25) (d := some 82) (v := .bool true) rfl rfl (by kernel_rfl) (by kernel_rfl) (by kernel_rfl) (fun _ _ _ h => h) (Or.inl ⟨by rfl, ?_⟩) hHeld ?_
        · intro w hSw; (try dsimp only at hSw); go_simp
        try simp only [Act.put, List.setIfInBounds_toArray, List.set_cons_zero, List.set_cons_succ]
        refine wpAnyH_takeL (i := 26) (d := some 83) (v := .bool true) rfl rfl (by kernel_rfl) (by kernel_rfl) (by kernel_rfl) (fun _ _ _ h => h) (Or.inl ⟨by rfl, ?_⟩) hHeld ?_
        · intro w hSw; (try dsimp only at hSw); go_simp
        try simp only [Act.put, List.setIfInBounds_toArray, List.set_cons_zero, List.set_cons_succ]
        refine wpAnyH_takeL (i := 27) (d := some 2) (v := .bool true) rfl rfl (by kernel_rfl) (by kernel_rfl) (by kernel_rfl) (fun _ _ _ h => h) (Or.inl ⟨by rfl, ?_⟩) hHeld ?_
        · intro w hSw; (try dsimp only at hSw); go_simp
        try simp only [Act.put, List.setIfInBounds_toArray, List.set_cons_zero, List.set_cons_succ]
        refine wpAnyH_done (by kernel_rfl) ?_ _
        go_wp2_with fail
        go_ret
        exact ⟨rfl, (TX.low hx304)⟩
      · skip
        refine rd_loadG rfl 40 _ rfl (some 71) rfl (.slice B1 k1 d1) b (4) rfl (ld_ss (CB.cell kcb 4)) ?_
        refine ⟨?_⟩
        have y306 := Lib.hid (show (fun V : World => True) u304 from trivial)
        refine hK.out _ _ y306.out (fun hHeld => ?_)
        clear hK K y306
        try simp only [Act.put, List.setIfInBounds_toArray, List.set_cons_zero, List.set_cons_succ]
        refine wpAnyH_takeL (i := 15) (d := some 72) (v := .int .i64 (k1 : Int)) rfl rfl (by kernel_rfl) (by kernel_rfl) (by kernel_rfl) (fun _ _ _ h => h) (Or.inl ⟨by rfl, ?_⟩) hHeld ?_
        · intro w hSw; (try dsimp only at hSw); go_simp
        try simp only [Act.put, List.setIfInBounds_toArray, List.set_cons_zero, List.set_cons_succ]
        refine wpAnyH_ready (rs := [9]) (by kernel_rfl) (by simp) ?_
        refine AllReadyH.cons rfl (fun K hK => ?_) AllReadyH.nil
        refine rd_loadG rfl 40 _ rfl (some 66) rfl (.slice B2 k2 d2) b (5) rfl (ld_ss (CB.cell kcb 5)) ?_
        refine ⟨?_⟩
        have y307 := Lib.hid (show (fun V : World => True) u304 from trivial)
        refine hK.out _ _ y307.out (fun hHeld => ?_)
        clear hK K y307
        try simp only [Act.put, List.setIfInBounds_toArray, List.set_cons_zero, List.set_cons_succ]
        refine wpAnyH_takeL (i := 10) (d := some 67) (v := .int .i64 (k2 : Int)) rfl rfl (by kernel_rfl) (by kernel_rfl) (by kernel_rfl) (fun _ _ _ h => h) (Or.inl ⟨by rfl, ?_⟩) hHeld ?_
        · intro w hSw; (try dsimp only at hSw); go_simp
        try simp only [Act.put, List.setIfInBounds_toArray, List.set_cons_zero, List.set_cons_succ]
        refine wpAnyH_takeL (i := 16) (d := some 73) (v := .bool true) rfl rfl (by kernel_rfl) (by kernel_rfl) (by kernel_rfl) (fun _ _ _ h => h) (Or.inl ⟨by rfl, ?_⟩) hHeld ?_
        · intro w hSw; (try dsimp only at hSw); go_simp
        try simp only [Act.put, List.setIfInBounds_toArray, List.set_cons_zero, List.set_cons_succ]
        refine wpAnyH_takeL (i := 17) (d := some 74) (v := .bool true) rfl rfl (by kernel_rfl) (by kernel_rfl) (by kernel_rfl) (fun _ _ _ h => h) (Or.inl ⟨by rfl, ?_⟩) hHeld ?_
        · intro w hSw; (try dsimp only at hSw); go_simp
        try simp only [Act.put, List.setIfInBounds_toArray, List.set_cons_zero, List.set_cons_succ]
        refine wpAnyH_takeL (i := 18) (d := some 75) (v := .bool true) rfl rfl (by kernel_rfl) (by kernel_rfl) (by kernel_rfl) (fun _ _ _ h => h) (Or.inl ⟨by rfl, ?_⟩) hHeld ?_
        · intro w hSw; (try dsimp only at hSw); go_simp
        try simp only [Act.put, List.setIfInBounds_toArray, List.set_cons_zero, List.set_cons_succ]
        refine wpAnyH_takeL (i := 19) (d := some 76) (v := .pointer (some ⟨b, 0, none⟩)) rfl rfl (by kernel_rfl) (by kernel_rfl) (by kernel_rfl) (fun _ _ _ h => h) (Or.inl ⟨by rfl, ?_⟩) hHeld ?_
        · intro w hSw; (try dsimp only at hSw); go_simp
        try simp only [Act.put, List.setIfInBounds_toArray, List.set_cons_zero, List.set_cons_succ]
        refine wpAnyH_takeL (i := 20) (d := some 77) (v := .pointer (some ⟨b, 0, none⟩)) rfl rfl (by kernel_rfl) (by kernel_rfl) (by kernel_rfl) (fun _ _ _ h => h) (Or.inl ⟨by rfl, ?_⟩) hHeld ?_
        · intro w hSw; (try dsimp only at hSw); go_simp
        try simp only [Act.put, List.setIfInBounds_toArray, List.set_cons_zero, List.set_cons_succ]
        refine wpAnyH_takeL (i := 21) (d := some 78) (v := .pointer (some ⟨b, 0, none⟩)) rfl rfl (by kernel_rfl) (by kernel_rfl) (by kernel_rfl) (fun _ _ _ h => h) (Or.inl ⟨by rfl, ?_⟩) hHeld ?_
        · intro w hSw; (try dsimp only at hSw); go_simp
        try simp only [Act.put, List.setIfInBounds_toArray, List.set_cons_zero, List.set_cons_succ]
        refine wpAnyH_takeL (i := 22) (d := some 79) (v := .pointer (some ⟨b, 1, none⟩)) rfl rfl (by kernel_rfl) (by kernel_rfl) (by kernel_rfl) (fun _ _ _ h => h) (Or.inl ⟨by rfl, ?_⟩) hHeld ?_
        · intro w hSw; (try dsimp only at hSw); go_simp
        try simp only [Act.put, List.setIfInBounds_toArray, List.set_cons_zero, List.set_cons_succ]
        refine wpAnyH_ready (rs := [23]) (by kernel_rfl) (by simp) ?_
        refine AllReadyH.cons rfl (fun K hK => ?_) AllReadyH.nil
        refine rd_loadG rfl 37 _ rfl (some 80) rfl (.slice B0 k0 d0) b (1) rfl (ld_pp (CB.cell kcb 1)) ?_
        refine ⟨?_⟩
        have y308 := Lib.hid (show (fun V : World => True) u304 from trivial)
        refine hK.out _ _ y308.out (fun hHeld => ?_)
        clear hK K y308
        try simp only [Act.put, List.setIfInBounds_toArray, List.set_cons_zero, List.set_cons_succ]
        refine wpAnyH_takeL (i := 24) (d := some 81) (v := .int .i64 (k0 : Int)) rfl rfl (by kernel_rfl) (by kernel_rfl) (by kernel_rfl) (fun _ _ _ h => h) (Or.inl ⟨by rfl, ?_⟩) hHeld ?_
        · intro w hSw; (try dsimp only at hSw); go_simp
        try simp only [Act.put, List.setIfInBounds_toArray, List.set_cons_zero, List.set_cons_succ]
        refine wpAnyH_takeL (i := 25) (d := some 82) (v := .bool true) rfl rfl (by kernel_rfl) (by kernel_rfl) (by kernel_rfl) (fun _ _ _ h => h) (Or.inl ⟨by rfl, ?_⟩) hHeld ?_
        · intro w hSw; (try dsimp only at hSw); go_simp
        try simp only [Act.put, List.setIfInBounds_toArray, List.set_cons_zero, List.set_cons_succ]
        refine wpAnyH_takeL (i := 26) (d := some 83) (v := .bool true) rfl rfl (by kernel_rfl) (by kernel_rfl) (by kernel_rfl) (fun _ _ _ h => h) (Or.inl ⟨by rfl, ?_⟩) hHeld ?_
        · intro w hSw; (try dsimp only at hSw); go_simp
        try simp only [Act.put, List.setIfInBounds_toArray, List.set_cons_zero, List.set_cons_succ]
        refine wpAnyH_takeL (i := 27) (d := some 2) (v := .bool true) rfl rfl (by kernel_rfl) (by kernel_rfl) (by kernel_rfl) (fun _ _ _ h => h) (Or.inl ⟨by rfl, ?_⟩) hHeld ?_
        · intro w hSw; (try dsimp only at hSw); go_simp
        try simp only [Act.put, List.setIfInBounds_toArray, List.set_cons_zero, List.set_cons_succ]
        refine wpAnyH_done (by kernel_rfl) ?_ _
        go_wp2_with fail
        go_ret
        exact ⟨rfl, (TX.low hx304)⟩
end Go.Proofs.Ytemhfaodgofcpaa
