/-
  The law PartyOnce, walked. Condition: the steps can be read, their numbers are in their types' range.
-/
import Derived.Test.YtemhfaodgofcpaaPaQ0
set_option linter.unusedVariables false
set_option linter.unusedSimpArgs false
namespace Go.Proofs.Ytemhfaodgofcpaa
open Go.RowKit

set_option maxRecDepth 100000 in
set_option maxHeartbeats 8000000 in
theorem once_walk (A : Option Addr) (n c : Nat) (L : List Sp) (w : World) (h : RR w zcl 3 A n c L) (hbd : ∀ x ∈ L, x.kd < 256 ∧ x.at_ < 65536) : Calls Try.prog 4 #[.slice A n c] w fun r w' => r = .returned (.bool true) ∧ Below w.heap.size w w' := by
  have hlen := Lib.hid h.len
  have hl := RL.start h
  have h0rr := h
  have hmx := hl.max
  have HB := Lib.hid hbd
  clear h hbd
  go_enter Try.func4, Try.ntmps4
  go_wp2_with fail
  (with_reducible refine (alive_c _).mono ?_)
  rintro e w1 ⟨rfl, b1⟩
  have r3_l := (hl).on b1
  have l3 := le_tr (Below.refl _ _) b1
  clear hl
  clear b1
  go_wp2_with (first | ((with_reducible refine st_builtn 39 2 _ (.int .i64 9) (oA ⟨0, none, 0, 0, 9⟩) ?_ ?_ ?_); exact rfl; exact built_or _) | ((with_reducible refine st_builtn 42 0 _ (.agg (oA ⟨0, none, 0, 0, 9⟩)) (kA ⟨⟨0, none, 0, 0, 9⟩, 0, none, 0, 0, none, 0, 0, none, 0, 0⟩) ?_ ?_ ?_); exact rfl; exact built_k _) | ((with_reducible refine st_box 42 _ (kA ⟨⟨0, none, 0, 0, 9⟩, 0, none, 0, 0, none, 0, 0, none, 0, 0⟩) ?_ ?_); exact rfl))
  refine ⟨fun V4 g4 n4 f4 => ?_⟩
  have up4 : w.heap.size ≤ g4 := f4.up l3
  have bl4 := f4.bel
  clear f4
  have r6_l := (r3_l).on bl4
  have l6 := le_tr l3 bl4
  clear r3_l l3
  clear bl4
  go_wp2_with fail
  have htx := TX.start n4 l6 up4
  obtain ⟨b, hbb⟩ : ∃ b, g4 = b := ⟨_, rfl⟩
  rw [hbb] at htx ⊢
  clear n4 l6 up4 hbb
  go_loopw [4] (fun iv wr => ∃ (j : Nat) (t : Tk), j ≤ n ∧ j ≤ 300 ∧ iv = .int .i64 j ∧ TX w wr b t ∧ RL w wr zcl 3 A n c L ∧ Hid (OkT 9 t) ∧ Hid (t.S.length ≤ j)) (fun iv _ => n - (intOf iv).toNat)
  case atStart => exact ⟨0, ⟨[], 0, 0⟩, by omega, by omega, rfl, htx, r6_l, Lib.hid okT_0, Lib.hid (by simp)⟩
  case round =>
    clear htx r6_l
    obtain ⟨j, t, hj, hj3, rfl, htx, hl2, hok, hle⟩ := hrel
    by_cases hlt : j < n
    · have l1 : (j : Int) < (n : Int) := by omega
      have l2 : (0 : Int) ≤ (j : Int) := by omega
      by_cases h3 : j < 300
      · obtain ⟨ga, ofa, s, hs, rfl, hr⟩ := hl2.rr.elem hlt
        obtain ⟨kd, x, at_⟩ := s
        obtain ⟨hkd, hat⟩ := HB.out _ (List.mem_of_getElem? hs)
        simp only at hkd hat
        have cx : wr.cell? ⟨ga, ofa + j * 3 + 1, none⟩ = some (.string x) := hr 1 _ rfl
        have l3 : (j : Int) < 300 := by omega
        have l4 : decide ((j : Int) < 300) = true := by simp; omega
        by_cases h6 : x.size ≤ 600
        · skip
          have q1 : decide ((600 : Int) < (x.size : Int)) = false := by simp; omega
          have q1' : decide ((x.size : Int) > 600) = false := by simp; omega
          have hr2 : wr.rangeAt ga (ofa + j * 3) (sA ⟨kd, x, at_⟩).toList := hr
          clear hr
          go_wp2_with fail
          clear cx
          have y101 := Lib.hid (show (fun V : World => True) wr.drew from trivial)
          refine wp_region_held_drew (S := (fun V : World => True)) (by kernel_rfl) y101.out (fun hHeld => ?_)
          obtain ⟨D101, hD101⟩ : ∃ V, wr.drew = V := ⟨_, rfl⟩
          have b101 : Below wr.heap.size wr D101 := by rw [← hD101]; exact le_dr (Below.refl _ _)
          rw [hD101]
          clear hD101
          have r103_tx := (htx).on b101
          have r103_l := (hl2).on b101
          have l103 := le_tr (TX.low htx) b101
          clear htx hl2
          clear b101
          refine wpAnyH_takeL (i := 0) (d := some 27) (v := .pointer (some ⟨b, 0, none⟩)) rfl rfl (by kernel_rfl) (by kernel_rfl) (by kernel_rfl) (fun _ _ _ h => h) (Or.inl ⟨by rfl, ?_⟩) hHeld ?_
          · intro w hSw; (try dsimp only at hSw); go_simp
          try simp only [Act.put, List.setIfInBounds_toArray, List.set_cons_zero, List.set_cons_succ]
          refine wpAnyH_takeL (i := 1) (d := some 28) (v := .slice (some ⟨ga, ofa, none⟩) n c) rfl rfl (by kernel_rfl) (by kernel_rfl) (by kernel_rfl) (fun _ _ _ h => h) (Or.inl ⟨by rfl, ?_⟩) hHeld ?_
          · intro w hSw; (try dsimp only at hSw); go_simp
          try simp only [Act.put, List.setIfInBounds_toArray, List.set_cons_zero, List.set_cons_succ]
          refine wpAnyH_takeL (i := 2) (d := some 29) (v := .int .i64 (j : Int)) rfl rfl (by kernel_rfl) (by kernel_rfl) (by kernel_rfl) (fun _ _ _ h => h) (Or.inl ⟨by rfl, ?_⟩) hHeld ?_
          · intro w hSw; (try dsimp only at hSw); go_simp
          try simp only [Act.put, List.setIfInBounds_toArray, List.set_cons_zero, List.set_cons_succ]
          refine wpAnyH_takeL (i := 3) (d := some 30) (v := .pointer (some ⟨ga, ofa + j * 3, none⟩)) rfl rfl (by kernel_rfl) (by kernel_rfl) (by kernel_rfl) (fun _ _ _ h => h) (Or.inl ⟨by rfl, ?_⟩) hHeld ?_
          · intro w hSw; (try dsimp only at hSw); go_simp
          try simp only [Act.put, List.setIfInBounds_toArray, List.set_cons_zero, List.set_cons_succ]
          refine wpAnyH_ready (rs := [4]) (by kernel_rfl) (by simp) ?_
          refine AllReadyH.cons rfl (fun K hK => ?_) AllReadyH.nil
          have hr3 : D101.rangeAt ga (ofa + j * 3) (sA ⟨kd, x, at_⟩).toList := RR.elemAt r103_l.rr hs rfl
          refine rd_load rfl 45 _ rfl (some 31) rfl (.agg (sA ⟨kd, x, at_⟩)) ga (ofa + j * 3) rfl (ld_el 45 ga (ofa + j * 3) (sA ⟨kd, x, at_⟩) hr3 Try.underlying45 rfl Try.zSp) ?_
          refine ⟨?_⟩
          clear hr3
          have y104 := Lib.hid (show (fun V : World => True) D101 from trivial)
          refine hK.out _ _ y104.out (fun hHeld => ?_)
          clear hK K y104
          try simp only [Act.put, List.setIfInBounds_toArray, List.set_cons_zero, List.set_cons_succ]
          refine wpAnyH_ready (rs := [5]) (by kernel_rfl) (by simp) ?_
          refine AllReadyH.cons rfl (fun K hK => ?_) AllReadyH.nil
          go_simp
          (with_reducible refine (step_c w D101 b t r103_tx hok.out (by have := hle.out; omega) ⟨kd, x, at_⟩ hkd hat).mono ?_)
          rintro e u105 ⟨rfl, t2, hx105, ho105, hl105, _⟩
          have ho2 := Lib.hid ho105
          have hle2 := Lib.hid hl105
          have rl105 := RL.low r103_l (TX.low hx105) h0rr
          clear ho105 hl105 r103_tx r103_l
          go_wp2_with fail
          have y106 := Lib.hid (show (fun V : World => True) u105 from trivial)
          refine hK.out _ _ y106.out (fun hHeld => ?_)
          clear hK K y106
          try simp only [Act.put, List.setIfInBounds_toArray, List.set_cons_zero, List.set_cons_succ]
          refine wpAnyH_takeL (i := 6) (d := some 33) (v := .bool false) rfl rfl (by kernel_rfl) (by kernel_rfl) (by kernel_rfl) (fun _ _ _ h => h) (Or.inl ⟨by rfl, ?_⟩) hHeld ?_
          · intro w hSw; (try dsimp only at hSw); go_simp
          try simp only [Act.put, List.setIfInBounds_toArray, List.set_cons_zero, List.set_cons_succ]
          refine wpAnyH_takeL (i := 7) (d := some 34) (v := .bool false) rfl rfl (by kernel_rfl) (by kernel_rfl) (by kernel_rfl) (fun _ _ _ h => h) (Or.inl ⟨by rfl, ?_⟩) hHeld ?_
          · intro w hSw; (try dsimp only at hSw); go_simp
          try simp only [Act.put, List.setIfInBounds_toArray, List.set_cons_zero, List.set_cons_succ]
          refine wpAnyH_takeL (i := 8) (d := some 35) (v := .pointer (some ⟨b, 0, none⟩)) rfl rfl (by kernel_rfl) (by kernel_rfl) (by kernel_rfl) (fun _ _ _ h => h) (Or.inl ⟨by rfl, ?_⟩) hHeld ?_
          · intro w hSw; (try dsimp only at hSw); go_simp
          try simp only [Act.put, List.setIfInBounds_toArray, List.set_cons_zero, List.set_cons_succ]
          refine wpAnyH_ready (rs := [9]) (by kernel_rfl) (by simp) ?_
          refine AllReadyH.cons rfl (fun K hK => ?_) AllReadyH.nil
          go_simp
          (with_reducible refine (begins_c w u105 b t2 hx105 ho2.out).mono ?_)
          rintro e u107 ⟨rfl, b107⟩
          have hx107 := TX.on hx105 b107
          have rl107 := RL.on rl105 b107
          clear b107 hx105 rl105
          go_wp2_with fail
          have hx9 := hx107
          obtain ⟨⟨⟨nx, A0, n0, c0, rm⟩, hh, A1, n1, c1, A2, n2, c2, A3, n3, c3⟩, G0, G1, G2, G3, ht⟩ := hx9
          obtain ⟨kcb, e1, e2, e3, s0, s1, s2, s3, _, _, _, _⟩ := ht
          simp only at e1 e2 e3 s0 s2
          subst e2
          have m0 := s0.len
          rw [pkF_len] at m0
          have m2 := s2.len
          rw [List.length_take] at m2
          have hR : RightO ⟨nx, pkF t2.S t2.a, 9⟩ := by
            have := okT_right (r := 9) (by omega) (by have := hle.out; have := hle2.out; omega) ho2.out
            rw [e1]; exact this
          have j0 := ho2.out.1
          have j1 := ho2.out.2.1
          have j9 : t2.S.length ≤ 1000 := by have := hle.out; have := hle2.out; omega
          have qa : IntKind.i64.wrap (nx - (n0 : Int)) = nx - (n0 : Int) := IntWalk.i64_in _ (by omega)
          have qb : decide ((n2 : Int) < nx - (n0 : Int)) = false := by simp; omega
          have qb' : decide (nx - (n0 : Int) > (n2 : Int)) = false := by simp; omega
          clear s1 s2 s3 e1 e3 m0 m2 j0 j1 j9
          have y108 := Lib.hid (show (fun V : World => True) u107 from trivial)
          refine hK.out _ _ y108.out (fun hHeld => ?_)
          clear hK K y108
          try simp only [Act.put, List.setIfInBounds_toArray, List.set_cons_zero, List.set_cons_succ]
          refine wpAnyH_takeL (i := 10) (d := some 37) (v := .bool false) rfl rfl (by kernel_rfl) (by kernel_rfl) (by kernel_rfl) (fun _ _ _ h => h) (Or.inl ⟨by rfl, ?_⟩) hHeld ?_
          · intro w hSw; (try dsimp only at hSw); go_simp
          try simp only [Act.put, List.setIfInBounds_toArray, List.set_cons_zero, List.set_cons_succ]
          refine wpAnyH_takeL (i := 11) (d := some 38) (v := .bool false) rfl rfl (by kernel_rfl) (by kernel_rfl) (by kernel_rfl) (fun _ _ _ h => h) (Or.inl ⟨by rfl, ?_⟩) hHeld ?_
          · intro w hSw; (try dsimp only at hSw); go_simp
          try simp only [Act.put, List.setIfInBounds_toArray, List.set_cons_zero, List.set_cons_succ]
          refine wpAnyH_takeL (i := 12) (d := some 39) (v := .bool false) rfl rfl (by kernel_rfl) (by kernel_rfl) (by kernel_rfl) (fun _ _ _ h => h) (Or.inl ⟨by rfl, ?_⟩) hHeld ?_
          · intro w hSw; (try dsimp only at hSw); go_simp
          try simp only [Act.put, List.setIfInBounds_toArray, List.set_cons_zero, List.set_cons_succ]
          refine wpAnyH_takeL (i := 13) (d := some 40) (v := .pointer (some ⟨b, 0, none⟩)) rfl rfl (by kernel_rfl) (by kernel_rfl) (by kernel_rfl) (fun _ _ _ h => h) (Or.inl ⟨by rfl, ?_⟩) hHeld ?_
          · intro w hSw; (try dsimp only at hSw); go_simp
          try simp only [Act.put, List.setIfInBounds_toArray, List.set_cons_zero, List.set_cons_succ]
          refine wpAnyH_takeL (i := 14) (d := some 41) (v := .pointer (some ⟨b, 0, none⟩)) rfl rfl (by kernel_rfl) (by kernel_rfl) (by kernel_rfl) (fun _ _ _ h => h) (Or.inl ⟨by rfl, ?_⟩) hHeld ?_
          · intro w hSw; (try dsimp only at hSw); go_simp
          try simp only [Act.put, List.setIfInBounds_toArray, List.set_cons_zero, List.set_cons_succ]
          refine wpAnyH_takeL (i := 15) (d := some 42) (v := .pointer (some ⟨b, 0, none⟩)) rfl rfl (by kernel_rfl) (by kernel_rfl) (by kernel_rfl) (fun _ _ _ h => h) (Or.inl ⟨by rfl, ?_⟩) hHeld ?_
          · intro w hSw; (try dsimp only at hSw); go_simp
          try simp only [Act.put, List.setIfInBounds_toArray, List.set_cons_zero, List.set_cons_succ]
          refine wpAnyH_ready (rs := [16]) (by kernel_rfl) (by simp) ?_
          refine AllReadyH.cons rfl (fun K hK => ?_) AllReadyH.nil
          refine rd_loadG rfl 39 _ rfl (some 43) rfl (.agg (oA ⟨nx, A0, n0, c0, 9⟩)) b (0) rfl (ld_part 39 b 0 (pt := (oA ⟨nx, A0, n0, c0, 9⟩)) kcb (kA_po _) Try.underlying39 rfl Try.zOu) ?_
          refine ⟨?_⟩
          have y109 := Lib.hid (show (fun V : World => True) u107 from trivial)
          refine hK.out _ _ y109.out (fun hHeld => ?_)
          clear hK K y109
          try simp only [Act.put, List.setIfInBounds_toArray, List.set_cons_zero, List.set_cons_succ]
          refine wpAnyH_ready (rs := [17]) (by kernel_rfl) (by simp) ?_
          refine AllReadyH.cons rfl (fun K hK => ?_) AllReadyH.nil
          go_simp
          (with_reducible refine (right_t nx A0 n0 c0 (pkF t2.S t2.a) 9 _ (s0).rr hR).mono ?_)
          rintro e u110 ⟨rfl, b110⟩
          have r111_s0 := SO.on s0 b110
          have r112_k := le_on kcb b110
          have r112_tx := (hx107).on b110
          have r112_l := (rl107).on b110
          have l112 := le_tr (TX.low hx107) b110
          clear kcb hx107 rl107
          clear s0
          clear b110
          go_wp2_with fail
          have y113 := Lib.hid (show (fun V : World => True) u110 from trivial)
          refine hK.out _ _ y113.out (fun hHeld => ?_)
          clear hK K y113
          try simp only [Act.put, List.setIfInBounds_toArray, List.set_cons_zero, List.set_cons_succ]
          refine wpAnyH_takeL (i := 18) (d := some 45) (v := .bool false) rfl rfl (by kernel_rfl) (by kernel_rfl) (by kernel_rfl) (fun _ _ _ h => h) (Or.inl ⟨by rfl, ?_⟩) hHeld ?_
          · intro w hSw; (try dsimp only at hSw); go_simp
          try simp only [Act.put, List.setIfInBounds_toArray, List.set_cons_zero, List.set_cons_succ]
          refine wpAnyH_takeL (i := 19) (d := some 46) (v := .bool false) rfl rfl (by kernel_rfl) (by kernel_rfl) (by kernel_rfl) (fun _ _ _ h => h) (Or.inl ⟨by rfl, ?_⟩) hHeld ?_
          · intro w hSw; (try dsimp only at hSw); go_simp
          try simp only [Act.put, List.setIfInBounds_toArray, List.set_cons_zero, List.set_cons_succ]
          refine wpAnyH_takeL (i := 20) (d := some 47) (v := .bool false) rfl rfl (by kernel_rfl) (by kernel_rfl) (by kernel_rfl) (fun _ _ _ h => h) (Or.inl ⟨by rfl, ?_⟩) hHeld ?_
          · intro w hSw; (try dsimp only at hSw); go_simp
          try simp only [Act.put, List.setIfInBounds_toArray, List.set_cons_zero, List.set_cons_succ]
          refine wpAnyH_takeL (i := 21) (d := some 48) (v := .pointer (some ⟨b, 0, none⟩)) rfl rfl (by kernel_rfl) (by kernel_rfl) (by kernel_rfl) (fun _ _ _ h => h) (Or.inl ⟨by rfl, ?_⟩) hHeld ?_
          · intro w hSw; (try dsimp only at hSw); go_simp
          try simp only [Act.put, List.setIfInBounds_toArray, List.set_cons_zero, List.set_cons_succ]
          refine wpAnyH_takeL (i := 22) (d := some 49) (v := .pointer (some ⟨b, 0, none⟩)) rfl rfl (by kernel_rfl) (by kernel_rfl) (by kernel_rfl) (fun _ _ _ h => h) (Or.inl ⟨by rfl, ?_⟩) hHeld ?_
          · intro w hSw; (try dsimp only at hSw); go_simp
          try simp only [Act.put, List.setIfInBounds_toArray, List.set_cons_zero, List.set_cons_succ]
          refine wpAnyH_takeL (i := 23) (d := some 50) (v := .pointer (some ⟨b, 0, none⟩)) rfl rfl (by kernel_rfl) (by kernel_rfl) (by kernel_rfl) (fun _ _ _ h => h) (Or.inl ⟨by rfl, ?_⟩) hHeld ?_
          · intro w hSw; (try dsimp only at hSw); go_simp
          try simp only [Act.put, List.setIfInBounds_toArray, List.set_cons_zero, List.set_cons_succ]
          refine wpAnyH_takeL (i := 24) (d := some 51) (v := .pointer (some ⟨b, 0, none⟩)) rfl rfl (by kernel_rfl) (by kernel_rfl) (by kernel_rfl) (fun _ _ _ h => h) (Or.inl ⟨by rfl, ?_⟩) hHeld ?_
          · intro w hSw; (try dsimp only at hSw); go_simp
          try simp only [Act.put, List.setIfInBounds_toArray, List.set_cons_zero, List.set_cons_succ]
          refine wpAnyH_takeL (i := 26) (d := some 53) (v := .pointer (some ⟨b, 0, none⟩)) rfl rfl (by kernel_rfl) (by kernel_rfl) (by kernel_rfl) (fun _ _ _ h => h) (Or.inl ⟨by rfl, ?_⟩) hHeld ?_
          · intro w hSw; (try dsimp only at hSw); go_simp
          try simp only [Act.put, List.setIfInBounds_toArray, List.set_cons_zero, List.set_cons_succ]
          refine wpAnyH_takeL (i := 27) (d := some 54) (v := .pointer (some ⟨b, 0, none⟩)) rfl rfl (by kernel_rfl) (by kernel_rfl) (by kernel_rfl) (fun _ _ _ h => h) (Or.inl ⟨by rfl, ?_⟩) hHeld ?_
          · intro w hSw; (try dsimp only at hSw); go_simp
          try simp only [Act.put, List.setIfInBounds_toArray, List.set_cons_zero, List.set_cons_succ]
          refine wpAnyH_takeL (i := 28) (d := some 55) (v := .pointer (some ⟨b, 0, none⟩)) rfl rfl (by kernel_rfl) (by kernel_rfl) (by kernel_rfl) (fun _ _ _ h => h) (Or.inl ⟨by rfl, ?_⟩) hHeld ?_
          · intro w hSw; (try dsimp only at hSw); go_simp
          try simp only [Act.put, List.setIfInBounds_toArray, List.set_cons_zero, List.set_cons_succ]
          refine wpAnyH_takeL (i := 29) (d := some 56) (v := .pointer (some ⟨b, 1, none⟩)) rfl rfl (by kernel_rfl) (by kernel_rfl) (by kernel_rfl) (fun _ _ _ h => h) (Or.inl ⟨by rfl, ?_⟩) hHeld ?_
          · intro w hSw; (try dsimp only at hSw); go_simp
          try simp only [Act.put, List.setIfInBounds_toArray, List.set_cons_zero, List.set_cons_succ]
          refine wpAnyH_takeL (i := 33) (d := some 60) (v := .pointer (some ⟨b, 0, none⟩)) rfl rfl (by kernel_rfl) (by kernel_rfl) (by kernel_rfl) (fun _ _ _ h => h) (Or.inl ⟨by rfl, ?_⟩) hHeld ?_
          · intro w hSw; (try dsimp only at hSw); go_simp
          try simp only [Act.put, List.setIfInBounds_toArray, List.set_cons_zero, List.set_cons_succ]
          refine wpAnyH_takeL (i := 34) (d := some 61) (v := .pointer (some ⟨b, 0, none⟩)) rfl rfl (by kernel_rfl) (by kernel_rfl) (by kernel_rfl) (fun _ _ _ h => h) (Or.inl ⟨by rfl, ?_⟩) hHeld ?_
          · intro w hSw; (try dsimp only at hSw); go_simp
          try simp only [Act.put, List.setIfInBounds_toArray, List.set_cons_zero, List.set_cons_succ]
          refine wpAnyH_takeL (i := 35) (d := some 62) (v := .pointer (some ⟨b, 5, none⟩)) rfl rfl (by kernel_rfl) (by kernel_rfl) (by kernel_rfl) (fun _ _ _ h => h) (Or.inl ⟨by rfl, ?_⟩) hHeld ?_
          · intro w hSw; (try dsimp only at hSw); go_simp
          try simp only [Act.put, List.setIfInBounds_toArray, List.set_cons_zero, List.set_cons_succ]
          refine wpAnyH_ready (rs := [25, 30, 36]) (by kernel_rfl) (by simp) ?_
          refine AllReadyH.cons rfl (fun K hK => ?_) (AllReadyH.cons rfl (fun K hK => ?_) (AllReadyH.cons rfl (fun K hK => ?_) AllReadyH.nil))
          · skip
            refine rd_loadG rfl 3 _ rfl (some 52) rfl (.int .i64 nx) b (0) rfl (ld_i (CB.cell r112_k 0)) ?_
            refine ⟨?_⟩
            have y114 := Lib.hid (show (fun V : World => True) u110 from trivial)
            refine hK.out _ _ y114.out (fun hHeld => ?_)
            clear hK K y114
            try simp only [Act.put, List.setIfInBounds_toArray, List.set_cons_zero, List.set_cons_succ]
            refine wpAnyH_ready (rs := [30, 36]) (by kernel_rfl) (by simp) ?_
            refine AllReadyH.cons rfl (fun K hK => ?_) (AllReadyH.cons rfl (fun K hK => ?_) AllReadyH.nil)
            · skip
              refine rd_loadG rfl 37 _ rfl (some 57) rfl (.slice A0 n0 c0) b (1) rfl (ld_pp (CB.cell r112_k 1)) ?_
              refine ⟨?_⟩
              have y115 := Lib.hid (show (fun V : World => True) u110 from trivial)
              refine hK.out _ _ y115.out (fun hHeld => ?_)
              clear hK K y115
              try simp only [Act.put, List.setIfInBounds_toArray, List.set_cons_zero, List.set_cons_succ]
              refine wpAnyH_takeL (i := 31) (d := some 58) (v := .int .i64 (n0 : Int)) rfl rfl (by kernel_rfl) (by kernel_rfl) (by kernel_rfl) (fun _ _ _ h => h) (Or.inl ⟨by rfl, ?_⟩) hHeld ?_
              · intro w hSw; (try dsimp only at hSw); go_simp
              try simp only [Act.put, List.setIfInBounds_toArray, List.set_cons_zero, List.set_cons_succ]
              refine wpAnyH_takeL (i := 32) (d := some 59) (v := .int .i64 (nx - (n0 : Int))) rfl rfl (by kernel_rfl) (by kernel_rfl) (by kernel_rfl) (fun _ _ _ h => h) (Or.inl ⟨by rfl, ?_⟩) hHeld ?_
              · intro w hSw; (try dsimp only at hSw); go_simp
              try simp only [Act.put, List.setIfInBounds_toArray, List.set_cons_zero, List.set_cons_succ]
              refine wpAnyH_ready (rs := [36]) (by kernel_rfl) (by simp) ?_
              refine AllReadyH.cons rfl (fun K hK => ?_) AllReadyH.nil
              refine rd_loadG rfl 40 _ rfl (some 63) rfl (.slice A2 n2 c2) b (5) rfl (ld_ss (CB.cell r112_k 5)) ?_
              refine ⟨?_⟩
              have y116 := Lib.hid (show (fun V : World => True) u110 from trivial)
              refine hK.out _ _ y116.out (fun hHeld => ?_)
              clear hK K y116
              try simp only [Act.put, List.setIfInBounds_toArray, List.set_cons_zero, List.set_cons_succ]
              refine wpAnyH_takeL (i := 37) (d := some 64) (v := .int .i64 (n2 : Int)) rfl rfl (by kernel_rfl) (by kernel_rfl) (by kernel_rfl) (fun _ _ _ h => h) (Or.inl ⟨by rfl, ?_⟩) hHeld ?_
              · intro w hSw; (try dsimp only at hSw); go_simp
              try simp only [Act.put, List.setIfInBounds_toArray, List.set_cons_zero, List.set_cons_succ]
              refine wpAnyH_takeL (i := 38) (d := some 65) (v := .bool false) rfl rfl (by kernel_rfl) (by kernel_rfl) (by kernel_rfl) (fun _ _ _ h => h) (Or.inl ⟨by rfl, ?_⟩) hHeld ?_
              · intro w hSw; (try dsimp only at hSw); go_simp
              try simp only [Act.put, List.setIfInBounds_toArray, List.set_cons_zero, List.set_cons_succ]
              refine wpAnyH_takeL (i := 39) (d := some 66) (v := .bool false) rfl rfl (by kernel_rfl) (by kernel_rfl) (by kernel_rfl) (fun _ _ _ h => h) (Or.inl ⟨by rfl, ?_⟩) hHeld ?_
              · intro w hSw; (try dsimp only at hSw); go_simp
              try simp only [Act.put, List.setIfInBounds_toArray, List.set_cons_zero, List.set_cons_succ]
              refine wpAnyH_done (by kernel_rfl) ?_ _
              go_wp2_with fail
              go_roundw
              case rel => exact ⟨j + 1, t2, by omega, by omega, by go_num, r112_tx, r112_l, ho2, Lib.hid (by have := hle.out; have := hle2.out; omega)⟩
              case measure => simp [intOf]; omega
            · skip
              refine rd_loadG rfl 40 _ rfl (some 63) rfl (.slice A2 n2 c2) b (5) rfl (ld_ss (CB.cell r112_k 5)) ?_
              refine ⟨?_⟩
              have y115 := Lib.hid (show (fun V : World => True) u110 from trivial)
              refine hK.out _ _ y115.out (fun hHeld => ?_)
              clear hK K y115
              try simp only [Act.put, List.setIfInBounds_toArray, List.set_cons_zero, List.set_cons_succ]
              refine wpAnyH_takeL (i := 37) (d := some 64) (v := .int .i64 (n2 : Int)) rfl rfl (by kernel_rfl) (by kernel_rfl) (by kernel_rfl) (fun _ _ _ h => h) (Or.inl ⟨by rfl, ?_⟩) hHeld ?_
              · intro w hSw; (try dsimp only at hSw); go_simp
              try simp only [Act.put, List.setIfInBounds_toArray, List.set_cons_zero, List.set_cons_succ]
              refine wpAnyH_ready (rs := [30]) (by kernel_rfl) (by simp) ?_
              refine AllReadyH.cons rfl (fun K hK => ?_) AllReadyH.nil
              refine rd_loadG rfl 37 _ rfl (some 57) rfl (.slice A0 n0 c0) b (1) rfl (ld_pp (CB.cell r112_k 1)) ?_
              refine ⟨?_⟩
              have y116 := Lib.hid (show (fun V : World => True) u110 from trivial)
              refine hK.out _ _ y116.out (fun hHeld => ?_)
              clear hK K y116
              try simp only [Act.put, List.setIfInBounds_toArray, List.set_cons_zero, List.set_cons_succ]
              refine wpAnyH_takeL (i := 31) (d := some 58) (v := .int .i64 (n0 : Int)) rfl rfl (by kernel_rfl) (by kernel_rfl) (by kernel_rfl) (fun _ _ _ h => h) (Or.inl ⟨by rfl, ?_⟩) hHeld ?_
              · intro w hSw; (try dsimp only at hSw); go_simp
              try simp only [Act.put, List.setIfInBounds_toArray, List.set_cons_zero, List.set_cons_succ]
              refine wpAnyH_takeL (i := 32) (d := some 59) (v := .int .i64 (nx - (n0 : Int))) rfl rfl (by kernel_rfl) (by kernel_rfl) (by kernel_rfl) (fun _ _ _ h => h) (Or.inl ⟨by rfl, ?_⟩) hHeld ?_
              · intro w hSw; (try dsimp only at hSw); go_simp
              try simp only [Act.put, List.setIfInBounds_toArray, List.set_cons_zero, List.set_cons_succ]
              refine wpAnyH_takeL (i := 38) (d := some 65) (v := .bool false) rfl rfl (by kernel_rfl) (by kernel_rfl) (by kernel_rfl) (fun _ _ _ h => h) (Or.inl ⟨by rfl, ?_⟩) hHeld ?_
              · intro w hSw; (try dsimp only at hSw); go_simp
              try simp only [Act.put, List.setIfInBounds_toArray, List.set_cons_zero, List.set_cons_succ]
              refine wpAnyH_takeL (i := 39) (d := some 66) (v := .bool false) rfl rfl (by kernel_rfl) (by kernel_rfl) (by kernel_rfl) (fun _ _ _ h => h) (Or.inl ⟨by rfl, ?_⟩) hHeld ?_
              · intro w hSw; (try dsimp only at hSw); go_simp
              try simp only [Act.put, List.setIfInBounds_toArray, List.set_cons_zero, List.set_cons_succ]
              refine wpAnyH_done (by kernel_rfl) ?_ _
              go_wp2_with fail
              go_roundw
              case rel => exact ⟨j + 1, t2, by omega, by omega, by go_num, r112_tx, r112_l, ho2, Lib.hid (by have := hle.out; have := hle2.out; omega)⟩
              case measure => simp [intOf]; omega
          · skip
            refine rd_loadG rfl 37 _ rfl (some 57) rfl (.slice A0 n0 c0) b (1) rfl (ld_pp (CB.cell r112_k 1)) ?_
            refine ⟨?_⟩
            have y114 := Lib.hid (show (fun V : World => True) u110 from trivial)
            refine hK.out _ _ y114.out (fun hHeld => ?_)
            clear hK K y114
            try simp only [Act.put, List.setIfInBounds_toArray, List.set_cons_zero, List.set_cons_succ]
            refine wpAnyH_takeL (i := 31) (d := some 58) (v := .int .i64 (n0 : Int)) rfl rfl (by kernel_rfl) (by kernel_rfl) (by kernel_rfl) (fun _ _ _ h => h) (Or.inl ⟨by rfl, ?_⟩) hHeld ?_
            · intro w hSw; (try dsimp only at hSw); go_simp
            try simp only [Act.put, List.setIfInBounds_toArray, List.set_cons_zero, List.set_cons_succ]
            refine wpAnyH_ready (rs := [25, 36]) (by kernel_rfl) (by simp) ?_
            refine AllReadyH.cons rfl (fun K hK => ?_) (AllReadyH.cons rfl (fun K hK => ?_) AllReadyH.nil)
            · skip
              refine rd_loadG rfl 3 _ rfl (some 52) rfl (.int .i64 nx) b (0) rfl (ld_i (CB.cell r112_k 0)) ?_
              refine ⟨?_⟩
              have y115 := Lib.hid (show (fun V : World => True) u110 from trivial)
              refine hK.out _ _ y115.out (fun hHeld => ?_)
              clear hK K y115
              try simp only [Act.put, List.setIfInBounds_toArray, List.set_cons_zero, List.set_cons_succ]
              refine wpAnyH_takeL (i := 32) (d := some 59) (v := .int .i64 (nx - (n0 : Int))) rfl rfl (by kernel_rfl) (by kernel_rfl) (by kernel_rfl) (fun _ _ _ h => h) (Or.inl ⟨by rfl, ?_⟩) hHeld ?_
              · intro w hSw; (try dsimp only at hSw); go_simp
              try simp only [Act.put, List.setIfInBounds_toArray, List.set_cons_zero, List.set_cons_succ]
              refine wpAnyH_ready (rs := [36]) (by kernel_rfl) (by simp) ?_
              refine AllReadyH.cons rfl (fun K hK => ?_) AllReadyH.nil
              refine rd_loadG rfl 40 _ rfl (some 63) rfl (.slice A2 n2 c2) b (5) rfl (ld_ss (CB.cell r112_k 5)) ?_
              refine ⟨?_⟩
              have y116 := Lib.hid (show (fun V : World => True) u110 from trivial)
              refine hK.out _ _ y116.out (fun hHeld => ?_)
              clear hK K y116
              try simp only [Act.put, List.setIfInBounds_toArray, List.set_cons_zero, List.set_cons_succ]
              refine wpAnyH_takeL (i := 37) (d := some 64) (v := .int .i64 (n2 : Int)) rfl rfl (by kernel_rfl) (by kernel_rfl) (by kernel_rfl) (fun _ _ _ h => h) (Or.inl ⟨by rfl, ?_⟩) hHeld ?_
              · intro w hSw; (try dsimp only at hSw); go_simp
              try simp only [Act.put, List.setIfInBounds_toArray, List.set_cons_zero, List.set_cons_succ]
              refine wpAnyH_takeL (i := 38) (d := some 65) (v := .bool false) rfl rfl (by kernel_rfl) (by kernel_rfl) (by kernel_rfl) (fun _ _ _ h => h) (Or.inl ⟨by rfl, ?_⟩) hHeld ?_
              · intro w hSw; (try dsimp only at hSw); go_simp
              try simp only [Act.put, List.setIfInBounds_toArray, List.set_cons_zero, List.set_cons_succ]
              refine wpAnyH_takeL (i := 39) (d := some 66) (v := .bool false) rfl rfl (by kernel_rfl) (by kernel_rfl) (by kernel_rfl) (fun _ _ _ h => h) (Or.inl ⟨by rfl, ?_⟩) hHeld ?_
              · intro w hSw; (try dsimp only at hSw); go_simp
              try simp only [Act.put, List.setIfInBounds_toArray, List.set_cons_zero, List.set_cons_succ]
              refine wpAnyH_done (by kernel_rfl) ?_ _
              go_wp2_with fail
              go_roundw
              case rel => exact ⟨j + 1, t2, by omega, by omega, by go_num, r112_tx, r112_l, ho2, Lib.hid (by have := hle.out; have := hle2.out; omega)⟩
              case measure => simp [intOf]; omega
            · skip
              refine rd_loadG rfl 40 _ rfl (some 63) rfl (.slice A2 n2 c2) b (5) rfl (ld_ss (CB.cell r112_k 5)) ?_
              refine ⟨?_⟩
              have y115 := Lib.hid (show (fun V : World => True) u110 from trivial)
              refine hK.out _ _ y115.out (fun hHeld => ?_)
              clear hK K y115
              try simp only [Act.put, List.setIfInBounds_toArray, List.set_cons_zero, List.set_cons_succ]
              refine wpAnyH_takeL (i := 37) (d := some 64) (v := .int .i64 (n2 : Int)) rfl rfl (by kernel_rfl) (by kernel_rfl) (by kernel_rfl) (fun _ _ _ h => h) (Or.inl ⟨by rfl, ?_⟩) hHeld ?_
              · intro w hSw; (try dsimp only at hSw); go_simp
              try simp only [Act.put, List.setIfInBounds_toArray, List.set_cons_zero, List.set_cons_succ]
              refine wpAnyH_ready (rs := [25]) (by kernel_rfl) (by simp) ?_
              refine AllReadyH.cons rfl (fun K hK => ?_) AllReadyH.nil
              refine rd_loadG rfl 3 _ rfl (some 52) rfl (.int .i64 nx) b (0) rfl (ld_i (CB.cell r112_k 0)) ?_
              refine ⟨?_⟩
              have y116 := Lib.hid (show (fun V : World => True) u110 from trivial)
              refine hK.out _ _ y116.out (fun hHeld => ?_)
              clear hK K y116
              try simp only [Act.put, List.setIfInBounds_toArray, List.set_cons_zero, List.set_cons_succ]
              refine wpAnyH_takeL (i := 32) (d := some 59) (v := .int .i64 (nx - (n0 : Int))) rfl rfl (by kernel_rfl) (by kernel_rfl) (by kernel_rfl) (fun _ _ _ h => h) (Or.inl ⟨by rfl, ?_⟩) hHeld ?_
              · intro w hSw; (try dsimp only at hSw); go_simp
              try simp only [Act.put, List.setIfInBounds_toArray, List.set_cons_zero, List.set_cons_succ]
              refine wpAnyH_takeL (i := 38) (d := some 65) (v := .bool false) rfl rfl (by kernel_rfl) (by kernel_rfl) (by kernel_rfl) (fun _ _ _ h => h) (Or.inl ⟨by rfl, ?_⟩) hHeld ?_
              · intro w hSw; (try dsimp only at hSw); go_simp
              try simp only [Act.put, List.setIfInBounds_toArray, List.set_cons_zero, List.set_cons_succ]
              refine wpAnyH_takeL (i := 39) (d := some 66) (v := .bool false) rfl rfl (by kernel_rfl) (by kernel_rfl) (by kernel_rfl) (fun _ _ _ h => h) (Or.inl ⟨by rfl, ?_⟩) hHeld ?_
              · intro w hSw; (try dsimp only at hSw); go_simp
              try simp only [Act.put, List.setIfInBounds_toArray, List.set_cons_zero, List.set_cons_succ]
              refine wpAnyH_done (by kernel_rfl) ?_ _
              go_wp2_with fail
              go_roundw
              case rel => exact ⟨j + 1, t2, by omega, by omega, by go_num, r112_tx, r112_l, ho2, Lib.hid (by have := hle.out; have := hle2.out; omega)⟩
              case measure => simp [intOf]; omega
          · skip
            refine rd_loadG rfl 40 _ rfl (some 63) rfl (.slice A2 n2 c2) b (5) rfl (ld_ss (CB.cell r112_k 5)) ?_
            refine ⟨?_⟩
            have y114 := Lib.hid (show (fun V : World => True) u110 from trivial)
            refine hK.out _ _ y114.out (fun hHeld => ?_)
            clear hK K y114
            try simp only [Act.put, List.setIfInBounds_toArray, List.set_cons_zero, List.set_cons_succ]
            refine wpAnyH_takeL (i := 37) (d := some 64) (v := .int .i64 (n2 : Int)) rfl rfl (by kernel_rfl) (by kernel_rfl) (by kernel_rfl) (fun _ _ _ h => h) (Or.inl ⟨by rfl, ?_⟩) hHeld ?_
            · intro w hSw; (try dsimp only at hSw); go_simp
            try simp only [Act.put, List.setIfInBounds_toArray, List.set_cons_zero, List.set_cons_succ]
            refine wpAnyH_ready (rs := [25, 30]) (by kernel_rfl) (by simp) ?_
            refine AllReadyH.cons rfl (fun K hK => ?_) (AllReadyH.cons rfl (fun K hK => ?_) AllReadyH.nil)
            · skip
              refine rd_loadG rfl 3 _ rfl (some 52) rfl (.int .i64 nx) b (0) rfl (ld_i (CB.cell r112_k 0)) ?_
              refine ⟨?_⟩
              have y115 := Lib.hid (show (fun V : World => True) u110 from trivial)
              refine hK.out _ _ y115.out (fun hHeld => ?_)
              clear hK K y115
              try simp only [Act.put, List.setIfInBounds_toArray, List.set_cons_zero, List.set_cons_succ]
              refine wpAnyH_ready (rs := [30]) (by kernel_rfl) (by simp) ?_
              refine AllReadyH.cons rfl (fun K hK => ?_) AllReadyH.nil
              refine rd_loadG rfl 37 _ rfl (some 57) rfl (.slice A0 n0 c0) b (1) rfl (ld_pp (CB.cell r112_k 1)) ?_
              refine ⟨?_⟩
              have y116 := Lib.hid (show (fun V : World => True) u110 from trivial)
              refine hK.out _ _ y116.out (fun hHeld => ?_)
              clear hK K y116
              try simp only [Act.put, List.setIfInBounds_toArray, List.set_cons_zero, List.set_cons_succ]
              refine wpAnyH_takeL (i := 31) (d := some 58) (v := .int .i64 (n0 : Int)) rfl rfl (by kernel_rfl) (by kernel_rfl) (by kernel_rfl) (fun _ _ _ h => h) (Or.inl ⟨by rfl, ?_⟩) hHeld ?_
              · intro w hSw; (try dsimp only at hSw); go_simp
              try simp only [Act.put, List.setIfInBounds_toArray, List.set_cons_zero, List.set_cons_succ]
              refine wpAnyH_takeL (i := 32) (d := some 59) (v := .int .i64 (nx - (n0 : Int))) rfl rfl (by kernel_rfl) (by kernel_rfl) (by kernel_rfl) (fun _ _ _ h => h) (Or.inl ⟨by rfl, ?_⟩) hHeld ?_
              · intro w hSw; (try dsimp only at hSw); go_simp
              try simp only [Act.put, List.setIfInBounds_toArray, List.set_cons_zero, List.set_cons_succ]
              refine wpAnyH_takeL (i := 38) (d := some 65) (v := .bool false) rfl rfl (by kernel_rfl) (by kernel_rfl) (by kernel_rfl) (fun _ _ _ h => h) (Or.inl ⟨by rfl, ?_⟩) hHeld ?_
              · intro w hSw; (try dsimp only at hSw); go_simp
              try simp only [Act.put, List.setIfInBounds_toArray, List.set_cons_zero, List.set_cons_succ]
              refine wpAnyH_takeL (i := 39) (d := some 66) (v := .bool false) rfl rfl (by kernel_rfl) (by kernel_rfl) (by kernel_rfl) (fun _ _ _ h => h) (Or.inl ⟨by rfl, ?_⟩) hHeld ?_
              · intro w hSw; (try dsimp only at hSw); go_simp
              try simp only [Act.put, List.setIfInBounds_toArray, List.set_cons_zero, List.set_cons_succ]
              refine wpAnyH_done (by kernel_rfl) ?_ _
              go_wp2_with fail
              go_roundw
              case rel => exact ⟨j + 1, t2, by omega, by omega, by go_num, r112_tx, r112_l, ho2, Lib.hid (by have := hle.out; have := hle2.out; omega)⟩
              case measure => simp [intOf]; omega
            · skip
              refine rd_loadG rfl 37 _ rfl (some 57) rfl (.slice A0 n0 c0) b (1) rfl (ld_pp (CB.cell r112_k 1)) ?_
              refine ⟨?_⟩
              have y115 := Lib.hid (show (fun V : World => True) u110 from trivial)
              refine hK.out _ _ y115.out (fun hHeld => ?_)
              clear hK K y115
              try simp only [Act.put, List.setIfInBounds_toArray, List.set_cons_zero, List.set_cons_succ]
              refine wpAnyH_takeL (i := 31) (d := some 58) (v := .int .i64 (n0 : Int)) rfl rfl (by kernel_rfl) (by kernel_rfl) (by kernel_rfl) (fun _ _ _ h => h) (Or.inl ⟨by rfl, ?_⟩) hHeld ?_
              · intro w hSw; (try dsimp only at hSw); go_simp
              try simp only [Act.put, List.setIfInBounds_toArray, List.set_cons_zero, List.set_cons_succ]
              refine wpAnyH_ready (rs := [25]) (by kernel_rfl) (by simp) ?_
              refine AllReadyH.cons rfl (fun K hK => ?_) AllReadyH.nil
              refine rd_loadG rfl 3 _ rfl (some 52) rfl (.int .i64 nx) b (0) rfl (ld_i (CB.cell r112_k 0)) ?_
              refine ⟨?_⟩
              have y116 := Lib.hid (show (fun V : World => True) u110 from trivial)
              refine hK.out _ _ y116.out (fun hHeld => ?_)
              clear hK K y116
              try simp only [Act.put, List.setIfInBounds_toArray, List.set_cons_zero, List.set_cons_succ]
              refine wpAnyH_takeL (i := 32) (d := some 59) (v := .int .i64 (nx - (n0 : Int))) rfl rfl (by kernel_rfl) (by kernel_rfl) (by kernel_rfl) (fun _ _ _ h => h) (Or.inl ⟨by rfl, ?_⟩) hHeld ?_
              · intro w hSw; (try dsimp only at hSw); go_simp
              try simp only [Act.put, List.setIfInBounds_toArray, List.set_cons_zero, List.set_cons_succ]
              refine wpAnyH_takeL (i := 38) (d := some 65) (v := .bool false) rfl rfl (by kernel_rfl) (by kernel_rfl) (by kernel_rfl) (fun _ _ _ h => h) (Or.inl ⟨by rfl, ?_⟩) hHeld ?_
              · intro w hSw; (try dsimp only at hSw); go_simp
              try simp only [Act.put, List.setIfInBounds_toArray, List.set_cons_zero, List.set_cons_succ]
              refine wpAnyH_takeL (i := 39) (d := some 66) (v := .bool false) rfl rfl (by kernel_rfl) (by kernel_rfl) (by kernel_rfl) (fun _ _ _ h => h) (Or.inl ⟨by rfl, ?_⟩) hHeld ?_
              · intro w hSw; (try dsimp only at hSw); go_simp
              try simp only [Act.put, List.setIfInBounds_toArray, List.set_cons_zero, List.set_cons_succ]
              refine wpAnyH_done (by kernel_rfl) ?_ _
              go_wp2_with fail
              go_roundw
              case rel => exact ⟨j + 1, t2, by omega, by omega, by go_num, r112_tx, r112_l, ho2, Lib.hid (by have := hle.out; have := hle2.out; omega)⟩
              case measure => simp [intOf]; omega
        have q1 : decide ((600 : Int) < (x.size : Int)) = true := by simp; omega
        have q1' : decide ((x.size : Int) > 600) = true := by simp; omega
        clear h6
        go_wp2_with fail
        go_roundw
        case rel => exact ⟨j + 1, t, by omega, by omega, by go_num, htx, hl2, hok, Lib.hid (by have := hle.out; omega)⟩
        case measure => simp [intOf]; omega
      have l4 : decide ((j : Int) < 300) = false := by simp; omega
      have l3 : ¬ (j : Int) < 300 := by omega
      clear h3
      go_wp2_with fail
      go_ret
      exact ⟨rfl, TX.low htx⟩
    obtain rfl : j = n := by omega
    clear hlt
    go_wp2_with fail
    go_ret
    exact ⟨rfl, TX.low htx⟩
end Go.Proofs.Ytemhfaodgofcpaa
