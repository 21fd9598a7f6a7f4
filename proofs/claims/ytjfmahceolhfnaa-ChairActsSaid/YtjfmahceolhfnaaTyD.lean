/-
  Right and Outcome of package tally. No condition.
-/
import Derived.Test.YtjfmahceolhfnaaTyC
set_option linter.unusedVariables false
set_option linter.unusedSimpArgs false
namespace Go.Proofs.Ytjfmahceolhfnaa
open Go.RowKit

set_option maxRecDepth 100000 in
set_option maxHeartbeats 4000000 in
theorem right_c (S : Ty) (w : World) : Calls Try.prog 73 #[.agg (tA S)] w fun r w' => r = .returned (.bool (rightY S)) ∧ Below w.heap.size w w' := by
  have hE : ∀ V, (Op.equalIn 10000 37 (.agg (bA S.wh)) (.agg #[.bool false, .bool false, .bool false, .bool false, .bool false, .bool false, .bool false, .bool false])).run Try.prog V = .ok (!anyB S.wh 8) V := fun V => by have := eq_b8 S.wh (fun _ => false) 9998 V; rw [eqB_zero] at this; exact this
  cases ha : anyB S.wh 8 with
  | false =>
    have H := Lib.hid (show rightY S = false by unfold rightY; rw [ha]; rfl)
    rw [ha] at hE
    clear ha
    go_enter Try.func73, Try.ntmps73
    go_wp2_with (first | ((with_reducible refine st_box 40 _ (tA S) ?_ ?_); exact rfl))
    refine ⟨fun V1 g1 n1 f1 => ?_⟩
    have up1 : w.heap.size ≤ g1 := Nat.le_of_eq f1.at_
    have bl1 := f1.bel
    clear f1
    have l2 := le_tr (Below.refl _ _) bl1
    clear bl1
    go_wp2_with (first | ((with_reducible refine st_part 37 _ g1 0 ?_ (pt := bA S.wh) n1 ?_ Try.underlying37 ?_ ?_ ?_); exact rfl; exact rfl; exact rfl; exact Try.zB8))
    go_ret
    exact ⟨by rw [H.out]; rfl, l2⟩
  | true =>
    rw [ha] at hE
    have hA := Lib.hid ha
    clear ha
    go_enter Try.func73, Try.ntmps73
    go_wp2_with (first | ((with_reducible refine st_box 40 _ (tA S) ?_ ?_); exact rfl))
    refine ⟨fun V1 g1 n1 f1 => ?_⟩
    have up1 : w.heap.size ≤ g1 := Nat.le_of_eq f1.at_
    have bl1 := f1.bel
    clear f1
    have l2 := le_tr (Below.refl _ _) bl1
    clear bl1
    go_wp2_with (first | ((with_reducible refine st_part 37 _ g1 0 ?_ (pt := bA S.wh) n1 ?_ Try.underlying37 ?_ ?_ ?_); exact rfl; exact rfl; exact rfl; exact Try.zB8))
    go_loopw [11] (fun iv wr => ∃ k : Nat, k ≤ 8 ∧ iv = .int .i64 k ∧ CB wr g1 40 (tA S) ∧ Hid (allB (okY S) k = true) ∧ Below w.heap.size w wr) (fun iv _ => 8 - (intOf iv).toNat)
    case atStart => exact ⟨0, by omega, rfl, n1, Lib.hid rfl, l2⟩
    case round =>
      clear n1 l2 hE
      obtain ⟨k, hk, rfl, ht, HK, hb⟩ := hrel
      by_cases hlt : k < 8
      · have j1 : (k : Int) < 8 := by omega
        have j2 : (0 : Int) ≤ (k : Int) := by omega
        have hx := fun V => idx_b S.wh hlt V
        have M1 := fun W => mobile_c (S.wh k) (S.vt k) (S.ep k) W
        cases ho : okM (S.wh k) (S.vt k) (S.ep k) with
        | false =>
          rw [ho] at M1
          have H := Lib.hid (show rightY S = false by unfold rightY; rw [(allB_no _ _).2 ⟨k, hlt, ho⟩]; simp)
          clear ho HK
          go_wp2_with fail
          have y101_0 := Lib.hid (show (fun V : World => V.cell? ⟨g1, 8 + k, none⟩ = some (.int .i64 (S.vt k)) ∧ V.cell? ⟨g1, 16 + k, none⟩ = some (.int .i64 (S.ep k))) wr from ⟨(CB.cell ht (8 + k)).trans (tA_vt S hlt), (CB.cell ht (16 + k)).trans (tA_ep S hlt)⟩)
          go_region_held3 (fun V : World => V.cell? ⟨g1, 8 + k, none⟩ = some (.int .i64 (S.vt k)) ∧ V.cell? ⟨g1, 16 + k, none⟩ = some (.int .i64 (S.ep k))) (first | exact y101_0.out | exact y101_1.out) (first
            | (go_at_call 82; (with_reducible refine (M1 wr.drew).mono ?_); rintro e u101_1 ⟨rfl, b101_1⟩; have y101_1 := Lib.hid (show (fun V : World => V.cell? ⟨g1, 8 + k, none⟩ = some (.int .i64 (S.vt k)) ∧ V.cell? ⟨g1, 16 + k, none⟩ = some (.int .i64 (S.ep k))) u101_1 from ⟨(CB.cell (le_on (ht).drew b101_1) (8 + k)).trans (tA_vt S hlt), (CB.cell (le_on (ht).drew b101_1) (16 + k)).trans (tA_ep S hlt)⟩)))
          have b101 := le_dr (W := wr) b101_1
          have r102_t := le_on ht b101
          have l102 := le_tr hb b101
          clear ht hb
          clear b101
          go_wp2_with fail
          go_ret
          exact ⟨by rw [H.out]; rfl, l102⟩
        | true =>
          rw [ho] at M1
          have HN := Lib.hid (show allB (okY S) (k + 1) = true by rw [show allB (okY S) (k + 1) = (allB (okY S) k && okM (S.wh k) (S.vt k) (S.ep k)) from rfl, HK.out, ho]; rfl)
          clear ho HK
          go_wp2_with fail
          have y101_0 := Lib.hid (show (fun V : World => V.cell? ⟨g1, 8 + k, none⟩ = some (.int .i64 (S.vt k)) ∧ V.cell? ⟨g1, 16 + k, none⟩ = some (.int .i64 (S.ep k))) wr from ⟨(CB.cell ht (8 + k)).trans (tA_vt S hlt), (CB.cell ht (16 + k)).trans (tA_ep S hlt)⟩)
          go_region_held3 (fun V : World => V.cell? ⟨g1, 8 + k, none⟩ = some (.int .i64 (S.vt k)) ∧ V.cell? ⟨g1, 16 + k, none⟩ = some (.int .i64 (S.ep k))) (first | exact y101_0.out | exact y101_1.out) (first
            | (go_at_call 82; (with_reducible refine (M1 wr.drew).mono ?_); rintro e u101_1 ⟨rfl, b101_1⟩; have y101_1 := Lib.hid (show (fun V : World => V.cell? ⟨g1, 8 + k, none⟩ = some (.int .i64 (S.vt k)) ∧ V.cell? ⟨g1, 16 + k, none⟩ = some (.int .i64 (S.ep k))) u101_1 from ⟨(CB.cell (le_on (ht).drew b101_1) (8 + k)).trans (tA_vt S hlt), (CB.cell (le_on (ht).drew b101_1) (16 + k)).trans (tA_ep S hlt)⟩)))
          have b101 := le_dr (W := wr) b101_1
          have r102_t := le_on ht b101
          have l102 := le_tr hb b101
          clear ht hb
          clear b101
          go_wp2_with fail
          go_roundw
          case rel => exact ⟨k + 1, by omega, by go_num, r102_t, HN, l102⟩
          case measure => simp [intOf]; omega
      obtain rfl : k = 8 := by omega
      have H := Lib.hid (show rightY S = true by unfold rightY; rw [hA.out, HK.out]; rfl)
      clear HK hA
      go_wp2_with fail
      go_ret
      exact ⟨by rw [H.out]; rfl, hb⟩
set_option maxRecDepth 100000 in
set_option maxHeartbeats 4000000 in
theorem out_c (S : Ty) (w : World) : Calls Try.prog 57 #[.agg (tA S)] w fun r w' => r = .returned (.int .i64 (outY S)) ∧ Below w.heap.size w w' := by
  have R1 := fun W => right_c S W
  cases hr : rightY S with
  | false =>
    have H := Lib.hid (out_no hr)
    rw [hr] at R1
    clear hr
    go_enter Try.func57, Try.ntmps57
    go_wp2_with (first | ((with_reducible refine st_box 40 _ (tA S) ?_ ?_); exact rfl))
    refine ⟨fun V1 g1 n1 f1 => ?_⟩
    have up1 : w.heap.size ≤ g1 := Nat.le_of_eq f1.at_
    have bl1 := f1.bel
    clear f1
    have l2 := le_tr (Below.refl _ _) bl1
    clear bl1
    go_wp2_with (first | ((with_reducible refine st_load 40 _ g1 ?_ n1 Try.underlying40 ?_ ?_ ?_); exact rfl; exact rfl; exact Try.zTc))
    refine (R1 _).mono ?_
    rintro e w3 ⟨rfl, b3⟩
    have r4_t := le_on n1 b3
    have l4 := le_tr l2 b3
    clear n1 l2
    clear b3
    go_wp2_with fail
    go_ret
    exact ⟨by rw [H.out]; rfl, l4⟩
  | true =>
    have HY := Lib.hid (eqI_yes (right_iff.1 hr))
    have HR := Lib.hid hr
    rw [hr] at R1
    clear hr
    go_enter Try.func57, Try.ntmps57
    go_wp2_with (first | ((with_reducible refine st_box 40 _ (tA S) ?_ ?_); exact rfl))
    refine ⟨fun V1 g1 n1 f1 => ?_⟩
    have up1 : w.heap.size ≤ g1 := Nat.le_of_eq f1.at_
    have bl1 := f1.bel
    clear f1
    have l2 := le_tr (Below.refl _ _) bl1
    clear bl1
    go_wp2_with (first | ((with_reducible refine st_load 40 _ g1 ?_ n1 Try.underlying40 ?_ ?_ ?_); exact rfl; exact rfl; exact Try.zTc))
    refine (R1 _).mono ?_
    rintro e w3 ⟨rfl, b3⟩
    have r4_t := le_on n1 b3
    have l4 := le_tr l2 b3
    clear n1 l2
    clear b3
    go_wp2_with (first | ((with_reducible refine st_part 38 _ g1 8 ?_ (pt := iA S.vt) r4_t ?_ Try.underlying38 ?_ ?_ ?_); exact rfl; exact rfl; exact rfl; exact Try.zI8))
    go_loopw [10] (fun iv wr => ∃ k : Nat, k ≤ 8 ∧ iv = .int .i64 k ∧ CB wr g1 40 (tA S) ∧ Hid (anyB (two S) k = false) ∧ Below w.heap.size w wr) (fun iv _ => 8 - (intOf iv).toNat)
    case atStart => exact ⟨0, by omega, rfl, r4_t, Lib.hid rfl, l4⟩
    case round =>
      clear r4_t l4 R1
      obtain ⟨k, hk, rfl, ht, HK, hb⟩ := hrel
      by_cases hlt : k < 8
      · have j1 : (k : Int) < 8 := by omega
        have j2 : (0 : Int) ≤ (k : Int) := by omega
        have hx := fun V => idx_i S.vt hlt V
        cases ho : S.vt k == 2 with
        | false =>
          have HN := Lib.hid (show anyB (two S) (k + 1) = false by rw [show anyB (two S) (k + 1) = (anyB (two S) k || S.vt k == 2) from rfl, HK.out, ho]; rfl)
          go_wp2_with fail
          go_roundw
          case rel => exact ⟨k + 1, by omega, by go_num, ht, HN, hb⟩
          case measure => simp [intOf]; omega
        | true =>
          have H := Lib.hid (out_2 HR.out ((anyB_iff _ _).2 ⟨k, hlt, ho⟩))
          go_wp2_with fail
          go_ret
          exact ⟨by rw [H.out]; rfl, hb⟩
      obtain rfl : k = 8 := by omega
      have H := Lib.hid (out_1 HR.out HK.out)
      clear HK HR
      have hE : ∀ V, (Op.equalIn 10000 38 (.agg (iA S.vt)) (.agg (iA (allYesF S.wh)))).run Try.prog V = .ok (allB (yesB S) 8) V := fun V => by have := eq_i8 S.vt (allYesF S.wh) 9998 V; rw [HY.out] at this; exact this
      cases hy : allB (yesB S) 8 with
      | false =>
        rw [hy] at hE
        have H := Lib.hid (show outY S = 0 by rw [H.out, hy]; rfl)
        clear hy HY
        go_wp2_with fail
        have y301 := Lib.hid (show (fun V : World => CB V g1 40 (tA S)) wr from ht)
        refine wp_region_held_drew (S := (fun V : World => CB V g1 40 (tA S))) (by kernel_rfl) y301.out (fun hHeld => ?_)
        obtain ⟨D301, hD301⟩ : ∃ V, wr.drew = V := ⟨_, rfl⟩
        have b301 : Below wr.heap.size wr D301 := by rw [← hD301]; exact le_dr (Below.refl _ _)
        rw [hD301] at hHeld ⊢
        clear hD301
        have r302_t := le_on ht b301
        have l302 := le_tr hb b301
        clear ht hb
        clear b301
        refine wpAnyH_takeL (i := 0) (d := some 16) (v := .pointer (some ⟨g1, 8, none⟩)) rfl rfl (by kernel_rfl) (by kernel_rfl) (by kernel_rfl) (fun _ _ _ h => h) (Or.inl ⟨by rfl, ?_⟩) hHeld ?_
        · intro w hSw; (try dsimp only at hSw); go_simp
        try simp only [Act.put, List.setIfInBounds_toArray, List.set_cons_zero, List.set_cons_succ]
        refine wpAnyH_takeL (i := 1) (d := some 17) (v := .agg (iA S.vt)) rfl rfl (by kernel_rfl) (by kernel_rfl) (by kernel_rfl) (fun _ _ _ h => h) (Or.inl ⟨by rfl, ?_⟩) hHeld ?_
        · intro w hSw; exact yl_part 38 _ g1 8 rfl (pt := iA S.vt) hSw rfl Try.underlying38 rfl Try.zI8
        try simp only [Act.put, List.setIfInBounds_toArray, List.set_cons_zero, List.set_cons_succ]
        refine wpAnyH_takeL (i := 2) (d := some 18) (v := .pointer (some ⟨g1, 0, none⟩)) rfl rfl (by kernel_rfl) (by kernel_rfl) (by kernel_rfl) (fun _ _ _ h => h) (Or.inl ⟨by rfl, ?_⟩) hHeld ?_
        · intro w hSw; (try dsimp only at hSw); go_simp
        try simp only [Act.put, List.setIfInBounds_toArray, List.set_cons_zero, List.set_cons_succ]
        refine wpAnyH_takeL (i := 3) (d := some 19) (v := .agg (bA S.wh)) rfl rfl (by kernel_rfl) (by kernel_rfl) (by kernel_rfl) (fun _ _ _ h => h) (Or.inl ⟨by rfl, ?_⟩) hHeld ?_
        · intro w hSw; exact yl_part 37 _ g1 0 rfl (pt := bA S.wh) hSw rfl Try.underlying37 rfl Try.zB8
        try simp only [Act.put, List.setIfInBounds_toArray, List.set_cons_zero, List.set_cons_succ]
        refine wpAnyH_ready (rs := [4]) (by kernel_rfl) (by simp) ?_
        refine AllReadyH.cons rfl (fun K hK => ?_) AllReadyH.nil
        go_simp
        refine (allYes_c S.wh _).mono ?_
        rintro e u303 ⟨rfl, b303⟩
        have r304_t := le_on r302_t b303
        have l304 := le_tr l302 b303
        clear r302_t l302
        clear b303
        go_wp2_with fail
        have y305 := Lib.hid (show (fun V : World => CB V g1 40 (tA S)) u303 from r304_t)
        refine hK.out _ _ y305.out (fun hHeld => ?_)
        clear hK K y305
        try simp only [Act.put, List.setIfInBounds_toArray, List.set_cons_zero, List.set_cons_succ]
        refine wpAnyH_takeL (i := 5) (d := some 21) (v := .bool false) rfl rfl (by kernel_rfl) (by kernel_rfl) (by kernel_rfl) (fun _ _ _ h => h) (Or.inl ⟨by rfl, ?_⟩) hHeld ?_
        · intro w hSw; (try dsimp only at hSw); go_simp
        try simp only [Act.put, List.setIfInBounds_toArray, List.set_cons_zero, List.set_cons_succ]
        refine wpAnyH_done (by kernel_rfl) ?_ _
        go_wp2_with fail
        go_ret
        exact ⟨by rw [H.out]; rfl, l304⟩
      | true =>
        rw [hy] at hE
        have H := Lib.hid (show outY S = 1 by rw [H.out, hy]; rfl)
        clear hy HY
        go_wp2_with fail
        have y301 := Lib.hid (show (fun V : World => CB V g1 40 (tA S)) wr from ht)
        refine wp_region_held_drew (S := (fun V : World => CB V g1 40 (tA S))) (by kernel_rfl) y301.out (fun hHeld => ?_)
        obtain ⟨D301, hD301⟩ : ∃ V, wr.drew = V := ⟨_, rfl⟩
        have b301 : Below wr.heap.size wr D301 := by rw [← hD301]; exact le_dr (Below.refl _ _)
        rw [hD301] at hHeld ⊢
        clear hD301
        have r302_t := le_on ht b301
        have l302 := le_tr hb b301
        clear ht hb
        clear b301
        refine wpAnyH_takeL (i := 0) (d := some 16) (v := .pointer (some ⟨g1, 8, none⟩)) rfl rfl (by kernel_rfl) (by kernel_rfl) (by kernel_rfl) (fun _ _ _ h => h) (Or.inl ⟨by rfl, ?_⟩) hHeld ?_
        · intro w hSw; (try dsimp only at hSw); go_simp
        try simp only [Act.put, List.setIfInBounds_toArray, List.set_cons_zero, List.set_cons_succ]
        refine wpAnyH_takeL (i := 1) (d := some 17) (v := .agg (iA S.vt)) rfl rfl (by kernel_rfl) (by kernel_rfl) (by kernel_rfl) (fun _ _ _ h => h) (Or.inl ⟨by rfl, ?_⟩) hHeld ?_
        · intro w hSw; exact yl_part 38 _ g1 8 rfl (pt := iA S.vt) hSw rfl Try.underlying38 rfl Try.zI8
        try simp only [Act.put, List.setIfInBounds_toArray, List.set_cons_zero, List.set_cons_succ]
        refine wpAnyH_takeL (i := 2) (d := some 18) (v := .pointer (some ⟨g1, 0, none⟩)) rfl rfl (by kernel_rfl) (by kernel_rfl) (by kernel_rfl) (fun _ _ _ h => h) (Or.inl ⟨by rfl, ?_⟩) hHeld ?_
        · intro w hSw; (try dsimp only at hSw); go_simp
        try simp only [Act.put, List.setIfInBounds_toArray, List.set_cons_zero, List.set_cons_succ]
        refine wpAnyH_takeL (i := 3) (d := some 19) (v := .agg (bA S.wh)) rfl rfl (by kernel_rfl) (by kernel_rfl) (by kernel_rfl) (fun _ _ _ h => h) (Or.inl ⟨by rfl, ?_⟩) hHeld ?_
        · intro w hSw; exact yl_part 37 _ g1 0 rfl (pt := bA S.wh) hSw rfl Try.underlying37 rfl Try.zB8
        try simp only [Act.put, List.setIfInBounds_toArray, List.set_cons_zero, List.set_cons_succ]
        refine wpAnyH_ready (rs := [4]) (by kernel_rfl) (by simp) ?_
        refine AllReadyH.cons rfl (fun K hK => ?_) AllReadyH.nil
        go_simp
        refine (allYes_c S.wh _).mono ?_
        rintro e u303 ⟨rfl, b303⟩
        have r304_t := le_on r302_t b303
        have l304 := le_tr l302 b303
        clear r302_t l302
        clear b303
        go_wp2_with fail
        have y305 := Lib.hid (show (fun V : World => CB V g1 40 (tA S)) u303 from r304_t)
        refine hK.out _ _ y305.out (fun hHeld => ?_)
        clear hK K y305
        try simp only [Act.put, List.setIfInBounds_toArray, List.set_cons_zero, List.set_cons_succ]
        refine wpAnyH_takeL (i := 5) (d := some 21) (v := .bool true) rfl rfl (by kernel_rfl) (by kernel_rfl) (by kernel_rfl) (fun _ _ _ h => h) (Or.inl ⟨by rfl, ?_⟩) hHeld ?_
        · intro w hSw; (try dsimp only at hSw); go_simp
        try simp only [Act.put, List.setIfInBounds_toArray, List.set_cons_zero, List.set_cons_succ]
        refine wpAnyH_done (by kernel_rfl) ?_ _
        go_wp2_with fail
        go_ret
        exact ⟨by rw [H.out]; rfl, l304⟩
end Go.Proofs.Ytjfmahceolhfnaa
