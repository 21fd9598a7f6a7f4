/-
  The document's layer 14: Right, Outcome. No condition.
-/
import Derived.Test.YtjfmahceolhfnaaTyD
set_option linter.unusedVariables false
set_option linter.unusedSimpArgs false
namespace Go.Proofs.Ytjfmahceolhfnaa
open Go.RowKit

set_option maxRecDepth 100000 in
set_option maxHeartbeats 4000000 in
theorem right_r (S : Ty) (w : World) : Calls Try.prog 61 #[.agg (tA S)] w fun r w' => r = .returned (.bool (rightY S)) ∧ Below w.heap.size w w' := by
  go_enter Try.func61, Try.ntmps61
  go_wp2_with (first | ((with_reducible refine st_box 73 _ (tA S) ?_ ?_); exact rfl))
  refine ⟨fun V1 g1 n1 f1 => ?_⟩
  have up1 : w.heap.size ≤ g1 := Nat.le_of_eq f1.at_
  have bl1 := f1.bel
  clear f1
  have l2 := le_tr (Below.refl _ _) bl1
  clear bl1
  go_wp2_with fail
  go_loopw [3, 4] (fun sv iv wr => ∃ k : Nat, k ≤ 8 ∧ iv = .int .i64 k ∧ sv = .bool (anyB S.wh k) ∧ CB wr g1 73 (tA S) ∧ Hid (allB (okY S) k = true) ∧ Below w.heap.size w wr) (fun _ iv _ => 8 - (intOf iv).toNat)
  case atStart => exact ⟨0, by omega, rfl, rfl, n1, Lib.hid rfl, l2⟩
  case round =>
    clear n1 l2
    obtain ⟨k, hk, rfl, rfl, ht, HK, hb⟩ := hrel
    by_cases hlt : k < 8
    · have j1 : (k : Int) < 8 := by omega
      have j2 : (0 : Int) ≤ (k : Int) := by omega
      have hno : okM (S.wh k) (S.vt k) (S.ep k) = false → Hid (rightY S = false) := fun ho => Lib.hid (by unfold rightY; rw [(allB_no _ _).2 ⟨k, hlt, ho⟩]; simp)
      have hyes : okM (S.wh k) (S.vt k) (S.ep k) = true → Hid (allB (okY S) (k + 1) = true) := fun ho => Lib.hid (by rw [show allB (okY S) (k + 1) = (allB (okY S) k && okM (S.wh k) (S.vt k) (S.ep k)) from rfl, HK.out, ho]; rfl)
      have hany : anyB S.wh (k + 1) = (anyB S.wh k || S.wh k) := rfl
      have cv : wr.cell? ⟨g1, 8 + k, none⟩ = some (.int .i64 (S.vt k)) := (CB.cell ht (8 + k)).trans (tA_vt S hlt)
      have ce : wr.cell? ⟨g1, 16 + k, none⟩ = some (.int .i64 (S.ep k)) := (CB.cell ht (16 + k)).trans (tA_ep S hlt)
      have cw : wr.cell? ⟨g1, k, none⟩ = some (.bool (S.wh k)) := (CB.cell ht (k)).trans (tA_wh S hlt)
      obtain ⟨a, ha⟩ : ∃ a, anyB S.wh k = a := ⟨_, rfl⟩
      obtain ⟨b, hbb⟩ : ∃ b, S.wh k = b := ⟨_, rfl⟩
      obtain ⟨x, hx⟩ : ∃ x, S.vt k = x := ⟨_, rfl⟩
      obtain ⟨e, he⟩ : ∃ e, S.ep k = e := ⟨_, rfl⟩
      rw [ha, hbb] at hany
      rw [ha]
      rw [hx] at cv
      rw [he] at ce
      rw [hbb] at cw
      rw [hbb, hx, he] at hno hyes
      clear ha hbb hx he HK
      by_cases g0 : x < 0
      · have d0 : decide (x < 0) = true := by simp; omega
        have H := hno (by rw [← Bool.not_eq_true, okM_iff]; intro h; omega)
        clear hno hyes
        go_wp2_with fail
        go_region
        go_wp2_with fail
        go_ret
        exact ⟨by rw [H.out]; rfl, le_dN (k := 1) hb⟩
      have d0 : decide (x < 0) = false := by simp; omega
      by_cases g1 : 2 < x
      · have d1 : decide (2 < x) = true := by simp; omega
        have H := hno (by rw [← Bool.not_eq_true, okM_iff]; intro h; omega)
        clear hno hyes
        go_wp2_with fail
        go_region
        go_wp2_with fail
        go_ret
        exact ⟨by rw [H.out]; rfl, le_dN (k := 1) hb⟩
      have d1 : decide (2 < x) = false := by simp; omega
      by_cases g2 : e < 0
      · have d2 : decide (e < 0) = true := by simp; omega
        have H := hno (by rw [← Bool.not_eq_true, okM_iff]; intro h; omega)
        clear hno hyes
        go_wp2_with fail
        go_region
        go_wp2_with fail
        go_ret
        exact ⟨by rw [H.out]; rfl, le_dN (k := 1) hb⟩
      have d2 : decide (e < 0) = false := by simp; omega
      by_cases g3 : 1048576 < e
      · have d3 : decide (1048576 < e) = true := by simp; omega
        have H := hno (by rw [← Bool.not_eq_true, okM_iff]; intro h; omega)
        clear hno hyes
        go_wp2_with fail
        go_region
        go_wp2_with fail
        go_ret
        exact ⟨by rw [H.out]; rfl, le_dN (k := 1) hb⟩
      have d3 : decide (1048576 < e) = false := by simp; omega
      by_cases g4 : 0 < x ∧ e = 0
      · have d4 : decide (0 < x) = true := by simp; omega
        have d5 : (e == 0) = true := by simp; omega
        have H := hno (by rw [← Bool.not_eq_true, okM_iff]; intro h; omega)
        clear hno hyes
        go_wp2_with fail
        go_region
        go_wp2_with fail
        go_ret
        exact ⟨by rw [H.out]; rfl, le_dN (k := 1) hb⟩
      have d4 : (decide (0 < x) && (e == 0)) = false := by rw [← Bool.not_eq_true]; simp; omega
      have d5 : decide (0 < x) = true → (e == 0) = false := by simp; omega
      by_cases g5 : b = false ∧ (x ≠ 0 ∨ e ≠ 0)
      · obtain ⟨rfl, g6⟩ := g5
        by_cases g7 : x = 0
        · have e1 : (x != 0) = false := by simp [g7]
          have e2 : (e != 0) = true := by simp; omega
          have e3 : decide (0 < x) = false := by simp; omega
          have H := hno (by rw [← Bool.not_eq_true, okM_iff]; intro h; have := h.2.2.2.2 rfl; omega)
          clear hno hyes
          go_wp2_with fail
          go_region
          go_wp2_with fail
          go_ret
          exact ⟨by rw [H.out]; rfl, le_dN (k := 1) hb⟩
        have e1 : (x != 0) = true := by simp [g7]
        have e3 : decide (0 < x) = true := by simp; omega
        have e4 : (e == 0) = false := by simp; omega
        have H := hno (by rw [← Bool.not_eq_true, okM_iff]; intro h; have := h.2.2.2.2 rfl; omega)
        clear hno hyes
        go_wp2_with fail
        go_region
        go_wp2_with fail
        go_ret
        exact ⟨by rw [H.out]; rfl, le_dN (k := 1) hb⟩
      have HN := hyes (okM_iff.2 ⟨by omega, by omega, by omega, by omega, fun hbf => ⟨Classical.byContradiction fun h => g5 ⟨hbf, .inl h⟩, Classical.byContradiction fun h => g5 ⟨hbf, .inr h⟩⟩⟩)
      clear hno hyes
      cases b with
      | false =>
        obtain ⟨rfl, rfl⟩ : x = 0 ∧ e = 0 := by simp at g5; omega
        cases a with
        | false =>
          go_wp2_with fail
          go_region
          go_wp2_with fail
          go_roundw
          case rel => exact ⟨k + 1, by omega, by go_num, by rw [hany]; rfl, ht, HN, le_dN (k := 1) hb⟩
          case measure => simp [intOf]; omega
        | true =>
          go_wp2_with fail
          go_region
          go_wp2_with fail
          go_roundw
          case rel => exact ⟨k + 1, by omega, by go_num, by rw [hany]; rfl, ht, HN, le_dN (k := 1) hb⟩
          case measure => simp [intOf]; omega
      | true =>
        by_cases g7 : 0 < x
        · have e3 : decide (0 < x) = true := by simp; omega
          have e4 : (e == 0) = false := by simp; omega
          cases a with
          | false =>
            go_wp2_with fail
            go_region
            go_wp2_with fail
            go_roundw
            case rel => exact ⟨k + 1, by omega, by go_num, by rw [hany]; rfl, ht, HN, le_dN (k := 1) hb⟩
            case measure => simp [intOf]; omega
          | true =>
            go_wp2_with fail
            go_region
            go_wp2_with fail
            go_roundw
            case rel => exact ⟨k + 1, by omega, by go_num, by rw [hany]; rfl, ht, HN, le_dN (k := 1) hb⟩
            case measure => simp [intOf]; omega
        · have e3 : decide (0 < x) = false := by simp; omega
          cases a with
          | false =>
            go_wp2_with fail
            go_region
            go_wp2_with fail
            go_roundw
            case rel => exact ⟨k + 1, by omega, by go_num, by rw [hany]; rfl, ht, HN, le_dN (k := 1) hb⟩
            case measure => simp [intOf]; omega
          | true =>
            go_wp2_with fail
            go_region
            go_wp2_with fail
            go_roundw
            case rel => exact ⟨k + 1, by omega, by go_num, by rw [hany]; rfl, ht, HN, le_dN (k := 1) hb⟩
            case measure => simp [intOf]; omega
    obtain rfl : k = 8 := by omega
    have H := Lib.hid (show rightY S = anyB S.wh 8 by unfold rightY; rw [HK.out]; simp)
    clear HK
    go_wp2_with fail
    go_ret
    exact ⟨by rw [H.out]; rfl, hb⟩
set_option maxRecDepth 100000 in
set_option maxHeartbeats 4000000 in
theorem out_r (S : Ty) (w : World) : Calls Try.prog 50 #[.agg (tA S)] w fun r w' => r = .returned (.int .i64 (outY S)) ∧ Below w.heap.size w w' := by
  have R1 := fun W => right_r S W
  cases hr : rightY S with
  | false =>
    have H := Lib.hid (out_no hr)
    rw [hr] at R1
    clear hr
    go_enter Try.func50, Try.ntmps50
    go_wp2_with (first | ((with_reducible refine st_box 73 _ (tA S) ?_ ?_); exact rfl))
    refine ⟨fun V1 g1 n1 f1 => ?_⟩
    have up1 : w.heap.size ≤ g1 := Nat.le_of_eq f1.at_
    have bl1 := f1.bel
    clear f1
    have l2 := le_tr (Below.refl _ _) bl1
    clear bl1
    go_wp2_with (first | ((with_reducible refine st_load 73 _ g1 ?_ n1 Try.underlying73 ?_ ?_ ?_); exact rfl; exact rfl; exact Try.zTr))
    refine (R1 _).mono ?_
    rintro e w3 ⟨rfl, b3⟩
    have r4_t := le_on n1 b3
    have l4 := le_tr l2 b3
    clear n1 l2
    clear b3
    go_wp2_with fail
    go_ret
    exact ⟨by rw [H.out]; rfl, l4⟩
  | true =>
    have HR := Lib.hid hr
    rw [hr] at R1
    clear hr
    go_enter Try.func50, Try.ntmps50
    go_wp2_with (first | ((with_reducible refine st_box 73 _ (tA S) ?_ ?_); exact rfl))
    refine ⟨fun V1 g1 n1 f1 => ?_⟩
    have up1 : w.heap.size ≤ g1 := Nat.le_of_eq f1.at_
    have bl1 := f1.bel
    clear f1
    have l2 := le_tr (Below.refl _ _) bl1
    clear bl1
    go_wp2_with (first | ((with_reducible refine st_load 73 _ g1 ?_ n1 Try.underlying73 ?_ ?_ ?_); exact rfl; exact rfl; exact Try.zTr))
    refine (R1 _).mono ?_
    rintro e w3 ⟨rfl, b3⟩
    have r4_t := le_on n1 b3
    have l4 := le_tr l2 b3
    clear n1 l2
    clear b3
    go_wp2_with fail
    go_loopw [3, 4] (fun sv iv wr => ∃ k : Nat, k ≤ 8 ∧ iv = .int .i64 k ∧ sv = .bool (allB (yesB S) k) ∧ CB wr g1 73 (tA S) ∧ Hid (anyB (two S) k = false) ∧ Below w.heap.size w wr) (fun _ iv _ => 8 - (intOf iv).toNat)
    case atStart => exact ⟨0, by omega, rfl, rfl, r4_t, Lib.hid rfl, l4⟩
    case round =>
      clear r4_t l4 R1
      obtain ⟨k, hk, rfl, rfl, ht, HK, hb⟩ := hrel
      by_cases hlt : k < 8
      · have j1 : (k : Int) < 8 := by omega
        have j2 : (0 : Int) ≤ (k : Int) := by omega
        have cv : wr.cell? ⟨g1, 8 + k, none⟩ = some (.int .i64 (S.vt k)) := (CB.cell ht (8 + k)).trans (tA_vt S hlt)
        have cw : wr.cell? ⟨g1, k, none⟩ = some (.bool (S.wh k)) := (CB.cell ht (k)).trans (tA_wh S hlt)
        cases ho : S.vt k == 2 with
        | true =>
          have H := Lib.hid (out_2 HR.out ((anyB_iff _ _).2 ⟨k, hlt, ho⟩))
          go_wp2_with fail
          go_ret
          exact ⟨by rw [H.out]; rfl, hb⟩
        | false =>
          have HN := Lib.hid (show anyB (two S) (k + 1) = false by rw [show anyB (two S) (k + 1) = (anyB (two S) k || S.vt k == 2) from rfl, HK.out, ho]; rfl)
          have hall : allB (yesB S) (k + 1) = (allB (yesB S) k && (!S.wh k || S.vt k == 1)) := rfl
          obtain ⟨q, hq⟩ : ∃ q, allB (yesB S) k = q := ⟨_, rfl⟩
          obtain ⟨b, hbb⟩ : ∃ b, S.wh k = b := ⟨_, rfl⟩
          rw [hq, hbb] at hall
          rw [hbb] at cw
          rw [hq]
          clear hq hbb
          cases q with
          | false =>
            go_wp2_with fail
            go_roundw
            case rel => exact ⟨k + 1, by omega, by go_num, by rw [hall]; rfl, ht, HN, hb⟩
            case measure => simp [intOf]; omega
          | true =>
            cases b with
            | false =>
              go_wp2_with fail
              go_roundw
              case rel => exact ⟨k + 1, by omega, by go_num, by rw [hall]; rfl, ht, HN, hb⟩
              case measure => simp [intOf]; omega
            | true =>
              cases hone : S.vt k == 1 with
              | false =>
                rw [hone] at hall
                go_wp2_with fail
                go_roundw
                case rel => exact ⟨k + 1, by omega, by go_num, by rw [hall]; rfl, ht, HN, hb⟩
                case measure => simp [intOf]; omega
              | true =>
                rw [hone] at hall
                go_wp2_with fail
                go_roundw
                case rel => exact ⟨k + 1, by omega, by go_num, by rw [hall]; rfl, ht, HN, hb⟩
                case measure => simp [intOf]; omega
      obtain rfl : k = 8 := by omega
      have H := Lib.hid (out_1 HR.out HK.out)
      clear HK HR
      cases hy : allB (yesB S) 8 with
      | false =>
        have H := Lib.hid (show outY S = 0 by rw [H.out, hy]; rfl)
        go_wp2_with fail
        go_ret
        exact ⟨by rw [H.out]; rfl, hb⟩
      | true =>
        have H := Lib.hid (show outY S = 1 by rw [H.out, hy]; rfl)
        go_wp2_with fail
        go_ret
        exact ⟨by rw [H.out]; rfl, hb⟩
end Go.Proofs.Ytjfmahceolhfnaa
