/-
  The document's answer for layer 8: Right, Get, sum, Of, Put, Less, Sum and Same. Condition: the deltas can be read, two hundred thousand at most.
-/
import Derived.Test.YtealcccjnmfkcaaYLhD
set_option linter.unusedVariables false
set_option linter.unusedSimpArgs false
namespace Go.Proofs.Ytealcccjnmfkcaa
open Go.RowKit

set_option maxRecDepth 100000 in
set_option maxHeartbeats 2000000 in
theorem rightRG_c (A : Option Addr) (n c : Nat) (L : List Dl) (w : World) (h : DR w A n c L) (hn : n ≤ 100000) :
    Calls Try.prog 120 #[.slice A n c] w fun e w' => e = .returned (.bool (rightB L)) ∧ Below w.heap.size w w' := by
  have hlen := Lib.hid h.len
  go_enter Try.func120, Try.ntmps120
  go_wp2_with fail
  go_loopw [3] (fun i wr => ∃ j : Nat, j ≤ n ∧ i = .int .i64 j ∧ RightP (L.take j) ∧ Below w.heap.size w wr) (fun i _ => n - (intOf i).toNat)
  case atStart => exact ⟨0, by omega, rfl, right_nil, Below.refl _ _⟩
  case round =>
    obtain ⟨j, hj, rfl, hal, hlow⟩ := hrel
    have Hal := Lib.hid hal
    clear hal
    by_cases hlt : j < n
    · obtain ⟨g, off, rfl, d1, d2⟩ := (h.on hlow).at2 hlt
      have hjl : j < L.length := by rw [hlen.out]; exact hlt
      have htk := Lib.hid (tk_take (L := L) hjl)
      generalize tk L j = x at *
      have hl1 := Lib.hid hlow
      obtain ⟨i, hi⟩ : ∃ i, i = j - 1 := ⟨_, rfl⟩
      have hin : i < n := by omega
      obtain ⟨g9, off9, hA9, y0, y1⟩ := (h.on hlow).at2 hin
      cases hA9
      have htk2 := Lib.hid (fun hj0 : 0 < j => (show L.take j = L.take i ++ [tk L i] by
        have := tk_take (L := L) (j := i) (by omega)
        rwa [show i + 1 = j by omega] at this))
      generalize tk L i = y at *
      clear hlow
      by_cases hk : x.k < 64
      · have hk1 : decide ((64 : Int) ≤ x.k) = false := decide_eq_false (by omega)
        by_cases hb : x.b = 0
        · have Hf := Lib.hid (show rightB L = false from rightG_part (j + 1) (by
            rw [htk.out]
            exact fun k => (right_snoc.1 k).2.1.2 hb))
          have hb1 : (x.b == 0) = true := by simp [hb]
          clear hb hi hk
          go_wp2_with fail
          go_quiet (fail)
          have hl2 := Lib.hid (belowN hl1.out nq)
          clear d1 d2 y0 y1
          go_wp2_with fail
          go_ret
          exact ⟨by rw [Hf.out]; rfl, hl2.out⟩
        · have hb1 : (x.b == 0) = false := by simp [hb]
          by_cases hj0 : 0 < j
          · have hj1 : decide (0 < j) = true := by simp [hj0]
            have hj2 : decide ((0 : Int) < (j : Int)) = true := by simp; omega
            have hji : (j : Int) - 1 = (i : Int) := by omega
            have Htwo := Lib.hid (htk2.out hj0)
            by_cases hyx : x.k ≤ y.k
            · have Hf := Lib.hid (show rightB L = false from rightG_part (j + 1) (by
                rw [htk.out, Htwo.out]
                intro k
                have := (right_two (right_pre k)).1 k
                unfold ltD at this
                omega))
              have hyx1 : decide (x.k ≤ y.k) = true := decide_eq_true hyx
              clear hb hi hk htk2 hyx
              go_wp2_with fail
              go_quiet (fail)
              have hl2 := Lib.hid (belowN hl1.out nq)
              clear d1 d2 y0 y1
              go_wp2_with fail
              go_ret
              exact ⟨by rw [Hf.out]; rfl, hl2.out⟩
            · have Hn := Lib.hid (show RightP (L.take (j + 1)) by
                rw [htk.out, Htwo.out]
                have hal := Hal.out
                rw [Htwo.out] at hal
                exact (right_two hal).2 ⟨⟨hk, hb⟩, by unfold ltD; omega⟩)
              have hyx1 : decide (x.k ≤ y.k) = false := decide_eq_false hyx
              clear hb hi hk htk2 hyx
              go_wp2_with fail
              go_quiet (fail)
              have hl2 := Lib.hid (belowN hl1.out nq)
              clear d1 d2 y0 y1
              go_wp2_with fail
              go_roundw
              case rel => exact ⟨j + 1, by omega, by go_num, Hn.out, hl2.out⟩
              case measure => simp [intOf]; omega
          · have hj1 : decide (0 < j) = false := by simp; omega
            have hj2 : decide ((0 : Int) < (j : Int)) = false := by simp; omega
            have Hn := Lib.hid (show RightP (L.take (j + 1)) by
              rw [htk.out]
              obtain rfl : j = 0 := by omega
              exact right_one.2 ⟨hk, hb⟩)
            clear hb hi hk htk2
            go_wp2_with fail
            go_quiet (fail)
            have hl2 := Lib.hid (belowN hl1.out nq)
            clear d1 d2 y0 y1
            go_wp2_with fail
            go_roundw
            case rel => exact ⟨j + 1, by omega, by go_num, Hn.out, hl2.out⟩
            case measure => simp [intOf]; omega
      · have hk1 : decide ((64 : Int) ≤ x.k) = true := decide_eq_true (by omega)
        have Hf := Lib.hid (show rightB L = false from rightG_part (j + 1) (by
          rw [htk.out]
          exact fun k => hk (right_snoc.1 k).2.1.1))
        clear hi hk
        go_wp2_with fail
        go_quiet (fail)
        have hl2 := Lib.hid (belowN hl1.out nq)
        clear d1 d2 y0 y1
        go_wp2_with fail
        go_ret
        exact ⟨by rw [Hf.out]; rfl, hl2.out⟩
    · obtain rfl : j = n := by omega
      have Hr := Lib.hid (show rightB L = true by
        have := Hal.out
        rw [take_all hlen.out] at this
        exact rightB_iff.2 this)
      go_wp2_with fail
      go_ret
      exact ⟨by rw [Hr.out]; rfl, hlow⟩

set_option maxRecDepth 100000 in
set_option maxHeartbeats 1000000 in
theorem getR_c (A : Option Addr) (n c : Nat) (k : Int) (L : List Dl) (w : World) (h : DR w A n c L) (hn : n ≤ 100000) :
    Calls Try.prog 26 #[.slice A n c, .int .u8 k] w fun e w' => e = .returned (.int .i64 (getD L k)) ∧ Below w.heap.size w w' := by
  have hlen := Lib.hid h.len
  go_enter Try.func26, Try.ntmps26
  go_wp2_with fail
  go_loopw [5] (fun i wr => ∃ j : Nat, j ≤ n ∧ i = .int .i64 j ∧ (∀ q ∈ L.take j, q.k ≠ k) ∧ Below w.heap.size w wr) (fun i _ => n - (intOf i).toNat)
  case atStart => exact ⟨0, by omega, rfl, fun q hq => by simp at hq, Below.refl _ _⟩
  case round =>
    obtain ⟨j, hj, rfl, hal, hlow⟩ := hrel
    have Hal := Lib.hid hal
    clear hal
    by_cases hlt : j < n
    · obtain ⟨g, off, rfl, d1, d2⟩ := (h.on hlow).at2 hlt
      have hjl : j < L.length := by rw [hlen.out]; exact hlt
      have htk := Lib.hid (tk_take (L := L) hjl)
      have Hst := Lib.hid (fun hx : (tk L j).k = k => get_stop hjl Hal.out hx)
      generalize tk L j = x at *
      by_cases hk : x.k = k
      · have hk1 : (x.k == k) = true := by simp [hk]
        have Hr := Lib.hid (Hst.out hk)
        clear hk Hst
        go_wp2_with fail
        go_ret
        exact ⟨by rw [Hr.out]; rfl, hlow⟩
      · have hk1 : (x.k == k) = false := by simp [hk]
        have Hn := Lib.hid (show ∀ q ∈ L.take (j + 1), q.k ≠ k by
          rw [htk.out]
          intro q hq
          rcases List.mem_append.1 hq with hq | hq
          · exact Hal.out q hq
          · simp at hq; subst hq; exact hk)
        clear hk Hst
        go_wp2_with fail
        go_roundw
        case rel => exact ⟨j + 1, by omega, by go_num, Hn.out, hlow⟩
        case measure => simp [intOf]; omega
    · obtain rfl : j = n := by omega
      have hr := Lib.hid (show getD L k = 0 by
        have := Hal.out
        rw [take_all hlen.out] at this
        exact get_miss this)
      go_wp2_with fail
      go_ret
      exact ⟨by rw [hr.out]; rfl, hlow⟩

end Go.Proofs.Ytealcccjnmfkcaa
