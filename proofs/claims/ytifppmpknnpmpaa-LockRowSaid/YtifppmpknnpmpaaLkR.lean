/-
  The walk of LockRow: it returns true. Condition: the acts can be read; their kinds are those of bytes.
-/
import Derived.Test.YtifppmpknnpmpaaLkU
set_option linter.unusedVariables false
set_option linter.unusedSimpArgs false
namespace Go.Proofs.Ytifppmpknnpmpaa
open Go.RowKit

theorem alone_of {M : List Hd} (h : RightP M) {p q : Hd} (hp : p ∈ M) (hq : q ∈ M) : ¬ (p.w = true ∧ p.k = q.k ∧ p.t ≠ q.t) := by
  rintro ⟨h1, h2, h3⟩
  have := (right_cl h hp hq h3 h2).1
  rw [h1] at this
  cases this
theorem RR.act {w : World} {A : Option Addr} {n c : Nat} {L : List ActV} (h : RR w ac 4 A n c L) {k : Nat} (hk : k < n) : ∃ g off x, L[k]? = some x ∧ A = some ⟨g, off, none⟩ ∧ w.cell? ⟨g, off + k * 4, none⟩ = some (.int .u8 x.kind) ∧ w.cell? ⟨g, off + k * 4 + 1, none⟩ = some (.int .i64 x.tx) ∧ w.cell? ⟨g, off + k * 4 + 2, none⟩ = some (.int .u8 x.key) ∧ w.cell? ⟨g, off + k * 4 + 3, none⟩ = some (.bool x.w) := by
  obtain ⟨g, off, x, h1, h2, h3⟩ := h.at_ hk
  exact ⟨g, off, x, h1, h2, h3 0 _ rfl, h3 1 _ rfl, h3 2 _ rfl, h3 3 _ rfl⟩
/-- The locks of both sides. -/
structure RW (w : World) (j : Nat) (v u : Value) (W : World) : Prop where
  out : ∃ (M : List Hd) (A : Option Addr) (n c : Nat) (A' : Option Addr) (n' c' : Nat), v = .slice A n c ∧ u = .slice A' n' c' ∧ RightP M ∧ M.length ≤ j ∧ HS W 45 A n c M ∧ HR W A' n' c' M
  low : Below w.heap.size w W
theorem RW.zero (w : World) : RW w 0 (.slice none 0 0) (.slice none 0 0) w := ⟨⟨[], none, 0, 0, none, 0, 0, rfl, rfl, right_nil, by simp, RS.nil _ _ _ _, RR.nil _ _ _⟩, Below.refl _ _⟩

set_option maxRecDepth 100000 in
set_option maxHeartbeats 4000000 in
theorem row_walk (A : Option Addr) (n c : Nat) (acts : List ActV) (w : World) (h : RR w ac 4 A n c acts) (hA : ∀ x ∈ acts, 0 ≤ x.kind ∧ x.kind ≤ 255) :
    Calls Try.prog 4 #[.slice A n c] w fun e w' => e = .returned (.bool true) ∧ Below w.heap.size w w' := by
  have hmx : n ≤ maxLen := Nat.le_trans h.cap h.max
  simp only [maxLen] at hmx
  go_enter Try.func4, Try.ntmps4
  go_wp2_with fail
  refine (alive_c w).mono ?_
  rintro e w1 ⟨rfl, hb1⟩
  go_wp2_with fail
  go_loopw [3, 4, 5] (fun v u i wr => ∃ j : Nat, j ≤ n ∧ j ≤ 100 ∧ i = .int .i64 j ∧ RW w1 j v u wr) (fun _ _ i _ => n - (intOf i).toNat)
  case atStart => exact ⟨0, by omega, by omega, rfl, RW.zero w1⟩
  case round =>
    obtain ⟨j, hj, hj2, rfl, hrw⟩ := hrel
    obtain ⟨M, Am, nm, cm, Ay, ny, cy, rfl, rfl, hrM, hMl, hsM, hrY⟩ := hrw.out
    have HrM := Lib.hid hrM
    have hnm : nm ≤ j := by rw [← hsM.len]; exact hMl
    have hny : ny ≤ j := by rw [← hrY.len]; exact hMl
    have hlow := hrw.low
    clear hrM hrw
    by_cases hlt : j < n ∧ j < 100
    · obtain ⟨hlt1, hlt2⟩ := hlt
      obtain ⟨g, off, a, hx, rfl, d1, d2, d3, d4⟩ := (h.on (bel2 hb1 hlow)).act hlt1
      obtain ⟨hk0, hk1⟩ := hA a (List.mem_of_getElem? hx)
      obtain ⟨W1, hW1, ab, k1⟩ := AB.new wr a
      have hsW := hsM.on k1
      have hrW := hrY.on k1
      have hlW := bel2 hlow k1
      obtain ⟨s0, s1, s2, s3⟩ := ab.cells
      rw [← hW1] at s0 s1 s2 s3
      have HW := Lib.hid hW1
      have hj1i : (j : Int) < 100 := by omega
      obtain ⟨kk, hkk⟩ : ∃ kk : Int, a.kind % 5 = kk := ⟨_, rfl⟩
      have Hkk := Lib.hid hkk
      clear hW1 hx hlow k1 hsM hrY
      by_cases h4 : kk = 4
      · have h41 : (kk == 4) = true := by simp [h4]
        have HrN := Lib.hid (show RightP (fre M a.tx) from right_sub HrM.out (fre_sub M a.tx))
        have hNl : (fre M a.tx).length ≤ j + 1 := by have := (fre_sub M a.tx).length_le; omega
        clear h4
        clear Hkk
        go_wp2_with fail
        rw [HW.out]
        refine (free_c Am nm cm a.tx M W1 hsW.rr (by omega)).mono ?_
        rintro e w2 ⟨A2, n2, c2, rfl, hs2, y1⟩
        have ab2 := ab.on y1
        have hr2 := hrW.on y1
        have hl2 := bel2 hlW y1
        clear s0 s1 s2 s3 y1 hlW hrW hsW ab HW d1 d2 d3 d4
        obtain ⟨s0, s1, s2, s3⟩ := ab2.cells
        go_wp2_with fail
        refine (freeR_c Ay ny cy a.tx M w2 hr2 (by omega)).mono ?_
        rintro e w3 ⟨A3, n3, c3, rfl, hs3, y1⟩
        have hx3 := hs2.on y1
        have hy3 := hs3.rr
        have hl3 := bel2 hl2 y1
        clear s0 s1 s2 s3 y1 hl2 hr2 hs2 hs3 ab2
        generalize fre M a.tx = N at *
        have hn2 : n2 ≤ 101 := by rw [← hx3.len]; omega
        go_wp2_with fail
        refine (ours_c A2 n2 c2 N w3 hx3.rr (by omega)).mono ?_
        rintro e w4 ⟨A4, n4, c4, rfl, hs4, y1⟩
        have hx4 := hx3.on y1
        have hy4 := hy3.on y1
        have hl4 := bel2 hl3 y1
        clear y1 hx3 hy3 hl3
        go_wp2_with fail
        refine (same_c A4 A3 n4 c4 n3 c3 N w4 hs4.rr hy4).mono ?_
        rintro e w5 ⟨rfl, y1⟩
        have hx5 := hx4.on y1
        have hy5 := hy4.on y1
        have hl5 := bel2 hl4 y1
        have hri := right_c A2 n2 c2 N w5 hx5.rr (by omega)
        rw [rightB_iff.2 HrN.out] at hri
        clear y1 hx4 hy4 hl4 hs4
        go_wp2_with fail
        refine hri.mono ?_
        rintro e w6 ⟨rfl, y1⟩
        have hx6 := hx5.on y1
        have hy6 := hy5.on y1
        have hl6 := bel2 hl5 y1
        have hxl := Lib.hid hx6.len
        clear y1 hri hx5 hy5 hl5
        go_wp2_with fail
        go_loopw [82] (fun i wr => ∃ q : Nat, q ≤ n2 ∧ i = .int .i64 q ∧ Below w6.heap.size w6 wr) (fun i _ => n2 - (intOf i).toNat)
        case atStart => exact ⟨0, by omega, rfl, Below.refl _ _⟩
        case round =>
          obtain ⟨q, hq, rfl, hlo⟩ := hrel
          by_cases hqn : q < n2
          · obtain ⟨g, off, rfl, d1, d2, d3⟩ := (hx6.on hlo).rr.at3 hqn
            have Hxm := Lib.hid (tk_mem (L := N) (j := q) (by rw [hxl.out]; exact hqn))
            generalize tk N q = x at *
            obtain ⟨V, hV⟩ : ∃ V, wr.alloc (.cells #[.int .u8 x.k, .int .i64 x.t, .bool x.w] 45) = V := ⟨_, rfl⟩
            have k1 : Below wr.heap.size wr V := by rw [← hV]; exact belA wr _
            have cx : CB V wr.heap.size 45 #[.int .u8 x.k, .int .i64 x.t, .bool x.w] := by rw [← hV]; exact CB.new wr _ _
            have hlV := bel2 hlo k1
            have HV := Lib.hid hV
            clear hV k1 hlo
            go_wp2_with fail
            try rw [HV.out]
            go_loopw [88] (fun i wr => ∃ p : Nat, p ≤ n2 ∧ i = .int .i64 p ∧ Below V.heap.size V wr) (fun i _ => n2 - (intOf i).toNat)
            case atStart => exact ⟨0, by omega, rfl, Below.refl _ _⟩
            case round =>
              clear d1 d2 d3 HV
              obtain ⟨p, hp, rfl, hlo⟩ := hrel
              by_cases hpn : p < n2
              · obtain ⟨g9, off9, hA9, d1, d2, d3⟩ := (hx6.on (bel2 hlV hlo)).rr.at3 hpn
                cases hA9
                have Hzm := Lib.hid (tk_mem (L := N) (j := p) (by rw [hxl.out]; exact hpn))
                generalize tk N p = z at *
                have Hal := Lib.hid (alone_of HrN.out Hxm.out Hzm.out)
                have hlz := Lib.hid (bel2 hlo (belA wr (.cells #[.int .u8 z.k, .int .i64 z.t, .bool z.w] 45)))
                have cx2 := (cx.same (hlo.block _ cx.lt)).alloc (.cells #[.int .u8 z.k, .int .i64 z.t, .bool z.w] 45)
                have x0 := cx2.cell 0
                have x1 := cx2.cell 1
                have x2 := cx2.cell 2
                simp only [List.getElem?_toArray, List.getElem?_cons_zero, List.getElem?_cons_succ] at x0 x1 x2
                rcases (show x.w = false ∨ (x.w = true ∧ x.k ≠ z.k) ∨ (x.w = true ∧ x.k = z.k ∧ x.t = z.t) by
                  have := Hal.out
                  by_cases hxw : x.w = true
                  · by_cases hk : x.k = z.k
                    · by_cases ht : x.t = z.t
                      · exact .inr (.inr ⟨hxw, hk, ht⟩)
                      · exact absurd ⟨hxw, hk, ht⟩ this
                    · exact .inr (.inl ⟨hxw, hk⟩)
                  · exact .inl (by simpa using hxw)) with hw | ⟨hw, hk⟩ | ⟨hw, hk, ht⟩
                · rw [hw] at x2
                  clear hw hlo cx2
                  go_wp2_with fail
                  go_roundw
                  case rel => exact ⟨p + 1, by omega, by go_num, hlz.out⟩
                  case measure => simp [intOf]; omega
                · rw [hw] at x2
                  have e1 : (x.k == z.k) = false := by simp [hk]
                  clear hw hk hlo cx2
                  go_wp2_with fail
                  go_roundw
                  case rel => exact ⟨p + 1, by omega, by go_num, hlz.out⟩
                  case measure => simp [intOf]; omega
                · rw [hw] at x2
                  have e1 : (x.k == z.k) = true := by simp [hk]
                  have e2 : (x.t != z.t) = false := by simp [ht]
                  clear hw hk ht hlo cx2
                  go_wp2_with fail
                  go_roundw
                  case rel => exact ⟨p + 1, by omega, by go_num, hlz.out⟩
                  case measure => simp [intOf]; omega
              · obtain rfl : p = n2 := by omega
                have hlz := Lib.hid (bel2 hlV hlo)
                clear hlo cx hlV
                go_wp2_with fail
                go_roundw
                case rel => exact ⟨q + 1, by omega, by go_num, hlz.out⟩
                case measure => simp [intOf]; omega
          · obtain rfl : q = n2 := by omega
            have Hrw := Lib.hid (show RW w1 (j + 1) (.slice A2 q c2) (.slice A3 n3 c3) wr from ⟨⟨N, A2, q, c2, A3, n3, c3, rfl, rfl, HrN.out, hNl, hx6.on hlo, hy6.on hlo⟩, bel2 hl6 hlo⟩)
            clear hlo hx6 hy6 hl6
            go_wp2_with fail
            go_roundw
            case rel => exact ⟨j + 1, by omega, by omega, by go_num, Hrw.out⟩
            case measure => simp [intOf]; omega
      · have h41 : (kk == 4) = false := by simp [h4]
        have HrN := Lib.hid (show RightP (sTake M a.tx a.key a.w) from right_take HrM.out)
        have hNl : (sTake M a.tx a.key a.w).length ≤ j + 1 := by have := sTake_len M a.tx a.key a.w; omega
        clear h4
        clear Hkk
        go_wp2_with fail
        rw [HW.out]
        refine (take_c Am nm cm a.tx a.key a.w M W1 hsW.rr (by omega)).mono ?_
        rintro e w2 ⟨A2, n2, c2, rfl, hs2, y1⟩
        have ab2 := ab.on y1
        have hr2 := hrW.on y1
        have hl2 := bel2 hlW y1
        clear s0 s1 s2 s3 y1 hlW hrW hsW ab HW d1 d2 d3 d4
        obtain ⟨s0, s1, s2, s3⟩ := ab2.cells
        go_wp2_with fail
        refine (takeR_c Ay ny cy a.tx a.key a.w M w2 hr2 (by omega)).mono ?_
        rintro e w3 ⟨A3, n3, c3, rfl, hy3, y1⟩
        have hx3 := hs2.on y1
        have hl3 := bel2 hl2 y1
        clear s0 s1 s2 s3 y1 hl2 hr2 hs2 ab2
        generalize sTake M a.tx a.key a.w = N at *
        have hee : ((eTake M a.tx a.key a.w) != (eTake M a.tx a.key a.w)) = false := by simp
        generalize eTake M a.tx a.key a.w = ee at *
        have hn2 : n2 ≤ 101 := by rw [← hx3.len]; omega
        go_wp2_with fail
        refine (ours_c A2 n2 c2 N w3 hx3.rr (by omega)).mono ?_
        rintro e w4 ⟨A4, n4, c4, rfl, hs4, y1⟩
        have hx4 := hx3.on y1
        have hy4 := hy3.on y1
        have hl4 := bel2 hl3 y1
        clear y1 hx3 hy3 hl3
        go_wp2_with fail
        refine (same_c A4 A3 n4 c4 n3 c3 N w4 hs4.rr hy4).mono ?_
        rintro e w5 ⟨rfl, y1⟩
        have hx5 := hx4.on y1
        have hy5 := hy4.on y1
        have hl5 := bel2 hl4 y1
        have hri := right_c A2 n2 c2 N w5 hx5.rr (by omega)
        rw [rightB_iff.2 HrN.out] at hri
        clear y1 hx4 hy4 hl4 hs4
        go_wp2_with fail
        refine hri.mono ?_
        rintro e w6 ⟨rfl, y1⟩
        have hx6 := hx5.on y1
        have hy6 := hy5.on y1
        have hl6 := bel2 hl5 y1
        have hxl := Lib.hid hx6.len
        clear y1 hri hx5 hy5 hl5
        go_wp2_with fail
        go_loopw [82] (fun i wr => ∃ q : Nat, q ≤ n2 ∧ i = .int .i64 q ∧ Below w6.heap.size w6 wr) (fun i _ => n2 - (intOf i).toNat)
        case atStart => exact ⟨0, by omega, rfl, Below.refl _ _⟩
        case round =>
          obtain ⟨q, hq, rfl, hlo⟩ := hrel
          by_cases hqn : q < n2
          · obtain ⟨g, off, rfl, d1, d2, d3⟩ := (hx6.on hlo).rr.at3 hqn
            have Hxm := Lib.hid (tk_mem (L := N) (j := q) (by rw [hxl.out]; exact hqn))
            generalize tk N q = x at *
            obtain ⟨V, hV⟩ : ∃ V, wr.alloc (.cells #[.int .u8 x.k, .int .i64 x.t, .bool x.w] 45) = V := ⟨_, rfl⟩
            have k1 : Below wr.heap.size wr V := by rw [← hV]; exact belA wr _
            have cx : CB V wr.heap.size 45 #[.int .u8 x.k, .int .i64 x.t, .bool x.w] := by rw [← hV]; exact CB.new wr _ _
            have hlV := bel2 hlo k1
            have HV := Lib.hid hV
            clear hV k1 hlo
            go_wp2_with fail
            try rw [HV.out]
            go_loopw [88] (fun i wr => ∃ p : Nat, p ≤ n2 ∧ i = .int .i64 p ∧ Below V.heap.size V wr) (fun i _ => n2 - (intOf i).toNat)
            case atStart => exact ⟨0, by omega, rfl, Below.refl _ _⟩
            case round =>
              clear d1 d2 d3 HV
              obtain ⟨p, hp, rfl, hlo⟩ := hrel
              by_cases hpn : p < n2
              · obtain ⟨g9, off9, hA9, d1, d2, d3⟩ := (hx6.on (bel2 hlV hlo)).rr.at3 hpn
                cases hA9
                have Hzm := Lib.hid (tk_mem (L := N) (j := p) (by rw [hxl.out]; exact hpn))
                generalize tk N p = z at *
                have Hal := Lib.hid (alone_of HrN.out Hxm.out Hzm.out)
                have hlz := Lib.hid (bel2 hlo (belA wr (.cells #[.int .u8 z.k, .int .i64 z.t, .bool z.w] 45)))
                have cx2 := (cx.same (hlo.block _ cx.lt)).alloc (.cells #[.int .u8 z.k, .int .i64 z.t, .bool z.w] 45)
                have x0 := cx2.cell 0
                have x1 := cx2.cell 1
                have x2 := cx2.cell 2
                simp only [List.getElem?_toArray, List.getElem?_cons_zero, List.getElem?_cons_succ] at x0 x1 x2
                rcases (show x.w = false ∨ (x.w = true ∧ x.k ≠ z.k) ∨ (x.w = true ∧ x.k = z.k ∧ x.t = z.t) by
                  have := Hal.out
                  by_cases hxw : x.w = true
                  · by_cases hk : x.k = z.k
                    · by_cases ht : x.t = z.t
                      · exact .inr (.inr ⟨hxw, hk, ht⟩)
                      · exact absurd ⟨hxw, hk, ht⟩ this
                    · exact .inr (.inl ⟨hxw, hk⟩)
                  · exact .inl (by simpa using hxw)) with hw | ⟨hw, hk⟩ | ⟨hw, hk, ht⟩
                · rw [hw] at x2
                  clear hw hlo cx2
                  go_wp2_with fail
                  go_roundw
                  case rel => exact ⟨p + 1, by omega, by go_num, hlz.out⟩
                  case measure => simp [intOf]; omega
                · rw [hw] at x2
                  have e1 : (x.k == z.k) = false := by simp [hk]
                  clear hw hk hlo cx2
                  go_wp2_with fail
                  go_roundw
                  case rel => exact ⟨p + 1, by omega, by go_num, hlz.out⟩
                  case measure => simp [intOf]; omega
                · rw [hw] at x2
                  have e1 : (x.k == z.k) = true := by simp [hk]
                  have e2 : (x.t != z.t) = false := by simp [ht]
                  clear hw hk ht hlo cx2
                  go_wp2_with fail
                  go_roundw
                  case rel => exact ⟨p + 1, by omega, by go_num, hlz.out⟩
                  case measure => simp [intOf]; omega
              · obtain rfl : p = n2 := by omega
                have hlz := Lib.hid (bel2 hlV hlo)
                clear hlo cx hlV
                go_wp2_with fail
                go_roundw
                case rel => exact ⟨q + 1, by omega, by go_num, hlz.out⟩
                case measure => simp [intOf]; omega
          · obtain rfl : q = n2 := by omega
            have Hrw := Lib.hid (show RW w1 (j + 1) (.slice A2 q c2) (.slice A3 n3 c3) wr from ⟨⟨N, A2, q, c2, A3, n3, c3, rfl, rfl, HrN.out, hNl, hx6.on hlo, hy6.on hlo⟩, bel2 hl6 hlo⟩)
            clear hlo hx6 hy6 hl6
            go_wp2_with fail
            go_roundw
            case rel => exact ⟨j + 1, by omega, by omega, by go_num, Hrw.out⟩
            case measure => simp [intOf]; omega
    · have hlw := bel2 hb1 hlow
      clear hsM hrY hlow h
      rcases (show ¬ (j : Int) < (n : Int) ∨ ((j : Int) < (n : Int) ∧ ¬ (j : Int) < 100) by omega) with hz | ⟨hz, hz'⟩
      · clear hlt
        go_wp2_with fail
        go_ret
        exact ⟨rfl, hlw⟩
      · clear hlt
        go_wp2_with fail
        go_ret
        exact ⟨rfl, hlw⟩
end Go.Proofs.Ytifppmpknnpmpaa
