/-
  The walk of LockFrees: it returns true. Condition: the holds can be read.
-/
import Derived.Test.YtifppmpknnpmpaaLkI
import Derived.Test.YtifppmpknnpmpaaLkN
set_option linter.unusedVariables false
set_option linter.unusedSimpArgs false
namespace Go.Proofs.Ytifppmpknnpmpaa
open Go.RowKit

set_option maxRecDepth 100000 in
set_option maxHeartbeats 4000000 in
theorem frees_walk (A : Option Addr) (n c : Nat) (tx : Int) (L : List Hd) (w : World) (h : HR w A n c L) :
    Calls Try.prog 8 #[.slice A n c, .int .i64 tx] w fun e w' => e = .returned (.bool true) ∧ Below w.heap.size w w' := by
  have hlen := Lib.hid h.len
  have hmx : n ≤ maxLen := Nat.le_trans h.cap h.max
  simp only [maxLen] at hmx
  go_enter Try.func8, Try.ntmps8
  go_wp2_with fail
  refine (alive_c w).mono ?_
  rintro e w1 ⟨rfl, hb1⟩
  by_cases hbig : 100 < n
  · have hbi : (100 : Int) < (n : Int) := by omega
    go_wp2_with fail
    go_ret
    exact ⟨rfl, hb1⟩
  · have hbi : ¬ (100 : Int) < (n : Int) := by omega
    have hn : n ≤ 100000 := by omega
    go_wp2_with fail
    refine (theirs_c A n c L w1 (h.on hb1) hn).mono ?_
    rintro e w2 ⟨A2, n2, c2, rfl, hs2, hb2⟩
    obtain rfl : n2 = n := hs2.len.symm.trans hlen.out
    have hl2 := bel2 hb1 hb2
    clear hb1 hb2
    go_wp2_with fail
    refine (free_c A2 n2 c2 tx L w2 hs2.rr hn).mono ?_
    rintro e w3 ⟨A3, m, c3, rfl, hs3, hb3⟩
    have hl3 := bel2 hl2 hb3
    have hxl := Lib.hid hs3.len
    have hm : m ≤ n2 := by rw [← hs3.len, ← hlen.out]; exact (fre_sub L tx).length_le
    clear hs2 hb3 hl2
    go_wp2_with fail
    go_loopw [22] (fun i wr => ∃ j : Nat, j ≤ m ∧ i = .int .i64 j ∧ Below w3.heap.size w3 wr) (fun i _ => m - (intOf i).toNat)
    case atStart => exact ⟨0, by omega, rfl, Below.refl _ _⟩
    case round =>
      obtain ⟨j, hj, rfl, hlow⟩ := hrel
      by_cases hlt : j < m
      · obtain ⟨g, off, rfl, d1, d2, d3⟩ := (hs3.on hlow).rr.at3 hlt
        have hne : ((tk (fre L tx) j).t == tx) = false := by
          have := (mem_fre.1 (tk_mem (L := fre L tx) (j := j) (by rw [hxl.out]; exact hlt))).2
          simp [this]
        generalize tk (fre L tx) j = x at *
        have hl4 := Lib.hid (bel2 hlow (belA wr (.cells #[.int .u8 x.k, .int .i64 x.t, .bool x.w] 45)))
        clear hlow
        go_wp2_with fail
        go_roundw
        case rel => exact ⟨j + 1, by omega, by go_num, hl4.out⟩
        case measure => simp [intOf]; omega
      · obtain rfl : j = m := by omega
        go_wp2_with fail
        go_loopw [33] (fun i wr2 => ∃ q : Nat, q ≤ n2 ∧ i = .int .i64 q ∧ Below w3.heap.size w3 wr2) (fun i _ => n2 - (intOf i).toNat)
        case atStart => exact ⟨0, by omega, rfl, hlow⟩
        case round =>
          clear hlow
          obtain ⟨q, hq, rfl, hlow⟩ := hrel
          by_cases hqn : q < n2
          · have hlw := bel2 hl3 hlow
            obtain ⟨g, off, rfl, d1, d2, d3⟩ := (h.on hlw).at3 hqn
            generalize tk L q = x at *
            obtain ⟨W1, hW1⟩ : ∃ W1, wr.alloc (.cells #[.int .u8 x.k, .int .i64 x.t, .bool x.w] 47) = W1 := ⟨_, rfl⟩
            have k1 : Below wr.heap.size wr W1 := by rw [← hW1]; exact belA wr _
            have cx : CB W1 wr.heap.size 47 #[.int .u8 x.k, .int .i64 x.t, .bool x.w] := by rw [← hW1]; exact CB.new wr _ _
            have x0 := cx.cell 0
            have x1 := cx.cell 1
            have x2 := cx.cell 2
            simp only [List.getElem?_toArray, List.getElem?_cons_zero, List.getElem?_cons_succ] at x0 x1 x2
            have hl5 := bel2 hlow k1
            have hlW := bel2 hlw k1
            have hrW := h.on hlW
            have hsW := hs3.on hl5
            have HW := Lib.hid hW1
            have hval := hold_fre tx x.t x.k L
            clear hW1
            go_wp2_with fail
            rw [HW.out]
            go_region_held3 (fun W' => W'.cell? ⟨wr.heap.size, 0, none⟩ = some (.int .u8 x.k) ∧ W'.cell? ⟨wr.heap.size, 1, none⟩ = some (.int .i64 x.t)) (first | exact ⟨x0, x1⟩ | exact ⟨cell_on y1 x0, cell_on y1 x1⟩ | exact ⟨cell_on y2 (cell_on y1 x0), cell_on y2 (cell_on y1 x1)⟩) (first
              | (go_at_call 12; refine (theirs_c _ n2 c L W1.drew hrW.drew hn).mono ?_; rintro e w5 ⟨A5, n5, c5, rfl, hs5, y1⟩; have hn5 : n5 ≤ 100000 := by (rw [← hs5.len, hlen.out]; exact hn))
              | (go_at_call 20; refine (holds_c A5 n5 c5 x.t x.k L w5 hs5.rr hn5).mono ?_; rintro e w6 ⟨rfl, y2⟩))
            have y3 := bel2 (below_drew (W := W1) y1) y2
            have hl6 := bel2 hl5 y3
            have hs6 := hsW.on y3
            have cx6 := cx.same (y3.block _ cx.lt)
            have z0 := cx6.cell 0
            have z1 := cx6.cell 1
            simp only [List.getElem?_toArray, List.getElem?_cons_zero, List.getElem?_cons_succ] at z0 z1
            have hho := holds_c A3 j c3 x.t x.k _ w6 hs6.rr (by omega)
            rw [hval] at hho
            clear hval x0 x1 x2 d1 d2 d3 y1 y2 y3 hsW hrW cx hl5 hlW hlw hlow k1 HW hs5 cx6
            by_cases ht : x.t = tx
            · rw [if_pos ht] at hho
              have ht1 : (x.t == tx) = true := by simp [ht]
              generalize hold L x.t x.k = hh at *
              clear ht
              go_wp2_with fail
              refine hho.mono ?_
              rintro e w7 ⟨rfl, y4⟩
              have hl7 := Lib.hid (bel2 hl6 y4)
              clear hho y4 hl6 hs6 z0 z1
              go_wp2_with fail
              go_roundw
              case rel => exact ⟨q + 1, by omega, by go_num, hl7.out⟩
              case measure => simp [intOf]; omega
            · rw [if_neg ht] at hho
              have ht1 : (x.t == tx) = false := by simp [ht]
              generalize hold L x.t x.k = hh at *
              have hhh : ((hh : Int) != hh) = false := by simp
              clear ht
              go_wp2_with fail
              refine hho.mono ?_
              rintro e w7 ⟨rfl, y4⟩
              have hl7 := Lib.hid (bel2 hl6 y4)
              clear hho y4 hl6 hs6 z0 z1
              go_wp2_with fail
              go_roundw
              case rel => exact ⟨q + 1, by omega, by go_num, hl7.out⟩
              case measure => simp [intOf]; omega
          · obtain rfl : q = n2 := by omega
            have hsx := hs3.on hlow
            have hlw := bel2 hl3 hlow
            clear hs3 hl3 hlow
            go_wp2_with fail
            refine (free_c A3 j c3 tx _ wr hsx.rr (by omega)).mono ?_
            rw [fre_fre]
            rintro e w5 ⟨A5, n5, c5, rfl, hs5, y1⟩
            have hsx5 := hsx.on y1
            have hl5 := bel2 hlw y1
            have hn5 : n5 ≤ 100000 := by rw [← hs5.len, hxl.out]; omega
            clear hsx hlw y1
            go_wp2_with fail
            refine (ours_c A5 n5 c5 _ w5 hs5.rr hn5).mono ?_
            rintro e w6 ⟨A6, n6, c6, rfl, hs6, y2⟩
            have hsx6 := hsx5.on y2
            have hl6 := bel2 hl5 y2
            clear hs5 hsx5 hl5 y2
            go_wp2_with fail
            refine (ours_c A3 j c3 _ w6 hsx6.rr (by omega)).mono ?_
            rintro e w7 ⟨A7, n7, c7, rfl, hs7, y3⟩
            have hsx7 := hsx6.on y3
            have hl7 := bel2 hl6 y3
            have hs67 := hs6.on y3
            clear hs6 hsx6 hl6 y3
            go_wp2_with fail
            refine (same_c A6 A7 n6 c6 n7 c7 _ w7 hs67.rr hs7.rr).mono ?_
            rintro e w8 ⟨rfl, y4⟩
            have hsx8 := hsx7.on y4
            have hl8 := bel2 hl7 y4
            clear hsx7 hl7 y4 hs7 hs67
            have hrr := rightR_c A q c L w8 (h.on hl8) hn
            go_wp2_with fail
            refine hrr.mono ?_
            rintro e w9 ⟨rfl, y5⟩
            have hl9 := bel2 hl8 y5
            have hsx9 := hsx8.on y5
            clear hrr y5 hl8 hsx8
            cases hR : rightB L with
            | false =>
              go_wp2_with fail
              go_ret
              exact ⟨rfl, hl9⟩
            | true =>
              have hr2 := right_c A3 j c3 _ w9 hsx9.rr (by omega)
              rw [rightB_iff.2 (right_sub (rightB_iff.1 hR) (fre_sub L tx))] at hr2
              go_wp2_with fail
              refine hr2.mono ?_
              rintro e w10 ⟨rfl, y6⟩
              have hl10 := bel2 hl9 y6
              clear hr2 y6 hl9 hsx9
              go_wp2_with fail
              go_ret
              exact ⟨rfl, hl10⟩
end Go.Proofs.Ytifppmpknnpmpaa
