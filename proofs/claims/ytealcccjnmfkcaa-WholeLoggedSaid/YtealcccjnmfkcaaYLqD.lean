/-
  Right of package lock. Condition: the holds can be read, a hundred thousand at most.
-/
import Derived.Test.YtealcccjnmfkcaaYLqC
set_option linter.unusedVariables false
set_option linter.unusedSimpArgs false
namespace Go.Proofs.Ytealcccjnmfkcaa
open Go.RowKit


theorem rightK_part {L : List Hd} (j : Nat) (h : ¬ RightK (L.take j)) : rightKB L = false := by
  rw [rightKB_no]
  exact fun k => h (rightK_sub k (List.take_sublist j L))

set_option maxRecDepth 100000 in
set_option maxHeartbeats 2000000 in
theorem rightK_c (A : Option Addr) (n c : Nat) (L : List Hd) (w : World) (h : HR w A n c L) (hn : n ≤ 100000) :
    Calls Try.prog 109 #[.slice A n c] w fun e w' => e = .returned (.bool (rightKB L)) ∧ Below w.heap.size w w' := by
  have hlen := Lib.hid h.len
  go_enter Try.func109, Try.ntmps109
  go_wp2_with fail
  go_loopw [7] (fun i wr => ∃ j : Nat, j ≤ n ∧ i = .int .i64 j ∧ RightK (L.take j) ∧ Below w.heap.size w wr) (fun i _ => n - (intOf i).toNat)
  case atStart => exact ⟨0, by omega, rfl, rightK_nil, Below.refl _ _⟩
  case round =>
    obtain ⟨j, hj, rfl, hal, hlow⟩ := hrel
    have Hal := Lib.hid hal
    clear hal
    by_cases hlt : j < n
    · obtain ⟨g, off, rfl, d1, d2, d3⟩ := (h.on hlow).at3 hlt
      have hjl : j < L.length := by rw [hlen.out]; exact hlt
      have htk := Lib.hid (tkK_take (L := L) hjl)
      generalize tkK L j = x at *
      obtain ⟨W1, hW1⟩ : ∃ W1, wr.alloc (.cells #[.int .u8 x.k, .int .i64 x.t, .bool x.w] 166) = W1 := ⟨_, rfl⟩
      have k1 : Below wr.heap.size wr W1 := by rw [← hW1]; exact belA wr _
      have cx : CB W1 wr.heap.size 166 #[.int .u8 x.k, .int .i64 x.t, .bool x.w] := by rw [← hW1]; exact CB.new wr _ _
      have x0 := cx.cell 0
      have x1 := cx.cell 1
      have x2 := cx.cell 2
      simp only [List.getElem?_toArray, List.getElem?_cons_zero, List.getElem?_cons_succ] at x0 x1 x2
      have hl1 := Lib.hid (bel2 hlow k1)
      have HW := Lib.hid hW1
      clear hW1 cx
      obtain ⟨i, hi⟩ : ∃ i, i = j - 1 := ⟨_, rfl⟩
      have hin : i < n := by omega
      obtain ⟨g9, off9, hA9, y0', y1', y2'⟩ := (h.on hl1.out).at3 hin
      cases hA9
      have htk2 := Lib.hid (fun hj0 : 0 < j => (show L.take j = L.take i ++ [tkK L i] by
        have := tkK_take (L := L) (j := i) (by omega)
        rwa [show i + 1 = j by omega] at this))
      generalize tkK L i = y at *
      cases hok : okB x with
      | false =>
        have Hf := Lib.hid (show rightKB L = false from rightK_part (j + 1) (by
          rw [htk.out]
          intro k
          have := okB_iff.2 (rightK_snoc.1 k).2.1
          rw [hok] at this
          cases this))
        go_wp2_with fail
        rw [HW.out]
        refine wp_region_held_drew (S := fun W' => W'.cell? ⟨wr.heap.size, 0, none⟩ = some (.int .u8 x.k) ∧ W'.cell? ⟨wr.heap.size, 1, none⟩ = some (.int .i64 x.t) ∧ W'.cell? ⟨wr.heap.size, 2, none⟩ = some (.bool x.w)) (by kernel_rfl) ⟨x0, x1, x2⟩ (fun hHeld => ?_)
        refine wpAnyH_takeD (i := 0) (d := some 12) (v := hv x) rfl rfl (by kernel_rfl) (by kernel_rfl) (by kernel_rfl) (fun _ _ _ h => h) (Or.inl ⟨by rfl, ?_⟩) hHeld ?_
        · intro w hSw; (try dsimp only at hSw); go_simp
        try simp only [Act.put, List.setIfInBounds_toArray, List.set_cons_zero, List.set_cons_succ]
        refine wpAnyH_ready (rs := [1]) (by kernel_rfl) (by simp) ?_
        refine AllReadyH.cons rfl (fun K hK => ?_) AllReadyH.nil
        go_simp
        refine (inRange_c x W1.drew).mono ?_
        rintro e w1 ⟨rfl, hb1⟩
        rw [hok]
        go_wp2_with fail
        refine hK.out _ _ ⟨cell_on hb1 x0, cell_on hb1 x1, cell_on hb1 x2⟩ (fun hHeld => ?_)
        clear hK K
        try simp only [Act.put, List.setIfInBounds_toArray, List.set_cons_zero, List.set_cons_succ]
        refine wpAnyH_takeD (i := 2) (d := some 14) (v := .bool true) rfl rfl (by kernel_rfl) (by kernel_rfl) (by kernel_rfl) (fun _ _ _ h => h) (Or.inl ⟨by rfl, ?_⟩) hHeld ?_
        · intro w hSw; (try dsimp only at hSw); go_simp
        try simp only [Act.put, List.setIfInBounds_toArray, List.set_cons_zero, List.set_cons_succ]
        refine wpAnyH_takeD (i := 3) (d := some 15) (v := .bool true) rfl rfl (by kernel_rfl) (by kernel_rfl) (by kernel_rfl) (fun _ _ _ h => h) (Or.inl ⟨by rfl, ?_⟩) hHeld ?_
        · intro w hSw; (try dsimp only at hSw); go_simp
        try simp only [Act.put, List.setIfInBounds_toArray, List.set_cons_zero, List.set_cons_succ]
        refine wpAnyH_takeD (i := 4) (d := some 16) (v := undef) rfl rfl (by kernel_rfl) (by kernel_rfl) (by kernel_rfl) (fun _ _ _ h => h) (Or.inr ⟨by kernel_rfl, rfl⟩) hHeld ?_
        try simp only [Act.put, List.setIfInBounds_toArray, List.set_cons_zero, List.set_cons_succ]
        refine wpAnyH_takeD (i := 5) (d := some 17) (v := undef) rfl rfl (by kernel_rfl) (by kernel_rfl) (by kernel_rfl) (fun _ _ _ h => h) (Or.inr ⟨by kernel_rfl, rfl⟩) hHeld ?_
        try simp only [Act.put, List.setIfInBounds_toArray, List.set_cons_zero, List.set_cons_succ]
        refine wpAnyH_takeD (i := 6) (d := some 18) (v := undef) rfl rfl (by kernel_rfl) (by kernel_rfl) (by kernel_rfl) (fun _ _ _ h => h) (Or.inr ⟨by kernel_rfl, rfl⟩) hHeld ?_
        try simp only [Act.put, List.setIfInBounds_toArray, List.set_cons_zero, List.set_cons_succ]
        refine wpAnyH_takeD (i := 7) (d := some 19) (v := undef) rfl rfl (by kernel_rfl) (by kernel_rfl) (by kernel_rfl) (fun _ _ _ h => h) (Or.inr ⟨by kernel_rfl, rfl⟩) hHeld ?_
        try simp only [Act.put, List.setIfInBounds_toArray, List.set_cons_zero, List.set_cons_succ]
        refine wpAnyH_takeD (i := 8) (d := some 20) (v := undef) rfl rfl (by kernel_rfl) (by kernel_rfl) (by kernel_rfl) (fun _ _ _ h => h) (Or.inr ⟨by kernel_rfl, rfl⟩) hHeld ?_
        try simp only [Act.put, List.setIfInBounds_toArray, List.set_cons_zero, List.set_cons_succ]
        refine wpAnyH_takeD (i := 9) (d := some 21) (v := undef) rfl rfl (by kernel_rfl) (by kernel_rfl) (by kernel_rfl) (fun _ _ _ h => h) (Or.inr ⟨by kernel_rfl, rfl⟩) hHeld ?_
        try simp only [Act.put, List.setIfInBounds_toArray, List.set_cons_zero, List.set_cons_succ]
        refine wpAnyH_takeD (i := 10) (d := some 22) (v := undef) rfl rfl (by kernel_rfl) (by kernel_rfl) (by kernel_rfl) (fun _ _ _ h => h) (Or.inr ⟨by kernel_rfl, rfl⟩) hHeld ?_
        try simp only [Act.put, List.setIfInBounds_toArray, List.set_cons_zero, List.set_cons_succ]
        refine wpAnyH_takeD (i := 11) (d := some 23) (v := undef) rfl rfl (by kernel_rfl) (by kernel_rfl) (by kernel_rfl) (fun _ _ _ h => h) (Or.inr ⟨by kernel_rfl, rfl⟩) hHeld ?_
        try simp only [Act.put, List.setIfInBounds_toArray, List.set_cons_zero, List.set_cons_succ]
        refine wpAnyH_takeD (i := 12) (d := some 24) (v := undef) rfl rfl (by kernel_rfl) (by kernel_rfl) (by kernel_rfl) (fun _ _ _ h => h) (Or.inr ⟨by kernel_rfl, rfl⟩) hHeld ?_
        try simp only [Act.put, List.setIfInBounds_toArray, List.set_cons_zero, List.set_cons_succ]
        refine wpAnyH_takeD (i := 13) (d := some 25) (v := undef) rfl rfl (by kernel_rfl) (by kernel_rfl) (by kernel_rfl) (fun _ _ _ h => h) (Or.inr ⟨by kernel_rfl, rfl⟩) hHeld ?_
        try simp only [Act.put, List.setIfInBounds_toArray, List.set_cons_zero, List.set_cons_succ]
        refine wpAnyH_takeD (i := 14) (d := some 26) (v := undef) rfl rfl (by kernel_rfl) (by kernel_rfl) (by kernel_rfl) (fun _ _ _ h => h) (Or.inr ⟨by kernel_rfl, rfl⟩) hHeld ?_
        try simp only [Act.put, List.setIfInBounds_toArray, List.set_cons_zero, List.set_cons_succ]
        refine wpAnyH_takeD (i := 15) (d := some 27) (v := undef) rfl rfl (by kernel_rfl) (by kernel_rfl) (by kernel_rfl) (fun _ _ _ h => h) (Or.inr ⟨by kernel_rfl, rfl⟩) hHeld ?_
        try simp only [Act.put, List.setIfInBounds_toArray, List.set_cons_zero, List.set_cons_succ]
        refine wpAnyH_takeD (i := 16) (d := some 28) (v := .bool true) rfl rfl (by kernel_rfl) (by kernel_rfl) (by kernel_rfl) (fun _ _ _ h => h) (Or.inl ⟨by rfl, ?_⟩) hHeld ?_
        · intro w hSw; (try dsimp only at hSw); go_simp
        try simp only [Act.put, List.setIfInBounds_toArray, List.set_cons_zero, List.set_cons_succ]
        refine wpAnyH_done (by kernel_rfl) ?_ _
        have hbb := bel2B hl1.out hl1.out.size (below_drew hb1)
        clear x0 x1 x2 d1 d2 d3 y0' y1' y2' hb1 hlow k1 hl1 HW
        go_wp2_with fail
        go_ret
        exact ⟨by rw [Hf.out]; rfl, hbb⟩
      | true =>
        rcases Nat.eq_zero_or_pos j with hj0 | hj0
        · have Hn := Lib.hid (show RightK (L.take (j + 1)) by
            rw [htk.out, hj0]
            simp only [List.take_zero, List.nil_append]
            exact rightK_one.2 (okB_iff.1 hok))
          have hz : ¬ (0 : Int) < (j : Int) := by omega
          have hd : decide ((0 : Int) < (j : Int)) = false := by rw [decide_eq_false_iff_not]; exact hz
          have hnj : ¬ 0 < j := by omega
          have hdn : decide (0 < j) = false := by rw [decide_eq_false_iff_not]; exact hnj
          clear hj0
          go_wp2_with fail
          rw [HW.out]
          refine wp_region_held_drew (S := fun W' => W'.cell? ⟨wr.heap.size, 0, none⟩ = some (.int .u8 x.k) ∧ W'.cell? ⟨wr.heap.size, 1, none⟩ = some (.int .i64 x.t) ∧ W'.cell? ⟨wr.heap.size, 2, none⟩ = some (.bool x.w)) (by kernel_rfl) ⟨x0, x1, x2⟩ (fun hHeld => ?_)
          refine wpAnyH_takeD (i := 0) (d := some 12) (v := hv x) rfl rfl (by kernel_rfl) (by kernel_rfl) (by kernel_rfl) (fun _ _ _ h => h) (Or.inl ⟨by rfl, ?_⟩) hHeld ?_
          · intro w hSw; (try dsimp only at hSw); go_simp
          try simp only [Act.put, List.setIfInBounds_toArray, List.set_cons_zero, List.set_cons_succ]
          refine wpAnyH_ready (rs := [1]) (by kernel_rfl) (by simp) ?_
          refine AllReadyH.cons rfl (fun K hK => ?_) AllReadyH.nil
          go_simp
          refine (inRange_c x W1.drew).mono ?_
          rintro e w1 ⟨rfl, hb1⟩
          rw [hok]
          go_wp2_with fail
          refine hK.out _ _ ⟨cell_on hb1 x0, cell_on hb1 x1, cell_on hb1 x2⟩ (fun hHeld => ?_)
          clear hK K
          try simp only [Act.put, List.setIfInBounds_toArray, List.set_cons_zero, List.set_cons_succ]
          refine wpAnyH_takeD (i := 2) (d := some 14) (v := .bool false) rfl rfl (by kernel_rfl) (by kernel_rfl) (by kernel_rfl) (fun _ _ _ h => h) (Or.inl ⟨by rfl, ?_⟩) hHeld ?_
          · intro w hSw; (try dsimp only at hSw); go_simp
          try simp only [Act.put, List.setIfInBounds_toArray, List.set_cons_zero, List.set_cons_succ]
          refine wpAnyH_takeD (i := 3) (d := some 15) (v := .bool false) rfl rfl (by kernel_rfl) (by kernel_rfl) (by kernel_rfl) (fun _ _ _ h => h) (Or.inl ⟨by rfl, ?_⟩) hHeld ?_
          · intro w hSw; (try dsimp only at hSw); go_simp
          try simp only [Act.put, List.setIfInBounds_toArray, List.set_cons_zero, List.set_cons_succ]
          refine wpAnyH_takeD (i := 4) (d := some 16) (v := .int .i64 (j : Int)) rfl rfl (by kernel_rfl) (by kernel_rfl) (by kernel_rfl) (fun _ _ _ h => h) (Or.inl ⟨by rfl, ?_⟩) hHeld ?_
          · intro w hSw; (try dsimp only at hSw); go_simp
          try simp only [Act.put, List.setIfInBounds_toArray, List.set_cons_zero, List.set_cons_succ]
          refine wpAnyH_takeD (i := 5) (d := some 17) (v := .bool false) rfl rfl (by kernel_rfl) (by kernel_rfl) (by kernel_rfl) (fun _ _ _ h => h) (Or.inl ⟨by rfl, ?_⟩) hHeld ?_
          · intro w hSw; (try dsimp only at hSw); go_simp
          try simp only [Act.put, List.setIfInBounds_toArray, List.set_cons_zero, List.set_cons_succ]
          refine wpAnyH_takeD (i := 6) (d := some 18) (v := .bool false) rfl rfl (by kernel_rfl) (by kernel_rfl) (by kernel_rfl) (fun _ _ _ h => h) (Or.inl ⟨by rfl, ?_⟩) hHeld ?_
          · intro w hSw; (try dsimp only at hSw); go_simp
          try simp only [Act.put, List.setIfInBounds_toArray, List.set_cons_zero, List.set_cons_succ]
          refine wpAnyH_takeD (i := 7) (d := some 19) (v := undef) rfl rfl (by kernel_rfl) (by kernel_rfl) (by kernel_rfl) (fun _ _ _ h => h) (Or.inr ⟨by kernel_rfl, rfl⟩) hHeld ?_
          try simp only [Act.put, List.setIfInBounds_toArray, List.set_cons_zero, List.set_cons_succ]
          refine wpAnyH_takeD (i := 8) (d := some 20) (v := undef) rfl rfl (by kernel_rfl) (by kernel_rfl) (by kernel_rfl) (fun _ _ _ h => h) (Or.inr ⟨by kernel_rfl, rfl⟩) hHeld ?_
          try simp only [Act.put, List.setIfInBounds_toArray, List.set_cons_zero, List.set_cons_succ]
          refine wpAnyH_takeD (i := 9) (d := some 21) (v := undef) rfl rfl (by kernel_rfl) (by kernel_rfl) (by kernel_rfl) (fun _ _ _ h => h) (Or.inr ⟨by kernel_rfl, rfl⟩) hHeld ?_
          try simp only [Act.put, List.setIfInBounds_toArray, List.set_cons_zero, List.set_cons_succ]
          refine wpAnyH_takeD (i := 10) (d := some 22) (v := undef) rfl rfl (by kernel_rfl) (by kernel_rfl) (by kernel_rfl) (fun _ _ _ h => h) (Or.inr ⟨by kernel_rfl, rfl⟩) hHeld ?_
          try simp only [Act.put, List.setIfInBounds_toArray, List.set_cons_zero, List.set_cons_succ]
          refine wpAnyH_takeD (i := 11) (d := some 23) (v := undef) rfl rfl (by kernel_rfl) (by kernel_rfl) (by kernel_rfl) (fun _ _ _ h => h) (Or.inr ⟨by kernel_rfl, rfl⟩) hHeld ?_
          try simp only [Act.put, List.setIfInBounds_toArray, List.set_cons_zero, List.set_cons_succ]
          refine wpAnyH_takeD (i := 12) (d := some 24) (v := undef) rfl rfl (by kernel_rfl) (by kernel_rfl) (by kernel_rfl) (fun _ _ _ h => h) (Or.inr ⟨by kernel_rfl, rfl⟩) hHeld ?_
          try simp only [Act.put, List.setIfInBounds_toArray, List.set_cons_zero, List.set_cons_succ]
          refine wpAnyH_takeD (i := 13) (d := some 25) (v := undef) rfl rfl (by kernel_rfl) (by kernel_rfl) (by kernel_rfl) (fun _ _ _ h => h) (Or.inr ⟨by kernel_rfl, rfl⟩) hHeld ?_
          try simp only [Act.put, List.setIfInBounds_toArray, List.set_cons_zero, List.set_cons_succ]
          refine wpAnyH_takeD (i := 14) (d := some 26) (v := undef) rfl rfl (by kernel_rfl) (by kernel_rfl) (by kernel_rfl) (fun _ _ _ h => h) (Or.inr ⟨by kernel_rfl, rfl⟩) hHeld ?_
          try simp only [Act.put, List.setIfInBounds_toArray, List.set_cons_zero, List.set_cons_succ]
          refine wpAnyH_takeD (i := 15) (d := some 27) (v := .bool false) rfl rfl (by kernel_rfl) (by kernel_rfl) (by kernel_rfl) (fun _ _ _ h => h) (Or.inl ⟨by rfl, ?_⟩) hHeld ?_
          · intro w hSw; (try dsimp only at hSw); go_simp
          try simp only [Act.put, List.setIfInBounds_toArray, List.set_cons_zero, List.set_cons_succ]
          refine wpAnyH_takeD (i := 16) (d := some 28) (v := .bool false) rfl rfl (by kernel_rfl) (by kernel_rfl) (by kernel_rfl) (fun _ _ _ h => h) (Or.inl ⟨by rfl, ?_⟩) hHeld ?_
          · intro w hSw; (try dsimp only at hSw); go_simp
          try simp only [Act.put, List.setIfInBounds_toArray, List.set_cons_zero, List.set_cons_succ]
          refine wpAnyH_done (by kernel_rfl) ?_ _
          have hbb := bel2B hl1.out hl1.out.size (below_drew hb1)
          clear x0 x1 x2 d1 d2 d3 y0' y1' y2' hb1 hlow k1 hl1 HW hz hd hdn hnj
          go_wp2_with fail
          go_roundw
          case rel => exact ⟨j + 1, by omega, by go_num, Hn.out, hbb⟩
          case measure => simp [intOf]; omega
        · have hT := Lib.hid (show RightK (L.take (j + 1)) ↔ bef y x ∧ cl y x by
            have h1 := Hal.out
            rw [htk2.out hj0] at h1
            rw [htk.out, htk2.out hj0, rightK_two h1]
            exact ⟨fun k => k.2, fun k => ⟨okB_iff.1 hok, k⟩⟩)
          have q1 : IntKind.i64.wrap ((j : Int) - 1) = (i : Int) := by rw [show (j : Int) - 1 = (i : Int) by omega]; exact IntWalk.i64_in _ (by omega)
          have hi0 : (0 : Int) ≤ (i : Int) := by omega
          have hi1 : (i : Int) < (n : Int) := by omega
          have hi2 : (i : Int) ≤ (n : Int) := by omega
          have hz : (0 : Int) < (j : Int) := by omega
          clear hi
          cases hfo : folB y x with
          | false =>
            have Hf := Lib.hid (show rightKB L = false from rightK_part (j + 1) (by
              intro k
              have := folB_iff.2 (hT.out.1 k)
              rw [hfo] at this
              cases this))
            go_wp2_with fail
            rw [HW.out]
            go_region_held3 (fun W' => (W'.cell? ⟨wr.heap.size, 0, none⟩ = some (.int .u8 x.k) ∧ W'.cell? ⟨wr.heap.size, 1, none⟩ = some (.int .i64 x.t) ∧ W'.cell? ⟨wr.heap.size, 2, none⟩ = some (.bool x.w)) ∧ W'.cell? ⟨g, off + i * 3, none⟩ = some (.int .u8 y.k) ∧ W'.cell? ⟨g, off + i * 3 + 1, none⟩ = some (.int .i64 y.t) ∧ W'.cell? ⟨g, off + i * 3 + 2, none⟩ = some (.bool y.w)) (first | exact ⟨⟨x0, x1, x2⟩, y0', y1', y2'⟩ | exact ⟨⟨cell_on hb1 x0, cell_on hb1 x1, cell_on hb1 x2⟩, cell_on hb1 y0', cell_on hb1 y1', cell_on hb1 y2'⟩ | exact ⟨⟨cell_on hb2 (cell_on hb1 x0), cell_on hb2 (cell_on hb1 x1), cell_on hb2 (cell_on hb1 x2)⟩, cell_on hb2 (cell_on hb1 y0'), cell_on hb2 (cell_on hb1 y1'), cell_on hb2 (cell_on hb1 y2')⟩) (first
              | (go_at_call 110; refine (inRange_c x W1.drew).mono ?_; rintro e w1 ⟨rfl, hb1⟩; rw [hok])
              | (go_at_call 121; refine (fol_c y x w1).mono ?_; rintro e w2 ⟨rfl, hb2⟩; rw [hfo]))
            have hbb := bel2B hl1.out hl1.out.size (bel2 (below_drew hb1) hb2)
            clear x0 x1 x2 d1 d2 d3 y0' y1' y2' hb1 hb2 hlow k1 hl1 HW q1 hi0 hi1 hi2 hz
            go_wp2_with fail
            go_ret
            exact ⟨by rw [Hf.out]; rfl, hbb⟩
          | true =>
            have Hn := Lib.hid (hT.out.2 (folB_iff.1 hfo))
            go_wp2_with fail
            rw [HW.out]
            go_region_held3 (fun W' => (W'.cell? ⟨wr.heap.size, 0, none⟩ = some (.int .u8 x.k) ∧ W'.cell? ⟨wr.heap.size, 1, none⟩ = some (.int .i64 x.t) ∧ W'.cell? ⟨wr.heap.size, 2, none⟩ = some (.bool x.w)) ∧ W'.cell? ⟨g, off + i * 3, none⟩ = some (.int .u8 y.k) ∧ W'.cell? ⟨g, off + i * 3 + 1, none⟩ = some (.int .i64 y.t) ∧ W'.cell? ⟨g, off + i * 3 + 2, none⟩ = some (.bool y.w)) (first | exact ⟨⟨x0, x1, x2⟩, y0', y1', y2'⟩ | exact ⟨⟨cell_on hb1 x0, cell_on hb1 x1, cell_on hb1 x2⟩, cell_on hb1 y0', cell_on hb1 y1', cell_on hb1 y2'⟩ | exact ⟨⟨cell_on hb2 (cell_on hb1 x0), cell_on hb2 (cell_on hb1 x1), cell_on hb2 (cell_on hb1 x2)⟩, cell_on hb2 (cell_on hb1 y0'), cell_on hb2 (cell_on hb1 y1'), cell_on hb2 (cell_on hb1 y2')⟩) (first
              | (go_at_call 110; refine (inRange_c x W1.drew).mono ?_; rintro e w1 ⟨rfl, hb1⟩; rw [hok])
              | (go_at_call 121; refine (fol_c y x w1).mono ?_; rintro e w2 ⟨rfl, hb2⟩; rw [hfo]))
            have hbb := bel2B hl1.out hl1.out.size (bel2 (below_drew hb1) hb2)
            clear x0 x1 x2 d1 d2 d3 y0' y1' y2' hb1 hb2 hlow k1 hl1 HW q1 hi0 hi1 hi2 hz
            go_wp2_with fail
            go_roundw
            case rel => exact ⟨j + 1, by omega, by go_num, Hn.out, hbb⟩
            case measure => simp [intOf]; omega
    · obtain rfl : j = n := by omega
      have hr := Lib.hid (show rightKB L = true by
        have := Hal.out
        rw [List.take_of_length_le (by rw [hlen.out]; exact Nat.le_refl _)] at this
        exact rightKB_iff.2 this)
      go_wp2_with fail
      go_ret
      exact ⟨by rw [hr.out]; rfl, hlow⟩
end Go.Proofs.Ytealcccjnmfkcaa
