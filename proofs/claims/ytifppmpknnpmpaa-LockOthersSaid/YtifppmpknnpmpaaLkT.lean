/-
  The walk of LockOthers: it returns true. Condition: the holds can be read.
-/
import Derived.Test.YtifppmpknnpmpaaLkU
set_option linter.unusedVariables false
set_option linter.unusedSimpArgs false
namespace Go.Proofs.Ytifppmpknnpmpaa
open Go.RowKit

/-- While the others are freed: some of the holds are left, and of those that were gone through, the others' are gone. -/
structure OI (L : List Hd) (tx : Int) (j : Nat) (M : List Hd) : Prop where
  sub : M.Sublist L
  gone : ∀ p ∈ L.take j, p.t ≠ tx → ∀ q ∈ M, q.t ≠ p.t
theorem OI.zero (L : List Hd) (tx : Int) : OI L tx 0 L := ⟨List.Sublist.refl _, by simp⟩
theorem OI.skip {L : List Hd} {tx : Int} {j : Nat} {M : List Hd} {x : Hd} (h : OI L tx j M) (e : L.take (j + 1) = L.take j ++ [x]) (hx : x.t = tx) : OI L tx (j + 1) M := by
  refine ⟨h.sub, fun p hp ht => ?_⟩
  rw [e] at hp
  rcases List.mem_append.1 hp with hp | hp
  · exact h.gone p hp ht
  · simp at hp; subst hp; exact absurd hx ht
theorem OI.next {L : List Hd} {tx : Int} {j : Nat} {M : List Hd} {x : Hd} (h : OI L tx j M) (e : L.take (j + 1) = L.take j ++ [x]) : OI L tx (j + 1) (fre M x.t) := by
  refine ⟨(fre_sub M x.t).trans h.sub, fun p hp ht q hq => ?_⟩
  obtain ⟨h1, h2⟩ := mem_fre.1 hq
  rw [e] at hp
  rcases List.mem_append.1 hp with hp | hp
  · exact h.gone p hp ht q h1
  · simp at hp; subst hp; exact h2
theorem OI.all {L : List Hd} {tx : Int} {M : List Hd} (h : OI L tx L.length M) : ∀ p ∈ M, p.t = tx := by
  intro p hp
  by_cases ht : p.t = tx
  · exact ht
  · exact absurd rfl (h.gone p (by rw [List.take_length]; exact h.sub.subset hp) ht p hp)

set_option maxRecDepth 100000 in
set_option maxHeartbeats 4000000 in
theorem others_walk (A : Option Addr) (n c : Nat) (a : ActV) (L : List Hd) (w : World) (h : HR w A n c L) :
    Calls Try.prog 5 #[.slice A n c, av a] w fun e w' => e = .returned (.bool true) ∧ Below w.heap.size w w' := by
  have hlen := Lib.hid h.len
  have hmx : n ≤ maxLen := Nat.le_trans h.cap h.max
  simp only [maxLen] at hmx
  obtain ⟨W, hW, ab, hbW⟩ := AB.new w a
  have HW := Lib.hid hW
  clear hW
  go_enter Try.func5, Try.ntmps5
  go_wp2_with fail
  rw [HW.out]
  refine (alive_c W).mono ?_
  rintro e w1 ⟨rfl, hb1⟩
  have ab1 := ab.on hb1
  have hl1 := bel2 hbW hb1
  clear ab hbW hb1 HW
  by_cases hbig : 100 < n
  · have hbi : (100 : Int) < (n : Int) := by omega
    go_wp2_with fail
    go_ret
    exact ⟨rfl, hl1⟩
  have hbi : ¬ (100 : Int) < (n : Int) := by omega
  have hn : n ≤ 100000 := by omega
  have hrr := rightR_c A n c L w1 (h.on hl1) hn
  go_wp2_with fail
  refine hrr.mono ?_
  rintro e w2 ⟨rfl, hb2⟩
  have ab2 := ab1.on hb2
  have hl2 := bel2 hl1 hb2
  clear hrr hb2 ab1 hl1
  cases hR : rightB L with
  | false =>
    go_wp2_with fail
    go_ret
    exact ⟨rfl, hl2⟩
  | true =>
    have hrW := h.on hl2
    have HR2 := Lib.hid (rightB_iff.1 hR)
    obtain ⟨t1, t2, t3⟩ := ab2.three
    go_wp2_with fail
    go_region_held3 (fun W' => W'.cell? ⟨w.heap.size, 1, none⟩ = some (.int .i64 a.tx) ∧ W'.cell? ⟨w.heap.size, 2, none⟩ = some (.int .u8 a.key) ∧ W'.cell? ⟨w.heap.size, 3, none⟩ = some (.bool a.w)) (first | exact ⟨t1, t2, t3⟩ | exact (ab2.drew.on y1).three | exact ((ab2.drew.on y1).on y2).three) (first
      | (go_at_call 12; refine (theirs_c _ n c L w2.drew hrW.drew hn).mono ?_; rintro e w3 ⟨A3, n3, c3, rfl, hs3, y1⟩; have hn3 : n3 ≤ 100000 := by (rw [← hs3.len, hlen.out]; exact hn))
      | (go_at_call 11; refine (take_c A3 n3 c3 a.tx a.key a.w L w3 hs3.rr hn3).mono ?_; rintro e w4 ⟨A4, n4, c4, rfl, hs4, y2⟩))
    have y3 := bel2 (below_drew (W := w2) y1) y2
    have hl4 := bel2 hl2 y3
    have ab4 := ab2.on y3
    have hn4 : n4 ≤ 100000 := by have := sTake_len L a.tx a.key a.w; rw [hs4.len, hlen.out] at this; omega
    clear hs3 y1 y2 y3 hrW ab2 hl2 t1 t2 t3
    obtain ⟨t1, t2, t3⟩ := ab4.three
    have Hvals := Lib.hid (eTake_vals L a.tx a.key a.w)
    have Hform := Lib.hid (fun h9 : eTake L a.tx a.key a.w ≠ 9 => eTake_form HR2.out h9)
    have H9 := Lib.hid (fun (h9 : eTake L a.tx a.key a.w = 9) (M : List Hd) (hs : M.Sublist L) (ht : ∀ p ∈ M, p.t = a.tx) => others_end h9 hs ht)
    have Hst := Lib.hid (fun h0 : eTake L a.tx a.key a.w ≠ 0 => sTake_err h0)
    generalize eTake L a.tx a.key a.w = ee at *
    by_cases h0 : ee = 0
    · have hr := (Hform.out (by omega)).1 h0
      have e0 : (ee != 0) = false := by simp [h0]
      have e9 : (ee != 9) = true := by simp [h0]
      have eq0 : (ee == 0) = true := by simp [h0]
      obtain ⟨r1, r2, r3⟩ := hr
      clear h0
      go_wp2_with fail
      refine wp_region_held_drew (S := fun W' => W'.cell? ⟨w.heap.size, 1, none⟩ = some (.int .i64 a.tx)) (by kernel_rfl) t1 (fun hHeld => ?_)
      refine wpAnyH_takeD (i := 0) (d := some 34) (v := .slice A4 n4 c4) rfl rfl (by kernel_rfl) (by kernel_rfl) (by kernel_rfl) (fun _ _ _ h => h) (Or.inl ⟨by rfl, ?_⟩) hHeld ?_
      · intro w hSw; (try dsimp only at hSw); go_simp
      try simp only [Act.put, List.setIfInBounds_toArray, List.set_cons_zero, List.set_cons_succ]
      refine wpAnyH_takeD (i := 1) (d := some 35) (v := .pointer (some ⟨w.heap.size, 1, none⟩)) rfl rfl (by kernel_rfl) (by kernel_rfl) (by kernel_rfl) (fun _ _ _ h => h) (Or.inl ⟨by rfl, ?_⟩) hHeld ?_
      · intro w hSw; (try dsimp only at hSw); go_simp
      try simp only [Act.put, List.setIfInBounds_toArray, List.set_cons_zero, List.set_cons_succ]
      refine wpAnyH_takeD (i := 2) (d := some 36) (v := .int .i64 a.tx) rfl rfl (by kernel_rfl) (by kernel_rfl) (by kernel_rfl) (fun _ _ _ h => h) (Or.inl ⟨by rfl, ?_⟩) hHeld ?_
      · intro w hSw; (try dsimp only at hSw); go_simp
      try simp only [Act.put, List.setIfInBounds_toArray, List.set_cons_zero, List.set_cons_succ]
      refine wpAnyH_takeD (i := 5) (d := some 39) (v := .slice A n c) rfl rfl (by kernel_rfl) (by kernel_rfl) (by kernel_rfl) (fun _ _ _ h => h) (Or.inl ⟨by rfl, ?_⟩) hHeld ?_
      · intro w hSw; (try dsimp only at hSw); go_simp
      try simp only [Act.put, List.setIfInBounds_toArray, List.set_cons_zero, List.set_cons_succ]
      refine wpAnyH_takeD (i := 6) (d := some 40) (v := .pointer (some ⟨w.heap.size, 1, none⟩)) rfl rfl (by kernel_rfl) (by kernel_rfl) (by kernel_rfl) (fun _ _ _ h => h) (Or.inl ⟨by rfl, ?_⟩) hHeld ?_
      · intro w hSw; (try dsimp only at hSw); go_simp
      try simp only [Act.put, List.setIfInBounds_toArray, List.set_cons_zero, List.set_cons_succ]
      refine wpAnyH_takeD (i := 7) (d := some 41) (v := .int .i64 a.tx) rfl rfl (by kernel_rfl) (by kernel_rfl) (by kernel_rfl) (fun _ _ _ h => h) (Or.inl ⟨by rfl, ?_⟩) hHeld ?_
      · intro w hSw; (try dsimp only at hSw); go_simp
      try simp only [Act.put, List.setIfInBounds_toArray, List.set_cons_zero, List.set_cons_succ]
      refine wpAnyH_ready (rs := [3]) (by kernel_rfl) (by simp) ?_
      refine AllReadyH.cons rfl (fun K hK => ?_) AllReadyH.nil
      go_simp
      refine (free_c A4 n4 c4 a.tx _ w4.drew hs4.rr.drew hn4).mono ?_
      rintro e w5 ⟨A5, n5, c5, rfl, hs5, y1⟩
      go_wp2_with fail
      refine hK.out _ _ (cell_on y1 t1) (fun hHeld => ?_)
      clear hK K
      try simp only [Act.put, List.setIfInBounds_toArray, List.set_cons_zero, List.set_cons_succ]
      refine wpAnyH_ready (rs := [4]) (by kernel_rfl) (by simp) ?_
      refine AllReadyH.cons rfl (fun K hK => ?_) AllReadyH.nil
      go_simp
      refine (ours_c A5 n5 c5 _ w5 hs5.rr (by rw [← hs5.len]; exact Nat.le_trans (fre_sub _ _).length_le (by rw [hs4.len]; exact hn4))).mono ?_
      rintro e w6 ⟨A6, n6, c6, rfl, hs6, y2⟩
      go_wp2_with fail
      refine hK.out _ _ (cell_on y2 (cell_on y1 t1)) (fun hHeld => ?_)
      clear hK K
      try simp only [Act.put, List.setIfInBounds_toArray, List.set_cons_zero, List.set_cons_succ]
      refine wpAnyH_ready (rs := [8]) (by kernel_rfl) (by simp) ?_
      refine AllReadyH.cons rfl (fun K hK => ?_) AllReadyH.nil
      go_simp
      refine (freeR_c A n c a.tx L w6 (h.on (bel2 (bel2 hl4 (below_drew y1)) y2)) hn).mono ?_
      rintro e w7 ⟨A7, n7, c7, rfl, hs7, y3⟩
      go_wp2_with fail
      refine hK.out _ _ (cell_on y3 (cell_on y2 (cell_on y1 t1))) (fun hHeld => ?_)
      clear hK K
      try simp only [Act.put, List.setIfInBounds_toArray, List.set_cons_zero, List.set_cons_succ]
      refine wpAnyH_ready (rs := [9]) (by kernel_rfl) (by simp) ?_
      refine AllReadyH.cons rfl (fun K hK => ?_) AllReadyH.nil
      go_simp
      refine (same_c A6 A7 n6 c6 n7 c7 _ w7 (hs6.on y3).rr (by rw [fre_take HR2.out]; exact hs7.rr)).mono ?_
      rintro e w8 ⟨rfl, y4⟩
      go_wp2_with fail
      refine hK.out _ _ (cell_on y4 (cell_on y3 (cell_on y2 (cell_on y1 t1)))) (fun hHeld => ?_)
      clear hK K
      try simp only [Act.put, List.setIfInBounds_toArray, List.set_cons_zero, List.set_cons_succ]
      refine wpAnyH_takeD (i := 10) (d := some 44) (v := .bool false) rfl rfl (by kernel_rfl) (by kernel_rfl) (by kernel_rfl) (fun _ _ _ h => h) (Or.inl ⟨by rfl, ?_⟩) hHeld ?_
      · intro w hSw; (try dsimp only at hSw); go_simp
      try simp only [Act.put, List.setIfInBounds_toArray, List.set_cons_zero, List.set_cons_succ]
      refine wpAnyH_takeD (i := 11) (d := some 45) (v := .bool false) rfl rfl (by kernel_rfl) (by kernel_rfl) (by kernel_rfl) (fun _ _ _ h => h) (Or.inl ⟨by rfl, ?_⟩) hHeld ?_
      · intro w hSw; (try dsimp only at hSw); go_simp
      try simp only [Act.put, List.setIfInBounds_toArray, List.set_cons_zero, List.set_cons_succ]
      refine wpAnyH_takeD (i := 12) (d := some 46) (v := .int .i64 ee) rfl rfl (by kernel_rfl) (by kernel_rfl) (by kernel_rfl) (fun _ _ _ h => h) (Or.inl ⟨by rfl, ?_⟩) hHeld ?_
      · intro w hSw; (try dsimp only at hSw); go_simp
      try simp only [Act.put, List.setIfInBounds_toArray, List.set_cons_zero, List.set_cons_succ]
      refine wpAnyH_takeD (i := 13) (d := some 47) (v := .bool false) rfl rfl (by kernel_rfl) (by kernel_rfl) (by kernel_rfl) (fun _ _ _ h => h) (Or.inl ⟨by rfl, ?_⟩) hHeld ?_
      · intro w hSw; (try dsimp only at hSw); go_simp
      try simp only [Act.put, List.setIfInBounds_toArray, List.set_cons_zero, List.set_cons_succ]
      refine wpAnyH_takeD (i := 14) (d := some 48) (v := .bool false) rfl rfl (by kernel_rfl) (by kernel_rfl) (by kernel_rfl) (fun _ _ _ h => h) (Or.inl ⟨by rfl, ?_⟩) hHeld ?_
      · intro w hSw; (try dsimp only at hSw); go_simp
      try simp only [Act.put, List.setIfInBounds_toArray, List.set_cons_zero, List.set_cons_succ]
      refine wpAnyH_takeD (i := 15) (d := some 49) (v := undef) rfl rfl (by kernel_rfl) (by kernel_rfl) (by kernel_rfl) (fun _ _ _ h => h) (Or.inr ⟨by kernel_rfl, rfl⟩) hHeld ?_
      try simp only [Act.put, List.setIfInBounds_toArray, List.set_cons_zero, List.set_cons_succ]
      refine wpAnyH_takeD (i := 16) (d := some 50) (v := undef) rfl rfl (by kernel_rfl) (by kernel_rfl) (by kernel_rfl) (fun _ _ _ h => h) (Or.inr ⟨by kernel_rfl, rfl⟩) hHeld ?_
      try simp only [Act.put, List.setIfInBounds_toArray, List.set_cons_zero, List.set_cons_succ]
      refine wpAnyH_takeD (i := 17) (d := some 51) (v := undef) rfl rfl (by kernel_rfl) (by kernel_rfl) (by kernel_rfl) (fun _ _ _ h => h) (Or.inr ⟨by kernel_rfl, rfl⟩) hHeld ?_
      try simp only [Act.put, List.setIfInBounds_toArray, List.set_cons_zero, List.set_cons_succ]
      refine wpAnyH_takeD (i := 18) (d := some 52) (v := undef) rfl rfl (by kernel_rfl) (by kernel_rfl) (by kernel_rfl) (fun _ _ _ h => h) (Or.inr ⟨by kernel_rfl, rfl⟩) hHeld ?_
      try simp only [Act.put, List.setIfInBounds_toArray, List.set_cons_zero, List.set_cons_succ]
      refine wpAnyH_takeD (i := 19) (d := some 53) (v := undef) rfl rfl (by kernel_rfl) (by kernel_rfl) (by kernel_rfl) (fun _ _ _ h => h) (Or.inr ⟨by kernel_rfl, rfl⟩) hHeld ?_
      try simp only [Act.put, List.setIfInBounds_toArray, List.set_cons_zero, List.set_cons_succ]
      refine wpAnyH_takeD (i := 20) (d := some 54) (v := .bool false) rfl rfl (by kernel_rfl) (by kernel_rfl) (by kernel_rfl) (fun _ _ _ h => h) (Or.inl ⟨by rfl, ?_⟩) hHeld ?_
      · intro w hSw; (try dsimp only at hSw); go_simp
      try simp only [Act.put, List.setIfInBounds_toArray, List.set_cons_zero, List.set_cons_succ]
      refine wpAnyH_takeD (i := 21) (d := some 55) (v := .bool false) rfl rfl (by kernel_rfl) (by kernel_rfl) (by kernel_rfl) (fun _ _ _ h => h) (Or.inl ⟨by rfl, ?_⟩) hHeld ?_
      · intro w hSw; (try dsimp only at hSw); go_simp
      try simp only [Act.put, List.setIfInBounds_toArray, List.set_cons_zero, List.set_cons_succ]
      refine wpAnyH_done (by kernel_rfl) ?_ _
      have y5 := bel2 (bel2 (bel2 (below_drew (W := w4) y1) y2) y3) y4
      have hl8 := bel2 hl4 y5
      have ab8 := ab4.on y5
      obtain ⟨s0, s1, s2, s3⟩ := ab8.cells
      clear t1 t2 t3 y1 y2 y3 y4 y5 hs4 hs5 hs6 hs7 ab4 hl4
      go_wp2_with fail
      go_ret
      exact ⟨rfl, hl8⟩
    · have Hst := Lib.hid (show sTake L a.tx a.key a.w = L from Hst.out h0)
      have e0 : (ee != 0) = true := by simp [h0]
      have eq0 : (ee == 0) = false := by simp [h0]
      by_cases h9 : ee = 9
      · have e9 : (ee != 9) = false := by simp [h9]
        have H9 := Lib.hid (H9.out h9)
        clear h0 h9
        go_wp2_with fail
        refine wp_region_held_drew (S := fun W' => W'.cell? ⟨w.heap.size, 1, none⟩ = some (.int .i64 a.tx)) (by kernel_rfl) t1 (fun hHeld => ?_)
        refine wpAnyH_takeD (i := 0) (d := some 34) (v := .slice A4 n4 c4) rfl rfl (by kernel_rfl) (by kernel_rfl) (by kernel_rfl) (fun _ _ _ h => h) (Or.inl ⟨by rfl, ?_⟩) hHeld ?_
        · intro w hSw; (try dsimp only at hSw); go_simp
        try simp only [Act.put, List.setIfInBounds_toArray, List.set_cons_zero, List.set_cons_succ]
        refine wpAnyH_takeD (i := 1) (d := some 35) (v := .pointer (some ⟨w.heap.size, 1, none⟩)) rfl rfl (by kernel_rfl) (by kernel_rfl) (by kernel_rfl) (fun _ _ _ h => h) (Or.inl ⟨by rfl, ?_⟩) hHeld ?_
        · intro w hSw; (try dsimp only at hSw); go_simp
        try simp only [Act.put, List.setIfInBounds_toArray, List.set_cons_zero, List.set_cons_succ]
        refine wpAnyH_takeD (i := 2) (d := some 36) (v := .int .i64 a.tx) rfl rfl (by kernel_rfl) (by kernel_rfl) (by kernel_rfl) (fun _ _ _ h => h) (Or.inl ⟨by rfl, ?_⟩) hHeld ?_
        · intro w hSw; (try dsimp only at hSw); go_simp
        try simp only [Act.put, List.setIfInBounds_toArray, List.set_cons_zero, List.set_cons_succ]
        refine wpAnyH_takeD (i := 5) (d := some 39) (v := .slice A n c) rfl rfl (by kernel_rfl) (by kernel_rfl) (by kernel_rfl) (fun _ _ _ h => h) (Or.inl ⟨by rfl, ?_⟩) hHeld ?_
        · intro w hSw; (try dsimp only at hSw); go_simp
        try simp only [Act.put, List.setIfInBounds_toArray, List.set_cons_zero, List.set_cons_succ]
        refine wpAnyH_takeD (i := 6) (d := some 40) (v := .pointer (some ⟨w.heap.size, 1, none⟩)) rfl rfl (by kernel_rfl) (by kernel_rfl) (by kernel_rfl) (fun _ _ _ h => h) (Or.inl ⟨by rfl, ?_⟩) hHeld ?_
        · intro w hSw; (try dsimp only at hSw); go_simp
        try simp only [Act.put, List.setIfInBounds_toArray, List.set_cons_zero, List.set_cons_succ]
        refine wpAnyH_takeD (i := 7) (d := some 41) (v := .int .i64 a.tx) rfl rfl (by kernel_rfl) (by kernel_rfl) (by kernel_rfl) (fun _ _ _ h => h) (Or.inl ⟨by rfl, ?_⟩) hHeld ?_
        · intro w hSw; (try dsimp only at hSw); go_simp
        try simp only [Act.put, List.setIfInBounds_toArray, List.set_cons_zero, List.set_cons_succ]
        refine wpAnyH_ready (rs := [3]) (by kernel_rfl) (by simp) ?_
        refine AllReadyH.cons rfl (fun K hK => ?_) AllReadyH.nil
        go_simp
        refine (free_c A4 n4 c4 a.tx _ w4.drew hs4.rr.drew hn4).mono ?_
        rintro e w5 ⟨A5, n5, c5, rfl, hs5, y1⟩
        go_wp2_with fail
        refine hK.out _ _ (cell_on y1 t1) (fun hHeld => ?_)
        clear hK K
        try simp only [Act.put, List.setIfInBounds_toArray, List.set_cons_zero, List.set_cons_succ]
        refine wpAnyH_ready (rs := [4]) (by kernel_rfl) (by simp) ?_
        refine AllReadyH.cons rfl (fun K hK => ?_) AllReadyH.nil
        go_simp
        refine (ours_c A5 n5 c5 _ w5 hs5.rr (by rw [← hs5.len]; exact Nat.le_trans (fre_sub _ _).length_le (by rw [hs4.len]; exact hn4))).mono ?_
        rintro e w6 ⟨A6, n6, c6, rfl, hs6, y2⟩
        go_wp2_with fail
        refine hK.out _ _ (cell_on y2 (cell_on y1 t1)) (fun hHeld => ?_)
        clear hK K
        try simp only [Act.put, List.setIfInBounds_toArray, List.set_cons_zero, List.set_cons_succ]
        refine wpAnyH_ready (rs := [8]) (by kernel_rfl) (by simp) ?_
        refine AllReadyH.cons rfl (fun K hK => ?_) AllReadyH.nil
        go_simp
        refine (freeR_c A n c a.tx L w6 (h.on (bel2 (bel2 hl4 (below_drew y1)) y2)) hn).mono ?_
        rintro e w7 ⟨A7, n7, c7, rfl, hs7, y3⟩
        go_wp2_with fail
        refine hK.out _ _ (cell_on y3 (cell_on y2 (cell_on y1 t1))) (fun hHeld => ?_)
        clear hK K
        try simp only [Act.put, List.setIfInBounds_toArray, List.set_cons_zero, List.set_cons_succ]
        refine wpAnyH_ready (rs := [9]) (by kernel_rfl) (by simp) ?_
        refine AllReadyH.cons rfl (fun K hK => ?_) AllReadyH.nil
        go_simp
        refine (same_c A6 A7 n6 c6 n7 c7 _ w7 (hs6.on y3).rr (by rw [fre_take HR2.out]; exact hs7.rr)).mono ?_
        rintro e w8 ⟨rfl, y4⟩
        go_wp2_with fail
        refine hK.out _ _ (cell_on y4 (cell_on y3 (cell_on y2 (cell_on y1 t1)))) (fun hHeld => ?_)
        clear hK K
        try simp only [Act.put, List.setIfInBounds_toArray, List.set_cons_zero, List.set_cons_succ]
        refine wpAnyH_takeD (i := 10) (d := some 44) (v := .bool false) rfl rfl (by kernel_rfl) (by kernel_rfl) (by kernel_rfl) (fun _ _ _ h => h) (Or.inl ⟨by rfl, ?_⟩) hHeld ?_
        · intro w hSw; (try dsimp only at hSw); go_simp
        try simp only [Act.put, List.setIfInBounds_toArray, List.set_cons_zero, List.set_cons_succ]
        refine wpAnyH_takeD (i := 11) (d := some 45) (v := .bool false) rfl rfl (by kernel_rfl) (by kernel_rfl) (by kernel_rfl) (fun _ _ _ h => h) (Or.inl ⟨by rfl, ?_⟩) hHeld ?_
        · intro w hSw; (try dsimp only at hSw); go_simp
        try simp only [Act.put, List.setIfInBounds_toArray, List.set_cons_zero, List.set_cons_succ]
        refine wpAnyH_takeD (i := 12) (d := some 46) (v := .int .i64 ee) rfl rfl (by kernel_rfl) (by kernel_rfl) (by kernel_rfl) (fun _ _ _ h => h) (Or.inl ⟨by rfl, ?_⟩) hHeld ?_
        · intro w hSw; (try dsimp only at hSw); go_simp
        try simp only [Act.put, List.setIfInBounds_toArray, List.set_cons_zero, List.set_cons_succ]
        refine wpAnyH_takeD (i := 13) (d := some 47) (v := .bool true) rfl rfl (by kernel_rfl) (by kernel_rfl) (by kernel_rfl) (fun _ _ _ h => h) (Or.inl ⟨by rfl, ?_⟩) hHeld ?_
        · intro w hSw; (try dsimp only at hSw); go_simp
        try simp only [Act.put, List.setIfInBounds_toArray, List.set_cons_zero, List.set_cons_succ]
        refine wpAnyH_takeD (i := 14) (d := some 48) (v := .bool true) rfl rfl (by kernel_rfl) (by kernel_rfl) (by kernel_rfl) (fun _ _ _ h => h) (Or.inl ⟨by rfl, ?_⟩) hHeld ?_
        · intro w hSw; (try dsimp only at hSw); go_simp
        try simp only [Act.put, List.setIfInBounds_toArray, List.set_cons_zero, List.set_cons_succ]
        refine wpAnyH_takeD (i := 15) (d := some 49) (v := .slice A4 n4 c4) rfl rfl (by kernel_rfl) (by kernel_rfl) (by kernel_rfl) (fun _ _ _ h => h) (Or.inl ⟨by rfl, ?_⟩) hHeld ?_
        · intro w hSw; (try dsimp only at hSw); go_simp
        try simp only [Act.put, List.setIfInBounds_toArray, List.set_cons_zero, List.set_cons_succ]
        refine wpAnyH_takeD (i := 17) (d := some 51) (v := .slice A n c) rfl rfl (by kernel_rfl) (by kernel_rfl) (by kernel_rfl) (fun _ _ _ h => h) (Or.inl ⟨by rfl, ?_⟩) hHeld ?_
        · intro w hSw; (try dsimp only at hSw); go_simp
        try simp only [Act.put, List.setIfInBounds_toArray, List.set_cons_zero, List.set_cons_succ]
        refine wpAnyH_ready (rs := [16]) (by kernel_rfl) (by simp) ?_
        refine AllReadyH.cons rfl (fun K hK => ?_) AllReadyH.nil
        go_simp
        refine (ours_c A4 n4 c4 _ w8 (hs4.on (bel2 (bel2 (bel2 (below_drew y1) y2) y3) y4)).rr hn4).mono ?_
        rintro e w9 ⟨A9, n9, c9, rfl, hs9, y5⟩
        go_wp2_with fail
        refine hK.out _ _ (cell_on y5 (cell_on y4 (cell_on y3 (cell_on y2 (cell_on y1 t1))))) (fun hHeld => ?_)
        clear hK K
        try simp only [Act.put, List.setIfInBounds_toArray, List.set_cons_zero, List.set_cons_succ]
        refine wpAnyH_ready (rs := [18]) (by kernel_rfl) (by simp) ?_
        refine AllReadyH.cons rfl (fun K hK => ?_) AllReadyH.nil
        go_simp
        refine (same_c A9 A n9 c9 n c _ w9 (by rw [← Hst.out]; exact hs9.rr) (h.on (bel2 (bel2 hl4 (bel2 (bel2 (bel2 (below_drew y1) y2) y3) y4)) y5))).mono ?_
        rintro e w10 ⟨rfl, y6⟩
        go_wp2_with fail
        refine hK.out _ _ (cell_on y6 (cell_on y5 (cell_on y4 (cell_on y3 (cell_on y2 (cell_on y1 t1)))))) (fun hHeld => ?_)
        clear hK K
        try simp only [Act.put, List.setIfInBounds_toArray, List.set_cons_zero, List.set_cons_succ]
        refine wpAnyH_takeD (i := 19) (d := some 53) (v := .bool false) rfl rfl (by kernel_rfl) (by kernel_rfl) (by kernel_rfl) (fun _ _ _ h => h) (Or.inl ⟨by rfl, ?_⟩) hHeld ?_
        · intro w hSw; (try dsimp only at hSw); go_simp
        try simp only [Act.put, List.setIfInBounds_toArray, List.set_cons_zero, List.set_cons_succ]
        refine wpAnyH_takeD (i := 20) (d := some 54) (v := .bool false) rfl rfl (by kernel_rfl) (by kernel_rfl) (by kernel_rfl) (fun _ _ _ h => h) (Or.inl ⟨by rfl, ?_⟩) hHeld ?_
        · intro w hSw; (try dsimp only at hSw); go_simp
        try simp only [Act.put, List.setIfInBounds_toArray, List.set_cons_zero, List.set_cons_succ]
        refine wpAnyH_takeD (i := 21) (d := some 55) (v := .bool false) rfl rfl (by kernel_rfl) (by kernel_rfl) (by kernel_rfl) (fun _ _ _ h => h) (Or.inl ⟨by rfl, ?_⟩) hHeld ?_
        · intro w hSw; (try dsimp only at hSw); go_simp
        try simp only [Act.put, List.setIfInBounds_toArray, List.set_cons_zero, List.set_cons_succ]
        refine wpAnyH_done (by kernel_rfl) ?_ _
        have y7 := bel2 (bel2 (bel2 (bel2 (bel2 (below_drew (W := w4) y1) y2) y3) y4) y5) y6
        have hl10 := bel2 hl4 y7
        have ab10 := ab4.on y7
        clear t1 t2 t3 y1 y2 y3 y4 y5 y6 y7 hs4 hs5 hs6 hs7 hs9 ab4 hl4
        go_wp2_with fail
        refine (theirs_c A n c L w10 (h.on hl10) hn).mono ?_
        rintro e w11 ⟨B1, m1, k1, rfl, hs11, y1⟩
        have hl11 := bel2 hl10 y1
        have ab11 := ab10.on y1
        clear y1 hl10 ab10
        go_wp2_with fail
        go_loopw [7, 78] (fun v i wr => ∃ (q : Nat) (M : List Hd), q ≤ n ∧ i = .int .i64 q ∧ OI L a.tx q M ∧ (∃ Ay ny cy, v = .slice Ay ny cy ∧ HS wr 45 Ay ny cy M) ∧ Below w11.heap.size w11 wr) (fun _ i _ => n - (intOf i).toNat)
        case atStart => exact ⟨0, L, by omega, rfl, OI.zero L a.tx, ⟨_, _, _, rfl, hs11⟩, Below.refl _ _⟩
        case round =>
          clear hs11
          obtain ⟨q, M, hq, rfl, hoi, ⟨Ay, ny, cy, rfl, hsM⟩, hlow⟩ := hrel
          have Hoi := Lib.hid hoi
          have hny : ny ≤ 100000 := by rw [← hsM.len]; exact Nat.le_trans hoi.sub.length_le (by rw [hlen.out]; exact hn)
          clear hoi
          have abr := ab11.on hlow
          have hlr := bel2 hl11 hlow
          by_cases hqn : q < n
          · obtain ⟨g, off, rfl, d1, d2, d3⟩ := (h.on hlr).at3 hqn
            have htk := Lib.hid (tk_take (L := L) (j := q) (by rw [hlen.out]; exact hqn))
            generalize tk L q = x at *
            obtain ⟨W1, hW1⟩ : ∃ W1, wr.alloc (.cells #[.int .u8 x.k, .int .i64 x.t, .bool x.w] 47) = W1 := ⟨_, rfl⟩
            have k1 : Below wr.heap.size wr W1 := by rw [← hW1]; exact belA wr _
            have cx : CB W1 wr.heap.size 47 #[.int .u8 x.k, .int .i64 x.t, .bool x.w] := by rw [← hW1]; exact CB.new wr _ _
            obtain ⟨s0, s1, s2, s3⟩ := (abr.on k1).cells
            have x1 := cx.cell 1
            simp only [List.getElem?_toArray, List.getElem?_cons_zero, List.getElem?_cons_succ] at x1
            rw [← hW1] at x1 s1
            have hlx := bel2 hlow k1
            have hsx := hsM.on k1
            have HW := Lib.hid hW1
            clear hW1
            by_cases hx : x.t = a.tx
            · have Hn := Lib.hid (Hoi.out.skip htk.out hx)
              have hne : (x.t != a.tx) = false := by simp [hx]
              clear hx s0 s2 s3
              have Hlx := Lib.hid (by rw [HW.out]; exact hlx : Below w11.heap.size w11 (wr.alloc (.cells #[.int .u8 x.k, .int .i64 x.t, .bool x.w] 47)))
              have Hsx := Lib.hid (by rw [HW.out]; exact hsx : HS (wr.alloc (.cells #[.int .u8 x.k, .int .i64 x.t, .bool x.w] 47)) 45 Ay ny cy M)
              clear hlx hsx hlow hsM k1 cx abr hlr HW
              go_wp2_with fail
              go_roundw
              case rel => exact ⟨q + 1, M, by omega, by go_num, Hn.out, ⟨_, _, _, rfl, Hsx.out⟩, Hlx.out⟩
              case measure => simp [intOf]; omega
            · have Hn := Lib.hid (Hoi.out.next htk.out)
              have hne : (x.t != a.tx) = true := by simp [hx]
              clear hx s0 s2 s3
              go_wp2_with fail
              rw [HW.out]
              refine (free_c Ay ny cy x.t M W1 hsx.rr hny).mono ?_
              rintro e w12 ⟨B2, m2, k2, rfl, hs12, y1⟩
              have hlz := Lib.hid (bel2 hlx y1)
              have Hs12 := Lib.hid hs12
              clear hlx hsx hlow hsM k1 cx abr hlr HW x1 s1 d1 d2 d3 hs12 y1
              go_wp2_with fail
              go_roundw
              case rel => exact ⟨q + 1, fre M x.t, by omega, by go_num, Hn.out, ⟨_, _, _, rfl, Hs12.out⟩, hlz.out⟩
              case measure => simp [intOf]; omega
          · obtain rfl : q = n := by omega
            have hall : ∀ p ∈ M, p.t = a.tx := by
              have := Hoi.out
              rw [← hlen.out] at this
              exact this.all
            obtain ⟨f0, f1⟩ := H9.out M Hoi.out.sub hall
            have tk2 := take_c Ay ny cy a.tx a.key a.w M wr hsM.rr hny
            rw [f0] at tk2
            have Hf1 := Lib.hid f1
            obtain ⟨s0, s1, s2, s3⟩ := abr.cells
            clear hall f0 f1
            go_wp2_with fail
            refine tk2.mono ?_
            rintro e w12 ⟨B2, m2, k2, rfl, hs12, y1⟩
            have hl12 := bel2 hlr y1
            have ab12 := abr.on y1
            have hm2 : m2 ≤ 100001 := by have := sTake_len M a.tx a.key a.w; rw [hs12.len, hsM.len] at this; omega
            clear tk2 s0 s1 s2 s3 hlr abr y1 hlow hsM
            obtain ⟨s0, s1, s2, s3⟩ := ab12.cells
            have hm3 : m2 ≤ 100000 := by
              have h1 := sTake_len M a.tx a.key a.w
              rw [hs12.len] at h1
              have h2 := Hoi.out.sub.length_le
              rw [hlen.out] at h2
              omega
            have hho := holds_c B2 m2 k2 a.tx a.key _ w12 hs12.rr hm3
            have hf := Hf1.out
            generalize hold (sTake M a.tx a.key a.w) a.tx a.key = hh at *
            clear hm2
            go_wp2_with fail
            refine hho.mono ?_
            rintro e w13 ⟨rfl, y1⟩
            have hl13 := bel2 hl12 y1
            clear hho s0 s1 s2 s3 y1 hs12 hl12 ab12
            go_wp2_with fail
            go_ret
            exact ⟨rfl, hl13⟩
      · have e9 : (ee != 9) = true := by simp [h9]
        have hr := Hform.out h9
        have hnr : ¬ (0 ≤ a.tx ∧ a.tx < 1000 ∧ a.key < 64) := fun k => h0 (hr.2 k)
        clear h0 h9 hr
        go_wp2_with fail
        refine wp_region_held_drew (S := fun W' => W'.cell? ⟨w.heap.size, 1, none⟩ = some (.int .i64 a.tx)) (by kernel_rfl) t1 (fun hHeld => ?_)
        refine wpAnyH_takeD (i := 0) (d := some 34) (v := .slice A4 n4 c4) rfl rfl (by kernel_rfl) (by kernel_rfl) (by kernel_rfl) (fun _ _ _ h => h) (Or.inl ⟨by rfl, ?_⟩) hHeld ?_
        · intro w hSw; (try dsimp only at hSw); go_simp
        try simp only [Act.put, List.setIfInBounds_toArray, List.set_cons_zero, List.set_cons_succ]
        refine wpAnyH_takeD (i := 1) (d := some 35) (v := .pointer (some ⟨w.heap.size, 1, none⟩)) rfl rfl (by kernel_rfl) (by kernel_rfl) (by kernel_rfl) (fun _ _ _ h => h) (Or.inl ⟨by rfl, ?_⟩) hHeld ?_
        · intro w hSw; (try dsimp only at hSw); go_simp
        try simp only [Act.put, List.setIfInBounds_toArray, List.set_cons_zero, List.set_cons_succ]
        refine wpAnyH_takeD (i := 2) (d := some 36) (v := .int .i64 a.tx) rfl rfl (by kernel_rfl) (by kernel_rfl) (by kernel_rfl) (fun _ _ _ h => h) (Or.inl ⟨by rfl, ?_⟩) hHeld ?_
        · intro w hSw; (try dsimp only at hSw); go_simp
        try simp only [Act.put, List.setIfInBounds_toArray, List.set_cons_zero, List.set_cons_succ]
        refine wpAnyH_takeD (i := 5) (d := some 39) (v := .slice A n c) rfl rfl (by kernel_rfl) (by kernel_rfl) (by kernel_rfl) (fun _ _ _ h => h) (Or.inl ⟨by rfl, ?_⟩) hHeld ?_
        · intro w hSw; (try dsimp only at hSw); go_simp
        try simp only [Act.put, List.setIfInBounds_toArray, List.set_cons_zero, List.set_cons_succ]
        refine wpAnyH_takeD (i := 6) (d := some 40) (v := .pointer (some ⟨w.heap.size, 1, none⟩)) rfl rfl (by kernel_rfl) (by kernel_rfl) (by kernel_rfl) (fun _ _ _ h => h) (Or.inl ⟨by rfl, ?_⟩) hHeld ?_
        · intro w hSw; (try dsimp only at hSw); go_simp
        try simp only [Act.put, List.setIfInBounds_toArray, List.set_cons_zero, List.set_cons_succ]
        refine wpAnyH_takeD (i := 7) (d := some 41) (v := .int .i64 a.tx) rfl rfl (by kernel_rfl) (by kernel_rfl) (by kernel_rfl) (fun _ _ _ h => h) (Or.inl ⟨by rfl, ?_⟩) hHeld ?_
        · intro w hSw; (try dsimp only at hSw); go_simp
        try simp only [Act.put, List.setIfInBounds_toArray, List.set_cons_zero, List.set_cons_succ]
        refine wpAnyH_ready (rs := [3]) (by kernel_rfl) (by simp) ?_
        refine AllReadyH.cons rfl (fun K hK => ?_) AllReadyH.nil
        go_simp
        refine (free_c A4 n4 c4 a.tx _ w4.drew hs4.rr.drew hn4).mono ?_
        rintro e w5 ⟨A5, n5, c5, rfl, hs5, y1⟩
        go_wp2_with fail
        refine hK.out _ _ (cell_on y1 t1) (fun hHeld => ?_)
        clear hK K
        try simp only [Act.put, List.setIfInBounds_toArray, List.set_cons_zero, List.set_cons_succ]
        refine wpAnyH_ready (rs := [4]) (by kernel_rfl) (by simp) ?_
        refine AllReadyH.cons rfl (fun K hK => ?_) AllReadyH.nil
        go_simp
        refine (ours_c A5 n5 c5 _ w5 hs5.rr (by rw [← hs5.len]; exact Nat.le_trans (fre_sub _ _).length_le (by rw [hs4.len]; exact hn4))).mono ?_
        rintro e w6 ⟨A6, n6, c6, rfl, hs6, y2⟩
        go_wp2_with fail
        refine hK.out _ _ (cell_on y2 (cell_on y1 t1)) (fun hHeld => ?_)
        clear hK K
        try simp only [Act.put, List.setIfInBounds_toArray, List.set_cons_zero, List.set_cons_succ]
        refine wpAnyH_ready (rs := [8]) (by kernel_rfl) (by simp) ?_
        refine AllReadyH.cons rfl (fun K hK => ?_) AllReadyH.nil
        go_simp
        refine (freeR_c A n c a.tx L w6 (h.on (bel2 (bel2 hl4 (below_drew y1)) y2)) hn).mono ?_
        rintro e w7 ⟨A7, n7, c7, rfl, hs7, y3⟩
        go_wp2_with fail
        refine hK.out _ _ (cell_on y3 (cell_on y2 (cell_on y1 t1))) (fun hHeld => ?_)
        clear hK K
        try simp only [Act.put, List.setIfInBounds_toArray, List.set_cons_zero, List.set_cons_succ]
        refine wpAnyH_ready (rs := [9]) (by kernel_rfl) (by simp) ?_
        refine AllReadyH.cons rfl (fun K hK => ?_) AllReadyH.nil
        go_simp
        refine (same_c A6 A7 n6 c6 n7 c7 _ w7 (hs6.on y3).rr (by rw [fre_take HR2.out]; exact hs7.rr)).mono ?_
        rintro e w8 ⟨rfl, y4⟩
        go_wp2_with fail
        refine hK.out _ _ (cell_on y4 (cell_on y3 (cell_on y2 (cell_on y1 t1)))) (fun hHeld => ?_)
        clear hK K
        try simp only [Act.put, List.setIfInBounds_toArray, List.set_cons_zero, List.set_cons_succ]
        refine wpAnyH_takeD (i := 10) (d := some 44) (v := .bool false) rfl rfl (by kernel_rfl) (by kernel_rfl) (by kernel_rfl) (fun _ _ _ h => h) (Or.inl ⟨by rfl, ?_⟩) hHeld ?_
        · intro w hSw; (try dsimp only at hSw); go_simp
        try simp only [Act.put, List.setIfInBounds_toArray, List.set_cons_zero, List.set_cons_succ]
        refine wpAnyH_takeD (i := 11) (d := some 45) (v := .bool false) rfl rfl (by kernel_rfl) (by kernel_rfl) (by kernel_rfl) (fun _ _ _ h => h) (Or.inl ⟨by rfl, ?_⟩) hHeld ?_
        · intro w hSw; (try dsimp only at hSw); go_simp
        try simp only [Act.put, List.setIfInBounds_toArray, List.set_cons_zero, List.set_cons_succ]
        refine wpAnyH_takeD (i := 12) (d := some 46) (v := .int .i64 ee) rfl rfl (by kernel_rfl) (by kernel_rfl) (by kernel_rfl) (fun _ _ _ h => h) (Or.inl ⟨by rfl, ?_⟩) hHeld ?_
        · intro w hSw; (try dsimp only at hSw); go_simp
        try simp only [Act.put, List.setIfInBounds_toArray, List.set_cons_zero, List.set_cons_succ]
        refine wpAnyH_takeD (i := 13) (d := some 47) (v := .bool true) rfl rfl (by kernel_rfl) (by kernel_rfl) (by kernel_rfl) (fun _ _ _ h => h) (Or.inl ⟨by rfl, ?_⟩) hHeld ?_
        · intro w hSw; (try dsimp only at hSw); go_simp
        try simp only [Act.put, List.setIfInBounds_toArray, List.set_cons_zero, List.set_cons_succ]
        refine wpAnyH_takeD (i := 14) (d := some 48) (v := .bool true) rfl rfl (by kernel_rfl) (by kernel_rfl) (by kernel_rfl) (fun _ _ _ h => h) (Or.inl ⟨by rfl, ?_⟩) hHeld ?_
        · intro w hSw; (try dsimp only at hSw); go_simp
        try simp only [Act.put, List.setIfInBounds_toArray, List.set_cons_zero, List.set_cons_succ]
        refine wpAnyH_takeD (i := 15) (d := some 49) (v := .slice A4 n4 c4) rfl rfl (by kernel_rfl) (by kernel_rfl) (by kernel_rfl) (fun _ _ _ h => h) (Or.inl ⟨by rfl, ?_⟩) hHeld ?_
        · intro w hSw; (try dsimp only at hSw); go_simp
        try simp only [Act.put, List.setIfInBounds_toArray, List.set_cons_zero, List.set_cons_succ]
        refine wpAnyH_takeD (i := 17) (d := some 51) (v := .slice A n c) rfl rfl (by kernel_rfl) (by kernel_rfl) (by kernel_rfl) (fun _ _ _ h => h) (Or.inl ⟨by rfl, ?_⟩) hHeld ?_
        · intro w hSw; (try dsimp only at hSw); go_simp
        try simp only [Act.put, List.setIfInBounds_toArray, List.set_cons_zero, List.set_cons_succ]
        refine wpAnyH_ready (rs := [16]) (by kernel_rfl) (by simp) ?_
        refine AllReadyH.cons rfl (fun K hK => ?_) AllReadyH.nil
        go_simp
        refine (ours_c A4 n4 c4 _ w8 (hs4.on (bel2 (bel2 (bel2 (below_drew y1) y2) y3) y4)).rr hn4).mono ?_
        rintro e w9 ⟨A9, n9, c9, rfl, hs9, y5⟩
        go_wp2_with fail
        refine hK.out _ _ (cell_on y5 (cell_on y4 (cell_on y3 (cell_on y2 (cell_on y1 t1))))) (fun hHeld => ?_)
        clear hK K
        try simp only [Act.put, List.setIfInBounds_toArray, List.set_cons_zero, List.set_cons_succ]
        refine wpAnyH_ready (rs := [18]) (by kernel_rfl) (by simp) ?_
        refine AllReadyH.cons rfl (fun K hK => ?_) AllReadyH.nil
        go_simp
        refine (same_c A9 A n9 c9 n c _ w9 (by rw [← Hst.out]; exact hs9.rr) (h.on (bel2 (bel2 hl4 (bel2 (bel2 (bel2 (below_drew y1) y2) y3) y4)) y5))).mono ?_
        rintro e w10 ⟨rfl, y6⟩
        go_wp2_with fail
        refine hK.out _ _ (cell_on y6 (cell_on y5 (cell_on y4 (cell_on y3 (cell_on y2 (cell_on y1 t1)))))) (fun hHeld => ?_)
        clear hK K
        try simp only [Act.put, List.setIfInBounds_toArray, List.set_cons_zero, List.set_cons_succ]
        refine wpAnyH_takeD (i := 19) (d := some 53) (v := .bool false) rfl rfl (by kernel_rfl) (by kernel_rfl) (by kernel_rfl) (fun _ _ _ h => h) (Or.inl ⟨by rfl, ?_⟩) hHeld ?_
        · intro w hSw; (try dsimp only at hSw); go_simp
        try simp only [Act.put, List.setIfInBounds_toArray, List.set_cons_zero, List.set_cons_succ]
        refine wpAnyH_takeD (i := 20) (d := some 54) (v := .bool false) rfl rfl (by kernel_rfl) (by kernel_rfl) (by kernel_rfl) (fun _ _ _ h => h) (Or.inl ⟨by rfl, ?_⟩) hHeld ?_
        · intro w hSw; (try dsimp only at hSw); go_simp
        try simp only [Act.put, List.setIfInBounds_toArray, List.set_cons_zero, List.set_cons_succ]
        refine wpAnyH_takeD (i := 21) (d := some 55) (v := .bool false) rfl rfl (by kernel_rfl) (by kernel_rfl) (by kernel_rfl) (fun _ _ _ h => h) (Or.inl ⟨by rfl, ?_⟩) hHeld ?_
        · intro w hSw; (try dsimp only at hSw); go_simp
        try simp only [Act.put, List.setIfInBounds_toArray, List.set_cons_zero, List.set_cons_succ]
        refine wpAnyH_done (by kernel_rfl) ?_ _
        have y7 := bel2 (bel2 (bel2 (bel2 (bel2 (below_drew (W := w4) y1) y2) y3) y4) y5) y6
        have hl10 := bel2 hl4 y7
        have ab10 := ab4.on y7
        clear t1 t2 t3 y1 y2 y3 y4 y5 y6 y7 hs4 hs5 hs6 hs7 hs9 ab4 hl4
        obtain ⟨s0, s1, s2, s3⟩ := ab10.cells
        rcases (show a.tx < 0 ∨ (0 ≤ a.tx ∧ ¬ a.tx < 1000) ∨ (0 ≤ a.tx ∧ a.tx < 1000 ∧ ¬ a.key < 64) by omega) with r1 | ⟨r1, r2⟩ | ⟨r1, r2, r3⟩
        · have r1' : ¬ (0 : Int) ≤ a.tx := by omega
          clear hnr
          go_wp2_with fail
          go_ret
          exact ⟨rfl, hl10⟩
        · clear hnr
          go_wp2_with fail
          go_ret
          exact ⟨rfl, hl10⟩
        · clear hnr
          go_wp2_with fail
          go_ret
          exact ⟨rfl, hl10⟩
end Go.Proofs.Ytifppmpknnpmpaa
