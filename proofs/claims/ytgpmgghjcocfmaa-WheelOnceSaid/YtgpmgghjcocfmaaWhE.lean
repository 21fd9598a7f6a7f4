/-
  Set, Stop, Tick and Next of package wheel. Condition: the timers can be read, a hundred thousand at most.
-/
import Derived.Test.YtgpmgghjcocfmaaWhD
set_option linter.unusedVariables false
set_option linter.unusedSimpArgs false
namespace Go.Proofs.Ytgpmgghjcocfmaa
open Go.RowKit

/-- A call gave a wheel back, and an error's number. -/
def WPost (w : World) (T : TypeId) (now : Int) (L : List (Int × Int)) (er : Int) (e : Ending) (w' : World) : Prop :=
  ∃ A n c, e = .returned (.tuple #[.agg #[.int .i64 now, .slice A n c], .int .i64 er]) ∧ TS w' T A n c L ∧ Below w.heap.size w w'
/-- A call gave a wheel back, ids, and an error's number. -/
def TPost (w : World) (T : TypeId) (now : Int) (L : List (Int × Int)) (l : List Int) (er : Int) (e : Ending) (w' : World) : Prop :=
  ∃ A n c Ai ni ci, e = .returned (.tuple #[.agg #[.int .i64 now, .slice A n c], .slice Ai ni ci, .int .i64 er]) ∧ TS w' T A n c L ∧ IS w' Ai ni ci l ∧ Below w.heap.size w w'
theorem Try.sizeW (w : World) : (sizeOf 66).run Try.prog w = .ok 2 w := by kernel_rfl
theorem len_sub {L M : List (Int × Int)} (h : M.Sublist L) {n m k : Nat} (h1 : L.length = n) (h2 : M.length = m) (h3 : n ≤ k) : m ≤ k := by have := h.length_le; omega

set_option maxRecDepth 100000 in
set_option maxHeartbeats 2000000 in
theorem set_w (now : Int) (A : Option Addr) (n c : Nat) (id at_ : Int) (L : List (Int × Int)) (w : World) (h : TR w A n c L) (hn : n ≤ 100000) (hid : (Lit.int .i64 id).wf = true) (hat : (Lit.int .i64 at_).wf = true) :
    Calls Try.prog 11 #[.agg #[.int .i64 now, .slice A n c], .int .i64 id, .int .i64 at_] w (WPost w 66 now (sSet now L id at_) (eSet now L id at_)) := by
  obtain ⟨W, hW, ha, hbox, hbl, hS⟩ := two_boxes w 28 28 now A n c
  have HW := Lib.hid hW
  clear hW
  have hr := right_w now A n c L W (h.on hbl) hn
  have hTL := h.len
  have Hid := Lib.hid hid
  have Hat := Lib.hid hat
  clear hid hat
  cases hR : rightB now L with
  | false =>
    have he : eSet now L id at_ = 2 := by unfold eSet; rw [hR]; rfl
    have hs : sSet now L id at_ = L := by unfold sSet; rw [he]; rfl
    rw [he, hs]
    rw [hR] at hr
    clear he hs hR
    go_enter Try.func11, Try.ntmps11
    go_wp2_with fail
    rw [← HW.out]
    refine hr.mono ?_
    rintro e w1 ⟨rfl, hb1⟩
    have ha1 := ha.on hb1 ha.lt
    have rb1 := hbox.on hb1 hbox.lt
    have hbl1 := bel2 hbl hb1
    have h1 := h.on hbl1
    obtain ⟨d0, d1⟩ := ha1.cells
    clear hr ha hbox hbl hb1 h
    go_wp2_with fail
    refine (clone_c now A n c L w1 h1 hn).mono ?_
    rintro e w2 ⟨A2, n2, c2, rfl, hx2, hb2⟩
    have y2 := rb1.on hb2 rb1.lt
    obtain ⟨z0, z1⟩ := y2.cells
    obtain ⟨f0, f1⟩ := y2.froz
    obtain ⟨w3, hw3, b3, _, _, kb, _, kt, _, _⟩ := store_end y2 now A2 n2 c2
    have hx3 := kt _ _ _ _ _ (by decide) hx2
    have hb3 := kb _ _ (bel2 hbl1 hb2) (show w.heap.size ≤ w.heap.size + 1 by omega)
    obtain ⟨v0, v1⟩ := b3.cells
    have Hw3 := Lib.hid hw3
    clear hw3 hb2 hx2 y2 kb kt b3
    go_wp2_with fail
    rw [Hw3.out]
    exact bodyPost_ret (v := .tuple #[.agg #[.int .i64 now, .slice A2 n2 c2], .int .i64 2]) (by simp [results, Try.results11, go_sem, v0, v1]) rfl ⟨A2, n2, c2, rfl, hx3, hb3⟩
  | true =>
    rw [hR] at hr
    by_cases hold : at_ ≤ now
    · have he : eSet now L id at_ = 10 := by unfold eSet; rw [hR, if_neg (by simp), if_pos hold]
      have hs : sSet now L id at_ = L := by unfold sSet; rw [he]; rfl
      rw [he, hs]
      clear he hs hR
      go_enter Try.func11, Try.ntmps11
      go_wp2_with fail
      rw [← HW.out]
      refine hr.mono ?_
      rintro e w1 ⟨rfl, hb1⟩
      have ha1 := ha.on hb1 ha.lt
      have rb1 := hbox.on hb1 hbox.lt
      have hbl1 := bel2 hbl hb1
      have h1 := h.on hbl1
      obtain ⟨d0, d1⟩ := ha1.cells
      clear hr ha hbox hbl hb1 h
      go_wp2_with fail
      refine (clone_c now A n c L w1 h1 hn).mono ?_
      rintro e w2 ⟨A2, n2, c2, rfl, hx2, hb2⟩
      have y2 := rb1.on hb2 rb1.lt
      obtain ⟨z0, z1⟩ := y2.cells
      obtain ⟨f0, f1⟩ := y2.froz
      obtain ⟨w3, hw3, b3, _, _, kb, _, kt, _, _⟩ := store_end y2 now A2 n2 c2
      have hx3 := kt _ _ _ _ _ (by decide) hx2
      have hb3 := kb _ _ (bel2 hbl1 hb2) (show w.heap.size ≤ w.heap.size + 1 by omega)
      obtain ⟨v0, v1⟩ := b3.cells
      have Hw3 := Lib.hid hw3
      clear hw3 hb2 hx2 y2 kb kt b3
      go_wp2_with fail
      rw [Hw3.out]
      exact bodyPost_ret (v := .tuple #[.agg #[.int .i64 now, .slice A2 n2 c2], .int .i64 10]) (by simp [results, Try.results11, go_sem, v0, v1]) rfl ⟨A2, n2, c2, rfl, hx3, hb3⟩
    · by_cases hbig : (1099511627776 : Int) < at_
      · have he : eSet now L id at_ = 3 := by unfold eSet; rw [hR, if_neg (by simp), if_neg hold, if_pos hbig]
        have hs : sSet now L id at_ = L := by unfold sSet; rw [he]; rfl
        rw [he, hs]
        clear he hs hR
        go_enter Try.func11, Try.ntmps11
        go_wp2_with fail
        rw [← HW.out]
        refine hr.mono ?_
        rintro e w1 ⟨rfl, hb1⟩
        have ha1 := ha.on hb1 ha.lt
        have rb1 := hbox.on hb1 hbox.lt
        have hbl1 := bel2 hbl hb1
        have h1 := h.on hbl1
        obtain ⟨d0, d1⟩ := ha1.cells
        clear hr ha hbox hbl hb1 h
        go_wp2_with fail
        refine (clone_c now A n c L w1 h1 hn).mono ?_
        rintro e w2 ⟨A2, n2, c2, rfl, hx2, hb2⟩
        have y2 := rb1.on hb2 rb1.lt
        obtain ⟨z0, z1⟩ := y2.cells
        obtain ⟨f0, f1⟩ := y2.froz
        obtain ⟨w3, hw3, b3, _, _, kb, _, kt, _, _⟩ := store_end y2 now A2 n2 c2
        have hx3 := kt _ _ _ _ _ (by decide) hx2
        have hb3 := kb _ _ (bel2 hbl1 hb2) (show w.heap.size ≤ w.heap.size + 1 by omega)
        obtain ⟨v0, v1⟩ := b3.cells
        have Hw3 := Lib.hid hw3
        clear hw3 hb2 hx2 y2 kb kt b3
        go_wp2_with fail
        rw [Hw3.out]
        exact bodyPost_ret (v := .tuple #[.agg #[.int .i64 now, .slice A2 n2 c2], .int .i64 3]) (by simp [results, Try.results11, go_sem, v0, v1]) rfl ⟨A2, n2, c2, rfl, hx3, hb3⟩
      · have hO := Lib.hid (rightB_iff.1 hR).2.2.2.2.1
        by_cases hfull : (delL L id).length = 1000
        · have he : eSet now L id at_ = 6 := by unfold eSet; rw [hR, if_neg (by simp), if_neg hold, if_neg hbig, if_pos hfull]
          have hs : sSet now L id at_ = L := by unfold sSet; rw [he]; rfl
          rw [he, hs]
          clear he hs hR
          go_enter Try.func11, Try.ntmps11
          go_wp2_with fail
          rw [← HW.out]
          refine hr.mono ?_
          rintro e w1 ⟨rfl, hb1⟩
          have ha1 := ha.on hb1 ha.lt
          have rb1 := hbox.on hb1 hbox.lt
          have hbl1 := bel2 hbl hb1
          have h1 := h.on hbl1
          obtain ⟨d0, d1⟩ := ha1.cells
          clear hr ha hbox hbl hb1 h
          go_wp2_with fail
          refine (without_w A n c id L w1 h1 hn).mono ?_
          rintro e w2 ⟨A5, n5, c5, rfl, hx5, hb5⟩
          have hn5 := hx5.len
          rw [hfull] at hn5
          subst hn5
          have ha2 := ha1.on hb5 ha1.lt
          have rb2 := rb1.on hb5 rb1.lt
          have hbl2 := bel2 hbl1 hb5
          have h2 := h1.on hb5
          clear d0 d1 ha1 rb1 hbl1 h1 hb5 hx5 hfull
          obtain ⟨d0, d1⟩ := ha2.cells
          go_wp2_with fail
          refine (clone_c now A n c L w2 h2 hn).mono ?_
          rintro e wc ⟨A2, n2, c2, rfl, hx2, hb2⟩
          have y2 := rb2.on hb2 rb2.lt
          obtain ⟨z0, z1⟩ := y2.cells
          obtain ⟨f0, f1⟩ := y2.froz
          obtain ⟨w3, hw3, b3, _, _, kb, _, kt, _, _⟩ := store_end y2 now A2 n2 c2
          have hx3 := kt _ _ _ _ _ (by decide) hx2
          have hb3 := kb _ _ (bel2 hbl2 hb2) (show w.heap.size ≤ w.heap.size + 1 by omega)
          obtain ⟨v0, v1⟩ := b3.cells
          have Hw3 := Lib.hid hw3
          clear hw3 hb2 hx2 y2 kb kt b3
          go_wp2_with fail
          rw [Hw3.out]
          exact bodyPost_ret (v := .tuple #[.agg #[.int .i64 now, .slice A2 n2 c2], .int .i64 6]) (by simp [results, Try.results11, go_sem, v0, v1]) rfl ⟨A2, n2, c2, rfl, hx3, hb3⟩
        · have he : eSet now L id at_ = 0 := by unfold eSet; rw [hR, if_neg (by simp), if_neg hold, if_neg hbig, if_neg hfull]
          have hs : sSet now L id at_ = insT (id, at_) (delL L id) := by unfold sSet; rw [if_pos he]
          rw [he, hs]
          clear he hs hR
          go_enter Try.func11, Try.ntmps11
          go_wp2_with fail
          rw [← HW.out]
          refine hr.mono ?_
          rintro e w1 ⟨rfl, hb1⟩
          have ha1 := ha.on hb1 ha.lt
          have rb1 := hbox.on hb1 hbox.lt
          have hbl1 := bel2 hbl hb1
          have h1 := h.on hbl1
          obtain ⟨d0, d1⟩ := ha1.cells
          clear hr ha hbox hbl hb1 h
          go_wp2_with fail
          refine (without_f A n c id L w1 h1 hn).mono ?_
          rintro e w2 ⟨A5, n5, c5, G5, rfl, hs5, hwf5, hG5, hb5⟩
          have hn5 := tc_len2 hs5
          rw [hn5] at hfull
          have hf5 : ((n5 : Int) == 1000) = false := by rw [beq_eq_false_iff_ne]; omega
          have hm5 := len_sub (del_sub L id) hTL hn5 hn
          have ha2 := ha1.on hb5 ha1.lt
          have rb2 := rb1.on hb5 rb1.lt
          have hbl2 := bel2 hbl1 hb5
          have la := ha1.lt
          have lb := rb1.lt
          have hG2 : some w.heap.size ≠ G5 := fun e => by have := hG5 _ e.symm; omega
          have hG3 : some (w.heap.size + 1) ≠ G5 := fun e => by have := hG5 _ e.symm; omega
          have hG4 : ∀ g, G5 = some g → w.heap.size ≤ g := fun g e => by have := hG5 _ e; omega
          have Hwf := Lib.hid (hwf5.ins Hid.out Hat.out)
          clear d0 d1 ha1 rb1 h1 hwf5 hb5
          obtain ⟨d0, d1⟩ := ha2.cells
          go_wp2_with fail
          go_region_held3 (fun W' => W'.cell? ⟨w.heap.size, 0, none⟩ = some (.int .i64 now) ∧ W'.cell? ⟨w.heap.size, 1, none⟩ = some (.slice A n c)) (first | exact ha2.cells | exact y1.cells | exact (y1.far2 (by omega) _ _).cells) (first
            | (go_at_call 26; refine (insert_w A5 n5 c5 G5 id at_ (delL L id) w2.drew hs5.drew hm5 (hO.out.sub (del_sub L id))).mono ?_; rintro e w3 ⟨A6, n6, c6, G6, rfl, hs6, hg6⟩; have y1 : Box w3 w.heap.size 28 now A n c := CB.same ha2 (hg6.block _ ha2.lt hG2); have y2 : Box w3 (w.heap.size + 1) 28 0 none 0 0 := CB.same rb2 (hg6.block _ rb2.lt hG3); obtain ⟨z0, z1⟩ := y2.cells; obtain ⟨f0, f1⟩ := y2.froz))
          obtain ⟨w4, hw4, b4, _, _, kb, _, kt, _, _⟩ := store_end y2 now A6 n6 c6
          have hx4 := kt _ _ _ _ _ (by decide) ⟨Hwf.out, G6, hs6⟩
          have hb4 := kb _ _ ((belowD hbl2).grown hg6 hbl2.size hG4) (show w.heap.size ≤ w.heap.size + 1 by omega)
          obtain ⟨v0, v1⟩ := b4.cells
          rw [hw4]
          clear hw4 kb kt
          go_wp2_with fail
          exact bodyPost_ret (v := .tuple #[.agg #[.int .i64 now, .slice A6 n6 c6], .int .i64 0]) (by simp [results, Try.results11, go_sem, v0, v1]) rfl ⟨A6, n6, c6, rfl, hx4, hb4⟩

set_option maxRecDepth 100000 in
set_option maxHeartbeats 2000000 in
theorem stop_w (now : Int) (A : Option Addr) (n c : Nat) (id : Int) (L : List (Int × Int)) (w : World) (h : TR w A n c L) (hn : n ≤ 100000) :
    Calls Try.prog 14 #[.agg #[.int .i64 now, .slice A n c], .int .i64 id] w (WPost w 66 now (sStop now L id) (eStop now L id)) := by
  obtain ⟨W, hW, ha, hbox, hbl, hS⟩ := two_boxes w 28 28 now A n c
  have HW := Lib.hid hW
  clear hW
  have hr := right_w now A n c L W (h.on hbl) hn
  have hTL := h.len
  cases hR : rightB now L with
  | false =>
    have he : eStop now L id = 2 := by unfold eStop; rw [hR]; rfl
    have hs : sStop now L id = L := by unfold sStop; rw [he]; rfl
    rw [he, hs]
    rw [hR] at hr
    clear he hs hR
    go_enter Try.func14, Try.ntmps14
    go_wp2_with fail
    rw [← HW.out]
    refine hr.mono ?_
    rintro e w1 ⟨rfl, hb1⟩
    have ha1 := ha.on hb1 ha.lt
    have rb1 := hbox.on hb1 hbox.lt
    have hbl1 := bel2 hbl hb1
    have h1 := h.on hbl1
    obtain ⟨d0, d1⟩ := ha1.cells
    clear hr ha hbox hbl hb1 h
    go_wp2_with fail
    refine (clone_c now A n c L w1 h1 hn).mono ?_
    rintro e w2 ⟨A2, n2, c2, rfl, hx2, hb2⟩
    have y2 := rb1.on hb2 rb1.lt
    obtain ⟨z0, z1⟩ := y2.cells
    obtain ⟨f0, f1⟩ := y2.froz
    obtain ⟨w3, hw3, b3, _, _, kb, _, kt, _, _⟩ := store_end y2 now A2 n2 c2
    have hx3 := kt _ _ _ _ _ (by decide) hx2
    have hb3 := kb _ _ (bel2 hbl1 hb2) (show w.heap.size ≤ w.heap.size + 1 by omega)
    obtain ⟨v0, v1⟩ := b3.cells
    have Hw3 := Lib.hid hw3
    clear hw3 hb2 hx2 y2 kb kt b3
    go_wp2_with fail
    rw [Hw3.out]
    exact bodyPost_ret (v := .tuple #[.agg #[.int .i64 now, .slice A2 n2 c2], .int .i64 2]) (by simp [results, Try.results14, go_sem, v0, v1]) rfl ⟨A2, n2, c2, rfl, hx3, hb3⟩
  | true =>
    rw [hR] at hr
    cases hh : hasL L id with
    | false =>
      have he : eStop now L id = 7 := by unfold eStop; rw [hR, hh]; rfl
      have hs : sStop now L id = L := by unfold sStop; rw [he]; rfl
      have hd := Lib.hid (del_len.2 hh)
      rw [he, hs]
      clear he hs hR hh
      go_enter Try.func14, Try.ntmps14
      go_wp2_with fail
      rw [← HW.out]
      refine hr.mono ?_
      rintro e w1 ⟨rfl, hb1⟩
      have ha1 := ha.on hb1 ha.lt
      have rb1 := hbox.on hb1 hbox.lt
      have hbl1 := bel2 hbl hb1
      have h1 := h.on hbl1
      obtain ⟨d0, d1⟩ := ha1.cells
      clear hr ha hbox hbl hb1 h
      go_wp2_with fail
      refine (without_w A n c id L w1 h1 hn).mono ?_
      rintro e w2 ⟨A5, n5, c5, rfl, hx5, hb5⟩
      have hn5 := hx5.len
      rw [hd.out, hTL] at hn5
      subst hn5
      have ha2 := ha1.on hb5 ha1.lt
      have rb2 := rb1.on hb5 rb1.lt
      have hbl2 := bel2 hbl1 hb5
      have h2 := h1.on hb5
      clear d0 d1 ha1 rb1 hbl1 h1 hb5 hx5
      obtain ⟨d0, d1⟩ := ha2.cells
      go_wp2_with fail
      refine (clone_c now A n c L w2 h2 hn).mono ?_
      rintro e wc ⟨A2, n2, c2, rfl, hx2, hb2⟩
      have y2 := rb2.on hb2 rb2.lt
      obtain ⟨z0, z1⟩ := y2.cells
      obtain ⟨f0, f1⟩ := y2.froz
      obtain ⟨w3, hw3, b3, _, _, kb, _, kt, _, _⟩ := store_end y2 now A2 n2 c2
      have hx3 := kt _ _ _ _ _ (by decide) hx2
      have hb3 := kb _ _ (bel2 hbl2 hb2) (show w.heap.size ≤ w.heap.size + 1 by omega)
      obtain ⟨v0, v1⟩ := b3.cells
      have Hw3 := Lib.hid hw3
      clear hw3 hb2 hx2 y2 kb kt b3
      go_wp2_with fail
      rw [Hw3.out]
      exact bodyPost_ret (v := .tuple #[.agg #[.int .i64 now, .slice A2 n2 c2], .int .i64 7]) (by simp [results, Try.results14, go_sem, v0, v1]) rfl ⟨A2, n2, c2, rfl, hx3, hb3⟩
    | true =>
      have he : eStop now L id = 0 := by unfold eStop; rw [hR, hh]; rfl
      have hs : sStop now L id = delL L id := by unfold sStop; rw [if_pos he]
      have hd := Lib.hid (del_lt hh)
      rw [he, hs]
      clear he hs hR hh
      go_enter Try.func14, Try.ntmps14
      go_wp2_with fail
      rw [← HW.out]
      refine hr.mono ?_
      rintro e w1 ⟨rfl, hb1⟩
      have ha1 := ha.on hb1 ha.lt
      have rb1 := hbox.on hb1 hbox.lt
      have hbl1 := bel2 hbl hb1
      have h1 := h.on hbl1
      obtain ⟨d0, d1⟩ := ha1.cells
      clear hr ha hbox hbl hb1 h
      go_wp2_with fail
      refine (without_w A n c id L w1 h1 hn).mono ?_
      rintro e w2 ⟨A5, n5, c5, rfl, hx5, hb5⟩
      have hn5 := hx5.len
      have hf5 : ((n5 : Int) == (n : Int)) = false := by rw [beq_eq_false_iff_ne]; have := hd.out; omega
      have ha2 := ha1.on hb5 ha1.lt
      have rb2 := rb1.on hb5 rb1.lt
      have hbl2 := bel2 hbl1 hb5
      clear d0 d1 ha1 rb1 hbl1 h1 hb5
      obtain ⟨d0, d1⟩ := ha2.cells
      obtain ⟨z0, z1⟩ := rb2.cells
      obtain ⟨f0, f1⟩ := rb2.froz
      obtain ⟨w4, hw4, b4, _, _, kb, _, kt, _, _⟩ := store_end rb2 now A5 n5 c5
      have hx4 := kt _ _ _ _ _ (by decide) hx5
      have hb4 := kb _ _ hbl2 (show w.heap.size ≤ w.heap.size + 1 by omega)
      obtain ⟨v0, v1⟩ := b4.cells
      have Hw4 := Lib.hid hw4
      clear hw4 kb kt hx5 hbl2 b4 rb2 ha2
      go_wp2_with fail
      rw [Hw4.out]
      exact bodyPost_ret (v := .tuple #[.agg #[.int .i64 now, .slice A5 n5 c5], .int .i64 0]) (by simp [results, Try.results14, go_sem, v0, v1]) rfl ⟨A5, n5, c5, rfl, hx4, hb4⟩

set_option maxRecDepth 100000 in
set_option maxHeartbeats 2000000 in
theorem tick_w (now : Int) (A : Option Addr) (n c : Nat) (by_ : Int) (L : List (Int × Int)) (w : World) (h : TR w A n c L) (hn : n ≤ 100000) :
    Calls Try.prog 16 #[.agg #[.int .i64 now, .slice A n c], .int .i64 by_] w (TPost w 66 (nTick now L by_) (sTick now L by_) (rTick now L by_) (eTick now L by_)) := by
  obtain ⟨W, hW, ha, hbox, hbl, hS⟩ := two_boxes w 28 28 now A n c
  have HW := Lib.hid hW
  clear hW
  have hr := right_w now A n c L W (h.on hbl) hn
  have hTL := h.len
  cases hR : rightB now L with
  | false =>
    have he : eTick now L by_ = 2 := by unfold eTick; rw [hR]; simp
    have hs : sTick now L by_ = L := by unfold sTick; rw [he]; rfl
    have hq : nTick now L by_ = now := by unfold nTick; rw [he]; rfl
    have hl : rTick now L by_ = [] := by unfold rTick; rw [he]; rfl
    rw [he, hs, hq, hl]
    rw [hR] at hr
    clear he hs hR hq hl
    go_enter Try.func16, Try.ntmps16
    go_wp2_with fail
    rw [← HW.out]
    refine hr.mono ?_
    rintro e w1 ⟨rfl, hb1⟩
    have ha1 := ha.on hb1 ha.lt
    have rb1 := hbox.on hb1 hbox.lt
    have hbl1 := bel2 hbl hb1
    have h1 := h.on hbl1
    obtain ⟨d0, d1⟩ := ha1.cells
    clear hr ha hbox hbl hb1 h
    go_wp2_with fail
    refine (clone_c now A n c L w1 h1 hn).mono ?_
    rintro e w2 ⟨A2, n2, c2, rfl, hx2, hb2⟩
    have y2 := rb1.on hb2 rb1.lt
    obtain ⟨z0, z1⟩ := y2.cells
    obtain ⟨f0, f1⟩ := y2.froz
    obtain ⟨w3, hw3, b3, _, _, kb, _, kt, _, _⟩ := store_end y2 now A2 n2 c2
    have hx3 := kt _ _ _ _ _ (by decide) hx2
    have hb3 := kb _ _ (bel2 hbl1 hb2) (show w.heap.size ≤ w.heap.size + 1 by omega)
    obtain ⟨v0, v1⟩ := b3.cells
    have Hw3 := Lib.hid hw3
    clear hw3 hb2 hx2 y2 kb kt b3
    go_wp2_with fail
    rw [Hw3.out]
    exact bodyPost_ret (v := .tuple #[.agg #[.int .i64 now, .slice A2 n2 c2], .slice none 0 0, .int .i64 2]) (by simp [results, Try.results16, go_sem, v0, v1]) rfl ⟨A2, n2, c2, none, 0, 0, rfl, hx3, IS.nil _, hb3⟩
  | true =>
    rw [hR] at hr
    by_cases hneg : by_ < 0
    · have he : eTick now L by_ = 2 := by unfold eTick; rw [if_pos (.inr hneg)]
      have hs : sTick now L by_ = L := by unfold sTick; rw [he]; rfl
      have hq : nTick now L by_ = now := by unfold nTick; rw [he]; rfl
      have hl : rTick now L by_ = [] := by unfold rTick; rw [he]; rfl
      rw [he, hs, hq, hl]
      clear he hs hR hq hl
      go_enter Try.func16, Try.ntmps16
      go_wp2_with fail
      rw [← HW.out]
      refine hr.mono ?_
      rintro e w1 ⟨rfl, hb1⟩
      have ha1 := ha.on hb1 ha.lt
      have rb1 := hbox.on hb1 hbox.lt
      have hbl1 := bel2 hbl hb1
      have h1 := h.on hbl1
      obtain ⟨d0, d1⟩ := ha1.cells
      clear hr ha hbox hbl hb1 h
      go_wp2_with fail
      refine (clone_c now A n c L w1 h1 hn).mono ?_
      rintro e w2 ⟨A2, n2, c2, rfl, hx2, hb2⟩
      have y2 := rb1.on hb2 rb1.lt
      obtain ⟨z0, z1⟩ := y2.cells
      obtain ⟨f0, f1⟩ := y2.froz
      obtain ⟨w3, hw3, b3, _, _, kb, _, kt, _, _⟩ := store_end y2 now A2 n2 c2
      have hx3 := kt _ _ _ _ _ (by decide) hx2
      have hb3 := kb _ _ (bel2 hbl1 hb2) (show w.heap.size ≤ w.heap.size + 1 by omega)
      obtain ⟨v0, v1⟩ := b3.cells
      have Hw3 := Lib.hid hw3
      clear hw3 hb2 hx2 y2 kb kt b3
      go_wp2_with fail
      rw [Hw3.out]
      exact bodyPost_ret (v := .tuple #[.agg #[.int .i64 now, .slice A2 n2 c2], .slice none 0 0, .int .i64 2]) (by simp [results, Try.results16, go_sem, v0, v1]) rfl ⟨A2, n2, c2, none, 0, 0, rfl, hx3, IS.nil _, hb3⟩
    · obtain ⟨_, n0, n1, _, hO, _⟩ := rightB_iff.1 hR
      simp only [lastT] at n1
      have HO := Lib.hid hO
      clear hO
      by_cases hbig : 1099511627776 - now < by_
      · have he : eTick now L by_ = 3 := by unfold eTick; rw [hR, if_neg (by simp; omega), if_pos hbig]
        have hs : sTick now L by_ = L := by unfold sTick; rw [he]; rfl
        have hq : nTick now L by_ = now := by unfold nTick; rw [he]; rfl
        have hl : rTick now L by_ = [] := by unfold rTick; rw [he]; rfl
        rw [he, hs, hq, hl]
        clear he hs hR hq hl
        go_enter Try.func16, Try.ntmps16
        go_wp2_with fail
        rw [← HW.out]
        refine hr.mono ?_
        rintro e w1 ⟨rfl, hb1⟩
        have ha1 := ha.on hb1 ha.lt
        have rb1 := hbox.on hb1 hbox.lt
        have hbl1 := bel2 hbl hb1
        have h1 := h.on hbl1
        obtain ⟨d0, d1⟩ := ha1.cells
        clear hr ha hbox hbl hb1 h
        go_wp2_with fail
        refine (clone_c now A n c L w1 h1 hn).mono ?_
        rintro e w2 ⟨A2, n2, c2, rfl, hx2, hb2⟩
        have y2 := rb1.on hb2 rb1.lt
        obtain ⟨z0, z1⟩ := y2.cells
        obtain ⟨f0, f1⟩ := y2.froz
        obtain ⟨w3, hw3, b3, _, _, kb, _, kt, _, _⟩ := store_end y2 now A2 n2 c2
        have hx3 := kt _ _ _ _ _ (by decide) hx2
        have hb3 := kb _ _ (bel2 hbl1 hb2) (show w.heap.size ≤ w.heap.size + 1 by omega)
        obtain ⟨v0, v1⟩ := b3.cells
        have Hw3 := Lib.hid hw3
        clear hw3 hb2 hx2 y2 kb kt b3
        go_wp2_with fail
        rw [Hw3.out]
        exact bodyPost_ret (v := .tuple #[.agg #[.int .i64 now, .slice A2 n2 c2], .slice none 0 0, .int .i64 3]) (by simp [results, Try.results16, go_sem, v0, v1]) rfl ⟨A2, n2, c2, none, 0, 0, rfl, hx3, IS.nil _, hb3⟩
      · have he : eTick now L by_ = 0 := eTick_ok.2 ⟨rightB_iff.1 hR, by omega, by simp only [lastT]; omega⟩
        have hs : sTick now L by_ = lf L (now + by_) := by unfold sTick; rw [if_pos he]
        have hq : nTick now L by_ = now + by_ := by unfold nTick; rw [if_pos he]
        have hl : rTick now L by_ = (fr L (now + by_)).map (·.1) := by unfold rTick; rw [if_pos he]
        rw [he, hs, hq, hl]
        clear he hs hR hq hl
        go_enter Try.func16, Try.ntmps16
        go_wp2_with fail
        rw [← HW.out]
        refine hr.mono ?_
        rintro e w1 ⟨rfl, hb1⟩
        have ha1 := ha.on hb1 ha.lt
        have rb1 := hbox.on hb1 hbox.lt
        have hbl1 := bel2 hbl hb1
        have h1 := h.on hbl1
        obtain ⟨d0, d1⟩ := ha1.cells
        clear hr ha hbox hbl hb1 h
        go_wp2_with fail
        refine (fired_w A n c (now + by_) L w1 h1 hn HO.out).mono ?_
        rintro e w2 ⟨A5, n5, c5, rfl, hx5, hb5⟩
        have hn5 := hx5.len
        rw [List.length_map] at hn5
        have hm5 : n5 ≤ n := by have := fr_le (L := L) (m := now + by_); omega
        have ha2 := ha1.on hb5 ha1.lt
        have rb2 := rb1.on hb5 rb1.lt
        have hbl2 := bel2 hbl1 hb5
        have h2 := (h1.on hb5).cut hm5
        rw [← hn5, lf_drop HO.out, hn5] at h2
        have hcut := run_cut_from (P := Try.prog) 26 66 Try.underlying26 2 Try.sizeW A n c n5 hm5 w2
        generalize (if c = n5 then A else A.map (·.add (n5 * 2))) = A7 at *
        have hc7 : n - n5 ≤ 100000 := by omega
        clear d0 d1 ha1 rb1 hbl1 h1 hb5
        obtain ⟨d0, d1⟩ := ha2.cells
        generalize n - n5 = n7 at *
        generalize c - n5 = c7 at *
        go_wp2_with fail
        refine (copy_c A7 n7 c7 _ w2 h2 hc7).mono ?_
        rintro e w3 ⟨A6, n6, c6, rfl, hx6, hb6⟩
        have rb3 := rb2.on hb6 rb2.lt
        have hbl3 := bel2 hbl2 hb6
        have hx7 := hx5.on hb6
        obtain ⟨z0, z1⟩ := rb3.cells
        obtain ⟨f0, f1⟩ := rb3.froz
        obtain ⟨w4, hw4, b4, _, _, kb, _, kt, ki, _⟩ := store_end rb3 (now + by_) A6 n6 c6
        have hx8 := kt _ _ _ _ _ (by decide) hx6
        have hx9 := ki _ _ _ _ (by decide) hx7
        have hb4 := kb _ _ hbl3 (show w.heap.size ≤ w.heap.size + 1 by omega)
        obtain ⟨v0, v1⟩ := b4.cells
        have Hw4 := Lib.hid hw4
        clear hw4 kb kt ki hx5 hx6 hx7 hb6 hbl2 hbl3 b4 rb3 rb2 ha2 hcut h2
        go_wp2_with fail
        rw [Hw4.out]
        exact bodyPost_ret (v := .tuple #[.agg #[.int .i64 (now + by_), .slice A6 n6 c6], .slice A5 n5 c5, .int .i64 0]) (by simp [results, Try.results16, go_sem, v0, v1]) rfl ⟨A6, n6, c6, A5, n5, c5, rfl, hx8, hx9, hb4⟩
end Go.Proofs.Ytgpmgghjcocfmaa
