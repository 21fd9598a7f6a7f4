/-
  The law WheelSets: its walk. Condition: the timers can be read.
-/
import Derived.Test.YtgpmgghjcocfmaaWhN
set_option linter.unusedVariables false
set_option linter.unusedSimpArgs false
namespace Go.Proofs.Ytgpmgghjcocfmaa
open Go.RowKit

theorem int_wf {x : Int} (h : -9223372036854775808 ≤ x ∧ x < 9223372036854775808) : (Lit.int .i64 x).wf = true := by
  simp only [Lit.wf, Bool.and_eq_true, decide_eq_true_eq]
  have h1 : IntKind.i64.min = -9223372036854775808 := rfl
  have h2 : IntKind.i64.max = 9223372036854775807 := rfl
  omega
/-- A timer that is set is there, and no other one of its id. -/
theorem set_one {now id at_ : Int} {L : List (Int × Int)} (h : eSet now L id at_ = 0) : (id, at_) ∈ sSet now L id at_ ∧ ∀ p ∈ sSet now L id at_, p.1 = id → p = (id, at_) := by
  unfold sSet
  rw [if_pos h]
  refine ⟨mem_insT.2 (.inl rfl), fun p hp e => ?_⟩
  rcases mem_insT.1 hp with rfl | hp
  · rfl
  · exact absurd e (del_ne p hp)
theorem set_len {now id at_ : Int} {L : List (Int × Int)} : (sSet now L id at_).length ≤ L.length + 1 := by
  unfold sSet
  split
  · rw [length_insT]; have := (del_sub L id).length_le; omega
  · omega

/-- The wheel and the two numbers, as the law has them. -/
def HS (s : Nat) (now : Int) (A : Option Addr) (n c a0 a1 : Nat) (W : World) : Prop := (W.cell? ⟨s, 0, none⟩ = some (.int .i64 now) ∧ W.cell? ⟨s, 1, none⟩ = some (.slice A n c)) ∧ W.cell? ⟨s + 1, 0, none⟩ = some (.int .u16 a0) ∧ W.cell? ⟨s + 1, 1, none⟩ = some (.int .u16 a1)
theorem HS.on {s : Nat} {now : Int} {A : Option Addr} {n c a0 a1 : Nat} {W W' : World} (h : HS s now A n c a0 a1 W) (k : Below W.heap.size W W') : HS s now A n c a0 a1 W' := ⟨⟨cell_on k h.1.1, cell_on k h.1.2⟩, cell_on k h.2.1, cell_on k h.2.2⟩
theorem below_al (W : World) (o : Obj) : Below W.heap.size W (W.alloc o) := (Below.refl _ _).alloc (Nat.le_refl _) _
theorem HS.al {s : Nat} {now : Int} {A : Option Addr} {n c a0 a1 : Nat} {W : World} (h : HS s now A n c a0 a1 W) (o : Obj) : HS s now A n c a0 a1 (W.alloc o) := h.on (below_al W o)
theorem cell_set {W : World} {b o d i : Nat} {v x : Value} (h : W.cell? ⟨b, o, none⟩ = some v) (hd : b ≠ d) : (W.setCell ⟨d, i, none⟩ x).cell? ⟨b, o, none⟩ = some v := by
  rw [← h]
  exact World.cell?_of_block (a := ⟨b, o, none⟩) (Below.heap_setCell W ⟨d, i, none⟩ x b hd)
theorem HS.set {s : Nat} {now : Int} {A : Option Addr} {n c a0 a1 : Nat} {W : World} (h : HS s now A n c a0 a1 W) {d : Nat} (hd : s + 1 < d) (i : Nat) (x : Value) : HS s now A n c a0 a1 (W.setCell ⟨d, i, none⟩ x) :=
  ⟨⟨cell_set h.1.1 (by omega), cell_set h.1.2 (by omega)⟩, cell_set h.2.1 (by omega), cell_set h.2.2 (by omega)⟩

set_option maxRecDepth 100000 in
set_option maxHeartbeats 4000000 in
theorem sets_walk (now : Int) (A : Option Addr) (n c : Nat) (id : Int) (a0 a1 : Nat) (L : List (Int × Int)) (w : World) (h : TR w A n c L) (hid : (Lit.int .i64 id).wf = true) (ha0 : a0 < 65536) (ha1 : a1 < 65536) :
    Calls Try.prog 7 #[.agg #[.int .i64 now, .slice A n c], .int .i64 id, .agg #[.int .u16 a0, .int .u16 a1]] w fun e w' => e = .returned (.bool true) ∧ Below w.heap.size w w' := by
  obtain ⟨W0, hW0, bx0, hb00⟩ := boxed w 24 now A n c
  obtain ⟨W, hW⟩ : ∃ W, W0.alloc (.cells #[.int .u16 a0, .int .u16 a1] 60) = W := ⟨_, rfl⟩
  have kW : Below W0.heap.size W0 W := by rw [← hW]; exact (Below.refl _ _).alloc (Nat.le_refl _) _
  have hs0 : W0.heap.size = w.heap.size + 1 := by rw [← hW0]; simp
  have ca : CB W (w.heap.size + 1) 60 #[.int .u16 a0, .int .u16 a1] := by rw [← hs0, ← hW]; exact CB.new _ _ _
  have HW := Lib.hid (show (w.alloc (.cells #[.int .i64 now, .slice A n c] 24)).alloc (.cells #[.int .u16 a0, .int .u16 a1] 60) = W by rw [hW0, hW])
  have bx := bx0.on kW bx0.lt
  have hb0 := bel2 hb00 kW
  have hT0 := h.on hb0
  have hlen := h.len
  have Hid := Lib.hid hid
  clear h hW0 hW kW hs0 bx0 hb00 hid
  go_enter Try.func7, Try.ntmps7
  go_wp2_with fail
  rw [HW.out]
  refine (alive_c W).mono ?_
  rintro e w1 ⟨rfl, k1⟩
  have bx1 := bx.on k1 bx.lt
  have ca1 := ca.same (k1.block _ ca.lt)
  have h1 := hT0.on k1
  have hb1 := bel2 hb0 k1
  clear bx ca hT0 hb0 k1 HW
  obtain ⟨d0, d1⟩ := bx1.cells
  by_cases hbig : (100 : Int) < (n : Int)
  · go_wp2_with fail
    go_ret
    exact ⟨rfl, hb1⟩
  have hn : n ≤ 100000 := by omega
  have hr := right_r now A n c L w1 h1 hn
  cases hR : rightB now L with
  | false =>
    rw [hR] at hr
    clear hR
    go_wp2_with fail
    refine hr.mono ?_
    rintro e w2 ⟨rfl, k2⟩
    have hb2 := bel2 hb1 k2
    clear hr d0 d1
    go_wp2_with fail
    go_ret
    exact ⟨rfl, hb2⟩
  | true =>
    rw [hR] at hr
    have HR := Lib.hid (rightB_iff.1 hR)
    clear hR
    go_wp2_with fail
    refine hr.mono ?_
    rintro e w2 ⟨rfl, k2⟩
    have bx2 := bx1.on k2 bx1.lt
    have ca2 := ca1.same (k2.block _ ca1.lt)
    have h2 := h1.on k2
    have hb2 := bel2 hb1 k2
    clear hr d0 d1 bx1 h1 hb1 k2 ca1
    obtain ⟨d0, d1⟩ := bx2.cells
    by_cases hfar : (549755813888 : Int) < now
    · go_wp2_with fail
      go_ret
      exact ⟨rfl, hb2⟩
    have hn0 := HR.out.2.1
    -- what the calls come to
    obtain ⟨T0, hT0⟩ : ∃ T, now + (a0 : Int) + 1 = T := ⟨_, rfl⟩
    obtain ⟨T1, hT1⟩ : ∃ T, now + (a1 : Int) + 1 = T := ⟨_, rfl⟩
    have hdl := (del_sub L id).length_le
    have s1 : eSet now L id T0 = 0 := eSet_ok.2 ⟨HR.out, by omega, by simp only [lastT]; omega, by omega⟩
    obtain ⟨L1, hL1⟩ : ∃ l, sSet now L id T0 = l := ⟨_, rfl⟩
    have hR1 : RightP now L1 := by rw [← hL1]; exact right_set HR.out
    have hl1 : L1.length ≤ n + 1 := by rw [← hL1, ← hlen]; exact set_len
    have hdl1 := (del_sub L1 id).length_le
    have s2 : eSet now L1 id T1 = 0 := eSet_ok.2 ⟨hR1, by omega, by simp only [lastT]; omega, by omega⟩
    obtain ⟨L2, hL2⟩ : ∃ l, sSet now L1 id T1 = l := ⟨_, rfl⟩
    have hR2 : RightP now L2 := by rw [← hL2]; exact right_set hR1
    have hl2 : L2.length ≤ n + 2 := by rw [← hL2]; have := set_len (now := now) (id := id) (at_ := T1) (L := L1); omega
    have ho2 : (id, T1) ∈ L2 ∧ ∀ p ∈ L2, p.1 = id → p = (id, T1) := by rw [← hL2]; exact set_one s2
    have t1 : eTick now L2 a1 = 0 := eTick_ok.2 ⟨hR2, by omega, by simp only [lastT]; omega⟩
    obtain ⟨l1, hl1'⟩ : ∃ l, rTick now L2 a1 = l := ⟨_, rfl⟩
    obtain ⟨L3, hL3⟩ : ∃ l, sTick now L2 a1 = l := ⟨_, rfl⟩
    have hn3 : nTick now L2 a1 = now + a1 := by unfold nTick; rw [if_pos t1]
    have hno : ∀ x ∈ l1, x ≠ id := by
      rw [← hl1']
      unfold rTick
      rw [if_pos t1]
      intro x hx e
      obtain ⟨p, hp, rfl⟩ := List.mem_map.1 hx
      obtain ⟨hp1, hp2⟩ := List.mem_filter.1 hp
      have := ho2.2 p hp1 e
      rw [this] at hp2
      simp at hp2
      omega
    have hL3l : L3.length ≤ n + 2 := by
      rw [← hL3]
      unfold sTick
      rw [if_pos t1]
      have := List.length_filter_le (fun p : Int × Int => !decide (p.2 ≤ now + (a1 : Int))) L2
      unfold lf
      omega
    have hR3 : RightP (now + a1) L3 := by
      have := right_tick (by_ := (a1 : Int)) hR2
      rw [hL3, hn3] at this
      exact this
    have u1 : eTick (now + a1) L3 1 = 0 := eTick_ok.2 ⟨hR3, by omega, by simp only [lastT]; omega⟩
    obtain ⟨l2, hl2'⟩ : ∃ l, rTick (now + a1) L3 1 = l := ⟨_, rfl⟩
    have hin : id ∈ l2 := by
      rw [← hl2']
      unfold rTick
      rw [if_pos u1, ← hL3]
      unfold sTick
      rw [if_pos t1]
      refine List.mem_map.2 ⟨(id, T1), List.mem_filter.2 ⟨List.mem_filter.2 ⟨ho2.1, ?_⟩, ?_⟩, rfl⟩
      · simp; omega
      · simp; omega
    have Hno := Lib.hid hno
    have Hin := Lib.hid hin
    have wf0 := Lib.hid (int_wf (x := T0) (by omega))
    have wf1 := Lib.hid (int_wf (x := T1) (by omega))
    have z1 : IntKind.i64.wrap (now + (a0 : Int)) = now + a0 := IntWalk.i64_in _ (by omega)
    have z2 : IntKind.i64.wrap (now + (a0 : Int) + 1) = now + a0 + 1 := IntWalk.i64_in _ (by omega)
    have z3 : IntKind.i64.wrap ((a0 : Int)) = a0 := IntWalk.i64_in _ (by omega)
    have z4 : IntKind.i64.wrap ((a1 : Int)) = a1 := IntWalk.i64_in _ (by omega)
    have HT0 := Lib.hid hT0
    have c0 := ca2.cell 0
    have c1 := ca2.cell 1
    simp only [List.getElem?_toArray, List.getElem?_cons_succ, List.getElem?_cons_zero] at c0 c1
    clear hno hin hR1 hR2 hR3 ho2 hdl hdl1 hT0
    go_wp2_with fail
    have H2 : HS w.heap.size now A n c a0 a1 w2 := ⟨⟨d0, d1⟩, c0, c1⟩
    have hlt2 : w.heap.size + 1 < w2.heap.size := ca2.lt
    have h2a : TR (w2.alloc (.cells #[.int .i64 0, .slice none 0 0] 28)) A n c L := h2.on (below_al _ _)
    go_region_held3 (fun W' => (W'.cell? ⟨w.heap.size, 0, none⟩ = some (.int .i64 now) ∧ W'.cell? ⟨w.heap.size, 1, none⟩ = some (.slice A n c)) ∧ W'.cell? ⟨w.heap.size + 1, 0, none⟩ = some (.int .u16 a0) ∧ W'.cell? ⟨w.heap.size + 1, 1, none⟩ = some (.int .u16 a1)) (first | exact H2 | exact (H4.set hdd 0 _).set hdd 1 _ | exact H4.set hdd 0 _ | exact H4.al _ | exact H4 | exact H3.al _ | exact H3 | exact H2.al _) (first
      | (go_at_call 12; refine (theirs_c now A n c L w2.drew h2.drew hn).mono ?_; rintro e w3 ⟨A3, n3, c3, rfl, hx3, k3⟩; have hn3' : n3 ≤ 100000 := (by have := hx3.len; omega); have H3 : HS w.heap.size now A n c a0 a1 w3 := HS.on (W := w2) H2 (below_drew k3); have hs3 : w2.heap.size ≤ w3.heap.size := k3.size)
      | (go_at_call 12; refine (theirs_c now A n c L (w2.alloc (.cells #[.int .i64 0, .slice none 0 0] 28)).drew h2a.drew hn).mono ?_; rintro e w3 ⟨A3, n3, c3, rfl, hx3, k3⟩; have hn3' : n3 ≤ 100000 := (by have := hx3.len; omega); have H3 : HS w.heap.size now A n c a0 a1 w3 := HS.on (H2.al _) (below_drew k3); have y1 : Box w3 w2.heap.size 28 0 none 0 0 := (Box.new w2 28 0 none 0 0).on (below_drew k3) (by simp))
      | (go_at_call 11; rw [HT0.out]; (with_reducible refine (set_w now A3 n3 c3 id T0 L w3 hx3.tr hn3' Hid.out wf0.out).mono ?_); rw [s1, hL1]; rintro e w4 ⟨A4, n4, c4, rfl, hx4, k4⟩; have H4 : HS w.heap.size now A n c a0 a1 w4 := H3.on k4; (try (have y2 := y1.on k4 y1.lt; obtain ⟨z0, z1⟩ := y2.cells; obtain ⟨f0, f1⟩ := y2.froz; have hdd : w.heap.size + 1 < w2.heap.size := hlt2)))
      | (go_at_call 11; rw [HT0.out]; refine (set_w now A3 n3 c3 id T0 L (w3.alloc (.cells #[.int .i64 0, .slice none 0 0] 28)) (hx3.on (below_al _ _)).tr hn3' Hid.out wf0.out).mono ?_; rw [s1, hL1]; rintro e w4 ⟨A4, n4, c4, rfl, hx4, k4⟩; have H4 : HS w.heap.size now A n c a0 a1 w4 := (H3.al _).on k4; have y2 := (Box.new w3 28 0 none 0 0).on k4 (by simp); obtain ⟨z0, z1⟩ := y2.cells; obtain ⟨f0, f1⟩ := y2.froz; have hdd : w.heap.size + 1 < w3.heap.size := (by omega)))
    · have hb4 := bel2 (bel2 hb2 (below_drew k3)) k4
      obtain ⟨V, hV, bo, kV⟩ := boxed w4 28 now A4 n4 c4
      rw [hV]
      have HSV := H4.on kV
      have hxV := hx4.on kV
      have hbV := bel2 hb4 kV
      have hlt7 : w.heap.size + 1 < w4.heap.size := by have := k4.size; omega
      clear hV kV hb4 H4 H3 hx4 k3 k4 hx3
      generalize w4.heap.size = b7 at *
      have hn4 : n4 ≤ 100000 := by have := hxV.len; omega
      obtain ⟨⟨d0', d1'⟩, c0', c1'⟩ := HSV
      obtain ⟨x0, x1⟩ := bo.cells
      clear d0 d1 c0 c1 H2 h2 h2a z1 z2 z3 z4 ca2 bx2 hlt2 hb2
      have hw1 : wrap64 (now + (a1 : Int)) = now + a1 := wrap_in (by omega)
      have hw2 : wrap64 T1 = T1 := wrap_in (by omega)
      have hst := set_w now A4 n4 c4 id T1 L1 V hxV.tr hn4 Hid.out wf1.out
      rw [s2, hL2] at hst
      go_wp2_with fail
      refine hst.mono ?_
      rintro e w5 ⟨A5, n5, c5, rfl, hx5, k5⟩
      have HS5 := HS.on ⟨⟨d0', d1'⟩, c0', c1'⟩ k5
      have hb5 := bel2 hbV k5
      have hn5 : n5 ≤ 100000 := by have := hx5.len; omega
      clear hst d0' d1' c0' c1' x0 x1 bo hxV hbV k5
      obtain ⟨W5, hW5, bo, kW5⟩ := boxed w5 28 now A5 n5 c5
      have HW5 := Lib.hid hW5
      have hs5 : w.heap.size + 1 < w5.heap.size := World.block_lt_of_cell? w5 _ HS5.2.1
      have HS6 := HS5.on kW5
      have hx6 := hx5.on kW5
      have hb6 := bel2 hb5 kW5
      obtain ⟨⟨_, _⟩, c0', c1'⟩ := HS5
      have htk := tick_w now A5 n5 c5 a1 L2 W5 hx6.tr hn5
      rw [t1, hl1', hL3, hn3] at htk
      clear hW5 hx5 hb5 kW5
      go_wp2_with fail
      rw [HW5.out]
      refine htk.mono ?_
      rintro e w7 ⟨A7, n7, c7, B7, m7, q7, rfl, hx7, hi7, k7⟩
      have hb7 := bel2 hb6 k7
      have hn7 : n7 ≤ 100000 := by have := hx7.len; omega
      clear htk HW5 c0' c1' HS6 hx6 hb6 k7 bo hs5
      obtain ⟨nw, hnw⟩ : ∃ nw, now + (a1 : Int) = nw := ⟨_, rfl⟩
      have Hnw := Lib.hid hnw
      rw [hnw] at u1 hl2'
      rw [hnw] at hw1 hn3
      clear hw1 hw2 hn3
      rw [hnw]
      clear hnw
      go_wp2_with fail
      obtain ⟨W7, hW7, bo, kW7⟩ := boxed w7 28 nw A7 n7 c7
      rw [hW7]
      have hx8 := hx7.on kW7
      have hi8 := hi7.on kW7
      have hb8 := bel2 hb7 kW7
      clear hW7 hx7 hi7 hb7 kW7
      generalize w7.heap.size = b9 at *
      have htk := tick_w nw A7 n7 c7 1 L3 W7 hx8.tr hn7
      rw [u1, hl2'] at htk
      refine htk.mono ?_
      rintro e w9 ⟨A9, n9, c9, B9, m9, q9, rfl, hx9, hi9, k9⟩
      have hj9 := hi8.on k9
      have hb9 := bel2 hb8 k9
      clear htk hx8 hi8 hb8 k9 bo hx9
      obtain ⟨W9, hW9, _, kW9⟩ := boxed w9 28 (nTick nw L3 1) A9 n9 c9
      have HW9 := Lib.hid hW9
      have hi10 := hi9.on kW9
      have hj10 := hj9.on kW9
      have hb10 := bel2 hb9 kW9
      have hml := Lib.hid hi10.len
      have hml1 := Lib.hid hj10.len
      have hmx := hi10.max
      have hmx1 := hj10.max
      simp only [maxLen] at hmx hmx1
      clear hW9 hi9 hj9 hb9 kW9
      go_wp2_with fail
      rw [HW9.out]
      clear HW9
      go_loop [17, 88] (fun b i => ∃ j : Nat, j ≤ m9 ∧ i = .int .i64 j ∧ b = .bool ((l2.take j).any (fun x => x == id))) (fun _ i => m9 - (intOf i).toNat)
      case atStart => exact ⟨0, by omega, rfl, rfl⟩
      case round =>
        obtain ⟨j, hj, rfl, rfl⟩ := hrel
        by_cases hlt : j < m9
        · obtain ⟨g, off, rfl, e1⟩ := hi10.at_ hlt
          have htk := Lib.hid (show l2.take (j + 1) = l2.take j ++ [l2[j]?.getD 0] by
            rw [List.take_succ_eq_append_getElem (by rw [hml.out]; exact hlt), List.getElem?_eq_getElem (by rw [hml.out]; exact hlt)]
            rfl)
          generalize l2[j]?.getD 0 = x at *
          have Hnx := Lib.hid (show (l2.take (j + 1)).any (fun x => x == id) = ((l2.take j).any (fun x => x == id) || x == id) by rw [htk.out]; simp)
          generalize (l2.take j).any (fun x => x == id) = bb at *
          cases bb with
          | true =>
            go_wp2_with fail
            go_round
            case rel => exact ⟨j + 1, by omega, by go_num, by rw [Hnx.out]; rfl⟩
            case measure => simp [intOf]; omega
          | false =>
            generalize hxx : (x == id) = yy at *
            have Hxx := Lib.hid hxx
            clear hxx
            go_wp2_with fail
            go_round
            case rel => exact ⟨j + 1, by omega, by go_num, by rw [Hnx.out]; simp [Hxx.out]⟩
            case measure => simp [intOf]; omega
        · obtain rfl : j = m9 := by omega
          have hte : (l2.take j).any (fun x => x == id) = true := by
            rw [List.take_of_length_le (by rw [hml.out]; exact Nat.le_refl _), List.any_eq_true]
            exact ⟨id, Hin.out, by simp⟩
          rw [hte]
          clear hte
          go_wp2_with fail
          go_loop [101] (fun i => ∃ k : Nat, k ≤ m7 ∧ i = .int .i64 k) (fun i => m7 - (intOf i).toNat)
          case atStart => exact ⟨0, by omega, rfl⟩
          case round =>
            obtain ⟨k, hk, rfl⟩ := hrel
            by_cases hlt7' : k < m7
            · obtain ⟨g, off, rfl, e1⟩ := hj10.at_ hlt7'
              have hne : ((l1[k]?.getD 0) == id) = false := by
                rw [beq_eq_false_iff_ne]
                refine Hno.out _ ?_
                rw [List.getElem?_eq_getElem (by rw [hml1.out]; exact hlt7')]
                exact List.getElem_mem _
              generalize l1[k]?.getD 0 = x at *
              go_wp2_with fail
              go_round
              case rel => exact ⟨k + 1, by omega, by go_num⟩
              case measure => simp [intOf]; omega
            · obtain rfl : k = m7 := by omega
              go_wp2_with fail
              go_ret
              exact ⟨rfl, hb10⟩
    · have hb4 := bel2 (bel2 (bel2 hb2 (below_drew k3)) (below_al _ _)) k4
      obtain ⟨V, hV, bo, hsV, _, kb, _, kt, _, _⟩ := store_end y2 now A4 n4 c4
      rw [hV]
      have HSV : HS w.heap.size now A n c a0 a1 V := by rw [← hV]; exact (H4.set hdd 0 _).set hdd 1 _
      have hxV := kt _ _ _ _ _ (by decide) hx4
      have hbV := kb _ _ hb4 (by omega)
      have hlt7 := hdd
      clear hV kb kt hb4 H4 H3 hx4 k3 k4 hx3 y2 z0 z1 f0 f1 hsV hdd
      generalize w3.heap.size = b7 at *
      have hn4 : n4 ≤ 100000 := by have := hxV.len; omega
      obtain ⟨⟨d0', d1'⟩, c0', c1'⟩ := HSV
      obtain ⟨x0, x1⟩ := bo.cells
      clear d0 d1 c0 c1 H2 h2 h2a z1 z2 z3 z4 ca2 bx2 hlt2 hb2
      have hw1 : wrap64 (now + (a1 : Int)) = now + a1 := wrap_in (by omega)
      have hw2 : wrap64 T1 = T1 := wrap_in (by omega)
      have hst := set_w now A4 n4 c4 id T1 L1 V hxV.tr hn4 Hid.out wf1.out
      rw [s2, hL2] at hst
      go_wp2_with fail
      refine hst.mono ?_
      rintro e w5 ⟨A5, n5, c5, rfl, hx5, k5⟩
      have HS5 := HS.on ⟨⟨d0', d1'⟩, c0', c1'⟩ k5
      have hb5 := bel2 hbV k5
      have hn5 : n5 ≤ 100000 := by have := hx5.len; omega
      clear hst d0' d1' c0' c1' x0 x1 bo hxV hbV k5
      obtain ⟨W5, hW5, bo, kW5⟩ := boxed w5 28 now A5 n5 c5
      have HW5 := Lib.hid hW5
      have hs5 : w.heap.size + 1 < w5.heap.size := World.block_lt_of_cell? w5 _ HS5.2.1
      have HS6 := HS5.on kW5
      have hx6 := hx5.on kW5
      have hb6 := bel2 hb5 kW5
      obtain ⟨⟨_, _⟩, c0', c1'⟩ := HS5
      have htk := tick_w now A5 n5 c5 a1 L2 W5 hx6.tr hn5
      rw [t1, hl1', hL3, hn3] at htk
      clear hW5 hx5 hb5 kW5
      go_wp2_with fail
      rw [HW5.out]
      refine htk.mono ?_
      rintro e w7 ⟨A7, n7, c7, B7, m7, q7, rfl, hx7, hi7, k7⟩
      have hb7 := bel2 hb6 k7
      have hn7 : n7 ≤ 100000 := by have := hx7.len; omega
      clear htk HW5 c0' c1' HS6 hx6 hb6 k7 bo hs5
      obtain ⟨nw, hnw⟩ : ∃ nw, now + (a1 : Int) = nw := ⟨_, rfl⟩
      have Hnw := Lib.hid hnw
      rw [hnw] at u1 hl2'
      rw [hnw] at hw1 hn3
      clear hw1 hw2 hn3
      rw [hnw]
      clear hnw
      go_wp2_with fail
      obtain ⟨W7, hW7, bo, kW7⟩ := boxed w7 28 nw A7 n7 c7
      rw [hW7]
      have hx8 := hx7.on kW7
      have hi8 := hi7.on kW7
      have hb8 := bel2 hb7 kW7
      clear hW7 hx7 hi7 hb7 kW7
      generalize w7.heap.size = b9 at *
      have htk := tick_w nw A7 n7 c7 1 L3 W7 hx8.tr hn7
      rw [u1, hl2'] at htk
      refine htk.mono ?_
      rintro e w9 ⟨A9, n9, c9, B9, m9, q9, rfl, hx9, hi9, k9⟩
      have hj9 := hi8.on k9
      have hb9 := bel2 hb8 k9
      clear htk hx8 hi8 hb8 k9 bo hx9
      obtain ⟨W9, hW9, _, kW9⟩ := boxed w9 28 (nTick nw L3 1) A9 n9 c9
      have HW9 := Lib.hid hW9
      have hi10 := hi9.on kW9
      have hj10 := hj9.on kW9
      have hb10 := bel2 hb9 kW9
      have hml := Lib.hid hi10.len
      have hml1 := Lib.hid hj10.len
      have hmx := hi10.max
      have hmx1 := hj10.max
      simp only [maxLen] at hmx hmx1
      clear hW9 hi9 hj9 hb9 kW9
      go_wp2_with fail
      rw [HW9.out]
      clear HW9
      go_loop [17, 88] (fun b i => ∃ j : Nat, j ≤ m9 ∧ i = .int .i64 j ∧ b = .bool ((l2.take j).any (fun x => x == id))) (fun _ i => m9 - (intOf i).toNat)
      case atStart => exact ⟨0, by omega, rfl, rfl⟩
      case round =>
        obtain ⟨j, hj, rfl, rfl⟩ := hrel
        by_cases hlt : j < m9
        · obtain ⟨g, off, rfl, e1⟩ := hi10.at_ hlt
          have htk := Lib.hid (show l2.take (j + 1) = l2.take j ++ [l2[j]?.getD 0] by
            rw [List.take_succ_eq_append_getElem (by rw [hml.out]; exact hlt), List.getElem?_eq_getElem (by rw [hml.out]; exact hlt)]
            rfl)
          generalize l2[j]?.getD 0 = x at *
          have Hnx := Lib.hid (show (l2.take (j + 1)).any (fun x => x == id) = ((l2.take j).any (fun x => x == id) || x == id) by rw [htk.out]; simp)
          generalize (l2.take j).any (fun x => x == id) = bb at *
          cases bb with
          | true =>
            go_wp2_with fail
            go_round
            case rel => exact ⟨j + 1, by omega, by go_num, by rw [Hnx.out]; rfl⟩
            case measure => simp [intOf]; omega
          | false =>
            generalize hxx : (x == id) = yy at *
            have Hxx := Lib.hid hxx
            clear hxx
            go_wp2_with fail
            go_round
            case rel => exact ⟨j + 1, by omega, by go_num, by rw [Hnx.out]; simp [Hxx.out]⟩
            case measure => simp [intOf]; omega
        · obtain rfl : j = m9 := by omega
          have hte : (l2.take j).any (fun x => x == id) = true := by
            rw [List.take_of_length_le (by rw [hml.out]; exact Nat.le_refl _), List.any_eq_true]
            exact ⟨id, Hin.out, by simp⟩
          rw [hte]
          clear hte
          go_wp2_with fail
          go_loop [101] (fun i => ∃ k : Nat, k ≤ m7 ∧ i = .int .i64 k) (fun i => m7 - (intOf i).toNat)
          case atStart => exact ⟨0, by omega, rfl⟩
          case round =>
            obtain ⟨k, hk, rfl⟩ := hrel
            by_cases hlt7' : k < m7
            · obtain ⟨g, off, rfl, e1⟩ := hj10.at_ hlt7'
              have hne : ((l1[k]?.getD 0) == id) = false := by
                rw [beq_eq_false_iff_ne]
                refine Hno.out _ ?_
                rw [List.getElem?_eq_getElem (by rw [hml1.out]; exact hlt7')]
                exact List.getElem_mem _
              generalize l1[k]?.getD 0 = x at *
              go_wp2_with fail
              go_round
              case rel => exact ⟨k + 1, by omega, by go_num⟩
              case measure => simp [intOf]; omega
            · obtain rfl : k = m7 := by omega
              go_wp2_with fail
              go_ret
              exact ⟨rfl, hb10⟩
    · have hb4 := bel2 (bel2 (bel2 hb2 (below_al _ _)) (below_drew k3)) k4
      obtain ⟨V, hV, bo, hsV, _, kb, _, kt, _, _⟩ := store_end y2 now A4 n4 c4
      rw [hV]
      have HSV : HS w.heap.size now A n c a0 a1 V := by rw [← hV]; exact (H4.set hdd 0 _).set hdd 1 _
      have hxV := kt _ _ _ _ _ (by decide) hx4
      have hbV := kb _ _ hb4 (by omega)
      have hlt7 := hdd
      clear hV kb kt hb4 H4 H3 hx4 k3 k4 hx3 y1 y2 z0 z1 f0 f1 hsV hdd
      generalize w2.heap.size = b7 at *
      have hn4 : n4 ≤ 100000 := by have := hxV.len; omega
      obtain ⟨⟨d0', d1'⟩, c0', c1'⟩ := HSV
      obtain ⟨x0, x1⟩ := bo.cells
      clear d0 d1 c0 c1 H2 h2 h2a z1 z2 z3 z4 ca2 bx2 hlt2 hb2
      have hw1 : wrap64 (now + (a1 : Int)) = now + a1 := wrap_in (by omega)
      have hw2 : wrap64 T1 = T1 := wrap_in (by omega)
      have hst := set_w now A4 n4 c4 id T1 L1 V hxV.tr hn4 Hid.out wf1.out
      rw [s2, hL2] at hst
      go_wp2_with fail
      refine hst.mono ?_
      rintro e w5 ⟨A5, n5, c5, rfl, hx5, k5⟩
      have HS5 := HS.on ⟨⟨d0', d1'⟩, c0', c1'⟩ k5
      have hb5 := bel2 hbV k5
      have hn5 : n5 ≤ 100000 := by have := hx5.len; omega
      clear hst d0' d1' c0' c1' x0 x1 bo hxV hbV k5
      obtain ⟨W5, hW5, bo, kW5⟩ := boxed w5 28 now A5 n5 c5
      have HW5 := Lib.hid hW5
      have hs5 : w.heap.size + 1 < w5.heap.size := World.block_lt_of_cell? w5 _ HS5.2.1
      have HS6 := HS5.on kW5
      have hx6 := hx5.on kW5
      have hb6 := bel2 hb5 kW5
      obtain ⟨⟨_, _⟩, c0', c1'⟩ := HS5
      have htk := tick_w now A5 n5 c5 a1 L2 W5 hx6.tr hn5
      rw [t1, hl1', hL3, hn3] at htk
      clear hW5 hx5 hb5 kW5
      go_wp2_with fail
      rw [HW5.out]
      refine htk.mono ?_
      rintro e w7 ⟨A7, n7, c7, B7, m7, q7, rfl, hx7, hi7, k7⟩
      have hb7 := bel2 hb6 k7
      have hn7 : n7 ≤ 100000 := by have := hx7.len; omega
      clear htk HW5 c0' c1' HS6 hx6 hb6 k7 bo hs5
      obtain ⟨nw, hnw⟩ : ∃ nw, now + (a1 : Int) = nw := ⟨_, rfl⟩
      have Hnw := Lib.hid hnw
      rw [hnw] at u1 hl2'
      rw [hnw] at hw1 hn3
      clear hw1 hw2 hn3
      rw [hnw]
      clear hnw
      go_wp2_with fail
      obtain ⟨W7, hW7, bo, kW7⟩ := boxed w7 28 nw A7 n7 c7
      rw [hW7]
      have hx8 := hx7.on kW7
      have hi8 := hi7.on kW7
      have hb8 := bel2 hb7 kW7
      clear hW7 hx7 hi7 hb7 kW7
      generalize w7.heap.size = b9 at *
      have htk := tick_w nw A7 n7 c7 1 L3 W7 hx8.tr hn7
      rw [u1, hl2'] at htk
      refine htk.mono ?_
      rintro e w9 ⟨A9, n9, c9, B9, m9, q9, rfl, hx9, hi9, k9⟩
      have hj9 := hi8.on k9
      have hb9 := bel2 hb8 k9
      clear htk hx8 hi8 hb8 k9 bo hx9
      obtain ⟨W9, hW9, _, kW9⟩ := boxed w9 28 (nTick nw L3 1) A9 n9 c9
      have HW9 := Lib.hid hW9
      have hi10 := hi9.on kW9
      have hj10 := hj9.on kW9
      have hb10 := bel2 hb9 kW9
      have hml := Lib.hid hi10.len
      have hml1 := Lib.hid hj10.len
      have hmx := hi10.max
      have hmx1 := hj10.max
      simp only [maxLen] at hmx hmx1
      clear hW9 hi9 hj9 hb9 kW9
      go_wp2_with fail
      rw [HW9.out]
      clear HW9
      go_loop [17, 88] (fun b i => ∃ j : Nat, j ≤ m9 ∧ i = .int .i64 j ∧ b = .bool ((l2.take j).any (fun x => x == id))) (fun _ i => m9 - (intOf i).toNat)
      case atStart => exact ⟨0, by omega, rfl, rfl⟩
      case round =>
        obtain ⟨j, hj, rfl, rfl⟩ := hrel
        by_cases hlt : j < m9
        · obtain ⟨g, off, rfl, e1⟩ := hi10.at_ hlt
          have htk := Lib.hid (show l2.take (j + 1) = l2.take j ++ [l2[j]?.getD 0] by
            rw [List.take_succ_eq_append_getElem (by rw [hml.out]; exact hlt), List.getElem?_eq_getElem (by rw [hml.out]; exact hlt)]
            rfl)
          generalize l2[j]?.getD 0 = x at *
          have Hnx := Lib.hid (show (l2.take (j + 1)).any (fun x => x == id) = ((l2.take j).any (fun x => x == id) || x == id) by rw [htk.out]; simp)
          generalize (l2.take j).any (fun x => x == id) = bb at *
          cases bb with
          | true =>
            go_wp2_with fail
            go_round
            case rel => exact ⟨j + 1, by omega, by go_num, by rw [Hnx.out]; rfl⟩
            case measure => simp [intOf]; omega
          | false =>
            generalize hxx : (x == id) = yy at *
            have Hxx := Lib.hid hxx
            clear hxx
            go_wp2_with fail
            go_round
            case rel => exact ⟨j + 1, by omega, by go_num, by rw [Hnx.out]; simp [Hxx.out]⟩
            case measure => simp [intOf]; omega
        · obtain rfl : j = m9 := by omega
          have hte : (l2.take j).any (fun x => x == id) = true := by
            rw [List.take_of_length_le (by rw [hml.out]; exact Nat.le_refl _), List.any_eq_true]
            exact ⟨id, Hin.out, by simp⟩
          rw [hte]
          clear hte
          go_wp2_with fail
          go_loop [101] (fun i => ∃ k : Nat, k ≤ m7 ∧ i = .int .i64 k) (fun i => m7 - (intOf i).toNat)
          case atStart => exact ⟨0, by omega, rfl⟩
          case round =>
            obtain ⟨k, hk, rfl⟩ := hrel
            by_cases hlt7' : k < m7
            · obtain ⟨g, off, rfl, e1⟩ := hj10.at_ hlt7'
              have hne : ((l1[k]?.getD 0) == id) = false := by
                rw [beq_eq_false_iff_ne]
                refine Hno.out _ ?_
                rw [List.getElem?_eq_getElem (by rw [hml1.out]; exact hlt7')]
                exact List.getElem_mem _
              generalize l1[k]?.getD 0 = x at *
              go_wp2_with fail
              go_round
              case rel => exact ⟨k + 1, by omega, by go_num⟩
              case measure => simp [intOf]; omega
            · obtain rfl : k = m7 := by omega
              go_wp2_with fail
              go_ret
              exact ⟨rfl, hb10⟩
end Go.Proofs.Ytgpmgghjcocfmaa
