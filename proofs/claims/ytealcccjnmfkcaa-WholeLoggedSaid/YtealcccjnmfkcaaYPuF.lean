/-
  Vote, Local and Decide of package part. Condition: the deltas can be read, a thousand at most.
-/
import Derived.Test.YtealcccjnmfkcaaYPtE
import Derived.Test.YtealcccjnmfkcaaYPuC
import Derived.Deep.CutRange
import Derived.Deep.RegionHeld3
set_option linter.unusedVariables false
set_option linter.unusedSimpArgs false
namespace Go.Proofs.Ytealcccjnmfkcaa
open Go.RowKit

set_option maxRecDepth 100000 in
set_option maxHeartbeats 4000000 in
theorem voteS_c (s : Int) (A : Option Addr) (n c : Nat) (l : Bool) (o : Int) (y : Bool) (L : List Dl) (w : World) (h : DR w A n c L) (hn : n ≤ 1000) :
    Calls Try.prog 79 #[.agg #[.int .i64 s, .slice A n c, .bool l, .int .i64 o], .bool y] w (APostS w w.heap.size (sVote ⟨s, L, l, o⟩ y) (eVote ⟨s, L, l, o⟩)) := by
  have hlen := Lib.hid h.len
  obtain ⟨W, hW⟩ : ∃ W, (w.alloc (.cells #[.int .i64 s, .slice A n c, .bool l, .int .i64 o] 40)).alloc (.cells #[.int .i64 0, .slice none 0 0, .bool false, .int .i64 0] 40) = W := ⟨_, rfl⟩
  have hp : PB W (w.heap.size) 40 s A n c l o := by
    rw [← hW]
    have := ((PB.new w 40 s A n c l o).alloc (.cells #[.int .i64 0, .slice none 0 0, .bool false, .int .i64 0] 40))
    simpa using this
  have hr : PB W (w.heap.size + 1) 40 0 none 0 0 false 0 := by
    rw [← hW]
    have := (PB.new (w.alloc (.cells #[.int .i64 s, .slice A n c, .bool l, .int .i64 o] 40)) 40 0 none 0 0 false 0)
    simpa using this
  have hb : Below w.heap.size w W := by rw [← hW]; exact bel2 (belA _ _) (belA _ _)
  have hS := Lib.hid (show W.heap.size = w.heap.size + 2 by rw [← hW]; simp)
  have HW := Lib.hid hW
  clear hW
  have hd := h.on hb
  have hc := copyP_o s A n c l o L W hd hn
  obtain ⟨cp0, cp1, cp2, cp3⟩ := hp.cells
  go_enter Try.func79, Try.ntmps79
  go_upto_region 1 with fail
  rw [HW.out]
  go_wp2_with fail
  refine hc.mono ?_
  rintro e w1 ⟨A1, c1, rfl, hos⟩
  obtain ⟨⟨A9, m9, c9, G, hv, hsg, hG⟩, b1⟩ := hos
  cases hv
  clear cp0 cp1 cp2 cp3
  have HN := Lib.hid (show w.heap.size + 2 ≤ w1.heap.size by have := hS.out; have := b1.size; omega)
  have HG := Lib.hid (fun g e => Nat.le_trans hb.size (hG g e))
  clear hG hc
  have r1_p := hp.on b1
  have r1_r := hr.on b1
  have r1_d := hd.on b1
  have l1 := bel2 hb b1
  clear b1 hS hp hr hd hb
  obtain ⟨V, hV⟩ : ∃ V, w1.alloc (.cells #[.int .i64 s, .slice A1 n c1, .bool l, .int .i64 o] 40) = V := ⟨_, rfl⟩
  have bV : Below w1.heap.size w1 V := by rw [← hV]; exact belA _ _
  have nV := PB.new w1 40 s A1 n c1 l o
  rw [hV] at nV
  have HV := Lib.hid hV
  clear hV
  have r2_p := r1_p.on bV
  have r2_r := r1_r.on bV
  have r2_d := r1_d.on bV
  have r2_g := hsg.on bV
  have l2 := bel2 l1 bV
  clear bV r1_p r1_r r1_d l1
  have hc := right_c s A n c l o L V r2_d
  obtain ⟨cp0, cp1, cp2, cp3⟩ := r2_p.cells
  go_upto_region 2 with fail
  rw [HV.out]
  go_wp2_with fail
  refine hc.mono ?_
  rintro e w2 ⟨rfl, b2⟩
  clear cp0 cp1 cp2 cp3
  clear hc
  have r3_p := r2_p.on b2
  have r3_r := r2_r.on b2
  have r3_d := r2_d.on b2
  have r3_g := r2_g.on b2
  have r3_q := nV.on b2
  have l3 := bel2 l2 b2
  clear b2 r2_p r2_r r2_d r2_g nV l2
  obtain ⟨cp0, cp1, cp2, cp3⟩ := r3_p.cells
  obtain ⟨cq0, cq1, cq2, cq3⟩ := r3_q.cells
  cases hok : okP ⟨s, L, l, o⟩ with
  | false =>
    have He := Lib.hid (show eVote ⟨s, L, l, o⟩ = 2 by unfold eVote; rw [if_pos hok])
    have Hs := Lib.hid (show sVote ⟨s, L, l, o⟩ y = ⟨s, L, l, o⟩ by unfold sVote; rw [if_neg (by rw [He.out]; omega)])
    obtain ⟨cz0, cz1, cz2, cz3⟩ := r3_r.cells
    obtain ⟨fz0, fz1, fz2, fz3⟩ := r3_r.froz
    obtain ⟨U, hU, hrU, hkU⟩ := store_end r3_r Try.neP s A1 n c1 l o
    obtain ⟨v0, v1, v2, v3⟩ := hrU.cells
    have HU := Lib.hid hU
    clear hU
    have H := Lib.hid (show APostS w w.heap.size (sVote ⟨s, L, l, o⟩ y) (eVote ⟨s, L, l, o⟩) (.returned (.tuple #[.agg #[.int .i64 s, .slice A1 n c1, .bool l, .int .i64 o], .int .i64 2])) U by
      rw [He.out, Hs.out]
      exact ⟨A1, n, c1, rfl, ⟨_, hkU.sg _ _ _ _ _ r3_g⟩, hkU.low _ _ l3 (by omega), Fr.of_seg r3_g HG.out⟩)
    clear hkU hrU
    go_wp2_with fail
    rw [HU.out]
    exact bodyPost_ret (v := .tuple #[.agg #[.int .i64 s, .slice A1 n c1, .bool l, .int .i64 o], .int .i64 2]) (by simp [results, Try.results79, go_sem, v0, v1, v2, v3]) rfl H.out
  | true =>
    have Hok := Lib.hid hok
    clear hok
    by_cases hs0 : s = 0
    · have hs1 : (s != 0) = false := by simp [hs0]
      have Hs0 := Lib.hid hs0
      clear hs0
      have He := Lib.hid (show eVote ⟨s, L, l, o⟩ = 0 by unfold eVote; rw [if_neg (fun k => by rw [Hok.out] at k; cases k), if_neg (fun k => k Hs0.out)])
      have Hs := Lib.hid (fun y => show sVote ⟨s, L, l, o⟩ y = ⟨if y then 1 else 2, L, l, o⟩ by unfold sVote; rw [if_pos He.out])
      obtain ⟨fq0, fq1, fq2, fq3⟩ := r3_q.froz
      obtain ⟨X1, hX1⟩ : ∃ V, w2.setCell ⟨w1.heap.size, 0, none⟩ (.int .i64 2) = V := ⟨_, rfl⟩
      have qX1 : PB X1 w1.heap.size 40 2 A1 n c1 l o := by rw [← hX1]; exact r3_q.put0 _
      have kX1 : Kept w1.heap.size w2 X1 := by rw [← hX1]; exact Kept.of r3_q Try.neP _ _
      have pX1 := kX1.cb _ _ _ (by have := HN.out; omega) r3_p
      have rX1 := kX1.cb _ _ _ (by have := HN.out; omega) r3_r
      have gX1 := kX1.sg _ _ _ _ _ r3_g
      have dX1 := kX1.dr _ _ _ _ r3_d
      have lX1 := kX1.low _ _ l3 (by have := HN.out; omega)
      have pX1 : PB X1 (w.heap.size) 40 s A n c l o := pX1
      have rX1 : PB X1 (w.heap.size + 1) 40 0 none 0 0 false 0 := rX1
      have HX1 := Lib.hid hX1
      clear hX1 kX1
      go_upto_region 7 with fail
      rw [HX1.out]
      clear fq0 fq1 fq2 fq3 r3_p r3_r r3_d r3_g r3_q l3
      clear cp0 cp1 cp2 cp3 cq0 cq1 cq2 cq3
      obtain ⟨cp0, cp1, cp2, cp3⟩ := pX1.cells
      obtain ⟨cq0, cq1, cq2, cq3⟩ := qX1.cells
      cases y with
      | false =>
        obtain ⟨cz0, cz1, cz2, cz3⟩ := rX1.cells
        obtain ⟨fz0, fz1, fz2, fz3⟩ := rX1.froz
        obtain ⟨U, hU, hrU, hkU⟩ := store_end rX1 Try.neP 2 A1 n c1 l o
        obtain ⟨v0, v1, v2, v3⟩ := hrU.cells
        have HU := Lib.hid hU
        clear hU
        have H := Lib.hid (show APostS w w.heap.size (sVote ⟨s, L, l, o⟩ false) (eVote ⟨s, L, l, o⟩) (.returned (.tuple #[.agg #[.int .i64 2, .slice A1 n c1, .bool l, .int .i64 o], .int .i64 0])) U by
          rw [He.out, Hs.out]
          exact ⟨A1, n, c1, rfl, ⟨_, hkU.sg _ _ _ _ _ gX1⟩, hkU.low _ _ lX1 (by omega), Fr.of_seg gX1 HG.out⟩)
        clear hkU hrU
        go_wp2_with fail
        rw [HU.out]
        exact bodyPost_ret (v := .tuple #[.agg #[.int .i64 2, .slice A1 n c1, .bool l, .int .i64 o], .int .i64 0]) (by simp [results, Try.results79, go_sem, v0, v1, v2, v3]) rfl H.out
      | true =>
        obtain ⟨fq0, fq1, fq2, fq3⟩ := qX1.froz
        obtain ⟨X2, hX2⟩ : ∃ V, X1.setCell ⟨w1.heap.size, 0, none⟩ (.int .i64 1) = V := ⟨_, rfl⟩
        have qX2 : PB X2 w1.heap.size 40 1 A1 n c1 l o := by rw [← hX2]; exact qX1.put0 _
        have kX2 : Kept w1.heap.size X1 X2 := by rw [← hX2]; exact Kept.of qX1 Try.neP _ _
        have pX2 := kX2.cb _ _ _ (by have := HN.out; omega) pX1
        have rX2 := kX2.cb _ _ _ (by have := HN.out; omega) rX1
        have gX2 := kX2.sg _ _ _ _ _ gX1
        have dX2 := kX2.dr _ _ _ _ dX1
        have lX2 := kX2.low _ _ lX1 (by have := HN.out; omega)
        have pX2 : PB X2 (w.heap.size) 40 s A n c l o := pX2
        have rX2 : PB X2 (w.heap.size + 1) 40 0 none 0 0 false 0 := rX2
        have HX2 := Lib.hid hX2
        clear hX2 kX2
        go_upto_region 9 with fail
        rw [HX2.out]
        clear fq0 fq1 fq2 fq3 pX1 qX1 rX1 gX1 dX1 lX1
        clear cp0 cp1 cp2 cp3 cq0 cq1 cq2 cq3
        obtain ⟨cp0, cp1, cp2, cp3⟩ := pX2.cells
        obtain ⟨cq0, cq1, cq2, cq3⟩ := qX2.cells
        obtain ⟨cz0, cz1, cz2, cz3⟩ := rX2.cells
        obtain ⟨fz0, fz1, fz2, fz3⟩ := rX2.froz
        obtain ⟨U, hU, hrU, hkU⟩ := store_end rX2 Try.neP 1 A1 n c1 l o
        obtain ⟨v0, v1, v2, v3⟩ := hrU.cells
        have HU := Lib.hid hU
        clear hU
        have H := Lib.hid (show APostS w w.heap.size (sVote ⟨s, L, l, o⟩ true) (eVote ⟨s, L, l, o⟩) (.returned (.tuple #[.agg #[.int .i64 1, .slice A1 n c1, .bool l, .int .i64 o], .int .i64 0])) U by
          rw [He.out, Hs.out]
          exact ⟨A1, n, c1, rfl, ⟨_, hkU.sg _ _ _ _ _ gX2⟩, hkU.low _ _ lX2 (by omega), Fr.of_seg gX2 HG.out⟩)
        clear hkU hrU
        go_wp2_with fail
        rw [HU.out]
        exact bodyPost_ret (v := .tuple #[.agg #[.int .i64 1, .slice A1 n c1, .bool l, .int .i64 o], .int .i64 0]) (by simp [results, Try.results79, go_sem, v0, v1, v2, v3]) rfl H.out
    · have hs1 : (s != 0) = true := by simp [hs0]
      have Hs0 := Lib.hid hs0
      clear hs0
      have He := Lib.hid (show eVote ⟨s, L, l, o⟩ = 13 by unfold eVote; rw [if_neg (fun k => by rw [Hok.out] at k; cases k), if_pos Hs0.out])
      have Hs := Lib.hid (show sVote ⟨s, L, l, o⟩ y = ⟨s, L, l, o⟩ by unfold sVote; rw [if_neg (by rw [He.out]; omega)])
      obtain ⟨cz0, cz1, cz2, cz3⟩ := r3_r.cells
      obtain ⟨fz0, fz1, fz2, fz3⟩ := r3_r.froz
      obtain ⟨U, hU, hrU, hkU⟩ := store_end r3_r Try.neP s A1 n c1 l o
      obtain ⟨v0, v1, v2, v3⟩ := hrU.cells
      have HU := Lib.hid hU
      clear hU
      have H := Lib.hid (show APostS w w.heap.size (sVote ⟨s, L, l, o⟩ y) (eVote ⟨s, L, l, o⟩) (.returned (.tuple #[.agg #[.int .i64 s, .slice A1 n c1, .bool l, .int .i64 o], .int .i64 13])) U by
        rw [He.out, Hs.out]
        exact ⟨A1, n, c1, rfl, ⟨_, hkU.sg _ _ _ _ _ r3_g⟩, hkU.low _ _ l3 (by omega), Fr.of_seg r3_g HG.out⟩)
      clear hkU hrU
      go_wp2_with fail
      rw [HU.out]
      exact bodyPost_ret (v := .tuple #[.agg #[.int .i64 s, .slice A1 n c1, .bool l, .int .i64 o], .int .i64 13]) (by simp [results, Try.results79, go_sem, v0, v1, v2, v3]) rfl H.out

set_option maxRecDepth 100000 in
set_option maxHeartbeats 4000000 in
theorem localS_c (s : Int) (A : Option Addr) (n c : Nat) (l : Bool) (o : Int) (L : List Dl) (w : World) (h : DR w A n c L) (hn : n ≤ 1000) :
    Calls Try.prog 81 #[.agg #[.int .i64 s, .slice A n c, .bool l, .int .i64 o]] w (BPostS w w.heap.size (sLoc ⟨s, L, l, o⟩) (dLoc ⟨s, L, l, o⟩) (eLoc ⟨s, L, l, o⟩)) := by
  have hlen := Lib.hid h.len
  obtain ⟨W, hW⟩ : ∃ W, (w.alloc (.cells #[.int .i64 s, .slice A n c, .bool l, .int .i64 o] 40)).alloc (.cells #[.int .i64 0, .slice none 0 0, .bool false, .int .i64 0] 40) = W := ⟨_, rfl⟩
  have hp : PB W (w.heap.size) 40 s A n c l o := by
    rw [← hW]
    have := ((PB.new w 40 s A n c l o).alloc (.cells #[.int .i64 0, .slice none 0 0, .bool false, .int .i64 0] 40))
    simpa using this
  have hr : PB W (w.heap.size + 1) 40 0 none 0 0 false 0 := by
    rw [← hW]
    have := (PB.new (w.alloc (.cells #[.int .i64 s, .slice A n c, .bool l, .int .i64 o] 40)) 40 0 none 0 0 false 0)
    simpa using this
  have hb : Below w.heap.size w W := by rw [← hW]; exact bel2 (belA _ _) (belA _ _)
  have hS := Lib.hid (show W.heap.size = w.heap.size + 2 by rw [← hW]; simp)
  have HW := Lib.hid hW
  clear hW
  have hd := h.on hb
  have hc := copyP_o s A n c l o L W hd hn
  obtain ⟨cp0, cp1, cp2, cp3⟩ := hp.cells
  go_enter Try.func81, Try.ntmps81
  go_upto_region 1 with fail
  rw [HW.out]
  go_wp2_with fail
  refine hc.mono ?_
  rintro e w1 ⟨A1, c1, rfl, hos⟩
  obtain ⟨⟨A9, m9, c9, G, hv, hsg, hG⟩, b1⟩ := hos
  cases hv
  clear cp0 cp1 cp2 cp3
  have HN := Lib.hid (show w.heap.size + 2 ≤ w1.heap.size by have := hS.out; have := b1.size; omega)
  have HG := Lib.hid (fun g e => Nat.le_trans hb.size (hG g e))
  clear hG hc
  have r1_p := hp.on b1
  have r1_r := hr.on b1
  have r1_d := hd.on b1
  have l1 := bel2 hb b1
  clear b1 hS hp hr hd hb
  obtain ⟨V, hV⟩ : ∃ V, w1.alloc (.cells #[.int .i64 s, .slice A1 n c1, .bool l, .int .i64 o] 40) = V := ⟨_, rfl⟩
  have bV : Below w1.heap.size w1 V := by rw [← hV]; exact belA _ _
  have nV := PB.new w1 40 s A1 n c1 l o
  rw [hV] at nV
  have HV := Lib.hid hV
  clear hV
  have r2_p := r1_p.on bV
  have r2_r := r1_r.on bV
  have r2_d := r1_d.on bV
  have r2_g := hsg.on bV
  have l2 := bel2 l1 bV
  clear bV r1_p r1_r r1_d l1
  have hc := right_c s A n c l o L V r2_d
  obtain ⟨cp0, cp1, cp2, cp3⟩ := r2_p.cells
  go_upto_region 2 with fail
  rw [HV.out]
  go_wp2_with fail
  refine hc.mono ?_
  rintro e w2 ⟨rfl, b2⟩
  clear cp0 cp1 cp2 cp3
  clear hc
  have r3_p := r2_p.on b2
  have r3_r := r2_r.on b2
  have r3_d := r2_d.on b2
  have r3_g := r2_g.on b2
  have r3_q := nV.on b2
  have l3 := bel2 l2 b2
  clear b2 r2_p r2_r r2_d r2_g nV l2
  obtain ⟨cp0, cp1, cp2, cp3⟩ := r3_p.cells
  obtain ⟨cq0, cq1, cq2, cq3⟩ := r3_q.cells
  cases hok : okP ⟨s, L, l, o⟩ with
  | false =>
    have He := Lib.hid (show eLoc ⟨s, L, l, o⟩ = 2 by unfold eLoc; rw [if_pos hok])
    have Hs := Lib.hid (show sLoc ⟨s, L, l, o⟩ = ⟨s, L, l, o⟩ by unfold sLoc; rw [if_neg (by rw [He.out]; omega)])
    have HD := Lib.hid (show dLoc ⟨s, L, l, o⟩ = [] by unfold dLoc; rw [if_neg (by rw [He.out]; omega)])
    obtain ⟨cz0, cz1, cz2, cz3⟩ := r3_r.cells
    obtain ⟨fz0, fz1, fz2, fz3⟩ := r3_r.froz
    obtain ⟨U, hU, hrU, hkU⟩ := store_end r3_r Try.neP s A1 n c1 l o
    obtain ⟨v0, v1, v2, v3⟩ := hrU.cells
    have HU := Lib.hid hU
    clear hU
    have H := Lib.hid (show BPostS w w.heap.size (sLoc ⟨s, L, l, o⟩) (dLoc ⟨s, L, l, o⟩) (eLoc ⟨s, L, l, o⟩) (.returned (.tuple #[.agg #[.int .i64 s, .slice A1 n c1, .bool l, .int .i64 o], .slice none 0 0, .int .i64 2])) U by
      rw [He.out, Hs.out, HD.out]
      exact ⟨A1, n, c1, none, 0, 0, rfl, ⟨_, hkU.sg _ _ _ _ _ r3_g⟩, RR.nil _ _ _, hkU.low _ _ l3 (by omega), Fr.of_seg r3_g HG.out⟩)
    clear hkU hrU
    go_wp2_with fail
    rw [HU.out]
    exact bodyPost_ret (v := .tuple #[.agg #[.int .i64 s, .slice A1 n c1, .bool l, .int .i64 o], .slice none 0 0, .int .i64 2]) (by simp [results, Try.results81, go_sem, v0, v1, v2, v3]) rfl H.out
  | true =>
    have Hok := Lib.hid hok
    clear hok
    by_cases hs0 : s = 1
    · have hs1 : (s != 1) = false := by simp [hs0]
      have Hs0 := Lib.hid hs0
      clear hs0
      cases l with
      | true =>
        have He := Lib.hid (show eLoc ⟨s, L, true, o⟩ = 8 by unfold eLoc; rw [if_neg (fun k => by rw [Hok.out] at k; cases k), if_neg (fun k => k Hs0.out), if_pos rfl])
        have Hs := Lib.hid (show sLoc ⟨s, L, true, o⟩ = ⟨s, L, true, o⟩ by unfold sLoc; rw [if_neg (by rw [He.out]; omega)])
        have HD := Lib.hid (show dLoc ⟨s, L, true, o⟩ = [] by unfold dLoc; rw [if_neg (by rw [He.out]; omega)])
        obtain ⟨cz0, cz1, cz2, cz3⟩ := r3_r.cells
        obtain ⟨fz0, fz1, fz2, fz3⟩ := r3_r.froz
        obtain ⟨U, hU, hrU, hkU⟩ := store_end r3_r Try.neP s A1 n c1 true o
        obtain ⟨v0, v1, v2, v3⟩ := hrU.cells
        have HU := Lib.hid hU
        clear hU
        have H := Lib.hid (show BPostS w w.heap.size (sLoc ⟨s, L, true, o⟩) (dLoc ⟨s, L, true, o⟩) (eLoc ⟨s, L, true, o⟩) (.returned (.tuple #[.agg #[.int .i64 s, .slice A1 n c1, .bool true, .int .i64 o], .slice none 0 0, .int .i64 8])) U by
          rw [He.out, Hs.out, HD.out]
          exact ⟨A1, n, c1, none, 0, 0, rfl, ⟨_, hkU.sg _ _ _ _ _ r3_g⟩, RR.nil _ _ _, hkU.low _ _ l3 (by omega), Fr.of_seg r3_g HG.out⟩)
        clear hkU hrU
        go_wp2_with fail
        rw [HU.out]
        exact bodyPost_ret (v := .tuple #[.agg #[.int .i64 s, .slice A1 n c1, .bool true, .int .i64 o], .slice none 0 0, .int .i64 8]) (by simp [results, Try.results81, go_sem, v0, v1, v2, v3]) rfl H.out
      | false =>
        have He := Lib.hid (show eLoc ⟨s, L, false, o⟩ = 0 by unfold eLoc; rw [if_neg (fun k => by rw [Hok.out] at k; cases k), if_neg (fun k => k Hs0.out), if_neg (by simp)])
        have Hs := Lib.hid (show sLoc ⟨s, L, false, o⟩ = ⟨s, L, true, o⟩ by unfold sLoc; rw [if_pos He.out])
        obtain ⟨fq0, fq1, fq2, fq3⟩ := r3_q.froz
        obtain ⟨X1, hX1⟩ : ∃ V, w2.setCell ⟨w1.heap.size, 2, none⟩ (.bool true) = V := ⟨_, rfl⟩
        have qX1 : PB X1 w1.heap.size 40 s A1 n c1 true o := by rw [← hX1]; exact r3_q.put2 _
        have kX1 : Kept w1.heap.size w2 X1 := by rw [← hX1]; exact Kept.of r3_q Try.neP _ _
        have pX1 := kX1.cb _ _ _ (by have := HN.out; omega) r3_p
        have rX1 := kX1.cb _ _ _ (by have := HN.out; omega) r3_r
        have gX1 := kX1.sg _ _ _ _ _ r3_g
        have dX1 := kX1.dr _ _ _ _ r3_d
        have lX1 := kX1.low _ _ l3 (by have := HN.out; omega)
        have pX1 : PB X1 (w.heap.size) 40 s A n c false o := pX1
        have rX1 : PB X1 (w.heap.size + 1) 40 0 none 0 0 false 0 := rX1
        have HX1 := Lib.hid hX1
        clear hX1 kX1
        go_upto_region 9 with fail
        rw [HX1.out]
        clear fq0 fq1 fq2 fq3 r3_p r3_r r3_d r3_g r3_q l3
        clear cp0 cp1 cp2 cp3 cq0 cq1 cq2 cq3
        obtain ⟨cp0, cp1, cp2, cp3⟩ := pX1.cells
        obtain ⟨cq0, cq1, cq2, cq3⟩ := qX1.cells
        have Hg := Lib.hid (show (eff ⟨s, L, true, o⟩).drop (eff ⟨s, L, false, o⟩).length = dLoc ⟨s, L, false, o⟩ ∧ (eff ⟨s, L, false, o⟩).length ≤ (eff ⟨s, L, true, o⟩).length from (by have := loc_gain He.out; rw [Hs.out] at this; exact ⟨this.1, this.2.1⟩))
        obtain ⟨cz0, cz1, cz2, cz3⟩ := rX1.cells
        obtain ⟨fz0, fz1, fz2, fz3⟩ := rX1.froz
        have Hc := Lib.hid (And.intro (pX1).cells (qX1).cells)
        have hc := gained_c s A n c false o L s A1 n c1 true o L X1.drew dX1.drew hn (RR.of_seg gX1).drew hn Hg.out.2
        clear cz0 cz1 cz2 cz3 fz0 fz1 fz2 fz3
        clear cp0 cp1 cp2 cp3 cq0 cq1 cq2 cq3
        obtain ⟨cp0, cp1, cp2, cp3⟩ := Hc.out.1
        obtain ⟨cq0, cq1, cq2, cq3⟩ := Hc.out.2
        go_region_held3 (fun W' => (W'.cell? ⟨w.heap.size, 0, none⟩ = some (.int .i64 s) ∧ W'.cell? ⟨w.heap.size, 1, none⟩ = some (.slice A n c) ∧ W'.cell? ⟨w.heap.size, 2, none⟩ = some (.bool false) ∧ W'.cell? ⟨w.heap.size, 3, none⟩ = some (.int .i64 o)) ∧ (W'.cell? ⟨w1.heap.size, 0, none⟩ = some (.int .i64 s) ∧ W'.cell? ⟨w1.heap.size, 1, none⟩ = some (.slice A1 n c1) ∧ W'.cell? ⟨w1.heap.size, 2, none⟩ = some (.bool true) ∧ W'.cell? ⟨w1.heap.size, 3, none⟩ = some (.int .i64 o))) (first | exact Hc.out | exact y1.out | exact y2.out) (first
          | (go_at_call 99; refine hc.mono ?_; rintro e w5 ⟨A5, n5, c5, rfl, hd5, b5⟩; have p5 := (pX1).drew.on b5; have q5 := (qX1).drew.on b5; have r5 := (rX1).drew.on b5; have y1 := Lib.hid (And.intro p5.cells q5.cells); obtain ⟨z0, z1, z2, z3⟩ := r5.cells; obtain ⟨u0, u1, u2, u3⟩ := r5.froz; obtain ⟨U, hU, hrU, hkU⟩ := store_end r5 Try.neP s A1 n c1 true o; have y2 := Lib.hid (And.intro (show PB U _ _ _ _ _ _ _ _ from hkU.cb _ _ _ (by omega) p5).cells (show PB U _ _ _ _ _ _ _ _ from hkU.cb _ _ _ (by have := HN.out; omega) q5).cells)))
        obtain ⟨v0, v1, v2, v3⟩ := hrU.cells
        have H := Lib.hid (show BPostS w w.heap.size (sLoc ⟨s, L, false, o⟩) (dLoc ⟨s, L, false, o⟩) (eLoc ⟨s, L, false, o⟩) (.returned (.tuple #[.agg #[.int .i64 s, .slice A1 n c1, .bool true, .int .i64 o], .slice A5 n5 c5, .int .i64 0])) U by
          rw [He.out, Hs.out, ← Hg.out.1]
          exact ⟨A1, n, c1, A5, n5, c5, rfl, ⟨_, hkU.sg _ _ _ _ _ (Seg.on gX1 (below_drew (W := X1) b5))⟩, hkU.dr _ _ _ _ hd5, hkU.low _ _ (bel2 lX1 (below_drew (W := X1) b5)) (by omega), Fr.of_seg gX1 HG.out⟩)
        have HU := Lib.hid hU
        clear hU y1 y2 hkU hrU p5 q5 r5 hd5 b5
        try rw [HU.out]
        go_wp2_with fail
        exact bodyPost_ret (v := .tuple #[.agg #[.int .i64 s, .slice A1 n c1, .bool true, .int .i64 o], .slice A5 n5 c5, .int .i64 0]) (by simp [results, Try.results81, go_sem, v0, v1, v2, v3]) rfl H.out
    · have hs1 : (s != 1) = true := by simp [hs0]
      have Hs0 := Lib.hid hs0
      clear hs0
      have He := Lib.hid (show eLoc ⟨s, L, l, o⟩ = 13 by unfold eLoc; rw [if_neg (fun k => by rw [Hok.out] at k; cases k), if_pos Hs0.out])
      have Hs := Lib.hid (show sLoc ⟨s, L, l, o⟩ = ⟨s, L, l, o⟩ by unfold sLoc; rw [if_neg (by rw [He.out]; omega)])
      have HD := Lib.hid (show dLoc ⟨s, L, l, o⟩ = [] by unfold dLoc; rw [if_neg (by rw [He.out]; omega)])
      obtain ⟨cz0, cz1, cz2, cz3⟩ := r3_r.cells
      obtain ⟨fz0, fz1, fz2, fz3⟩ := r3_r.froz
      obtain ⟨U, hU, hrU, hkU⟩ := store_end r3_r Try.neP s A1 n c1 l o
      obtain ⟨v0, v1, v2, v3⟩ := hrU.cells
      have HU := Lib.hid hU
      clear hU
      have H := Lib.hid (show BPostS w w.heap.size (sLoc ⟨s, L, l, o⟩) (dLoc ⟨s, L, l, o⟩) (eLoc ⟨s, L, l, o⟩) (.returned (.tuple #[.agg #[.int .i64 s, .slice A1 n c1, .bool l, .int .i64 o], .slice none 0 0, .int .i64 13])) U by
        rw [He.out, Hs.out, HD.out]
        exact ⟨A1, n, c1, none, 0, 0, rfl, ⟨_, hkU.sg _ _ _ _ _ r3_g⟩, RR.nil _ _ _, hkU.low _ _ l3 (by omega), Fr.of_seg r3_g HG.out⟩)
      clear hkU hrU
      go_wp2_with fail
      rw [HU.out]
      exact bodyPost_ret (v := .tuple #[.agg #[.int .i64 s, .slice A1 n c1, .bool l, .int .i64 o], .slice none 0 0, .int .i64 13]) (by simp [results, Try.results81, go_sem, v0, v1, v2, v3]) rfl H.out

set_option maxRecDepth 100000 in
set_option maxHeartbeats 4000000 in
theorem decideS_c (s : Int) (A : Option Addr) (n c : Nat) (l : Bool) (o : Int) (u : Int) (L : List Dl) (w : World) (h : DR w A n c L) (hn : n ≤ 1000) :
    Calls Try.prog 83 #[.agg #[.int .i64 s, .slice A n c, .bool l, .int .i64 o], .int .i64 u] w (BPostS w w.heap.size (sDec ⟨s, L, l, o⟩ u) (dDec ⟨s, L, l, o⟩ u) (eDec ⟨s, L, l, o⟩ u)) := by
  have hlen := Lib.hid h.len
  obtain ⟨W, hW⟩ : ∃ W, (w.alloc (.cells #[.int .i64 s, .slice A n c, .bool l, .int .i64 o] 40)).alloc (.cells #[.int .i64 0, .slice none 0 0, .bool false, .int .i64 0] 40) = W := ⟨_, rfl⟩
  have hp : PB W (w.heap.size) 40 s A n c l o := by
    rw [← hW]
    have := ((PB.new w 40 s A n c l o).alloc (.cells #[.int .i64 0, .slice none 0 0, .bool false, .int .i64 0] 40))
    simpa using this
  have hr : PB W (w.heap.size + 1) 40 0 none 0 0 false 0 := by
    rw [← hW]
    have := (PB.new (w.alloc (.cells #[.int .i64 s, .slice A n c, .bool l, .int .i64 o] 40)) 40 0 none 0 0 false 0)
    simpa using this
  have hb : Below w.heap.size w W := by rw [← hW]; exact bel2 (belA _ _) (belA _ _)
  have hS := Lib.hid (show W.heap.size = w.heap.size + 2 by rw [← hW]; simp)
  have HW := Lib.hid hW
  clear hW
  have hd := h.on hb
  have hc := copyP_o s A n c l o L W hd hn
  obtain ⟨cp0, cp1, cp2, cp3⟩ := hp.cells
  go_enter Try.func83, Try.ntmps83
  go_upto_region 1 with fail
  rw [HW.out]
  go_wp2_with fail
  refine hc.mono ?_
  rintro e w1 ⟨A1, c1, rfl, hos⟩
  obtain ⟨⟨A9, m9, c9, G, hv, hsg, hG⟩, b1⟩ := hos
  cases hv
  clear cp0 cp1 cp2 cp3
  have HN := Lib.hid (show w.heap.size + 2 ≤ w1.heap.size by have := hS.out; have := b1.size; omega)
  have HG := Lib.hid (fun g e => Nat.le_trans hb.size (hG g e))
  clear hG hc
  have r1_p := hp.on b1
  have r1_r := hr.on b1
  have r1_d := hd.on b1
  have l1 := bel2 hb b1
  clear b1 hS hp hr hd hb
  obtain ⟨V, hV⟩ : ∃ V, w1.alloc (.cells #[.int .i64 s, .slice A1 n c1, .bool l, .int .i64 o] 40) = V := ⟨_, rfl⟩
  have bV : Below w1.heap.size w1 V := by rw [← hV]; exact belA _ _
  have nV := PB.new w1 40 s A1 n c1 l o
  rw [hV] at nV
  have HV := Lib.hid hV
  clear hV
  have r2_p := r1_p.on bV
  have r2_r := r1_r.on bV
  have r2_d := r1_d.on bV
  have r2_g := hsg.on bV
  have l2 := bel2 l1 bV
  clear bV r1_p r1_r r1_d l1
  have hc := right_c s A n c l o L V r2_d
  obtain ⟨cp0, cp1, cp2, cp3⟩ := r2_p.cells
  go_upto_region 2 with fail
  rw [HV.out]
  go_wp2_with fail
  refine hc.mono ?_
  rintro e w2 ⟨rfl, b2⟩
  clear cp0 cp1 cp2 cp3
  clear hc
  have r3_p := r2_p.on b2
  have r3_r := r2_r.on b2
  have r3_d := r2_d.on b2
  have r3_g := r2_g.on b2
  have r3_q := nV.on b2
  have l3 := bel2 l2 b2
  clear b2 r2_p r2_r r2_d r2_g nV l2
  obtain ⟨cp0, cp1, cp2, cp3⟩ := r3_p.cells
  obtain ⟨cq0, cq1, cq2, cq3⟩ := r3_q.cells
  cases hok : okP ⟨s, L, l, o⟩ with
  | false =>
    have He := Lib.hid (show eDec ⟨s, L, l, o⟩ u = 2 by unfold eDec; rw [if_pos (.inl hok)])
    have Hs := Lib.hid (show sDec ⟨s, L, l, o⟩ u = ⟨s, L, l, o⟩ by unfold sDec; rw [if_neg (by rw [He.out]; omega)])
    have HD := Lib.hid (show dDec ⟨s, L, l, o⟩ u = [] by unfold dDec; rw [if_neg (fun k => by have := k.1; rw [He.out] at this; omega)])
    obtain ⟨cz0, cz1, cz2, cz3⟩ := r3_r.cells
    obtain ⟨fz0, fz1, fz2, fz3⟩ := r3_r.froz
    obtain ⟨U, hU, hrU, hkU⟩ := store_end r3_r Try.neP s A1 n c1 l o
    obtain ⟨v0, v1, v2, v3⟩ := hrU.cells
    have HU := Lib.hid hU
    clear hU
    have H := Lib.hid (show BPostS w w.heap.size (sDec ⟨s, L, l, o⟩ u) (dDec ⟨s, L, l, o⟩ u) (eDec ⟨s, L, l, o⟩ u) (.returned (.tuple #[.agg #[.int .i64 s, .slice A1 n c1, .bool l, .int .i64 o], .slice none 0 0, .int .i64 2])) U by
      rw [He.out, Hs.out, HD.out]
      exact ⟨A1, n, c1, none, 0, 0, rfl, ⟨_, hkU.sg _ _ _ _ _ r3_g⟩, RR.nil _ _ _, hkU.low _ _ l3 (by omega), Fr.of_seg r3_g HG.out⟩)
    clear hkU hrU
    go_wp2_with fail
    rw [HU.out]
    exact bodyPost_ret (v := .tuple #[.agg #[.int .i64 s, .slice A1 n c1, .bool l, .int .i64 o], .slice none 0 0, .int .i64 2]) (by simp [results, Try.results83, go_sem, v0, v1, v2, v3]) rfl H.out
  | true =>
    have Hok := Lib.hid hok
    clear hok
    have hc := isDec_c u w2
    go_wp2_with fail
    refine hc.mono ?_
    rintro e w3 ⟨rfl, b3⟩
    clear cp0 cp1 cp2 cp3 cq0 cq1 cq2 cq3
    clear hc
    have r4_p := r3_p.on b3
    have r4_r := r3_r.on b3
    have r4_d := r3_d.on b3
    have r4_g := r3_g.on b3
    have r4_q := r3_q.on b3
    have l4 := bel2 l3 b3
    clear b3 r3_p r3_r r3_d r3_g r3_q l3
    obtain ⟨cp0, cp1, cp2, cp3⟩ := r4_p.cells
    obtain ⟨cq0, cq1, cq2, cq3⟩ := r4_q.cells
    cases hde : deB u with
    | false =>
      have He := Lib.hid (show eDec ⟨s, L, l, o⟩ u = 2 by unfold eDec; rw [if_pos (.inr hde)])
      have Hs := Lib.hid (show sDec ⟨s, L, l, o⟩ u = ⟨s, L, l, o⟩ by unfold sDec; rw [if_neg (by rw [He.out]; omega)])
      have HD := Lib.hid (show dDec ⟨s, L, l, o⟩ u = [] by unfold dDec; rw [if_neg (fun k => by have := k.1; rw [He.out] at this; omega)])
      obtain ⟨cz0, cz1, cz2, cz3⟩ := r4_r.cells
      obtain ⟨fz0, fz1, fz2, fz3⟩ := r4_r.froz
      obtain ⟨U, hU, hrU, hkU⟩ := store_end r4_r Try.neP s A1 n c1 l o
      obtain ⟨v0, v1, v2, v3⟩ := hrU.cells
      have HU := Lib.hid hU
      clear hU
      have H := Lib.hid (show BPostS w w.heap.size (sDec ⟨s, L, l, o⟩ u) (dDec ⟨s, L, l, o⟩ u) (eDec ⟨s, L, l, o⟩ u) (.returned (.tuple #[.agg #[.int .i64 s, .slice A1 n c1, .bool l, .int .i64 o], .slice none 0 0, .int .i64 2])) U by
        rw [He.out, Hs.out, HD.out]
        exact ⟨A1, n, c1, none, 0, 0, rfl, ⟨_, hkU.sg _ _ _ _ _ r4_g⟩, RR.nil _ _ _, hkU.low _ _ l4 (by omega), Fr.of_seg r4_g HG.out⟩)
      clear hkU hrU
      go_wp2_with fail
      rw [HU.out]
      exact bodyPost_ret (v := .tuple #[.agg #[.int .i64 s, .slice A1 n c1, .bool l, .int .i64 o], .slice none 0 0, .int .i64 2]) (by simp [results, Try.results83, go_sem, v0, v1, v2, v3]) rfl H.out
    | true =>
      have Hn2 := Lib.hid (show ¬ (okP ⟨s, L, l, o⟩ = false ∨ deB u = false) from fun k => k.elim (fun k => by rw [Hok.out] at k; cases k) (fun k => by rw [hde] at k; cases k))
      clear hde
      by_cases h3 : s = 3
      · have h3a : (s == 3) = true := by simp [h3]
        have H3 := Lib.hid h3
        clear h3
        by_cases huo : u = o
        · have huo1 : (u == o) = true := by simp [huo]
          have Huo := Lib.hid huo
          clear huo
          have He := Lib.hid (show eDec ⟨s, L, l, o⟩ u = 0 by unfold eDec; rw [if_neg Hn2.out, if_pos ⟨H3.out, Huo.out.symm⟩])
          have Hs := Lib.hid (show sDec ⟨s, L, l, o⟩ u = ⟨s, L, l, o⟩ by unfold sDec; rw [if_pos He.out, Huo.out, ← H3.out])
          have HD := Lib.hid (show dDec ⟨s, L, l, o⟩ u = [] by unfold dDec; rw [if_neg (fun k => k.2 H3.out)])
          obtain ⟨cz0, cz1, cz2, cz3⟩ := r4_r.cells
          obtain ⟨fz0, fz1, fz2, fz3⟩ := r4_r.froz
          obtain ⟨U, hU, hrU, hkU⟩ := store_end r4_r Try.neP s A1 n c1 l o
          obtain ⟨v0, v1, v2, v3⟩ := hrU.cells
          have HU := Lib.hid hU
          clear hU
          have H := Lib.hid (show BPostS w w.heap.size (sDec ⟨s, L, l, o⟩ u) (dDec ⟨s, L, l, o⟩ u) (eDec ⟨s, L, l, o⟩ u) (.returned (.tuple #[.agg #[.int .i64 s, .slice A1 n c1, .bool l, .int .i64 o], .slice none 0 0, .int .i64 0])) U by
            rw [He.out, Hs.out, HD.out]
            exact ⟨A1, n, c1, none, 0, 0, rfl, ⟨_, hkU.sg _ _ _ _ _ r4_g⟩, RR.nil _ _ _, hkU.low _ _ l4 (by omega), Fr.of_seg r4_g HG.out⟩)
          clear hkU hrU
          go_wp2_with fail
          rw [HU.out]
          exact bodyPost_ret (v := .tuple #[.agg #[.int .i64 s, .slice A1 n c1, .bool l, .int .i64 o], .slice none 0 0, .int .i64 0]) (by simp [results, Try.results83, go_sem, v0, v1, v2, v3]) rfl H.out
        · have huo1 : (u == o) = false := by simp [huo]
          have Huo := Lib.hid huo
          clear huo
          have He := Lib.hid (show eDec ⟨s, L, l, o⟩ u = 13 by unfold eDec; rw [if_neg Hn2.out, if_neg (fun k => Huo.out k.2.symm), if_pos (.inl H3.out)])
          have Hs := Lib.hid (show sDec ⟨s, L, l, o⟩ u = ⟨s, L, l, o⟩ by unfold sDec; rw [if_neg (by rw [He.out]; omega)])
          have HD := Lib.hid (show dDec ⟨s, L, l, o⟩ u = [] by unfold dDec; rw [if_neg (fun k => by have := k.1; rw [He.out] at this; omega)])
          obtain ⟨cz0, cz1, cz2, cz3⟩ := r4_r.cells
          obtain ⟨fz0, fz1, fz2, fz3⟩ := r4_r.froz
          obtain ⟨U, hU, hrU, hkU⟩ := store_end r4_r Try.neP s A1 n c1 l o
          obtain ⟨v0, v1, v2, v3⟩ := hrU.cells
          have HU := Lib.hid hU
          clear hU
          have H := Lib.hid (show BPostS w w.heap.size (sDec ⟨s, L, l, o⟩ u) (dDec ⟨s, L, l, o⟩ u) (eDec ⟨s, L, l, o⟩ u) (.returned (.tuple #[.agg #[.int .i64 s, .slice A1 n c1, .bool l, .int .i64 o], .slice none 0 0, .int .i64 13])) U by
            rw [He.out, Hs.out, HD.out]
            exact ⟨A1, n, c1, none, 0, 0, rfl, ⟨_, hkU.sg _ _ _ _ _ r4_g⟩, RR.nil _ _ _, hkU.low _ _ l4 (by omega), Fr.of_seg r4_g HG.out⟩)
          clear hkU hrU
          go_wp2_with fail
          rw [HU.out]
          exact bodyPost_ret (v := .tuple #[.agg #[.int .i64 s, .slice A1 n c1, .bool l, .int .i64 o], .slice none 0 0, .int .i64 13]) (by simp [results, Try.results83, go_sem, v0, v1, v2, v3]) rfl H.out
      · have h3a : (s == 3) = false := by simp [h3]
        have H3 := Lib.hid h3
        clear h3
        by_cases hu1 : u = 1
        · have hu1a : (u == 1) = true := by simp [hu1]
          have Hu1 := Lib.hid hu1
          clear hu1
          by_cases hs1 : s = 1
          · have hs1a : (s != 1) = false := by simp [hs1]
            have Hs1 := Lib.hid hs1
            clear hs1
            have He := Lib.hid (show eDec ⟨s, L, l, o⟩ u = 0 by unfold eDec; rw [if_neg Hn2.out, if_neg (fun k => H3.out k.1), if_neg (fun k => k.elim H3.out (fun k => k.2 Hs1.out))])
            have Hs := Lib.hid (show sDec ⟨s, L, l, o⟩ u = ⟨3, L, l, u⟩ by unfold sDec; rw [if_pos He.out])
            obtain ⟨fq0, fq1, fq2, fq3⟩ := r4_q.froz
            obtain ⟨X1, hX1⟩ : ∃ V, w3.setCell ⟨w1.heap.size, 0, none⟩ (.int .i64 3) = V := ⟨_, rfl⟩
            have qX1 : PB X1 w1.heap.size 40 3 A1 n c1 l o := by rw [← hX1]; exact r4_q.put0 _
            have kX1 : Kept w1.heap.size w3 X1 := by rw [← hX1]; exact Kept.of r4_q Try.neP _ _
            have pX1 := kX1.cb _ _ _ (by have := HN.out; omega) r4_p
            have rX1 := kX1.cb _ _ _ (by have := HN.out; omega) r4_r
            have gX1 := kX1.sg _ _ _ _ _ r4_g
            have dX1 := kX1.dr _ _ _ _ r4_d
            have lX1 := kX1.low _ _ l4 (by have := HN.out; omega)
            have pX1 : PB X1 (w.heap.size) 40 s A n c l o := pX1
            have rX1 : PB X1 (w.heap.size + 1) 40 0 none 0 0 false 0 := rX1
            have HX1 := Lib.hid hX1
            clear hX1 kX1
            obtain ⟨fq0, fq1, fq2, fq3⟩ := qX1.froz
            obtain ⟨X2, hX2⟩ : ∃ V, X1.setCell ⟨w1.heap.size, 3, none⟩ (.int .i64 u) = V := ⟨_, rfl⟩
            have qX2 : PB X2 w1.heap.size 40 3 A1 n c1 l u := by rw [← hX2]; exact qX1.put3 _
            have kX2 : Kept w1.heap.size X1 X2 := by rw [← hX2]; exact Kept.of qX1 Try.neP _ _
            have pX2 := kX2.cb _ _ _ (by have := HN.out; omega) pX1
            have rX2 := kX2.cb _ _ _ (by have := HN.out; omega) rX1
            have gX2 := kX2.sg _ _ _ _ _ gX1
            have dX2 := kX2.dr _ _ _ _ dX1
            have lX2 := kX2.low _ _ lX1 (by have := HN.out; omega)
            have pX2 : PB X2 (w.heap.size) 40 s A n c l o := pX2
            have rX2 : PB X2 (w.heap.size + 1) 40 0 none 0 0 false 0 := rX2
            have HX2 := Lib.hid hX2
            clear hX2 kX2
            go_upto_region 9 with fail
            rw [HX1.out, HX2.out]
            clear fq0 fq1 fq2 fq3 pX1 qX1 rX1 gX1 dX1 lX1
            clear cp0 cp1 cp2 cp3 cq0 cq1 cq2 cq3
            obtain ⟨cp0, cp1, cp2, cp3⟩ := pX2.cells
            obtain ⟨cq0, cq1, cq2, cq3⟩ := qX2.cells
            have Hg := Lib.hid (show (eff ⟨3, L, l, u⟩).drop (eff ⟨s, L, l, o⟩).length = dDec ⟨s, L, l, o⟩ u ∧ (eff ⟨s, L, l, o⟩).length ≤ (eff ⟨3, L, l, u⟩).length from (by have := dec_gain He.out H3.out; rw [Hs.out] at this; exact ⟨this.1, this.2.1⟩))
            obtain ⟨cz0, cz1, cz2, cz3⟩ := rX2.cells
            obtain ⟨fz0, fz1, fz2, fz3⟩ := rX2.froz
            have Hc := Lib.hid (And.intro (pX2).cells (qX2).cells)
            have hc := gained_c s A n c l o L 3 A1 n c1 l u L X2.drew dX2.drew hn (RR.of_seg gX2).drew hn Hg.out.2
            clear cz0 cz1 cz2 cz3 fz0 fz1 fz2 fz3
            clear cp0 cp1 cp2 cp3 cq0 cq1 cq2 cq3
            obtain ⟨cp0, cp1, cp2, cp3⟩ := Hc.out.1
            obtain ⟨cq0, cq1, cq2, cq3⟩ := Hc.out.2
            go_region_held3 (fun W' => (W'.cell? ⟨w.heap.size, 0, none⟩ = some (.int .i64 s) ∧ W'.cell? ⟨w.heap.size, 1, none⟩ = some (.slice A n c) ∧ W'.cell? ⟨w.heap.size, 2, none⟩ = some (.bool l) ∧ W'.cell? ⟨w.heap.size, 3, none⟩ = some (.int .i64 o)) ∧ (W'.cell? ⟨w1.heap.size, 0, none⟩ = some (.int .i64 3) ∧ W'.cell? ⟨w1.heap.size, 1, none⟩ = some (.slice A1 n c1) ∧ W'.cell? ⟨w1.heap.size, 2, none⟩ = some (.bool l) ∧ W'.cell? ⟨w1.heap.size, 3, none⟩ = some (.int .i64 u))) (first | exact Hc.out | exact y1.out | exact y2.out) (first
              | (go_at_call 99; refine hc.mono ?_; rintro e w5 ⟨A5, n5, c5, rfl, hd5, b5⟩; have p5 := (pX2).drew.on b5; have q5 := (qX2).drew.on b5; have r5 := (rX2).drew.on b5; have y1 := Lib.hid (And.intro p5.cells q5.cells); obtain ⟨z0, z1, z2, z3⟩ := r5.cells; obtain ⟨u0, u1, u2, u3⟩ := r5.froz; obtain ⟨U, hU, hrU, hkU⟩ := store_end r5 Try.neP 3 A1 n c1 l u; have y2 := Lib.hid (And.intro (show PB U _ _ _ _ _ _ _ _ from hkU.cb _ _ _ (by omega) p5).cells (show PB U _ _ _ _ _ _ _ _ from hkU.cb _ _ _ (by have := HN.out; omega) q5).cells)))
            obtain ⟨v0, v1, v2, v3⟩ := hrU.cells
            have H := Lib.hid (show BPostS w w.heap.size (sDec ⟨s, L, l, o⟩ u) (dDec ⟨s, L, l, o⟩ u) (eDec ⟨s, L, l, o⟩ u) (.returned (.tuple #[.agg #[.int .i64 3, .slice A1 n c1, .bool l, .int .i64 u], .slice A5 n5 c5, .int .i64 0])) U by
              rw [He.out, Hs.out, ← Hg.out.1]
              exact ⟨A1, n, c1, A5, n5, c5, rfl, ⟨_, hkU.sg _ _ _ _ _ (Seg.on gX2 (below_drew (W := X2) b5))⟩, hkU.dr _ _ _ _ hd5, hkU.low _ _ (bel2 lX2 (below_drew (W := X2) b5)) (by omega), Fr.of_seg gX2 HG.out⟩)
            have HU := Lib.hid hU
            clear hU y1 y2 hkU hrU p5 q5 r5 hd5 b5
            try rw [HU.out]
            go_wp2_with fail
            exact bodyPost_ret (v := .tuple #[.agg #[.int .i64 3, .slice A1 n c1, .bool l, .int .i64 u], .slice A5 n5 c5, .int .i64 0]) (by simp [results, Try.results83, go_sem, v0, v1, v2, v3]) rfl H.out
          · have hs1a : (s != 1) = true := by simp [hs1]
            have Hs1 := Lib.hid hs1
            clear hs1
            have He := Lib.hid (show eDec ⟨s, L, l, o⟩ u = 13 by unfold eDec; rw [if_neg Hn2.out, if_neg (fun k => H3.out k.1), if_pos (.inr ⟨Hu1.out, Hs1.out⟩)])
            have Hs := Lib.hid (show sDec ⟨s, L, l, o⟩ u = ⟨s, L, l, o⟩ by unfold sDec; rw [if_neg (by rw [He.out]; omega)])
            have HD := Lib.hid (show dDec ⟨s, L, l, o⟩ u = [] by unfold dDec; rw [if_neg (fun k => by have := k.1; rw [He.out] at this; omega)])
            obtain ⟨cz0, cz1, cz2, cz3⟩ := r4_r.cells
            obtain ⟨fz0, fz1, fz2, fz3⟩ := r4_r.froz
            obtain ⟨U, hU, hrU, hkU⟩ := store_end r4_r Try.neP s A1 n c1 l o
            obtain ⟨v0, v1, v2, v3⟩ := hrU.cells
            have HU := Lib.hid hU
            clear hU
            have H := Lib.hid (show BPostS w w.heap.size (sDec ⟨s, L, l, o⟩ u) (dDec ⟨s, L, l, o⟩ u) (eDec ⟨s, L, l, o⟩ u) (.returned (.tuple #[.agg #[.int .i64 s, .slice A1 n c1, .bool l, .int .i64 o], .slice none 0 0, .int .i64 13])) U by
              rw [He.out, Hs.out, HD.out]
              exact ⟨A1, n, c1, none, 0, 0, rfl, ⟨_, hkU.sg _ _ _ _ _ r4_g⟩, RR.nil _ _ _, hkU.low _ _ l4 (by omega), Fr.of_seg r4_g HG.out⟩)
            clear hkU hrU
            go_wp2_with fail
            rw [HU.out]
            exact bodyPost_ret (v := .tuple #[.agg #[.int .i64 s, .slice A1 n c1, .bool l, .int .i64 o], .slice none 0 0, .int .i64 13]) (by simp [results, Try.results83, go_sem, v0, v1, v2, v3]) rfl H.out
        · have hu1a : (u == 1) = false := by simp [hu1]
          have Hu1 := Lib.hid hu1
          clear hu1
          have He := Lib.hid (show eDec ⟨s, L, l, o⟩ u = 0 by unfold eDec; rw [if_neg Hn2.out, if_neg (fun k => H3.out k.1), if_neg (fun k => k.elim H3.out (fun k => Hu1.out k.1))])
          have Hs := Lib.hid (show sDec ⟨s, L, l, o⟩ u = ⟨3, L, l, u⟩ by unfold sDec; rw [if_pos He.out])
          obtain ⟨fq0, fq1, fq2, fq3⟩ := r4_q.froz
          obtain ⟨X3, hX3⟩ : ∃ V, w3.setCell ⟨w1.heap.size, 0, none⟩ (.int .i64 3) = V := ⟨_, rfl⟩
          have qX3 : PB X3 w1.heap.size 40 3 A1 n c1 l o := by rw [← hX3]; exact r4_q.put0 _
          have kX3 : Kept w1.heap.size w3 X3 := by rw [← hX3]; exact Kept.of r4_q Try.neP _ _
          have pX3 := kX3.cb _ _ _ (by have := HN.out; omega) r4_p
          have rX3 := kX3.cb _ _ _ (by have := HN.out; omega) r4_r
          have gX3 := kX3.sg _ _ _ _ _ r4_g
          have dX3 := kX3.dr _ _ _ _ r4_d
          have lX3 := kX3.low _ _ l4 (by have := HN.out; omega)
          have pX3 : PB X3 (w.heap.size) 40 s A n c l o := pX3
          have rX3 : PB X3 (w.heap.size + 1) 40 0 none 0 0 false 0 := rX3
          have HX3 := Lib.hid hX3
          clear hX3 kX3
          obtain ⟨fq0, fq1, fq2, fq3⟩ := qX3.froz
          obtain ⟨X4, hX4⟩ : ∃ V, X3.setCell ⟨w1.heap.size, 3, none⟩ (.int .i64 u) = V := ⟨_, rfl⟩
          have qX4 : PB X4 w1.heap.size 40 3 A1 n c1 l u := by rw [← hX4]; exact qX3.put3 _
          have kX4 : Kept w1.heap.size X3 X4 := by rw [← hX4]; exact Kept.of qX3 Try.neP _ _
          have pX4 := kX4.cb _ _ _ (by have := HN.out; omega) pX3
          have rX4 := kX4.cb _ _ _ (by have := HN.out; omega) rX3
          have gX4 := kX4.sg _ _ _ _ _ gX3
          have dX4 := kX4.dr _ _ _ _ dX3
          have lX4 := kX4.low _ _ lX3 (by have := HN.out; omega)
          have pX4 : PB X4 (w.heap.size) 40 s A n c l o := pX4
          have rX4 : PB X4 (w.heap.size + 1) 40 0 none 0 0 false 0 := rX4
          have HX4 := Lib.hid hX4
          clear hX4 kX4
          go_upto_region 9 with fail
          rw [HX3.out, HX4.out]
          clear fq0 fq1 fq2 fq3 pX3 qX3 rX3 gX3 dX3 lX3
          clear cp0 cp1 cp2 cp3 cq0 cq1 cq2 cq3
          obtain ⟨cp0, cp1, cp2, cp3⟩ := pX4.cells
          obtain ⟨cq0, cq1, cq2, cq3⟩ := qX4.cells
          have Hg := Lib.hid (show (eff ⟨3, L, l, u⟩).drop (eff ⟨s, L, l, o⟩).length = dDec ⟨s, L, l, o⟩ u ∧ (eff ⟨s, L, l, o⟩).length ≤ (eff ⟨3, L, l, u⟩).length from (by have := dec_gain He.out H3.out; rw [Hs.out] at this; exact ⟨this.1, this.2.1⟩))
          obtain ⟨cz0, cz1, cz2, cz3⟩ := rX4.cells
          obtain ⟨fz0, fz1, fz2, fz3⟩ := rX4.froz
          have Hc := Lib.hid (And.intro (pX4).cells (qX4).cells)
          have hc := gained_c s A n c l o L 3 A1 n c1 l u L X4.drew dX4.drew hn (RR.of_seg gX4).drew hn Hg.out.2
          clear cz0 cz1 cz2 cz3 fz0 fz1 fz2 fz3
          clear cp0 cp1 cp2 cp3 cq0 cq1 cq2 cq3
          obtain ⟨cp0, cp1, cp2, cp3⟩ := Hc.out.1
          obtain ⟨cq0, cq1, cq2, cq3⟩ := Hc.out.2
          go_region_held3 (fun W' => (W'.cell? ⟨w.heap.size, 0, none⟩ = some (.int .i64 s) ∧ W'.cell? ⟨w.heap.size, 1, none⟩ = some (.slice A n c) ∧ W'.cell? ⟨w.heap.size, 2, none⟩ = some (.bool l) ∧ W'.cell? ⟨w.heap.size, 3, none⟩ = some (.int .i64 o)) ∧ (W'.cell? ⟨w1.heap.size, 0, none⟩ = some (.int .i64 3) ∧ W'.cell? ⟨w1.heap.size, 1, none⟩ = some (.slice A1 n c1) ∧ W'.cell? ⟨w1.heap.size, 2, none⟩ = some (.bool l) ∧ W'.cell? ⟨w1.heap.size, 3, none⟩ = some (.int .i64 u))) (first | exact Hc.out | exact y1.out | exact y2.out) (first
            | (go_at_call 99; refine hc.mono ?_; rintro e w5 ⟨A5, n5, c5, rfl, hd5, b5⟩; have p5 := (pX4).drew.on b5; have q5 := (qX4).drew.on b5; have r5 := (rX4).drew.on b5; have y1 := Lib.hid (And.intro p5.cells q5.cells); obtain ⟨z0, z1, z2, z3⟩ := r5.cells; obtain ⟨u0, u1, u2, u3⟩ := r5.froz; obtain ⟨U, hU, hrU, hkU⟩ := store_end r5 Try.neP 3 A1 n c1 l u; have y2 := Lib.hid (And.intro (show PB U _ _ _ _ _ _ _ _ from hkU.cb _ _ _ (by omega) p5).cells (show PB U _ _ _ _ _ _ _ _ from hkU.cb _ _ _ (by have := HN.out; omega) q5).cells)))
          obtain ⟨v0, v1, v2, v3⟩ := hrU.cells
          have H := Lib.hid (show BPostS w w.heap.size (sDec ⟨s, L, l, o⟩ u) (dDec ⟨s, L, l, o⟩ u) (eDec ⟨s, L, l, o⟩ u) (.returned (.tuple #[.agg #[.int .i64 3, .slice A1 n c1, .bool l, .int .i64 u], .slice A5 n5 c5, .int .i64 0])) U by
            rw [He.out, Hs.out, ← Hg.out.1]
            exact ⟨A1, n, c1, A5, n5, c5, rfl, ⟨_, hkU.sg _ _ _ _ _ (Seg.on gX4 (below_drew (W := X4) b5))⟩, hkU.dr _ _ _ _ hd5, hkU.low _ _ (bel2 lX4 (below_drew (W := X4) b5)) (by omega), Fr.of_seg gX4 HG.out⟩)
          have HU := Lib.hid hU
          clear hU y1 y2 hkU hrU p5 q5 r5 hd5 b5
          try rw [HU.out]
          go_wp2_with fail
          exact bodyPost_ret (v := .tuple #[.agg #[.int .i64 3, .slice A1 n c1, .bool l, .int .i64 u], .slice A5 n5 c5, .int .i64 0]) (by simp [results, Try.results83, go_sem, v0, v1, v2, v3]) rfl H.out

end Go.Proofs.Ytealcccjnmfkcaa
