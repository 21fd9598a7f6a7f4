/-
  The document's Add, Vote, Local and Decide of layer 9. Condition: the deltas can be read, a thousand at most.
-/
import Derived.Test.YtealcccjnmfkcaaYPvG
import Derived.Deep.CutRange
import Derived.Deep.RegionHeld3
set_option linter.unusedVariables false
set_option linter.unusedSimpArgs false
namespace Go.Proofs.Ytealcccjnmfkcaa
open Go.RowKit

set_option maxRecDepth 100000 in
set_option maxHeartbeats 4000000 in
theorem voteR_c (s : Int) (A : Option Addr) (n c : Nat) (l : Bool) (o : Int) (y : Bool) (L : List Dl) (w : World) (h : DR w A n c L) (hn : n ≤ 1000) :
    Calls Try.prog 88 #[.agg #[.int .i64 s, .slice A n c, .bool l, .int .i64 o], .bool y] w (APost w 0 (sVote ⟨s, L, l, o⟩ y) (eVote ⟨s, L, l, o⟩)) := by
  have hlen := Lib.hid h.len
  obtain ⟨W, hW⟩ : ∃ W, (w.alloc (.cells #[.int .i64 s, .slice A n c, .bool l, .int .i64 o] 95)).alloc (.cells #[.int .i64 0, .slice none 0 0, .bool false, .int .i64 0] 95) = W := ⟨_, rfl⟩
  have hp : PB W (w.heap.size) 95 s A n c l o := by
    rw [← hW]
    have := ((PB.new w 95 s A n c l o).alloc (.cells #[.int .i64 0, .slice none 0 0, .bool false, .int .i64 0] 95))
    simpa using this
  have hr : PB W (w.heap.size + 1) 95 0 none 0 0 false 0 := by
    rw [← hW]
    have := (PB.new (w.alloc (.cells #[.int .i64 s, .slice A n c, .bool l, .int .i64 o] 95)) 95 0 none 0 0 false 0)
    simpa using this
  have hb : Below w.heap.size w W := by rw [← hW]; exact bel2 (belA _ _) (belA _ _)
  have hS := Lib.hid (show W.heap.size = w.heap.size + 2 by rw [← hW]; simp)
  have HW := Lib.hid hW
  clear hW
  have hd := h.on hb
  have hc := rightR_c s A n c l o L W hd
  obtain ⟨cp0, cp1, cp2, cp3⟩ := hp.cells
  go_enter Try.func88, Try.ntmps88
  go_upto_region 1 with fail
  rw [HW.out]
  go_wp2_with fail
  refine hc.mono ?_
  rintro e w1 ⟨rfl, b1⟩
  clear cp0 cp1 cp2 cp3
  clear hc
  have HN := Lib.hid (show w.heap.size + 2 ≤ w1.heap.size by have := hS.out; have := b1.size; omega)
  have r1_p := hp.on b1
  have r1_r := hr.on b1
  have r1_d := hd.on b1
  have l1 := bel2 hb b1
  clear b1 hS hp hr hd hb
  obtain ⟨cp0, cp1, cp2, cp3⟩ := r1_p.cells
  cases hok : okP ⟨s, L, l, o⟩ with
  | false =>
    have He := Lib.hid (show eVote ⟨s, L, l, o⟩ = 2 by unfold eVote; rw [if_pos hok])
    have Hs := Lib.hid (show sVote ⟨s, L, l, o⟩ y = ⟨s, L, l, o⟩ by unfold sVote; rw [if_neg (by rw [He.out]; omega)])
    obtain ⟨cz0, cz1, cz2, cz3⟩ := r1_r.cells
    obtain ⟨fz0, fz1, fz2, fz3⟩ := r1_r.froz
    obtain ⟨U, hU, hrU, hkU⟩ := store_end r1_r Try.neR s A n c l o
    obtain ⟨v0, v1, v2, v3⟩ := hrU.cells
    have HU := Lib.hid hU
    clear hU
    have H := Lib.hid (show APost w 0 (sVote ⟨s, L, l, o⟩ y) (eVote ⟨s, L, l, o⟩) (.returned (.tuple #[.agg #[.int .i64 s, .slice A n c, .bool l, .int .i64 o], .int .i64 2])) U by
      rw [He.out, Hs.out]
      exact ⟨A, n, c, rfl, hkU.dr _ _ _ _ r1_d, hkU.low _ _ l1 (by omega), Fr.zero _ _⟩)
    clear hkU hrU
    go_wp2_with fail
    rw [HU.out]
    exact bodyPost_ret (v := .tuple #[.agg #[.int .i64 s, .slice A n c, .bool l, .int .i64 o], .int .i64 2]) (by simp [results, Try.results88, go_sem, v0, v1, v2, v3]) rfl H.out
  | true =>
    have Hok := Lib.hid hok
    clear hok
    by_cases hs0 : s = 0
    · have hs1 : (s != 0) = false := by simp [hs0]
      have Hs0 := Lib.hid hs0
      clear hs0
      have He := Lib.hid (show eVote ⟨s, L, l, o⟩ = 0 by unfold eVote; rw [if_neg (fun k => by rw [Hok.out] at k; cases k), if_neg (fun k => k Hs0.out)])
      have Hs := Lib.hid (fun y => show sVote ⟨s, L, l, o⟩ y = ⟨if y then 1 else 2, L, l, o⟩ by unfold sVote; rw [if_pos He.out])
      obtain ⟨fp0, fp1, fp2, fp3⟩ := r1_p.froz
      obtain ⟨X1, hX1⟩ : ∃ V, w1.setCell ⟨w.heap.size, 0, none⟩ (.int .i64 2) = V := ⟨_, rfl⟩
      have pX1 : PB X1 w.heap.size 95 2 A n c l o := by rw [← hX1]; exact r1_p.put0 _
      have kX1 : Kept w.heap.size w1 X1 := by rw [← hX1]; exact Kept.of r1_p Try.neR _ _
      have rX1 : PB X1 (w.heap.size + 1) 95 0 none 0 0 false 0 := kX1.cb _ _ _ (by omega) r1_r
      have dX1 := kX1.dr _ _ _ _ r1_d
      have lX1 := kX1.low _ _ l1 (by omega)
      have HX1 := Lib.hid hX1
      clear hX1 kX1
      go_upto_region 6 with fail
      rw [HX1.out]
      clear fp0 fp1 fp2 fp3 r1_p r1_r r1_d l1
      clear cp0 cp1 cp2 cp3
      obtain ⟨cp0, cp1, cp2, cp3⟩ := pX1.cells
      cases y with
      | false =>
        obtain ⟨cz0, cz1, cz2, cz3⟩ := rX1.cells
        obtain ⟨fz0, fz1, fz2, fz3⟩ := rX1.froz
        obtain ⟨U, hU, hrU, hkU⟩ := store_end rX1 Try.neR 2 A n c l o
        obtain ⟨v0, v1, v2, v3⟩ := hrU.cells
        have HU := Lib.hid hU
        clear hU
        have H := Lib.hid (show APost w 0 (sVote ⟨s, L, l, o⟩ false) (eVote ⟨s, L, l, o⟩) (.returned (.tuple #[.agg #[.int .i64 2, .slice A n c, .bool l, .int .i64 o], .int .i64 0])) U by
          rw [He.out, Hs.out]
          exact ⟨A, n, c, rfl, hkU.dr _ _ _ _ dX1, hkU.low _ _ lX1 (by omega), Fr.zero _ _⟩)
        clear hkU hrU
        go_wp2_with fail
        rw [HU.out]
        exact bodyPost_ret (v := .tuple #[.agg #[.int .i64 2, .slice A n c, .bool l, .int .i64 o], .int .i64 0]) (by simp [results, Try.results88, go_sem, v0, v1, v2, v3]) rfl H.out
      | true =>
        obtain ⟨fp0, fp1, fp2, fp3⟩ := pX1.froz
        obtain ⟨X2, hX2⟩ : ∃ V, X1.setCell ⟨w.heap.size, 0, none⟩ (.int .i64 1) = V := ⟨_, rfl⟩
        have pX2 : PB X2 w.heap.size 95 1 A n c l o := by rw [← hX2]; exact pX1.put0 _
        have kX2 : Kept w.heap.size X1 X2 := by rw [← hX2]; exact Kept.of pX1 Try.neR _ _
        have rX2 : PB X2 (w.heap.size + 1) 95 0 none 0 0 false 0 := kX2.cb _ _ _ (by omega) rX1
        have dX2 := kX2.dr _ _ _ _ dX1
        have lX2 := kX2.low _ _ lX1 (by omega)
        have HX2 := Lib.hid hX2
        clear hX2 kX2
        go_upto_region 8 with fail
        rw [HX2.out]
        clear fp0 fp1 fp2 fp3 pX1 rX1 dX1 lX1
        clear cp0 cp1 cp2 cp3
        obtain ⟨cp0, cp1, cp2, cp3⟩ := pX2.cells
        obtain ⟨cz0, cz1, cz2, cz3⟩ := rX2.cells
        obtain ⟨fz0, fz1, fz2, fz3⟩ := rX2.froz
        obtain ⟨U, hU, hrU, hkU⟩ := store_end rX2 Try.neR 1 A n c l o
        obtain ⟨v0, v1, v2, v3⟩ := hrU.cells
        have HU := Lib.hid hU
        clear hU
        have H := Lib.hid (show APost w 0 (sVote ⟨s, L, l, o⟩ true) (eVote ⟨s, L, l, o⟩) (.returned (.tuple #[.agg #[.int .i64 1, .slice A n c, .bool l, .int .i64 o], .int .i64 0])) U by
          rw [He.out, Hs.out]
          exact ⟨A, n, c, rfl, hkU.dr _ _ _ _ dX2, hkU.low _ _ lX2 (by omega), Fr.zero _ _⟩)
        clear hkU hrU
        go_wp2_with fail
        rw [HU.out]
        exact bodyPost_ret (v := .tuple #[.agg #[.int .i64 1, .slice A n c, .bool l, .int .i64 o], .int .i64 0]) (by simp [results, Try.results88, go_sem, v0, v1, v2, v3]) rfl H.out
    · have hs1 : (s != 0) = true := by simp [hs0]
      have Hs0 := Lib.hid hs0
      clear hs0
      have He := Lib.hid (show eVote ⟨s, L, l, o⟩ = 13 by unfold eVote; rw [if_neg (fun k => by rw [Hok.out] at k; cases k), if_pos Hs0.out])
      have Hs := Lib.hid (show sVote ⟨s, L, l, o⟩ y = ⟨s, L, l, o⟩ by unfold sVote; rw [if_neg (by rw [He.out]; omega)])
      obtain ⟨cz0, cz1, cz2, cz3⟩ := r1_r.cells
      obtain ⟨fz0, fz1, fz2, fz3⟩ := r1_r.froz
      obtain ⟨U, hU, hrU, hkU⟩ := store_end r1_r Try.neR s A n c l o
      obtain ⟨v0, v1, v2, v3⟩ := hrU.cells
      have HU := Lib.hid hU
      clear hU
      have H := Lib.hid (show APost w 0 (sVote ⟨s, L, l, o⟩ y) (eVote ⟨s, L, l, o⟩) (.returned (.tuple #[.agg #[.int .i64 s, .slice A n c, .bool l, .int .i64 o], .int .i64 13])) U by
        rw [He.out, Hs.out]
        exact ⟨A, n, c, rfl, hkU.dr _ _ _ _ r1_d, hkU.low _ _ l1 (by omega), Fr.zero _ _⟩)
      clear hkU hrU
      go_wp2_with fail
      rw [HU.out]
      exact bodyPost_ret (v := .tuple #[.agg #[.int .i64 s, .slice A n c, .bool l, .int .i64 o], .int .i64 13]) (by simp [results, Try.results88, go_sem, v0, v1, v2, v3]) rfl H.out

set_option maxRecDepth 100000 in
set_option maxHeartbeats 4000000 in
theorem localR_c (s : Int) (A : Option Addr) (n c : Nat) (l : Bool) (o : Int) (L : List Dl) (w : World) (h : DR w A n c L) (hn : n ≤ 1000) :
    Calls Try.prog 90 #[.agg #[.int .i64 s, .slice A n c, .bool l, .int .i64 o]] w (BPost w 0 (sLoc ⟨s, L, l, o⟩) (dLoc ⟨s, L, l, o⟩) (eLoc ⟨s, L, l, o⟩)) := by
  have hlen := Lib.hid h.len
  obtain ⟨W, hW⟩ : ∃ W, (w.alloc (.cells #[.int .i64 s, .slice A n c, .bool l, .int .i64 o] 95)).alloc (.cells #[.int .i64 0, .slice none 0 0, .bool false, .int .i64 0] 95) = W := ⟨_, rfl⟩
  have hp : PB W (w.heap.size) 95 s A n c l o := by
    rw [← hW]
    have := ((PB.new w 95 s A n c l o).alloc (.cells #[.int .i64 0, .slice none 0 0, .bool false, .int .i64 0] 95))
    simpa using this
  have hr : PB W (w.heap.size + 1) 95 0 none 0 0 false 0 := by
    rw [← hW]
    have := (PB.new (w.alloc (.cells #[.int .i64 s, .slice A n c, .bool l, .int .i64 o] 95)) 95 0 none 0 0 false 0)
    simpa using this
  have hb : Below w.heap.size w W := by rw [← hW]; exact bel2 (belA _ _) (belA _ _)
  have hS := Lib.hid (show W.heap.size = w.heap.size + 2 by rw [← hW]; simp)
  have HW := Lib.hid hW
  clear hW
  have hd := h.on hb
  have hc := rightR_c s A n c l o L W hd
  obtain ⟨cp0, cp1, cp2, cp3⟩ := hp.cells
  go_enter Try.func90, Try.ntmps90
  go_upto_region 1 with fail
  rw [HW.out]
  go_wp2_with fail
  refine hc.mono ?_
  rintro e w1 ⟨rfl, b1⟩
  clear cp0 cp1 cp2 cp3
  clear hc
  have HN := Lib.hid (show w.heap.size + 2 ≤ w1.heap.size by have := hS.out; have := b1.size; omega)
  have r1_p := hp.on b1
  have r1_r := hr.on b1
  have r1_d := hd.on b1
  have l1 := bel2 hb b1
  clear b1 hS hp hr hd hb
  obtain ⟨cp0, cp1, cp2, cp3⟩ := r1_p.cells
  cases hok : okP ⟨s, L, l, o⟩ with
  | false =>
    have He := Lib.hid (show eLoc ⟨s, L, l, o⟩ = 2 by unfold eLoc; rw [if_pos hok])
    have Hs := Lib.hid (show sLoc ⟨s, L, l, o⟩ = ⟨s, L, l, o⟩ by unfold sLoc; rw [if_neg (by rw [He.out]; omega)])
    have HD := Lib.hid (show dLoc ⟨s, L, l, o⟩ = [] by unfold dLoc; rw [if_neg (by rw [He.out]; omega)])
    obtain ⟨cz0, cz1, cz2, cz3⟩ := r1_r.cells
    obtain ⟨fz0, fz1, fz2, fz3⟩ := r1_r.froz
    obtain ⟨U, hU, hrU, hkU⟩ := store_end r1_r Try.neR s A n c l o
    obtain ⟨v0, v1, v2, v3⟩ := hrU.cells
    have HU := Lib.hid hU
    clear hU
    have H := Lib.hid (show BPost w 0 (sLoc ⟨s, L, l, o⟩) (dLoc ⟨s, L, l, o⟩) (eLoc ⟨s, L, l, o⟩) (.returned (.tuple #[.agg #[.int .i64 s, .slice A n c, .bool l, .int .i64 o], .slice none 0 0, .int .i64 2])) U by
      rw [He.out, Hs.out, HD.out]
      exact ⟨A, n, c, none, 0, 0, rfl, hkU.dr _ _ _ _ r1_d, RR.nil _ _ _, hkU.low _ _ l1 (by omega), Fr.zero _ _⟩)
    clear hkU hrU
    go_wp2_with fail
    rw [HU.out]
    exact bodyPost_ret (v := .tuple #[.agg #[.int .i64 s, .slice A n c, .bool l, .int .i64 o], .slice none 0 0, .int .i64 2]) (by simp [results, Try.results90, go_sem, v0, v1, v2, v3]) rfl H.out
  | true =>
    have Hok := Lib.hid hok
    clear hok
    by_cases hs0 : s = 1
    · have hs1 : (s != 1) = false := by simp [hs0]
      have Hs0 := Lib.hid hs0
      clear hs0
      cases hl : l with
      | true =>
        subst hl
        have He := Lib.hid (show eLoc ⟨s, L, true, o⟩ = 8 by unfold eLoc; rw [if_neg (fun k => by rw [Hok.out] at k; cases k), if_neg (fun k => k Hs0.out), if_pos rfl])
        have Hs := Lib.hid (show sLoc ⟨s, L, true, o⟩ = ⟨s, L, true, o⟩ by unfold sLoc; rw [if_neg (by rw [He.out]; omega)])
        have HD := Lib.hid (show dLoc ⟨s, L, true, o⟩ = [] by unfold dLoc; rw [if_neg (by rw [He.out]; omega)])
        obtain ⟨cz0, cz1, cz2, cz3⟩ := r1_r.cells
        obtain ⟨fz0, fz1, fz2, fz3⟩ := r1_r.froz
        obtain ⟨U, hU, hrU, hkU⟩ := store_end r1_r Try.neR s A n c true o
        obtain ⟨v0, v1, v2, v3⟩ := hrU.cells
        have HU := Lib.hid hU
        clear hU
        have H := Lib.hid (show BPost w 0 (sLoc ⟨s, L, true, o⟩) (dLoc ⟨s, L, true, o⟩) (eLoc ⟨s, L, true, o⟩) (.returned (.tuple #[.agg #[.int .i64 s, .slice A n c, .bool true, .int .i64 o], .slice none 0 0, .int .i64 8])) U by
          rw [He.out, Hs.out, HD.out]
          exact ⟨A, n, c, none, 0, 0, rfl, hkU.dr _ _ _ _ r1_d, RR.nil _ _ _, hkU.low _ _ l1 (by omega), Fr.zero _ _⟩)
        clear hkU hrU
        go_wp2_with fail
        rw [HU.out]
        exact bodyPost_ret (v := .tuple #[.agg #[.int .i64 s, .slice A n c, .bool true, .int .i64 o], .slice none 0 0, .int .i64 8]) (by simp [results, Try.results90, go_sem, v0, v1, v2, v3]) rfl H.out
      | false =>
        subst hl
        have He := Lib.hid (show eLoc ⟨s, L, false, o⟩ = 0 by unfold eLoc; rw [if_neg (fun k => by rw [Hok.out] at k; cases k), if_neg (fun k => k Hs0.out), if_neg (by simp)])
        have Hs := Lib.hid (show sLoc ⟨s, L, false, o⟩ = ⟨s, L, true, o⟩ by unfold sLoc; rw [if_pos He.out])
        have HD := Lib.hid (show dLoc ⟨s, L, false, o⟩ = L by unfold dLoc; rw [if_pos He.out])
        obtain ⟨fp0, fp1, fp2, fp3⟩ := r1_p.froz
        obtain ⟨X1, hX1⟩ : ∃ V, w1.setCell ⟨w.heap.size, 2, none⟩ (.bool true) = V := ⟨_, rfl⟩
        have pX1 : PB X1 w.heap.size 95 s A n c true o := by rw [← hX1]; exact r1_p.put2 _
        have kX1 : Kept w.heap.size w1 X1 := by rw [← hX1]; exact Kept.of r1_p Try.neR _ _
        have rX1 : PB X1 (w.heap.size + 1) 95 0 none 0 0 false 0 := kX1.cb _ _ _ (by omega) r1_r
        have dX1 := kX1.dr _ _ _ _ r1_d
        have lX1 := kX1.low _ _ l1 (by omega)
        have HX1 := Lib.hid hX1
        clear hX1 kX1
        go_upto_region 8 with fail
        rw [HX1.out]
        clear fp0 fp1 fp2 fp3 r1_p r1_r r1_d l1
        clear cp0 cp1 cp2 cp3
        obtain ⟨cp0, cp1, cp2, cp3⟩ := pX1.cells
        obtain ⟨cz0, cz1, cz2, cz3⟩ := rX1.cells
        obtain ⟨fz0, fz1, fz2, fz3⟩ := rX1.froz
        obtain ⟨U, hU, hrU, hkU⟩ := store_end rX1 Try.neR s A n c true o
        obtain ⟨v0, v1, v2, v3⟩ := hrU.cells
        obtain ⟨e0, e1, e2, e3⟩ := (show PB U _ _ _ _ _ _ _ _ from hkU.cb _ _ _ (by omega) pX1).cells
        have H := Lib.hid (show BPost w 0 (sLoc ⟨s, L, false, o⟩) (dLoc ⟨s, L, false, o⟩) (eLoc ⟨s, L, false, o⟩) (.returned (.tuple #[.agg #[.int .i64 s, .slice A n c, .bool true, .int .i64 o], .slice A n c, .int .i64 0])) U.drew by
          rw [He.out, Hs.out, HD.out]
          exact ⟨A, n, c, A, n, c, rfl, (hkU.dr _ _ _ _ dX1).drew, (hkU.dr _ _ _ _ dX1).drew, belowD (hkU.low _ _ lX1 (by omega)), Fr.zero _ _⟩)
        have HU := Lib.hid hU
        clear hU hkU hrU
        go_upto_region 8 with fail
        go_region
        all_goals (try rw [HU.out])
        go_wp2_with fail
        exact bodyPost_ret (v := .tuple #[.agg #[.int .i64 s, .slice A n c, .bool true, .int .i64 o], .slice A n c, .int .i64 0]) (by simp [results, Try.results90, go_sem, v0, v1, v2, v3]) rfl H.out
    · have hs1 : (s != 1) = true := by simp [hs0]
      have Hs0 := Lib.hid hs0
      clear hs0
      have He := Lib.hid (show eLoc ⟨s, L, l, o⟩ = 13 by unfold eLoc; rw [if_neg (fun k => by rw [Hok.out] at k; cases k), if_pos Hs0.out])
      have Hs := Lib.hid (show sLoc ⟨s, L, l, o⟩ = ⟨s, L, l, o⟩ by unfold sLoc; rw [if_neg (by rw [He.out]; omega)])
      have HD := Lib.hid (show dLoc ⟨s, L, l, o⟩ = [] by unfold dLoc; rw [if_neg (by rw [He.out]; omega)])
      obtain ⟨cz0, cz1, cz2, cz3⟩ := r1_r.cells
      obtain ⟨fz0, fz1, fz2, fz3⟩ := r1_r.froz
      obtain ⟨U, hU, hrU, hkU⟩ := store_end r1_r Try.neR s A n c l o
      obtain ⟨v0, v1, v2, v3⟩ := hrU.cells
      have HU := Lib.hid hU
      clear hU
      have H := Lib.hid (show BPost w 0 (sLoc ⟨s, L, l, o⟩) (dLoc ⟨s, L, l, o⟩) (eLoc ⟨s, L, l, o⟩) (.returned (.tuple #[.agg #[.int .i64 s, .slice A n c, .bool l, .int .i64 o], .slice none 0 0, .int .i64 13])) U by
        rw [He.out, Hs.out, HD.out]
        exact ⟨A, n, c, none, 0, 0, rfl, hkU.dr _ _ _ _ r1_d, RR.nil _ _ _, hkU.low _ _ l1 (by omega), Fr.zero _ _⟩)
      clear hkU hrU
      go_wp2_with fail
      rw [HU.out]
      exact bodyPost_ret (v := .tuple #[.agg #[.int .i64 s, .slice A n c, .bool l, .int .i64 o], .slice none 0 0, .int .i64 13]) (by simp [results, Try.results90, go_sem, v0, v1, v2, v3]) rfl H.out

set_option maxRecDepth 100000 in
set_option maxHeartbeats 4000000 in
theorem decideR_c (s : Int) (A : Option Addr) (n c : Nat) (l : Bool) (o : Int) (u : Int) (L : List Dl) (w : World) (h : DR w A n c L) (hn : n ≤ 1000) :
    Calls Try.prog 91 #[.agg #[.int .i64 s, .slice A n c, .bool l, .int .i64 o], .int .i64 u] w (BPost w 0 (sDec ⟨s, L, l, o⟩ u) (dDec ⟨s, L, l, o⟩ u) (eDec ⟨s, L, l, o⟩ u)) := by
  have hlen := Lib.hid h.len
  obtain ⟨W, hW⟩ : ∃ W, (w.alloc (.cells #[.int .i64 s, .slice A n c, .bool l, .int .i64 o] 95)).alloc (.cells #[.int .i64 0, .slice none 0 0, .bool false, .int .i64 0] 95) = W := ⟨_, rfl⟩
  have hp : PB W (w.heap.size) 95 s A n c l o := by
    rw [← hW]
    have := ((PB.new w 95 s A n c l o).alloc (.cells #[.int .i64 0, .slice none 0 0, .bool false, .int .i64 0] 95))
    simpa using this
  have hr : PB W (w.heap.size + 1) 95 0 none 0 0 false 0 := by
    rw [← hW]
    have := (PB.new (w.alloc (.cells #[.int .i64 s, .slice A n c, .bool l, .int .i64 o] 95)) 95 0 none 0 0 false 0)
    simpa using this
  have hb : Below w.heap.size w W := by rw [← hW]; exact bel2 (belA _ _) (belA _ _)
  have hS := Lib.hid (show W.heap.size = w.heap.size + 2 by rw [← hW]; simp)
  have HW := Lib.hid hW
  clear hW
  have hd := h.on hb
  have hc := rightR_c s A n c l o L W hd
  obtain ⟨cp0, cp1, cp2, cp3⟩ := hp.cells
  go_enter Try.func91, Try.ntmps91
  go_upto_region 1 with fail
  rw [HW.out]
  go_wp2_with fail
  refine hc.mono ?_
  rintro e w1 ⟨rfl, b1⟩
  clear cp0 cp1 cp2 cp3
  clear hc
  have HN := Lib.hid (show w.heap.size + 2 ≤ w1.heap.size by have := hS.out; have := b1.size; omega)
  have r1_p := hp.on b1
  have r1_r := hr.on b1
  have r1_d := hd.on b1
  have l1 := bel2 hb b1
  clear b1 hS hp hr hd hb
  obtain ⟨cp0, cp1, cp2, cp3⟩ := r1_p.cells
  cases hok : okP ⟨s, L, l, o⟩ with
  | false =>
    have He := Lib.hid (show eDec ⟨s, L, l, o⟩ u = 2 by unfold eDec; rw [if_pos (.inl hok)])
    have Hs := Lib.hid (show sDec ⟨s, L, l, o⟩ u = ⟨s, L, l, o⟩ by unfold sDec; rw [if_neg (by rw [He.out]; omega)])
    have HD := Lib.hid (show dDec ⟨s, L, l, o⟩ u = [] by unfold dDec; rw [if_neg (fun k => by have := k.1; rw [He.out] at this; omega)])
    obtain ⟨cz0, cz1, cz2, cz3⟩ := r1_r.cells
    obtain ⟨fz0, fz1, fz2, fz3⟩ := r1_r.froz
    obtain ⟨U, hU, hrU, hkU⟩ := store_end r1_r Try.neR s A n c l o
    obtain ⟨v0, v1, v2, v3⟩ := hrU.cells
    have HU := Lib.hid hU
    clear hU
    have H := Lib.hid (show BPost w 0 (sDec ⟨s, L, l, o⟩ u) (dDec ⟨s, L, l, o⟩ u) (eDec ⟨s, L, l, o⟩ u) (.returned (.tuple #[.agg #[.int .i64 s, .slice A n c, .bool l, .int .i64 o], .slice none 0 0, .int .i64 2])) U by
      rw [He.out, Hs.out, HD.out]
      exact ⟨A, n, c, none, 0, 0, rfl, hkU.dr _ _ _ _ r1_d, RR.nil _ _ _, hkU.low _ _ l1 (by omega), Fr.zero _ _⟩)
    clear hkU hrU
    go_wp2_with fail
    rw [HU.out]
    exact bodyPost_ret (v := .tuple #[.agg #[.int .i64 s, .slice A n c, .bool l, .int .i64 o], .slice none 0 0, .int .i64 2]) (by simp [results, Try.results91, go_sem, v0, v1, v2, v3]) rfl H.out
  | true =>
    have Hok := Lib.hid hok
    clear hok
    by_cases hu1 : u = 1
    · have hu1a : (u == 1) = true := by simp [hu1]
      have hu1b : (u != 1) = false := by simp [hu1]
      have hu2c : (u == 2) = false := by simp [hu1]
      have Hu1 := Lib.hid hu1
      clear hu1
      have Hn2 := Lib.hid (show ¬ (okP ⟨s, L, l, o⟩ = false ∨ deB u = false) from fun k => k.elim (fun k => by rw [Hok.out] at k; cases k) (fun k => by rw [Hu1.out] at k; cases k))
      by_cases h3 : s = 3
      · have h3a : (s == 3) = true := by simp [h3]
        have H3 := Lib.hid h3
        clear h3
        by_cases huo : o = u
        · have huo1 : (o == u) = true := by simp [huo]
          have Huo := Lib.hid huo
          clear huo
          have He := Lib.hid (show eDec ⟨s, L, l, o⟩ u = 0 by unfold eDec; rw [if_neg Hn2.out, if_pos ⟨H3.out, Huo.out⟩])
          have Hs := Lib.hid (show sDec ⟨s, L, l, o⟩ u = ⟨s, L, l, o⟩ by unfold sDec; rw [if_pos He.out, ← Huo.out, ← H3.out])
          have HD := Lib.hid (show dDec ⟨s, L, l, o⟩ u = [] by unfold dDec; rw [if_neg (fun k => k.2 H3.out)])
          obtain ⟨cz0, cz1, cz2, cz3⟩ := r1_r.cells
          obtain ⟨fz0, fz1, fz2, fz3⟩ := r1_r.froz
          obtain ⟨U, hU, hrU, hkU⟩ := store_end r1_r Try.neR s A n c l o
          obtain ⟨v0, v1, v2, v3⟩ := hrU.cells
          have HU := Lib.hid hU
          clear hU
          have H := Lib.hid (show BPost w 0 (sDec ⟨s, L, l, o⟩ u) (dDec ⟨s, L, l, o⟩ u) (eDec ⟨s, L, l, o⟩ u) (.returned (.tuple #[.agg #[.int .i64 s, .slice A n c, .bool l, .int .i64 o], .slice none 0 0, .int .i64 0])) U by
            rw [He.out, Hs.out, HD.out]
            exact ⟨A, n, c, none, 0, 0, rfl, hkU.dr _ _ _ _ r1_d, RR.nil _ _ _, hkU.low _ _ l1 (by omega), Fr.zero _ _⟩)
          clear hkU hrU
          go_wp2_with fail
          rw [HU.out]
          exact bodyPost_ret (v := .tuple #[.agg #[.int .i64 s, .slice A n c, .bool l, .int .i64 o], .slice none 0 0, .int .i64 0]) (by simp [results, Try.results91, go_sem, v0, v1, v2, v3]) rfl H.out
        · have huo1 : (o == u) = false := by simp [huo]
          have Huo := Lib.hid huo
          clear huo
          have He := Lib.hid (show eDec ⟨s, L, l, o⟩ u = 13 by unfold eDec; rw [if_neg Hn2.out, if_neg (fun k => Huo.out k.2), if_pos (.inl H3.out)])
          have Hs := Lib.hid (show sDec ⟨s, L, l, o⟩ u = ⟨s, L, l, o⟩ by unfold sDec; rw [if_neg (by rw [He.out]; omega)])
          have HD := Lib.hid (show dDec ⟨s, L, l, o⟩ u = [] by unfold dDec; rw [if_neg (fun k => by have := k.1; rw [He.out] at this; omega)])
          obtain ⟨cz0, cz1, cz2, cz3⟩ := r1_r.cells
          obtain ⟨fz0, fz1, fz2, fz3⟩ := r1_r.froz
          obtain ⟨U, hU, hrU, hkU⟩ := store_end r1_r Try.neR s A n c l o
          obtain ⟨v0, v1, v2, v3⟩ := hrU.cells
          have HU := Lib.hid hU
          clear hU
          have H := Lib.hid (show BPost w 0 (sDec ⟨s, L, l, o⟩ u) (dDec ⟨s, L, l, o⟩ u) (eDec ⟨s, L, l, o⟩ u) (.returned (.tuple #[.agg #[.int .i64 s, .slice A n c, .bool l, .int .i64 o], .slice none 0 0, .int .i64 13])) U by
            rw [He.out, Hs.out, HD.out]
            exact ⟨A, n, c, none, 0, 0, rfl, hkU.dr _ _ _ _ r1_d, RR.nil _ _ _, hkU.low _ _ l1 (by omega), Fr.zero _ _⟩)
          clear hkU hrU
          go_wp2_with fail
          rw [HU.out]
          exact bodyPost_ret (v := .tuple #[.agg #[.int .i64 s, .slice A n c, .bool l, .int .i64 o], .slice none 0 0, .int .i64 13]) (by simp [results, Try.results91, go_sem, v0, v1, v2, v3]) rfl H.out
      · have h3a : (s == 3) = false := by simp [h3]
        have H3 := Lib.hid h3
        clear h3
        by_cases hs1 : s = 1
        · have hs1a : (s != 1) = false := by simp [hs1]
          have Hs1 := Lib.hid hs1
          clear hs1
          have He := Lib.hid (show eDec ⟨s, L, l, o⟩ u = 0 by unfold eDec; rw [if_neg Hn2.out, if_neg (fun k => H3.out k.1), if_neg (fun k => k.elim H3.out (fun k => k.2 Hs1.out))])
          have Hs := Lib.hid (show sDec ⟨s, L, l, o⟩ u = ⟨3, L, l, u⟩ by unfold sDec; rw [if_pos He.out])
          cases hl : l with
          | true =>
            subst hl
            have HD := Lib.hid (show dDec ⟨s, L, true, o⟩ u = [] by unfold dDec; rw [if_pos ⟨He.out, H3.out⟩]; simp [Hu1.out])
            obtain ⟨fp0, fp1, fp2, fp3⟩ := r1_p.froz
            obtain ⟨X1, hX1⟩ : ∃ V, w1.setCell ⟨w.heap.size, 0, none⟩ (.int .i64 3) = V := ⟨_, rfl⟩
            have pX1 : PB X1 w.heap.size 95 3 A n c true o := by rw [← hX1]; exact r1_p.put0 _
            have kX1 : Kept w.heap.size w1 X1 := by rw [← hX1]; exact Kept.of r1_p Try.neR _ _
            have rX1 : PB X1 (w.heap.size + 1) 95 0 none 0 0 false 0 := kX1.cb _ _ _ (by omega) r1_r
            have dX1 := kX1.dr _ _ _ _ r1_d
            have lX1 := kX1.low _ _ l1 (by omega)
            have HX1 := Lib.hid hX1
            clear hX1 kX1
            go_upto_region 9 with fail
            rw [HX1.out]
            clear fp0 fp1 fp2 fp3 r1_p r1_r r1_d l1
            clear cp0 cp1 cp2 cp3
            obtain ⟨cp0, cp1, cp2, cp3⟩ := pX1.cells
            obtain ⟨fp0, fp1, fp2, fp3⟩ := pX1.froz
            obtain ⟨X2, hX2⟩ : ∃ V, X1.setCell ⟨w.heap.size, 3, none⟩ (.int .i64 u) = V := ⟨_, rfl⟩
            have pX2 : PB X2 w.heap.size 95 3 A n c true u := by rw [← hX2]; exact pX1.put3 _
            have kX2 : Kept w.heap.size X1 X2 := by rw [← hX2]; exact Kept.of pX1 Try.neR _ _
            have rX2 : PB X2 (w.heap.size + 1) 95 0 none 0 0 false 0 := kX2.cb _ _ _ (by omega) rX1
            have dX2 := kX2.dr _ _ _ _ dX1
            have lX2 := kX2.low _ _ lX1 (by omega)
            have HX2 := Lib.hid hX2
            clear hX2 kX2
            go_upto_region 10 with fail
            rw [HX2.out]
            clear fp0 fp1 fp2 fp3 pX1 rX1 dX1 lX1
            clear cp0 cp1 cp2 cp3
            obtain ⟨cp0, cp1, cp2, cp3⟩ := pX2.cells
            obtain ⟨cz0, cz1, cz2, cz3⟩ := rX2.cells
            obtain ⟨fz0, fz1, fz2, fz3⟩ := rX2.froz
            obtain ⟨U, hU, hrU, hkU⟩ := store_end rX2 Try.neR 3 A n c true u
            obtain ⟨v0, v1, v2, v3⟩ := hrU.cells
            have HU := Lib.hid hU
            clear hU
            have H := Lib.hid (show BPost w 0 (sDec ⟨s, L, true, o⟩ u) (dDec ⟨s, L, true, o⟩ u) (eDec ⟨s, L, true, o⟩ u) (.returned (.tuple #[.agg #[.int .i64 3, .slice A n c, .bool true, .int .i64 u], .slice none 0 0, .int .i64 0])) U by
              rw [He.out, Hs.out, HD.out]
              exact ⟨A, n, c, none, 0, 0, rfl, hkU.dr _ _ _ _ dX2, RR.nil _ _ _, hkU.low _ _ lX2 (by omega), Fr.zero _ _⟩)
            clear hkU hrU
            go_wp2_with fail
            rw [HU.out]
            exact bodyPost_ret (v := .tuple #[.agg #[.int .i64 3, .slice A n c, .bool true, .int .i64 u], .slice none 0 0, .int .i64 0]) (by simp [results, Try.results91, go_sem, v0, v1, v2, v3]) rfl H.out
          | false =>
            subst hl
            have HD := Lib.hid (show dDec ⟨s, L, false, o⟩ u = L by unfold dDec; rw [if_pos ⟨He.out, H3.out⟩]; simp [Hu1.out])
            obtain ⟨fp0, fp1, fp2, fp3⟩ := r1_p.froz
            obtain ⟨X3, hX3⟩ : ∃ V, w1.setCell ⟨w.heap.size, 0, none⟩ (.int .i64 3) = V := ⟨_, rfl⟩
            have pX3 : PB X3 w.heap.size 95 3 A n c false o := by rw [← hX3]; exact r1_p.put0 _
            have kX3 : Kept w.heap.size w1 X3 := by rw [← hX3]; exact Kept.of r1_p Try.neR _ _
            have rX3 : PB X3 (w.heap.size + 1) 95 0 none 0 0 false 0 := kX3.cb _ _ _ (by omega) r1_r
            have dX3 := kX3.dr _ _ _ _ r1_d
            have lX3 := kX3.low _ _ l1 (by omega)
            have HX3 := Lib.hid hX3
            clear hX3 kX3
            go_upto_region 9 with fail
            rw [HX3.out]
            clear fp0 fp1 fp2 fp3 r1_p r1_r r1_d l1
            clear cp0 cp1 cp2 cp3
            obtain ⟨cp0, cp1, cp2, cp3⟩ := pX3.cells
            obtain ⟨fp0, fp1, fp2, fp3⟩ := pX3.froz
            obtain ⟨X4, hX4⟩ : ∃ V, X3.setCell ⟨w.heap.size, 3, none⟩ (.int .i64 u) = V := ⟨_, rfl⟩
            have pX4 : PB X4 w.heap.size 95 3 A n c false u := by rw [← hX4]; exact pX3.put3 _
            have kX4 : Kept w.heap.size X3 X4 := by rw [← hX4]; exact Kept.of pX3 Try.neR _ _
            have rX4 : PB X4 (w.heap.size + 1) 95 0 none 0 0 false 0 := kX4.cb _ _ _ (by omega) rX3
            have dX4 := kX4.dr _ _ _ _ dX3
            have lX4 := kX4.low _ _ lX3 (by omega)
            have HX4 := Lib.hid hX4
            clear hX4 kX4
            go_upto_region 10 with fail
            rw [HX4.out]
            clear fp0 fp1 fp2 fp3 pX3 rX3 dX3 lX3
            clear cp0 cp1 cp2 cp3
            obtain ⟨cp0, cp1, cp2, cp3⟩ := pX4.cells
            obtain ⟨cz0, cz1, cz2, cz3⟩ := rX4.cells
            obtain ⟨fz0, fz1, fz2, fz3⟩ := rX4.froz
            obtain ⟨U, hU, hrU, hkU⟩ := store_end rX4 Try.neR 3 A n c false u
            obtain ⟨v0, v1, v2, v3⟩ := hrU.cells
            obtain ⟨e0, e1, e2, e3⟩ := (show PB U _ _ _ _ _ _ _ _ from hkU.cb _ _ _ (by omega) pX4).cells
            have H := Lib.hid (show BPost w 0 (sDec ⟨s, L, false, o⟩ u) (dDec ⟨s, L, false, o⟩ u) (eDec ⟨s, L, false, o⟩ u) (.returned (.tuple #[.agg #[.int .i64 3, .slice A n c, .bool false, .int .i64 u], .slice A n c, .int .i64 0])) U.drew by
              rw [He.out, Hs.out, HD.out]
              exact ⟨A, n, c, A, n, c, rfl, (hkU.dr _ _ _ _ dX4).drew, (hkU.dr _ _ _ _ dX4).drew, belowD (hkU.low _ _ lX4 (by omega)), Fr.zero _ _⟩)
            have HU := Lib.hid hU
            clear hU hkU hrU
            go_upto_region 11 with fail
            go_region
            all_goals (try rw [HU.out])
            go_wp2_with fail
            exact bodyPost_ret (v := .tuple #[.agg #[.int .i64 3, .slice A n c, .bool false, .int .i64 u], .slice A n c, .int .i64 0]) (by simp [results, Try.results91, go_sem, v0, v1, v2, v3]) rfl H.out
        · have hs1a : (s != 1) = true := by simp [hs1]
          have Hs1 := Lib.hid hs1
          clear hs1
          have He := Lib.hid (show eDec ⟨s, L, l, o⟩ u = 13 by unfold eDec; rw [if_neg Hn2.out, if_neg (fun k => H3.out k.1), if_pos (.inr ⟨Hu1.out, Hs1.out⟩)])
          have Hs := Lib.hid (show sDec ⟨s, L, l, o⟩ u = ⟨s, L, l, o⟩ by unfold sDec; rw [if_neg (by rw [He.out]; omega)])
          have HD := Lib.hid (show dDec ⟨s, L, l, o⟩ u = [] by unfold dDec; rw [if_neg (fun k => by have := k.1; rw [He.out] at this; omega)])
          obtain ⟨cz0, cz1, cz2, cz3⟩ := r1_r.cells
          obtain ⟨fz0, fz1, fz2, fz3⟩ := r1_r.froz
          obtain ⟨U, hU, hrU, hkU⟩ := store_end r1_r Try.neR s A n c l o
          obtain ⟨v0, v1, v2, v3⟩ := hrU.cells
          have HU := Lib.hid hU
          clear hU
          have H := Lib.hid (show BPost w 0 (sDec ⟨s, L, l, o⟩ u) (dDec ⟨s, L, l, o⟩ u) (eDec ⟨s, L, l, o⟩ u) (.returned (.tuple #[.agg #[.int .i64 s, .slice A n c, .bool l, .int .i64 o], .slice none 0 0, .int .i64 13])) U by
            rw [He.out, Hs.out, HD.out]
            exact ⟨A, n, c, none, 0, 0, rfl, hkU.dr _ _ _ _ r1_d, RR.nil _ _ _, hkU.low _ _ l1 (by omega), Fr.zero _ _⟩)
          clear hkU hrU
          go_wp2_with fail
          rw [HU.out]
          exact bodyPost_ret (v := .tuple #[.agg #[.int .i64 s, .slice A n c, .bool l, .int .i64 o], .slice none 0 0, .int .i64 13]) (by simp [results, Try.results91, go_sem, v0, v1, v2, v3]) rfl H.out
    · have hu1a : (u == 1) = false := by simp [hu1]
      have hu1b : (u != 1) = true := by simp [hu1]
      have Hu1 := Lib.hid hu1
      clear hu1
      by_cases hu2 : u = 2
      · have hu2b : (u != 2) = false := by simp [hu2]
        have Hu2 := Lib.hid hu2
        clear hu2
        have Hn2 := Lib.hid (show ¬ (okP ⟨s, L, l, o⟩ = false ∨ deB u = false) from fun k => k.elim (fun k => by rw [Hok.out] at k; cases k) (fun k => by rw [Hu2.out] at k; cases k))
        by_cases h3 : s = 3
        · have h3a : (s == 3) = true := by simp [h3]
          have H3 := Lib.hid h3
          clear h3
          by_cases huo : o = u
          · have huo1 : (o == u) = true := by simp [huo]
            have Huo := Lib.hid huo
            clear huo
            have He := Lib.hid (show eDec ⟨s, L, l, o⟩ u = 0 by unfold eDec; rw [if_neg Hn2.out, if_pos ⟨H3.out, Huo.out⟩])
            have Hs := Lib.hid (show sDec ⟨s, L, l, o⟩ u = ⟨s, L, l, o⟩ by unfold sDec; rw [if_pos He.out, ← Huo.out, ← H3.out])
            have HD := Lib.hid (show dDec ⟨s, L, l, o⟩ u = [] by unfold dDec; rw [if_neg (fun k => k.2 H3.out)])
            obtain ⟨cz0, cz1, cz2, cz3⟩ := r1_r.cells
            obtain ⟨fz0, fz1, fz2, fz3⟩ := r1_r.froz
            obtain ⟨U, hU, hrU, hkU⟩ := store_end r1_r Try.neR s A n c l o
            obtain ⟨v0, v1, v2, v3⟩ := hrU.cells
            have HU := Lib.hid hU
            clear hU
            have H := Lib.hid (show BPost w 0 (sDec ⟨s, L, l, o⟩ u) (dDec ⟨s, L, l, o⟩ u) (eDec ⟨s, L, l, o⟩ u) (.returned (.tuple #[.agg #[.int .i64 s, .slice A n c, .bool l, .int .i64 o], .slice none 0 0, .int .i64 0])) U by
              rw [He.out, Hs.out, HD.out]
              exact ⟨A, n, c, none, 0, 0, rfl, hkU.dr _ _ _ _ r1_d, RR.nil _ _ _, hkU.low _ _ l1 (by omega), Fr.zero _ _⟩)
            clear hkU hrU
            go_wp2_with fail
            rw [HU.out]
            exact bodyPost_ret (v := .tuple #[.agg #[.int .i64 s, .slice A n c, .bool l, .int .i64 o], .slice none 0 0, .int .i64 0]) (by simp [results, Try.results91, go_sem, v0, v1, v2, v3]) rfl H.out
          · have huo1 : (o == u) = false := by simp [huo]
            have Huo := Lib.hid huo
            clear huo
            have He := Lib.hid (show eDec ⟨s, L, l, o⟩ u = 13 by unfold eDec; rw [if_neg Hn2.out, if_neg (fun k => Huo.out k.2), if_pos (.inl H3.out)])
            have Hs := Lib.hid (show sDec ⟨s, L, l, o⟩ u = ⟨s, L, l, o⟩ by unfold sDec; rw [if_neg (by rw [He.out]; omega)])
            have HD := Lib.hid (show dDec ⟨s, L, l, o⟩ u = [] by unfold dDec; rw [if_neg (fun k => by have := k.1; rw [He.out] at this; omega)])
            obtain ⟨cz0, cz1, cz2, cz3⟩ := r1_r.cells
            obtain ⟨fz0, fz1, fz2, fz3⟩ := r1_r.froz
            obtain ⟨U, hU, hrU, hkU⟩ := store_end r1_r Try.neR s A n c l o
            obtain ⟨v0, v1, v2, v3⟩ := hrU.cells
            have HU := Lib.hid hU
            clear hU
            have H := Lib.hid (show BPost w 0 (sDec ⟨s, L, l, o⟩ u) (dDec ⟨s, L, l, o⟩ u) (eDec ⟨s, L, l, o⟩ u) (.returned (.tuple #[.agg #[.int .i64 s, .slice A n c, .bool l, .int .i64 o], .slice none 0 0, .int .i64 13])) U by
              rw [He.out, Hs.out, HD.out]
              exact ⟨A, n, c, none, 0, 0, rfl, hkU.dr _ _ _ _ r1_d, RR.nil _ _ _, hkU.low _ _ l1 (by omega), Fr.zero _ _⟩)
            clear hkU hrU
            go_wp2_with fail
            rw [HU.out]
            exact bodyPost_ret (v := .tuple #[.agg #[.int .i64 s, .slice A n c, .bool l, .int .i64 o], .slice none 0 0, .int .i64 13]) (by simp [results, Try.results91, go_sem, v0, v1, v2, v3]) rfl H.out
        · have h3a : (s == 3) = false := by simp [h3]
          have H3 := Lib.hid h3
          clear h3
          have He := Lib.hid (show eDec ⟨s, L, l, o⟩ u = 0 by unfold eDec; rw [if_neg Hn2.out, if_neg (fun k => H3.out k.1), if_neg (fun k => k.elim H3.out (fun k => Hu1.out k.1))])
          have Hs := Lib.hid (show sDec ⟨s, L, l, o⟩ u = ⟨3, L, l, u⟩ by unfold sDec; rw [if_pos He.out])
          cases hl : l with
          | true =>
            subst hl
            have HD := Lib.hid (show dDec ⟨s, L, true, o⟩ u = opp L by unfold dDec; rw [if_pos ⟨He.out, H3.out⟩]; simp [Hu1.out])
            have hu2a : (u == 2) = true := by simp [Hu2.out]
            obtain ⟨fp0, fp1, fp2, fp3⟩ := r1_p.froz
            obtain ⟨X5, hX5⟩ : ∃ V, w1.setCell ⟨w.heap.size, 0, none⟩ (.int .i64 3) = V := ⟨_, rfl⟩
            have pX5 : PB X5 w.heap.size 95 3 A n c true o := by rw [← hX5]; exact r1_p.put0 _
            have kX5 : Kept w.heap.size w1 X5 := by rw [← hX5]; exact Kept.of r1_p Try.neR _ _
            have rX5 : PB X5 (w.heap.size + 1) 95 0 none 0 0 false 0 := kX5.cb _ _ _ (by omega) r1_r
            have dX5 := kX5.dr _ _ _ _ r1_d
            have lX5 := kX5.low _ _ l1 (by omega)
            have HX5 := Lib.hid hX5
            clear hX5 kX5
            go_upto_region 9 with fail
            rw [HX5.out]
            clear fp0 fp1 fp2 fp3 r1_p r1_r r1_d l1
            clear cp0 cp1 cp2 cp3
            obtain ⟨cp0, cp1, cp2, cp3⟩ := pX5.cells
            obtain ⟨fp0, fp1, fp2, fp3⟩ := pX5.froz
            obtain ⟨X6, hX6⟩ : ∃ V, X5.setCell ⟨w.heap.size, 3, none⟩ (.int .i64 u) = V := ⟨_, rfl⟩
            have pX6 : PB X6 w.heap.size 95 3 A n c true u := by rw [← hX6]; exact pX5.put3 _
            have kX6 : Kept w.heap.size X5 X6 := by rw [← hX6]; exact Kept.of pX5 Try.neR _ _
            have rX6 : PB X6 (w.heap.size + 1) 95 0 none 0 0 false 0 := kX6.cb _ _ _ (by omega) rX5
            have dX6 := kX6.dr _ _ _ _ dX5
            have lX6 := kX6.low _ _ lX5 (by omega)
            have HX6 := Lib.hid hX6
            clear hX6 kX6
            go_upto_region 10 with fail
            rw [HX6.out]
            clear fp0 fp1 fp2 fp3 pX5 rX5 dX5 lX5
            clear cp0 cp1 cp2 cp3
            obtain ⟨cp0, cp1, cp2, cp3⟩ := pX6.cells
            have Hc := Lib.hid (pX6).cells
            have hc := opposites_c A n c L X6.drew dX6.drew hn
            go_upto_region 13 with fail
            go_region_held3 (fun W' => W'.cell? ⟨w.heap.size, 0, none⟩ = some (.int .i64 3) ∧ W'.cell? ⟨w.heap.size, 1, none⟩ = some (.slice A n c) ∧ W'.cell? ⟨w.heap.size, 2, none⟩ = some (.bool true) ∧ W'.cell? ⟨w.heap.size, 3, none⟩ = some (.int .i64 u)) (first | exact Hc.out | exact y1.out | exact y2.out) (first
              | (go_at_call 107; refine hc.mono ?_; rintro e w5 ⟨A5, c5, rfl, hos⟩; have b5 := hos.low; have hd5 := RPost.of_os hos; have p5 := (pX6).drew.on b5; have r5 := (rX6).drew.on b5; have y1 := Lib.hid p5.cells; obtain ⟨z0, z1, z2, z3⟩ := r5.cells; obtain ⟨u0, u1, u2, u3⟩ := r5.froz; obtain ⟨U, hU, hrU, hkU⟩ := store_end r5 Try.neR 3 A n c true u; have y2 := Lib.hid ((show PB U _ _ _ _ _ _ _ _ from hkU.cb _ _ _ (by omega) p5).cells)))
            obtain ⟨v0, v1, v2, v3⟩ := hrU.cells
            obtain ⟨A8, n8, c8, e8, hs8, _⟩ := hd5
            cases e8
            have H := Lib.hid (show BPost w 0 (sDec ⟨s, L, true, o⟩ u) (dDec ⟨s, L, true, o⟩ u) (eDec ⟨s, L, true, o⟩ u) (.returned (.tuple #[.agg #[.int .i64 3, .slice A n c, .bool true, .int .i64 u], .slice A5 n c5, .int .i64 0])) U by
              rw [He.out, Hs.out, HD.out]
              exact ⟨A, n, c, A5, n, c5, rfl, hkU.dr _ _ _ _ (dX6.drew.on b5), hkU.dr _ _ _ _ hs8.rr, hkU.low _ _ (bel2 lX6 (below_drew (W := X6) b5)) (by omega), Fr.zero _ _⟩)
            have HU := Lib.hid hU
            clear hU y1 y2 hkU hrU p5 r5 hs8 hos b5
            try rw [HU.out]
            go_wp2_with fail
            exact bodyPost_ret (v := .tuple #[.agg #[.int .i64 3, .slice A n c, .bool true, .int .i64 u], .slice A5 n c5, .int .i64 0]) (by simp [results, Try.results91, go_sem, v0, v1, v2, v3]) rfl H.out
          | false =>
            subst hl
            have HD := Lib.hid (show dDec ⟨s, L, false, o⟩ u = [] by unfold dDec; rw [if_pos ⟨He.out, H3.out⟩]; simp [Hu1.out])
            have hu2a : (u == 2) = true := by simp [Hu2.out]
            obtain ⟨fp0, fp1, fp2, fp3⟩ := r1_p.froz
            obtain ⟨X7, hX7⟩ : ∃ V, w1.setCell ⟨w.heap.size, 0, none⟩ (.int .i64 3) = V := ⟨_, rfl⟩
            have pX7 : PB X7 w.heap.size 95 3 A n c false o := by rw [← hX7]; exact r1_p.put0 _
            have kX7 : Kept w.heap.size w1 X7 := by rw [← hX7]; exact Kept.of r1_p Try.neR _ _
            have rX7 : PB X7 (w.heap.size + 1) 95 0 none 0 0 false 0 := kX7.cb _ _ _ (by omega) r1_r
            have dX7 := kX7.dr _ _ _ _ r1_d
            have lX7 := kX7.low _ _ l1 (by omega)
            have HX7 := Lib.hid hX7
            clear hX7 kX7
            go_upto_region 9 with fail
            rw [HX7.out]
            clear fp0 fp1 fp2 fp3 r1_p r1_r r1_d l1
            clear cp0 cp1 cp2 cp3
            obtain ⟨cp0, cp1, cp2, cp3⟩ := pX7.cells
            obtain ⟨fp0, fp1, fp2, fp3⟩ := pX7.froz
            obtain ⟨X8, hX8⟩ : ∃ V, X7.setCell ⟨w.heap.size, 3, none⟩ (.int .i64 u) = V := ⟨_, rfl⟩
            have pX8 : PB X8 w.heap.size 95 3 A n c false u := by rw [← hX8]; exact pX7.put3 _
            have kX8 : Kept w.heap.size X7 X8 := by rw [← hX8]; exact Kept.of pX7 Try.neR _ _
            have rX8 : PB X8 (w.heap.size + 1) 95 0 none 0 0 false 0 := kX8.cb _ _ _ (by omega) rX7
            have dX8 := kX8.dr _ _ _ _ dX7
            have lX8 := kX8.low _ _ lX7 (by omega)
            have HX8 := Lib.hid hX8
            clear hX8 kX8
            go_upto_region 10 with fail
            rw [HX8.out]
            clear fp0 fp1 fp2 fp3 pX7 rX7 dX7 lX7
            clear cp0 cp1 cp2 cp3
            obtain ⟨cp0, cp1, cp2, cp3⟩ := pX8.cells
            obtain ⟨cz0, cz1, cz2, cz3⟩ := rX8.cells
            obtain ⟨fz0, fz1, fz2, fz3⟩ := rX8.froz
            obtain ⟨U, hU, hrU, hkU⟩ := store_end rX8 Try.neR 3 A n c false u
            obtain ⟨v0, v1, v2, v3⟩ := hrU.cells
            have HU := Lib.hid hU
            clear hU
            have H := Lib.hid (show BPost w 0 (sDec ⟨s, L, false, o⟩ u) (dDec ⟨s, L, false, o⟩ u) (eDec ⟨s, L, false, o⟩ u) (.returned (.tuple #[.agg #[.int .i64 3, .slice A n c, .bool false, .int .i64 u], .slice none 0 0, .int .i64 0])) U by
              rw [He.out, Hs.out, HD.out]
              exact ⟨A, n, c, none, 0, 0, rfl, hkU.dr _ _ _ _ dX8, RR.nil _ _ _, hkU.low _ _ lX8 (by omega), Fr.zero _ _⟩)
            clear hkU hrU
            go_wp2_with fail
            rw [HU.out]
            exact bodyPost_ret (v := .tuple #[.agg #[.int .i64 3, .slice A n c, .bool false, .int .i64 u], .slice none 0 0, .int .i64 0]) (by simp [results, Try.results91, go_sem, v0, v1, v2, v3]) rfl H.out
      · have hu2b : (u != 2) = true := by simp [hu2]
        have Hu2 := Lib.hid hu2
        clear hu2
        have He := Lib.hid (show eDec ⟨s, L, l, o⟩ u = 2 by unfold eDec; rw [if_pos (.inr (by unfold deB; simp [Hu1.out, Hu2.out]))])
        have Hs := Lib.hid (show sDec ⟨s, L, l, o⟩ u = ⟨s, L, l, o⟩ by unfold sDec; rw [if_neg (by rw [He.out]; omega)])
        have HD := Lib.hid (show dDec ⟨s, L, l, o⟩ u = [] by unfold dDec; rw [if_neg (fun k => by have := k.1; rw [He.out] at this; omega)])
        obtain ⟨cz0, cz1, cz2, cz3⟩ := r1_r.cells
        obtain ⟨fz0, fz1, fz2, fz3⟩ := r1_r.froz
        obtain ⟨U, hU, hrU, hkU⟩ := store_end r1_r Try.neR s A n c l o
        obtain ⟨v0, v1, v2, v3⟩ := hrU.cells
        have HU := Lib.hid hU
        clear hU
        have H := Lib.hid (show BPost w 0 (sDec ⟨s, L, l, o⟩ u) (dDec ⟨s, L, l, o⟩ u) (eDec ⟨s, L, l, o⟩ u) (.returned (.tuple #[.agg #[.int .i64 s, .slice A n c, .bool l, .int .i64 o], .slice none 0 0, .int .i64 2])) U by
          rw [He.out, Hs.out, HD.out]
          exact ⟨A, n, c, none, 0, 0, rfl, hkU.dr _ _ _ _ r1_d, RR.nil _ _ _, hkU.low _ _ l1 (by omega), Fr.zero _ _⟩)
        clear hkU hrU
        go_wp2_with fail
        rw [HU.out]
        exact bodyPost_ret (v := .tuple #[.agg #[.int .i64 s, .slice A n c, .bool l, .int .i64 o], .slice none 0 0, .int .i64 2]) (by simp [results, Try.results91, go_sem, v0, v1, v2, v3]) rfl H.out

end Go.Proofs.Ytealcccjnmfkcaa
