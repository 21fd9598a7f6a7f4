/-
  The walk of the law RingTypes: it returns true and leaves all memory that was there. Conditions: the slice reads as a row of acts, the room is a byte.
-/
import Derived.Test.YtbdejcmlcjljkaaTypA
import Derived.Test.YtbdejcmlcjljkaaStrA
import Derived.Test.YtbdejcmlcjljkaaRange0
import Derived.Test.YtbdejcmlcjljkaaActsWalk
namespace Go.Proofs.Ytbdejcmlcjljkaa
open Go.RowKit Go.Shelf
attribute [local go_sem] Oper.semAt_some

/-- The law's end: the two books are shut, and the result is read. -/
theorem types_leave (w : World) (s D1 D2 : Nat) (W : World) (tmps : Array Value) (cr : CB W s 4 #[.bool true]) (k1 : W.heap[D1]? = some (.deferred (some []))) (k2 : W.heap[D2]? = some (.deferred (some []))) (hne : D1 < D2) (hs1 : s ≤ D1) (low : Below s w W)
    (ht : tmps[4]? = some (.pointer (some ⟨s, 0, none⟩))) :
    LeavesInM Fence.wide 0 Try.prog Try.f6 tmps (fun e w' => e = .returned (.bool true) ∧ Below s w w') [{ target := .collected D2, args := #[] }, { target := .collected D1, args := #[] }] .returning W := by
  have k3 : (W.putObj D2 (.deferred none)).heap[D1]? = some (.deferred (some [])) := (World.putObj_heap_other (by omega)).trans k1
  refine ⟨by simp, .inl ⟨_, _, rfl, run_takeDeferred k2, ?_⟩⟩
  refine ⟨by simp, .inl ⟨_, _, rfl, run_takeDeferred k3, ?_⟩⟩
  have hc := ((cr.putBook (.inr ⟨_, k2⟩) (.deferred none)).putBook (.inr ⟨_, k3⟩) (.deferred none)).cell 0
  simp only [List.getElem?_toArray, List.getElem?_cons_zero] at hc
  refine ⟨.bool true, ?_, rfl, below_putObj (below_putObj low (by omega) _) hs1 _⟩
  simp [results, Try.results6, go_sem, hc, ht]

/-- The pairs that stand beside the numbers. -/
def twins (ys : List Int) : List (Int × Int) := ys.map fun y => (y, wrap64 (-y))
theorem twins_length (ys : List Int) : (twins ys).length = ys.length := by simp [twins]
theorem twins_snoc (ys : List Int) (x : Int) : twins ys ++ [(x, wrap64 (-x))] = twins (ys ++ [x]) := by simp [twins]
theorem twins_cut (ys : List Int) (k : Nat) : (twins ys).take k ++ (twins ys).drop (k + 1) = twins (ys.take k ++ ys.drop (k + 1)) := by simp [twins, List.map_take, List.map_drop]

theorem lenT (w : World) (s D1 D2 ba bb : Nat) (room : Int) (W : World) (ys : List Int) (h : Ty w s D1 D2 ba bb room ys (twins ys) W) (hr : 0 < room) :
    Calls Try.prog 32 #[.pointer (some ⟨bb, 0, none⟩)] W fun e w' => e = .returned (.int .i64 ys.length) ∧ W = w' := by
  have := lenB w s D1 D2 ba bb room W ys (twins ys) h hr
  rw [twins_length] at this
  exact this

set_option maxRecDepth 100000 in
set_option maxHeartbeats 2000000 in
theorem types_walk (a : Option Addr) (cap : Nat) (acts : List ActV) (room : Int) (hr0 : 0 ≤ room) (hr1 : room ≤ 255) (w : World) (h0 : CameA w a acts) (hm0 : acts.length ≤ maxLen) :
    Calls Try.prog 6 #[.slice a acts.length cap, .int .u8 room] w fun e w' => e = .returned (.bool true) ∧ Below w.heap.size w w' := by
  unfold maxLen at hm0
  have kr := CB.new w 4 #[.bool false]
  have kB : Below w.heap.size w (w.alloc (.cells #[.bool false] 4)) := (Below.refl _ _).alloc (Nat.le_refl _) _
  refine (callsIn_wide (n := 0)).1 ?_
  refine callsIn_of_wp_marks Try.func6 rfl trivial ?_ rfl
  simp only [Try.ntmps6, List.size_toArray, List.length_cons, List.length_nil, Nat.reduceAdd, Nat.reduceSub, Array.replicate_succ, Array.replicate_zero, List.push_toArray, List.append_toArray, List.nil_append, List.cons_append]
  gi_wp2_with fail
  refine ⟨trivial, rfl, (callsIn_wide.2 (alive_any _)).mono ?_⟩
  rintro e w1 ⟨rfl, hb1⟩
  have j1 := kr.same (hb1.block _ kr.lt)
  have jB : Below w.heap.size w w1 := kB.trans (hb1.mono (by simp))
  have jz : w.heap.size + 1 ≤ w1.heap.size := by have := hb1.size; simpa using this
  clear kr kB hb1
  have m0 := CB.new w1 54 #[.int .i64 0, .slice none 0 0]
  obtain ⟨w2, hw2⟩ : ∃ w2, w2 = (w1.alloc (.cells #[.int .i64 0, .slice none 0 0] 54)).alloc (.cells #[.pointer none, .pointer (some ⟨w1.heap.size, 0, none⟩)] 50) := ⟨_, rfl⟩
  have m1 : CB w2 w1.heap.size 54 #[.int .i64 0, .slice none 0 0] := by rw [hw2]; exact m0.alloc _
  have m2 : CB w2 (w1.heap.size + 1) 50 #[.pointer none, .pointer (some ⟨w1.heap.size, 0, none⟩)] := by
    rw [hw2]
    have := CB.new (w1.alloc (.cells #[.int .i64 0, .slice none 0 0] 54)) 50 #[.pointer none, .pointer (some ⟨w1.heap.size, 0, none⟩)]
    simpa using this
  have m3 : CB w2 w.heap.size 4 #[.bool false] := by rw [hw2]; exact (j1.alloc _).alloc _
  have mB : Below w.heap.size w w2 := by rw [hw2]; exact (jB.alloc (by omega) _).alloc (by simp; omega) _
  have mz : w1.heap.size + 2 = w2.heap.size := by rw [hw2]; simp
  have Hw2 := Lib.hid hw2
  have Hmz := Lib.hid mz
  clear hw2 mz j1 jB m0
  gi_wp2_with fail
  refine wpIn_loop_rounds 3 ?_
  rw [roundsIn_succ]
  rw [← Hw2.out]
  have szw2 : w1.heap.size + 2 ≤ w2.heap.size := by have := Hmz.out; omega
  rename CB w2 w1.heap.size 54 #[.int .i64 0, .slice none 0 0] => m1w2
  rename CB w2 (w1.heap.size + 1) 50 #[.pointer none, .pointer (some ⟨w1.heap.size, 0, none⟩)] => m2w2
  rename CB w2 w.heap.size 4 #[.bool false] => m3w2
  rename Below w.heap.size w w2 => mBw2
  clear Hmz Hw2
  have nz1 : NZ w2 none := .inl rfl
  have f1 := m2w2.cell 0
  simp only [List.getElem?_toArray, List.getElem?_cons_zero] at f1
  gi_wp2_with fail
  refine ⟨trivial, rfl, (callsIn_wide.2 (popS _ w2 nz1)).mono ?_⟩
  rintro e wq ⟨rfl, rfl⟩
  gi_wp2_with fail
  refine ⟨trivial, rfl, (callsIn_wide.2 (atS _ 0 w2 nz1)).mono ?_⟩
  rintro e wq ⟨rfl, rfl⟩
  gi_wp2_with fail
  refine ⟨trivial, rfl, (callsIn_wide.2 (allS _ w2 nz1)).mono ?_⟩
  rintro e v1 ⟨rfl, hbv1⟩
  gi_wp2_with fail
  refine range_none (gf := 38) (fb := #[.slice none 0 0]) rfl (enters_of Try.func38 (by kernel_rfl) rfl) eachS_iter ?_
  intro w3 hbx1 hD1
  have hbb1 : Below w2.heap.size w2 w3 := hbv1.trans (hbx1.mono hbv1.size)
  have m1w3 := m1w2.same (hbb1.block _ m1w2.lt)
  have m2w3 := m2w2.same (hbb1.block _ m2w2.lt)
  have m3w3 := m3w2.same (hbb1.block _ m3w2.lt)
  have mBw3 : Below w.heap.size w w3 := mBw2.trans (hbb1.mono (by omega))
  have szw3 : w1.heap.size + 2 ≤ w3.heap.size := Nat.le_trans szw2 hbb1.size
  have szv1 : w1.heap.size + 2 ≤ v1.heap.size := Nat.le_trans szw2 hbv1.size
  generalize hdv1 : v1.heap.size = D1 at *
  have nzz1 : NZ w3 none := .inl rfl
  clear hbv1 hbx1 hbb1 nz1 f1 hdv1 m1w2 m2w2 m3w2 mBw2 szw2
  gi_wp2_with fail
  refine ⟨trivial, rfl, (callsIn_wide.2 (pushS _ _ w3 nzz1)).mono ?_⟩
  rintro e wq ⟨rfl, rfl⟩
  gi_wp2_with fail
  refine ⟨trivial, rfl, (callsIn_wide.2 (dropS _ 0 w3 nzz1)).mono ?_⟩
  rintro e wq ⟨rfl, rfl⟩
  gi_wp2_with fail
  refine ⟨trivial, rfl, (callsIn_wide.2 (lenS _ w3 nzz1)).mono ?_⟩
  rintro e wq ⟨rfl, rfl⟩
  clear nzz1
  gi_wp2_with fail
  rw [roundsIn_succ]
  have nz2 : NZ w3 (some ⟨w1.heap.size, 0, none⟩) := .inr ⟨_, rfl, m1w3⟩
  have f2 := m2w3.cell 1
  simp only [List.getElem?_toArray, List.getElem?_cons_succ, List.getElem?_cons_zero] at f2
  gi_wp2_with fail
  refine ⟨trivial, rfl, (callsIn_wide.2 (popS _ w3 nz2)).mono ?_⟩
  rintro e wq ⟨rfl, rfl⟩
  gi_wp2_with fail
  refine ⟨trivial, rfl, (callsIn_wide.2 (atS _ 0 w3 nz2)).mono ?_⟩
  rintro e wq ⟨rfl, rfl⟩
  gi_wp2_with fail
  refine ⟨trivial, rfl, (callsIn_wide.2 (allS _ w3 nz2)).mono ?_⟩
  rintro e v2 ⟨rfl, hbv2⟩
  gi_wp2_with fail
  refine range_none (gf := 38) (fb := #[.slice none 0 0]) rfl (enters_of Try.func38 (by kernel_rfl) rfl) eachS_iter ?_
  intro w4 hbx2 hD2
  have hbb2 : Below w3.heap.size w3 w4 := hbv2.trans (hbx2.mono hbv2.size)
  have m1w4 := m1w3.same (hbb2.block _ m1w3.lt)
  have m2w4 := m2w3.same (hbb2.block _ m2w3.lt)
  have m3w4 := m3w3.same (hbb2.block _ m3w3.lt)
  have mBw4 : Below w.heap.size w w4 := mBw3.trans (hbb2.mono (by omega))
  have szw4 : w1.heap.size + 2 ≤ w4.heap.size := Nat.le_trans szw3 hbb2.size
  have szv2 : w1.heap.size + 2 ≤ v2.heap.size := Nat.le_trans szw3 hbv2.size
  have hDD : D1 < v2.heap.size := Nat.lt_of_lt_of_le (Array.getElem?_eq_some_iff.1 hD1).1 hbv2.size
  have hD1' := (hbb2.block _ (Array.getElem?_eq_some_iff.1 hD1).1).trans hD1
  generalize hdv2 : v2.heap.size = D2 at *
  have nzz2 : NZ w4 (some ⟨w1.heap.size, 0, none⟩) := .inr ⟨_, rfl, m1w4⟩
  clear hbv2 hbx2 hbb2 nz2 f2 hdv2 m1w3 m2w3 m3w3 mBw3 szw3 hD1
  gi_wp2_with fail
  refine ⟨trivial, rfl, (callsIn_wide.2 (pushS _ _ w4 nzz2)).mono ?_⟩
  rintro e wq ⟨rfl, rfl⟩
  gi_wp2_with fail
  refine ⟨trivial, rfl, (callsIn_wide.2 (dropS _ 0 w4 nzz2)).mono ?_⟩
  rintro e wq ⟨rfl, rfl⟩
  gi_wp2_with fail
  refine ⟨trivial, rfl, (callsIn_wide.2 (lenS _ w4 nzz2)).mono ?_⟩
  rintro e wq ⟨rfl, rfl⟩
  clear nzz2
  gi_wp2_with fail
  rw [roundsIn_succ]
  have hs1 : w.heap.size ≤ D1 := by omega
  by_cases hz : room = 0
  · subst hz
    gi_wp2_with fail
    refine ⟨trivial, rfl, (callsIn_wide.2 (new_no 0 w4 (by omega))).mono ?_⟩
    rintro e wq ⟨rfl, rfl⟩
    gi_wp2_with fail
    refine ⟨trivial, rfl, (callsIn_wide.2 (new2_no 0 w4 (by omega))).mono ?_⟩
    rintro e wq ⟨rfl, rfl⟩
    have c3 := m3w4.cell 0
    have f3 := m3w4.frozen 0
    simp only [List.getElem?_toArray, List.getElem?_cons_zero] at c3
    gi_wp2_with fail
    have hbk1 : Book w4 D1 := .inr ⟨_, hD1'⟩
    have hbk2 : Book w4 D2 := .inr ⟨_, hD2⟩
    exact types_leave w w.heap.size D1 D2 _ _ (m3w4.put 0 (.bool true)) ((Below.heap_setCell _ _ _ _ (m3w4.noBook hbk1).symm).trans hD1') ((Below.heap_setCell _ _ _ _ (m3w4.noBook hbk2).symm).trans hD2) hDD hs1 (mBw4.setCell (p := ⟨w.heap.size, 0, none⟩) (Nat.le_refl _) _) rfl
  have hz1 : 1 ≤ room := by omega
  have hrp : 0 < room := by omega
  gi_wp2_with fail
  refine ⟨trivial, rfl, (callsIn_wide.2 (new_yes room w4 hz1 (by omega))).mono ?_⟩
  rintro e w5 ⟨rfl, hra, hw5⟩
  have Hw5 := Lib.hid hw5
  clear hw5
  gi_wp2_with fail
  refine ⟨trivial, rfl, (callsIn_wide.2 (new2 room w5 hz1 (by omega))).mono ?_⟩
  rintro e w6 ⟨rfl, hrb, hw6⟩
  have hB5 : Below w4.heap.size w4 w5 := by rw [Hw5.out]; exact (Below.refl _ _).alloc (Nat.le_refl _) _
  have hB6 : Below w5.heap.size w5 w6 := by rw [hw6]; exact (Below.refl _ _).alloc (Nat.le_refl _) _
  have hB46 : Below w4.heap.size w4 w6 := hB5.trans (hB6.mono hB5.size)
  have hTy : Ty w w.heap.size D1 D2 w4.heap.size w5.heap.size room [] [] w6 :=
    ⟨m3w4.same (hB46.block _ m3w4.lt), (hB46.block _ (Array.getElem?_eq_some_iff.1 hD1').1).trans hD1', (hB46.block _ (Array.getElem?_eq_some_iff.1 hD2).1).trans hD2, mBw4.trans (hB46.mono (by omega)), by omega, by have := hB5.size; omega, by have := hB46.size; omega,
      ⟨none, hra.below hB6 hra.lt.1 hra.lt.2, (fun _ hg => by cases hg)⟩, none, hrb, (fun _ hg => by cases hg)⟩
  clear Hw5 hw6 hra hrb hB5 hB6 hB46 m1w4 m2w4 m3w4 mBw4 hD1' hD2
  generalize w4.heap.size = ba at *
  generalize w5.heap.size = bb at *
  gi_wp2_with fail
  gi_loopw [13] (fun i wr => ∃ (k : Nat) (ys : List Int), k ≤ acts.length ∧ k ≤ 100 ∧ i = .int .i64 k ∧ (ys.length : Int) ≤ room ∧ Ty w w.heap.size D1 D2 ba bb room ys (twins ys) wr) (fun i _ => acts.length - (intOf i).toNat)
  case atStart => exact ⟨0, [], by omega, by omega, rfl, by simp; omega, hTy⟩
  case round =>
    clear hTy
    obtain ⟨k, ys, hk, hk100, rfl, hly, hT⟩ := hrel
    have hl4 : ys.length ≤ 10000 := by omega
    by_cases hlt : k < acts.length
    · by_cases hk1 : k < 100
      · obtain ⟨ba', oa, kd, x, i, hkd0, hkd1, rfl, e1, e2, e3⟩ := h0.at_ hT.low hlt
        have hlt' : (k : Int) < (acts.length : Int) := by omega
        have hk1' : (k : Int) < 100 := by omega
        obtain ⟨wA, hwA⟩ : ∃ wA, wA = wr.alloc (.cells #[.int .u8 kd, .int .i64 x, .int .i64 i] 29) := ⟨_, rfl⟩
        have hTA : Ty w w.heap.size D1 D2 ba bb room ys (twins ys) wA := by rw [hwA]; exact hT.later ((Below.refl _ _).alloc (Nat.le_refl _) _)
        have hcA : CB wA wr.heap.size 29 #[.int .u8 kd, .int .i64 x, .int .i64 i] := by rw [hwA]; exact CB.new _ _ _
        have HwA := Lib.hid hwA
        clear hwA hT h0
        by_cases c3 : kd % 6 = 3
        · have t3 : ((kd % 6 : Int) == 3) = true := by rw [beq_iff_eq]; exact c3
          clear c3
          cases ys with
          | nil =>
            gi_wp2_with fail
            rw [← HwA.out]
            refine ⟨trivial, rfl, (callsIn_wide.2 (popA_no w _ D1 D2 ba bb room wA _ hTA hrp)).mono ?_⟩
            rintro e wB ⟨rfl, hTB, hkB⟩
            gi_wp2_with fail
            refine ⟨trivial, rfl, (callsIn_wide.2 (popB_no w _ D1 D2 ba bb room wB [] hTB hrp)).mono ?_⟩
            rintro e wC ⟨rfl, hTC, hkC⟩
            have hTD := hTC.later (W' := wC.alloc (.cells #[.int .i64 0, .int .i64 0] 65)) ((Below.refl _ _).alloc (Nat.le_refl _) _)
            gi_wp2_with fail
            refine ⟨trivial, rfl, (callsIn_wide.2 (lenA w _ D1 D2 ba bb room _ [] _ hTD hrp)).mono ?_⟩
            rintro e wq ⟨rfl, rfl⟩
            gi_wp2_with fail
            refine ⟨trivial, rfl, (callsIn_wide.2 (lenT w _ D1 D2 ba bb room _ [] hTD hrp)).mono ?_⟩
            rintro e wq ⟨rfl, rfl⟩
            gi_wp2_with fail
            go_roundw
            case rel => exact ⟨k + 1, [], by omega, by omega, by go_num, hly, hTD⟩
            case measure => simp [intOf]; omega
          | cons y ys =>
            gi_wp2_with fail
            rw [← HwA.out]
            refine ⟨trivial, rfl, (callsIn_wide.2 (popA w _ D1 D2 ba bb room wA y ys _ hTA hrp)).mono ?_⟩
            rintro e wB ⟨rfl, hTB, hkB⟩
            gi_wp2_with fail
            refine ⟨trivial, rfl, (callsIn_wide.2 (popB w _ D1 D2 ba bb room wB y (wrap64 (-y)) ys (twins ys) hTB hrp)).mono ?_⟩
            rintro e wC ⟨rfl, hTC, hkC⟩
            have hTD := hTC.later (W' := wC.alloc (.cells #[.int .i64 y, .int .i64 (wrap64 (-y))] 65)) ((Below.refl _ _).alloc (Nat.le_refl _) _)
            have hly' : (ys.length : Int) ≤ room := by simp at hly; omega
            gi_wp2_with fail
            refine ⟨trivial, rfl, (callsIn_wide.2 (lenA w _ D1 D2 ba bb room _ ys _ hTD hrp)).mono ?_⟩
            rintro e wq ⟨rfl, rfl⟩
            gi_wp2_with fail
            refine ⟨trivial, rfl, (callsIn_wide.2 (lenT w _ D1 D2 ba bb room _ ys hTD hrp)).mono ?_⟩
            rintro e wq ⟨rfl, rfl⟩
            gi_wp2_with fail
            go_roundw
            case rel => exact ⟨k + 1, ys, by omega, by omega, by go_num, hly', hTD⟩
            case measure => simp [intOf]; omega
        · have t3 : ((kd % 6 : Int) == 3) = false := by rw [beq_eq_false_iff_ne]; exact c3
          clear c3
          have hTd : Ty w w.heap.size D1 D2 ba bb room ys (twins ys) wA.drew := hTA.later (Below.refl _ _).drew
          have hcd : CB wA.drew wr.heap.size 29 #[.int .u8 kd, .int .i64 x, .int .i64 i] := hcA
          have c2A : wA.drew.cell? ⟨wr.heap.size, 2, none⟩ = some (.int .i64 i) := hcA.cell 2
          have c1A : wA.drew.cell? ⟨wr.heap.size, 1, none⟩ = some (.int .i64 x) := hcA.cell 1
          by_cases c4 : kd % 6 = 4
          · have t4 : ((kd % 6 : Int) == 4) = true := by rw [beq_iff_eq]; exact c4
            clear c4
            by_cases hin : i < 0 ∨ (ys.length : Int) ≤ i
            · have hin2 : i < 0 ∨ ((twins ys).length : Int) ≤ i := by rw [twins_length]; exact hin
              gi_wp2_with fail
              rw [← HwA.out]
              refine wpIn_wide.2 ?_
              go_region_held3 (fun W' => W'.cell? ⟨wr.heap.size, 2, none⟩ = some (.int .i64 i)) (first | exact c2A | exact c2B | exact c2C) (first
                | (go_at_call 16; refine (dropA_no w _ D1 D2 ba bb room _ ys _ hTd hrp i hin).mono ?_; rintro e wB ⟨rfl, hTB, hkB⟩; have hcB := hkB.2 _ _ _ hcd (by decide) (by decide) (by decide) (by decide); have c2B := hcB.cell 2; simp only [List.getElem?_toArray, List.getElem?_cons_succ, List.getElem?_cons_zero] at c2B)
                | (go_at_call 30; refine (dropB_no w _ D1 D2 ba bb room _ ys (twins ys) hTB hrp i hin2).mono ?_; rintro e wC ⟨rfl, hTC, hkC⟩; have hcC := hkC.2 _ _ _ hcB (by decide) (by decide) (by decide) (by decide); have c2C := hcC.cell 2; simp only [List.getElem?_toArray, List.getElem?_cons_succ, List.getElem?_cons_zero] at c2C))
              go_wp2
              gi_wp2_with fail
              refine ⟨trivial, rfl, (callsIn_wide.2 (lenA w _ D1 D2 ba bb room _ ys _ hTC hrp)).mono ?_⟩
              rintro e wq ⟨rfl, rfl⟩
              gi_wp2_with fail
              refine ⟨trivial, rfl, (callsIn_wide.2 (lenT w _ D1 D2 ba bb room _ ys hTC hrp)).mono ?_⟩
              rintro e wq ⟨rfl, rfl⟩
              gi_wp2_with fail
              go_roundw
              case rel => exact ⟨k + 1, ys, by omega, by omega, by go_num, hly, hTC⟩
              case measure => simp [intOf]; omega
            · obtain ⟨q, rfl⟩ : ∃ q : Nat, i = q := ⟨i.toNat, by omega⟩
              have hq : q < ys.length := by omega
              have hq2 : q < (twins ys).length := by rw [twins_length]; exact hq
              have hl5 : (twins ys).length ≤ 10000 := by rw [twins_length]; exact hl4
              have hl6 : ((ys.take q ++ ys.drop (q + 1)).length : Int) ≤ room := by rw [List.length_append, List.length_take, List.length_drop]; omega
              gi_wp2_with fail
              rw [← HwA.out]
              refine wpIn_wide.2 ?_
              go_region_held3 (fun W' => W'.cell? ⟨wr.heap.size, 2, none⟩ = some (.int .i64 q)) (first | exact c2A | exact c2B | exact c2C) (first
                | (go_at_call 16; refine (dropA w _ D1 D2 ba bb room _ ys _ hTd hrp q hq hl4).mono ?_; rintro e wB ⟨rfl, hTB, hkB⟩; have hcB := hkB.2 _ _ _ hcd (by decide) (by decide) (by decide) (by decide); have c2B := hcB.cell 2; simp only [List.getElem?_toArray, List.getElem?_cons_succ, List.getElem?_cons_zero] at c2B)
                | (go_at_call 30; refine (dropB w _ D1 D2 ba bb room _ _ (twins ys) hTB hrp q hq2 hl5).mono ?_; rintro e wC ⟨rfl, hTC, hkC⟩; have hcC := hkC.2 _ _ _ hcB (by decide) (by decide) (by decide) (by decide); have c2C := hcC.cell 2; simp only [List.getElem?_toArray, List.getElem?_cons_succ, List.getElem?_cons_zero] at c2C))
              rw [twins_cut] at hTC
              generalize ys.take q ++ ys.drop (q + 1) = us at *
              go_wp2
              gi_wp2_with fail
              refine ⟨trivial, rfl, (callsIn_wide.2 (lenA w _ D1 D2 ba bb room _ us _ hTC hrp)).mono ?_⟩
              rintro e wq ⟨rfl, rfl⟩
              gi_wp2_with fail
              refine ⟨trivial, rfl, (callsIn_wide.2 (lenT w _ D1 D2 ba bb room _ us hTC hrp)).mono ?_⟩
              rintro e wq ⟨rfl, rfl⟩
              gi_wp2_with fail
              go_roundw
              case rel => exact ⟨k + 1, us, by omega, by omega, by go_num, hl6, hTC⟩
              case measure => simp [intOf]; omega
          · have t4 : ((kd % 6 : Int) == 4) = false := by rw [beq_eq_false_iff_ne]; exact c4
            clear c4
            by_cases c5 : kd % 6 = 5
            · have t5 : ((kd % 6 : Int) == 5) = true := by rw [beq_iff_eq]; exact c5
              clear c5
              by_cases hin : i < 0 ∨ (ys.length : Int) ≤ i
              · have hin2 : i < 0 ∨ ((twins ys).length : Int) ≤ i := by rw [twins_length]; exact hin
                gi_wp2_with fail
                rw [← HwA.out]
                refine wpIn_wide.2 ?_
                go_region_held3 (fun W' => W'.cell? ⟨wr.heap.size, 2, none⟩ = some (.int .i64 i)) (first | exact c2A | exact c2B | exact c2C) (first
                  | (go_at_call 16; refine (dropA_no w _ D1 D2 ba bb room _ ys _ hTd hrp i hin).mono ?_; rintro e wB ⟨rfl, hTB, hkB⟩; have hcB := hkB.2 _ _ _ hcd (by decide) (by decide) (by decide) (by decide); have c2B := hcB.cell 2; simp only [List.getElem?_toArray, List.getElem?_cons_succ, List.getElem?_cons_zero] at c2B)
                  | (go_at_call 30; refine (dropB_no w _ D1 D2 ba bb room _ ys (twins ys) hTB hrp i hin2).mono ?_; rintro e wC ⟨rfl, hTC, hkC⟩; have hcC := hkC.2 _ _ _ hcB (by decide) (by decide) (by decide) (by decide); have c2C := hcC.cell 2; simp only [List.getElem?_toArray, List.getElem?_cons_succ, List.getElem?_cons_zero] at c2C))
                go_wp2
                gi_wp2_with fail
                refine ⟨trivial, rfl, (callsIn_wide.2 (lenA w _ D1 D2 ba bb room _ ys _ hTC hrp)).mono ?_⟩
                rintro e wq ⟨rfl, rfl⟩
                gi_wp2_with fail
                refine ⟨trivial, rfl, (callsIn_wide.2 (lenT w _ D1 D2 ba bb room _ ys hTC hrp)).mono ?_⟩
                rintro e wq ⟨rfl, rfl⟩
                gi_wp2_with fail
                go_roundw
                case rel => exact ⟨k + 1, ys, by omega, by omega, by go_num, hly, hTC⟩
                case measure => simp [intOf]; omega
              · obtain ⟨q, rfl⟩ : ∃ q : Nat, i = q := ⟨i.toNat, by omega⟩
                have hq : q < ys.length := by omega
                have hq2 : q < (twins ys).length := by rw [twins_length]; exact hq
                have hl5 : (twins ys).length ≤ 10000 := by rw [twins_length]; exact hl4
                have hl6 : ((ys.take q ++ ys.drop (q + 1)).length : Int) ≤ room := by rw [List.length_append, List.length_take, List.length_drop]; omega
                gi_wp2_with fail
                rw [← HwA.out]
                refine wpIn_wide.2 ?_
                go_region_held3 (fun W' => W'.cell? ⟨wr.heap.size, 2, none⟩ = some (.int .i64 q)) (first | exact c2A | exact c2B | exact c2C) (first
                  | (go_at_call 16; refine (dropA w _ D1 D2 ba bb room _ ys _ hTd hrp q hq hl4).mono ?_; rintro e wB ⟨rfl, hTB, hkB⟩; have hcB := hkB.2 _ _ _ hcd (by decide) (by decide) (by decide) (by decide); have c2B := hcB.cell 2; simp only [List.getElem?_toArray, List.getElem?_cons_succ, List.getElem?_cons_zero] at c2B)
                  | (go_at_call 30; refine (dropB w _ D1 D2 ba bb room _ _ (twins ys) hTB hrp q hq2 hl5).mono ?_; rintro e wC ⟨rfl, hTC, hkC⟩; have hcC := hkC.2 _ _ _ hcB (by decide) (by decide) (by decide) (by decide); have c2C := hcC.cell 2; simp only [List.getElem?_toArray, List.getElem?_cons_succ, List.getElem?_cons_zero] at c2C))
                rw [twins_cut] at hTC
                generalize ys.take q ++ ys.drop (q + 1) = us at *
                go_wp2
                gi_wp2_with fail
                refine ⟨trivial, rfl, (callsIn_wide.2 (lenA w _ D1 D2 ba bb room _ us _ hTC hrp)).mono ?_⟩
                rintro e wq ⟨rfl, rfl⟩
                gi_wp2_with fail
                refine ⟨trivial, rfl, (callsIn_wide.2 (lenT w _ D1 D2 ba bb room _ us hTC hrp)).mono ?_⟩
                rintro e wq ⟨rfl, rfl⟩
                gi_wp2_with fail
                go_roundw
                case rel => exact ⟨k + 1, us, by omega, by omega, by go_num, hl6, hTC⟩
                case measure => simp [intOf]; omega
            · have t5 : ((kd % 6 : Int) == 5) = false := by rw [beq_eq_false_iff_ne]; exact c5
              clear c5
              have hl5 : (twins ys).length ≤ 10000 := by rw [twins_length]; exact hl4
              by_cases hfull : (ys.length : Int) < room
              · have hf2 : ((twins ys).length : Int) < room := by rw [twins_length]; exact hfull
                have hl6 : ((ys ++ [x]).length : Int) ≤ room := by rw [List.length_append]; simp; omega
                gi_wp2_with fail
                rw [← HwA.out]
                refine wpIn_wide.2 ?_
                go_region_held3 (fun W' => W'.cell? ⟨wr.heap.size, 1, none⟩ = some (.int .i64 x)) (first | exact c1A | exact c1B | exact c1C) (first
                  | (go_at_call 18; refine (pushA w _ D1 D2 ba bb room _ ys _ hTd hrp x hfull hl4).mono ?_; rintro e wB ⟨rfl, hTB, hkB⟩; have hcB := hkB.2 _ _ _ hcd (by decide) (by decide) (by decide) (by decide); have c1B := hcB.cell 1; simp only [List.getElem?_toArray, List.getElem?_cons_succ, List.getElem?_cons_zero] at c1B)
                  | (go_at_call 31; refine (pushB w _ D1 D2 ba bb room _ _ (twins ys) hTB hrp x _ hf2 hl5).mono ?_; rintro e wC ⟨rfl, hTC, hkC⟩; have hcC := hkC.2 _ _ _ hcB (by decide) (by decide) (by decide) (by decide); have c1C := hcC.cell 1; simp only [List.getElem?_toArray, List.getElem?_cons_succ, List.getElem?_cons_zero] at c1C))
                simp only [IntWalk.i64_left] at hTC
                rw [twins_snoc] at hTC
                generalize ys ++ [x] = us at *
                go_wp2
                gi_wp2_with fail
                refine ⟨trivial, rfl, (callsIn_wide.2 (lenA w _ D1 D2 ba bb room _ us _ hTC hrp)).mono ?_⟩
                rintro e wq ⟨rfl, rfl⟩
                gi_wp2_with fail
                refine ⟨trivial, rfl, (callsIn_wide.2 (lenT w _ D1 D2 ba bb room _ us hTC hrp)).mono ?_⟩
                rintro e wq ⟨rfl, rfl⟩
                gi_wp2_with fail
                go_roundw
                case rel => exact ⟨k + 1, us, by omega, by omega, by go_num, hl6, hTC⟩
                case measure => simp [intOf]; omega
              · have hf1 : (ys.length : Int) = room := by omega
                have hf2 : ((twins ys).length : Int) = room := by rw [twins_length]; exact hf1
                have Hf1 := Lib.hid hf1
                have Hf2 := Lib.hid hf2
                clear hf1 hf2
                gi_wp2_with fail
                rw [← HwA.out]
                refine wpIn_wide.2 ?_
                go_region_held3 (fun W' => W'.cell? ⟨wr.heap.size, 1, none⟩ = some (.int .i64 x)) (first | exact c1A | exact c1B | exact c1C) (first
                  | (go_at_call 18; refine (pushA_full w _ D1 D2 ba bb room _ ys _ hTd hrp x Hf1.out).mono ?_; rintro e wB ⟨rfl, hTB, hkB⟩; have hcB := hkB.2 _ _ _ hcd (by decide) (by decide) (by decide) (by decide); have c1B := hcB.cell 1; simp only [List.getElem?_toArray, List.getElem?_cons_succ, List.getElem?_cons_zero] at c1B)
                  | (go_at_call 31; refine (pushB_full w _ D1 D2 ba bb room _ ys (twins ys) hTB hrp x _ Hf2.out).mono ?_; rintro e wC ⟨rfl, hTC, hkC⟩; have hcC := hkC.2 _ _ _ hcB (by decide) (by decide) (by decide) (by decide); have c1C := hcC.cell 1; simp only [List.getElem?_toArray, List.getElem?_cons_succ, List.getElem?_cons_zero] at c1C))
                go_wp2
                gi_wp2_with fail
                refine ⟨trivial, rfl, (callsIn_wide.2 (lenA w _ D1 D2 ba bb room _ ys _ hTC hrp)).mono ?_⟩
                rintro e wq ⟨rfl, rfl⟩
                gi_wp2_with fail
                refine ⟨trivial, rfl, (callsIn_wide.2 (lenT w _ D1 D2 ba bb room _ ys hTC hrp)).mono ?_⟩
                rintro e wq ⟨rfl, rfl⟩
                gi_wp2_with fail
                go_roundw
                case rel => exact ⟨k + 1, ys, by omega, by omega, by go_num, hly, hTC⟩
                case measure => simp [intOf]; omega
      · obtain rfl : k = 100 := by omega
        obtain ⟨z1, z2, z3, z4, _⟩ := hT
        have c3 := z1.cell 0
        have f3 := z1.frozen 0
        simp only [List.getElem?_toArray, List.getElem?_cons_zero] at c3
        gi_wp2_with fail
        exact types_leave w w.heap.size D1 D2 _ _ (z1.put 0 (.bool true)) ((Below.heap_setCell _ _ _ _ (z1.noBook (.inr ⟨_, z2⟩)).symm).trans z2) ((Below.heap_setCell _ _ _ _ (z1.noBook (.inr ⟨_, z3⟩)).symm).trans z3) hDD hs1 (z4.setCell (p := ⟨w.heap.size, 0, none⟩) (Nat.le_refl _) _) rfl
    · obtain ⟨z1, z2, z3, z4, _⟩ := hT
      have c3 := z1.cell 0
      have f3 := z1.frozen 0
      simp only [List.getElem?_toArray, List.getElem?_cons_zero] at c3
      gi_wp2_with fail
      exact types_leave w w.heap.size D1 D2 _ _ (z1.put 0 (.bool true)) ((Below.heap_setCell _ _ _ _ (z1.noBook (.inr ⟨_, z2⟩)).symm).trans z2) ((Below.heap_setCell _ _ _ _ (z1.noBook (.inr ⟨_, z3⟩)).symm).trans z3) hDD hs1 (z4.setCell (p := ⟨w.heap.size, 0, none⟩) (Nat.le_refl _) _) rfl

end Go.Proofs.Ytbdejcmlcjljkaa
