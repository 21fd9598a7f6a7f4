/-
  The walk of the law RingActs: it returns true and leaves all memory that was there. Conditions: the slice reads as a row of acts.
-/
import Derived.Test.YtbdejcmlcjljkaaPair
namespace Go.Proofs.Ytbdejcmlcjljkaa
open Go.RowKit

/-- An act: its kind, its number, its index. -/
structure ActV where
  kind : Int
  x : Int
  i : Int

/-- A slice of acts that came in: each element's three cells. -/
def CameA (w : World) (a : Option Addr) (acts : List ActV) : Prop :=
  ∀ (j : Nat) (v : ActV), acts[j]? = some v → (0 ≤ v.kind ∧ v.kind ≤ 255) ∧ ∃ b off, a = some ⟨b, off, none⟩ ∧ b < w.heap.size ∧
    w.cell? ⟨b, off + j * 3, none⟩ = some (.int .u8 v.kind) ∧ w.cell? ⟨b, off + j * 3 + 1, none⟩ = some (.int .i64 v.x) ∧ w.cell? ⟨b, off + j * 3 + 2, none⟩ = some (.int .i64 v.i)

theorem CameA.at_ {w wr : World} {a : Option Addr} {acts : List ActV} (h : CameA w a acts) (hb : Below w.heap.size w wr) {j : Nat} (hj : j < acts.length) :
    ∃ (b off : Nat) (kd x i : Int), 0 ≤ kd ∧ kd ≤ 255 ∧ a = some ⟨b, off, none⟩ ∧
      wr.cell? ⟨b, off + j * 3, none⟩ = some (.int .u8 kd) ∧ wr.cell? ⟨b, off + j * 3 + 1, none⟩ = some (.int .i64 x) ∧ wr.cell? ⟨b, off + j * 3 + 2, none⟩ = some (.int .i64 i) := by
  obtain ⟨⟨hk1, hk2⟩, b, off, h1, h2, h3, h4, h5⟩ := h j acts[j] (List.getElem?_eq_getElem hj)
  exact ⟨b, off, _, _, _, hk1, hk2, h1, (hb.cell (p := ⟨b, _, none⟩) h2).trans h3, (hb.cell (p := ⟨b, _, none⟩) h2).trans h4, (hb.cell (p := ⟨b, _, none⟩) h2).trans h5⟩

set_option maxRecDepth 100000 in
set_option maxHeartbeats 2000000 in
theorem acts_walk (room : Int) (a : Option Addr) (cap : Nat) (acts : List ActV) (w : World) (h0 : CameA w a acts) (hm0 : acts.length ≤ maxLen) :
    Calls Try.prog 3 #[.int .i64 room, .slice a acts.length cap] w fun e w' => e = .returned (.bool true) ∧ Below w.heap.size w w' := by
  unfold maxLen at hm0
  by_cases hroom : 1 ≤ room ∧ room ≤ 10000
  · obtain ⟨hr1, hr2⟩ := hroom
    go_enter Try.func3, Try.ntmps3
    go_wp2_with fail
    refine (alive_any _).mono ?_
    rintro e w1 ⟨rfl, hb1⟩
    go_wp2_with fail
    refine (new_yes room _ hr1 hr2).mono ?_
    rintro e w2 ⟨rfl, hr2', hw2⟩
    have hp : Pair w.heap.size w2 w1.heap.size room [] (.slice none 0 0) [] :=
      ⟨none, none, 0, none, hr2', hb1.size, by rw [hw2]; have := hb1.size; simp; omega, (fun _ hg => by cases hg), rfl, Seg.nil _ _ _, (fun _ hg => by cases hg)⟩
    have hb12 : Below w.heap.size w w2 := by rw [hw2]; exact hb1.alloc hb1.size _
    clear hw2 hr2' hb1
    go_wp2_with fail
    refine (right_any room _).mono ?_
    rintro e w3 ⟨rfl, rfl⟩
    have hd1 : (decide (1 ≤ room) && decide (room ≤ 10000)) = true := by simp [hr1, hr2]
    rw [hd1]
    clear hd1
    generalize w1.heap.size = b at hp ⊢
    go_wp2_with fail
    go_loopw [6, 7] (fun m i wr => ∃ (k : Nat) (ys : List Int), k ≤ acts.length ∧ k ≤ 100 ∧ i = .int .i64 k ∧ (ys.length : Int) ≤ room ∧ Pair w.heap.size wr b room ys m ys ∧ Below w.heap.size w wr) (fun _ i _ => acts.length - (intOf i).toNat)
    case atStart => exact ⟨0, [], by omega, by omega, rfl, by simp; omega, hp, hb12⟩
    case round =>
      clear hp hb12
      rename_i u6 u7
      obtain ⟨k, ys, hk, hk100, rfl, hly, hpr, hbr⟩ := hrel
      have hr0 : 0 < room := by omega
      have hl4 : ys.length ≤ 10000 := by omega
      by_cases hlt : k < acts.length
      · by_cases hk1 : k < 100
        · obtain ⟨ba, oa, kd, x, i, hkd0, hkd1, rfl, e1, e2, e3⟩ := h0.at_ hbr hlt
          have hlt' : (k : Int) < (acts.length : Int) := by omega
          have hk1' : (k : Int) < 100 := by omega
          obtain ⟨wA, hwA⟩ : ∃ wA, wA = wr.alloc (.cells #[.int .u8 kd, .int .i64 x, .int .i64 i] 29) := ⟨_, rfl⟩
          have hpA : Pair w.heap.size wA b room ys u6 ys := by rw [hwA]; exact hpr.alloc _
          have hcA : CB wA wr.heap.size 29 #[.int .u8 kd, .int .i64 x, .int .i64 i] := by rw [hwA]; exact CB.new _ _ _
          have hbA : Below w.heap.size w wA := by rw [hwA]; exact hbr.alloc hbr.size _
          have hneA : wr.heap.size ≠ b := by
            obtain ⟨G, A, c, Gm, q1, _⟩ := hpr
            have := q1.lt.1
            omega
          have HwA := Lib.hid hwA
          clear hwA hpr hbr h0
          by_cases c3 : kd % 6 = 3
          · have t3 : ((kd % 6 : Int) == 3) = true := by rw [beq_iff_eq]; exact c3
            clear c3
            cases ys with
            | nil =>
              go_wp2_with fail
              rw [← HwA.out]
              refine (popR_no _ b room [] u6 _ _ hpA hr0 rfl).mono ?_
              rintro e wB ⟨rfl, rfl⟩
              go_wp2_with fail
              refine (atM_no _ b room [] u6 [] _ hpA 0 (by simp)).mono ?_
              rintro e wB ⟨rfl, rfl⟩
              go_wp2_with fail
              refine (dropM_no _ b room [] u6 [] _ hpA 0 (by simp)).mono ?_
              rintro e wB ⟨rfl, rfl⟩
              go_wp2_with fail
              refine (sameR _ b room [] _ _ _ hpA hr0 rfl hl4).mono ?_
              rintro e wZ ⟨rfl, hpZ, hbZ, _⟩
              go_wp2_with fail
              go_roundw
              case rel => exact ⟨k + 1, [], by omega, by omega, by go_num, hly, hpZ, hbA.trans hbZ⟩
              case measure => simp [intOf]; omega
            | cons y ys =>
              go_wp2_with fail
              rw [← HwA.out]
              refine (popR _ b room y ys u6 _ _ hpA hr0).mono ?_
              rintro e wB ⟨rfl, hpB, hbB, hkB⟩
              go_wp2_with fail
              refine (atM_ok _ b room ys u6 (y :: ys) _ hpB 0 y rfl).mono ?_
              rintro e wC ⟨rfl, rfl⟩
              go_wp2_with fail
              refine (dropM _ b room ys u6 (y :: ys) _ hpB 0 (by simp) hl4).mono ?_
              rintro e wC ⟨v, rfl, hpC, hbC, hkC⟩
              have hly' : (ys.length : Int) ≤ room := by simp at hly; omega
              have hl5 : ys.length ≤ 10000 := by simp at hl4; omega
              go_wp2_with fail
              refine (sameR _ b room ys _ _ _ hpC hr0 rfl hl5).mono ?_
              rintro e wZ ⟨rfl, hpZ, hbZ, _⟩
              go_wp2_with fail
              go_roundw
              case rel => exact ⟨k + 1, ys, by omega, by omega, by go_num, hly', hpZ, ((hbA.trans hbB).trans hbC).trans hbZ⟩
              case measure => simp [intOf]; omega
          · have t3 : ((kd % 6 : Int) == 3) = false := by rw [beq_eq_false_iff_ne]; exact c3
            clear c3
            by_cases c4 : kd % 6 = 4
            · have t4 : ((kd % 6 : Int) == 4) = true := by rw [beq_iff_eq]; exact c4
              clear c4
              by_cases hin : i < 0 ∨ (ys.length : Int) ≤ i
              · go_wp2_with fail
                rw [← HwA.out]
                refine (atR_no _ b room ys u6 _ _ hpA hr0 i hin).mono ?_
                rintro e wB ⟨rfl, rfl⟩
                have f0 := hcA.cell 0
                have f1 := hcA.cell 1
                have f2 := hcA.cell 2
                simp only [List.getElem?_toArray, List.getElem?_cons_succ, List.getElem?_cons_zero] at f0 f1 f2
                go_wp2_with fail
                refine (atM_no _ b room ys u6 ys _ hpA i hin).mono ?_
                rintro e wB ⟨rfl, rfl⟩
                go_wp2_with fail
                refine (sameR _ b room ys _ _ _ hpA hr0 rfl hl4).mono ?_
                rintro e wZ ⟨rfl, hpZ, hbZ, _⟩
                go_wp2_with fail
                go_roundw
                case rel => exact ⟨k + 1, ys, by omega, by omega, by go_num, hly, hpZ, hbA.trans hbZ⟩
                case measure => simp [intOf]; omega
              · obtain ⟨q, rfl⟩ : ∃ q : Nat, i = q := ⟨i.toNat, by omega⟩
                obtain ⟨y, hy⟩ : ∃ y, ys[q]? = some y := ⟨_, List.getElem?_eq_getElem (by omega)⟩
                have Hy := Lib.hid hy
                clear hy
                go_wp2_with fail
                rw [← HwA.out]
                refine (atR_ok _ b room ys u6 _ _ hpA hr0 q y Hy.out).mono ?_
                rintro e wB ⟨rfl, rfl⟩
                have f0 := hcA.cell 0
                have f1 := hcA.cell 1
                have f2 := hcA.cell 2
                simp only [List.getElem?_toArray, List.getElem?_cons_succ, List.getElem?_cons_zero] at f0 f1 f2
                go_wp2_with fail
                refine (atM_ok _ b room ys u6 ys _ hpA q y Hy.out).mono ?_
                rintro e wB ⟨rfl, rfl⟩
                go_wp2_with fail
                refine (sameR _ b room ys _ _ _ hpA hr0 rfl hl4).mono ?_
                rintro e wZ ⟨rfl, hpZ, hbZ, _⟩
                go_wp2_with fail
                go_roundw
                case rel => exact ⟨k + 1, ys, by omega, by omega, by go_num, hly, hpZ, hbA.trans hbZ⟩
                case measure => simp [intOf]; omega
            · have t4 : ((kd % 6 : Int) == 4) = false := by rw [beq_eq_false_iff_ne]; exact c4
              clear c4
              by_cases c5 : kd % 6 = 5
              · have t5 : ((kd % 6 : Int) == 5) = true := by rw [beq_iff_eq]; exact c5
                clear c5
                by_cases hin : i < 0 ∨ (ys.length : Int) ≤ i
                · go_wp2_with fail
                  rw [← HwA.out]
                  refine (dropM_no _ b room ys u6 ys _ hpA i hin).mono ?_
                  rintro e wB ⟨rfl, rfl⟩
                  have f0 := hcA.cell 0
                  have f1 := hcA.cell 1
                  have f2 := hcA.cell 2
                  simp only [List.getElem?_toArray, List.getElem?_cons_succ, List.getElem?_cons_zero] at f0 f1 f2
                  go_wp2_with fail
                  refine (dropR_no _ b room ys u6 _ _ hpA hr0 i hin).mono ?_
                  rintro e wB ⟨rfl, rfl⟩
                  go_wp2_with fail
                  refine (sameR _ b room ys _ _ _ hpA hr0 rfl hl4).mono ?_
                  rintro e wZ ⟨rfl, hpZ, hbZ, _⟩
                  go_wp2_with fail
                  go_roundw
                  case rel => exact ⟨k + 1, ys, by omega, by omega, by go_num, hly, hpZ, hbA.trans hbZ⟩
                  case measure => simp [intOf]; omega
                · obtain ⟨q, rfl⟩ : ∃ q : Nat, i = q := ⟨i.toNat, by omega⟩
                  have hq : q < ys.length := by omega
                  have hl5 : (ys.take q ++ ys.drop (q + 1)).length ≤ 10000 := by rw [List.length_append, List.length_take, List.length_drop]; omega
                  have hl6 : ((ys.take q ++ ys.drop (q + 1)).length : Int) ≤ room := by rw [List.length_append, List.length_take, List.length_drop]; omega
                  go_wp2_with fail
                  rw [← HwA.out]
                  refine (dropM _ b room ys u6 ys _ hpA q hq hl4).mono ?_
                  rintro e wB ⟨v, rfl, hpB, hbB, hkB⟩
                  have hcB := hkB _ _ _ hcA (by decide) hneA
                  have f0 := hcB.cell 0
                  have f1 := hcB.cell 1
                  have f2 := hcB.cell 2
                  simp only [List.getElem?_toArray, List.getElem?_cons_succ, List.getElem?_cons_zero] at f0 f1 f2
                  generalize hz : ys.take q ++ ys.drop (q + 1) = zs at *
                  have Hz := Lib.hid hz
                  clear hz
                  go_wp2_with fail
                  refine (dropR _ b room ys v zs _ hpB hr0 q hq hl4).mono ?_
                  rintro e wC ⟨rfl, hpC, hbC, hkC⟩
                  rw [Hz.out] at hpC
                  go_wp2_with fail
                  refine (sameR _ b room zs _ _ _ hpC hr0 rfl hl5).mono ?_
                  rintro e wZ ⟨rfl, hpZ, hbZ, _⟩
                  go_wp2_with fail
                  go_roundw
                  case rel => exact ⟨k + 1, zs, by omega, by omega, by go_num, hl6, hpZ, ((hbA.trans hbB).trans hbC).trans hbZ⟩
                  case measure => simp [intOf]; omega
              · have t5 : ((kd % 6 : Int) == 5) = false := by rw [beq_eq_false_iff_ne]; exact c5
                clear c5
                by_cases hfull : (ys.length : Int) < room
                · go_wp2_with fail
                  rw [← HwA.out]
                  refine (pushM _ b room ys u6 ys _ hpA room x hfull hl4).mono ?_
                  rintro e wB ⟨v, rfl, hpB, hbB, hkB⟩
                  have hcB := hkB _ _ _ hcA (by decide) hneA
                  have f0 := hcB.cell 0
                  have f1 := hcB.cell 1
                  have f2 := hcB.cell 2
                  simp only [List.getElem?_toArray, List.getElem?_cons_succ, List.getElem?_cons_zero] at f0 f1 f2
                  go_wp2_with fail
                  refine (pushR _ b room ys v _ _ hpB hr0 x hfull hl4).mono ?_
                  rintro e wC ⟨rfl, hpC, hbC, hkC⟩
                  have hl5 : (ys ++ [x]).length ≤ 10000 := by rw [List.length_append]; simp; omega
                  have hl6 : ((ys ++ [x]).length : Int) ≤ room := by rw [List.length_append]; simp; omega
                  generalize ys ++ [x] = zs at *
                  go_wp2_with fail
                  refine (sameR _ b room zs _ _ _ hpC hr0 rfl hl5).mono ?_
                  rintro e wZ ⟨rfl, hpZ, hbZ, _⟩
                  go_wp2_with fail
                  go_roundw
                  case rel => exact ⟨k + 1, zs, by omega, by omega, by go_num, hl6, hpZ, ((hbA.trans hbB).trans hbC).trans hbZ⟩
                  case measure => simp [intOf]; omega
                · have hf2 : (ys.length : Int) = room := by omega
                  have hf3 : room ≤ (ys.length : Int) := by omega
                  have Hf2 := Lib.hid hf2
                  clear hf2 hfull
                  go_wp2_with fail
                  rw [← HwA.out]
                  refine (pushM_full _ b room ys u6 ys _ hpA room x hf3).mono ?_
                  rintro e wB ⟨rfl, rfl⟩
                  have f0 := hcA.cell 0
                  have f1 := hcA.cell 1
                  have f2 := hcA.cell 2
                  simp only [List.getElem?_toArray, List.getElem?_cons_succ, List.getElem?_cons_zero] at f0 f1 f2
                  go_wp2_with fail
                  refine (pushR_full _ b room ys u6 _ _ hpA hr0 x Hf2.out).mono ?_
                  rintro e wC ⟨rfl, hpC, hbC, hkC⟩
                  go_wp2_with fail
                  refine (sameR _ b room ys _ _ _ hpC hr0 rfl hl4).mono ?_
                  rintro e wZ ⟨rfl, hpZ, hbZ, _⟩
                  go_wp2_with fail
                  go_roundw
                  case rel => exact ⟨k + 1, ys, by omega, by omega, by go_num, hly, hpZ, (hbA.trans hbC).trans hbZ⟩
                  case measure => simp [intOf]; omega
        · obtain rfl : k = 100 := by omega
          go_wp2_with fail
          go_ret
          exact ⟨rfl, hbr⟩
      · go_wp2_with fail
        go_ret
        exact ⟨rfl, hbr⟩
  · have hroom' : room < 1 ∨ 10000 < room := by omega
    have hd1 : (decide (1 ≤ room) && decide (room ≤ 10000)) = false := by
      rcases hroom' with hh | hh
      · simp; omega
      · simp; omega
    have Hd1 := Lib.hid hd1
    clear hd1 hroom
    go_enter Try.func3, Try.ntmps3
    go_wp2_with fail
    refine (alive_any _).mono ?_
    rintro e w1 ⟨rfl, hb1⟩
    go_wp2_with fail
    refine (new_no room _ hroom').mono ?_
    rintro e w2 ⟨rfl, rfl⟩
    go_wp2_with fail
    refine (right_any room _).mono ?_
    rintro e w3 ⟨rfl, rfl⟩
    rw [Hd1.out]
    clear hroom'
    go_wp2_with fail
    go_loopw [6, 7] (fun m i wr => m = .slice none 0 0 ∧ i = .int .i64 0 ∧ Below w.heap.size w wr) (fun _ _ _ => 0)
    case atStart => exact ⟨rfl, rfl, hb1⟩
    case round =>
      obtain ⟨rfl, rfl, hbr⟩ := hrel
      go_wp2_with fail
      go_ret
      exact ⟨rfl, hbr⟩

end Go.Proofs.Ytbdejcmlcjljkaa
