/-
  The walk of the law RingDrops: it returns true and leaves all memory that was there. Conditions: the slice reads as a row of numbers.
-/
import Derived.Test.YtbdejcmlcjljkaaRoomWalk
import Derived.Test.YtbdejcmlcjljkaaRingE
import Derived.Test.YtbdejcmlcjljkaaRowWalk
import Derived.Test.YtbdejcmlcjljkaaMemC
import Derived.Deep.RegionHeld3
namespace Go.Proofs.Ytbdejcmlcjljkaa
open Go.RowKit

theorem Came1.src {w : World} {a : Option Addr} {xs : List Int} (h : Came1 .i64 w a xs) {q : Nat} (hq : q ≤ xs.length) : Src w 1 a q ((xs.take q).map (.int .i64)) := by
  refine ⟨by simp; omega, fun h0 => ?_⟩
  obtain ⟨b, off, rfl, _, _⟩ := h 0 (by omega)
  refine ⟨_, rfl, fun j u hu => ?_⟩
  rw [List.getElem?_map, List.getElem?_take] at hu
  by_cases hj : j < q
  · rw [if_pos hj, List.getElem?_eq_getElem (by omega)] at hu
    simp only [Option.map_some, Option.some.injEq] at hu
    obtain ⟨b', off', e1, _, e2⟩ := h j (by omega)
    cases e1
    rw [Addr.add_lit, e2, ← hu, List.getElem?_eq_getElem (by omega)]
    rfl
  · rw [if_neg hj] at hu
    cases hu
theorem Came1.srcFrom {w : World} {a : Option Addr} {xs : List Int} (h : Came1 .i64 w a xs) {q cap : Nat} (hq : q ≤ xs.length) (hcap : xs.length ≤ cap) :
    Src w 1 (if cap = q then a else a.map (·.add (q * 1))) (xs.length - q) ((xs.drop q).map (.int .i64)) := by
  refine ⟨by simp, fun h0 => ?_⟩
  rw [if_neg (by omega)]
  obtain ⟨b, off, rfl, _, _⟩ := h 0 (by omega)
  refine ⟨⟨b, off + q * 1, none⟩, by simp [Addr.add_lit], fun j u hu => ?_⟩
  rw [List.getElem?_map, List.getElem?_drop] at hu
  by_cases hj : q + j < xs.length
  · rw [List.getElem?_eq_getElem hj] at hu
    simp only [Option.map_some, Option.some.injEq] at hu
    obtain ⟨b', off', e1, _, e2⟩ := h (q + j) hj
    cases e1
    rw [Addr.add_lit, Nat.mul_one, Nat.add_assoc, e2, ← hu, List.getElem?_eq_getElem hj]
    rfl
  · rw [List.getElem?_eq_none (by omega)] at hu
    cases hu
theorem Src.drew {w : World} {size : Nat} {A : Option Addr} {m : Nat} {news : List Value} (h : Src w size A m news) : Src w.drew size A m news := h
theorem Src.keep {w w' : World} {size : Nat} {A : Option Addr} {m : Nat} {news : List Value} (h : Src w size A m news) (hk : ∀ p v, w.cell? p = some v → w'.cell? p = some v) : Src w' size A m news :=
  ⟨h.1, fun h0 => by
    obtain ⟨ad, e, hc⟩ := h.2 h0
    exact ⟨ad, e, fun j u hu => hk _ _ (hc j u hu)⟩⟩
theorem Seg.came {w : World} {A : Option Addr} {n c : Nat} {xs : List Int} {G : Option Nat} (h : Seg w 2 1 A n c (xs.map (.int .i64)) G) : Came1 .i64 w A xs := fun i hi => by
  obtain ⟨g, off, h1, h2, h3⟩ := h.at_ (j := i) (u := .int .i64 (xs[i]?.getD 0)) (by rw [List.getElem?_map, List.getElem?_eq_getElem hi]; rfl)
  exact ⟨g, off, h1, h.lt g h2, h3⟩
theorem ints_one (xs : List Int) : ∀ u ∈ xs.map (Value.int .i64), u.oneCell' = true := by
  intro u hu
  obtain ⟨x, _, rfl⟩ := List.mem_map.1 hu
  rfl

theorem RB.later {B : Nat} {w w' : World} {b : Nat} {room : Int} {xs : List Int} (h : RB B w b room xs) (hb : Below w.heap.size w w') : RB B w' b room xs := by
  obtain ⟨G, r1, r2, r3, r4⟩ := h
  exact ⟨G, r1.below hb r1.lt.1 r1.lt.2, r2, Nat.le_trans r3 hb.size, r4⟩

set_option maxRecDepth 100000 in
set_option maxHeartbeats 1000000 in
theorem drops_walk (a : Option Addr) (cap : Nat) (xs : List Int) (at_ : Int) (w : World) (h0 : Came1 .i64 w a xs) (hm0 : xs.length ≤ maxLen) (hcap : xs.length ≤ cap) :
    Calls Try.prog 7 #[.slice a xs.length cap, .int .i64 at_] w fun e w' => e = .returned (.bool true) ∧ Below w.heap.size w w' := by
  unfold maxLen at hm0
  go_enter Try.func7, Try.ntmps7
  go_wp2_with fail
  refine (alive_any _).mono ?_
  rintro e w1 ⟨rfl, hb1⟩
  go_wp2_with fail
  refine (new_b 10000 _ (by omega) (by omega)).mono ?_
  rintro e w2 ⟨b, rfl, hr2, hb2⟩
  have hb12 : Below w.heap.size w w2 := hb1.trans (hb2.mono hb1.size)
  have hr := hr2.of_new hb1.size
  clear hr2 hb1 hb2
  by_cases hbig : (500 : Int) < (xs.length : Int)
  · go_wp2_with fail
    go_ret
    exact ⟨rfl, hb12⟩
  go_wp2_with fail
  go_loopw [23] (fun i wr => ∃ k : Nat, k ≤ xs.length ∧ i = .int .i64 k ∧ RB w.heap.size wr b 10000 (xs.take k) ∧ Below w.heap.size w wr) (fun i _ => xs.length - (intOf i).toNat)
  case atStart => exact ⟨0, by omega, rfl, by simpa using hr, hb12⟩
  case round =>
    clear hr hb12
    obtain ⟨k, hk, rfl, hrr, hbr⟩ := hrel
    by_cases hlt : k < xs.length
    · obtain ⟨ba, offa, x, rfl, hx, hc⟩ := h0.at_ hbr hlt
      have hl1 : (xs.take k).length = k := by rw [List.length_take]; omega
      have hl2 : ((xs.take k).length : Int) < 10000 := by omega
      have hl3 : (xs.take k).length ≤ 10000 := by omega
      clear hl1
      go_wp2_with fail
      refine (push_b _ b 10000 _ _ _ hrr (by omega) hl2 hl3).mono ?_
      rintro e w3 ⟨rfl, hr3, hb3⟩
      have hsn := drop_take_snoc hx 0 (by omega)
      simp only [List.drop_zero] at hsn
      rw [hsn] at hr3
      have hbr3 := hbr.trans hb3
      clear hb3 hrr hc hl2 hl3 hsn
      go_wp2_with fail
      go_roundw
      case rel => exact ⟨k + 1, by omega, by go_num, hr3, hbr3⟩
      case measure => simp [intOf]; omega
    · obtain rfl : k = xs.length := by omega
      rw [List.take_length] at hrr
      have hlm : xs.length ≤ 10000 := by omega
      clear hlt hk
      by_cases hat : at_ < 0 ∨ xs.length ≤ at_
      · have hcm := h0.later hbr
        rcases hat with hat | hat
        · go_wp2_with fail
          refine (drop_no_b _ b 10000 xs _ _ hrr (by omega) (.inl hat)).mono ?_
          rintro e w4 ⟨rfl, rfl⟩
          go_wp2_with fail
          refine (same_b w.heap.size b 10000 xs a cap wr hrr (by omega) hlm hcm).mono ?_
          rintro e w4 ⟨rfl, hb4⟩
          go_wp2_with fail
          go_ret
          exact ⟨rfl, hbr.trans hb4⟩
        · have hat' : ¬ at_ < 0 := by omega
          go_wp2_with fail
          refine (drop_no_b _ b 10000 xs _ _ hrr (by omega) (.inr hat)).mono ?_
          rintro e w4 ⟨rfl, rfl⟩
          go_wp2_with fail
          refine (same_b w.heap.size b 10000 xs a cap wr hrr (by omega) hlm hcm).mono ?_
          rintro e w4 ⟨rfl, hb4⟩
          go_wp2_with fail
          go_ret
          exact ⟨rfl, hbr.trans hb4⟩
      · obtain ⟨q, rfl⟩ : ∃ q : Nat, at_ = q := ⟨at_.toNat, by omega⟩
        have hq : q < xs.length := by omega
        have hq' : (q : Int) < (xs.length : Int) := by omega
        clear hat
        go_wp2_with fail
        refine (drop_b _ b 10000 xs q _ hrr (by omega) hq hlm).mono ?_
        rintro e w4 ⟨rfl, hr4, hb4⟩
        have hbr4 := hbr.trans hb4
        clear hrr hb4 hbr
        obtain ⟨i0, hi0, hz0, hz1, hz2⟩ := info_parts Try.infoE
        have hcm := h0.later hbr4
        have s1 := (hcm.src (q := q) (by omega)).drew
        have s2 := hcm.srcFrom (q := q + 1) (cap := cap) (by omega) hcap
        have cut1 := fun W => run_cut_upto (P := Try.prog) 27 2 Try.underlying27 1 Try.sizeE a xs.length cap q (by omega) W
        have cut2 := fun W => run_cut_from (P := Try.prog) 27 2 Try.underlying27 1 Try.sizeE a xs.length cap (q + 1) (by omega) W
        rw [show ((q + 1 : Nat) : Int) = (q : Int) + 1 by omega] at cut2
        generalize (if cap = q + 1 then a else a.map (fun x : Addr => x.add ((q + 1) * 1))) = A2 at cut2 s2
        go_wp2_with fail
        have p1 : 0 + q ≤ maxLen := by simp only [maxLen]; omega
        have p2 : (0 + q) * 8 ≤ 140737488355328 := by omega
        have P3 : Hid (0 + q = q) := Nat.zero_add q
        have p4 : 0 < 1 := by omega
        have p5 : q + (xs.length - (q + 1)) ≤ maxLen := by simp only [maxLen]; omega
        have p6 : (q + (xs.length - (q + 1))) * 8 ≤ 140737488355328 := by omega
        obtain ⟨N, hN⟩ : ∃ N, N = (xs.take q ++ xs.drop (q + 1)).length := ⟨_, rfl⟩
        have P7 : Hid (q + (xs.length - (q + 1)) = N) := by rw [hN, List.length_append, List.length_take, List.length_drop]; unfold Hid; omega
        have hl4 : (xs.take q ++ xs.drop (q + 1)).length ≤ 10000 := by rw [List.length_append, List.length_take, List.length_drop]; omega
        have Hw : ∀ (w5 w6 : World) (G5 : Option Nat), w4.drew.grownBy w5 none → w5.grownBy w6 G5 → Moved w4.drew none G5 → Below w4.heap.size w4 w6 := by
          intro w5 w6 G5 hg5 hg6 hm5
          have q1 : Below w4.heap.size w4 w5 := ((Below.refl _ w4).drew).grown hg5 (Nat.le_refl _) (fun _ hk => by cases hk)
          refine q1.grown hg6 q1.size (fun g hg => ?_)
          rcases hm5 with rfl | ⟨g', rfl, hg'⟩
          · cases hg
          · cases hg
            exact hg'
        have Hs : ∀ w6 : World, Below w4.heap.size w4 w6 → ∀ A6 c6, Came1 .i64 w6 A6 (xs.take q ++ xs.drop (q + 1)) → Calls Try.prog 19 #[.pointer (some ⟨b, 0, none⟩), .slice A6 N c6] w6 fun e w' => e = .returned (.bool true) ∧ Below w.heap.size w w' := by
          intro w6 hb6 A6 c6 hc6
          rw [hN]
          refine (same_b w.heap.size b 10000 _ A6 c6 w6 (hr4.later hb6) (by omega) hl4 hc6).mono ?_
          rintro e w' ⟨he, hb'⟩
          exact ⟨he, (hbr4.trans (hb6.mono hbr4.size)).trans hb'⟩
        have HW := Lib.hid Hw
        have HS := Lib.hid Hs
        clear Hw Hs h0 hcm hlm hl4 hr4 hN
        have cut3 := cut2
        rw [← IntWalk.i64_in ((q : Int) + 1) (by omega)] at cut3
        go_region_held3 (fun _ => True) (exact trivial) (first
          | (go_at_call 19; refine (HS.out w6 hb6 A6 c6 hc6).mono ?_; rintro e w7 ⟨rfl, hb7⟩)
          | (refine step_append_src _ (.const (.slice none 0 0)) (.tmp 55) _ (by rfl) 2 i0 _ 1 8 Try.underlying27 hi0 hz0 hz1 hz2 rfl p4 (by rfl) (Seg.nil _ _ _) (by rfl) s1 (ints_one _) p1 p2 (by rfl) q P3.out ?_; intro A5 c5 G5 w5 hs5 hg5 hm5; have s3 := s2.drew.keep (fun p v hv => hg5.cell hv (by simp)))
          | (refine step_append_src _ (.tmp 56) (.tmp 60) _ (by rfl) 2 i0 _ 1 8 Try.underlying27 hi0 hz0 hz1 hz2 rfl p4 (by rfl) hs5 (by rfl) s3 (ints_one _) p5 p6 (by rfl) N P7.out ?_; intro A6 c6 G6 w6 hs6 hg6 hm6; rw [List.nil_append, ← List.map_append] at hs6; have hb6 := HW.out _ _ _ hg5 hg6 hm5; have hc6 := hs6.came))
        go_wp2
        go_ret
        exact ⟨rfl, hb7⟩

end Go.Proofs.Ytbdejcmlcjljkaa
