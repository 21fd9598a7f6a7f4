/-
  The walk of the law RingRow: it returns true and leaves all memory that was there. Conditions: the two slices read as rows of numbers.
-/
import Derived.Test.YtbdejcmlcjljkaaRingB
import Derived.Test.YtbdejcmlcjljkaaCame
namespace Go.Proofs.Ytbdejcmlcjljkaa
open Go.RowKit

theorem drop_take_nil (xs : List Int) (k : Nat) : (xs.take k).drop k = [] := List.drop_eq_nil_of_le (by rw [List.length_take]; omega)
theorem drop_take_cons {xs : List Int} {n : Nat} {x : Int} (hx : Hid (xs[n]? = some x)) (k : Nat) (h1 : n < k) : (xs.take k).drop n = x :: (xs.take k).drop (n + 1) := by
  obtain ⟨h2, h3⟩ := List.getElem?_eq_some_iff.1 hx.out
  rw [List.drop_eq_getElem_cons (by rw [List.length_take]; omega)]
  simp [h3]
theorem drop_take_snoc {xs : List Int} {k : Nat} {x : Int} (hx : Hid (xs[k]? = some x)) (n : Nat) (h1 : n ≤ k) : (xs.take k).drop n ++ [x] = (xs.take (k + 1)).drop n := by
  obtain ⟨h2, h3⟩ := List.getElem?_eq_some_iff.1 hx.out
  rw [List.take_succ_eq_append_getElem h2, List.drop_append_of_le_length (by rw [List.length_take]; omega), h3]

set_option maxRecDepth 100000 in
set_option maxHeartbeats 1000000 in
theorem row_walk (a0 : Option Addr) (cap0 : Nat) (xs : List Int) (a1 : Option Addr) (cap1 : Nat) (ps : List Int) (w : World) (h0 : Came1 .i64 w a0 xs) (h1 : Came1 .u8 w a1 ps)
    (hm0 : xs.length ≤ maxLen) (_hm1 : ps.length ≤ maxLen) (hps : ∀ i : Nat, 0 ≤ ps[i]?.getD 0 ∧ ps[i]?.getD 0 ≤ 255) :
    Calls Try.prog 4 #[.slice a0 xs.length cap0, .slice a1 ps.length cap1] w fun e w' => e = .returned (.bool true) ∧ Below w.heap.size w w' := by
  unfold maxLen at hm0 _hm1
  go_enter Try.func4, Try.ntmps4
  go_wp2_with fail
  refine (alive_any _).mono ?_
  rintro e w1 ⟨rfl, hb1⟩
  go_wp2_with fail
  refine (new_b 10000 _ (by omega) (by omega)).mono ?_
  rintro e w2 ⟨b, rfl, hr2, hb2⟩
  have hb12 : Below w.heap.size w w2 := hb1.trans (hb2.mono hb1.size)
  have hr : RB w.heap.size w2 b 10000 [] := by
    obtain ⟨G, r1, r2, r3, r4⟩ := hr2
    have := hb1.size
    exact ⟨G, r1, by omega, by omega, fun g hg => by have := r4 g hg; omega⟩
  clear hr2 hb1 hb2
  by_cases hbig : (500 : Int) < (xs.length : Int)
  · go_wp2_with fail
    go_ret
    exact ⟨rfl, hb12⟩
  go_wp2_with fail
  go_loopw [6, 28] (fun nx i wr => ∃ n k : Nat, n ≤ k ∧ k ≤ xs.length ∧ nx = .int .i64 n ∧ i = .int .i64 k ∧ RB w.heap.size wr b 10000 ((xs.take k).drop n) ∧ Below w.heap.size w wr) (fun _ i _ => xs.length - (intOf i).toNat)
  case atStart => exact ⟨0, 0, by omega, by omega, rfl, rfl, by simpa using hr, hb12⟩
  case round =>
    obtain ⟨n, k, hnk, hk, rfl, rfl, hrr, hbr⟩ := hrel
    by_cases hlt : k < xs.length
    · obtain ⟨ba, offa, x, rfl, hx, hc⟩ := h0.at_ hbr hlt
      have hlen : ((xs.take k).drop n).length = k - n := by rw [List.length_drop, List.length_take]; omega
      have hlen1 : (((xs.take k).drop n).length : Int) < 10000 := by omega
      have hlen2 : ((xs.take k).drop n).length ≤ 10000 := by omega
      clear hlen
      go_wp2_with fail
      refine (push_b _ b 10000 _ _ _ hrr (by omega) hlen1 hlen2).mono ?_
      rintro e w3 ⟨rfl, hr3, hb3⟩
      rw [drop_take_snoc hx n hnk] at hr3
      have hbr3 := hbr.trans hb3
      clear hb3 hrr hc
      go_wp2_with fail
      go_loopw [6, 9] (fun nx j wr => ∃ n q : Nat, n ≤ k + 1 ∧ q ≤ 2 ∧ nx = .int .i64 n ∧ j = .int .i64 q ∧ RB w.heap.size wr b 10000 ((xs.take (k + 1)).drop n) ∧ Below w.heap.size w wr) (fun _ j _ => 3 - (intOf j).toNat)
      case atStart => exact ⟨n, 0, by omega, by omega, rfl, rfl, hr3, hbr3⟩
      case round =>
        clear hr3 hbr3 hbr
        obtain ⟨n', q, hnk', hq, rfl, rfl, hrr, hbr⟩ := hrel
        by_cases hlp : k < ps.length
        · obtain ⟨bp, offp, p, rfl, hp, hcp⟩ := h1.at_ hbr hlp
          have hpb : 0 ≤ p ∧ p ≤ 255 := by have := hps k; rw [hp.out] at this; exact this
          clear hp hps
          by_cases hqp : (q : Int) < p % 3
          · by_cases hend : n' = k + 1
            · subst hend
              rw [drop_take_nil] at hrr
              go_wp2_with fail
              refine (pop_no_b _ b 10000 _ hrr (by omega)).mono ?_
              rintro e w4 ⟨rfl, rfl⟩
              go_wp2_with fail
              go_roundw
              case rel => exact ⟨k + 1, q + 1, by omega, by omega, rfl, by go_num, by rw [drop_take_nil]; exact hrr, hbr⟩
              case measure => simp [intOf]; omega
            · obtain ⟨ba', offa', y, ha', hy, hcy⟩ := h0.at_ hbr (show n' < xs.length by omega)
              cases ha'
              rw [drop_take_cons hy (k + 1) (by omega)] at hrr
              go_wp2_with fail
              refine (pop_b _ b 10000 y _ _ hrr (by omega)).mono ?_
              rintro e w4 ⟨rfl, hr4, hb4⟩
              have hbr4 := hbr.trans hb4
              obtain ⟨ba', offa', y', ha', hy', hcy'⟩ := h0.at_ hbr4 (show n' < xs.length by omega)
              cases ha'
              obtain rfl : y = y' := by have := hy.out.symm.trans hy'.out; simpa using this
              clear hy hy' hcy hcp hrr hb4
              have hle : (n' : Int) ≤ (k : Int) := by omega
              go_wp2_with fail
              go_roundw
              case rel => exact ⟨n' + 1, q + 1, by omega, by omega, by go_num, by go_num, hr4, hbr4⟩
              case measure => simp [intOf]; omega
          · go_wp2_with fail
            go_roundw
            case rel => exact ⟨n', k + 1, by omega, by omega, rfl, by go_num, hrr, hbr⟩
            case measure => simp [intOf]; omega
        · go_wp2_with fail
          go_roundw
          case rel => exact ⟨n', k + 1, by omega, by omega, rfl, by go_num, hrr, hbr⟩
          case measure => simp [intOf]; omega
    · obtain rfl : k = xs.length := by omega
      rw [List.take_length] at hrr
      go_wp2_with fail
      go_loopw [6] (fun nx wr => ∃ n : Nat, n ≤ xs.length ∧ nx = .int .i64 n ∧ RB w.heap.size wr b 10000 (xs.drop n) ∧ Below w.heap.size w wr) (fun nx _ => xs.length - (intOf nx).toNat)
      case atStart => exact ⟨n, hnk, rfl, hrr, hbr⟩
      case round =>
        clear hrr hbr
        obtain ⟨n', hn', rfl, hrr, hbr⟩ := hrel
        by_cases hlt' : n' < xs.length
        · obtain ⟨ba', offa', y, rfl, hy, hcy⟩ := h0.at_ hbr hlt'
          have hdr : xs.drop n' = y :: xs.drop (n' + 1) := by
            obtain ⟨h2, h3⟩ := List.getElem?_eq_some_iff.1 hy.out
            rw [List.drop_eq_getElem_cons h2, h3]
          rw [hdr] at hrr
          clear hdr
          go_wp2_with fail
          refine (pop_b _ b 10000 y _ _ hrr (by omega)).mono ?_
          rintro e w4 ⟨rfl, hr4, hb4⟩
          have hbr4 := hbr.trans hb4
          obtain ⟨ba', offa', y', ha', hy', hcy'⟩ := h0.at_ hbr4 hlt'
          cases ha'
          obtain rfl : y = y' := by have := hy.out.symm.trans hy'.out; simpa using this
          clear hy hy' hcy hrr hb4
          go_wp2_with fail
          go_roundw
          case rel => exact ⟨n' + 1, by omega, by go_num, hr4, hbr4⟩
          case measure => simp [intOf]; omega
        · obtain rfl : n' = xs.length := by omega
          rw [List.drop_length] at hrr
          go_wp2_with fail
          refine (len_b _ b 10000 _ _ hrr (by omega)).mono ?_
          rintro e w4 ⟨rfl, rfl⟩
          go_wp2_with fail
          go_ret
          exact ⟨rfl, hbr⟩
end Go.Proofs.Ytbdejcmlcjljkaa
