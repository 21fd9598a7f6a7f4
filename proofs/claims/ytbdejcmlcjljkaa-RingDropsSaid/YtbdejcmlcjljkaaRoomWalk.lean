/-
  The walk of the law RingRoom: it returns true and leaves all memory that was there. Conditions: the slice reads as a row of numbers, the room is a byte.
-/
import Derived.Test.YtbdejcmlcjljkaaRingD
namespace Go.Proofs.Ytbdejcmlcjljkaa
open Go.RowKit

theorem RB.of_new {B s : Nat} {w : World} {b : Nat} {room : Int} {xs : List Int} (h : RB s w b room xs) (hB : B ≤ s) : RB B w b room xs := by
  obtain ⟨G, r1, r2, r3, r4⟩ := h
  exact ⟨G, r1, by omega, by omega, fun g hg => by have := r4 g hg; omega⟩

theorem same_b (B : Nat) (b : Nat) (room : Int) (xs : List Int) (a : Option Addr) (cap : Nat) (w : World) (hb : RB B w b room xs) (h : 0 < room) (hm : xs.length ≤ 10000) (hl : Came1 .i64 w a xs) :
    Calls Try.prog 19 #[.pointer (some ⟨b, 0, none⟩), .slice a xs.length cap] w fun e w' => e = .returned (.bool true) ∧ Below B w w' := by
  obtain ⟨G, hr, h1, h2, _⟩ := hb
  exact (same_ok b room G xs a cap w hr h hm hl).mono fun e w' hh => ⟨hh.1, hh.2.mono h2⟩

theorem Came1.later {k : IntKind} {w wr : World} {a : Option Addr} {xs : List Int} (h : Came1 k w a xs) (hb : Below w.heap.size w wr) : Came1 k wr a xs := fun i hi => by
  obtain ⟨b, off, h1, h2, h3⟩ := h i hi
  exact ⟨b, off, h1, Nat.lt_of_lt_of_le h2 hb.size, (hb.cell (p := ⟨b, off + i, none⟩) h2).trans h3⟩
theorem Came1.take {k : IntKind} {w : World} {a : Option Addr} {xs : List Int} (h : Came1 k w a xs) (n : Nat) : Came1 k w a (xs.take n) := fun i hi => by
  rw [List.length_take] at hi
  obtain ⟨b, off, h1, h2, h3⟩ := h i (by omega)
  exact ⟨b, off, h1, h2, by rw [List.getElem?_take_of_lt (by omega)]; exact h3⟩

theorem Try.sizeE27 (w : World) : (sizeOf 2).run Try.prog w = .ok 1 w := by kernel_rfl

theorem cap_of {k : IntKind} {w : World} {a : Option Addr} {len cap : Nat} {zs : List Int}
    (h : (a = none ∧ len = 0 ∧ cap = 0 ∧ zs = []) ∨ ∃ x, a = some x ∧ len ≤ cap ∧ cap ≤ maxLen ∧ zs.length = cap ∧ (∀ i, i < zs.length → w.cell? (x.add i) = some (.int k (zs.getD i 0))) ∧ ∀ n ∈ zs, (Lit.int k n).wf = true) : len ≤ cap := by
  rcases h with ⟨_, rfl, rfl, _⟩ | ⟨_, _, h1, _⟩
  · exact Nat.le_refl _
  · exact h1

theorem take_take_full {xs : List Int} {R k : Nat} (h : R ≤ k) : (xs.take R).take k = xs.take R := by rw [List.take_take]; congr 1; omega
theorem take_take_snoc {xs : List Int} {R k : Nat} {x : Int} (hx : Hid (xs[k]? = some x)) (h : k < R) : (xs.take R).take k ++ [x] = (xs.take R).take (k + 1) := by
  obtain ⟨h2, h3⟩ := List.getElem?_eq_some_iff.1 hx.out
  rw [List.take_take, List.take_take, Nat.min_eq_left (by omega), Nat.min_eq_left (by omega), List.take_succ_eq_append_getElem h2, h3]

set_option maxRecDepth 100000 in
set_option maxHeartbeats 1000000 in
theorem room_walk (room : Int) (hr0 : 0 ≤ room) (hr1 : room ≤ 255) (a : Option Addr) (cap : Nat) (xs : List Int) (w : World) (h0 : Came1 .i64 w a xs) (hm0 : xs.length ≤ maxLen) (hcap : xs.length ≤ cap) :
    Calls Try.prog 8 #[.int .u8 room, .slice a xs.length cap] w fun e w' => e = .returned (.bool true) ∧ Below w.heap.size w w' := by
  unfold maxLen at hm0
  by_cases hz : room = 0
  · subst hz
    go_enter Try.func8, Try.ntmps8
    go_wp2_with fail
    refine (alive_any _).mono ?_
    rintro e w1 ⟨rfl, hb1⟩
    go_wp2_with fail
    refine (new_no 0 _ (by omega)).mono ?_
    rintro e w2 ⟨rfl, rfl⟩
    go_wp2_with fail
    go_ret
    exact ⟨rfl, hb1⟩
  have hz1 : 1 ≤ room := by omega
  obtain ⟨R, rfl⟩ : ∃ R : Nat, room = R := ⟨room.toNat, by omega⟩
  have hcut := fun (k : Nat) (hk : k ≤ cap) (W : World) => run_cut_upto (P := Try.prog) 27 2 Try.underlying27 1 Try.sizeE27 a xs.length cap k hk W
  have Hcut := Lib.hid hcut
  clear hcut hz hr0
  go_enter Try.func8, Try.ntmps8
  go_wp2_with fail
  refine (alive_any _).mono ?_
  rintro e w1 ⟨rfl, hb1⟩
  go_wp2_with fail
  refine (new_b R _ (by omega) (by omega)).mono ?_
  rintro e w2 ⟨b, rfl, hr2, hb2⟩
  have hb12 : Below w.heap.size w w2 := hb1.trans (hb2.mono hb1.size)
  have hr := hr2.of_new hb1.size
  clear hr2 hb1 hb2
  by_cases hbig : (500 : Int) < (xs.length : Int)
  · go_wp2_with fail
    go_ret
    exact ⟨rfl, hb12⟩
  go_wp2_with fail
  go_loopw [29] (fun i wr => ∃ k : Nat, k ≤ xs.length ∧ i = .int .i64 k ∧ RB w.heap.size wr b R ((xs.take R).take k) ∧ Below w.heap.size w wr) (fun i _ => xs.length - (intOf i).toNat)
  case atStart => exact ⟨0, by omega, rfl, by simpa using hr, hb12⟩
  case round =>
    clear hr hb12
    obtain ⟨k, hk, rfl, hrr, hbr⟩ := hrel
    by_cases hlt : k < xs.length
    · obtain ⟨ba, offa, x, rfl, hx, hc⟩ := h0.at_ hbr hlt
      by_cases hkR : k < R
      · have hl1 : ((xs.take R).take k).length = k := by rw [List.length_take, List.length_take]; omega
        have hl2 : (((xs.take R).take k).length : Int) < R := by omega
        have hl3 : ((xs.take R).take k).length ≤ 10000 := by omega
        clear hl1
        go_wp2_with fail
        refine (push_b _ b R _ _ _ hrr (by omega) hl2 hl3).mono ?_
        rintro e w3 ⟨rfl, hr3, hb3⟩
        rw [take_take_snoc hx hkR] at hr3
        have hbr3 := hbr.trans hb3
        clear hb3 hrr hc hl2 hl3
        have hkR' : (k : Int) < (R : Int) := by omega
        go_wp2_with fail
        go_roundw
        case rel => exact ⟨k + 1, by omega, by go_num, hr3, hbr3⟩
        case measure => simp [intOf]; omega
      · have hl1 : ((xs.take R).take k).length = R := by rw [List.length_take, List.length_take]; omega
        have hl2 : (((xs.take R).take k).length : Int) = R := by omega
        go_wp2_with fail
        refine (push_full_b _ b R _ _ _ hrr (by omega) hl2).mono ?_
        rintro e w3 ⟨rfl, hr3, hb3⟩
        have hbr3 := hbr.trans hb3
        have heq : (xs.take R).take k = (xs.take R).take (k + 1) := by rw [take_take_full (by omega), take_take_full (by omega)]
        rw [heq] at hr3
        clear hb3 hrr hc hl1 hl2 heq
        have hkR' : ¬ (k : Int) < (R : Int) := by omega
        go_wp2_with fail
        go_roundw
        case rel => exact ⟨k + 1, by omega, by go_num, hr3, hbr3⟩
        case measure => simp [intOf]; omega
    · obtain rfl : k = xs.length := by omega
      have hts : (xs.take R).take xs.length = xs.take R := List.take_of_length_le (by rw [List.length_take]; omega)
      rw [hts] at hrr
      have hcm := (h0.later hbr).take R
      have hlm : (xs.take R).length ≤ 10000 := by rw [List.length_take]; omega
      by_cases hmn : R < xs.length
      · have hlen : (xs.take R).length = R := by rw [List.length_take]; omega
        have hmn' : (R : Int) < (xs.length : Int) := by omega
        have hct := Hcut.out R (by omega)
        have Hlen := Lib.hid hlen
        clear hts hlen hlt hk
        go_wp2_with fail
        refine (len_b _ b R _ _ hrr (by omega)).mono ?_
        rintro e w4 ⟨rfl, rfl⟩
        rw [Hlen.out]
        go_wp2_with fail
        have hsm := same_b w.heap.size b R (xs.take R) a cap wr hrr (by omega) hlm hcm
        rw [Hlen.out] at hsm
        refine hsm.mono ?_
        rintro e w4 ⟨rfl, hb4⟩
        go_wp2_with fail
        go_ret
        exact ⟨rfl, hbr.trans hb4⟩
      · have hlen : xs.take R = xs := List.take_of_length_le (by omega)
        have hmn' : ¬ (R : Int) < (xs.length : Int) := by omega
        have hct := Hcut.out xs.length (by omega)
        rw [hlen] at hrr hcm hlm
        clear hts hlen hlt hk
        go_wp2_with fail
        refine (len_b _ b R _ _ hrr (by omega)).mono ?_
        rintro e w4 ⟨rfl, rfl⟩
        go_wp2_with fail
        refine (same_b w.heap.size b R xs a cap wr hrr (by omega) hlm hcm).mono ?_
        rintro e w4 ⟨rfl, hb4⟩
        go_wp2_with fail
        go_ret
        exact ⟨rfl, hbr.trans hb4⟩

end Go.Proofs.Ytbdejcmlcjljkaa
