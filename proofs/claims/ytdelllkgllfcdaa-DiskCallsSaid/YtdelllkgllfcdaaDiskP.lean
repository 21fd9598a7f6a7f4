/-
  The walk of the law DiskKeeps: it returns true and leaves all memory that was there. Conditions: the disk's bytes can be read, the numbers are of 16 bits.
-/
import Derived.Test.YtdelllkgllfcdaaDiskI
namespace Go.Proofs.Ytdelllkgllfcdaa
open Go.RowKit

theorem kC_same (K k : Nat) : kC K K k = K := by unfold kC; simp [Nat.mod_one]
theorem frs_bound : ∀ (ls : List (List UInt8)), (∀ l ∈ ls, l.length ≤ 4000) → (frs ls).length ≤ 4007 * ls.length
  | [], _ => by simp [frs]
  | l :: ls, h => by
    have h1 := frs_bound ls (fun x hx => h x (by simp [hx]))
    have h2 := h l (by simp)
    rw [frs_cons, List.length_append, frameB_length, List.length_cons]
    omega
theorem right_of {n : Nat} {s r : Int} (h : rightB n s r = true) : ∃ s' r' : Nat, s = s' ∧ r = r' ∧ s' ≤ n ∧ n ≤ r' ∧ r' ≤ 1048576 := by
  unfold rightB at h
  rw [decide_eq_true_eq] at h
  exact ⟨s.toNat, r.toNat, by omega, by omega, by omega, by omega, by omega⟩

theorem two_cells (w : World) (T T' : TypeId) (A : Option Addr) (n c : Nat) (s r : Int) (x y : Value) : ∃ W, (w.alloc (.cells #[.slice A n c, .int .i64 s, .int .i64 r] T)).alloc (.cells #[x, y] T') = W ∧ Box W w.heap.size T A n c s r ∧ CB W (w.heap.size + 1) T' #[x, y] ∧ Below w.heap.size w W := by
  refine ⟨_, rfl, (Box.new w T A n c s r).alloc _, ?_, ((Below.refl _ _).alloc (Nat.le_refl _) _).alloc (by simp) _⟩
  have := CB.new (w.alloc (.cells #[.slice A n c, .int .i64 s, .int .i64 r] T)) T' #[x, y]
  rwa [show (w.alloc (.cells #[.slice A n c, .int .i64 s, .int .i64 r] T)).heap.size = w.heap.size + 1 by simp] at this

set_option maxRecDepth 100000 in
set_option maxHeartbeats 2000000 in
theorem keeps_walk (A : Option Addr) (n c : Nat) (s r : Int) (bs : List UInt8) (k0 k1 : Nat) (w : World) (hb : BR w w.heap.size A n c bs) (h0 : k0 < 65536) (h1 : k1 < 65536) :
    Calls Try.prog 8 #[.agg #[.slice A n c, .int .i64 s, .int .i64 r], .agg #[.int .u16 k0, .int .u16 k1]] w fun e w' => e = .returned (.bool true) ∧ Below w.heap.size w w' := by
  have hnm := hb.max
  obtain ⟨W, hW, bx, kx, hbW⟩ := two_cells w 24 50 A n c s r (.int .u16 k0) (.int .u16 k1)
  go_enter Try.func8, Try.ntmps8
  go_wp2_with fail
  try rw [hW]
  clear hW
  refine (alive_c W).mono ?_
  rintro e w1 ⟨rfl, hb1⟩
  have bx1 := bx.on hb1 bx.lt
  have kx1 := kx.same (hb1.block _ kx.lt)
  have hb01 := hbW.trans (hb1.mono hbW.size)
  clear bx kx hbW hb1
  obtain ⟨d0, d1, d2⟩ := bx1.cells
  by_cases hbig : (9000 : Int) < (n : Int)
  · go_wp2_with fail
    go_ret
    exact ⟨rfl, hb01⟩
  go_wp2_with fail
  refine (right_c A n c s r w1).mono ?_
  rintro e w2 ⟨rfl, hb2⟩
  have bx2 := bx1.on hb2 bx1.lt
  have kx2 := kx1.same (hb2.block _ kx1.lt)
  have hb02 := hb01.trans (hb2.mono hb01.size)
  clear bx1 kx1 hb01 hb2 d0 d1 d2
  cases hright : rightB n s r with
  | false =>
    clear hright
    go_wp2_with fail
    go_ret
    exact ⟨rfl, hb02⟩
  | true =>
    obtain ⟨s', r', rfl, rfl, hs, hr, hr2⟩ := right_of hright
    clear hright
    obtain ⟨d0, d1, d2⟩ := bx2.cells
    have m0 := kx2.cell 0
    have m1 := kx2.cell 1
    simp at m0 m1
    have q1 : IntKind.i64.wrap ((n : Int) - (s' : Int) + 1) = (n : Int) - (s' : Int) + 1 := IntWalk.i64_in _ (by omega)
    have q2 : IntKind.i64.wrap ((k0 : Int)) = (k0 : Int) := IntWalk.i64_in _ (by omega)
    have q2' : IntKind.i64.wrap ((k1 : Int)) = (k1 : Int) := IntWalk.i64_in _ (by omega)
    have q3 : ¬ (n : Int) - (s' : Int) + 1 = 0 := by omega
    obtain ⟨a, ha⟩ : ∃ a, k0 % (n - s' + 1) = a := ⟨_, rfl⟩
    obtain ⟨b, hb'⟩ : ∃ b, k1 % (n - s' + 1) = b := ⟨_, rfl⟩
    have hal : a < n - s' + 1 := by rw [← ha]; exact Nat.mod_lt _ (by omega)
    have hbl : b < n - s' + 1 := by rw [← hb']; exact Nat.mod_lt _ (by omega)
    have Ha := Lib.hid (show (k0 : Int) % ((n : Int) - (s' : Int) + 1) = (a : Int) by rw [← ha, Int.natCast_emod, show ((n - s' + 1 : Nat) : Int) = (n : Int) - (s' : Int) + 1 by omega])
    have Hb := Lib.hid (show (k1 : Int) % ((n : Int) - (s' : Int) + 1) = (b : Int) by rw [← hb', Int.natCast_emod, show ((n - s' + 1 : Nat) : Int) = (n : Int) - (s' : Int) + 1 by omega])
    clear ha hb'
    go_wp2_with fail
    go_quiet (fail)
    rw [Ha.out, Hb.out]
    clear q1 q2 q2' q3 m0 m1 d0 d1 d2
    have bxN := bx2.drewN nq
    have hbN := belowN hb02 nq
    clear bx2 kx2 hb02
    generalize w2.drewN nq = w3 at *
    have hx3 := hb.on hbN
    obtain ⟨d0, d1, d2⟩ := bxN.cells
    obtain ⟨p, hp⟩ : ∃ p, min a b = p := ⟨_, rfl⟩
    obtain ⟨q, hq⟩ : ∃ q, max a b = q := ⟨_, rfl⟩
    have hpq : p ≤ q := by omega
    have hq1 : q < n - s' + 1 := by omega
    have hkk : kC n s' p ≤ kC n s' q := by
      unfold kC
      rw [Nat.mod_eq_of_lt (by omega), Nat.mod_eq_of_lt hq1]
      omega
    have hkp := (kC_le (k := p) hs).2
    have hkq := (kC_le (k := q) hs).2
    obtain ⟨R, hR⟩ := aC_less bs hkk
    have HR := Lib.hid hR
    clear hR
    have hcase : (a < b ∧ ¬ b < a ∧ p = a ∧ q = b) ∨ (b < a ∧ ¬ a < b ∧ p = b ∧ q = a) ∨ (a = b ∧ p = a ∧ q = a) := by omega
    clear hp hq
    rcases hcase with ⟨hab, hab', rfl, rfl⟩ | ⟨hab, hab', rfl, rfl⟩ | ⟨rfl, rfl, rfl⟩
    · go_wp2_with fail
      refine (crash_d A n c s' p r' bs w3 hx3 (by omega) hs (by omega)).mono ?_
      rintro e w4 ⟨A4, c4, rfl, hx4, hb4⟩
      have bx4 := bxN.on hb4 bxN.lt
      have hb04 := hbN.trans (hb4.mono hbN.size)
      have hd4 := hx3.on hb4
      clear bxN hbN hx3 hb4 d0 d1 d2
      obtain ⟨d0, d1, d2⟩ := bx4.cells
      go_wp2_with fail
      refine (records_d A4 _ c4 _ r' _ w4 hx4 (by omega)).mono ?_
      rintro e w5 h5
      obtain ⟨A5, n5, c5, rfl, hl5, hb5⟩ := h5.toA
      have bx5 := bx4.on hb5 bx4.lt
      have hb05 := hb04.trans (hb5.mono hb04.size)
      have hd5 := hd4.on hb5
      clear bx4 hb04 hd4 hb5 hx4 d0 d1 d2 h5
      obtain ⟨d0, d1, d2⟩ := bx5.cells
      generalize aN (bs.take (kC n s' p)) = NP at *
      go_wp2_with fail
      refine (crash_d A n c s' q r' bs w5 hd5 (by omega) hs (by omega)).mono ?_
      rintro e w6 ⟨A6, c6, rfl, hx6, hb6⟩
      have hb06 := hb05.trans (hb6.mono hb05.size)
      have hl6 := hl5.on hb6
      clear bx5 hb05 hd5 hb6 hl5 d0 d1 d2
      go_wp2_with fail
      refine (records_d A6 _ c6 _ r' _ w6 hx6 (by omega)).mono ?_
      rintro e w7 h7
      obtain ⟨A7, n7, c7, rfl, hl7, hb7⟩ := h7.toA
      have hb07 := hb06.trans (hb7.mono hb06.size)
      have hl67 := hl6.on hb7
      clear hb06 hb7 hx6 hl6 h7
      have hlen : n5 ≤ n7 := by have h8 := hl67.1; have h9 := hl7.1; rw [HR.out, List.length_append] at h9; omega
      have hn7 := hl7.max
      obtain ⟨hcut, hl8⟩ := lcut_upto hl7 n5 n5 rfl hlen
      rw [HR.out, List.take_left' hl67.1] at hl8
      generalize aN (bs.take (kC n s' q)) = NQ at *
      clear hl7
      go_wp2_with (go_at_call 16; refine (same_yes A5 A7 n5 c5 c7 _ _ hl67 hl8).mono ?_; rintro e w9 ⟨rfl, hb9⟩)
      go_ret
      exact ⟨rfl, hb07.trans (hb9.mono hb07.size)⟩
    · go_wp2_with fail
      refine (crash_d A n c s' p r' bs w3 hx3 (by omega) hs (by omega)).mono ?_
      rintro e w4 ⟨A4, c4, rfl, hx4, hb4⟩
      have bx4 := bxN.on hb4 bxN.lt
      have hb04 := hbN.trans (hb4.mono hbN.size)
      have hd4 := hx3.on hb4
      clear bxN hbN hx3 hb4 d0 d1 d2
      obtain ⟨d0, d1, d2⟩ := bx4.cells
      go_wp2_with fail
      refine (records_d A4 _ c4 _ r' _ w4 hx4 (by omega)).mono ?_
      rintro e w5 h5
      obtain ⟨A5, n5, c5, rfl, hl5, hb5⟩ := h5.toA
      have bx5 := bx4.on hb5 bx4.lt
      have hb05 := hb04.trans (hb5.mono hb04.size)
      have hd5 := hd4.on hb5
      clear bx4 hb04 hd4 hb5 hx4 d0 d1 d2 h5
      obtain ⟨d0, d1, d2⟩ := bx5.cells
      generalize aN (bs.take (kC n s' p)) = NP at *
      go_wp2_with fail
      refine (crash_d A n c s' q r' bs w5 hd5 (by omega) hs (by omega)).mono ?_
      rintro e w6 ⟨A6, c6, rfl, hx6, hb6⟩
      have hb06 := hb05.trans (hb6.mono hb05.size)
      have hl6 := hl5.on hb6
      clear bx5 hb05 hd5 hb6 hl5 d0 d1 d2
      go_wp2_with fail
      refine (records_d A6 _ c6 _ r' _ w6 hx6 (by omega)).mono ?_
      rintro e w7 h7
      obtain ⟨A7, n7, c7, rfl, hl7, hb7⟩ := h7.toA
      have hb07 := hb06.trans (hb7.mono hb06.size)
      have hl67 := hl6.on hb7
      clear hb06 hb7 hx6 hl6 h7
      have hlen : n5 ≤ n7 := by have h8 := hl67.1; have h9 := hl7.1; rw [HR.out, List.length_append] at h9; omega
      have hn7 := hl7.max
      obtain ⟨hcut, hl8⟩ := lcut_upto hl7 n5 n5 rfl hlen
      rw [HR.out, List.take_left' hl67.1] at hl8
      generalize aN (bs.take (kC n s' q)) = NQ at *
      clear hl7
      go_wp2_with (go_at_call 16; refine (same_yes A5 A7 n5 c5 c7 _ _ hl67 hl8).mono ?_; rintro e w9 ⟨rfl, hb9⟩)
      go_ret
      exact ⟨rfl, hb07.trans (hb9.mono hb07.size)⟩
    · go_wp2_with fail
      refine (crash_d A n c s' q r' bs w3 hx3 (by omega) hs (by omega)).mono ?_
      rintro e w4 ⟨A4, c4, rfl, hx4, hb4⟩
      have bx4 := bxN.on hb4 bxN.lt
      have hb04 := hbN.trans (hb4.mono hbN.size)
      have hd4 := hx3.on hb4
      clear bxN hbN hx3 hb4 d0 d1 d2
      obtain ⟨d0, d1, d2⟩ := bx4.cells
      go_wp2_with fail
      refine (records_d A4 _ c4 _ r' _ w4 hx4 (by omega)).mono ?_
      rintro e w5 h5
      obtain ⟨A5, n5, c5, rfl, hl5, hb5⟩ := h5.toA
      have bx5 := bx4.on hb5 bx4.lt
      have hb05 := hb04.trans (hb5.mono hb04.size)
      have hd5 := hd4.on hb5
      clear bx4 hb04 hd4 hb5 hx4 d0 d1 d2 h5
      obtain ⟨d0, d1, d2⟩ := bx5.cells
      generalize aN (bs.take (kC n s' q)) = NP at *
      go_wp2_with fail
      refine (crash_d A n c s' q r' bs w5 hd5 (by omega) hs (by omega)).mono ?_
      rintro e w6 ⟨A6, c6, rfl, hx6, hb6⟩
      have hb06 := hb05.trans (hb6.mono hb05.size)
      have hl6 := hl5.on hb6
      clear bx5 hb05 hd5 hb6 hl5 d0 d1 d2
      go_wp2_with fail
      refine (records_d A6 _ c6 _ r' _ w6 hx6 (by omega)).mono ?_
      rintro e w7 h7
      obtain ⟨A7, n7, c7, rfl, hl7, hb7⟩ := h7.toA
      have hb07 := hb06.trans (hb7.mono hb06.size)
      have hl67 := hl6.on hb7
      clear hb06 hb7 hx6 hl6 h7
      have hlen : n5 ≤ n7 := by have h8 := hl67.1; have h9 := hl7.1; rw [HR.out, List.length_append] at h9; omega
      have hn7 := hl7.max
      obtain ⟨hcut, hl8⟩ := lcut_upto hl7 n5 n5 rfl hlen
      rw [HR.out, List.take_left' hl67.1] at hl8
      generalize aN (bs.take (kC n s' q)) = NQ at *
      clear hl7
      go_wp2_with (go_at_call 16; refine (same_yes A5 A7 n5 c5 c7 _ _ hl67 hl8).mono ?_; rintro e w9 ⟨rfl, hb9⟩)
      go_ret
      exact ⟨rfl, hb07.trans (hb9.mono hb07.size)⟩
end Go.Proofs.Ytdelllkgllfcdaa
