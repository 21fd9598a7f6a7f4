/-
  The calls of package ring at int64 as a law sees them: from block B on memory is the law's own, and below B nothing turns. Conditions: as in the text on the calls themselves.
-/
import Derived.Test.YtbdejcmlcjljkaaRingA
namespace Go.Proofs.Ytbdejcmlcjljkaa
open Go.RowKit

/-- A queue that lies from block B on. -/
def RB (B : Nat) (w : World) (b : Nat) (room : Int) (xs : List Int) : Prop := ∃ G, RG w b room G xs ∧ B ≤ b ∧ B ≤ w.heap.size ∧ ∀ g, G = some g → B ≤ g

theorem RB.drewN {B : Nat} {w : World} {b : Nat} {room : Int} {xs : List Int} (h : RB B w b room xs) (k : Nat) : RB B (w.drewN k) b room xs := by
  obtain ⟨G, ⟨A, n, c, h1, h2⟩, h3⟩ := h
  exact ⟨G, ⟨A, n, c, h1.drewN k, h2.drewN k⟩, h3⟩
theorem below_drewN {B : Nat} {a w : World} (h : Below B a w) (n : Nat) : Below B a (w.drewN n) := ⟨h.os, h.tape, h.output, h.size, h.block⟩

theorem new_b (room : Int) (w : World) (h1 : 1 ≤ room) (h2 : room ≤ 10000) :
    Calls Try.prog 10 #[.int .i64 room] w fun e w' => ∃ b, e = .returned (.pointer (some ⟨b, 0, none⟩)) ∧ RB w.heap.size w' b room [] ∧ Below w.heap.size w w' :=
  (new_yes room w h1 h2).mono fun e w' ⟨he, hr, hw⟩ => ⟨w.heap.size, he, ⟨none, hr, Nat.le_refl _, by rw [hw]; simp, fun _ h => by cases h⟩, by rw [hw]; exact (Below.refl _ _).alloc (Nat.le_refl _) _⟩

theorem push_b (B : Nat) (b : Nat) (room : Int) (xs : List Int) (x : Int) (w : World) (hb : RB B w b room xs) (h : 0 < room) (hl : (xs.length : Int) < room) (hm : xs.length ≤ 10000) :
    Calls Try.prog 18 #[.pointer (some ⟨b, 0, none⟩), .int .i64 x] w fun e w' => e = .returned (.int .i64 0) ∧ RB B w' b room (xs ++ [x]) ∧ Below B w w' := by
  obtain ⟨G, hr, h1, h2, h3⟩ := hb
  refine (push_ok b room G xs x w hr h hl hm).mono ?_
  rintro e w' ⟨he, G', hr', ho, hmv⟩
  refine ⟨he, ⟨G', hr', h1, Nat.le_trans h2 ho.size, fun g hg => ?_⟩, ho.below h2 h1 h3⟩
  rcases hmv with rfl | ⟨g', rfl, hg'⟩
  · exact h3 g hg
  · cases hg
    omega

theorem push_full_b (B : Nat) (b : Nat) (room : Int) (xs : List Int) (x : Int) (w : World) (hb : RB B w b room xs) (h : 0 < room) (hl : (xs.length : Int) = room) :
    Calls Try.prog 18 #[.pointer (some ⟨b, 0, none⟩), .int .i64 x] w fun e w' => e = .returned (.int .i64 6) ∧ RB B w' b room xs ∧ Below B w w' := by
  have hb0 := hb
  obtain ⟨G, hr, h1, h2, h3⟩ := hb
  refine (push_full b room G xs x w hr h hl).mono ?_
  rintro e w' ⟨he, k, rfl⟩
  exact ⟨he, hb0.drewN k, below_drewN (Below.refl _ _) k⟩

theorem pop_b (B : Nat) (b : Nat) (room : Int) (x : Int) (xs : List Int) (w : World) (hb : RB B w b room (x :: xs)) (h : 0 < room) :
    Calls Try.prog 12 #[.pointer (some ⟨b, 0, none⟩)] w fun e w' => e = .returned (.tuple #[.int .i64 x, .int .i64 0]) ∧ RB B w' b room xs ∧ Below B w w' := by
  obtain ⟨G, hr, h1, h2, h3⟩ := hb
  refine (pop_ok b room G x xs w hr h).mono ?_
  rintro e w' ⟨he, hr', ho⟩
  exact ⟨he, ⟨G, hr', h1, Nat.le_trans h2 ho.size, h3⟩, ho.below h2 h1 h3⟩

theorem pop_no_b (B : Nat) (b : Nat) (room : Int) (w : World) (hb : RB B w b room []) (h : 0 < room) :
    Calls Try.prog 12 #[.pointer (some ⟨b, 0, none⟩)] w fun e w' => e = .returned (.tuple #[.int .i64 0, .int .i64 7]) ∧ w = w' := by
  obtain ⟨G, hr, _⟩ := hb
  exact pop_no b room G w hr h

theorem len_b (B : Nat) (b : Nat) (room : Int) (xs : List Int) (w : World) (hb : RB B w b room xs) (h : 0 < room) :
    Calls Try.prog 20 #[.pointer (some ⟨b, 0, none⟩)] w fun e w' => e = .returned (.int .i64 xs.length) ∧ w = w' := by
  obtain ⟨G, hr, _⟩ := hb
  exact len_any b room G xs w hr h

theorem at_b (B : Nat) (b : Nat) (room : Int) (xs : List Int) (i : Nat) (x : Int) (w : World) (hb : RB B w b room xs) (h : 0 < room) (hx : xs[i]? = some x) :
    Calls Try.prog 15 #[.pointer (some ⟨b, 0, none⟩), .int .i64 i] w fun e w' => e = .returned (.tuple #[.int .i64 x, .int .i64 0]) ∧ w = w' := by
  obtain ⟨G, hr, _⟩ := hb
  exact at_ok b room G xs i x w hr h hx

set_option maxHeartbeats 400000 in
theorem alive_any (w : World) : Calls Try.prog 9 #[] w fun e w' => e = .returned (.bool true) ∧ Below w.heap.size w w' := by
  go_enter Try.func9, Try.ntmps9
  go_wp2_with fail
  refine (new_b 2 _ (by omega) (by omega)).mono ?_
  rintro e w1 ⟨b, rfl, hr1, hb1⟩
  go_wp2_with fail
  refine (push_b _ b 2 [] 5 _ hr1 (by omega) (by simp) (by simp)).mono ?_
  rintro e w2 ⟨rfl, hr2, hb2⟩
  go_wp2_with fail
  refine (push_b _ b 2 _ 6 _ hr2 (by omega) (by simp) (by simp)).mono ?_
  rintro e w3 ⟨rfl, hr3, hb3⟩
  go_wp2_with fail
  refine (push_full_b _ b 2 _ 7 _ hr3 (by omega) (by simp)).mono ?_
  rintro e w4 ⟨rfl, hr4, hb4⟩
  go_wp2_with fail
  refine (pop_b _ b 2 5 [6] _ hr4 (by omega)).mono ?_
  rintro e w5 ⟨rfl, hr5, hb5⟩
  go_wp2_with fail
  refine (at_b _ b 2 [6] 0 6 _ hr5 (by omega) rfl).mono ?_
  rintro e w6 ⟨rfl, rfl⟩
  go_wp2_with fail
  refine (len_b _ b 2 [6] _ hr5 (by omega)).mono ?_
  rintro e w6 ⟨rfl, rfl⟩
  go_wp2_with fail
  go_ret
  exact ⟨rfl, (((hb1.trans hb2).trans hb3).trans hb4).trans hb5⟩

end Go.Proofs.Ytbdejcmlcjljkaa
