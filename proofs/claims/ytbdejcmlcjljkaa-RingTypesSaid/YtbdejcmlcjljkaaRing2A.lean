/-
  The calls of package ring at [2]int64: what New, Push, Pop, At, Len and Drop return, and what they leave in memory. Conditions: the queue is one that New made (its room is above 0), as the predicate RG2 says.
-/
import Derived.Test.YtbdejcmlcjljkaaRingE
import Derived.Test.YtbdejcmlcjljkaaMemC
import Derived.Deep.RegionHeld3
namespace Go.Proofs.Ytbdejcmlcjljkaa
open Go.RowKit

/-- The cells of a row of pairs. -/
def cells2 (xs : List (Int × Int)) : List Value := xs.flatMap fun p => [.int .i64 p.1, .int .i64 p.2]
theorem cells2_length (xs : List (Int × Int)) : (cells2 xs).length = xs.length * 2 := by
  induction xs with
  | nil => rfl
  | cons p r ih => simp only [cells2, List.flatMap_cons, List.length_append, List.length_cons, List.length_nil] at ih ⊢; omega
theorem cells2_append (xs ys : List (Int × Int)) : cells2 (xs ++ ys) = cells2 xs ++ cells2 ys := by simp [cells2]
theorem cells2_drop (xs : List (Int × Int)) (k : Nat) : (cells2 xs).drop (k * 2) = cells2 (xs.drop k) := by
  induction k generalizing xs with
  | zero => simp
  | succ k ih =>
    cases xs with
    | nil => simp [cells2]
    | cons p r => rw [show (k + 1) * 2 = k * 2 + 2 by omega]; exact ih r
theorem cells2_take (xs : List (Int × Int)) (k : Nat) : (cells2 xs).take (k * 2) = cells2 (xs.take k) := by
  induction k generalizing xs with
  | zero => simp [cells2]
  | succ k ih =>
    cases xs with
    | nil => simp [cells2]
    | cons p r =>
      rw [show (k + 1) * 2 = k * 2 + 2 by omega]
      have := ih r
      simp only [cells2, List.flatMap_cons, List.take_succ_cons, List.cons_append, List.nil_append] at this ⊢
      rw [this]
theorem cells2_at {xs : List (Int × Int)} {i : Nat} {p : Int × Int} (h : xs[i]? = some p) : (cells2 xs)[i * 2]? = some (.int .i64 p.1) ∧ (cells2 xs)[i * 2 + 1]? = some (.int .i64 p.2) := by
  induction xs generalizing i with
  | nil => simp at h
  | cons q r ih =>
    cases i with
    | zero =>
      simp at h
      subst h
      simp [cells2]
    | succ i =>
      have := ih (i := i) (by simpa using h)
      rw [show (i + 1) * 2 = i * 2 + 2 by omega]
      exact this
theorem cells2_one (xs : List (Int × Int)) : ∀ u ∈ cells2 xs, u.oneCell' = true := by
  intro u hu
  simp only [cells2, List.mem_flatMap] at hu
  obtain ⟨p, _, hp⟩ := hu
  simp at hp
  rcases hp with rfl | rfl <;> rfl

/-- A queue: its struct is block b; its array, if there is one, is block G; it holds xs. -/
def RG2 (w : World) (b : Nat) (room : Int) (G : Option Nat) (xs : List (Int × Int)) : Prop :=
  ∃ A n c, CB w b 78 #[.int .i64 room, .slice A n c] ∧ Seg w 65 2 A n c (cells2 xs) G

theorem created2 (b : Nat) (room : Int) (v : Value) (w : World) (hb : CB w b 78 #[.int .i64 room, v]) (h : 0 < room) :
    Calls Try.prog 41 #[.pointer (some ⟨b, 0, none⟩)] w fun e w' => e = .returned (.bool true) ∧ w = w' := by
  have c0 := hb.cell 0
  simp at c0
  go_enter Try.func41, Try.ntmps41
  go_wp2
  go_ret
  exact ⟨rfl, rfl⟩

theorem len2 (b : Nat) (room : Int) (G : Option Nat) (xs : List (Int × Int)) (w : World) (hb : RG2 w b room G xs) (h : 0 < room) :
    Calls Try.prog 32 #[.pointer (some ⟨b, 0, none⟩)] w fun e w' => e = .returned (.int .i64 xs.length) ∧ w = w' := by
  obtain ⟨A, n, c, hb, hs⟩ := hb
  have hn : n = xs.length := by have := hs.1; rw [cells2_length] at this; omega
  subst hn
  have c1 := hb.cell 1
  simp at c1
  go_enter Try.func32, Try.ntmps32
  go_wp2_with (go_at_call 41; refine (created2 b room _ _ hb h).mono ?_; rintro e w' ⟨rfl, rfl⟩)
  go_ret
  exact ⟨rfl, rfl⟩

theorem new2 (room : Int) (w : World) (h1 : 1 ≤ room) (h2 : room ≤ 10000) :
    Calls Try.prog 28 #[.int .i64 room] w fun e w' => e = .returned (.pointer (some ⟨w.heap.size, 0, none⟩)) ∧ RG2 w' w.heap.size room none [] ∧ w' = w.alloc (.cells #[.int .i64 room, .slice none 0 0] 78) := by
  go_enter Try.func28, Try.ntmps28
  go_wp2
  go_ret
  exact ⟨rfl, ⟨none, 0, 0, CB.new _ _ _, Seg.nil _ _ _⟩, rfl⟩

theorem new2_no (room : Int) (w : World) (h1 : room < 1 ∨ 10000 < room) :
    Calls Try.prog 28 #[.int .i64 room] w fun e w' => e = .returned (.pointer none) ∧ w = w' := by
  rcases h1 with h1 | h1
  · go_enter Try.func28, Try.ntmps28
    go_wp2
    go_ret
    exact ⟨rfl, rfl⟩
  · have h2 : ¬ room < 1 := by omega
    go_enter Try.func28, Try.ntmps28
    go_wp2
    go_ret
    exact ⟨rfl, rfl⟩

theorem find2_ok (b : Nat) (room : Int) (G : Option Nat) (xs : List (Int × Int)) (i : Int) (w : World) (hb : RG2 w b room G xs) (h : 0 < room) (h0 : 0 ≤ i) (h1 : i < xs.length) :
    Calls Try.prog 40 #[.pointer (some ⟨b, 0, none⟩), .int .i64 i] w fun e w' => e = .returned (.int .i64 0) ∧ w = w' := by
  obtain ⟨A, n, c, hb, hs⟩ := hb
  have hn : n = xs.length := by have := hs.1; rw [cells2_length] at this; omega
  subst hn
  have c1 := hb.cell 1
  simp at c1
  go_enter Try.func40, Try.ntmps40
  go_wp2_with (go_at_call 41; refine (created2 b room _ _ hb h).mono ?_; rintro e w' ⟨rfl, rfl⟩)
  go_ret
  exact ⟨rfl, rfl⟩

theorem find2_no (b : Nat) (room : Int) (G : Option Nat) (xs : List (Int × Int)) (i : Int) (w : World) (hb : RG2 w b room G xs) (h : 0 < room) (h0 : i < 0 ∨ xs.length ≤ i) :
    Calls Try.prog 40 #[.pointer (some ⟨b, 0, none⟩), .int .i64 i] w fun e w' => e = .returned (.int .i64 7) ∧ w = w' := by
  obtain ⟨A, n, c, hb, hs⟩ := hb
  have hn : n = xs.length := by have := hs.1; rw [cells2_length] at this; omega
  subst hn
  have c1 := hb.cell 1
  simp at c1
  rcases h0 with h0 | h0
  · go_enter Try.func40, Try.ntmps40
    go_wp2_with (go_at_call 41; refine (created2 b room _ _ hb h).mono ?_; rintro e w' ⟨rfl, rfl⟩)
    go_ret
    exact ⟨rfl, rfl⟩
  · have h2 : ¬ i < 0 := by omega
    go_enter Try.func40, Try.ntmps40
    go_wp2_with (go_at_call 41; refine (created2 b room _ _ hb h).mono ?_; rintro e w' ⟨rfl, rfl⟩)
    go_ret
    exact ⟨rfl, rfl⟩

theorem at2_ok (b : Nat) (room : Int) (G : Option Nat) (xs : List (Int × Int)) (i : Nat) (p : Int × Int) (w : World) (hb : RG2 w b room G xs) (h : 0 < room) (hx : xs[i]? = some p) :
    Calls Try.prog 39 #[.pointer (some ⟨b, 0, none⟩), .int .i64 i] w fun e w' => e = .returned (.tuple #[.agg #[.int .i64 p.1, .int .i64 p.2], .int .i64 0]) ∧ Below w.heap.size w w' := by
  obtain ⟨hlt, _⟩ := List.getElem?_eq_some_iff.1 hx
  have hb0 := hb
  obtain ⟨A, n, c, hb, hs⟩ := hb
  have hn : n = xs.length := by have := hs.1; rw [cells2_length] at this; omega
  subst hn
  have hi' : (i : Int) < (xs.length : Int) := by omega
  obtain ⟨u1, u2⟩ := cells2_at hx
  obtain ⟨p1, p2⟩ := p
  obtain ⟨g, off, rfl, rfl, hc⟩ := hs.at_ u1
  obtain ⟨g', off', e1, _, hc2⟩ := hs.at_ u2
  cases e1
  rw [← Nat.add_assoc] at hc2
  have hg := hs.lt g rfl
  have hbl := hb.lt
  have hb1 := hb.alloc (.cells #[.int .i64 0, .int .i64 0] 65)
  have hB : Below w.heap.size w (w.alloc (.cells #[.int .i64 0, .int .i64 0] 65)) := (Below.refl _ _).alloc (Nat.le_refl _) _
  have hr1 : RG2 (w.alloc (.cells #[.int .i64 0, .int .i64 0] 65)) b room (some g) xs := ⟨_, _, _, hb1, hs.alloc _⟩
  have c1 := hb1.cell 1
  simp only [List.getElem?_toArray, List.getElem?_cons_succ, List.getElem?_cons_zero] at c1
  clear hx hs u1 u2
  go_enter Try.func39, Try.ntmps39
  go_wp2_with fail
  refine (find2_ok b room _ xs i _ hr1 h (by omega) hi').mono ?_
  rintro e w' ⟨rfl, rfl⟩
  go_wp2_with fail
  exact bodyPost_ret (v := .tuple #[.agg #[.int .i64 p1, .int .i64 p2], .int .i64 0]) (by simp [results, Try.results39, go_sem]) rfl ⟨rfl, (Below.refl _ _).alloc (Nat.le_refl _) _⟩

theorem at2_no (b : Nat) (room : Int) (G : Option Nat) (xs : List (Int × Int)) (i : Int) (w : World) (hb : RG2 w b room G xs) (h : 0 < room) (hi : i < 0 ∨ xs.length ≤ i) :
    Calls Try.prog 39 #[.pointer (some ⟨b, 0, none⟩), .int .i64 i] w fun e w' => e = .returned (.tuple #[.agg #[.int .i64 0, .int .i64 0], .int .i64 7]) ∧ Below w.heap.size w w' := by
  obtain ⟨A, n, c, q1, q2⟩ := hb
  have hr1 : RG2 (w.alloc (.cells #[.int .i64 0, .int .i64 0] 65)) b room G xs := ⟨_, _, _, q1.alloc _, q2.alloc _⟩
  go_enter Try.func39, Try.ntmps39
  go_wp2_with fail
  refine (find2_no b room _ xs i _ hr1 h hi).mono ?_
  rintro e w' ⟨rfl, rfl⟩
  go_wp2_with fail
  exact bodyPost_ret (v := .tuple #[.agg #[.int .i64 0, .int .i64 0], .int .i64 7]) (by simp [results, Try.results39, go_sem]) rfl ⟨rfl, ((Below.refl _ _).alloc (Nat.le_refl _) _).alloc (by simp) _⟩

theorem RG2.below {B : Nat} {w w' : World} {b : Nat} {room : Int} {G : Option Nat} {xs : List (Int × Int)} (h : RG2 w b room G xs) (hB : Below B w w') (h1 : b < B) (h2 : ∀ g, G = some g → g < B) : RG2 w' b room G xs := by
  obtain ⟨A, n, c, q1, q2⟩ := h
  exact ⟨A, n, c, q1.same (hB.block b h1), q2.keep fun g hg => hB.block g (h2 g hg)⟩
theorem RG2.lt {w : World} {b : Nat} {room : Int} {G : Option Nat} {xs : List (Int × Int)} (h : RG2 w b room G xs) : b < w.heap.size ∧ ∀ g, G = some g → g < w.heap.size := by
  obtain ⟨A, n, c, q1, q2⟩ := h
  exact ⟨q1.lt, q2.lt⟩

theorem pop2_no (b : Nat) (room : Int) (G : Option Nat) (w : World) (hb : RG2 w b room G []) (h : 0 < room) :
    Calls Try.prog 29 #[.pointer (some ⟨b, 0, none⟩)] w fun e w' => e = .returned (.tuple #[.agg #[.int .i64 0, .int .i64 0], .int .i64 7]) ∧ Below w.heap.size w w' := by
  have hB : Below w.heap.size w (w.alloc (.cells #[.int .i64 0, .int .i64 0] 65)) := (Below.refl _ _).alloc (Nat.le_refl _) _
  have hr1 := hb.below hB hb.lt.1 hb.lt.2
  have k1 := CB.new w 65 #[.int .i64 0, .int .i64 0]
  go_enter Try.func29, Try.ntmps29
  go_wp2_with fail
  refine (at2_no b room _ [] 0 _ hr1 h (by simp)).mono ?_
  rintro e w1 ⟨rfl, hb1⟩
  have k2 := k1.same (hb1.block _ k1.lt)
  have hs1 := hb1.size
  simp only [World.size_alloc] at hs1 hb1
  have k3 := k2.alloc (.cells #[.int .i64 0, .int .i64 0] 65)
  have f0 := k3.cell 0
  have f1 := k3.cell 1
  have f2 := k3.frozen 0
  have f3 := k3.frozen 1
  simp only [List.getElem?_toArray, List.getElem?_cons_succ, List.getElem?_cons_zero] at f0 f1
  have hne : w1.heap.size ≠ w.heap.size := by omega
  go_wp2_with fail
  have k4 := (k3.put 0 (.int .i64 0)).put 1 (.int .i64 0)
  have g0 := k4.cell 0
  have g1 := k4.cell 1
  simp at g0 g1
  exact bodyPost_ret (v := .tuple #[.agg #[.int .i64 0, .int .i64 0], .int .i64 7]) (by simp [results, Try.results29, go_sem, g0, g1]) rfl
    ⟨rfl, (((hB.trans (hb1.mono (by omega))).alloc (by omega) _).setCell (p := ⟨w.heap.size, 0, none⟩) (Nat.le_refl _) _).setCell (p := ⟨w.heap.size, 1, none⟩) (Nat.le_refl _) _⟩

theorem Try.zero2 (w : World) : (zeroValue 65).run Try.prog w = .ok (.agg #[.int .i64 0, .int .i64 0]) w := by kernel_rfl
theorem Try.size2 (w : World) : (sizeOf 65).run Try.prog w = .ok 2 w := by kernel_rfl
theorem Try.info2 : (Try.prog.info? 65).map (fun i => (i.zero, i.size, i.bytes)) = some (some (.agg #[.int .i64 0, .int .i64 0]), 2, 16) := by kernel_rfl

theorem run_clear_first {P : Program} (w : World) (t e : TypeId) (z : Value) (size : Nat) (hsz : z.cells.size = size) (ht : P.underlying t = some (.slice e)) (hv : ∀ w, (zeroValue e).run P w = .ok z w) (hone : ∀ u ∈ z.cells, u.oneCell' = true)
    {A : Option Addr} {n c : Nat} {xs : List Value} {G : Option Nat} (h : Seg w e size A n c xs G) (m : Nat) (hm : m ≤ n) (hpos : 0 < size) :
    ∃ w' ys, (∀ ty k, (Builtin.clear_ #[t] ty #[.slice A m k]).run P w = .ok (.tuple #[]) w') ∧ Seg w' e size A n c (ys ++ xs.drop (m * size)) G ∧ ys.length = m * size ∧ w.grownBy w' G := by
  subst hsz
  exact run_clear_seg w t e z ht hv hone h m hm hpos

set_option maxRecDepth 100000 in
set_option maxHeartbeats 400000 in
theorem pop2_ok (b : Nat) (room : Int) (G : Option Nat) (p1 p2 : Int) (xs : List (Int × Int)) (w : World) (hb : RG2 w b room G ((p1, p2) :: xs)) (h : 0 < room) :
    Calls Try.prog 29 #[.pointer (some ⟨b, 0, none⟩)] w fun e w' => e = .returned (.tuple #[.agg #[.int .i64 p1, .int .i64 p2], .int .i64 0]) ∧ RG2 w' b room G xs ∧ Only w w' b G := by
  have hB : Below w.heap.size w (w.alloc (.cells #[.int .i64 0, .int .i64 0] 65)) := (Below.refl _ _).alloc (Nat.le_refl _) _
  have hlt := hb.lt
  have hr1 := hb.below hB hlt.1 hlt.2
  have k1 := CB.new w 65 #[.int .i64 0, .int .i64 0]
  go_enter Try.func29, Try.ntmps29
  go_wp2_with fail
  refine (at2_ok b room _ _ 0 (p1, p2) _ hr1 h rfl).mono ?_
  rintro e w1 ⟨rfl, hb1⟩
  have k2 := k1.same (hb1.block _ k1.lt)
  have hs1 := hb1.size
  simp only [World.size_alloc] at hs1 hb1
  have hr2 := hr1.below hb1 (by have := hlt.1; omega) (fun g hg => by have := hlt.2 g hg; omega)
  have hon1 : Only w w1 b G := ⟨hb1.os, hb1.tape, hb1.output, by omega, fun i hi _ _ => (hb1.block i (by omega)).trans (Below.heap_alloc w _ i hi)⟩
  obtain ⟨w2, hw2⟩ : ∃ w2, w2 = w1.alloc (.cells #[.int .i64 p1, .int .i64 p2] 65) := ⟨_, rfl⟩
  have k3 : CB w2 w.heap.size 65 #[.int .i64 0, .int .i64 0] := by rw [hw2]; exact k2.alloc _
  have x3 : CB w2 w1.heap.size 65 #[.int .i64 p1, .int .i64 p2] := by rw [hw2]; exact CB.new _ _ _
  have hr3 : RG2 w2 b room G ((p1, p2) :: xs) := by rw [hw2]; exact hr2.below ((Below.refl _ _).alloc (Nat.le_refl _) _) hr2.lt.1 hr2.lt.2
  have hon2 : Only w w2 b G := by rw [hw2]; exact hon1.alloc _
  have Hw2 := Lib.hid hw2
  clear hw2 hr2 hr1 hb1 k2 hon1 hb hB k1
  obtain ⟨A, n, c, q1, q2⟩ := hr3
  have hn : n = xs.length + 1 := by have := q2.1; rw [cells2_length] at this; simp at this; omega
  subst hn
  have hc1 : 1 ≤ c := by have := q2.2.1; omega
  obtain ⟨w3, ys, hclr, hs3, hyl, hgr⟩ := run_clear_first (P := Try.prog) w2 76 65 (.agg #[.int .i64 0, .int .i64 0]) 2 rfl Try.underlying76 Try.zero2 (by simp [Value.cells, Value.oneCell']) q2 1 (by omega) (by omega)
  have hne := q2.ne_ q1 (by decide)
  have q3 : CB w3 b 78 #[.int .i64 room, .slice A (xs.length + 1) c] := q1.same (hgr.block b q1.lt (fun e => hne e.symm))
  have k4 := k3.same (hgr.block _ k3.lt (fun e => by have := hlt.2 _ e.symm; omega))
  have x4 := x3.same (hgr.block _ x3.lt (fun e => by have := hlt.2 _ e.symm; omega))
  have hon3 : Only w w3 b G := hon2.grown hgr (fun k hk => .inl hk)
  have hcut := hs3.cut (k := 1) (by omega)
  rw [List.drop_left' hyl, show (cells2 ((p1, p2) :: xs)).drop (1 * 2) = cells2 xs from rfl] at hcut
  have cut1 := fun W => run_cut_from (P := Try.prog) 76 65 Try.underlying76 2 Try.size2 A (xs.length + 1) c 1 (by omega) W
  have cut2 := fun W => run_cut_upto (P := Try.prog) 76 65 Try.underlying76 2 Try.size2 A (xs.length + 1) c 1 hc1 W
  simp only [Int.natCast_one, Nat.add_sub_cancel] at cut1 cut2
  rw [Nat.add_sub_cancel] at hcut
  generalize (if c = 1 then A else A.map (fun x : Addr => x.add (1 * 2))) = A1 at hcut cut1
  obtain ⟨w4, hw4⟩ : ∃ w4, w4 = w3.setCell ⟨b, 1, none⟩ (.slice A1 xs.length (c - 1)) := ⟨_, rfl⟩
  have hbne : b ≠ w.heap.size := by have := hlt.1; omega
  have hr4 : RG2 w4 b room G xs := by rw [hw4]; exact ⟨A1, xs.length, c - 1, by simpa using q3.put 1 (.slice A1 xs.length (c - 1)), hcut.far (p := ⟨b, 1, none⟩) hne _⟩
  have k5 : CB w4 w.heap.size 65 #[.int .i64 0, .int .i64 0] := by rw [hw4]; exact k4.far hbne.symm _
  have x5 : CB w4 w1.heap.size 65 #[.int .i64 p1, .int .i64 p2] := by rw [hw4]; exact x4.far (by have := hlt.1; simp; omega) _
  have hon4 : Only w w4 b G := by rw [hw4]; exact hon3.put (.inl rfl) _
  have Hw4 := Lib.hid hw4
  have c1 := q1.cell 1
  have c2 := q3.cell 1
  have c3 := q3.frozen 1
  have g0 := k5.cell 0
  have g1 := k5.cell 1
  have g2 := k5.frozen 0
  have g3 := k5.frozen 1
  have y0 := x5.cell 0
  have y1 := x5.cell 1
  simp only [List.getElem?_toArray, List.getElem?_cons_succ, List.getElem?_cons_zero] at c1 c2 g0 g1 y0 y1
  clear hw4 hs3 hcut q1 q2 q3 k3 x3 k4 x4 hgr hon2 hon3 hyl
  have k6 := (k5.put 0 (.int .i64 p1)).put 1 (.int .i64 p2)
  have r0 := k6.cell 0
  have r1 := k6.cell 1
  simp at r0 r1
  have hr6 : RG2 ((w4.setCell ⟨w.heap.size, 0, none⟩ (.int .i64 p1)).setCell ⟨w.heap.size, 1, none⟩ (.int .i64 p2)) b room G xs := by
    obtain ⟨A', n', c', z1, z2⟩ := hr4
    have z3 : G ≠ some w.heap.size := fun e => by have := hlt.2 _ e; omega
    exact ⟨A', n', c', (z1.far hbne _).far hbne _, (z2.far (p := ⟨w.heap.size, 0, none⟩) z3 _).far (p := ⟨w.heap.size, 1, none⟩) z3 _⟩
  have hon6 : Only w ((w4.setCell ⟨w.heap.size, 0, none⟩ (.int .i64 p1)).setCell ⟨w.heap.size, 1, none⟩ (.int .i64 p2)) b G := (hon4.put (p := ⟨w.heap.size, 0, none⟩) (.inr (.inr (Nat.le_refl _))) _).put (p := ⟨w.heap.size, 1, none⟩) (.inr (.inr (Nat.le_refl _))) _
  have hw2 := Hw2.out
  have hw4 := Hw4.out
  subst hw2 hw4
  have Hr6 := Lib.hid hr6
  have Hon6 := Lib.hid hon6
  clear Hw2 Hw4 hr6 hon6 k6 k5 x5 hr4 hon4
  go_wp2_with fail
  exact bodyPost_ret (v := .tuple #[.agg #[.int .i64 p1, .int .i64 p2], .int .i64 0]) (by simp [results, Try.results29, go_sem, r0, r1]) rfl ⟨rfl, Hr6.out, Hon6.out⟩

end Go.Proofs.Ytbdejcmlcjljkaa
