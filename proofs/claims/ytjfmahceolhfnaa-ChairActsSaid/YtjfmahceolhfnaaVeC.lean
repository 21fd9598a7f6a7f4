/-
  New, Agree and slices.Max of package terms. Condition of the latter two: the numbers can be read.
-/
import Derived.Test.YtjfmahceolhfnaaVeA
import Derived.Test.YtjfmahceolhfnaaRow
import Derived.Lib.MinMax
set_option linter.unusedVariables false
set_option linter.unusedSimpArgs false
namespace Go.Proofs.Ytjfmahceolhfnaa.Te
open Go.RowKit

theorem eNew_2 {x s m : Int} (h : ¬ okN x s m) : eNew x s m = 2 := by unfold eNew; rw [if_pos h]
theorem eNew_3 {x s m : Int} (h : okN x s m) (h' : 1099511627776 < x + (m + 1) * s) : eNew x s m = 3 := by unfold eNew; rw [if_neg (not_not_intro h), if_pos h']
theorem eNew_0 {x s m : Int} (h : okN x s m) (h' : ¬ 1099511627776 < x + (m + 1) * s) : eNew x s m = 0 := by unfold eNew; rw [if_neg (not_not_intro h), if_neg h']
theorem sNew_z {x s m : Int} (h : eNew x s m = 0) : sNew x s m = ⟨x + s, s, 0, m⟩ := by unfold sNew; rw [if_pos h]
theorem sNew_n {x s m : Int} (h : ¬ eNew x s m = 0) : sNew x s m = ⟨0, 0, 0, 0⟩ := by unfold sNew; rw [if_neg h]

theorem eAgr_2 {l : List Int} {a b : Int} (h : a < 1 ∨ b < a ∨ 1048576 < b) : eAgr l a b = 2 := by unfold eAgr; rw [if_pos h]
theorem eAgr_7 {a b : Int} (h : ¬ (a < 1 ∨ b < a ∨ 1048576 < b)) : eAgr [] a b = 7 := by unfold eAgr; rw [if_neg h, if_pos rfl]
theorem eAgr_0 {l : List Int} {a b : Int} (h : ¬ (a < 1 ∨ b < a ∨ 1048576 < b)) (hl : ¬ l = []) : eAgr l a b = 0 := by unfold eAgr; rw [if_neg h, if_neg hl]
theorem vAgr_z {l : List Int} {a b : Int} (h : eAgr l a b = 0) : vAgr l a b = min (max (maxL l) a) b := by unfold vAgr; rw [if_pos h]
theorem vAgr_n {l : List Int} {a b : Int} (h : ¬ eAgr l a b = 0) : vAgr l a b = 0 := by unfold vAgr; rw [if_neg h]


/-- A number as a cell. -/
def ic (x : Int) : List Value := [.int .i64 x]
instance : Nonempty (EncOk ic 1) := ⟨⟨fun _ => rfl, fun x u hu => by
  simp [ic] at hu
  subst hu
  rfl, by omega⟩⟩
theorem RR.i64 {w : World} {A : Option Addr} {n c : Nat} {L : List Int} (h : RR w ic 1 A n c L) {k : Nat} (hk : k < n) : ∃ g off x, L[k]? = some x ∧ A = some ⟨g, off, none⟩ ∧ w.cell? ⟨g, off + k, none⟩ = some (.int .i64 x) := by
  obtain ⟨g, off, x, h1, h2, h3⟩ := h.at_ hk
  have := h3 0 _ rfl
  rw [Nat.mul_one] at this
  exact ⟨g, off, x, h1, h2, this⟩
theorem maxL_take {l : List Int} {k : Nat} {x : Int} (h0 : 0 < k) (hx : l[k]? = some x) : maxL (l.take (k + 1)) = max (maxL (l.take k)) x := by
  obtain ⟨hk, rfl⟩ := List.getElem?_eq_some_iff.1 hx
  rw [maxL_step l k h0 hk]
  simp [List.getD, List.getElem?_eq_getElem hk]
theorem maxL_first {l : List Int} {x : Int} (hx : l[0]? = some x) : maxL (l.take 1) = x := by
  cases l with
  | nil => simp at hx
  | cons z zs => simp at hx; subst hx; simp [maxL]

set_option maxRecDepth 100000 in
set_option maxHeartbeats 4000000 in
theorem new_c (x s m : Int) (w : World) : Calls Try.prog 55 #[.int .i64 x, .int .i64 s, .int .i64 m] w fun r w' => r = .returned (.tuple #[.agg #[.int .i64 (sNew x s m).dl, .int .i64 (sNew x s m).sp, .int .i64 (sNew x s m).us, .int .i64 (sNew x s m).cp], .int .i64 ((eNew x s m : Nat) : Int)]) ∧ Below w.heap.size w w' := by
  by_cases g0 : x < 0
  · skip
    have He := eNew_2 (x := x) (s := s) (m := m) (by unfold okN; omega)
    have Hs := sNew_n (x := x) (s := s) (m := m) (by rw [He]; decide)
    have He := Lib.hid He
    have Hs := Lib.hid Hs
    have p0 : decide (x < 0) = true := by simp; omega
    have q0 : decide (0 ≤ x) = false := by simp; omega
    clear g0
    obtain ⟨W1, hW1⟩ : ∃ V, w.alloc (.cells #[.int .i64 0, .int .i64 0, .int .i64 0, .int .i64 0] 42) = V := ⟨_, rfl⟩
    have nW1_r : CB W1 (w.heap.size) 42 #[.int .i64 0, .int .i64 0, .int .i64 0, .int .i64 0] := by
      rw [← hW1]
      have := (CB.new w 42 #[.int .i64 0, .int .i64 0, .int .i64 0, .int .i64 0])
      simpa using this
    have lW1 : Below w.heap.size w W1 := by rw [← hW1]; exact le_al _ _
    have HW1 := Lib.hid hW1
    clear hW1
    go_enter Try.func55, Try.ntmps55
    go_wp2_with fail
    rw [HW1.out]
    have x_r0 : W1.cell? ⟨w.heap.size, 0, none⟩ = some (.int .i64 0) := CB.cell nW1_r 0
    have x_r1 : W1.cell? ⟨w.heap.size, 1, none⟩ = some (.int .i64 0) := CB.cell nW1_r 1
    have x_r2 : W1.cell? ⟨w.heap.size, 2, none⟩ = some (.int .i64 0) := CB.cell nW1_r 2
    have x_r3 : W1.cell? ⟨w.heap.size, 3, none⟩ = some (.int .i64 0) := CB.cell nW1_r 3
    exact bodyPost_ret (v := .tuple #[.agg #[.int .i64 0, .int .i64 0, .int .i64 0, .int .i64 0], .int .i64 2]) (by simp [results, Try.results55, go_sem, x_r0, x_r1, x_r2, x_r3]) rfl ⟨by rw [He.out, Hs.out]; rfl, lW1⟩
  by_cases g1 : 1099511627776 < x
  · skip
    have He := eNew_2 (x := x) (s := s) (m := m) (by unfold okN; omega)
    have Hs := sNew_n (x := x) (s := s) (m := m) (by rw [He]; decide)
    have He := Lib.hid He
    have Hs := Lib.hid Hs
    have p0 : decide (x < 0) = false := by simp; omega
    have q0 : decide (0 ≤ x) = true := by simp; omega
    have p1 : decide (1099511627776 < x) = true := by simp; omega
    have q1 : decide (x ≤ 1099511627776) = false := by simp; omega
    clear g0 g1
    obtain ⟨W1, hW1⟩ : ∃ V, w.alloc (.cells #[.int .i64 0, .int .i64 0, .int .i64 0, .int .i64 0] 42) = V := ⟨_, rfl⟩
    have nW1_r : CB W1 (w.heap.size) 42 #[.int .i64 0, .int .i64 0, .int .i64 0, .int .i64 0] := by
      rw [← hW1]
      have := (CB.new w 42 #[.int .i64 0, .int .i64 0, .int .i64 0, .int .i64 0])
      simpa using this
    have lW1 : Below w.heap.size w W1 := by rw [← hW1]; exact le_al _ _
    have HW1 := Lib.hid hW1
    clear hW1
    go_enter Try.func55, Try.ntmps55
    go_wp2_with fail
    rw [HW1.out]
    have x_r0 : W1.cell? ⟨w.heap.size, 0, none⟩ = some (.int .i64 0) := CB.cell nW1_r 0
    have x_r1 : W1.cell? ⟨w.heap.size, 1, none⟩ = some (.int .i64 0) := CB.cell nW1_r 1
    have x_r2 : W1.cell? ⟨w.heap.size, 2, none⟩ = some (.int .i64 0) := CB.cell nW1_r 2
    have x_r3 : W1.cell? ⟨w.heap.size, 3, none⟩ = some (.int .i64 0) := CB.cell nW1_r 3
    exact bodyPost_ret (v := .tuple #[.agg #[.int .i64 0, .int .i64 0, .int .i64 0, .int .i64 0], .int .i64 2]) (by simp [results, Try.results55, go_sem, x_r0, x_r1, x_r2, x_r3]) rfl ⟨by rw [He.out, Hs.out]; rfl, lW1⟩
  by_cases g2 : s < 1
  · skip
    have He := eNew_2 (x := x) (s := s) (m := m) (by unfold okN; omega)
    have Hs := sNew_n (x := x) (s := s) (m := m) (by rw [He]; decide)
    have He := Lib.hid He
    have Hs := Lib.hid Hs
    have p0 : decide (x < 0) = false := by simp; omega
    have q0 : decide (0 ≤ x) = true := by simp; omega
    have p1 : decide (1099511627776 < x) = false := by simp; omega
    have q1 : decide (x ≤ 1099511627776) = true := by simp; omega
    have p2 : decide (s < 1) = true := by simp; omega
    have q2 : decide (1 ≤ s) = false := by simp; omega
    have hs : decide (1 ≤ s ∧ s ≤ 1048576) = false := by simp; omega
    have S1 := fun W => span_c s W
    simp only [hs] at S1
    clear hs
    clear g0 g1 g2
    obtain ⟨W1, hW1⟩ : ∃ V, w.alloc (.cells #[.int .i64 0, .int .i64 0, .int .i64 0, .int .i64 0] 42) = V := ⟨_, rfl⟩
    have nW1_r : CB W1 (w.heap.size) 42 #[.int .i64 0, .int .i64 0, .int .i64 0, .int .i64 0] := by
      rw [← hW1]
      have := (CB.new w 42 #[.int .i64 0, .int .i64 0, .int .i64 0, .int .i64 0])
      simpa using this
    have lW1 : Below w.heap.size w W1 := by rw [← hW1]; exact le_al _ _
    have HW1 := Lib.hid hW1
    clear hW1
    go_enter Try.func55, Try.ntmps55
    go_wp2_with fail
    rw [HW1.out]
    refine (S1 _).mono ?_
    rintro e w2 ⟨rfl, b2⟩
    have r3_r := le_on nW1_r b2
    have l3 := le_tr lW1 b2
    clear nW1_r lW1
    clear b2
    have f3_r0 : w2.cell? ⟨w.heap.size, 0, none⟩ = some (.int .i64 0) := CB.cell r3_r 0
    have z3_r0 : w2.frozen? ⟨w.heap.size, 0, none⟩ = false := CB.frozen r3_r 0
    have f3_r1 : w2.cell? ⟨w.heap.size, 1, none⟩ = some (.int .i64 0) := CB.cell r3_r 1
    have z3_r1 : w2.frozen? ⟨w.heap.size, 1, none⟩ = false := CB.frozen r3_r 1
    have f3_r2 : w2.cell? ⟨w.heap.size, 2, none⟩ = some (.int .i64 0) := CB.cell r3_r 2
    have z3_r2 : w2.frozen? ⟨w.heap.size, 2, none⟩ = false := CB.frozen r3_r 2
    have f3_r3 : w2.cell? ⟨w.heap.size, 3, none⟩ = some (.int .i64 0) := CB.cell r3_r 3
    have z3_r3 : w2.frozen? ⟨w.heap.size, 3, none⟩ = false := CB.frozen r3_r 3
    obtain ⟨V4, hV4⟩ : ∃ V, (((w2.setCell ⟨w.heap.size, 0, none⟩ (.int .i64 0)).setCell ⟨w.heap.size, 1, none⟩ (.int .i64 0)).setCell ⟨w.heap.size, 2, none⟩ (.int .i64 0)).setCell ⟨w.heap.size, 3, none⟩ (.int .i64 0) = V := ⟨_, rfl⟩
    have nV4 : CB V4 (w.heap.size) 42 #[.int .i64 0, .int .i64 0, .int .i64 0, .int .i64 0] := by rw [← hV4]; exact cb_cast (CB.put (CB.put (CB.put (CB.put r3_r 0 (.int .i64 0)) 1 (.int .i64 0)) 2 (.int .i64 0)) 3 (.int .i64 0)) (by kernel_rfl)
    have oV4 := (Below.setCell (Below.setCell (Below.setCell (Below.setCell l3 (p := ⟨w.heap.size, 0, none⟩) (by dsimp only; omega) (.int .i64 0)) (p := ⟨w.heap.size, 1, none⟩) (by dsimp only; omega) (.int .i64 0)) (p := ⟨w.heap.size, 2, none⟩) (by dsimp only; omega) (.int .i64 0)) (p := ⟨w.heap.size, 3, none⟩) (by dsimp only; omega) (.int .i64 0))
    rw [hV4] at oV4
    have HV4 := Lib.hid hV4
    clear hV4
    clear r3_r l3
    go_wp2_with fail
    rw [HV4.out]
    have x_r0 : V4.cell? ⟨w.heap.size, 0, none⟩ = some (.int .i64 0) := CB.cell nV4 0
    have x_r1 : V4.cell? ⟨w.heap.size, 1, none⟩ = some (.int .i64 0) := CB.cell nV4 1
    have x_r2 : V4.cell? ⟨w.heap.size, 2, none⟩ = some (.int .i64 0) := CB.cell nV4 2
    have x_r3 : V4.cell? ⟨w.heap.size, 3, none⟩ = some (.int .i64 0) := CB.cell nV4 3
    exact bodyPost_ret (v := .tuple #[.agg #[.int .i64 0, .int .i64 0, .int .i64 0, .int .i64 0], .int .i64 2]) (by simp [results, Try.results55, go_sem, x_r0, x_r1, x_r2, x_r3]) rfl ⟨by rw [He.out, Hs.out]; rfl, oV4⟩
  by_cases g3 : 1048576 < s
  · skip
    have He := eNew_2 (x := x) (s := s) (m := m) (by unfold okN; omega)
    have Hs := sNew_n (x := x) (s := s) (m := m) (by rw [He]; decide)
    have He := Lib.hid He
    have Hs := Lib.hid Hs
    have p0 : decide (x < 0) = false := by simp; omega
    have q0 : decide (0 ≤ x) = true := by simp; omega
    have p1 : decide (1099511627776 < x) = false := by simp; omega
    have q1 : decide (x ≤ 1099511627776) = true := by simp; omega
    have p2 : decide (s < 1) = false := by simp; omega
    have q2 : decide (1 ≤ s) = true := by simp; omega
    have p3 : decide (1048576 < s) = true := by simp; omega
    have q3 : decide (s ≤ 1048576) = false := by simp; omega
    have hs : decide (1 ≤ s ∧ s ≤ 1048576) = false := by simp; omega
    have S1 := fun W => span_c s W
    simp only [hs] at S1
    clear hs
    clear g0 g1 g2 g3
    obtain ⟨W1, hW1⟩ : ∃ V, w.alloc (.cells #[.int .i64 0, .int .i64 0, .int .i64 0, .int .i64 0] 42) = V := ⟨_, rfl⟩
    have nW1_r : CB W1 (w.heap.size) 42 #[.int .i64 0, .int .i64 0, .int .i64 0, .int .i64 0] := by
      rw [← hW1]
      have := (CB.new w 42 #[.int .i64 0, .int .i64 0, .int .i64 0, .int .i64 0])
      simpa using this
    have lW1 : Below w.heap.size w W1 := by rw [← hW1]; exact le_al _ _
    have HW1 := Lib.hid hW1
    clear hW1
    go_enter Try.func55, Try.ntmps55
    go_wp2_with fail
    rw [HW1.out]
    refine (S1 _).mono ?_
    rintro e w2 ⟨rfl, b2⟩
    have r3_r := le_on nW1_r b2
    have l3 := le_tr lW1 b2
    clear nW1_r lW1
    clear b2
    have f3_r0 : w2.cell? ⟨w.heap.size, 0, none⟩ = some (.int .i64 0) := CB.cell r3_r 0
    have z3_r0 : w2.frozen? ⟨w.heap.size, 0, none⟩ = false := CB.frozen r3_r 0
    have f3_r1 : w2.cell? ⟨w.heap.size, 1, none⟩ = some (.int .i64 0) := CB.cell r3_r 1
    have z3_r1 : w2.frozen? ⟨w.heap.size, 1, none⟩ = false := CB.frozen r3_r 1
    have f3_r2 : w2.cell? ⟨w.heap.size, 2, none⟩ = some (.int .i64 0) := CB.cell r3_r 2
    have z3_r2 : w2.frozen? ⟨w.heap.size, 2, none⟩ = false := CB.frozen r3_r 2
    have f3_r3 : w2.cell? ⟨w.heap.size, 3, none⟩ = some (.int .i64 0) := CB.cell r3_r 3
    have z3_r3 : w2.frozen? ⟨w.heap.size, 3, none⟩ = false := CB.frozen r3_r 3
    obtain ⟨V4, hV4⟩ : ∃ V, (((w2.setCell ⟨w.heap.size, 0, none⟩ (.int .i64 0)).setCell ⟨w.heap.size, 1, none⟩ (.int .i64 0)).setCell ⟨w.heap.size, 2, none⟩ (.int .i64 0)).setCell ⟨w.heap.size, 3, none⟩ (.int .i64 0) = V := ⟨_, rfl⟩
    have nV4 : CB V4 (w.heap.size) 42 #[.int .i64 0, .int .i64 0, .int .i64 0, .int .i64 0] := by rw [← hV4]; exact cb_cast (CB.put (CB.put (CB.put (CB.put r3_r 0 (.int .i64 0)) 1 (.int .i64 0)) 2 (.int .i64 0)) 3 (.int .i64 0)) (by kernel_rfl)
    have oV4 := (Below.setCell (Below.setCell (Below.setCell (Below.setCell l3 (p := ⟨w.heap.size, 0, none⟩) (by dsimp only; omega) (.int .i64 0)) (p := ⟨w.heap.size, 1, none⟩) (by dsimp only; omega) (.int .i64 0)) (p := ⟨w.heap.size, 2, none⟩) (by dsimp only; omega) (.int .i64 0)) (p := ⟨w.heap.size, 3, none⟩) (by dsimp only; omega) (.int .i64 0))
    rw [hV4] at oV4
    have HV4 := Lib.hid hV4
    clear hV4
    clear r3_r l3
    go_wp2_with fail
    rw [HV4.out]
    have x_r0 : V4.cell? ⟨w.heap.size, 0, none⟩ = some (.int .i64 0) := CB.cell nV4 0
    have x_r1 : V4.cell? ⟨w.heap.size, 1, none⟩ = some (.int .i64 0) := CB.cell nV4 1
    have x_r2 : V4.cell? ⟨w.heap.size, 2, none⟩ = some (.int .i64 0) := CB.cell nV4 2
    have x_r3 : V4.cell? ⟨w.heap.size, 3, none⟩ = some (.int .i64 0) := CB.cell nV4 3
    exact bodyPost_ret (v := .tuple #[.agg #[.int .i64 0, .int .i64 0, .int .i64 0, .int .i64 0], .int .i64 2]) (by simp [results, Try.results55, go_sem, x_r0, x_r1, x_r2, x_r3]) rfl ⟨by rw [He.out, Hs.out]; rfl, oV4⟩
  by_cases g4 : m < 0
  · skip
    have He := eNew_2 (x := x) (s := s) (m := m) (by unfold okN; omega)
    have Hs := sNew_n (x := x) (s := s) (m := m) (by rw [He]; decide)
    have He := Lib.hid He
    have Hs := Lib.hid Hs
    have p0 : decide (x < 0) = false := by simp; omega
    have q0 : decide (0 ≤ x) = true := by simp; omega
    have p1 : decide (1099511627776 < x) = false := by simp; omega
    have q1 : decide (x ≤ 1099511627776) = true := by simp; omega
    have p2 : decide (s < 1) = false := by simp; omega
    have q2 : decide (1 ≤ s) = true := by simp; omega
    have p3 : decide (1048576 < s) = false := by simp; omega
    have q3 : decide (s ≤ 1048576) = true := by simp; omega
    have p4 : decide (m < 0) = true := by simp; omega
    have q4 : decide (0 ≤ m) = false := by simp; omega
    have hs : decide (1 ≤ s ∧ s ≤ 1048576) = true := by simp; omega
    have S1 := fun W => span_c s W
    simp only [hs] at S1
    clear hs
    have hc : decide (0 ≤ m ∧ m ≤ 100) = false := by simp; omega
    have S2 := fun W => cap_c m W
    simp only [hc] at S2
    clear hc
    clear g0 g1 g2 g3 g4
    obtain ⟨W1, hW1⟩ : ∃ V, w.alloc (.cells #[.int .i64 0, .int .i64 0, .int .i64 0, .int .i64 0] 42) = V := ⟨_, rfl⟩
    have nW1_r : CB W1 (w.heap.size) 42 #[.int .i64 0, .int .i64 0, .int .i64 0, .int .i64 0] := by
      rw [← hW1]
      have := (CB.new w 42 #[.int .i64 0, .int .i64 0, .int .i64 0, .int .i64 0])
      simpa using this
    have lW1 : Below w.heap.size w W1 := by rw [← hW1]; exact le_al _ _
    have HW1 := Lib.hid hW1
    clear hW1
    go_enter Try.func55, Try.ntmps55
    go_wp2_with fail
    rw [HW1.out]
    refine (S1 _).mono ?_
    rintro e w2 ⟨rfl, b2⟩
    have r3_r := le_on nW1_r b2
    have l3 := le_tr lW1 b2
    clear nW1_r lW1
    clear b2
    go_wp2_with fail
    refine (S2 _).mono ?_
    rintro e w4 ⟨rfl, b4⟩
    have r5_r := le_on r3_r b4
    have l5 := le_tr l3 b4
    clear r3_r l3
    clear b4
    have f5_r0 : w4.cell? ⟨w.heap.size, 0, none⟩ = some (.int .i64 0) := CB.cell r5_r 0
    have z5_r0 : w4.frozen? ⟨w.heap.size, 0, none⟩ = false := CB.frozen r5_r 0
    have f5_r1 : w4.cell? ⟨w.heap.size, 1, none⟩ = some (.int .i64 0) := CB.cell r5_r 1
    have z5_r1 : w4.frozen? ⟨w.heap.size, 1, none⟩ = false := CB.frozen r5_r 1
    have f5_r2 : w4.cell? ⟨w.heap.size, 2, none⟩ = some (.int .i64 0) := CB.cell r5_r 2
    have z5_r2 : w4.frozen? ⟨w.heap.size, 2, none⟩ = false := CB.frozen r5_r 2
    have f5_r3 : w4.cell? ⟨w.heap.size, 3, none⟩ = some (.int .i64 0) := CB.cell r5_r 3
    have z5_r3 : w4.frozen? ⟨w.heap.size, 3, none⟩ = false := CB.frozen r5_r 3
    obtain ⟨V6, hV6⟩ : ∃ V, (((w4.setCell ⟨w.heap.size, 0, none⟩ (.int .i64 0)).setCell ⟨w.heap.size, 1, none⟩ (.int .i64 0)).setCell ⟨w.heap.size, 2, none⟩ (.int .i64 0)).setCell ⟨w.heap.size, 3, none⟩ (.int .i64 0) = V := ⟨_, rfl⟩
    have nV6 : CB V6 (w.heap.size) 42 #[.int .i64 0, .int .i64 0, .int .i64 0, .int .i64 0] := by rw [← hV6]; exact cb_cast (CB.put (CB.put (CB.put (CB.put r5_r 0 (.int .i64 0)) 1 (.int .i64 0)) 2 (.int .i64 0)) 3 (.int .i64 0)) (by kernel_rfl)
    have oV6 := (Below.setCell (Below.setCell (Below.setCell (Below.setCell l5 (p := ⟨w.heap.size, 0, none⟩) (by dsimp only; omega) (.int .i64 0)) (p := ⟨w.heap.size, 1, none⟩) (by dsimp only; omega) (.int .i64 0)) (p := ⟨w.heap.size, 2, none⟩) (by dsimp only; omega) (.int .i64 0)) (p := ⟨w.heap.size, 3, none⟩) (by dsimp only; omega) (.int .i64 0))
    rw [hV6] at oV6
    have HV6 := Lib.hid hV6
    clear hV6
    clear r5_r l5
    go_wp2_with fail
    rw [HV6.out]
    have x_r0 : V6.cell? ⟨w.heap.size, 0, none⟩ = some (.int .i64 0) := CB.cell nV6 0
    have x_r1 : V6.cell? ⟨w.heap.size, 1, none⟩ = some (.int .i64 0) := CB.cell nV6 1
    have x_r2 : V6.cell? ⟨w.heap.size, 2, none⟩ = some (.int .i64 0) := CB.cell nV6 2
    have x_r3 : V6.cell? ⟨w.heap.size, 3, none⟩ = some (.int .i64 0) := CB.cell nV6 3
    exact bodyPost_ret (v := .tuple #[.agg #[.int .i64 0, .int .i64 0, .int .i64 0, .int .i64 0], .int .i64 2]) (by simp [results, Try.results55, go_sem, x_r0, x_r1, x_r2, x_r3]) rfl ⟨by rw [He.out, Hs.out]; rfl, oV6⟩
  by_cases g5 : 100 < m
  · skip
    have He := eNew_2 (x := x) (s := s) (m := m) (by unfold okN; omega)
    have Hs := sNew_n (x := x) (s := s) (m := m) (by rw [He]; decide)
    have He := Lib.hid He
    have Hs := Lib.hid Hs
    have p0 : decide (x < 0) = false := by simp; omega
    have q0 : decide (0 ≤ x) = true := by simp; omega
    have p1 : decide (1099511627776 < x) = false := by simp; omega
    have q1 : decide (x ≤ 1099511627776) = true := by simp; omega
    have p2 : decide (s < 1) = false := by simp; omega
    have q2 : decide (1 ≤ s) = true := by simp; omega
    have p3 : decide (1048576 < s) = false := by simp; omega
    have q3 : decide (s ≤ 1048576) = true := by simp; omega
    have p4 : decide (m < 0) = false := by simp; omega
    have q4 : decide (0 ≤ m) = true := by simp; omega
    have p5 : decide (100 < m) = true := by simp; omega
    have q5 : decide (m ≤ 100) = false := by simp; omega
    have hs : decide (1 ≤ s ∧ s ≤ 1048576) = true := by simp; omega
    have S1 := fun W => span_c s W
    simp only [hs] at S1
    clear hs
    have hc : decide (0 ≤ m ∧ m ≤ 100) = false := by simp; omega
    have S2 := fun W => cap_c m W
    simp only [hc] at S2
    clear hc
    clear g0 g1 g2 g3 g4 g5
    obtain ⟨W1, hW1⟩ : ∃ V, w.alloc (.cells #[.int .i64 0, .int .i64 0, .int .i64 0, .int .i64 0] 42) = V := ⟨_, rfl⟩
    have nW1_r : CB W1 (w.heap.size) 42 #[.int .i64 0, .int .i64 0, .int .i64 0, .int .i64 0] := by
      rw [← hW1]
      have := (CB.new w 42 #[.int .i64 0, .int .i64 0, .int .i64 0, .int .i64 0])
      simpa using this
    have lW1 : Below w.heap.size w W1 := by rw [← hW1]; exact le_al _ _
    have HW1 := Lib.hid hW1
    clear hW1
    go_enter Try.func55, Try.ntmps55
    go_wp2_with fail
    rw [HW1.out]
    refine (S1 _).mono ?_
    rintro e w2 ⟨rfl, b2⟩
    have r3_r := le_on nW1_r b2
    have l3 := le_tr lW1 b2
    clear nW1_r lW1
    clear b2
    go_wp2_with fail
    refine (S2 _).mono ?_
    rintro e w4 ⟨rfl, b4⟩
    have r5_r := le_on r3_r b4
    have l5 := le_tr l3 b4
    clear r3_r l3
    clear b4
    have f5_r0 : w4.cell? ⟨w.heap.size, 0, none⟩ = some (.int .i64 0) := CB.cell r5_r 0
    have z5_r0 : w4.frozen? ⟨w.heap.size, 0, none⟩ = false := CB.frozen r5_r 0
    have f5_r1 : w4.cell? ⟨w.heap.size, 1, none⟩ = some (.int .i64 0) := CB.cell r5_r 1
    have z5_r1 : w4.frozen? ⟨w.heap.size, 1, none⟩ = false := CB.frozen r5_r 1
    have f5_r2 : w4.cell? ⟨w.heap.size, 2, none⟩ = some (.int .i64 0) := CB.cell r5_r 2
    have z5_r2 : w4.frozen? ⟨w.heap.size, 2, none⟩ = false := CB.frozen r5_r 2
    have f5_r3 : w4.cell? ⟨w.heap.size, 3, none⟩ = some (.int .i64 0) := CB.cell r5_r 3
    have z5_r3 : w4.frozen? ⟨w.heap.size, 3, none⟩ = false := CB.frozen r5_r 3
    obtain ⟨V6, hV6⟩ : ∃ V, (((w4.setCell ⟨w.heap.size, 0, none⟩ (.int .i64 0)).setCell ⟨w.heap.size, 1, none⟩ (.int .i64 0)).setCell ⟨w.heap.size, 2, none⟩ (.int .i64 0)).setCell ⟨w.heap.size, 3, none⟩ (.int .i64 0) = V := ⟨_, rfl⟩
    have nV6 : CB V6 (w.heap.size) 42 #[.int .i64 0, .int .i64 0, .int .i64 0, .int .i64 0] := by rw [← hV6]; exact cb_cast (CB.put (CB.put (CB.put (CB.put r5_r 0 (.int .i64 0)) 1 (.int .i64 0)) 2 (.int .i64 0)) 3 (.int .i64 0)) (by kernel_rfl)
    have oV6 := (Below.setCell (Below.setCell (Below.setCell (Below.setCell l5 (p := ⟨w.heap.size, 0, none⟩) (by dsimp only; omega) (.int .i64 0)) (p := ⟨w.heap.size, 1, none⟩) (by dsimp only; omega) (.int .i64 0)) (p := ⟨w.heap.size, 2, none⟩) (by dsimp only; omega) (.int .i64 0)) (p := ⟨w.heap.size, 3, none⟩) (by dsimp only; omega) (.int .i64 0))
    rw [hV6] at oV6
    have HV6 := Lib.hid hV6
    clear hV6
    clear r5_r l5
    go_wp2_with fail
    rw [HV6.out]
    have x_r0 : V6.cell? ⟨w.heap.size, 0, none⟩ = some (.int .i64 0) := CB.cell nV6 0
    have x_r1 : V6.cell? ⟨w.heap.size, 1, none⟩ = some (.int .i64 0) := CB.cell nV6 1
    have x_r2 : V6.cell? ⟨w.heap.size, 2, none⟩ = some (.int .i64 0) := CB.cell nV6 2
    have x_r3 : V6.cell? ⟨w.heap.size, 3, none⟩ = some (.int .i64 0) := CB.cell nV6 3
    exact bodyPost_ret (v := .tuple #[.agg #[.int .i64 0, .int .i64 0, .int .i64 0, .int .i64 0], .int .i64 2]) (by simp [results, Try.results55, go_sem, x_r0, x_r1, x_r2, x_r3]) rfl ⟨by rw [He.out, Hs.out]; rfl, oV6⟩
  have ho : okN x s m := by unfold okN; omega
  have hm := mul_in (a := m) (s := s) (by omega) (by omega) (by omega) (by omega)
  have hd : (m + 1) * s = m * s + s := by rw [Int.add_mul, Int.one_mul]
  by_cases hb : 1099511627776 < x + (m + 1) * s
  · skip
    have He := eNew_3 ho hb
    have Hs := sNew_n (x := x) (s := s) (m := m) (by rw [He]; decide)
    have He := Lib.hid He
    have Hs := Lib.hid Hs
    have p0 : decide (x < 0) = false := by simp; omega
    have q0 : decide (0 ≤ x) = true := by simp; omega
    have p1 : decide (1099511627776 < x) = false := by simp; omega
    have q1 : decide (x ≤ 1099511627776) = true := by simp; omega
    have p2 : decide (s < 1) = false := by simp; omega
    have q2 : decide (1 ≤ s) = true := by simp; omega
    have p3 : decide (1048576 < s) = false := by simp; omega
    have q3 : decide (s ≤ 1048576) = true := by simp; omega
    have p4 : decide (m < 0) = false := by simp; omega
    have q4 : decide (0 ≤ m) = true := by simp; omega
    have p5 : decide (100 < m) = false := by simp; omega
    have q5 : decide (m ≤ 100) = true := by simp; omega
    have hs : decide (1 ≤ s ∧ s ≤ 1048576) = true := by simp; omega
    have S1 := fun W => span_c s W
    simp only [hs] at S1
    clear hs
    have hc : decide (0 ≤ m ∧ m ≤ 100) = true := by simp; omega
    have S2 := fun W => cap_c m W
    simp only [hc] at S2
    clear hc
    have v1 : IntKind.i64.wrap (x + s) = x + s := IntWalk.i64_in _ (by omega)
    have t1 : decide (1099511627776 < x + s + m * s) = true := by simp; omega
    have S3 := fun W => lastOf_c (x + s) s 0 m W (by omega) (by omega) (by omega) (by omega)
    simp only [Int.sub_zero] at S3
    clear ho hm hd hb g0 g1 g2 g3 g4 g5
    obtain ⟨W1, hW1⟩ : ∃ V, w.alloc (.cells #[.int .i64 0, .int .i64 0, .int .i64 0, .int .i64 0] 42) = V := ⟨_, rfl⟩
    have nW1_r : CB W1 (w.heap.size) 42 #[.int .i64 0, .int .i64 0, .int .i64 0, .int .i64 0] := by
      rw [← hW1]
      have := (CB.new w 42 #[.int .i64 0, .int .i64 0, .int .i64 0, .int .i64 0])
      simpa using this
    have lW1 : Below w.heap.size w W1 := by rw [← hW1]; exact le_al _ _
    have HW1 := Lib.hid hW1
    clear hW1
    go_enter Try.func55, Try.ntmps55
    go_wp2_with fail
    rw [HW1.out]
    refine (S1 _).mono ?_
    rintro e w2 ⟨rfl, b2⟩
    have r3_r := le_on nW1_r b2
    have l3 := le_tr lW1 b2
    clear nW1_r lW1
    clear b2
    go_wp2_with fail
    refine (S2 _).mono ?_
    rintro e w4 ⟨rfl, b4⟩
    have r5_r := le_on r3_r b4
    have l5 := le_tr l3 b4
    clear r3_r l3
    clear b4
    have av_t : w.heap.size ≤ w4.heap.size := by have := l5.size; omega
    obtain ⟨W6, hW6⟩ : ∃ V, w4.alloc (.cells #[.int .i64 (x + s), .int .i64 s, .int .i64 0, .int .i64 m] 42) = V := ⟨_, rfl⟩
    have zW6 : w4.heap.size = w4.heap.size := by rfl
    have nW6 : CB W6 (w4.heap.size) 42 #[.int .i64 (x + s), .int .i64 s, .int .i64 0, .int .i64 m] := by rw [← zW6, ← hW6]; exact CB.new _ _ _
    have bW6 : Below w4.heap.size w4 W6 := by rw [← hW6]; exact le_al _ _
    have neW6_r : w.heap.size ≠ w4.heap.size := by have := CB.lt r5_r; omega
    have HW6 := Lib.hid hW6
    clear hW6 zW6
    have r7_r := le_on r5_r bW6
    have l7 := le_tr l5 bW6
    clear r5_r l5
    clear bW6
    have f7_t0 : (w4.alloc (.cells #[.int .i64 (x + s), .int .i64 s, .int .i64 0, .int .i64 m] 42)).cell? ⟨w4.heap.size, 0, none⟩ = some (.int .i64 (x + s)) := by rw [HW6.out]; exact CB.cell nW6 0
    have f7_t1 : (w4.alloc (.cells #[.int .i64 (x + s), .int .i64 s, .int .i64 0, .int .i64 m] 42)).cell? ⟨w4.heap.size, 1, none⟩ = some (.int .i64 s) := by rw [HW6.out]; exact CB.cell nW6 1
    have f7_t2 : (w4.alloc (.cells #[.int .i64 (x + s), .int .i64 s, .int .i64 0, .int .i64 m] 42)).cell? ⟨w4.heap.size, 2, none⟩ = some (.int .i64 0) := by rw [HW6.out]; exact CB.cell nW6 2
    have f7_t3 : (w4.alloc (.cells #[.int .i64 (x + s), .int .i64 s, .int .i64 0, .int .i64 m] 42)).cell? ⟨w4.heap.size, 3, none⟩ = some (.int .i64 m) := by rw [HW6.out]; exact CB.cell nW6 3
    go_wp2_with fail
    rw [HW6.out]
    refine (S3 _).mono ?_
    rintro e w8 ⟨rfl, b8⟩
    clear f7_t0 f7_t1 f7_t2 f7_t3
    have r9_r := le_on r7_r b8
    have r9_t := le_on nW6 b8
    have l9 := le_tr l7 b8
    clear r7_r nW6 l7
    clear b8
    have f9_t0 : w8.cell? ⟨w4.heap.size, 0, none⟩ = some (.int .i64 (x + s)) := CB.cell r9_t 0
    have f9_t1 : w8.cell? ⟨w4.heap.size, 1, none⟩ = some (.int .i64 s) := CB.cell r9_t 1
    have f9_t2 : w8.cell? ⟨w4.heap.size, 2, none⟩ = some (.int .i64 0) := CB.cell r9_t 2
    have f9_t3 : w8.cell? ⟨w4.heap.size, 3, none⟩ = some (.int .i64 m) := CB.cell r9_t 3
    have f9_r0 : w8.cell? ⟨w.heap.size, 0, none⟩ = some (.int .i64 0) := CB.cell r9_r 0
    have z9_r0 : w8.frozen? ⟨w.heap.size, 0, none⟩ = false := CB.frozen r9_r 0
    have f9_r1 : w8.cell? ⟨w.heap.size, 1, none⟩ = some (.int .i64 0) := CB.cell r9_r 1
    have z9_r1 : w8.frozen? ⟨w.heap.size, 1, none⟩ = false := CB.frozen r9_r 1
    have f9_r2 : w8.cell? ⟨w.heap.size, 2, none⟩ = some (.int .i64 0) := CB.cell r9_r 2
    have z9_r2 : w8.frozen? ⟨w.heap.size, 2, none⟩ = false := CB.frozen r9_r 2
    have f9_r3 : w8.cell? ⟨w.heap.size, 3, none⟩ = some (.int .i64 0) := CB.cell r9_r 3
    have z9_r3 : w8.frozen? ⟨w.heap.size, 3, none⟩ = false := CB.frozen r9_r 3
    obtain ⟨V10, hV10⟩ : ∃ V, (((w8.setCell ⟨w.heap.size, 0, none⟩ (.int .i64 0)).setCell ⟨w.heap.size, 1, none⟩ (.int .i64 0)).setCell ⟨w.heap.size, 2, none⟩ (.int .i64 0)).setCell ⟨w.heap.size, 3, none⟩ (.int .i64 0) = V := ⟨_, rfl⟩
    have nV10 : CB V10 (w.heap.size) 42 #[.int .i64 0, .int .i64 0, .int .i64 0, .int .i64 0] := by rw [← hV10]; exact cb_cast (CB.put (CB.put (CB.put (CB.put r9_r 0 (.int .i64 0)) 1 (.int .i64 0)) 2 (.int .i64 0)) 3 (.int .i64 0)) (by kernel_rfl)
    have mV10_t : CB V10 (w4.heap.size) 42 #[.int .i64 (x + s), .int .i64 s, .int .i64 0, .int .i64 m] := by rw [← hV10]; exact (CB.far (CB.far (CB.far (CB.far r9_t (p := ⟨w.heap.size, 0, none⟩) (Ne.symm neW6_r) (.int .i64 0)) (p := ⟨w.heap.size, 1, none⟩) (Ne.symm neW6_r) (.int .i64 0)) (p := ⟨w.heap.size, 2, none⟩) (Ne.symm neW6_r) (.int .i64 0)) (p := ⟨w.heap.size, 3, none⟩) (Ne.symm neW6_r) (.int .i64 0))
    have oV10 := (Below.setCell (Below.setCell (Below.setCell (Below.setCell l9 (p := ⟨w.heap.size, 0, none⟩) (by dsimp only; omega) (.int .i64 0)) (p := ⟨w.heap.size, 1, none⟩) (by dsimp only; omega) (.int .i64 0)) (p := ⟨w.heap.size, 2, none⟩) (by dsimp only; omega) (.int .i64 0)) (p := ⟨w.heap.size, 3, none⟩) (by dsimp only; omega) (.int .i64 0))
    rw [hV10] at oV10
    have HV10 := Lib.hid hV10
    clear hV10
    clear r9_r r9_t l9
    go_wp2_with fail
    rw [HV10.out]
    have x_r0 : V10.cell? ⟨w.heap.size, 0, none⟩ = some (.int .i64 0) := CB.cell nV10 0
    have x_r1 : V10.cell? ⟨w.heap.size, 1, none⟩ = some (.int .i64 0) := CB.cell nV10 1
    have x_r2 : V10.cell? ⟨w.heap.size, 2, none⟩ = some (.int .i64 0) := CB.cell nV10 2
    have x_r3 : V10.cell? ⟨w.heap.size, 3, none⟩ = some (.int .i64 0) := CB.cell nV10 3
    exact bodyPost_ret (v := .tuple #[.agg #[.int .i64 0, .int .i64 0, .int .i64 0, .int .i64 0], .int .i64 3]) (by simp [results, Try.results55, go_sem, x_r0, x_r1, x_r2, x_r3]) rfl ⟨by rw [He.out, Hs.out]; rfl, oV10⟩
  · skip
    have He := eNew_0 ho hb
    have Hs := sNew_z He
    have He := Lib.hid He
    have Hs := Lib.hid Hs
    have p0 : decide (x < 0) = false := by simp; omega
    have q0 : decide (0 ≤ x) = true := by simp; omega
    have p1 : decide (1099511627776 < x) = false := by simp; omega
    have q1 : decide (x ≤ 1099511627776) = true := by simp; omega
    have p2 : decide (s < 1) = false := by simp; omega
    have q2 : decide (1 ≤ s) = true := by simp; omega
    have p3 : decide (1048576 < s) = false := by simp; omega
    have q3 : decide (s ≤ 1048576) = true := by simp; omega
    have p4 : decide (m < 0) = false := by simp; omega
    have q4 : decide (0 ≤ m) = true := by simp; omega
    have p5 : decide (100 < m) = false := by simp; omega
    have q5 : decide (m ≤ 100) = true := by simp; omega
    have hs : decide (1 ≤ s ∧ s ≤ 1048576) = true := by simp; omega
    have S1 := fun W => span_c s W
    simp only [hs] at S1
    clear hs
    have hc : decide (0 ≤ m ∧ m ≤ 100) = true := by simp; omega
    have S2 := fun W => cap_c m W
    simp only [hc] at S2
    clear hc
    have v1 : IntKind.i64.wrap (x + s) = x + s := IntWalk.i64_in _ (by omega)
    have t1 : decide (1099511627776 < x + s + m * s) = false := by simp; omega
    have S3 := fun W => lastOf_c (x + s) s 0 m W (by omega) (by omega) (by omega) (by omega)
    simp only [Int.sub_zero] at S3
    clear ho hm hd hb g0 g1 g2 g3 g4 g5
    obtain ⟨W1, hW1⟩ : ∃ V, w.alloc (.cells #[.int .i64 0, .int .i64 0, .int .i64 0, .int .i64 0] 42) = V := ⟨_, rfl⟩
    have nW1_r : CB W1 (w.heap.size) 42 #[.int .i64 0, .int .i64 0, .int .i64 0, .int .i64 0] := by
      rw [← hW1]
      have := (CB.new w 42 #[.int .i64 0, .int .i64 0, .int .i64 0, .int .i64 0])
      simpa using this
    have lW1 : Below w.heap.size w W1 := by rw [← hW1]; exact le_al _ _
    have HW1 := Lib.hid hW1
    clear hW1
    go_enter Try.func55, Try.ntmps55
    go_wp2_with fail
    rw [HW1.out]
    refine (S1 _).mono ?_
    rintro e w2 ⟨rfl, b2⟩
    have r3_r := le_on nW1_r b2
    have l3 := le_tr lW1 b2
    clear nW1_r lW1
    clear b2
    go_wp2_with fail
    refine (S2 _).mono ?_
    rintro e w4 ⟨rfl, b4⟩
    have r5_r := le_on r3_r b4
    have l5 := le_tr l3 b4
    clear r3_r l3
    clear b4
    have av_t : w.heap.size ≤ w4.heap.size := by have := l5.size; omega
    obtain ⟨W6, hW6⟩ : ∃ V, w4.alloc (.cells #[.int .i64 (x + s), .int .i64 s, .int .i64 0, .int .i64 m] 42) = V := ⟨_, rfl⟩
    have zW6 : w4.heap.size = w4.heap.size := by rfl
    have nW6 : CB W6 (w4.heap.size) 42 #[.int .i64 (x + s), .int .i64 s, .int .i64 0, .int .i64 m] := by rw [← zW6, ← hW6]; exact CB.new _ _ _
    have bW6 : Below w4.heap.size w4 W6 := by rw [← hW6]; exact le_al _ _
    have neW6_r : w.heap.size ≠ w4.heap.size := by have := CB.lt r5_r; omega
    have HW6 := Lib.hid hW6
    clear hW6 zW6
    have r7_r := le_on r5_r bW6
    have l7 := le_tr l5 bW6
    clear r5_r l5
    clear bW6
    have f7_t0 : (w4.alloc (.cells #[.int .i64 (x + s), .int .i64 s, .int .i64 0, .int .i64 m] 42)).cell? ⟨w4.heap.size, 0, none⟩ = some (.int .i64 (x + s)) := by rw [HW6.out]; exact CB.cell nW6 0
    have f7_t1 : (w4.alloc (.cells #[.int .i64 (x + s), .int .i64 s, .int .i64 0, .int .i64 m] 42)).cell? ⟨w4.heap.size, 1, none⟩ = some (.int .i64 s) := by rw [HW6.out]; exact CB.cell nW6 1
    have f7_t2 : (w4.alloc (.cells #[.int .i64 (x + s), .int .i64 s, .int .i64 0, .int .i64 m] 42)).cell? ⟨w4.heap.size, 2, none⟩ = some (.int .i64 0) := by rw [HW6.out]; exact CB.cell nW6 2
    have f7_t3 : (w4.alloc (.cells #[.int .i64 (x + s), .int .i64 s, .int .i64 0, .int .i64 m] 42)).cell? ⟨w4.heap.size, 3, none⟩ = some (.int .i64 m) := by rw [HW6.out]; exact CB.cell nW6 3
    go_wp2_with fail
    rw [HW6.out]
    refine (S3 _).mono ?_
    rintro e w8 ⟨rfl, b8⟩
    clear f7_t0 f7_t1 f7_t2 f7_t3
    have r9_r := le_on r7_r b8
    have r9_t := le_on nW6 b8
    have l9 := le_tr l7 b8
    clear r7_r nW6 l7
    clear b8
    have f9_t0 : w8.cell? ⟨w4.heap.size, 0, none⟩ = some (.int .i64 (x + s)) := CB.cell r9_t 0
    have f9_t1 : w8.cell? ⟨w4.heap.size, 1, none⟩ = some (.int .i64 s) := CB.cell r9_t 1
    have f9_t2 : w8.cell? ⟨w4.heap.size, 2, none⟩ = some (.int .i64 0) := CB.cell r9_t 2
    have f9_t3 : w8.cell? ⟨w4.heap.size, 3, none⟩ = some (.int .i64 m) := CB.cell r9_t 3
    have f9_r0 : w8.cell? ⟨w.heap.size, 0, none⟩ = some (.int .i64 0) := CB.cell r9_r 0
    have z9_r0 : w8.frozen? ⟨w.heap.size, 0, none⟩ = false := CB.frozen r9_r 0
    have f9_r1 : w8.cell? ⟨w.heap.size, 1, none⟩ = some (.int .i64 0) := CB.cell r9_r 1
    have z9_r1 : w8.frozen? ⟨w.heap.size, 1, none⟩ = false := CB.frozen r9_r 1
    have f9_r2 : w8.cell? ⟨w.heap.size, 2, none⟩ = some (.int .i64 0) := CB.cell r9_r 2
    have z9_r2 : w8.frozen? ⟨w.heap.size, 2, none⟩ = false := CB.frozen r9_r 2
    have f9_r3 : w8.cell? ⟨w.heap.size, 3, none⟩ = some (.int .i64 0) := CB.cell r9_r 3
    have z9_r3 : w8.frozen? ⟨w.heap.size, 3, none⟩ = false := CB.frozen r9_r 3
    obtain ⟨V10, hV10⟩ : ∃ V, (((w8.setCell ⟨w.heap.size, 0, none⟩ (.int .i64 (x + s))).setCell ⟨w.heap.size, 1, none⟩ (.int .i64 s)).setCell ⟨w.heap.size, 2, none⟩ (.int .i64 0)).setCell ⟨w.heap.size, 3, none⟩ (.int .i64 m) = V := ⟨_, rfl⟩
    have nV10 : CB V10 (w.heap.size) 42 #[.int .i64 (x + s), .int .i64 s, .int .i64 0, .int .i64 m] := by rw [← hV10]; exact cb_cast (CB.put (CB.put (CB.put (CB.put r9_r 0 (.int .i64 (x + s))) 1 (.int .i64 s)) 2 (.int .i64 0)) 3 (.int .i64 m)) (by kernel_rfl)
    have mV10_t : CB V10 (w4.heap.size) 42 #[.int .i64 (x + s), .int .i64 s, .int .i64 0, .int .i64 m] := by rw [← hV10]; exact (CB.far (CB.far (CB.far (CB.far r9_t (p := ⟨w.heap.size, 0, none⟩) (Ne.symm neW6_r) (.int .i64 (x + s))) (p := ⟨w.heap.size, 1, none⟩) (Ne.symm neW6_r) (.int .i64 s)) (p := ⟨w.heap.size, 2, none⟩) (Ne.symm neW6_r) (.int .i64 0)) (p := ⟨w.heap.size, 3, none⟩) (Ne.symm neW6_r) (.int .i64 m))
    have oV10 := (Below.setCell (Below.setCell (Below.setCell (Below.setCell l9 (p := ⟨w.heap.size, 0, none⟩) (by dsimp only; omega) (.int .i64 (x + s))) (p := ⟨w.heap.size, 1, none⟩) (by dsimp only; omega) (.int .i64 s)) (p := ⟨w.heap.size, 2, none⟩) (by dsimp only; omega) (.int .i64 0)) (p := ⟨w.heap.size, 3, none⟩) (by dsimp only; omega) (.int .i64 m))
    rw [hV10] at oV10
    have HV10 := Lib.hid hV10
    clear hV10
    clear r9_r r9_t l9
    go_wp2_with fail
    rw [HV10.out]
    have x_r0 : V10.cell? ⟨w.heap.size, 0, none⟩ = some (.int .i64 (x + s)) := CB.cell nV10 0
    have x_r1 : V10.cell? ⟨w.heap.size, 1, none⟩ = some (.int .i64 s) := CB.cell nV10 1
    have x_r2 : V10.cell? ⟨w.heap.size, 2, none⟩ = some (.int .i64 0) := CB.cell nV10 2
    have x_r3 : V10.cell? ⟨w.heap.size, 3, none⟩ = some (.int .i64 m) := CB.cell nV10 3
    exact bodyPost_ret (v := .tuple #[.agg #[.int .i64 (x + s), .int .i64 s, .int .i64 0, .int .i64 m], .int .i64 0]) (by simp [results, Try.results55, go_sem, x_r0, x_r1, x_r2, x_r3]) rfl ⟨by rw [He.out, Hs.out]; rfl, oV10⟩
end Go.Proofs.Ytjfmahceolhfnaa.Te
