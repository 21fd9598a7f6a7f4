/-
  Layer 12's laws: theirs, ours, same, alive. No condition but that slices can be read.
-/
import Derived.Test.YtmghckddofefkaaHaE
set_option linter.unusedVariables false
set_option linter.unusedSimpArgs false
namespace Go.Proofs.Ytmghckddofefkaa
open Go.RowKit


theorem RS.at0 {w : World} {T : TypeId} {g off q : Nat} {kd fr t e : Int} {mg : ByteArray} (h : RS w T mc 5 (some ⟨g, off, none⟩) 1 q [⟨kd, fr, t, e, mg⟩]) :
    w.cell? ⟨g, off, none⟩ = some (.int .i64 kd) ∧ w.cell? ⟨g, off + 1, none⟩ = some (.int .u8 fr) ∧ w.cell? ⟨g, off + 2, none⟩ = some (.int .u8 t) ∧ w.cell? ⟨g, off + 3, none⟩ = some (.int .i64 e) ∧ w.cell? ⟨g, off + 4, none⟩ = some (.string mg) := by
  obtain ⟨g', off', x, h1, h2, h3⟩ := h.rr.at_ (k := 0) (by omega)
  cases h2
  simp at h1
  subst h1
  exact ⟨by simpa using h3 0 _ rfl, by simpa using h3 1 _ rfl, by simpa using h3 2 _ rfl, by simpa using h3 3 _ rfl, by simpa using h3 4 _ rfl⟩
theorem RS.one {w : World} {T : TypeId} {A : Option Addr} {n q : Nat} {m : Mg} (h : RS w T mc 5 A n q [m]) : n = 1 ∧ ∃ g off, A = some ⟨g, off, none⟩ := by
  have hl := h.len
  simp at hl
  obtain ⟨g, off, _, _, h2, _⟩ := h.rr.at_ (k := 0) (by omega)
  exact ⟨hl.symm, g, off, h2⟩
theorem RS.none_ {w : World} {T : TypeId} {A : Option Addr} {n q : Nat} (h : RS w T mc 5 A n q []) : n = 0 := by
  have hl := h.len
  simp at hl
  exact hl.symm
/-- The k-th message of a slice that can be read. -/
theorem msg_at {w : World} {A : Option Addr} {n q : Nat} {L : List Mg} (h : RR w mc 5 A n q L) {k : Nat} (hk : k < n) :
    ∃ g off kd fr t e mg, A = some ⟨g, off, none⟩ ∧ L[k]? = some ⟨kd, fr, t, e, mg⟩ ∧ w.cell? ⟨g, off + k * 5, none⟩ = some (.int .i64 kd) ∧ w.cell? ⟨g, off + k * 5 + 1, none⟩ = some (.int .u8 fr) ∧ w.cell? ⟨g, off + k * 5 + 2, none⟩ = some (.int .u8 t) ∧ w.cell? ⟨g, off + k * 5 + 3, none⟩ = some (.int .i64 e) ∧ w.cell? ⟨g, off + k * 5 + 4, none⟩ = some (.string mg) := by
  obtain ⟨g, off, x, h1, h2, h3⟩ := h.at_ hk
  exact ⟨g, off, x.kd, x.fr, x.to, x.ep, x.cg, h2, h1, h3 0 _ rfl, h3 1 _ rfl, h3 2 _ rfl, h3 3 _ rfl, h3 4 _ rfl⟩
set_option maxRecDepth 100000 in
set_option maxHeartbeats 4000000 in
theorem theirs_c (me ep st to : Int) (cg : ByteArray) (kp : Bool) (w : World) : Calls Try.prog 12 #[.agg #[.int .u8 me, .int .i64 ep, .int .i64 st, .int .u8 to, .string cg, .bool kp]] w fun r w' => r = .returned (.agg #[.int .u8 me, .int .i64 ep, .int .i64 st, .int .u8 to, .string cg, .bool kp]) ∧ Below w.heap.size w w' := by
  obtain ⟨W1, hW1⟩ : ∃ V, (w.alloc (.cells #[.int .u8 me, .int .i64 ep, .int .i64 st, .int .u8 to, .string cg, .bool kp] 25)).alloc (.cells #[.int .u8 me, .int .i64 ep, .int .i64 st, .int .u8 to, .string cg, .bool kp] 31) = V := ⟨_, rfl⟩
  have nW1_s : CB W1 (w.heap.size) 25 #[.int .u8 me, .int .i64 ep, .int .i64 st, .int .u8 to, .string cg, .bool kp] := by
    rw [← hW1]
    have := ((CB.new w 25 #[.int .u8 me, .int .i64 ep, .int .i64 st, .int .u8 to, .string cg, .bool kp]).alloc (.cells #[.int .u8 me, .int .i64 ep, .int .i64 st, .int .u8 to, .string cg, .bool kp] 31))
    simpa using this
  have nW1_r : CB W1 (w.heap.size + 1) 31 #[.int .u8 me, .int .i64 ep, .int .i64 st, .int .u8 to, .string cg, .bool kp] := by
    rw [← hW1]
    have := (CB.new (w.alloc (.cells #[.int .u8 me, .int .i64 ep, .int .i64 st, .int .u8 to, .string cg, .bool kp] 25)) 31 #[.int .u8 me, .int .i64 ep, .int .i64 st, .int .u8 to, .string cg, .bool kp])
    simpa using this
  have neW1_01 : w.heap.size ≠ w.heap.size + 1 := by omega
  have lW1 : Below w.heap.size w W1 := by rw [← hW1]; exact le_tr (le_al _ _) (le_al _ _)
  have HW1 := Lib.hid hW1
  clear hW1
  go_enter Try.func12, Try.ntmps12
  go_wp2_with fail
  rw [HW1.out]
  have x_r0 : W1.cell? ⟨w.heap.size + 1, 0, none⟩ = some (.int .u8 me) := CB.cell nW1_r 0
  have x_r1 : W1.cell? ⟨w.heap.size + 1, 1, none⟩ = some (.int .i64 ep) := CB.cell nW1_r 1
  have x_r2 : W1.cell? ⟨w.heap.size + 1, 2, none⟩ = some (.int .i64 st) := CB.cell nW1_r 2
  have x_r3 : W1.cell? ⟨w.heap.size + 1, 3, none⟩ = some (.int .u8 to) := CB.cell nW1_r 3
  have x_r4 : W1.cell? ⟨w.heap.size + 1, 4, none⟩ = some (.string cg) := CB.cell nW1_r 4
  have x_r5 : W1.cell? ⟨w.heap.size + 1, 5, none⟩ = some (.bool kp) := CB.cell nW1_r 5
  exact bodyPost_ret (v := .agg #[.int .u8 me, .int .i64 ep, .int .i64 st, .int .u8 to, .string cg, .bool kp]) (by simp [results, Try.results12, go_sem, x_r0, x_r1, x_r2, x_r3, x_r4, x_r5]) rfl ⟨rfl, lW1⟩
set_option maxRecDepth 100000 in
set_option maxHeartbeats 4000000 in
theorem ours_c (me ep st to : Int) (cg : ByteArray) (kp : Bool) (w : World) : Calls Try.prog 14 #[.agg #[.int .u8 me, .int .i64 ep, .int .i64 st, .int .u8 to, .string cg, .bool kp]] w fun r w' => r = .returned (.agg #[.int .u8 me, .int .i64 ep, .int .i64 st, .int .u8 to, .string cg, .bool kp]) ∧ Below w.heap.size w w' := by
  obtain ⟨W1, hW1⟩ : ∃ V, (w.alloc (.cells #[.int .u8 me, .int .i64 ep, .int .i64 st, .int .u8 to, .string cg, .bool kp] 31)).alloc (.cells #[.int .u8 me, .int .i64 ep, .int .i64 st, .int .u8 to, .string cg, .bool kp] 25) = V := ⟨_, rfl⟩
  have nW1_s : CB W1 (w.heap.size) 31 #[.int .u8 me, .int .i64 ep, .int .i64 st, .int .u8 to, .string cg, .bool kp] := by
    rw [← hW1]
    have := ((CB.new w 31 #[.int .u8 me, .int .i64 ep, .int .i64 st, .int .u8 to, .string cg, .bool kp]).alloc (.cells #[.int .u8 me, .int .i64 ep, .int .i64 st, .int .u8 to, .string cg, .bool kp] 25))
    simpa using this
  have nW1_r : CB W1 (w.heap.size + 1) 25 #[.int .u8 me, .int .i64 ep, .int .i64 st, .int .u8 to, .string cg, .bool kp] := by
    rw [← hW1]
    have := (CB.new (w.alloc (.cells #[.int .u8 me, .int .i64 ep, .int .i64 st, .int .u8 to, .string cg, .bool kp] 31)) 25 #[.int .u8 me, .int .i64 ep, .int .i64 st, .int .u8 to, .string cg, .bool kp])
    simpa using this
  have neW1_01 : w.heap.size ≠ w.heap.size + 1 := by omega
  have lW1 : Below w.heap.size w W1 := by rw [← hW1]; exact le_tr (le_al _ _) (le_al _ _)
  have HW1 := Lib.hid hW1
  clear hW1
  go_enter Try.func14, Try.ntmps14
  go_wp2_with fail
  rw [HW1.out]
  have x_r0 : W1.cell? ⟨w.heap.size + 1, 0, none⟩ = some (.int .u8 me) := CB.cell nW1_r 0
  have x_r1 : W1.cell? ⟨w.heap.size + 1, 1, none⟩ = some (.int .i64 ep) := CB.cell nW1_r 1
  have x_r2 : W1.cell? ⟨w.heap.size + 1, 2, none⟩ = some (.int .i64 st) := CB.cell nW1_r 2
  have x_r3 : W1.cell? ⟨w.heap.size + 1, 3, none⟩ = some (.int .u8 to) := CB.cell nW1_r 3
  have x_r4 : W1.cell? ⟨w.heap.size + 1, 4, none⟩ = some (.string cg) := CB.cell nW1_r 4
  have x_r5 : W1.cell? ⟨w.heap.size + 1, 5, none⟩ = some (.bool kp) := CB.cell nW1_r 5
  exact bodyPost_ret (v := .agg #[.int .u8 me, .int .i64 ep, .int .i64 st, .int .u8 to, .string cg, .bool kp]) (by simp [results, Try.results14, go_sem, x_r0, x_r1, x_r2, x_r3, x_r4, x_r5]) rfl ⟨rfl, lW1⟩
set_option maxRecDepth 100000 in
set_option maxHeartbeats 4000000 in
theorem hsame_c (A A' : Option Addr) (n q n' q' : Nat) (L : List Mg) (w : World) (h1 : RR w mc 5 A n q L) (h2 : RR w mc 5 A' n' q' L) : Calls Try.prog 15 #[.slice A n q, .slice A' n' q'] w fun e w' => e = .returned (.bool true) ∧ Below w.heap.size w w' := by
  obtain rfl : n = n' := h1.len.symm.trans h2.len
  have hmx : n ≤ maxLen := Nat.le_trans h1.cap h1.max
  simp only [maxLen] at hmx
  have hnn : ((n : Int) != (n : Int)) = false := by simp
  go_enter Try.func15, Try.ntmps15
  go_wp2_with fail
  go_loopw [13] (fun i wr => ∃ j : Nat, j ≤ n ∧ i = .int .i64 j ∧ Below w.heap.size w wr) (fun i _ => n - (intOf i).toNat)
  case atStart => exact ⟨0, by omega, rfl, Below.refl _ _⟩
  case round =>
    obtain ⟨j, hj, rfl, hlow⟩ := hrel
    by_cases hlt : j < n
    · obtain ⟨g, off, kd, fr, t, e, mg, rfl, x1, d0, d1, d2, d3, d4⟩ := msg_at (h1.on hlow) hlt
      obtain ⟨g', off', kd', fr', t', e', mg', rfl, x2, c0, c1, c2, c3, c4⟩ := msg_at (h2.on hlow) hlt
      rw [x1] at x2
      cases x2
      have e0 : (kd == kd) = true := beq_self_eq_true _
      have e1 : (fr == fr) = true := beq_self_eq_true _
      have e2 : (t == t) = true := beq_self_eq_true _
      have e3 : (e == e) = true := beq_self_eq_true _
      have e4 : (mg.toList == mg.toList) = true := beq_self_eq_true _
      clear x1
      go_wp2_with fail
      go_quiet (fail)
      have hl2 := Lib.hid (belowN hlow nq)
      clear hlow d0 d1 d2 d3 d4 c0 c1 c2 c3 c4
      go_wp2_with fail
      go_roundw
      case rel => exact ⟨j + 1, by omega, by go_num, hl2.out⟩
      case measure => simp [intOf]; omega
    · obtain rfl : j = n := by omega
      go_wp2_with fail
      go_ret
      exact ⟨rfl, hlow⟩
set_option maxRecDepth 100000 in
set_option maxHeartbeats 8000000 in
theorem alive_c (w : World) : Calls Try.prog 10 #[] w fun r w' => r = .returned (.bool true) ∧ Below w.heap.size w w' := by
  have K0 : ∀ W, Calls Try.prog 16 #[.agg #[.int .u8 1, .int .i64 1, .int .i64 1, .int .u8 0, .string ⟨#[99]⟩, .bool false], .int .u8 2] W (fun r w' => r = .returned (.tuple #[.agg #[.int .i64 1, .int .u8 1, .int .u8 2, .int .i64 1, .string ⟨#[]⟩], .int .i64 0]) ∧ Below W.heap.size W w') := fun W => hask_c (1) (1) (1) (0) (⟨#[99]⟩) (false) 2 W
  have K1 : ∀ W, Calls Try.prog 11 #[.agg #[.int .u8 2, .int .i64 0, .int .i64 0, .int .u8 0, .string ⟨#[]⟩, .bool false], .agg #[.int .i64 1, .int .u8 1, .int .u8 2, .int .i64 1, .string ⟨#[]⟩]] W (fun r w' => ∃ A n q, r = .returned (.tuple #[.agg #[.int .u8 2, .int .i64 0, .int .i64 0, .int .u8 0, .string ⟨#[]⟩, .bool false], .slice A n q, .int .i64 0]) ∧ RS w' 37 mc 5 A n q [⟨2, 2, 1, 1, ⟨#[]⟩⟩] ∧ Below W.heap.size W w') := fun W => (by
    have := hear_c (2) (0) (0) (0) (⟨#[]⟩) (false) (1) (1) (2) (1) (⟨#[]⟩) W
    rw [show hearM ⟨2, ⟨0, 0, 0⟩, ⟨#[]⟩, false⟩ ⟨1, 1, 2, 1, ⟨#[]⟩⟩ = ⟨⟨2, ⟨0, 0, 0⟩, ⟨#[]⟩, false⟩, [⟨2, 2, 1, 1, ⟨#[]⟩⟩], 0⟩ from rfl] at this
    exact this)
  have K2 : ∀ W, Calls Try.prog 11 #[.agg #[.int .u8 1, .int .i64 1, .int .i64 1, .int .u8 0, .string ⟨#[99]⟩, .bool false], .agg #[.int .i64 2, .int .u8 2, .int .u8 1, .int .i64 1, .string ⟨#[]⟩]] W (fun r w' => ∃ A n q, r = .returned (.tuple #[.agg #[.int .u8 1, .int .i64 1, .int .i64 2, .int .u8 2, .string ⟨#[99]⟩, .bool true], .slice A n q, .int .i64 0]) ∧ RS w' 37 mc 5 A n q [⟨3, 1, 2, 2, ⟨#[99]⟩⟩] ∧ Below W.heap.size W w') := fun W => (by
    have := hear_c (1) (1) (1) (0) (⟨#[99]⟩) (false) (2) (2) (1) (1) (⟨#[]⟩) W
    rw [show hearM ⟨1, ⟨1, 1, 0⟩, ⟨#[99]⟩, false⟩ ⟨2, 2, 1, 1, ⟨#[]⟩⟩ = ⟨⟨1, ⟨1, 2, 2⟩, ⟨#[99]⟩, true⟩, [⟨3, 1, 2, 2, ⟨#[99]⟩⟩], 0⟩ from rfl] at this
    exact this)
  have K3 : ∀ W, Calls Try.prog 11 #[.agg #[.int .u8 2, .int .i64 0, .int .i64 0, .int .u8 0, .string ⟨#[]⟩, .bool false], .agg #[.int .i64 3, .int .u8 1, .int .u8 2, .int .i64 2, .string ⟨#[99]⟩]] W (fun r w' => ∃ A n q, r = .returned (.tuple #[.agg #[.int .u8 2, .int .i64 2, .int .i64 1, .int .u8 0, .string ⟨#[99]⟩, .bool false], .slice A n q, .int .i64 0]) ∧ RS w' 37 mc 5 A n q [⟨4, 2, 1, 2, ⟨#[]⟩⟩] ∧ Below W.heap.size W w') := fun W => (by
    have := hear_c (2) (0) (0) (0) (⟨#[]⟩) (false) (3) (1) (2) (2) (⟨#[99]⟩) W
    rw [show hearM ⟨2, ⟨0, 0, 0⟩, ⟨#[]⟩, false⟩ ⟨3, 1, 2, 2, ⟨#[99]⟩⟩ = ⟨⟨2, ⟨2, 1, 0⟩, ⟨#[99]⟩, false⟩, [⟨4, 2, 1, 2, ⟨#[]⟩⟩], 0⟩ from rfl] at this
    exact this)
  have K4 : ∀ W, Calls Try.prog 11 #[.agg #[.int .u8 1, .int .i64 1, .int .i64 2, .int .u8 2, .string ⟨#[99]⟩, .bool true], .agg #[.int .i64 4, .int .u8 2, .int .u8 1, .int .i64 2, .string ⟨#[]⟩]] W (fun r w' => ∃ A n q, r = .returned (.tuple #[.agg #[.int .u8 1, .int .i64 1, .int .i64 2, .int .u8 2, .string ⟨#[]⟩, .bool false], .slice A n q, .int .i64 0]) ∧ RS w' 37 mc 5 A n q [] ∧ Below W.heap.size W w') := fun W => (by
    have := hear_c (1) (1) (2) (2) (⟨#[99]⟩) (true) (4) (2) (1) (2) (⟨#[]⟩) W
    rw [show hearM ⟨1, ⟨1, 2, 2⟩, ⟨#[99]⟩, true⟩ ⟨4, 2, 1, 2, ⟨#[]⟩⟩ = ⟨⟨1, ⟨1, 2, 2⟩, ⟨#[]⟩, false⟩, [], 0⟩ from rfl] at this
    exact this)
  have K5 : ∀ W, Calls Try.prog 20 #[.agg #[.int .u8 1, .int .i64 1, .int .i64 2, .int .u8 2, .string ⟨#[99]⟩, .bool true]] W (RPost W 37 mc 5 [⟨3, 1, 2, 2, ⟨#[99]⟩⟩]) := fun W => (by
    have := again_c (1) (1) (2) (2) (⟨#[99]⟩) (true) W
    rw [show againM ⟨1, ⟨1, 2, 2⟩, ⟨#[99]⟩, true⟩ = [⟨3, 1, 2, 2, ⟨#[99]⟩⟩] from rfl] at this
    exact this)
  have K6 : ∀ W, Calls Try.prog 36 #[.agg #[.int .i64 2, .int .i64 1, .int .u8 0], .int .i64 2] W (fun r w' => r = .returned (.bool true) ∧ Below W.heap.size W w') := fun W => speaks_c 2 1 0 2 W
  have K7 : ∀ W, Calls Try.prog 18 #[.agg #[.int .u8 1, .int .i64 1, .int .i64 2, .int .u8 2, .string ⟨#[]⟩, .bool false]] W (fun r w' => r = .returned (.bool true) ∧ Below W.heap.size W w') := fun W => hright_c (1) (1) (2) (2) (⟨#[]⟩) (false) W
  obtain ⟨W1, hW1⟩ : ∃ V, (w.alloc (.cells #[.int .u8 1, .int .i64 1, .int .i64 1, .int .u8 0, .string ⟨#[99]⟩, .bool false] 31)).alloc (.cells #[.int .u8 2, .int .i64 0, .int .i64 0, .int .u8 0, .string ⟨#[]⟩, .bool false] 31) = V := ⟨_, rfl⟩
  have nW1_a : CB W1 (w.heap.size) 31 #[.int .u8 1, .int .i64 1, .int .i64 1, .int .u8 0, .string ⟨#[99]⟩, .bool false] := by
    rw [← hW1]
    have := ((CB.new w 31 #[.int .u8 1, .int .i64 1, .int .i64 1, .int .u8 0, .string ⟨#[99]⟩, .bool false]).alloc (.cells #[.int .u8 2, .int .i64 0, .int .i64 0, .int .u8 0, .string ⟨#[]⟩, .bool false] 31))
    simpa using this
  have nW1_b : CB W1 (w.heap.size + 1) 31 #[.int .u8 2, .int .i64 0, .int .i64 0, .int .u8 0, .string ⟨#[]⟩, .bool false] := by
    rw [← hW1]
    have := (CB.new (w.alloc (.cells #[.int .u8 1, .int .i64 1, .int .i64 1, .int .u8 0, .string ⟨#[99]⟩, .bool false] 31)) 31 #[.int .u8 2, .int .i64 0, .int .i64 0, .int .u8 0, .string ⟨#[]⟩, .bool false])
    simpa using this
  have neW1_01 : w.heap.size ≠ w.heap.size + 1 := by omega
  have lW1 : Below w.heap.size w W1 := by rw [← hW1]; exact le_tr (le_al _ _) (le_al _ _)
  have HW1 := Lib.hid hW1
  clear hW1
  go_enter Try.func10, Try.ntmps10
  go_wp2_with fail
  rw [HW1.out]
  refine (K0 _).mono ?_
  rintro e w2 ⟨rfl, b2⟩
  have r3_a := le_on nW1_a b2
  have r3_b := le_on nW1_b b2
  have l3 := le_tr lW1 b2
  clear nW1_a nW1_b lW1
  clear b2
  have av_m : w.heap.size ≤ w2.heap.size := by have := l3.size; omega
  obtain ⟨W4, hW4⟩ : ∃ V, w2.alloc (.cells #[.int .i64 1, .int .u8 1, .int .u8 2, .int .i64 1, .string ⟨#[]⟩] 37) = V := ⟨_, rfl⟩
  have zW4 : w2.heap.size = w2.heap.size := by rfl
  have nW4 : CB W4 (w2.heap.size) 37 #[.int .i64 1, .int .u8 1, .int .u8 2, .int .i64 1, .string ⟨#[]⟩] := by rw [← zW4, ← hW4]; exact CB.new _ _ _
  have bW4 : Below w2.heap.size w2 W4 := by rw [← hW4]; exact le_al _ _
  have neW4_a : w.heap.size ≠ w2.heap.size := by have := CB.lt r3_a; omega
  have neW4_b : w.heap.size + 1 ≠ w2.heap.size := by have := CB.lt r3_b; omega
  have HW4 := Lib.hid hW4
  clear hW4 zW4
  have r5_a := le_on r3_a bW4
  have r5_b := le_on r3_b bW4
  have l5 := le_tr l3 bW4
  clear r3_a r3_b l3
  clear bW4
  have f5_a0 : (w2.alloc (.cells #[.int .i64 1, .int .u8 1, .int .u8 2, .int .i64 1, .string ⟨#[]⟩] 37)).cell? ⟨w.heap.size, 0, none⟩ = some (.int .u8 1) := by rw [HW4.out]; exact CB.cell r5_a 0
  have f5_a1 : (w2.alloc (.cells #[.int .i64 1, .int .u8 1, .int .u8 2, .int .i64 1, .string ⟨#[]⟩] 37)).cell? ⟨w.heap.size, 1, none⟩ = some (.int .i64 1) := by rw [HW4.out]; exact CB.cell r5_a 1
  have f5_a2 : (w2.alloc (.cells #[.int .i64 1, .int .u8 1, .int .u8 2, .int .i64 1, .string ⟨#[]⟩] 37)).cell? ⟨w.heap.size, 2, none⟩ = some (.int .i64 1) := by rw [HW4.out]; exact CB.cell r5_a 2
  have f5_a3 : (w2.alloc (.cells #[.int .i64 1, .int .u8 1, .int .u8 2, .int .i64 1, .string ⟨#[]⟩] 37)).cell? ⟨w.heap.size, 3, none⟩ = some (.int .u8 0) := by rw [HW4.out]; exact CB.cell r5_a 3
  have f5_a4 : (w2.alloc (.cells #[.int .i64 1, .int .u8 1, .int .u8 2, .int .i64 1, .string ⟨#[]⟩] 37)).cell? ⟨w.heap.size, 4, none⟩ = some (.string ⟨#[99]⟩) := by rw [HW4.out]; exact CB.cell r5_a 4
  have f5_a5 : (w2.alloc (.cells #[.int .i64 1, .int .u8 1, .int .u8 2, .int .i64 1, .string ⟨#[]⟩] 37)).cell? ⟨w.heap.size, 5, none⟩ = some (.bool false) := by rw [HW4.out]; exact CB.cell r5_a 5
  have f5_b0 : (w2.alloc (.cells #[.int .i64 1, .int .u8 1, .int .u8 2, .int .i64 1, .string ⟨#[]⟩] 37)).cell? ⟨w.heap.size + 1, 0, none⟩ = some (.int .u8 2) := by rw [HW4.out]; exact CB.cell r5_b 0
  have f5_b1 : (w2.alloc (.cells #[.int .i64 1, .int .u8 1, .int .u8 2, .int .i64 1, .string ⟨#[]⟩] 37)).cell? ⟨w.heap.size + 1, 1, none⟩ = some (.int .i64 0) := by rw [HW4.out]; exact CB.cell r5_b 1
  have f5_b2 : (w2.alloc (.cells #[.int .i64 1, .int .u8 1, .int .u8 2, .int .i64 1, .string ⟨#[]⟩] 37)).cell? ⟨w.heap.size + 1, 2, none⟩ = some (.int .i64 0) := by rw [HW4.out]; exact CB.cell r5_b 2
  have f5_b3 : (w2.alloc (.cells #[.int .i64 1, .int .u8 1, .int .u8 2, .int .i64 1, .string ⟨#[]⟩] 37)).cell? ⟨w.heap.size + 1, 3, none⟩ = some (.int .u8 0) := by rw [HW4.out]; exact CB.cell r5_b 3
  have f5_b4 : (w2.alloc (.cells #[.int .i64 1, .int .u8 1, .int .u8 2, .int .i64 1, .string ⟨#[]⟩] 37)).cell? ⟨w.heap.size + 1, 4, none⟩ = some (.string ⟨#[]⟩) := by rw [HW4.out]; exact CB.cell r5_b 4
  have f5_b5 : (w2.alloc (.cells #[.int .i64 1, .int .u8 1, .int .u8 2, .int .i64 1, .string ⟨#[]⟩] 37)).cell? ⟨w.heap.size + 1, 5, none⟩ = some (.bool false) := by rw [HW4.out]; exact CB.cell r5_b 5
  have f5_m0 : (w2.alloc (.cells #[.int .i64 1, .int .u8 1, .int .u8 2, .int .i64 1, .string ⟨#[]⟩] 37)).cell? ⟨w2.heap.size, 0, none⟩ = some (.int .i64 1) := by rw [HW4.out]; exact CB.cell nW4 0
  have f5_m1 : (w2.alloc (.cells #[.int .i64 1, .int .u8 1, .int .u8 2, .int .i64 1, .string ⟨#[]⟩] 37)).cell? ⟨w2.heap.size, 1, none⟩ = some (.int .u8 1) := by rw [HW4.out]; exact CB.cell nW4 1
  have f5_m2 : (w2.alloc (.cells #[.int .i64 1, .int .u8 1, .int .u8 2, .int .i64 1, .string ⟨#[]⟩] 37)).cell? ⟨w2.heap.size, 2, none⟩ = some (.int .u8 2) := by rw [HW4.out]; exact CB.cell nW4 2
  have f5_m3 : (w2.alloc (.cells #[.int .i64 1, .int .u8 1, .int .u8 2, .int .i64 1, .string ⟨#[]⟩] 37)).cell? ⟨w2.heap.size, 3, none⟩ = some (.int .i64 1) := by rw [HW4.out]; exact CB.cell nW4 3
  have f5_m4 : (w2.alloc (.cells #[.int .i64 1, .int .u8 1, .int .u8 2, .int .i64 1, .string ⟨#[]⟩] 37)).cell? ⟨w2.heap.size, 4, none⟩ = some (.string ⟨#[]⟩) := by rw [HW4.out]; exact CB.cell nW4 4
  go_wp2_with fail
  rw [HW4.out]
  refine (K1 _).mono ?_
  rintro e w6 ⟨A, n, q, rfl, hr, b6⟩
  clear f5_a0 f5_a1 f5_a2 f5_a3 f5_a4 f5_a5 f5_b0 f5_b1 f5_b2 f5_b3 f5_b4 f5_b5 f5_m0 f5_m1 f5_m2 f5_m3 f5_m4
  have r7_a := le_on r5_a b6
  have r7_b := le_on r5_b b6
  have r7_m := le_on nW4 b6
  have l7 := le_tr l5 b6
  clear r5_a r5_b nW4 l5
  clear b6
  obtain ⟨rfl, g1, o1, rfl⟩ := RS.one hr
  have f7_b0 : w6.cell? ⟨w.heap.size + 1, 0, none⟩ = some (.int .u8 2) := CB.cell r7_b 0
  have f7_b1 : w6.cell? ⟨w.heap.size + 1, 1, none⟩ = some (.int .i64 0) := CB.cell r7_b 1
  have f7_b2 : w6.cell? ⟨w.heap.size + 1, 2, none⟩ = some (.int .i64 0) := CB.cell r7_b 2
  have f7_b3 : w6.cell? ⟨w.heap.size + 1, 3, none⟩ = some (.int .u8 0) := CB.cell r7_b 3
  have f7_b4 : w6.cell? ⟨w.heap.size + 1, 4, none⟩ = some (.string ⟨#[]⟩) := CB.cell r7_b 4
  have f7_b5 : w6.cell? ⟨w.heap.size + 1, 5, none⟩ = some (.bool false) := CB.cell r7_b 5
  have f7_a0 : w6.cell? ⟨w.heap.size, 0, none⟩ = some (.int .u8 1) := CB.cell r7_a 0
  have f7_a1 : w6.cell? ⟨w.heap.size, 1, none⟩ = some (.int .i64 1) := CB.cell r7_a 1
  have f7_a2 : w6.cell? ⟨w.heap.size, 2, none⟩ = some (.int .i64 1) := CB.cell r7_a 2
  have f7_a3 : w6.cell? ⟨w.heap.size, 3, none⟩ = some (.int .u8 0) := CB.cell r7_a 3
  have f7_a4 : w6.cell? ⟨w.heap.size, 4, none⟩ = some (.string ⟨#[99]⟩) := CB.cell r7_a 4
  have f7_a5 : w6.cell? ⟨w.heap.size, 5, none⟩ = some (.bool false) := CB.cell r7_a 5
  have f7_z10 : w6.cell? ⟨g1, o1, none⟩ = some (.int .i64 2) := (RS.at0 hr).1
  have f7_z11 : w6.cell? ⟨g1, o1 + 1, none⟩ = some (.int .u8 2) := (RS.at0 hr).2.1
  have f7_z12 : w6.cell? ⟨g1, o1 + 2, none⟩ = some (.int .u8 1) := (RS.at0 hr).2.2.1
  have f7_z13 : w6.cell? ⟨g1, o1 + 3, none⟩ = some (.int .i64 1) := (RS.at0 hr).2.2.2.1
  have f7_z14 : w6.cell? ⟨g1, o1 + 4, none⟩ = some (.string ⟨#[]⟩) := (RS.at0 hr).2.2.2.2
  have g8_z1 := (RS.far (RS.far (RS.far (RS.far (RS.far (RS.far hr r7_b (by decide) 0 (.int .u8 2)) (CB.put r7_b 0 (.int .u8 2)) (by decide) 1 (.int .i64 0)) (CB.put (CB.put r7_b 0 (.int .u8 2)) 1 (.int .i64 0)) (by decide) 2 (.int .i64 0)) (CB.put (CB.put (CB.put r7_b 0 (.int .u8 2)) 1 (.int .i64 0)) 2 (.int .i64 0)) (by decide) 3 (.int .u8 0)) (CB.put (CB.put (CB.put (CB.put r7_b 0 (.int .u8 2)) 1 (.int .i64 0)) 2 (.int .i64 0)) 3 (.int .u8 0)) (by decide) 4 (.string ⟨#[]⟩)) (CB.put (CB.put (CB.put (CB.put (CB.put r7_b 0 (.int .u8 2)) 1 (.int .i64 0)) 2 (.int .i64 0)) 3 (.int .u8 0)) 4 (.string ⟨#[]⟩)) (by decide) 5 (.bool false))
  have z7_b0 : w6.frozen? ⟨w.heap.size + 1, 0, none⟩ = false := CB.frozen r7_b 0
  have z7_b1 : w6.frozen? ⟨w.heap.size + 1, 1, none⟩ = false := CB.frozen r7_b 1
  have z7_b2 : w6.frozen? ⟨w.heap.size + 1, 2, none⟩ = false := CB.frozen r7_b 2
  have z7_b3 : w6.frozen? ⟨w.heap.size + 1, 3, none⟩ = false := CB.frozen r7_b 3
  have z7_b4 : w6.frozen? ⟨w.heap.size + 1, 4, none⟩ = false := CB.frozen r7_b 4
  have z7_b5 : w6.frozen? ⟨w.heap.size + 1, 5, none⟩ = false := CB.frozen r7_b 5
  obtain ⟨V8, hV8⟩ : ∃ V, (((((w6.setCell ⟨w.heap.size + 1, 0, none⟩ (.int .u8 2)).setCell ⟨w.heap.size + 1, 1, none⟩ (.int .i64 0)).setCell ⟨w.heap.size + 1, 2, none⟩ (.int .i64 0)).setCell ⟨w.heap.size + 1, 3, none⟩ (.int .u8 0)).setCell ⟨w.heap.size + 1, 4, none⟩ (.string ⟨#[]⟩)).setCell ⟨w.heap.size + 1, 5, none⟩ (.bool false) = V := ⟨_, rfl⟩
  have nV8 : CB V8 (w.heap.size + 1) 31 #[.int .u8 2, .int .i64 0, .int .i64 0, .int .u8 0, .string ⟨#[]⟩, .bool false] := by rw [← hV8]; exact cb_cast (CB.put (CB.put (CB.put (CB.put (CB.put (CB.put r7_b 0 (.int .u8 2)) 1 (.int .i64 0)) 2 (.int .i64 0)) 3 (.int .u8 0)) 4 (.string ⟨#[]⟩)) 5 (.bool false)) (by kernel_rfl)
  have mV8_a : CB V8 (w.heap.size) 31 #[.int .u8 1, .int .i64 1, .int .i64 1, .int .u8 0, .string ⟨#[99]⟩, .bool false] := by rw [← hV8]; exact (CB.far (CB.far (CB.far (CB.far (CB.far (CB.far r7_a (p := ⟨w.heap.size + 1, 0, none⟩) neW1_01 (.int .u8 2)) (p := ⟨w.heap.size + 1, 1, none⟩) neW1_01 (.int .i64 0)) (p := ⟨w.heap.size + 1, 2, none⟩) neW1_01 (.int .i64 0)) (p := ⟨w.heap.size + 1, 3, none⟩) neW1_01 (.int .u8 0)) (p := ⟨w.heap.size + 1, 4, none⟩) neW1_01 (.string ⟨#[]⟩)) (p := ⟨w.heap.size + 1, 5, none⟩) neW1_01 (.bool false))
  have mV8_m : CB V8 (w2.heap.size) 37 #[.int .i64 1, .int .u8 1, .int .u8 2, .int .i64 1, .string ⟨#[]⟩] := by rw [← hV8]; exact (CB.far (CB.far (CB.far (CB.far (CB.far (CB.far r7_m (p := ⟨w.heap.size + 1, 0, none⟩) (Ne.symm neW4_b) (.int .u8 2)) (p := ⟨w.heap.size + 1, 1, none⟩) (Ne.symm neW4_b) (.int .i64 0)) (p := ⟨w.heap.size + 1, 2, none⟩) (Ne.symm neW4_b) (.int .i64 0)) (p := ⟨w.heap.size + 1, 3, none⟩) (Ne.symm neW4_b) (.int .u8 0)) (p := ⟨w.heap.size + 1, 4, none⟩) (Ne.symm neW4_b) (.string ⟨#[]⟩)) (p := ⟨w.heap.size + 1, 5, none⟩) (Ne.symm neW4_b) (.bool false))
  have oV8 := (Below.setCell (Below.setCell (Below.setCell (Below.setCell (Below.setCell (Below.setCell l7 (p := ⟨w.heap.size + 1, 0, none⟩) (by dsimp only; omega) (.int .u8 2)) (p := ⟨w.heap.size + 1, 1, none⟩) (by dsimp only; omega) (.int .i64 0)) (p := ⟨w.heap.size + 1, 2, none⟩) (by dsimp only; omega) (.int .i64 0)) (p := ⟨w.heap.size + 1, 3, none⟩) (by dsimp only; omega) (.int .u8 0)) (p := ⟨w.heap.size + 1, 4, none⟩) (by dsimp only; omega) (.string ⟨#[]⟩)) (p := ⟨w.heap.size + 1, 5, none⟩) (by dsimp only; omega) (.bool false))
  rw [hV8] at oV8
  have HV8 := Lib.hid hV8
  have V8_eq := hV8
  clear hV8
  clear r7_b r7_a r7_m l7
  have q8_z1 : RS V8 37 mc 5 (some ⟨g1, o1, none⟩) 1 q [⟨2, 2, 1, 1, ⟨#[]⟩⟩] := by rw [← V8_eq]; exact g8_z1
  clear g8_z1 hr
  clear V8_eq
  have f8_a0 : (((((((w6).setCell ⟨w.heap.size + 1, 0, none⟩ (.int .u8 2)).setCell ⟨w.heap.size + 1, 1, none⟩ (.int .i64 0)).setCell ⟨w.heap.size + 1, 2, none⟩ (.int .i64 0)).setCell ⟨w.heap.size + 1, 3, none⟩ (.int .u8 0)).setCell ⟨w.heap.size + 1, 4, none⟩ (.string ⟨#[]⟩)).setCell ⟨w.heap.size + 1, 5, none⟩ (.bool false)).cell? ⟨w.heap.size, 0, none⟩ = some (.int .u8 1) := by rw [HV8.out]; exact CB.cell mV8_a 0
  have f8_a1 : (((((((w6).setCell ⟨w.heap.size + 1, 0, none⟩ (.int .u8 2)).setCell ⟨w.heap.size + 1, 1, none⟩ (.int .i64 0)).setCell ⟨w.heap.size + 1, 2, none⟩ (.int .i64 0)).setCell ⟨w.heap.size + 1, 3, none⟩ (.int .u8 0)).setCell ⟨w.heap.size + 1, 4, none⟩ (.string ⟨#[]⟩)).setCell ⟨w.heap.size + 1, 5, none⟩ (.bool false)).cell? ⟨w.heap.size, 1, none⟩ = some (.int .i64 1) := by rw [HV8.out]; exact CB.cell mV8_a 1
  have f8_a2 : (((((((w6).setCell ⟨w.heap.size + 1, 0, none⟩ (.int .u8 2)).setCell ⟨w.heap.size + 1, 1, none⟩ (.int .i64 0)).setCell ⟨w.heap.size + 1, 2, none⟩ (.int .i64 0)).setCell ⟨w.heap.size + 1, 3, none⟩ (.int .u8 0)).setCell ⟨w.heap.size + 1, 4, none⟩ (.string ⟨#[]⟩)).setCell ⟨w.heap.size + 1, 5, none⟩ (.bool false)).cell? ⟨w.heap.size, 2, none⟩ = some (.int .i64 1) := by rw [HV8.out]; exact CB.cell mV8_a 2
  have f8_a3 : (((((((w6).setCell ⟨w.heap.size + 1, 0, none⟩ (.int .u8 2)).setCell ⟨w.heap.size + 1, 1, none⟩ (.int .i64 0)).setCell ⟨w.heap.size + 1, 2, none⟩ (.int .i64 0)).setCell ⟨w.heap.size + 1, 3, none⟩ (.int .u8 0)).setCell ⟨w.heap.size + 1, 4, none⟩ (.string ⟨#[]⟩)).setCell ⟨w.heap.size + 1, 5, none⟩ (.bool false)).cell? ⟨w.heap.size, 3, none⟩ = some (.int .u8 0) := by rw [HV8.out]; exact CB.cell mV8_a 3
  have f8_a4 : (((((((w6).setCell ⟨w.heap.size + 1, 0, none⟩ (.int .u8 2)).setCell ⟨w.heap.size + 1, 1, none⟩ (.int .i64 0)).setCell ⟨w.heap.size + 1, 2, none⟩ (.int .i64 0)).setCell ⟨w.heap.size + 1, 3, none⟩ (.int .u8 0)).setCell ⟨w.heap.size + 1, 4, none⟩ (.string ⟨#[]⟩)).setCell ⟨w.heap.size + 1, 5, none⟩ (.bool false)).cell? ⟨w.heap.size, 4, none⟩ = some (.string ⟨#[99]⟩) := by rw [HV8.out]; exact CB.cell mV8_a 4
  have f8_a5 : (((((((w6).setCell ⟨w.heap.size + 1, 0, none⟩ (.int .u8 2)).setCell ⟨w.heap.size + 1, 1, none⟩ (.int .i64 0)).setCell ⟨w.heap.size + 1, 2, none⟩ (.int .i64 0)).setCell ⟨w.heap.size + 1, 3, none⟩ (.int .u8 0)).setCell ⟨w.heap.size + 1, 4, none⟩ (.string ⟨#[]⟩)).setCell ⟨w.heap.size + 1, 5, none⟩ (.bool false)).cell? ⟨w.heap.size, 5, none⟩ = some (.bool false) := by rw [HV8.out]; exact CB.cell mV8_a 5
  have f8_z10 : (((((((w6).setCell ⟨w.heap.size + 1, 0, none⟩ (.int .u8 2)).setCell ⟨w.heap.size + 1, 1, none⟩ (.int .i64 0)).setCell ⟨w.heap.size + 1, 2, none⟩ (.int .i64 0)).setCell ⟨w.heap.size + 1, 3, none⟩ (.int .u8 0)).setCell ⟨w.heap.size + 1, 4, none⟩ (.string ⟨#[]⟩)).setCell ⟨w.heap.size + 1, 5, none⟩ (.bool false)).cell? ⟨g1, o1, none⟩ = some (.int .i64 2) := by rw [HV8.out]; exact (RS.at0 q8_z1).1
  have f8_z11 : (((((((w6).setCell ⟨w.heap.size + 1, 0, none⟩ (.int .u8 2)).setCell ⟨w.heap.size + 1, 1, none⟩ (.int .i64 0)).setCell ⟨w.heap.size + 1, 2, none⟩ (.int .i64 0)).setCell ⟨w.heap.size + 1, 3, none⟩ (.int .u8 0)).setCell ⟨w.heap.size + 1, 4, none⟩ (.string ⟨#[]⟩)).setCell ⟨w.heap.size + 1, 5, none⟩ (.bool false)).cell? ⟨g1, o1 + 1, none⟩ = some (.int .u8 2) := by rw [HV8.out]; exact (RS.at0 q8_z1).2.1
  have f8_z12 : (((((((w6).setCell ⟨w.heap.size + 1, 0, none⟩ (.int .u8 2)).setCell ⟨w.heap.size + 1, 1, none⟩ (.int .i64 0)).setCell ⟨w.heap.size + 1, 2, none⟩ (.int .i64 0)).setCell ⟨w.heap.size + 1, 3, none⟩ (.int .u8 0)).setCell ⟨w.heap.size + 1, 4, none⟩ (.string ⟨#[]⟩)).setCell ⟨w.heap.size + 1, 5, none⟩ (.bool false)).cell? ⟨g1, o1 + 2, none⟩ = some (.int .u8 1) := by rw [HV8.out]; exact (RS.at0 q8_z1).2.2.1
  have f8_z13 : (((((((w6).setCell ⟨w.heap.size + 1, 0, none⟩ (.int .u8 2)).setCell ⟨w.heap.size + 1, 1, none⟩ (.int .i64 0)).setCell ⟨w.heap.size + 1, 2, none⟩ (.int .i64 0)).setCell ⟨w.heap.size + 1, 3, none⟩ (.int .u8 0)).setCell ⟨w.heap.size + 1, 4, none⟩ (.string ⟨#[]⟩)).setCell ⟨w.heap.size + 1, 5, none⟩ (.bool false)).cell? ⟨g1, o1 + 3, none⟩ = some (.int .i64 1) := by rw [HV8.out]; exact (RS.at0 q8_z1).2.2.2.1
  have f8_z14 : (((((((w6).setCell ⟨w.heap.size + 1, 0, none⟩ (.int .u8 2)).setCell ⟨w.heap.size + 1, 1, none⟩ (.int .i64 0)).setCell ⟨w.heap.size + 1, 2, none⟩ (.int .i64 0)).setCell ⟨w.heap.size + 1, 3, none⟩ (.int .u8 0)).setCell ⟨w.heap.size + 1, 4, none⟩ (.string ⟨#[]⟩)).setCell ⟨w.heap.size + 1, 5, none⟩ (.bool false)).cell? ⟨g1, o1 + 4, none⟩ = some (.string ⟨#[]⟩) := by rw [HV8.out]; exact (RS.at0 q8_z1).2.2.2.2
  go_wp2_with fail
  go_wp2_with fail
  rw [HV8.out]
  clear f7_b0 f7_b1 f7_b2 f7_b3 f7_b4 f7_b5 f7_a0 f7_a1 f7_a2 f7_a3 f7_a4 f7_a5 f7_z10 f7_z11 f7_z12 f7_z13 f7_z14 z7_b0 z7_b1 z7_b2 z7_b3 z7_b4 z7_b5 f8_a0 f8_a1 f8_a2 f8_a3 f8_a4 f8_a5 f8_z10 f8_z11 f8_z12 f8_z13 f8_z14
  have y9 := Lib.hid (show (fun V : World => V.cell? ⟨g1, o1, none⟩ = some (.int .i64 2) ∧ V.cell? ⟨g1, o1 + 1, none⟩ = some (.int .u8 2) ∧ V.cell? ⟨g1, o1 + 2, none⟩ = some (.int .u8 1) ∧ V.cell? ⟨g1, o1 + 3, none⟩ = some (.int .i64 1) ∧ V.cell? ⟨g1, o1 + 4, none⟩ = some (.string ⟨#[]⟩)) V8 from ⟨(RS.at0 q8_z1).1, (RS.at0 q8_z1).2.1, (RS.at0 q8_z1).2.2.1, (RS.at0 q8_z1).2.2.2.1, (RS.at0 q8_z1).2.2.2.2⟩)
  refine wp_region_held_drew (S := (fun V : World => V.cell? ⟨g1, o1, none⟩ = some (.int .i64 2) ∧ V.cell? ⟨g1, o1 + 1, none⟩ = some (.int .u8 2) ∧ V.cell? ⟨g1, o1 + 2, none⟩ = some (.int .u8 1) ∧ V.cell? ⟨g1, o1 + 3, none⟩ = some (.int .i64 1) ∧ V.cell? ⟨g1, o1 + 4, none⟩ = some (.string ⟨#[]⟩))) (by kernel_rfl) y9.out (fun hHeld => ?_)
  obtain ⟨D9, hD9⟩ : ∃ V, V8.drew = V := ⟨_, rfl⟩
  have b9 : Below V8.heap.size V8 D9 := by rw [← hD9]; exact le_dr (Below.refl _ _)
  rw [hD9] at hHeld ⊢
  clear hD9
  have q10_z1 := RS.on q8_z1 b9
  have r10_a := le_on mV8_a b9
  have r10_b := le_on nV8 b9
  have r10_m := le_on mV8_m b9
  have l10 := le_tr oV8 b9
  clear mV8_a nV8 mV8_m oV8
  clear q8_z1
  clear b9
  refine wpAnyH_takeL (i := 1) (d := some 42) (v := .slice (some ⟨g1, o1, none⟩) 1 q) rfl rfl (by kernel_rfl) (by kernel_rfl) (by kernel_rfl) (fun _ _ _ h => h) (Or.inl ⟨by rfl, ?_⟩) hHeld ?_
  · intro w hSw; (try dsimp only at hSw); go_simp
  try simp only [Act.put, List.setIfInBounds_toArray, List.set_cons_zero, List.set_cons_succ]
  refine wpAnyH_takeL (i := 2) (d := some 43) (v := .pointer (some ⟨g1, o1, none⟩)) rfl rfl (by kernel_rfl) (by kernel_rfl) (by kernel_rfl) (fun _ _ _ h => h) (Or.inl ⟨by rfl, ?_⟩) hHeld ?_
  · intro w hSw; (try dsimp only at hSw); go_simp
  try simp only [Act.put, List.setIfInBounds_toArray, List.set_cons_zero, List.set_cons_succ]
  refine wpAnyH_takeL (i := 3) (d := some 44) (v := .agg #[.int .i64 2, .int .u8 2, .int .u8 1, .int .i64 1, .string ⟨#[]⟩]) rfl rfl (by kernel_rfl) (by kernel_rfl) (by kernel_rfl) (fun _ _ _ h => h) (Or.inl ⟨by rfl, ?_⟩) hHeld ?_
  · intro w hSw; (try dsimp only at hSw); go_simp
  try simp only [Act.put, List.setIfInBounds_toArray, List.set_cons_zero, List.set_cons_succ]
  refine wpAnyH_ready (rs := [0]) (by kernel_rfl) (by simp) ?_
  refine AllReadyH.cons rfl (fun K hK => ?_) AllReadyH.nil
  have f10_a0 : D9.cell? ⟨w.heap.size, 0, none⟩ = some (.int .u8 1) := CB.cell r10_a 0
  have f10_a1 : D9.cell? ⟨w.heap.size, 1, none⟩ = some (.int .i64 1) := CB.cell r10_a 1
  have f10_a2 : D9.cell? ⟨w.heap.size, 2, none⟩ = some (.int .i64 1) := CB.cell r10_a 2
  have f10_a3 : D9.cell? ⟨w.heap.size, 3, none⟩ = some (.int .u8 0) := CB.cell r10_a 3
  have f10_a4 : D9.cell? ⟨w.heap.size, 4, none⟩ = some (.string ⟨#[99]⟩) := CB.cell r10_a 4
  have f10_a5 : D9.cell? ⟨w.heap.size, 5, none⟩ = some (.bool false) := CB.cell r10_a 5
  go_simp
  go_wp2_with fail
  clear f10_a0 f10_a1 f10_a2 f10_a3 f10_a4 f10_a5
  have y11 := Lib.hid (show (fun V : World => V.cell? ⟨g1, o1, none⟩ = some (.int .i64 2) ∧ V.cell? ⟨g1, o1 + 1, none⟩ = some (.int .u8 2) ∧ V.cell? ⟨g1, o1 + 2, none⟩ = some (.int .u8 1) ∧ V.cell? ⟨g1, o1 + 3, none⟩ = some (.int .i64 1) ∧ V.cell? ⟨g1, o1 + 4, none⟩ = some (.string ⟨#[]⟩)) D9 from ⟨(RS.at0 q10_z1).1, (RS.at0 q10_z1).2.1, (RS.at0 q10_z1).2.2.1, (RS.at0 q10_z1).2.2.2.1, (RS.at0 q10_z1).2.2.2.2⟩)
  refine hK.out _ _ y11.out (fun hHeld => ?_)
  clear hK K y11
  try simp only [Act.put, List.setIfInBounds_toArray, List.set_cons_zero, List.set_cons_succ]
  refine wpAnyH_ready (rs := [4]) (by kernel_rfl) (by simp) ?_
  refine AllReadyH.cons rfl (fun K hK => ?_) AllReadyH.nil
  go_simp
  refine (K2 _).mono ?_
  rintro e u12 ⟨A2, n2, q2, rfl, hr2, b12⟩
  have q13_z1 := RS.on q10_z1 b12
  have r13_a := le_on r10_a b12
  have r13_b := le_on r10_b b12
  have r13_m := le_on r10_m b12
  have l13 := le_tr l10 b12
  clear r10_a r10_b r10_m l10
  clear q10_z1
  clear b12
  go_wp2_with fail
  have y14 := Lib.hid (show (fun V : World => V.cell? ⟨g1, o1, none⟩ = some (.int .i64 2) ∧ V.cell? ⟨g1, o1 + 1, none⟩ = some (.int .u8 2) ∧ V.cell? ⟨g1, o1 + 2, none⟩ = some (.int .u8 1) ∧ V.cell? ⟨g1, o1 + 3, none⟩ = some (.int .i64 1) ∧ V.cell? ⟨g1, o1 + 4, none⟩ = some (.string ⟨#[]⟩)) u12 from ⟨(RS.at0 q13_z1).1, (RS.at0 q13_z1).2.1, (RS.at0 q13_z1).2.2.1, (RS.at0 q13_z1).2.2.2.1, (RS.at0 q13_z1).2.2.2.2⟩)
  refine hK.out _ _ y14.out (fun hHeld => ?_)
  clear hK K y14
  try simp only [Act.put, List.setIfInBounds_toArray, List.set_cons_zero, List.set_cons_succ]
  refine wpAnyH_takeL (i := 5) (d := some 40) (v := .tuple #[.agg #[.int .u8 1, .int .i64 1, .int .i64 2, .int .u8 2, .string ⟨#[99]⟩, .bool true], .slice A2 n2 q2, .int .i64 0]) rfl rfl (by kernel_rfl) (by kernel_rfl) (by kernel_rfl) (fun _ _ _ h => h) (Or.inl ⟨by rfl, ?_⟩) hHeld ?_
  · intro w hSw; (try dsimp only at hSw); go_simp
  try simp only [Act.put, List.setIfInBounds_toArray, List.set_cons_zero, List.set_cons_succ]
  refine wpAnyH_takeL (i := 6) (d := some 46) (v := .agg #[.int .u8 1, .int .i64 1, .int .i64 2, .int .u8 2, .string ⟨#[99]⟩, .bool true]) rfl rfl (by kernel_rfl) (by kernel_rfl) (by kernel_rfl) (fun _ _ _ h => h) (Or.inl ⟨by rfl, ?_⟩) hHeld ?_
  · intro w hSw; (try dsimp only at hSw); go_simp
  try simp only [Act.put, List.setIfInBounds_toArray, List.set_cons_zero, List.set_cons_succ]
  refine wpAnyH_takeL (i := 7) (d := some 47) (v := .slice A2 n2 q2) rfl rfl (by kernel_rfl) (by kernel_rfl) (by kernel_rfl) (fun _ _ _ h => h) (Or.inl ⟨by rfl, ?_⟩) hHeld ?_
  · intro w hSw; (try dsimp only at hSw); go_simp
  try simp only [Act.put, List.setIfInBounds_toArray, List.set_cons_zero, List.set_cons_succ]
  refine wpAnyH_takeL (i := 8) (d := some 48) (v := .int .i64 0) rfl rfl (by kernel_rfl) (by kernel_rfl) (by kernel_rfl) (fun _ _ _ h => h) (Or.inl ⟨by rfl, ?_⟩) hHeld ?_
  · intro w hSw; (try dsimp only at hSw); go_simp
  try simp only [Act.put, List.setIfInBounds_toArray, List.set_cons_zero, List.set_cons_succ]
  refine wpAnyH_ready (rs := [9]) (by kernel_rfl) (by simp) ?_
  refine AllReadyH.cons rfl (fun K hK => ?_) AllReadyH.nil
  have f14_a0 : u12.cell? ⟨w.heap.size, 0, none⟩ = some (.int .u8 1) := CB.cell r13_a 0
  have z14_a0 : u12.frozen? ⟨w.heap.size, 0, none⟩ = false := CB.frozen r13_a 0
  have f14_a1 : u12.cell? ⟨w.heap.size, 1, none⟩ = some (.int .i64 1) := CB.cell r13_a 1
  have z14_a1 : u12.frozen? ⟨w.heap.size, 1, none⟩ = false := CB.frozen r13_a 1
  have f14_a2 : u12.cell? ⟨w.heap.size, 2, none⟩ = some (.int .i64 1) := CB.cell r13_a 2
  have z14_a2 : u12.frozen? ⟨w.heap.size, 2, none⟩ = false := CB.frozen r13_a 2
  have f14_a3 : u12.cell? ⟨w.heap.size, 3, none⟩ = some (.int .u8 0) := CB.cell r13_a 3
  have z14_a3 : u12.frozen? ⟨w.heap.size, 3, none⟩ = false := CB.frozen r13_a 3
  have f14_a4 : u12.cell? ⟨w.heap.size, 4, none⟩ = some (.string ⟨#[99]⟩) := CB.cell r13_a 4
  have z14_a4 : u12.frozen? ⟨w.heap.size, 4, none⟩ = false := CB.frozen r13_a 4
  have f14_a5 : u12.cell? ⟨w.heap.size, 5, none⟩ = some (.bool false) := CB.cell r13_a 5
  have z14_a5 : u12.frozen? ⟨w.heap.size, 5, none⟩ = false := CB.frozen r13_a 5
  go_simp
  go_wp2_with fail
  have g15_z1 := (RS.far (RS.far (RS.far (RS.far (RS.far (RS.far q13_z1 r13_a (by decide) 0 (.int .u8 1)) (CB.put r13_a 0 (.int .u8 1)) (by decide) 1 (.int .i64 1)) (CB.put (CB.put r13_a 0 (.int .u8 1)) 1 (.int .i64 1)) (by decide) 2 (.int .i64 2)) (CB.put (CB.put (CB.put r13_a 0 (.int .u8 1)) 1 (.int .i64 1)) 2 (.int .i64 2)) (by decide) 3 (.int .u8 2)) (CB.put (CB.put (CB.put (CB.put r13_a 0 (.int .u8 1)) 1 (.int .i64 1)) 2 (.int .i64 2)) 3 (.int .u8 2)) (by decide) 4 (.string ⟨#[99]⟩)) (CB.put (CB.put (CB.put (CB.put (CB.put r13_a 0 (.int .u8 1)) 1 (.int .i64 1)) 2 (.int .i64 2)) 3 (.int .u8 2)) 4 (.string ⟨#[99]⟩)) (by decide) 5 (.bool true))
  have g15_z2 := (RS.far (RS.far (RS.far (RS.far (RS.far (RS.far hr2 r13_a (by decide) 0 (.int .u8 1)) (CB.put r13_a 0 (.int .u8 1)) (by decide) 1 (.int .i64 1)) (CB.put (CB.put r13_a 0 (.int .u8 1)) 1 (.int .i64 1)) (by decide) 2 (.int .i64 2)) (CB.put (CB.put (CB.put r13_a 0 (.int .u8 1)) 1 (.int .i64 1)) 2 (.int .i64 2)) (by decide) 3 (.int .u8 2)) (CB.put (CB.put (CB.put (CB.put r13_a 0 (.int .u8 1)) 1 (.int .i64 1)) 2 (.int .i64 2)) 3 (.int .u8 2)) (by decide) 4 (.string ⟨#[99]⟩)) (CB.put (CB.put (CB.put (CB.put (CB.put r13_a 0 (.int .u8 1)) 1 (.int .i64 1)) 2 (.int .i64 2)) 3 (.int .u8 2)) 4 (.string ⟨#[99]⟩)) (by decide) 5 (.bool true))
  have f14_a0 : u12.cell? ⟨w.heap.size, 0, none⟩ = some (.int .u8 1) := CB.cell r13_a 0
  have z14_a0 : u12.frozen? ⟨w.heap.size, 0, none⟩ = false := CB.frozen r13_a 0
  have f14_a1 : u12.cell? ⟨w.heap.size, 1, none⟩ = some (.int .i64 1) := CB.cell r13_a 1
  have z14_a1 : u12.frozen? ⟨w.heap.size, 1, none⟩ = false := CB.frozen r13_a 1
  have f14_a2 : u12.cell? ⟨w.heap.size, 2, none⟩ = some (.int .i64 1) := CB.cell r13_a 2
  have z14_a2 : u12.frozen? ⟨w.heap.size, 2, none⟩ = false := CB.frozen r13_a 2
  have f14_a3 : u12.cell? ⟨w.heap.size, 3, none⟩ = some (.int .u8 0) := CB.cell r13_a 3
  have z14_a3 : u12.frozen? ⟨w.heap.size, 3, none⟩ = false := CB.frozen r13_a 3
  have f14_a4 : u12.cell? ⟨w.heap.size, 4, none⟩ = some (.string ⟨#[99]⟩) := CB.cell r13_a 4
  have z14_a4 : u12.frozen? ⟨w.heap.size, 4, none⟩ = false := CB.frozen r13_a 4
  have f14_a5 : u12.cell? ⟨w.heap.size, 5, none⟩ = some (.bool false) := CB.cell r13_a 5
  have z14_a5 : u12.frozen? ⟨w.heap.size, 5, none⟩ = false := CB.frozen r13_a 5
  obtain ⟨V15, hV15⟩ : ∃ V, (((((u12.setCell ⟨w.heap.size, 0, none⟩ (.int .u8 1)).setCell ⟨w.heap.size, 1, none⟩ (.int .i64 1)).setCell ⟨w.heap.size, 2, none⟩ (.int .i64 2)).setCell ⟨w.heap.size, 3, none⟩ (.int .u8 2)).setCell ⟨w.heap.size, 4, none⟩ (.string ⟨#[99]⟩)).setCell ⟨w.heap.size, 5, none⟩ (.bool true) = V := ⟨_, rfl⟩
  have nV15 : CB V15 (w.heap.size) 31 #[.int .u8 1, .int .i64 1, .int .i64 2, .int .u8 2, .string ⟨#[99]⟩, .bool true] := by rw [← hV15]; exact cb_cast (CB.put (CB.put (CB.put (CB.put (CB.put (CB.put r13_a 0 (.int .u8 1)) 1 (.int .i64 1)) 2 (.int .i64 2)) 3 (.int .u8 2)) 4 (.string ⟨#[99]⟩)) 5 (.bool true)) (by kernel_rfl)
  have mV15_b : CB V15 (w.heap.size + 1) 31 #[.int .u8 2, .int .i64 0, .int .i64 0, .int .u8 0, .string ⟨#[]⟩, .bool false] := by rw [← hV15]; exact (CB.far (CB.far (CB.far (CB.far (CB.far (CB.far r13_b (p := ⟨w.heap.size, 0, none⟩) (Ne.symm neW1_01) (.int .u8 1)) (p := ⟨w.heap.size, 1, none⟩) (Ne.symm neW1_01) (.int .i64 1)) (p := ⟨w.heap.size, 2, none⟩) (Ne.symm neW1_01) (.int .i64 2)) (p := ⟨w.heap.size, 3, none⟩) (Ne.symm neW1_01) (.int .u8 2)) (p := ⟨w.heap.size, 4, none⟩) (Ne.symm neW1_01) (.string ⟨#[99]⟩)) (p := ⟨w.heap.size, 5, none⟩) (Ne.symm neW1_01) (.bool true))
  have mV15_m : CB V15 (w2.heap.size) 37 #[.int .i64 1, .int .u8 1, .int .u8 2, .int .i64 1, .string ⟨#[]⟩] := by rw [← hV15]; exact (CB.far (CB.far (CB.far (CB.far (CB.far (CB.far r13_m (p := ⟨w.heap.size, 0, none⟩) (Ne.symm neW4_a) (.int .u8 1)) (p := ⟨w.heap.size, 1, none⟩) (Ne.symm neW4_a) (.int .i64 1)) (p := ⟨w.heap.size, 2, none⟩) (Ne.symm neW4_a) (.int .i64 2)) (p := ⟨w.heap.size, 3, none⟩) (Ne.symm neW4_a) (.int .u8 2)) (p := ⟨w.heap.size, 4, none⟩) (Ne.symm neW4_a) (.string ⟨#[99]⟩)) (p := ⟨w.heap.size, 5, none⟩) (Ne.symm neW4_a) (.bool true))
  have oV15 := (Below.setCell (Below.setCell (Below.setCell (Below.setCell (Below.setCell (Below.setCell l13 (p := ⟨w.heap.size, 0, none⟩) (by dsimp only; omega) (.int .u8 1)) (p := ⟨w.heap.size, 1, none⟩) (by dsimp only; omega) (.int .i64 1)) (p := ⟨w.heap.size, 2, none⟩) (by dsimp only; omega) (.int .i64 2)) (p := ⟨w.heap.size, 3, none⟩) (by dsimp only; omega) (.int .u8 2)) (p := ⟨w.heap.size, 4, none⟩) (by dsimp only; omega) (.string ⟨#[99]⟩)) (p := ⟨w.heap.size, 5, none⟩) (by dsimp only; omega) (.bool true))
  rw [hV15] at oV15
  have HV15 := Lib.hid hV15
  have V15_eq := hV15
  clear hV15
  clear r13_a r13_b r13_m l13
  have q15_z1 : RS V15 37 mc 5 (some ⟨g1, o1, none⟩) 1 q [⟨2, 2, 1, 1, ⟨#[]⟩⟩] := by rw [← V15_eq]; exact g15_z1
  clear g15_z1 q13_z1
  have q15_z2 : RS V15 37 mc 5 A2 n2 q2 [⟨3, 1, 2, 2, ⟨#[99]⟩⟩] := by rw [← V15_eq]; exact g15_z2
  clear g15_z2 hr2
  clear V15_eq
  rw [HV15.out]
  clear f14_a0 z14_a0 f14_a1 z14_a1 f14_a2 z14_a2 f14_a3 z14_a3 f14_a4 z14_a4 f14_a5 z14_a5
  have y16 := Lib.hid (show (fun V : World => V.cell? ⟨g1, o1, none⟩ = some (.int .i64 2) ∧ V.cell? ⟨g1, o1 + 1, none⟩ = some (.int .u8 2) ∧ V.cell? ⟨g1, o1 + 2, none⟩ = some (.int .u8 1) ∧ V.cell? ⟨g1, o1 + 3, none⟩ = some (.int .i64 1) ∧ V.cell? ⟨g1, o1 + 4, none⟩ = some (.string ⟨#[]⟩)) V15 from ⟨(RS.at0 q15_z1).1, (RS.at0 q15_z1).2.1, (RS.at0 q15_z1).2.2.1, (RS.at0 q15_z1).2.2.2.1, (RS.at0 q15_z1).2.2.2.2⟩)
  refine hK.out _ _ y16.out (fun hHeld => ?_)
  clear hK K y16
  try simp only [Act.put, List.setIfInBounds_toArray, List.set_cons_zero, List.set_cons_succ]
  refine wpAnyH_takeL (i := 10) (d := some 5) (v := .slice A2 n2 q2) rfl rfl (by kernel_rfl) (by kernel_rfl) (by kernel_rfl) (fun _ _ _ h => h) (Or.inl ⟨by rfl, ?_⟩) hHeld ?_
  · intro w hSw; (try dsimp only at hSw); go_simp
  try simp only [Act.put, List.setIfInBounds_toArray, List.set_cons_zero, List.set_cons_succ]
  refine wpAnyH_takeL (i := 11) (d := some 6) (v := .int .i64 0) rfl rfl (by kernel_rfl) (by kernel_rfl) (by kernel_rfl) (fun _ _ _ h => h) (Or.inl ⟨by rfl, ?_⟩) hHeld ?_
  · intro w hSw; (try dsimp only at hSw); go_simp
  try simp only [Act.put, List.setIfInBounds_toArray, List.set_cons_zero, List.set_cons_succ]
  refine wpAnyH_done (by kernel_rfl) ?_ _
  obtain ⟨rfl, g2, o2, rfl⟩ := RS.one q15_z2
  have f16_a0 : V15.cell? ⟨w.heap.size, 0, none⟩ = some (.int .u8 1) := CB.cell nV15 0
  have f16_a1 : V15.cell? ⟨w.heap.size, 1, none⟩ = some (.int .i64 1) := CB.cell nV15 1
  have f16_a2 : V15.cell? ⟨w.heap.size, 2, none⟩ = some (.int .i64 2) := CB.cell nV15 2
  have f16_a3 : V15.cell? ⟨w.heap.size, 3, none⟩ = some (.int .u8 2) := CB.cell nV15 3
  have f16_a4 : V15.cell? ⟨w.heap.size, 4, none⟩ = some (.string ⟨#[99]⟩) := CB.cell nV15 4
  have f16_a5 : V15.cell? ⟨w.heap.size, 5, none⟩ = some (.bool true) := CB.cell nV15 5
  have f16_z20 : V15.cell? ⟨g2, o2, none⟩ = some (.int .i64 3) := (RS.at0 q15_z2).1
  have f16_z21 : V15.cell? ⟨g2, o2 + 1, none⟩ = some (.int .u8 1) := (RS.at0 q15_z2).2.1
  have f16_z22 : V15.cell? ⟨g2, o2 + 2, none⟩ = some (.int .u8 2) := (RS.at0 q15_z2).2.2.1
  have f16_z23 : V15.cell? ⟨g2, o2 + 3, none⟩ = some (.int .i64 2) := (RS.at0 q15_z2).2.2.2.1
  have f16_z24 : V15.cell? ⟨g2, o2 + 4, none⟩ = some (.string ⟨#[99]⟩) := (RS.at0 q15_z2).2.2.2.2
  go_wp2_with fail
  refine (K5 _).mono ?_
  rintro e w17 ⟨A5, n5, q5, rfl, hr5, b17⟩
  clear f16_a0 f16_a1 f16_a2 f16_a3 f16_a4 f16_a5 f16_z20 f16_z21 f16_z22 f16_z23 f16_z24
  have q18_z1 := RS.on q15_z1 b17
  have q18_z2 := RS.on q15_z2 b17
  have r18_a := le_on nV15 b17
  have r18_b := le_on mV15_b b17
  have r18_m := le_on mV15_m b17
  have l18 := le_tr oV15 b17
  clear nV15 mV15_b mV15_m oV15
  clear q15_z1 q15_z2
  clear b17
  obtain ⟨rfl, g5, o5, rfl⟩ := RS.one hr5
  have f18_b0 : w17.cell? ⟨w.heap.size + 1, 0, none⟩ = some (.int .u8 2) := CB.cell r18_b 0
  have f18_b1 : w17.cell? ⟨w.heap.size + 1, 1, none⟩ = some (.int .i64 0) := CB.cell r18_b 1
  have f18_b2 : w17.cell? ⟨w.heap.size + 1, 2, none⟩ = some (.int .i64 0) := CB.cell r18_b 2
  have f18_b3 : w17.cell? ⟨w.heap.size + 1, 3, none⟩ = some (.int .u8 0) := CB.cell r18_b 3
  have f18_b4 : w17.cell? ⟨w.heap.size + 1, 4, none⟩ = some (.string ⟨#[]⟩) := CB.cell r18_b 4
  have f18_b5 : w17.cell? ⟨w.heap.size + 1, 5, none⟩ = some (.bool false) := CB.cell r18_b 5
  have f18_z20 : w17.cell? ⟨g2, o2, none⟩ = some (.int .i64 3) := (RS.at0 q18_z2).1
  have f18_z21 : w17.cell? ⟨g2, o2 + 1, none⟩ = some (.int .u8 1) := (RS.at0 q18_z2).2.1
  have f18_z22 : w17.cell? ⟨g2, o2 + 2, none⟩ = some (.int .u8 2) := (RS.at0 q18_z2).2.2.1
  have f18_z23 : w17.cell? ⟨g2, o2 + 3, none⟩ = some (.int .i64 2) := (RS.at0 q18_z2).2.2.2.1
  have f18_z24 : w17.cell? ⟨g2, o2 + 4, none⟩ = some (.string ⟨#[99]⟩) := (RS.at0 q18_z2).2.2.2.2
  go_wp2_with fail
  go_wp2_with fail
  clear f18_b0 f18_b1 f18_b2 f18_b3 f18_b4 f18_b5 f18_z20 f18_z21 f18_z22 f18_z23 f18_z24
  have y19 := Lib.hid (show (fun V : World => V.cell? ⟨g2, o2, none⟩ = some (.int .i64 3) ∧ V.cell? ⟨g2, o2 + 1, none⟩ = some (.int .u8 1) ∧ V.cell? ⟨g2, o2 + 2, none⟩ = some (.int .u8 2) ∧ V.cell? ⟨g2, o2 + 3, none⟩ = some (.int .i64 2) ∧ V.cell? ⟨g2, o2 + 4, none⟩ = some (.string ⟨#[99]⟩)) w17 from ⟨(RS.at0 q18_z2).1, (RS.at0 q18_z2).2.1, (RS.at0 q18_z2).2.2.1, (RS.at0 q18_z2).2.2.2.1, (RS.at0 q18_z2).2.2.2.2⟩)
  refine wp_region_held_drew (S := (fun V : World => V.cell? ⟨g2, o2, none⟩ = some (.int .i64 3) ∧ V.cell? ⟨g2, o2 + 1, none⟩ = some (.int .u8 1) ∧ V.cell? ⟨g2, o2 + 2, none⟩ = some (.int .u8 2) ∧ V.cell? ⟨g2, o2 + 3, none⟩ = some (.int .i64 2) ∧ V.cell? ⟨g2, o2 + 4, none⟩ = some (.string ⟨#[99]⟩))) (by kernel_rfl) y19.out (fun hHeld => ?_)
  obtain ⟨D19, hD19⟩ : ∃ V, w17.drew = V := ⟨_, rfl⟩
  have b19 : Below w17.heap.size w17 D19 := by rw [← hD19]; exact le_dr (Below.refl _ _)
  rw [hD19] at hHeld ⊢
  clear hD19
  have q20_z1 := RS.on q18_z1 b19
  have q20_z2 := RS.on q18_z2 b19
  have r20_a := le_on r18_a b19
  have r20_b := le_on r18_b b19
  have r20_m := le_on r18_m b19
  have l20 := le_tr l18 b19
  clear r18_a r18_b r18_m l18
  clear q18_z1 q18_z2
  clear b19
  refine wpAnyH_takeL (i := 1) (d := some 78) (v := .slice (some ⟨g2, o2, none⟩) 1 q2) rfl rfl (by kernel_rfl) (by kernel_rfl) (by kernel_rfl) (fun _ _ _ h => h) (Or.inl ⟨by rfl, ?_⟩) hHeld ?_
  · intro w hSw; (try dsimp only at hSw); go_simp
  try simp only [Act.put, List.setIfInBounds_toArray, List.set_cons_zero, List.set_cons_succ]
  refine wpAnyH_takeL (i := 2) (d := some 79) (v := .pointer (some ⟨g2, o2, none⟩)) rfl rfl (by kernel_rfl) (by kernel_rfl) (by kernel_rfl) (fun _ _ _ h => h) (Or.inl ⟨by rfl, ?_⟩) hHeld ?_
  · intro w hSw; (try dsimp only at hSw); go_simp
  try simp only [Act.put, List.setIfInBounds_toArray, List.set_cons_zero, List.set_cons_succ]
  refine wpAnyH_takeL (i := 3) (d := some 80) (v := .agg #[.int .i64 3, .int .u8 1, .int .u8 2, .int .i64 2, .string ⟨#[99]⟩]) rfl rfl (by kernel_rfl) (by kernel_rfl) (by kernel_rfl) (fun _ _ _ h => h) (Or.inl ⟨by rfl, ?_⟩) hHeld ?_
  · intro w hSw; (try dsimp only at hSw); go_simp
  try simp only [Act.put, List.setIfInBounds_toArray, List.set_cons_zero, List.set_cons_succ]
  refine wpAnyH_ready (rs := [0]) (by kernel_rfl) (by simp) ?_
  refine AllReadyH.cons rfl (fun K hK => ?_) AllReadyH.nil
  have f20_b0 : D19.cell? ⟨w.heap.size + 1, 0, none⟩ = some (.int .u8 2) := CB.cell r20_b 0
  have f20_b1 : D19.cell? ⟨w.heap.size + 1, 1, none⟩ = some (.int .i64 0) := CB.cell r20_b 1
  have f20_b2 : D19.cell? ⟨w.heap.size + 1, 2, none⟩ = some (.int .i64 0) := CB.cell r20_b 2
  have f20_b3 : D19.cell? ⟨w.heap.size + 1, 3, none⟩ = some (.int .u8 0) := CB.cell r20_b 3
  have f20_b4 : D19.cell? ⟨w.heap.size + 1, 4, none⟩ = some (.string ⟨#[]⟩) := CB.cell r20_b 4
  have f20_b5 : D19.cell? ⟨w.heap.size + 1, 5, none⟩ = some (.bool false) := CB.cell r20_b 5
  go_simp
  go_wp2_with fail
  clear f20_b0 f20_b1 f20_b2 f20_b3 f20_b4 f20_b5
  have y21 := Lib.hid (show (fun V : World => V.cell? ⟨g2, o2, none⟩ = some (.int .i64 3) ∧ V.cell? ⟨g2, o2 + 1, none⟩ = some (.int .u8 1) ∧ V.cell? ⟨g2, o2 + 2, none⟩ = some (.int .u8 2) ∧ V.cell? ⟨g2, o2 + 3, none⟩ = some (.int .i64 2) ∧ V.cell? ⟨g2, o2 + 4, none⟩ = some (.string ⟨#[99]⟩)) D19 from ⟨(RS.at0 q20_z2).1, (RS.at0 q20_z2).2.1, (RS.at0 q20_z2).2.2.1, (RS.at0 q20_z2).2.2.2.1, (RS.at0 q20_z2).2.2.2.2⟩)
  refine hK.out _ _ y21.out (fun hHeld => ?_)
  clear hK K y21
  try simp only [Act.put, List.setIfInBounds_toArray, List.set_cons_zero, List.set_cons_succ]
  refine wpAnyH_ready (rs := [4]) (by kernel_rfl) (by simp) ?_
  refine AllReadyH.cons rfl (fun K hK => ?_) AllReadyH.nil
  go_simp
  refine (K3 _).mono ?_
  rintro e u22 ⟨A3, n3, q3, rfl, hr3, b22⟩
  have q23_z1 := RS.on q20_z1 b22
  have q23_z2 := RS.on q20_z2 b22
  have r23_a := le_on r20_a b22
  have r23_b := le_on r20_b b22
  have r23_m := le_on r20_m b22
  have l23 := le_tr l20 b22
  clear r20_a r20_b r20_m l20
  clear q20_z1 q20_z2
  clear b22
  go_wp2_with fail
  have y24 := Lib.hid (show (fun V : World => V.cell? ⟨g2, o2, none⟩ = some (.int .i64 3) ∧ V.cell? ⟨g2, o2 + 1, none⟩ = some (.int .u8 1) ∧ V.cell? ⟨g2, o2 + 2, none⟩ = some (.int .u8 2) ∧ V.cell? ⟨g2, o2 + 3, none⟩ = some (.int .i64 2) ∧ V.cell? ⟨g2, o2 + 4, none⟩ = some (.string ⟨#[99]⟩)) u22 from ⟨(RS.at0 q23_z2).1, (RS.at0 q23_z2).2.1, (RS.at0 q23_z2).2.2.1, (RS.at0 q23_z2).2.2.2.1, (RS.at0 q23_z2).2.2.2.2⟩)
  refine hK.out _ _ y24.out (fun hHeld => ?_)
  clear hK K y24
  try simp only [Act.put, List.setIfInBounds_toArray, List.set_cons_zero, List.set_cons_succ]
  refine wpAnyH_takeL (i := 5) (d := some 76) (v := .tuple #[.agg #[.int .u8 2, .int .i64 2, .int .i64 1, .int .u8 0, .string ⟨#[99]⟩, .bool false], .slice A3 n3 q3, .int .i64 0]) rfl rfl (by kernel_rfl) (by kernel_rfl) (by kernel_rfl) (fun _ _ _ h => h) (Or.inl ⟨by rfl, ?_⟩) hHeld ?_
  · intro w hSw; (try dsimp only at hSw); go_simp
  try simp only [Act.put, List.setIfInBounds_toArray, List.set_cons_zero, List.set_cons_succ]
  refine wpAnyH_takeL (i := 6) (d := some 82) (v := .agg #[.int .u8 2, .int .i64 2, .int .i64 1, .int .u8 0, .string ⟨#[99]⟩, .bool false]) rfl rfl (by kernel_rfl) (by kernel_rfl) (by kernel_rfl) (fun _ _ _ h => h) (Or.inl ⟨by rfl, ?_⟩) hHeld ?_
  · intro w hSw; (try dsimp only at hSw); go_simp
  try simp only [Act.put, List.setIfInBounds_toArray, List.set_cons_zero, List.set_cons_succ]
  refine wpAnyH_takeL (i := 7) (d := some 83) (v := .slice A3 n3 q3) rfl rfl (by kernel_rfl) (by kernel_rfl) (by kernel_rfl) (fun _ _ _ h => h) (Or.inl ⟨by rfl, ?_⟩) hHeld ?_
  · intro w hSw; (try dsimp only at hSw); go_simp
  try simp only [Act.put, List.setIfInBounds_toArray, List.set_cons_zero, List.set_cons_succ]
  refine wpAnyH_takeL (i := 8) (d := some 84) (v := .int .i64 0) rfl rfl (by kernel_rfl) (by kernel_rfl) (by kernel_rfl) (fun _ _ _ h => h) (Or.inl ⟨by rfl, ?_⟩) hHeld ?_
  · intro w hSw; (try dsimp only at hSw); go_simp
  try simp only [Act.put, List.setIfInBounds_toArray, List.set_cons_zero, List.set_cons_succ]
  refine wpAnyH_ready (rs := [9]) (by kernel_rfl) (by simp) ?_
  refine AllReadyH.cons rfl (fun K hK => ?_) AllReadyH.nil
  have f24_b0 : u22.cell? ⟨w.heap.size + 1, 0, none⟩ = some (.int .u8 2) := CB.cell r23_b 0
  have z24_b0 : u22.frozen? ⟨w.heap.size + 1, 0, none⟩ = false := CB.frozen r23_b 0
  have f24_b1 : u22.cell? ⟨w.heap.size + 1, 1, none⟩ = some (.int .i64 0) := CB.cell r23_b 1
  have z24_b1 : u22.frozen? ⟨w.heap.size + 1, 1, none⟩ = false := CB.frozen r23_b 1
  have f24_b2 : u22.cell? ⟨w.heap.size + 1, 2, none⟩ = some (.int .i64 0) := CB.cell r23_b 2
  have z24_b2 : u22.frozen? ⟨w.heap.size + 1, 2, none⟩ = false := CB.frozen r23_b 2
  have f24_b3 : u22.cell? ⟨w.heap.size + 1, 3, none⟩ = some (.int .u8 0) := CB.cell r23_b 3
  have z24_b3 : u22.frozen? ⟨w.heap.size + 1, 3, none⟩ = false := CB.frozen r23_b 3
  have f24_b4 : u22.cell? ⟨w.heap.size + 1, 4, none⟩ = some (.string ⟨#[]⟩) := CB.cell r23_b 4
  have z24_b4 : u22.frozen? ⟨w.heap.size + 1, 4, none⟩ = false := CB.frozen r23_b 4
  have f24_b5 : u22.cell? ⟨w.heap.size + 1, 5, none⟩ = some (.bool false) := CB.cell r23_b 5
  have z24_b5 : u22.frozen? ⟨w.heap.size + 1, 5, none⟩ = false := CB.frozen r23_b 5
  go_simp
  go_wp2_with fail
  have g25_z1 := (RS.far (RS.far (RS.far (RS.far (RS.far (RS.far q23_z1 r23_b (by decide) 0 (.int .u8 2)) (CB.put r23_b 0 (.int .u8 2)) (by decide) 1 (.int .i64 2)) (CB.put (CB.put r23_b 0 (.int .u8 2)) 1 (.int .i64 2)) (by decide) 2 (.int .i64 1)) (CB.put (CB.put (CB.put r23_b 0 (.int .u8 2)) 1 (.int .i64 2)) 2 (.int .i64 1)) (by decide) 3 (.int .u8 0)) (CB.put (CB.put (CB.put (CB.put r23_b 0 (.int .u8 2)) 1 (.int .i64 2)) 2 (.int .i64 1)) 3 (.int .u8 0)) (by decide) 4 (.string ⟨#[99]⟩)) (CB.put (CB.put (CB.put (CB.put (CB.put r23_b 0 (.int .u8 2)) 1 (.int .i64 2)) 2 (.int .i64 1)) 3 (.int .u8 0)) 4 (.string ⟨#[99]⟩)) (by decide) 5 (.bool false))
  have g25_z2 := (RS.far (RS.far (RS.far (RS.far (RS.far (RS.far q23_z2 r23_b (by decide) 0 (.int .u8 2)) (CB.put r23_b 0 (.int .u8 2)) (by decide) 1 (.int .i64 2)) (CB.put (CB.put r23_b 0 (.int .u8 2)) 1 (.int .i64 2)) (by decide) 2 (.int .i64 1)) (CB.put (CB.put (CB.put r23_b 0 (.int .u8 2)) 1 (.int .i64 2)) 2 (.int .i64 1)) (by decide) 3 (.int .u8 0)) (CB.put (CB.put (CB.put (CB.put r23_b 0 (.int .u8 2)) 1 (.int .i64 2)) 2 (.int .i64 1)) 3 (.int .u8 0)) (by decide) 4 (.string ⟨#[99]⟩)) (CB.put (CB.put (CB.put (CB.put (CB.put r23_b 0 (.int .u8 2)) 1 (.int .i64 2)) 2 (.int .i64 1)) 3 (.int .u8 0)) 4 (.string ⟨#[99]⟩)) (by decide) 5 (.bool false))
  have g25_z3 := (RS.far (RS.far (RS.far (RS.far (RS.far (RS.far hr3 r23_b (by decide) 0 (.int .u8 2)) (CB.put r23_b 0 (.int .u8 2)) (by decide) 1 (.int .i64 2)) (CB.put (CB.put r23_b 0 (.int .u8 2)) 1 (.int .i64 2)) (by decide) 2 (.int .i64 1)) (CB.put (CB.put (CB.put r23_b 0 (.int .u8 2)) 1 (.int .i64 2)) 2 (.int .i64 1)) (by decide) 3 (.int .u8 0)) (CB.put (CB.put (CB.put (CB.put r23_b 0 (.int .u8 2)) 1 (.int .i64 2)) 2 (.int .i64 1)) 3 (.int .u8 0)) (by decide) 4 (.string ⟨#[99]⟩)) (CB.put (CB.put (CB.put (CB.put (CB.put r23_b 0 (.int .u8 2)) 1 (.int .i64 2)) 2 (.int .i64 1)) 3 (.int .u8 0)) 4 (.string ⟨#[99]⟩)) (by decide) 5 (.bool false))
  have f24_b0 : u22.cell? ⟨w.heap.size + 1, 0, none⟩ = some (.int .u8 2) := CB.cell r23_b 0
  have z24_b0 : u22.frozen? ⟨w.heap.size + 1, 0, none⟩ = false := CB.frozen r23_b 0
  have f24_b1 : u22.cell? ⟨w.heap.size + 1, 1, none⟩ = some (.int .i64 0) := CB.cell r23_b 1
  have z24_b1 : u22.frozen? ⟨w.heap.size + 1, 1, none⟩ = false := CB.frozen r23_b 1
  have f24_b2 : u22.cell? ⟨w.heap.size + 1, 2, none⟩ = some (.int .i64 0) := CB.cell r23_b 2
  have z24_b2 : u22.frozen? ⟨w.heap.size + 1, 2, none⟩ = false := CB.frozen r23_b 2
  have f24_b3 : u22.cell? ⟨w.heap.size + 1, 3, none⟩ = some (.int .u8 0) := CB.cell r23_b 3
  have z24_b3 : u22.frozen? ⟨w.heap.size + 1, 3, none⟩ = false := CB.frozen r23_b 3
  have f24_b4 : u22.cell? ⟨w.heap.size + 1, 4, none⟩ = some (.string ⟨#[]⟩) := CB.cell r23_b 4
  have z24_b4 : u22.frozen? ⟨w.heap.size + 1, 4, none⟩ = false := CB.frozen r23_b 4
  have f24_b5 : u22.cell? ⟨w.heap.size + 1, 5, none⟩ = some (.bool false) := CB.cell r23_b 5
  have z24_b5 : u22.frozen? ⟨w.heap.size + 1, 5, none⟩ = false := CB.frozen r23_b 5
  obtain ⟨V25, hV25⟩ : ∃ V, (((((u22.setCell ⟨w.heap.size + 1, 0, none⟩ (.int .u8 2)).setCell ⟨w.heap.size + 1, 1, none⟩ (.int .i64 2)).setCell ⟨w.heap.size + 1, 2, none⟩ (.int .i64 1)).setCell ⟨w.heap.size + 1, 3, none⟩ (.int .u8 0)).setCell ⟨w.heap.size + 1, 4, none⟩ (.string ⟨#[99]⟩)).setCell ⟨w.heap.size + 1, 5, none⟩ (.bool false) = V := ⟨_, rfl⟩
  have nV25 : CB V25 (w.heap.size + 1) 31 #[.int .u8 2, .int .i64 2, .int .i64 1, .int .u8 0, .string ⟨#[99]⟩, .bool false] := by rw [← hV25]; exact cb_cast (CB.put (CB.put (CB.put (CB.put (CB.put (CB.put r23_b 0 (.int .u8 2)) 1 (.int .i64 2)) 2 (.int .i64 1)) 3 (.int .u8 0)) 4 (.string ⟨#[99]⟩)) 5 (.bool false)) (by kernel_rfl)
  have mV25_a : CB V25 (w.heap.size) 31 #[.int .u8 1, .int .i64 1, .int .i64 2, .int .u8 2, .string ⟨#[99]⟩, .bool true] := by rw [← hV25]; exact (CB.far (CB.far (CB.far (CB.far (CB.far (CB.far r23_a (p := ⟨w.heap.size + 1, 0, none⟩) neW1_01 (.int .u8 2)) (p := ⟨w.heap.size + 1, 1, none⟩) neW1_01 (.int .i64 2)) (p := ⟨w.heap.size + 1, 2, none⟩) neW1_01 (.int .i64 1)) (p := ⟨w.heap.size + 1, 3, none⟩) neW1_01 (.int .u8 0)) (p := ⟨w.heap.size + 1, 4, none⟩) neW1_01 (.string ⟨#[99]⟩)) (p := ⟨w.heap.size + 1, 5, none⟩) neW1_01 (.bool false))
  have mV25_m : CB V25 (w2.heap.size) 37 #[.int .i64 1, .int .u8 1, .int .u8 2, .int .i64 1, .string ⟨#[]⟩] := by rw [← hV25]; exact (CB.far (CB.far (CB.far (CB.far (CB.far (CB.far r23_m (p := ⟨w.heap.size + 1, 0, none⟩) (Ne.symm neW4_b) (.int .u8 2)) (p := ⟨w.heap.size + 1, 1, none⟩) (Ne.symm neW4_b) (.int .i64 2)) (p := ⟨w.heap.size + 1, 2, none⟩) (Ne.symm neW4_b) (.int .i64 1)) (p := ⟨w.heap.size + 1, 3, none⟩) (Ne.symm neW4_b) (.int .u8 0)) (p := ⟨w.heap.size + 1, 4, none⟩) (Ne.symm neW4_b) (.string ⟨#[99]⟩)) (p := ⟨w.heap.size + 1, 5, none⟩) (Ne.symm neW4_b) (.bool false))
  have oV25 := (Below.setCell (Below.setCell (Below.setCell (Below.setCell (Below.setCell (Below.setCell l23 (p := ⟨w.heap.size + 1, 0, none⟩) (by dsimp only; omega) (.int .u8 2)) (p := ⟨w.heap.size + 1, 1, none⟩) (by dsimp only; omega) (.int .i64 2)) (p := ⟨w.heap.size + 1, 2, none⟩) (by dsimp only; omega) (.int .i64 1)) (p := ⟨w.heap.size + 1, 3, none⟩) (by dsimp only; omega) (.int .u8 0)) (p := ⟨w.heap.size + 1, 4, none⟩) (by dsimp only; omega) (.string ⟨#[99]⟩)) (p := ⟨w.heap.size + 1, 5, none⟩) (by dsimp only; omega) (.bool false))
  rw [hV25] at oV25
  have HV25 := Lib.hid hV25
  have V25_eq := hV25
  clear hV25
  clear r23_b r23_a r23_m l23
  have q25_z1 : RS V25 37 mc 5 (some ⟨g1, o1, none⟩) 1 q [⟨2, 2, 1, 1, ⟨#[]⟩⟩] := by rw [← V25_eq]; exact g25_z1
  clear g25_z1 q23_z1
  have q25_z2 : RS V25 37 mc 5 (some ⟨g2, o2, none⟩) 1 q2 [⟨3, 1, 2, 2, ⟨#[99]⟩⟩] := by rw [← V25_eq]; exact g25_z2
  clear g25_z2 q23_z2
  have q25_z3 : RS V25 37 mc 5 A3 n3 q3 [⟨4, 2, 1, 2, ⟨#[]⟩⟩] := by rw [← V25_eq]; exact g25_z3
  clear g25_z3 hr3
  clear V25_eq
  rw [HV25.out]
  clear f24_b0 z24_b0 f24_b1 z24_b1 f24_b2 z24_b2 f24_b3 z24_b3 f24_b4 z24_b4 f24_b5 z24_b5
  have y26 := Lib.hid (show (fun V : World => V.cell? ⟨g2, o2, none⟩ = some (.int .i64 3) ∧ V.cell? ⟨g2, o2 + 1, none⟩ = some (.int .u8 1) ∧ V.cell? ⟨g2, o2 + 2, none⟩ = some (.int .u8 2) ∧ V.cell? ⟨g2, o2 + 3, none⟩ = some (.int .i64 2) ∧ V.cell? ⟨g2, o2 + 4, none⟩ = some (.string ⟨#[99]⟩)) V25 from ⟨(RS.at0 q25_z2).1, (RS.at0 q25_z2).2.1, (RS.at0 q25_z2).2.2.1, (RS.at0 q25_z2).2.2.2.1, (RS.at0 q25_z2).2.2.2.2⟩)
  refine hK.out _ _ y26.out (fun hHeld => ?_)
  clear hK K y26
  try simp only [Act.put, List.setIfInBounds_toArray, List.set_cons_zero, List.set_cons_succ]
  refine wpAnyH_takeL (i := 10) (d := some 5) (v := .slice A3 n3 q3) rfl rfl (by kernel_rfl) (by kernel_rfl) (by kernel_rfl) (fun _ _ _ h => h) (Or.inl ⟨by rfl, ?_⟩) hHeld ?_
  · intro w hSw; (try dsimp only at hSw); go_simp
  try simp only [Act.put, List.setIfInBounds_toArray, List.set_cons_zero, List.set_cons_succ]
  refine wpAnyH_takeL (i := 11) (d := some 6) (v := .int .i64 0) rfl rfl (by kernel_rfl) (by kernel_rfl) (by kernel_rfl) (fun _ _ _ h => h) (Or.inl ⟨by rfl, ?_⟩) hHeld ?_
  · intro w hSw; (try dsimp only at hSw); go_simp
  try simp only [Act.put, List.setIfInBounds_toArray, List.set_cons_zero, List.set_cons_succ]
  refine wpAnyH_done (by kernel_rfl) ?_ _
  obtain ⟨rfl, g3, o3, rfl⟩ := RS.one q25_z3
  have f26_b0 : V25.cell? ⟨w.heap.size + 1, 0, none⟩ = some (.int .u8 2) := CB.cell nV25 0
  have f26_b1 : V25.cell? ⟨w.heap.size + 1, 1, none⟩ = some (.int .i64 2) := CB.cell nV25 1
  have f26_b2 : V25.cell? ⟨w.heap.size + 1, 2, none⟩ = some (.int .i64 1) := CB.cell nV25 2
  have f26_b3 : V25.cell? ⟨w.heap.size + 1, 3, none⟩ = some (.int .u8 0) := CB.cell nV25 3
  have f26_b4 : V25.cell? ⟨w.heap.size + 1, 4, none⟩ = some (.string ⟨#[99]⟩) := CB.cell nV25 4
  have f26_b5 : V25.cell? ⟨w.heap.size + 1, 5, none⟩ = some (.bool false) := CB.cell nV25 5
  have f26_z30 : V25.cell? ⟨g3, o3, none⟩ = some (.int .i64 4) := (RS.at0 q25_z3).1
  have f26_z31 : V25.cell? ⟨g3, o3 + 1, none⟩ = some (.int .u8 2) := (RS.at0 q25_z3).2.1
  have f26_z32 : V25.cell? ⟨g3, o3 + 2, none⟩ = some (.int .u8 1) := (RS.at0 q25_z3).2.2.1
  have f26_z33 : V25.cell? ⟨g3, o3 + 3, none⟩ = some (.int .i64 2) := (RS.at0 q25_z3).2.2.2.1
  have f26_z34 : V25.cell? ⟨g3, o3 + 4, none⟩ = some (.string ⟨#[]⟩) := (RS.at0 q25_z3).2.2.2.2
  go_wp2_with fail
  refine (K6 _).mono ?_
  rintro e w27 ⟨rfl, b27⟩
  clear f26_b0 f26_b1 f26_b2 f26_b3 f26_b4 f26_b5 f26_z30 f26_z31 f26_z32 f26_z33 f26_z34
  have q28_z1 := RS.on q25_z1 b27
  have q28_z2 := RS.on q25_z2 b27
  have q28_z3 := RS.on q25_z3 b27
  have r28_a := le_on mV25_a b27
  have r28_b := le_on nV25 b27
  have r28_m := le_on mV25_m b27
  have l28 := le_tr oV25 b27
  clear mV25_a nV25 mV25_m oV25
  clear q25_z1 q25_z2 q25_z3
  clear b27
  have f28_a0 : w27.cell? ⟨w.heap.size, 0, none⟩ = some (.int .u8 1) := CB.cell r28_a 0
  have f28_a1 : w27.cell? ⟨w.heap.size, 1, none⟩ = some (.int .i64 1) := CB.cell r28_a 1
  have f28_a2 : w27.cell? ⟨w.heap.size, 2, none⟩ = some (.int .i64 2) := CB.cell r28_a 2
  have f28_a3 : w27.cell? ⟨w.heap.size, 3, none⟩ = some (.int .u8 2) := CB.cell r28_a 3
  have f28_a4 : w27.cell? ⟨w.heap.size, 4, none⟩ = some (.string ⟨#[99]⟩) := CB.cell r28_a 4
  have f28_a5 : w27.cell? ⟨w.heap.size, 5, none⟩ = some (.bool true) := CB.cell r28_a 5
  have f28_z30 : w27.cell? ⟨g3, o3, none⟩ = some (.int .i64 4) := (RS.at0 q28_z3).1
  have f28_z31 : w27.cell? ⟨g3, o3 + 1, none⟩ = some (.int .u8 2) := (RS.at0 q28_z3).2.1
  have f28_z32 : w27.cell? ⟨g3, o3 + 2, none⟩ = some (.int .u8 1) := (RS.at0 q28_z3).2.2.1
  have f28_z33 : w27.cell? ⟨g3, o3 + 3, none⟩ = some (.int .i64 2) := (RS.at0 q28_z3).2.2.2.1
  have f28_z34 : w27.cell? ⟨g3, o3 + 4, none⟩ = some (.string ⟨#[]⟩) := (RS.at0 q28_z3).2.2.2.2
  go_wp2_with fail
  go_wp2_with fail
  clear f28_a0 f28_a1 f28_a2 f28_a3 f28_a4 f28_a5 f28_z30 f28_z31 f28_z32 f28_z33 f28_z34
  have y29 := Lib.hid (show (fun V : World => V.cell? ⟨g3, o3, none⟩ = some (.int .i64 4) ∧ V.cell? ⟨g3, o3 + 1, none⟩ = some (.int .u8 2) ∧ V.cell? ⟨g3, o3 + 2, none⟩ = some (.int .u8 1) ∧ V.cell? ⟨g3, o3 + 3, none⟩ = some (.int .i64 2) ∧ V.cell? ⟨g3, o3 + 4, none⟩ = some (.string ⟨#[]⟩)) w27 from ⟨(RS.at0 q28_z3).1, (RS.at0 q28_z3).2.1, (RS.at0 q28_z3).2.2.1, (RS.at0 q28_z3).2.2.2.1, (RS.at0 q28_z3).2.2.2.2⟩)
  refine wp_region_held_drew (S := (fun V : World => V.cell? ⟨g3, o3, none⟩ = some (.int .i64 4) ∧ V.cell? ⟨g3, o3 + 1, none⟩ = some (.int .u8 2) ∧ V.cell? ⟨g3, o3 + 2, none⟩ = some (.int .u8 1) ∧ V.cell? ⟨g3, o3 + 3, none⟩ = some (.int .i64 2) ∧ V.cell? ⟨g3, o3 + 4, none⟩ = some (.string ⟨#[]⟩))) (by kernel_rfl) y29.out (fun hHeld => ?_)
  obtain ⟨D29, hD29⟩ : ∃ V, w27.drew = V := ⟨_, rfl⟩
  have b29 : Below w27.heap.size w27 D29 := by rw [← hD29]; exact le_dr (Below.refl _ _)
  rw [hD29] at hHeld ⊢
  clear hD29
  have q30_z1 := RS.on q28_z1 b29
  have q30_z2 := RS.on q28_z2 b29
  have q30_z3 := RS.on q28_z3 b29
  have r30_a := le_on r28_a b29
  have r30_b := le_on r28_b b29
  have r30_m := le_on r28_m b29
  have l30 := le_tr l28 b29
  clear r28_a r28_b r28_m l28
  clear q28_z1 q28_z2 q28_z3
  clear b29
  refine wpAnyH_takeL (i := 1) (d := some 112) (v := .slice (some ⟨g3, o3, none⟩) 1 q3) rfl rfl (by kernel_rfl) (by kernel_rfl) (by kernel_rfl) (fun _ _ _ h => h) (Or.inl ⟨by rfl, ?_⟩) hHeld ?_
  · intro w hSw; (try dsimp only at hSw); go_simp
  try simp only [Act.put, List.setIfInBounds_toArray, List.set_cons_zero, List.set_cons_succ]
  refine wpAnyH_takeL (i := 2) (d := some 113) (v := .pointer (some ⟨g3, o3, none⟩)) rfl rfl (by kernel_rfl) (by kernel_rfl) (by kernel_rfl) (fun _ _ _ h => h) (Or.inl ⟨by rfl, ?_⟩) hHeld ?_
  · intro w hSw; (try dsimp only at hSw); go_simp
  try simp only [Act.put, List.setIfInBounds_toArray, List.set_cons_zero, List.set_cons_succ]
  refine wpAnyH_takeL (i := 3) (d := some 114) (v := .agg #[.int .i64 4, .int .u8 2, .int .u8 1, .int .i64 2, .string ⟨#[]⟩]) rfl rfl (by kernel_rfl) (by kernel_rfl) (by kernel_rfl) (fun _ _ _ h => h) (Or.inl ⟨by rfl, ?_⟩) hHeld ?_
  · intro w hSw; (try dsimp only at hSw); go_simp
  try simp only [Act.put, List.setIfInBounds_toArray, List.set_cons_zero, List.set_cons_succ]
  refine wpAnyH_ready (rs := [0]) (by kernel_rfl) (by simp) ?_
  refine AllReadyH.cons rfl (fun K hK => ?_) AllReadyH.nil
  have f30_a0 : D29.cell? ⟨w.heap.size, 0, none⟩ = some (.int .u8 1) := CB.cell r30_a 0
  have f30_a1 : D29.cell? ⟨w.heap.size, 1, none⟩ = some (.int .i64 1) := CB.cell r30_a 1
  have f30_a2 : D29.cell? ⟨w.heap.size, 2, none⟩ = some (.int .i64 2) := CB.cell r30_a 2
  have f30_a3 : D29.cell? ⟨w.heap.size, 3, none⟩ = some (.int .u8 2) := CB.cell r30_a 3
  have f30_a4 : D29.cell? ⟨w.heap.size, 4, none⟩ = some (.string ⟨#[99]⟩) := CB.cell r30_a 4
  have f30_a5 : D29.cell? ⟨w.heap.size, 5, none⟩ = some (.bool true) := CB.cell r30_a 5
  go_simp
  go_wp2_with fail
  clear f30_a0 f30_a1 f30_a2 f30_a3 f30_a4 f30_a5
  have y31 := Lib.hid (show (fun V : World => V.cell? ⟨g3, o3, none⟩ = some (.int .i64 4) ∧ V.cell? ⟨g3, o3 + 1, none⟩ = some (.int .u8 2) ∧ V.cell? ⟨g3, o3 + 2, none⟩ = some (.int .u8 1) ∧ V.cell? ⟨g3, o3 + 3, none⟩ = some (.int .i64 2) ∧ V.cell? ⟨g3, o3 + 4, none⟩ = some (.string ⟨#[]⟩)) D29 from ⟨(RS.at0 q30_z3).1, (RS.at0 q30_z3).2.1, (RS.at0 q30_z3).2.2.1, (RS.at0 q30_z3).2.2.2.1, (RS.at0 q30_z3).2.2.2.2⟩)
  refine hK.out _ _ y31.out (fun hHeld => ?_)
  clear hK K y31
  try simp only [Act.put, List.setIfInBounds_toArray, List.set_cons_zero, List.set_cons_succ]
  refine wpAnyH_ready (rs := [4]) (by kernel_rfl) (by simp) ?_
  refine AllReadyH.cons rfl (fun K hK => ?_) AllReadyH.nil
  go_simp
  refine (K4 _).mono ?_
  rintro e u32 ⟨A4, n4, q4, rfl, hr4, b32⟩
  have q33_z1 := RS.on q30_z1 b32
  have q33_z2 := RS.on q30_z2 b32
  have q33_z3 := RS.on q30_z3 b32
  have r33_a := le_on r30_a b32
  have r33_b := le_on r30_b b32
  have r33_m := le_on r30_m b32
  have l33 := le_tr l30 b32
  clear r30_a r30_b r30_m l30
  clear q30_z1 q30_z2 q30_z3
  clear b32
  go_wp2_with fail
  have y34 := Lib.hid (show (fun V : World => V.cell? ⟨g3, o3, none⟩ = some (.int .i64 4) ∧ V.cell? ⟨g3, o3 + 1, none⟩ = some (.int .u8 2) ∧ V.cell? ⟨g3, o3 + 2, none⟩ = some (.int .u8 1) ∧ V.cell? ⟨g3, o3 + 3, none⟩ = some (.int .i64 2) ∧ V.cell? ⟨g3, o3 + 4, none⟩ = some (.string ⟨#[]⟩)) u32 from ⟨(RS.at0 q33_z3).1, (RS.at0 q33_z3).2.1, (RS.at0 q33_z3).2.2.1, (RS.at0 q33_z3).2.2.2.1, (RS.at0 q33_z3).2.2.2.2⟩)
  refine hK.out _ _ y34.out (fun hHeld => ?_)
  clear hK K y34
  try simp only [Act.put, List.setIfInBounds_toArray, List.set_cons_zero, List.set_cons_succ]
  refine wpAnyH_takeL (i := 5) (d := some 110) (v := .tuple #[.agg #[.int .u8 1, .int .i64 1, .int .i64 2, .int .u8 2, .string ⟨#[]⟩, .bool false], .slice A4 n4 q4, .int .i64 0]) rfl rfl (by kernel_rfl) (by kernel_rfl) (by kernel_rfl) (fun _ _ _ h => h) (Or.inl ⟨by rfl, ?_⟩) hHeld ?_
  · intro w hSw; (try dsimp only at hSw); go_simp
  try simp only [Act.put, List.setIfInBounds_toArray, List.set_cons_zero, List.set_cons_succ]
  refine wpAnyH_takeL (i := 6) (d := some 116) (v := .agg #[.int .u8 1, .int .i64 1, .int .i64 2, .int .u8 2, .string ⟨#[]⟩, .bool false]) rfl rfl (by kernel_rfl) (by kernel_rfl) (by kernel_rfl) (fun _ _ _ h => h) (Or.inl ⟨by rfl, ?_⟩) hHeld ?_
  · intro w hSw; (try dsimp only at hSw); go_simp
  try simp only [Act.put, List.setIfInBounds_toArray, List.set_cons_zero, List.set_cons_succ]
  refine wpAnyH_takeL (i := 7) (d := some 117) (v := .slice A4 n4 q4) rfl rfl (by kernel_rfl) (by kernel_rfl) (by kernel_rfl) (fun _ _ _ h => h) (Or.inl ⟨by rfl, ?_⟩) hHeld ?_
  · intro w hSw; (try dsimp only at hSw); go_simp
  try simp only [Act.put, List.setIfInBounds_toArray, List.set_cons_zero, List.set_cons_succ]
  refine wpAnyH_takeL (i := 8) (d := some 118) (v := .int .i64 0) rfl rfl (by kernel_rfl) (by kernel_rfl) (by kernel_rfl) (fun _ _ _ h => h) (Or.inl ⟨by rfl, ?_⟩) hHeld ?_
  · intro w hSw; (try dsimp only at hSw); go_simp
  try simp only [Act.put, List.setIfInBounds_toArray, List.set_cons_zero, List.set_cons_succ]
  refine wpAnyH_ready (rs := [9]) (by kernel_rfl) (by simp) ?_
  refine AllReadyH.cons rfl (fun K hK => ?_) AllReadyH.nil
  have f34_a0 : u32.cell? ⟨w.heap.size, 0, none⟩ = some (.int .u8 1) := CB.cell r33_a 0
  have z34_a0 : u32.frozen? ⟨w.heap.size, 0, none⟩ = false := CB.frozen r33_a 0
  have f34_a1 : u32.cell? ⟨w.heap.size, 1, none⟩ = some (.int .i64 1) := CB.cell r33_a 1
  have z34_a1 : u32.frozen? ⟨w.heap.size, 1, none⟩ = false := CB.frozen r33_a 1
  have f34_a2 : u32.cell? ⟨w.heap.size, 2, none⟩ = some (.int .i64 2) := CB.cell r33_a 2
  have z34_a2 : u32.frozen? ⟨w.heap.size, 2, none⟩ = false := CB.frozen r33_a 2
  have f34_a3 : u32.cell? ⟨w.heap.size, 3, none⟩ = some (.int .u8 2) := CB.cell r33_a 3
  have z34_a3 : u32.frozen? ⟨w.heap.size, 3, none⟩ = false := CB.frozen r33_a 3
  have f34_a4 : u32.cell? ⟨w.heap.size, 4, none⟩ = some (.string ⟨#[99]⟩) := CB.cell r33_a 4
  have z34_a4 : u32.frozen? ⟨w.heap.size, 4, none⟩ = false := CB.frozen r33_a 4
  have f34_a5 : u32.cell? ⟨w.heap.size, 5, none⟩ = some (.bool true) := CB.cell r33_a 5
  have z34_a5 : u32.frozen? ⟨w.heap.size, 5, none⟩ = false := CB.frozen r33_a 5
  go_simp
  go_wp2_with fail
  have g35_z1 := (RS.far (RS.far (RS.far (RS.far (RS.far (RS.far q33_z1 r33_a (by decide) 0 (.int .u8 1)) (CB.put r33_a 0 (.int .u8 1)) (by decide) 1 (.int .i64 1)) (CB.put (CB.put r33_a 0 (.int .u8 1)) 1 (.int .i64 1)) (by decide) 2 (.int .i64 2)) (CB.put (CB.put (CB.put r33_a 0 (.int .u8 1)) 1 (.int .i64 1)) 2 (.int .i64 2)) (by decide) 3 (.int .u8 2)) (CB.put (CB.put (CB.put (CB.put r33_a 0 (.int .u8 1)) 1 (.int .i64 1)) 2 (.int .i64 2)) 3 (.int .u8 2)) (by decide) 4 (.string ⟨#[]⟩)) (CB.put (CB.put (CB.put (CB.put (CB.put r33_a 0 (.int .u8 1)) 1 (.int .i64 1)) 2 (.int .i64 2)) 3 (.int .u8 2)) 4 (.string ⟨#[]⟩)) (by decide) 5 (.bool false))
  have g35_z2 := (RS.far (RS.far (RS.far (RS.far (RS.far (RS.far q33_z2 r33_a (by decide) 0 (.int .u8 1)) (CB.put r33_a 0 (.int .u8 1)) (by decide) 1 (.int .i64 1)) (CB.put (CB.put r33_a 0 (.int .u8 1)) 1 (.int .i64 1)) (by decide) 2 (.int .i64 2)) (CB.put (CB.put (CB.put r33_a 0 (.int .u8 1)) 1 (.int .i64 1)) 2 (.int .i64 2)) (by decide) 3 (.int .u8 2)) (CB.put (CB.put (CB.put (CB.put r33_a 0 (.int .u8 1)) 1 (.int .i64 1)) 2 (.int .i64 2)) 3 (.int .u8 2)) (by decide) 4 (.string ⟨#[]⟩)) (CB.put (CB.put (CB.put (CB.put (CB.put r33_a 0 (.int .u8 1)) 1 (.int .i64 1)) 2 (.int .i64 2)) 3 (.int .u8 2)) 4 (.string ⟨#[]⟩)) (by decide) 5 (.bool false))
  have g35_z3 := (RS.far (RS.far (RS.far (RS.far (RS.far (RS.far q33_z3 r33_a (by decide) 0 (.int .u8 1)) (CB.put r33_a 0 (.int .u8 1)) (by decide) 1 (.int .i64 1)) (CB.put (CB.put r33_a 0 (.int .u8 1)) 1 (.int .i64 1)) (by decide) 2 (.int .i64 2)) (CB.put (CB.put (CB.put r33_a 0 (.int .u8 1)) 1 (.int .i64 1)) 2 (.int .i64 2)) (by decide) 3 (.int .u8 2)) (CB.put (CB.put (CB.put (CB.put r33_a 0 (.int .u8 1)) 1 (.int .i64 1)) 2 (.int .i64 2)) 3 (.int .u8 2)) (by decide) 4 (.string ⟨#[]⟩)) (CB.put (CB.put (CB.put (CB.put (CB.put r33_a 0 (.int .u8 1)) 1 (.int .i64 1)) 2 (.int .i64 2)) 3 (.int .u8 2)) 4 (.string ⟨#[]⟩)) (by decide) 5 (.bool false))
  have g35_z4 := (RS.far (RS.far (RS.far (RS.far (RS.far (RS.far hr4 r33_a (by decide) 0 (.int .u8 1)) (CB.put r33_a 0 (.int .u8 1)) (by decide) 1 (.int .i64 1)) (CB.put (CB.put r33_a 0 (.int .u8 1)) 1 (.int .i64 1)) (by decide) 2 (.int .i64 2)) (CB.put (CB.put (CB.put r33_a 0 (.int .u8 1)) 1 (.int .i64 1)) 2 (.int .i64 2)) (by decide) 3 (.int .u8 2)) (CB.put (CB.put (CB.put (CB.put r33_a 0 (.int .u8 1)) 1 (.int .i64 1)) 2 (.int .i64 2)) 3 (.int .u8 2)) (by decide) 4 (.string ⟨#[]⟩)) (CB.put (CB.put (CB.put (CB.put (CB.put r33_a 0 (.int .u8 1)) 1 (.int .i64 1)) 2 (.int .i64 2)) 3 (.int .u8 2)) 4 (.string ⟨#[]⟩)) (by decide) 5 (.bool false))
  have f34_a0 : u32.cell? ⟨w.heap.size, 0, none⟩ = some (.int .u8 1) := CB.cell r33_a 0
  have z34_a0 : u32.frozen? ⟨w.heap.size, 0, none⟩ = false := CB.frozen r33_a 0
  have f34_a1 : u32.cell? ⟨w.heap.size, 1, none⟩ = some (.int .i64 1) := CB.cell r33_a 1
  have z34_a1 : u32.frozen? ⟨w.heap.size, 1, none⟩ = false := CB.frozen r33_a 1
  have f34_a2 : u32.cell? ⟨w.heap.size, 2, none⟩ = some (.int .i64 2) := CB.cell r33_a 2
  have z34_a2 : u32.frozen? ⟨w.heap.size, 2, none⟩ = false := CB.frozen r33_a 2
  have f34_a3 : u32.cell? ⟨w.heap.size, 3, none⟩ = some (.int .u8 2) := CB.cell r33_a 3
  have z34_a3 : u32.frozen? ⟨w.heap.size, 3, none⟩ = false := CB.frozen r33_a 3
  have f34_a4 : u32.cell? ⟨w.heap.size, 4, none⟩ = some (.string ⟨#[99]⟩) := CB.cell r33_a 4
  have z34_a4 : u32.frozen? ⟨w.heap.size, 4, none⟩ = false := CB.frozen r33_a 4
  have f34_a5 : u32.cell? ⟨w.heap.size, 5, none⟩ = some (.bool true) := CB.cell r33_a 5
  have z34_a5 : u32.frozen? ⟨w.heap.size, 5, none⟩ = false := CB.frozen r33_a 5
  obtain ⟨V35, hV35⟩ : ∃ V, (((((u32.setCell ⟨w.heap.size, 0, none⟩ (.int .u8 1)).setCell ⟨w.heap.size, 1, none⟩ (.int .i64 1)).setCell ⟨w.heap.size, 2, none⟩ (.int .i64 2)).setCell ⟨w.heap.size, 3, none⟩ (.int .u8 2)).setCell ⟨w.heap.size, 4, none⟩ (.string ⟨#[]⟩)).setCell ⟨w.heap.size, 5, none⟩ (.bool false) = V := ⟨_, rfl⟩
  have nV35 : CB V35 (w.heap.size) 31 #[.int .u8 1, .int .i64 1, .int .i64 2, .int .u8 2, .string ⟨#[]⟩, .bool false] := by rw [← hV35]; exact cb_cast (CB.put (CB.put (CB.put (CB.put (CB.put (CB.put r33_a 0 (.int .u8 1)) 1 (.int .i64 1)) 2 (.int .i64 2)) 3 (.int .u8 2)) 4 (.string ⟨#[]⟩)) 5 (.bool false)) (by kernel_rfl)
  have mV35_b : CB V35 (w.heap.size + 1) 31 #[.int .u8 2, .int .i64 2, .int .i64 1, .int .u8 0, .string ⟨#[99]⟩, .bool false] := by rw [← hV35]; exact (CB.far (CB.far (CB.far (CB.far (CB.far (CB.far r33_b (p := ⟨w.heap.size, 0, none⟩) (Ne.symm neW1_01) (.int .u8 1)) (p := ⟨w.heap.size, 1, none⟩) (Ne.symm neW1_01) (.int .i64 1)) (p := ⟨w.heap.size, 2, none⟩) (Ne.symm neW1_01) (.int .i64 2)) (p := ⟨w.heap.size, 3, none⟩) (Ne.symm neW1_01) (.int .u8 2)) (p := ⟨w.heap.size, 4, none⟩) (Ne.symm neW1_01) (.string ⟨#[]⟩)) (p := ⟨w.heap.size, 5, none⟩) (Ne.symm neW1_01) (.bool false))
  have mV35_m : CB V35 (w2.heap.size) 37 #[.int .i64 1, .int .u8 1, .int .u8 2, .int .i64 1, .string ⟨#[]⟩] := by rw [← hV35]; exact (CB.far (CB.far (CB.far (CB.far (CB.far (CB.far r33_m (p := ⟨w.heap.size, 0, none⟩) (Ne.symm neW4_a) (.int .u8 1)) (p := ⟨w.heap.size, 1, none⟩) (Ne.symm neW4_a) (.int .i64 1)) (p := ⟨w.heap.size, 2, none⟩) (Ne.symm neW4_a) (.int .i64 2)) (p := ⟨w.heap.size, 3, none⟩) (Ne.symm neW4_a) (.int .u8 2)) (p := ⟨w.heap.size, 4, none⟩) (Ne.symm neW4_a) (.string ⟨#[]⟩)) (p := ⟨w.heap.size, 5, none⟩) (Ne.symm neW4_a) (.bool false))
  have oV35 := (Below.setCell (Below.setCell (Below.setCell (Below.setCell (Below.setCell (Below.setCell l33 (p := ⟨w.heap.size, 0, none⟩) (by dsimp only; omega) (.int .u8 1)) (p := ⟨w.heap.size, 1, none⟩) (by dsimp only; omega) (.int .i64 1)) (p := ⟨w.heap.size, 2, none⟩) (by dsimp only; omega) (.int .i64 2)) (p := ⟨w.heap.size, 3, none⟩) (by dsimp only; omega) (.int .u8 2)) (p := ⟨w.heap.size, 4, none⟩) (by dsimp only; omega) (.string ⟨#[]⟩)) (p := ⟨w.heap.size, 5, none⟩) (by dsimp only; omega) (.bool false))
  rw [hV35] at oV35
  have HV35 := Lib.hid hV35
  have V35_eq := hV35
  clear hV35
  clear r33_a r33_b r33_m l33
  have q35_z1 : RS V35 37 mc 5 (some ⟨g1, o1, none⟩) 1 q [⟨2, 2, 1, 1, ⟨#[]⟩⟩] := by rw [← V35_eq]; exact g35_z1
  clear g35_z1 q33_z1
  have q35_z2 : RS V35 37 mc 5 (some ⟨g2, o2, none⟩) 1 q2 [⟨3, 1, 2, 2, ⟨#[99]⟩⟩] := by rw [← V35_eq]; exact g35_z2
  clear g35_z2 q33_z2
  have q35_z3 : RS V35 37 mc 5 (some ⟨g3, o3, none⟩) 1 q3 [⟨4, 2, 1, 2, ⟨#[]⟩⟩] := by rw [← V35_eq]; exact g35_z3
  clear g35_z3 q33_z3
  have q35_z4 : RS V35 37 mc 5 A4 n4 q4 [] := by rw [← V35_eq]; exact g35_z4
  clear g35_z4 hr4
  clear V35_eq
  rw [HV35.out]
  clear f34_a0 z34_a0 f34_a1 z34_a1 f34_a2 z34_a2 f34_a3 z34_a3 f34_a4 z34_a4 f34_a5 z34_a5
  have y36 := Lib.hid (show (fun V : World => V.cell? ⟨g3, o3, none⟩ = some (.int .i64 4) ∧ V.cell? ⟨g3, o3 + 1, none⟩ = some (.int .u8 2) ∧ V.cell? ⟨g3, o3 + 2, none⟩ = some (.int .u8 1) ∧ V.cell? ⟨g3, o3 + 3, none⟩ = some (.int .i64 2) ∧ V.cell? ⟨g3, o3 + 4, none⟩ = some (.string ⟨#[]⟩)) V35 from ⟨(RS.at0 q35_z3).1, (RS.at0 q35_z3).2.1, (RS.at0 q35_z3).2.2.1, (RS.at0 q35_z3).2.2.2.1, (RS.at0 q35_z3).2.2.2.2⟩)
  refine hK.out _ _ y36.out (fun hHeld => ?_)
  clear hK K y36
  try simp only [Act.put, List.setIfInBounds_toArray, List.set_cons_zero, List.set_cons_succ]
  refine wpAnyH_takeL (i := 10) (d := some 5) (v := .slice A4 n4 q4) rfl rfl (by kernel_rfl) (by kernel_rfl) (by kernel_rfl) (fun _ _ _ h => h) (Or.inl ⟨by rfl, ?_⟩) hHeld ?_
  · intro w hSw; (try dsimp only at hSw); go_simp
  try simp only [Act.put, List.setIfInBounds_toArray, List.set_cons_zero, List.set_cons_succ]
  refine wpAnyH_takeL (i := 11) (d := some 6) (v := .int .i64 0) rfl rfl (by kernel_rfl) (by kernel_rfl) (by kernel_rfl) (fun _ _ _ h => h) (Or.inl ⟨by rfl, ?_⟩) hHeld ?_
  · intro w hSw; (try dsimp only at hSw); go_simp
  try simp only [Act.put, List.setIfInBounds_toArray, List.set_cons_zero, List.set_cons_succ]
  refine wpAnyH_done (by kernel_rfl) ?_ _
  obtain rfl : n4 = 0 := RS.none_ q35_z4
  have f36_a0 : V35.cell? ⟨w.heap.size, 0, none⟩ = some (.int .u8 1) := CB.cell nV35 0
  have f36_a1 : V35.cell? ⟨w.heap.size, 1, none⟩ = some (.int .i64 1) := CB.cell nV35 1
  have f36_a2 : V35.cell? ⟨w.heap.size, 2, none⟩ = some (.int .i64 2) := CB.cell nV35 2
  have f36_a3 : V35.cell? ⟨w.heap.size, 3, none⟩ = some (.int .u8 2) := CB.cell nV35 3
  have f36_a4 : V35.cell? ⟨w.heap.size, 4, none⟩ = some (.string ⟨#[]⟩) := CB.cell nV35 4
  have f36_a5 : V35.cell? ⟨w.heap.size, 5, none⟩ = some (.bool false) := CB.cell nV35 5
  go_wp2_with fail
  refine (K7 _).mono ?_
  rintro e w37 ⟨rfl, b37⟩
  clear f36_a0 f36_a1 f36_a2 f36_a3 f36_a4 f36_a5
  have q38_z1 := RS.on q35_z1 b37
  have q38_z2 := RS.on q35_z2 b37
  have q38_z3 := RS.on q35_z3 b37
  have q38_z4 := RS.on q35_z4 b37
  have r38_a := le_on nV35 b37
  have r38_b := le_on mV35_b b37
  have r38_m := le_on mV35_m b37
  have l38 := le_tr oV35 b37
  clear nV35 mV35_b mV35_m oV35
  clear q35_z1 q35_z2 q35_z3 q35_z4
  clear b37
  go_wp2_with fail
  go_ret
  exact ⟨rfl, l38⟩
end Go.Proofs.Ytmghckddofefkaa
