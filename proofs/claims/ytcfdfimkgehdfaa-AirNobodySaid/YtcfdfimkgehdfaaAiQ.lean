/-
  The law AirNobody, walked. No condition.
-/
import Derived.Test.YtcfdfimkgehdfaaAiP
set_option linter.unusedVariables false
set_option linter.unusedSimpArgs false
namespace Go.Proofs.Ytcfdfimkgehdfaa
open Go.RowKit

theorem run_lits {P : Program} (w : World) (T e : TypeId) (n : Nat) (l : List (Nat × Value)) (cs : Array Value) {z : Value} {s : Nat} (hu : P.underlying T = some (.slice e)) (hi : (P.info? e).map (fun i => (i.zero, i.size)) = some (some z, s)) (h0 : 0 < s) (hn : 0 < n) (h1 : n * s ≤ 16777216)
    (hf : Instr.fill (fun i => some (i * s, s)) ((Array.range (n * s)).map (z.cells[· % z.cells.size]!)) l = some cs) :
    (Instr.buildSlice T n l.toArray).run P w = .ok (.slice (some ⟨w.heap.size, 0, none⟩) n n) (w.alloc (.cells cs e)) := by
  cases hq : P.info? e with
  | none => rw [hq] at hi; cases hi
  | some ie =>
    rw [hq] at hi
    simp at hi
    have hz : ie.zero = some z := hi.1
    have hsz : ie.size = s := hi.2
    have hg : ¬ n * s > 16777216 := by omega
    have hne : ¬ n * s = 0 := by have := Nat.mul_pos hn h0; omega
    have hne2 : ¬ (n = 0 ∨ s = 0) := by omega
    simp [Instr.buildSlice, run_underlying hu, sizeOf, typeInfo, zeroValue, hq, hz, hsz, hf, newRow, hg, hne, hne2]
theorem st_builtk0 {P : Program} {ops : Array Oper} {rest : List Oper} {dst : Option Tmp} {ty : TypeId} {pos : String} {aft : Array Edge} {a : Act} {w : World} {Q : Exit → Act → World → Prop} (T : TypeId) {cs : Array Value}  (hb : P.built T [] = some cs)
    (k : wpList P ops Q rest (a.put dst (.agg cs)) w) : wpList P ops Q (⟨dst, .build T #[], ty, pos, aft, none⟩ :: rest) a w := by
  have h : P.built T ((#[] : Array (Nat × Operand)).map fun (i, x) => (i, a.eval x)).toList = some cs := by simpa [] using hb
  exact wpList_build rfl T #[] rfl (by rw [h]; rfl) (by rw [h]; exact k)
theorem st_builtk1 {P : Program} {ops : Array Oper} {rest : List Oper} {dst : Option Tmp} {ty : TypeId} {pos : String} {aft : Array Edge} {a : Act} {w : World} {Q : Exit → Act → World → Prop} (T : TypeId) {i0 : Nat} {x0 : Operand} {v0 : Value} {cs : Array Value} (h0 : a.eval x0 = v0) (hb : P.built T [(i0, v0)] = some cs)
    (k : wpList P ops Q rest (a.put dst (.agg cs)) w) : wpList P ops Q (⟨dst, .build T #[(i0, x0)], ty, pos, aft, none⟩ :: rest) a w := by
  have h : P.built T ((#[(i0, x0)] : Array (Nat × Operand)).map fun (i, x) => (i, a.eval x)).toList = some cs := by simpa [h0] using hb
  exact wpList_build rfl T #[(i0, x0)] rfl (by rw [h]; rfl) (by rw [h]; exact k)
theorem st_builtk3 {P : Program} {ops : Array Oper} {rest : List Oper} {dst : Option Tmp} {ty : TypeId} {pos : String} {aft : Array Edge} {a : Act} {w : World} {Q : Exit → Act → World → Prop} (T : TypeId) {i0 i1 i2 : Nat} {x0 x1 x2 : Operand} {v0 v1 v2 : Value} {cs : Array Value} (h0 : a.eval x0 = v0) (h1 : a.eval x1 = v1) (h2 : a.eval x2 = v2) (hb : P.built T [(i0, v0), (i1, v1), (i2, v2)] = some cs)
    (k : wpList P ops Q rest (a.put dst (.agg cs)) w) : wpList P ops Q (⟨dst, .build T #[(i0, x0), (i1, x1), (i2, x2)], ty, pos, aft, none⟩ :: rest) a w := by
  have h : P.built T ((#[(i0, x0), (i1, x1), (i2, x2)] : Array (Nat × Operand)).map fun (i, x) => (i, a.eval x)).toList = some cs := by simpa [h0, h1, h2] using hb
  exact wpList_build rfl T #[(i0, x0), (i1, x1), (i2, x2)] rfl (by rw [h]; rfl) (by rw [h]; exact k)
theorem st_builtk5 {P : Program} {ops : Array Oper} {rest : List Oper} {dst : Option Tmp} {ty : TypeId} {pos : String} {aft : Array Edge} {a : Act} {w : World} {Q : Exit → Act → World → Prop} (T : TypeId) {i0 i1 i2 i3 i4 : Nat} {x0 x1 x2 x3 x4 : Operand} {v0 v1 v2 v3 v4 : Value} {cs : Array Value} (h0 : a.eval x0 = v0) (h1 : a.eval x1 = v1) (h2 : a.eval x2 = v2) (h3 : a.eval x3 = v3) (h4 : a.eval x4 = v4) (hb : P.built T [(i0, v0), (i1, v1), (i2, v2), (i3, v3), (i4, v4)] = some cs)
    (k : wpList P ops Q rest (a.put dst (.agg cs)) w) : wpList P ops Q (⟨dst, .build T #[(i0, x0), (i1, x1), (i2, x2), (i3, x3), (i4, x4)], ty, pos, aft, none⟩ :: rest) a w := by
  have h : P.built T ((#[(i0, x0), (i1, x1), (i2, x2), (i3, x3), (i4, x4)] : Array (Nat × Operand)).map fun (i, x) => (i, a.eval x)).toList = some cs := by simpa [h0, h1, h2, h3, h4] using hb
  exact wpList_build rfl T #[(i0, x0), (i1, x1), (i2, x2), (i3, x3), (i4, x4)] rfl (by rw [h]; rfl) (by rw [h]; exact k)
theorem st_builtk6 {P : Program} {ops : Array Oper} {rest : List Oper} {dst : Option Tmp} {ty : TypeId} {pos : String} {aft : Array Edge} {a : Act} {w : World} {Q : Exit → Act → World → Prop} (T : TypeId) {i0 i1 i2 i3 i4 i5 : Nat} {x0 x1 x2 x3 x4 x5 : Operand} {v0 v1 v2 v3 v4 v5 : Value} {cs : Array Value} (h0 : a.eval x0 = v0) (h1 : a.eval x1 = v1) (h2 : a.eval x2 = v2) (h3 : a.eval x3 = v3) (h4 : a.eval x4 = v4) (h5 : a.eval x5 = v5) (hb : P.built T [(i0, v0), (i1, v1), (i2, v2), (i3, v3), (i4, v4), (i5, v5)] = some cs)
    (k : wpList P ops Q rest (a.put dst (.agg cs)) w) : wpList P ops Q (⟨dst, .build T #[(i0, x0), (i1, x1), (i2, x2), (i3, x3), (i4, x4), (i5, x5)], ty, pos, aft, none⟩ :: rest) a w := by
  have h : P.built T ((#[(i0, x0), (i1, x1), (i2, x2), (i3, x3), (i4, x4), (i5, x5)] : Array (Nat × Operand)).map fun (i, x) => (i, a.eval x)).toList = some cs := by simpa [h0, h1, h2, h3, h4, h5] using hb
  exact wpList_build rfl T #[(i0, x0), (i1, x1), (i2, x2), (i3, x3), (i4, x4), (i5, x5)] rfl (by rw [h]; rfl) (by rw [h]; exact k)
theorem st_lits2 {P : Program} {ops : Array Oper} {rest : List Oper} {dst : Option Tmp} {ty : TypeId} {pos : String} {aft : Array Edge} {a : Act} {w : World} {Q : Exit → Act → World → Prop} (T e : TypeId) {x0 x1 : Operand} (v0 v1 : Value) (cs : Array Value) (h0 : a.eval x0 = v0) (h1 : a.eval x1 = v1) {z : Value} {s : Nat} (hu : P.underlying T = some (.slice e)) (hi : (P.info? e).map (fun i => (i.zero, i.size)) = some (some z, s)) (hs0 : 0 < s) (hs9 : s ≤ 1000)
    (hf : Instr.fill (fun i => some (i * s, s)) ((Array.range (2 * s)).map (z.cells[· % z.cells.size]!)) [(0, v0), (1, v1)] = some cs)
    (k : Sh (∀ V g, CB V g e cs → Fr w V g → wpList P ops Q rest (a.put dst (.slice (some ⟨g, 0, none⟩) 2 2)) V)) : wpList P ops Q (⟨dst, .buildSlice T 2 #[(0, x0), (1, x1)], ty, pos, aft, none⟩ :: rest) a w :=
  wpList_plain rfl fun K hK => by
    have h : (Instr.buildSlice T 2 ((#[(0, x0), (1, x1)] : Array (Nat × Operand)).map fun (i, x) => (i, a.eval x))).run P w = .ok (.slice (some ⟨w.heap.size, 0, none⟩) 2 2) (w.alloc (.cells cs e)) := by
      have := run_lits (P := P) w T e 2 [(0, v0), (1, v1)] cs hu hi hs0 (by omega) (by omega) hf
      simpa [h0, h1] using this
    unfold Oper.wp execOp
    simp only [Sem.run_bind, Sem.run_pure, Result.andThen_ok, h]
    exact hK _ _ (k.out _ _ (CB.new w e cs) ⟨rfl, le_al _ _⟩)
theorem Try.infoPA : (Try.prog.info? 24).map (fun i => (i.zero, i.size)) = some (some (.pointer none), 1) := by kernel_rfl
theorem fill_two (p q : Option Addr) : Instr.fill (fun i => some (i * 1, 1)) ((Array.range (2 * 1)).map ((Value.pointer none).cells[· % (Value.pointer none).cells.size]!)) [(0, .pointer p), (1, .pointer q)] = some #[.pointer p, .pointer q] := by kernel_rfl
/-- The array of an air that no call made. -/
theorem an_zero {V : World} {g : Nat} (h : CB V g 54 (Array.replicate 17 (.pointer none))) : AN V g 54 17 (fun _ => .pointer none) := ⟨_, h, by simp, fun i hi => by simp [hi]⟩
set_option maxRecDepth 100000 in
set_option maxHeartbeats 4000000 in
theorem nobody_walk (t : Nat) (i : Int) (w : World) : Calls Try.prog 6 #[.int .u8 (t : Int), .int .i64 i] w fun e w' => e = .returned (.bool true) ∧ Below w.heap.size w w' := by
  go_enter Try.func6, Try.ntmps6
  go_wp2_with fail
  (with_reducible refine (alive_c _).mono ?_)
  rintro e w1 ⟨rfl, b1⟩
  have l4 := le_tr (Below.refl _ _) b1
  clear b1
  go_wp2_with (first | ((with_reducible refine st_built0 54 (Array.replicate 17 (.pointer none)) ?_ ?_); exact built_air) | ((with_reducible refine st_box 54 _ (Array.replicate 17 (.pointer none)) ?_ ?_); exact rfl))
  refine ⟨fun V5 gz nz f5 => ?_⟩
  have lz := le_tr l4 f5.bel
  have uz := f5.up l4
  clear f5 l4
  go_wp2_with (first | ((with_reducible refine st_lits2 55 24 (.pointer none) (.pointer (some ⟨gz, 0, none⟩)) #[.pointer none, .pointer (some ⟨gz, 0, none⟩)] ?_ ?_ Try.underlying55 Try.infoPA (by decide) (by decide) (fill_two _ _) ?_); exact rfl; exact rfl))
  refine ⟨fun V6 gp np f6 => ?_⟩
  have lp := le_tr lz f6.bel
  have rz := le_on nz f6.bel
  clear f6 nz lz
  go_wp2_with fail
  go_loopw [15] (fun iv wr => ∃ k : Nat, k ≤ 2 ∧ iv = .int .i64 k ∧ CB wr gp 24 #[.pointer none, .pointer (some ⟨gz, 0, none⟩)] ∧ CB wr gz 54 (Array.replicate 17 (.pointer none)) ∧ Below w.heap.size w wr) (fun iv _ => 2 - (intOf iv).toNat)
  case atStart => exact ⟨0, by omega, rfl, np, rz, lp⟩
  case round =>
    clear np rz lp
    obtain ⟨k, hk, rfl, hp, hz, hb⟩ := hrel
    rcases (show k = 0 ∨ k = 1 ∨ k = 2 by omega) with hk0 | hk0 | hk0
    · subst hk0
      have c9 : wr.cell? ⟨gp, 0, none⟩ = some (.pointer none) := CB.cell hp 0
      go_wp2_with fail
      (with_reducible refine (take_0 t i _).mono ?_)
      rintro e w9 ⟨rfl, b9⟩
      clear c9
      have hp101 := le_on hp b9
      have hz101 := le_on hz b9
      have hl101 := le_tr hb b9
      clear b9
      go_wp2_with (first | ((with_reducible refine st_alloc 40 (lA zeroL) ?_ ?_); exact zero_lc))
      refine ⟨fun V102 g102 n102 f102 => ?_⟩
      have b102 := f102.bel
      have up102 := f102.up hl101
      clear f102
      have hp103 := le_on hp101 b102
      have hz103 := le_on hz101 b102
      have hl103 := le_tr hl101 b102
      clear b102
      go_wp2_with (first | ((with_reducible refine st_store 40 _ _ g102 (lA zeroL) ?_ ?_ n102 ?_ ?_ ?_ ?_); exact rfl; exact rfl; exact Try.zLc; exact rfl; exact lA_one _))
      refine ⟨fun V104 n104 k104 => ?_⟩
      have p104 := k104.on hp103 (CB.ne_ hp103 n102 (by decide))
      have z104 := k104.on hz103 (CB.ne_ hz103 n102 (by decide))
      have o104 := k104.bel _ _ hl103 up102
      clear k104
      have c105 : V104.cell? ⟨g102, 2, none⟩ = some (.slice (zeroL.A) (zeroL.n) (zeroL.c)) := CB.cell n104 2
      go_wp2_with (first | ((with_reducible refine st_builtn 40 1 _ (.int .u8 (t : Int)) (lA ⟨0, t, [], none, 0, 0⟩) ?_ ?_ ?_); exact rfl; exact built_l1 t))
      have cc9 := fun w => send_0 (⟨0, t, [], none, 0, 0⟩ : Lm) w
      replace cc9 := cc9 V104
      (with_reducible refine cc9.mono ?_)
      clear cc9
      rintro e w106 ⟨rfl, b106⟩
      clear c105
      have hp107 := le_on p104 b106
      have hz107 := le_on z104 b106
      have hl107 := le_tr o104 b106
      have hq107_l := le_on n104 b106
      clear b106
      have c108 : w106.cell? ⟨g102, 2, none⟩ = some (.slice (zeroL.A) (zeroL.n) (zeroL.c)) := CB.cell hq107_l 2
      go_wp2_with fail
      have cc9 := again_0 t i w106
      (with_reducible refine cc9.mono ?_)
      clear cc9
      rintro e w109 ⟨rfl, b109⟩
      clear c108
      have hp110 := le_on hp107 b109
      have hz110 := le_on hz107 b109
      have hl110 := le_tr hl107 b109
      have hq110_l := le_on hq107_l b109
      clear b109
      have c111 : w109.cell? ⟨g102, 2, none⟩ = some (.slice (zeroL.A) (zeroL.n) (zeroL.c)) := CB.cell hq110_l 2
      go_wp2_with fail
      have cc9 : Calls Try.prog 21 #[.pointer none, .int .u8 (t : Int), .int .i64 i, .int .u16 0, .int .u8 1] _ _ := turn_0 t i 0 1 w109
      (with_reducible refine cc9.mono ?_)
      clear cc9
      rintro e w112 ⟨rfl, b112⟩
      clear c111
      have hp113 := le_on hp110 b112
      have hz113 := le_on hz110 b112
      have hl113 := le_tr hl110 b112
      have hq113_l := le_on hq110_l b112
      clear b112
      have c114 : w112.cell? ⟨g102, 2, none⟩ = some (.slice (zeroL.A) (zeroL.n) (zeroL.c)) := CB.cell hq113_l 2
      go_wp2_with fail
      (with_reducible refine (alen_0 t _).mono ?_)
      rintro e w' ⟨rfl, rfl⟩
      clear c114
      go_wp2_with fail
      go_roundw
      case rel => exact ⟨1, by omega, by go_num, hp113, hz113, hl113⟩
      case measure => simp [intOf]
    · subst hk0
      have c9 : wr.cell? ⟨gp, 1, none⟩ = some (.pointer (some ⟨gz, 0, none⟩)) := CB.cell hp 1
      go_wp2_with fail
      (with_reducible refine (take_z gz t i _ (an_zero hz)).mono ?_)
      rintro e w9 ⟨rfl, b9⟩
      clear c9
      have hp101 := le_on hp b9
      have hz101 := le_on hz b9
      have hl101 := le_tr hb b9
      clear b9
      go_wp2_with (first | ((with_reducible refine st_alloc 40 (lA zeroL) ?_ ?_); exact zero_lc))
      refine ⟨fun V102 g102 n102 f102 => ?_⟩
      have b102 := f102.bel
      have up102 := f102.up hl101
      clear f102
      have hp103 := le_on hp101 b102
      have hz103 := le_on hz101 b102
      have hl103 := le_tr hl101 b102
      clear b102
      go_wp2_with (first | ((with_reducible refine st_store 40 _ _ g102 (lA zeroL) ?_ ?_ n102 ?_ ?_ ?_ ?_); exact rfl; exact rfl; exact Try.zLc; exact rfl; exact lA_one _))
      refine ⟨fun V104 n104 k104 => ?_⟩
      have p104 := k104.on hp103 (CB.ne_ hp103 n102 (by decide))
      have z104 := k104.on hz103 (CB.ne_ hz103 n102 (by decide))
      have o104 := k104.bel _ _ hl103 up102
      clear k104
      have c105 : V104.cell? ⟨g102, 2, none⟩ = some (.slice (zeroL.A) (zeroL.n) (zeroL.c)) := CB.cell n104 2
      go_wp2_with (first | ((with_reducible refine st_builtn 40 1 _ (.int .u8 (t : Int)) (lA ⟨0, t, [], none, 0, 0⟩) ?_ ?_ ?_); exact rfl; exact built_l1 t))
      have cc9 := send_z gz ⟨0, t, [], none, 0, 0⟩ _ (an_zero z104)
      (with_reducible refine cc9.mono ?_)
      clear cc9
      rintro e w106 ⟨rfl, b106⟩
      clear c105
      have hp107 := le_on p104 b106
      have hz107 := le_on z104 b106
      have hl107 := le_tr o104 b106
      have hq107_l := le_on n104 b106
      clear b106
      have c108 : w106.cell? ⟨g102, 2, none⟩ = some (.slice (zeroL.A) (zeroL.n) (zeroL.c)) := CB.cell hq107_l 2
      go_wp2_with fail
      have cc9 := again_z gz t i w106 (an_zero hz107)
      (with_reducible refine cc9.mono ?_)
      clear cc9
      rintro e w109 ⟨rfl, b109⟩
      clear c108
      have hp110 := le_on hp107 b109
      have hz110 := le_on hz107 b109
      have hl110 := le_tr hl107 b109
      have hq110_l := le_on hq107_l b109
      clear b109
      have c111 : w109.cell? ⟨g102, 2, none⟩ = some (.slice (zeroL.A) (zeroL.n) (zeroL.c)) := CB.cell hq110_l 2
      go_wp2_with fail
      have cc9 : Calls Try.prog 21 #[.pointer (some ⟨gz, 0, none⟩), .int .u8 (t : Int), .int .i64 i, .int .u16 0, .int .u8 1] _ _ := turn_z gz t i 0 1 w109 (an_zero hz110)
      (with_reducible refine cc9.mono ?_)
      clear cc9
      rintro e w112 ⟨rfl, b112⟩
      clear c111
      have hp113 := le_on hp110 b112
      have hz113 := le_on hz110 b112
      have hl113 := le_tr hl110 b112
      have hq113_l := le_on hq110_l b112
      clear b112
      have c114 : w112.cell? ⟨g102, 2, none⟩ = some (.slice (zeroL.A) (zeroL.n) (zeroL.c)) := CB.cell hq113_l 2
      go_wp2_with fail
      (with_reducible refine (alen_z gz t _ (an_zero hz113)).mono ?_)
      rintro e w' ⟨rfl, rfl⟩
      clear c114
      go_wp2_with fail
      go_roundw
      case rel => exact ⟨2, by omega, by go_num, hp113, hz113, hl113⟩
      case measure => simp [intOf]
    · subst hk0
      go_wp2_with fail
      go_ret
      exact ⟨rfl, hb⟩
end Go.Proofs.Ytcfdfimkgehdfaa
