/-
  Layer 17 in memory: notes and messages as cells; structs and slice literals that are built; '==' of notes and of messages. No condition.
-/
import Derived.Test.YtfdboahcaiolgaaRows
import Derived.Test.YtfdboahcaiolgaaAqNg
set_option linter.unusedVariables false
set_option linter.unusedSimpArgs false
set_option linter.unusedSectionVars false
namespace Go.Proofs.Ytfdboahcaiolgaa
open Go.RowKit
open Dk (Nt InN RightN BoundN MsgN NoMsg KindN EpN bound_n)

/-- A note, its message, as cells. -/
def ntA (n : Nt) : Array Value := #[.int .i64 n.kd, .int .u8 n.mb, .int .i64 n.tx, .int .i64 n.ep, .int .i64 n.vl, .int .i64 n.mq, .int .u8 n.mf, .int .u8 n.mt, .int .i64 n.me, .string n.cg]
def mgA (n : Nt) : Array Value := #[.int .i64 n.mq, .int .u8 n.mf, .int .u8 n.mt, .int .i64 n.me, .string n.cg]
def zN : Nt := ⟨0, 0, 0, 0, 0, 0, 0, 0, 0, ByteArray.empty⟩
theorem ntA_one (n : Nt) : (ntA n).all (·.oneCell') = true := by simp [ntA, Value.oneCell']
theorem mgA_one (n : Nt) : (mgA n).all (·.oneCell') = true := by simp [mgA, Value.oneCell']
theorem ntA_size (n : Nt) : (ntA n).size = 10 := rfl
theorem mgA_size (n : Nt) : (mgA n).size = 5 := rfl
theorem Try.zNc : (Try.prog.info? 75).map (·.size) = some 10 := by kernel_rfl
theorem Try.zNr : (Try.prog.info? 109).map (·.size) = some 10 := by kernel_rfl
theorem Try.zMc : (Try.prog.info? 68).map (·.size) = some 5 := by kernel_rfl
theorem Try.zMr : (Try.prog.info? 107).map (·.size) = some 5 := by kernel_rfl
theorem one_i : (Try.prog.info? 3).map (·.size) = some 1 := by kernel_rfl
theorem one_b8 : (Try.prog.info? 5).map (·.size) = some 1 := by kernel_rfl
theorem zero_nc (V : World) : (zeroValue 75).run Try.prog V = .ok (.agg (ntA zN)) V := Try.zeroValue75 V
theorem zero_nr (V : World) : (zeroValue 109).run Try.prog V = .ok (.agg (ntA zN)) V := Try.zeroValue109 V
theorem zero_mr (V : World) : (zeroValue 107).run Try.prog V = .ok (.agg (mgA zN)) V := Try.zeroValue107 V
theorem ntA_pmc (n : Nt) : (ntA n).extract 5 (5 + (mgA n).size) = mgA n := by simp [ntA, mgA]
theorem ntA_pmr (n : Nt) : (ntA n).extract 5 (5 + (mgA n).size) = mgA n := by simp [ntA, mgA]
theorem ntA_mr (n m : Nt) : (ntA n).extract 0 5 ++ mgA m ++ (ntA n).extract (5 + (mgA m).size) (ntA n).size = ntA { n with mq := m.mq, mf := m.mf, mt := m.mt, me := m.me, cg := m.cg } := by simp [ntA, mgA]
theorem ntA_kd (n : Nt) (x : Int) : (ntA n).setIfInBounds 0 (.int .i64 x) = ntA { n with kd := x } := rfl
theorem ntA_mb (n : Nt) (x : Int) : (ntA n).setIfInBounds 1 (.int .u8 x) = ntA { n with mb := x } := rfl
theorem ntA_tx (n : Nt) (x : Int) : (ntA n).setIfInBounds 2 (.int .i64 x) = ntA { n with tx := x } := rfl
theorem ntA_ep (n : Nt) (x : Int) : (ntA n).setIfInBounds 3 (.int .i64 x) = ntA { n with ep := x } := rfl
/-- Structs that are built. -/
theorem built_n0 : Try.prog.built 75 [] = some (ntA zN) := by kernel_rfl
theorem built_r0 : Try.prog.built 109 [] = some (ntA zN) := by kernel_rfl
theorem built_m0 : Try.prog.built 68 [] = some (mgA zN) := by kernel_rfl
theorem built_q0 : Try.prog.built 107 [] = some (mgA zN) := by kernel_rfl
theorem built_n6 (n : Nt) : Try.prog.built 75 [(0, .int .i64 n.kd), (1, .int .u8 n.mb), (2, .int .i64 n.tx), (3, .int .i64 n.ep), (4, .int .i64 n.vl), (5, .agg (mgA n))] = some (ntA n) := by kernel_rfl
theorem built_r6 (n : Nt) : Try.prog.built 109 [(0, .int .i64 n.kd), (1, .int .u8 n.mb), (2, .int .i64 n.tx), (3, .int .i64 n.ep), (4, .int .i64 n.vl), (5, .agg (mgA n))] = some (ntA n) := by kernel_rfl
theorem built_n5 (a b c d e : Int) : Try.prog.built 75 [(0, .int .i64 a), (1, .int .u8 b), (2, .int .i64 c), (3, .int .i64 d), (4, .int .i64 e)] = some (ntA ⟨a, b, c, d, e, 0, 0, 0, 0, ByteArray.empty⟩) := by kernel_rfl
theorem built_r5 (a b c d e : Int) : Try.prog.built 109 [(0, .int .i64 a), (1, .int .u8 b), (2, .int .i64 c), (3, .int .i64 d), (4, .int .i64 e)] = some (ntA ⟨a, b, c, d, e, 0, 0, 0, 0, ByteArray.empty⟩) := by kernel_rfl
theorem built_n3 (a b : Int) (m : Nt) : Try.prog.built 75 [(0, .int .i64 a), (1, .int .u8 b), (5, .agg (mgA m))] = some (ntA ⟨a, b, 0, 0, 0, m.mq, m.mf, m.mt, m.me, m.cg⟩) := by kernel_rfl
theorem built_m5 (n : Nt) : Try.prog.built 68 [(0, .int .i64 n.mq), (1, .int .u8 n.mf), (2, .int .u8 n.mt), (3, .int .i64 n.me), (4, .string n.cg)] = some (mgA n) := by kernel_rfl
theorem built_q5 (n : Nt) : Try.prog.built 107 [(0, .int .i64 n.mq), (1, .int .u8 n.mf), (2, .int .u8 n.mt), (3, .int .i64 n.me), (4, .string n.cg)] = some (mgA n) := by kernel_rfl
theorem built_vn (x : Nat) : Try.prog.built 96 [(0, .int .u64 (x : Int))] = some (vcl ⟨x, ByteArray.empty⟩).toArray := by kernel_rfl
theorem built_vt (s : ByteArray) : Try.prog.built 96 [(1, .string s)] = some (vcl ⟨0, s⟩).toArray := by kernel_rfl
theorem built_wn (x : Nat) : Try.prog.built 87 [(0, .int .u64 (x : Int))] = some (vcl ⟨x, ByteArray.empty⟩).toArray := by kernel_rfl
theorem built_wt (s : ByteArray) : Try.prog.built 87 [(1, .string s)] = some (vcl ⟨0, s⟩).toArray := by kernel_rfl
/-- A slice literal. -/
theorem run_lits {P : Program} (w : World) (T e : TypeId) (n : Nat) (l : List (Nat × Value)) (cs : Array Value) {z : Value} {s : Nat} (hu : P.underlying T = some (.slice e)) (hi : (P.info? e).map (fun i => (i.zero, i.size)) = some (some z, s)) (h0 : 0 < s) (hn : 0 < n) (h1 : n * s ≤ 16777216)
    (hf : Instr.fill (fun i => some (i * s, s)) ((Array.range (n * s)).map (z.cells[· % z.cells.size]!)) l = some cs) :
    (Instr.buildSlice T n l.toArray).run P w = .ok (.slice (some ⟨w.heap.size, 0, none⟩) n n) (w.alloc (.cells cs e)) := by
  cases hq : P.info? e with
  | none => rw [hq] at hi; cases hi
  | some ie =>
    rw [hq] at hi
    simp at hi
    have hz : ie.zero = some z := hi.1
    have hsz : ie.size = s := hi.2
    have hg : ¬ n * s > 16777216 := by omega
    have hne : ¬ n * s = 0 := by have := Nat.mul_pos hn h0; omega
    have hne2 : ¬ (n = 0 ∨ s = 0) := by omega
    simp [Instr.buildSlice, run_underlying hu, sizeOf, typeInfo, zeroValue, hq, hz, hsz, hf, newRow, hg, hne, hne2]
theorem st_builtk0 {P : Program} {ops : Array Oper} {rest : List Oper} {dst : Option Tmp} {ty : TypeId} {pos : String} {aft : Array Edge} {a : Act} {w : World} {Q : Exit → Act → World → Prop} (T : TypeId) {cs : Array Value}  (hb : P.built T [] = some cs)
    (k : wpList P ops Q rest (a.put dst (.agg cs)) w) : wpList P ops Q (⟨dst, .build T #[], ty, pos, aft, none⟩ :: rest) a w := by
  have h : P.built T ((#[] : Array (Nat × Operand)).map fun (i, x) => (i, a.eval x)).toList = some cs := by simpa [] using hb
  exact wpList_build rfl T #[] rfl (by rw [h]; rfl) (by rw [h]; exact k)
theorem st_builtk1 {P : Program} {ops : Array Oper} {rest : List Oper} {dst : Option Tmp} {ty : TypeId} {pos : String} {aft : Array Edge} {a : Act} {w : World} {Q : Exit → Act → World → Prop} (T : TypeId) {i0 : Nat} {x0 : Operand} {v0 : Value} {cs : Array Value} (h0 : a.eval x0 = v0) (hb : P.built T [(i0, v0)] = some cs)
    (k : wpList P ops Q rest (a.put dst (.agg cs)) w) : wpList P ops Q (⟨dst, .build T #[(i0, x0)], ty, pos, aft, none⟩ :: rest) a w := by
  have h : P.built T ((#[(i0, x0)] : Array (Nat × Operand)).map fun (i, x) => (i, a.eval x)).toList = some cs := by simpa [h0] using hb
  exact wpList_build rfl T #[(i0, x0)] rfl (by rw [h]; rfl) (by rw [h]; exact k)
theorem st_builtk3 {P : Program} {ops : Array Oper} {rest : List Oper} {dst : Option Tmp} {ty : TypeId} {pos : String} {aft : Array Edge} {a : Act} {w : World} {Q : Exit → Act → World → Prop} (T : TypeId) {i0 i1 i2 : Nat} {x0 x1 x2 : Operand} {v0 v1 v2 : Value} {cs : Array Value} (h0 : a.eval x0 = v0) (h1 : a.eval x1 = v1) (h2 : a.eval x2 = v2) (hb : P.built T [(i0, v0), (i1, v1), (i2, v2)] = some cs)
    (k : wpList P ops Q rest (a.put dst (.agg cs)) w) : wpList P ops Q (⟨dst, .build T #[(i0, x0), (i1, x1), (i2, x2)], ty, pos, aft, none⟩ :: rest) a w := by
  have h : P.built T ((#[(i0, x0), (i1, x1), (i2, x2)] : Array (Nat × Operand)).map fun (i, x) => (i, a.eval x)).toList = some cs := by simpa [h0, h1, h2] using hb
  exact wpList_build rfl T #[(i0, x0), (i1, x1), (i2, x2)] rfl (by rw [h]; rfl) (by rw [h]; exact k)
theorem st_builtk5 {P : Program} {ops : Array Oper} {rest : List Oper} {dst : Option Tmp} {ty : TypeId} {pos : String} {aft : Array Edge} {a : Act} {w : World} {Q : Exit → Act → World → Prop} (T : TypeId) {i0 i1 i2 i3 i4 : Nat} {x0 x1 x2 x3 x4 : Operand} {v0 v1 v2 v3 v4 : Value} {cs : Array Value} (h0 : a.eval x0 = v0) (h1 : a.eval x1 = v1) (h2 : a.eval x2 = v2) (h3 : a.eval x3 = v3) (h4 : a.eval x4 = v4) (hb : P.built T [(i0, v0), (i1, v1), (i2, v2), (i3, v3), (i4, v4)] = some cs)
    (k : wpList P ops Q rest (a.put dst (.agg cs)) w) : wpList P ops Q (⟨dst, .build T #[(i0, x0), (i1, x1), (i2, x2), (i3, x3), (i4, x4)], ty, pos, aft, none⟩ :: rest) a w := by
  have h : P.built T ((#[(i0, x0), (i1, x1), (i2, x2), (i3, x3), (i4, x4)] : Array (Nat × Operand)).map fun (i, x) => (i, a.eval x)).toList = some cs := by simpa [h0, h1, h2, h3, h4] using hb
  exact wpList_build rfl T #[(i0, x0), (i1, x1), (i2, x2), (i3, x3), (i4, x4)] rfl (by rw [h]; rfl) (by rw [h]; exact k)
theorem st_builtk6 {P : Program} {ops : Array Oper} {rest : List Oper} {dst : Option Tmp} {ty : TypeId} {pos : String} {aft : Array Edge} {a : Act} {w : World} {Q : Exit → Act → World → Prop} (T : TypeId) {i0 i1 i2 i3 i4 i5 : Nat} {x0 x1 x2 x3 x4 x5 : Operand} {v0 v1 v2 v3 v4 v5 : Value} {cs : Array Value} (h0 : a.eval x0 = v0) (h1 : a.eval x1 = v1) (h2 : a.eval x2 = v2) (h3 : a.eval x3 = v3) (h4 : a.eval x4 = v4) (h5 : a.eval x5 = v5) (hb : P.built T [(i0, v0), (i1, v1), (i2, v2), (i3, v3), (i4, v4), (i5, v5)] = some cs)
    (k : wpList P ops Q rest (a.put dst (.agg cs)) w) : wpList P ops Q (⟨dst, .build T #[(i0, x0), (i1, x1), (i2, x2), (i3, x3), (i4, x4), (i5, x5)], ty, pos, aft, none⟩ :: rest) a w := by
  have h : P.built T ((#[(i0, x0), (i1, x1), (i2, x2), (i3, x3), (i4, x4), (i5, x5)] : Array (Nat × Operand)).map fun (i, x) => (i, a.eval x)).toList = some cs := by simpa [h0, h1, h2, h3, h4, h5] using hb
  exact wpList_build rfl T #[(i0, x0), (i1, x1), (i2, x2), (i3, x3), (i4, x4), (i5, x5)] rfl (by rw [h]; rfl) (by rw [h]; exact k)
theorem st_lits9 {P : Program} {ops : Array Oper} {rest : List Oper} {dst : Option Tmp} {ty : TypeId} {pos : String} {aft : Array Edge} {a : Act} {w : World} {Q : Exit → Act → World → Prop} (T e : TypeId) {x0 x1 x2 x3 x4 x5 x6 x7 x8 : Operand} {v0 v1 v2 v3 v4 v5 v6 v7 v8 : Value} (cs : Array Value) (h0 : a.eval x0 = v0) (h1 : a.eval x1 = v1) (h2 : a.eval x2 = v2) (h3 : a.eval x3 = v3) (h4 : a.eval x4 = v4) (h5 : a.eval x5 = v5) (h6 : a.eval x6 = v6) (h7 : a.eval x7 = v7) (h8 : a.eval x8 = v8) {z : Value} {s : Nat} (hu : P.underlying T = some (.slice e)) (hi : (P.info? e).map (fun i => (i.zero, i.size)) = some (some z, s)) (hs0 : 0 < s) (hs9 : s ≤ 1000)
    (hf : Instr.fill (fun i => some (i * s, s)) ((Array.range (9 * s)).map (z.cells[· % z.cells.size]!)) [(0, v0), (1, v1), (2, v2), (3, v3), (4, v4), (5, v5), (6, v6), (7, v7), (8, v8)] = some cs)
    (k : Sh (∀ V g, CB V g e cs → Fr w V g → wpList P ops Q rest (a.put dst (.slice (some ⟨g, 0, none⟩) 9 9)) V)) : wpList P ops Q (⟨dst, .buildSlice T 9 #[(0, x0), (1, x1), (2, x2), (3, x3), (4, x4), (5, x5), (6, x6), (7, x7), (8, x8)], ty, pos, aft, none⟩ :: rest) a w :=
  wpList_plain rfl fun K hK => by
    have h : (Instr.buildSlice T 9 ((#[(0, x0), (1, x1), (2, x2), (3, x3), (4, x4), (5, x5), (6, x6), (7, x7), (8, x8)] : Array (Nat × Operand)).map fun (i, x) => (i, a.eval x))).run P w = .ok (.slice (some ⟨w.heap.size, 0, none⟩) 9 9) (w.alloc (.cells cs e)) := by
      have := run_lits (P := P) w T e 9 [(0, v0), (1, v1), (2, v2), (3, v3), (4, v4), (5, v5), (6, v6), (7, v7), (8, v8)] cs hu hi hs0 (by omega) (by omega) hf
      simpa [h0, h1, h2, h3, h4, h5, h6, h7, h8] using this
    unfold Oper.wp execOp
    simp only [Sem.run_bind, Sem.run_pure, Result.andThen_ok, h]
    exact hK _ _ (k.out _ _ (CB.new w e cs) ⟨rfl, le_al _ _⟩)
theorem st_lits10 {P : Program} {ops : Array Oper} {rest : List Oper} {dst : Option Tmp} {ty : TypeId} {pos : String} {aft : Array Edge} {a : Act} {w : World} {Q : Exit → Act → World → Prop} (T e : TypeId) {x0 x1 x2 x3 x4 x5 x6 x7 x8 x9 : Operand} {v0 v1 v2 v3 v4 v5 v6 v7 v8 v9 : Value} (cs : Array Value) (h0 : a.eval x0 = v0) (h1 : a.eval x1 = v1) (h2 : a.eval x2 = v2) (h3 : a.eval x3 = v3) (h4 : a.eval x4 = v4) (h5 : a.eval x5 = v5) (h6 : a.eval x6 = v6) (h7 : a.eval x7 = v7) (h8 : a.eval x8 = v8) (h9 : a.eval x9 = v9) {z : Value} {s : Nat} (hu : P.underlying T = some (.slice e)) (hi : (P.info? e).map (fun i => (i.zero, i.size)) = some (some z, s)) (hs0 : 0 < s) (hs9 : s ≤ 1000)
    (hf : Instr.fill (fun i => some (i * s, s)) ((Array.range (10 * s)).map (z.cells[· % z.cells.size]!)) [(0, v0), (1, v1), (2, v2), (3, v3), (4, v4), (5, v5), (6, v6), (7, v7), (8, v8), (9, v9)] = some cs)
    (k : Sh (∀ V g, CB V g e cs → Fr w V g → wpList P ops Q rest (a.put dst (.slice (some ⟨g, 0, none⟩) 10 10)) V)) : wpList P ops Q (⟨dst, .buildSlice T 10 #[(0, x0), (1, x1), (2, x2), (3, x3), (4, x4), (5, x5), (6, x6), (7, x7), (8, x8), (9, x9)], ty, pos, aft, none⟩ :: rest) a w :=
  wpList_plain rfl fun K hK => by
    have h : (Instr.buildSlice T 10 ((#[(0, x0), (1, x1), (2, x2), (3, x3), (4, x4), (5, x5), (6, x6), (7, x7), (8, x8), (9, x9)] : Array (Nat × Operand)).map fun (i, x) => (i, a.eval x))).run P w = .ok (.slice (some ⟨w.heap.size, 0, none⟩) 10 10) (w.alloc (.cells cs e)) := by
      have := run_lits (P := P) w T e 10 [(0, v0), (1, v1), (2, v2), (3, v3), (4, v4), (5, v5), (6, v6), (7, v7), (8, v8), (9, v9)] cs hu hi hs0 (by omega) (by omega) hf
      simpa [h0, h1, h2, h3, h4, h5, h6, h7, h8, h9] using this
    unfold Oper.wp execOp
    simp only [Sem.run_bind, Sem.run_pure, Result.andThen_ok, h]
    exact hK _ _ (k.out _ _ (CB.new w e cs) ⟨rfl, le_al _ _⟩)
/-- '==' of messages and of notes. -/
def eqM (n m : Nt) : Bool := (n.mq == m.mq) && (n.mf == m.mf) && (n.mt == m.mt) && (n.me == m.me) && (n.cg.toList == m.cg.toList)
def eqN (n m : Nt) : Bool := (n.kd == m.kd) && (n.mb == m.mb) && (n.tx == m.tx) && (n.ep == m.ep) && (n.vl == m.vl) && eqM n m
theorem tl_inj (c d : ByteArray) : c.toList = d.toList ↔ c = d := by
  rw [ByteArray.toList_eq, ByteArray.toList_eq]
  constructor
  · intro h
    obtain ⟨a⟩ := c
    obtain ⟨b⟩ := d
    have : a = b := by simpa using h
    rw [this]
  · intro h; rw [h]
theorem eqN_iff (n m : Nt) : eqN n m = true ↔ n = m := by
  constructor
  · intro h
    simp only [eqN, eqM, Bool.and_eq_true, beq_iff_eq, tl_inj] at h
    exact Dk.Nt.ext_ h.1.1.1.1.1 h.1.1.1.1.2 h.1.1.1.2 h.1.1.2 h.1.2 h.2.1.1.1.1 h.2.1.1.1.2 h.2.1.1.2 h.2.1.2 h.2.2
  · rintro rfl; simp [eqN, eqM]
theorem eqN_dec (n m : Nt) : eqN n m = true ∨ eqN n m = false := by cases eqN n m <;> simp
theorem eqN_refl (n : Nt) : eqN n n = true := (eqN_iff n n).2 rfl
theorem eqM_refl (n : Nt) : eqM n n = true := by simp [eqM]
theorem eqM_zero (n : Nt) : eqM n zN = decide (NoMsg n) := by
  have hz : n.cg.toList = ByteArray.empty.toList ↔ n.cg.size = 0 := by rw [tl_inj]; simp
  rw [Bool.eq_iff_iff, decide_eq_true_iff]
  simp only [eqM, NoMsg, Bool.and_eq_true, beq_iff_eq, hz, zN]
  omega
set_option maxRecDepth 100000 in
theorem eq_mc (n m : Nt) (d : Nat) (w : World) : (Op.equalIn (d + 2) 68 (.agg (mgA n)) (.agg (mgA m))).run Try.prog w = .ok (eqM n m) w := by
  have u2 := Try.underlying3
  have u3 := Try.underlying5
  have u4 := Try.underlying9
  have hS : Try.prog.underlying 68 = some (.struct (Try.prog.fieldsOf 68)) := by kernel_rfl
  have hp : Try.prog.stoodInHeld 68 = false := by kernel_rfl
  have e2 : ∀ (x y : Int) (V : World), (Op.equalIn (d + 1) 3 (.int .i64 x) (.int .i64 y)).run Try.prog V = .ok (x == y) V := fun x y V => run_equalIn_int V d _ _ _ x y u2
  have e3 : ∀ (x y : Int) (V : World), (Op.equalIn (d + 1) 5 (.int .u8 x) (.int .u8 y)).run Try.prog V = .ok (x == y) V := fun x y V => run_equalIn_int V d _ _ _ x y u3
  have e4 : ∀ (x y : ByteArray) (V : World), (Op.equalIn (d + 1) 9 (.string x) (.string y)).run Try.prog V = .ok (x.toList == y.toList) V := fun x y V => run_equalIn_string V d _ x y u4
  have a2 := Try.isAgg3
  have z2 := Try.sizeOf3
  have a3 := Try.isAgg5
  have z3 := Try.sizeOf5
  have a4 := Try.isAgg9
  have z4 := Try.sizeOf9
  rw [show d + 2 = (d + 1) + 1 from rfl, run_equalIn_agg w (d + 1) 68 _ _ hS hp]
  simp only [Program.fieldsOf, Try.underlying68]
  simp [Op.eqFields, Sem.run_bind, e2, e3, e4, Sem.run_ite, part, a2, z2, a3, z3, a4, z4, mgA, eqM]
  (repeat' split) <;> simp_all
set_option maxRecDepth 100000 in
theorem eq_mr (n m : Nt) (d : Nat) (w : World) : (Op.equalIn (d + 2) 107 (.agg (mgA n)) (.agg (mgA m))).run Try.prog w = .ok (eqM n m) w := by
  have u2 := Try.underlying3
  have u3 := Try.underlying5
  have u4 := Try.underlying9
  have hS : Try.prog.underlying 107 = some (.struct (Try.prog.fieldsOf 107)) := by kernel_rfl
  have hp : Try.prog.stoodInHeld 107 = false := by kernel_rfl
  have e2 : ∀ (x y : Int) (V : World), (Op.equalIn (d + 1) 3 (.int .i64 x) (.int .i64 y)).run Try.prog V = .ok (x == y) V := fun x y V => run_equalIn_int V d _ _ _ x y u2
  have e3 : ∀ (x y : Int) (V : World), (Op.equalIn (d + 1) 5 (.int .u8 x) (.int .u8 y)).run Try.prog V = .ok (x == y) V := fun x y V => run_equalIn_int V d _ _ _ x y u3
  have e4 : ∀ (x y : ByteArray) (V : World), (Op.equalIn (d + 1) 9 (.string x) (.string y)).run Try.prog V = .ok (x.toList == y.toList) V := fun x y V => run_equalIn_string V d _ x y u4
  have a2 := Try.isAgg3
  have z2 := Try.sizeOf3
  have a3 := Try.isAgg5
  have z3 := Try.sizeOf5
  have a4 := Try.isAgg9
  have z4 := Try.sizeOf9
  rw [show d + 2 = (d + 1) + 1 from rfl, run_equalIn_agg w (d + 1) 107 _ _ hS hp]
  simp only [Program.fieldsOf, Try.underlying107]
  simp [Op.eqFields, Sem.run_bind, e2, e3, e4, Sem.run_ite, part, a2, z2, a3, z3, a4, z4, mgA, eqM]
  (repeat' split) <;> simp_all
set_option maxRecDepth 100000 in
theorem eq_nc (n m : Nt) (w : World) : (Op.equalIn 10000 75 (.agg (ntA n)) (.agg (ntA m))).run Try.prog w = .ok (eqN n m) w := by
  have u2 := Try.underlying3
  have u3 := Try.underlying5
  have hS : Try.prog.underlying 75 = some (.struct (Try.prog.fieldsOf 75)) := by kernel_rfl
  have hp : Try.prog.stoodInHeld 75 = false := by kernel_rfl
  have e2 : ∀ (x y : Int) (V : World), (Op.equalIn 9999 3 (.int .i64 x) (.int .i64 y)).run Try.prog V = .ok (x == y) V := fun x y V => run_equalIn_int V 9998 _ _ _ x y u2
  have e3 : ∀ (x y : Int) (V : World), (Op.equalIn 9999 5 (.int .u8 x) (.int .u8 y)).run Try.prog V = .ok (x == y) V := fun x y V => run_equalIn_int V 9998 _ _ _ x y u3
  have e5 := fun V => eq_mc n m 9997 V
  have a2 := Try.isAgg3
  have z2 := Try.sizeOf3
  have a3 := Try.isAgg5
  have z3 := Try.sizeOf5
  have a5 := Try.isAgg68
  have z5 := Try.sizeOf68
  have p1 : ∀ V, (part 68 (ntA n) 5).run Try.prog V = .ok (.agg (mgA n)) V := fun V => by simp [part, a5, z5, Sem.run_bind]; rfl
  have p2 : ∀ V, (part 68 (ntA m) 5).run Try.prog V = .ok (.agg (mgA m)) V := fun V => by simp [part, a5, z5, Sem.run_bind]; rfl
  have q1 : ∀ (n : Nt) V, (part 3 (ntA n) 0).run Try.prog V = .ok (.int .i64 n.kd) V := fun n V => by simp [part, a2, z2, Sem.run_bind, ntA]
  have q2 : ∀ (n : Nt) V, (part 5 (ntA n) 1).run Try.prog V = .ok (.int .u8 n.mb) V := fun n V => by simp [part, a3, z3, Sem.run_bind, ntA]
  have q3 : ∀ (n : Nt) V, (part 3 (ntA n) 2).run Try.prog V = .ok (.int .i64 n.tx) V := fun n V => by simp [part, a2, z2, Sem.run_bind, ntA]
  have q4 : ∀ (n : Nt) V, (part 3 (ntA n) 3).run Try.prog V = .ok (.int .i64 n.ep) V := fun n V => by simp [part, a2, z2, Sem.run_bind, ntA]
  have q5 : ∀ (n : Nt) V, (part 3 (ntA n) 4).run Try.prog V = .ok (.int .i64 n.vl) V := fun n V => by simp [part, a2, z2, Sem.run_bind, ntA]
  rw [show (10000 : Nat) = 9999 + 1 from rfl, run_equalIn_agg w 9999 75 _ _ hS hp]
  simp only [Program.fieldsOf, Try.underlying75]
  simp [Op.eqFields, Sem.run_bind, e2, e3, e5, Sem.run_ite, p1, p2, q1, q2, q3, q4, q5, eqN]
  (repeat' split) <;> simp_all
set_option maxRecDepth 100000 in
theorem eq_nr (n m : Nt) (w : World) : (Op.equalIn 10000 109 (.agg (ntA n)) (.agg (ntA m))).run Try.prog w = .ok (eqN n m) w := by
  have u2 := Try.underlying3
  have u3 := Try.underlying5
  have hS : Try.prog.underlying 109 = some (.struct (Try.prog.fieldsOf 109)) := by kernel_rfl
  have hp : Try.prog.stoodInHeld 109 = false := by kernel_rfl
  have e2 : ∀ (x y : Int) (V : World), (Op.equalIn 9999 3 (.int .i64 x) (.int .i64 y)).run Try.prog V = .ok (x == y) V := fun x y V => run_equalIn_int V 9998 _ _ _ x y u2
  have e3 : ∀ (x y : Int) (V : World), (Op.equalIn 9999 5 (.int .u8 x) (.int .u8 y)).run Try.prog V = .ok (x == y) V := fun x y V => run_equalIn_int V 9998 _ _ _ x y u3
  have e5 := fun V => eq_mr n m 9997 V
  have a2 := Try.isAgg3
  have z2 := Try.sizeOf3
  have a3 := Try.isAgg5
  have z3 := Try.sizeOf5
  have a5 := Try.isAgg107
  have z5 := Try.sizeOf107
  have p1 : ∀ V, (part 107 (ntA n) 5).run Try.prog V = .ok (.agg (mgA n)) V := fun V => by simp [part, a5, z5, Sem.run_bind]; rfl
  have p2 : ∀ V, (part 107 (ntA m) 5).run Try.prog V = .ok (.agg (mgA m)) V := fun V => by simp [part, a5, z5, Sem.run_bind]; rfl
  have q1 : ∀ (n : Nt) V, (part 3 (ntA n) 0).run Try.prog V = .ok (.int .i64 n.kd) V := fun n V => by simp [part, a2, z2, Sem.run_bind, ntA]
  have q2 : ∀ (n : Nt) V, (part 5 (ntA n) 1).run Try.prog V = .ok (.int .u8 n.mb) V := fun n V => by simp [part, a3, z3, Sem.run_bind, ntA]
  have q3 : ∀ (n : Nt) V, (part 3 (ntA n) 2).run Try.prog V = .ok (.int .i64 n.tx) V := fun n V => by simp [part, a2, z2, Sem.run_bind, ntA]
  have q4 : ∀ (n : Nt) V, (part 3 (ntA n) 3).run Try.prog V = .ok (.int .i64 n.ep) V := fun n V => by simp [part, a2, z2, Sem.run_bind, ntA]
  have q5 : ∀ (n : Nt) V, (part 3 (ntA n) 4).run Try.prog V = .ok (.int .i64 n.vl) V := fun n V => by simp [part, a2, z2, Sem.run_bind, ntA]
  rw [show (10000 : Nat) = 9999 + 1 from rfl, run_equalIn_agg w 9999 109 _ _ hS hp]
  simp only [Program.fieldsOf, Try.underlying109]
  simp [Op.eqFields, Sem.run_bind, e2, e3, e5, Sem.run_ite, p1, p2, q1, q2, q3, q4, q5, eqN]
  (repeat' split) <;> simp_all
theorem lit_zc : (Try.prog.info? 96).map (fun i => (i.zero, i.size)) = some (some (.agg #[.int .u64 0, .string ⟨#[]⟩]), 2) := by kernel_rfl
theorem lit_zi : (Try.prog.info? 3).map (fun i => (i.zero, i.size)) = some (some (.int .i64 0), 1) := by kernel_rfl
theorem fill_vals (v0 v1 v2 v3 v4 v5 v6 v7 v8 v9 : Dk.CV) : Instr.fill (fun i => some (i * 2, 2)) ((Array.range (10 * 2)).map ((Value.agg #[.int .u64 0, .string ⟨#[]⟩]).cells[· % (Value.agg #[.int .u64 0, .string ⟨#[]⟩]).cells.size]!)) [(0, .agg (vcl v0).toArray), (1, .agg (vcl v1).toArray), (2, .agg (vcl v2).toArray), (3, .agg (vcl v3).toArray), (4, .agg (vcl v4).toArray), (5, .agg (vcl v5).toArray), (6, .agg (vcl v6).toArray), (7, .agg (vcl v7).toArray), (8, .agg (vcl v8).toArray), (9, .agg (vcl v9).toArray)] = some (rc vcl [v0, v1, v2, v3, v4, v5, v6, v7, v8, v9]).toArray := by kernel_rfl
theorem fill_ints (a b c d e f g h i : Int) : Instr.fill (fun i => some (i * 1, 1)) ((Array.range (9 * 1)).map ((Value.int .i64 0).cells[· % (Value.int .i64 0).cells.size]!)) [(0, .int .i64 a), (1, .int .i64 b), (2, .int .i64 c), (3, .int .i64 d), (4, .int .i64 e), (5, .int .i64 f), (6, .int .i64 g), (7, .int .i64 h), (8, .int .i64 i)] = some (rc icl [a, b, c, d, e, f, g, h, i]).toArray := by kernel_rfl
/-- The block of a slice literal as a slice. -/
theorem RR.of_cb {α : Type} {c : α → List Value} {s : Nat} [Nonempty (EncOk c s)] {W : World} {T : TypeId} {g : Nat} {L : List α} {n : Nat} (h : CB W g T (rc c L).toArray) (hn : L.length = n) (hc : n ≤ maxLen) : SO g W T c s (some ⟨g, 0, none⟩) n n L (some g) := by
  obtain ⟨enc⟩ := (inferInstance : Nonempty (EncOk c s))
  have hl : (rc c L).length = n * s := by rw [rc_length s, hn]
  refine ⟨⟨?_, Nat.le_refl _, hc, .inr ⟨g, 0, _, rfl, rfl, h, ?_, fun j u hu => ?_⟩⟩, fun g' e => by cases e; exact Nat.le_refl _⟩
  · exact hl
  · simp [hl]
  · simpa using hu
end Go.Proofs.Ytfdboahcaiolgaa
