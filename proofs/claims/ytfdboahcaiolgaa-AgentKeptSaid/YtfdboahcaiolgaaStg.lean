/-
  Steps of a walk, still more, for any program: make; an append with room, one beyond the room, one of zeros beyond the room; a copy into a slice of a call's own; a literal of two things. No condition but what each theorem names.
-/
import Derived.Test.YtfdboahcaiolgaaAqNa
import Derived.Lib.AppendZeros
import Derived.ArgAppend
set_option linter.unusedVariables false
set_option linter.unusedSimpArgs false
set_option linter.unusedSectionVars false
namespace Go.Proofs.Ytfdboahcaiolgaa
open Go.RowKit

section
variable {P : Program} {ops : Array Oper} {rest : List Oper} {dst : Option Tmp} {ty : TypeId} {pos : String} {aft : Array Edge} {a : Act} {w : World} {Q : Exit → Act → World → Prop}
theorem st_make {α : Type} {c : α → List Value} {s : Nat} [Nonempty (EncOk c s)] (T e : TypeId) (x y : Operand) (n : Nat) (hx : a.eval x = .int .i64 0) (hy : a.eval y = .int .i64 (n : Int)) {z : Value} {bytes : Nat} (hu : P.underlying T = some (.slice e)) (hi : (P.info? e).map (fun i => (i.zero, i.size, i.bytes)) = some (some z, s, bytes)) (hb : bytes * n ≤ 281474976710656) (h63 : n ≤ maxLen)
    (k : Sh (∀ V g, SO g V e c s (some ⟨g, 0, none⟩) 0 n [] (some g) → Fr w V g → wpList P ops Q rest (a.put dst (.slice (some ⟨g, 0, none⟩) 0 n)) V)) : wpList P ops Q (⟨dst, .makeSlice T x y, ty, pos, aft, none⟩ :: rest) a w := by
  obtain ⟨i0, hi0, hz0, hz1, hz2⟩ := parts_of hi
  obtain ⟨w', hrun, hs, hg⟩ := run_make_seg (P := P) w T e i0 z s hu hi0 hz0 hz1 n (by rw [hz2]; exact hb) h63
  refine wpList_plain rfl fun K hK => ?_
  unfold Oper.wp execOp
  simp only [hx, hy, Sem.run_bind, Sem.run_pure, Result.andThen_ok, hrun]
  exact hK _ _ (k.out _ _ ⟨hs, fun g e => by cases e; exact Nat.le_refl _⟩ ⟨rfl, grown_below hg (Nat.le_refl _) (fun g e => by cases e)⟩)
end
section
variable {P : Program} (w : World)
theorem run_append_room_seg (t ty e : TypeId) (i : TypeInfo) (size : Nat) (ht : P.underlying t = some (.slice e)) (hi : P.info? e = some i) (hsize : i.size = size)
    {A : Option Addr} {n c : Nat} {xs : List Value} {G : Option Nat} (h : Seg w e size A n c xs G)
    {As : Option Addr} {m : Nat} (k : Nat) {news : List Value} (hsrc : Src w size As m news) (h1 : ∀ u ∈ news, u.oneCell' = true) (hm : 0 < m) (hr : n + m ≤ c) :
    ∃ w', (Builtin.append_ #[t, t] ty #[.slice A n c, .slice As m k]).run P w = .ok (.slice A (n + m) c) w' ∧ Seg w' e size A (n + m) c (xs ++ news) G ∧ w.grownBy w' G := by
  have hlen := h.1
  have hcm := h.2.2.1
  obtain ⟨ad, rfl, hnews⟩ := hsrc.2 hm
  have hl := hsrc.1
  rcases h.2.2.2 with ⟨rfl, rfl, rfl⟩ | ⟨g, off, cur, rfl, rfl, hb, hfit, hcells⟩
  · omega
  · subst hsize
    have hroom : off + n * i.size + news.length ≤ cur.size := by
      have : (n + m) * i.size ≤ c * i.size := Nat.mul_le_mul_right _ hr
      rw [Nat.add_mul] at this
      omega
    have hrun := run_append_room_cells (P := P) w t ty e i ht hi g off n c ad m k news hl hnews h1 hr (fun j hj => by rw [hb.cell]; rw [Array.getElem?_eq_getElem (by omega)]; rfl) (fun j _ => hb.frozen _)
    obtain ⟨cs', k1, k2, k3, k4⟩ := hb.puts news (off + n * i.size) hroom
    refine ⟨_, hrun, ⟨by rw [List.length_append, hlen, hl, Nat.add_mul], hr, hcm, .inr ⟨g, off, cs', rfl, rfl, k1, by rw [k2]; exact hfit, fun j u hu => ?_⟩⟩, ?_⟩
    · by_cases hj : j < xs.length
      · rw [List.getElem?_append_left hj] at hu
        rw [k4 _ (by omega)]
        exact hcells j u hu
      · rw [List.getElem?_append_right (by omega)] at hu
        have hjl : j - xs.length < news.length := (List.getElem?_eq_some_iff.1 hu).1
        have := k3 (j - xs.length) hjl
        rw [show off + n * i.size + (j - xs.length) = off + j by omega] at this
        rw [this]
        exact hu
    · exact setCells_grown g news _ w
/-- An append beyond the room: a block of its own. -/
theorem run_append_full (t ty e : TypeId) (i : TypeInfo) (z : Value) (size bytes : Nat) (ht : P.underlying t = some (.slice e)) (hi : P.info? e = some i) (hz : i.zero = some z)
    (hsize : i.size = size) (hby : i.bytes = bytes) (hzs : z.cells.size = size) (hsz : 0 < size)
    {A : Option Addr} {n c : Nat} {xs : List Value} {G : Option Nat} (h : Seg w e size A n c xs G)
    {As : Option Addr} {m : Nat} (k : Nat) {news : List Value} (hsrc : Src w size As m news) (h1 : ∀ u ∈ news, u.oneCell' = true) (hm : 0 < m)
    (hf : c < n + m) (h63 : n + m ≤ maxLen) (hbytes : (n + m) * bytes ≤ 140737488355328) :
    ∃ A' c' G' w', (Builtin.append_ #[t, t] ty #[.slice A n c, .slice As m k]).run P w = .ok (.slice A' (n + m) c') w' ∧ Seg w' e size A' (n + m) c' (xs ++ news) G' ∧ Below w.heap.size w w' ∧ (∀ g, G' = some g → w.heap.size ≤ g) := by
  have hlen := h.1
  obtain ⟨ad, rfl, hnews⟩ := hsrc.2 hm
  have hl := hsrc.1
  rcases h.2.2.2 with ⟨rfl, rfl, rfl⟩ | ⟨g, off, cur, rfl, rfl, hb, hfit, hcells⟩
  · obtain rfl : n = 0 := by have := h.2.1; omega
    obtain rfl : xs = [] := List.eq_nil_of_length_eq_zero (by simpa using hlen)
    obtain ⟨v', w', hrun, r1, r2, _⟩ := run_append_own (P := P) w w.heap.size t ty e i z size bytes ht hi hz hsize hby hzs hsz (.slice none 0 0) 0 [] (World.ownsRow_nil w _ e size) ad m k news hl hnews h1 h63 hbytes (Nat.le_refl _)
    obtain ⟨g, c', rfl, hg, hs⟩ := Seg.of_own r1 (by omega)
    exact ⟨_, c', some g, w', hrun, hs, grown_below r2 (Nat.le_refl _) (fun g e => by cases e), fun g' e => by cases e; exact hg⟩
  · obtain ⟨v', w', hrun, r1, r2⟩ := run_append_arg_grows (P := P) w t ty e i z size bytes ht hi hz hsize hby hzs hsz ⟨g, off, none⟩ n c xs hlen (fun j u hj => by rw [Addr.add_lit, hb.cell]; exact hcells j u hj) ad m k news hl hnews hf h63 hbytes
    obtain ⟨g', c', rfl, hg, hs⟩ := Seg.of_own r1 (by omega)
    exact ⟨_, c', some g', w', hrun, hs, grown_below r2 (Nat.le_refl _) (fun g e => by cases e), fun g' e => by cases e; exact hg⟩
/-- .. of m zeros. -/
theorem run_append_zeros_full (t tn ty e : TypeId) (i : TypeInfo) (z : Value) (size bytes : Nat) (ht : P.underlying t = some (.slice e)) (htn : P.underlying tn = some (.int .i64)) (hi : P.info? e = some i) (hz : i.zero = some z)
    (hsize : i.size = size) (hby : i.bytes = bytes) (hzs : z.cells.size = size) (hsz : 0 < size)
    {A : Option Addr} {n c : Nat} {xs : List Value} {G : Option Nat} (h : Seg w e size A n c xs G) (m : Nat) (hm : 0 < m)
    (hf : c < n + m) (h63 : n + m ≤ maxLen) (hbytes : (n + m) * bytes ≤ 140737488355328) :
    ∃ A' c' G' w', (Builtin.append_ #[t, tn] ty #[.slice A n c, .int .i64 (m : Int)]).run P w = .ok (.slice A' (n + m) c') w' ∧ Seg w' e size A' (n + m) c' (xs ++ (Builtin.zeroCells z.cells m).toList) G' ∧ Below w.heap.size w w' ∧ (∀ g, G' = some g → w.heap.size ≤ g) := by
  subst hsize hby
  have hlen := h.1
  have hsmall : n + m ≤ 9223372036854775807 := by simp only [maxLen] at h63; omega
  have hw : IntKind.i64.wrap (m : Int) = m := by rw [IntKind.wrap_i64]; omega
  have hneg : ¬ ((m : Int) < 0) := by omega
  have hn : ¬ (n + m ≤ c) := by omega
  have h63' : ¬ (9223372036854775807 < ((n : Int) + (m : Int))) := by omega
  have hns : ¬ (m * i.size = 0) := Nat.mul_ne_zero (by omega) (by omega)
  have h48' : ¬ (281474976710656 < Builtin.nextslicecap (n + m) c * i.bytes) := by have := growslice_fits hf hbytes; omega
  have h48i : ¬ (281474976710656 < (m : Int) * (i.bytes : Int)) := by
    rw [← Int.natCast_mul]
    have := Nat.mul_le_mul_right i.bytes (show m ≤ n + m by omega)
    omega
  have hge := grownCap_ge w (n + m) c e
  have hcm : grownCap w (n + m) c e ≤ maxLen := grownCap_le_maxLen w (n + m) c e h63
  have hfo : (Builtin.firstCells i.size n (.slice A n c)).run P w.drew = .ok xs.toArray w.drew := by
    rcases h.2.2.2 with ⟨rfl, rfl, rfl⟩ | ⟨g, off, cur, rfl, rfl, hb, hfit, hcells⟩
    · obtain rfl : n = 0 := by have := h.2.1; omega
      obtain rfl : xs = [] := List.eq_nil_of_length_eq_zero (by simpa using hlen)
      exact run_firstCells_none w.drew _ _ _ _
    · exact run_firstCells_some (P := P) w.drew i.size n ⟨g, off, none⟩ n c xs hlen (fun j u hj => by rw [Addr.add_lit]; exact (CB.cell (CB.drew hb) _).trans (hcells j u hj))
  refine ⟨some ⟨w.heap.size, 0, none⟩, grownCap w (n + m) c e, some w.heap.size, w.drew.alloc (.cells (xs.toArray ++ Builtin.zeroCells z.cells m ++ Builtin.zeroCells z.cells (grownCap w (n + m) c e - (n + m))) e), ?_, ⟨?_, hge, hcm, .inr ⟨_, 0, _, rfl, rfl, CB.new w.drew e _, ?_, ?_⟩⟩, ?_, fun g e => by cases e; exact Nat.le_refl _⟩
  · have hn2 : ¬ m = 0 := by omega
    have hs2 : ¬ i.size = 0 := by omega
    simp [Builtin.append_, run_underlying ht, run_underlying htn, sizeOf, typeInfo, zeroValue, hi, hz, asInt, asIntOf, hw, hneg, hn, hn2, hs2, hns, h63', h48', h48i, Question.forced, hfo, newRow, grownCap]
  · simp only [List.length_append, Array.length_toList, size_zeroCells, hlen, hzs]
    rw [Nat.add_mul]
  · simp only [Array.size_append, List.size_toArray, size_zeroCells, hzs, hlen, ← Nat.add_mul]
    rw [show n + m + (grownCap w (n + m) c e - (n + m)) = grownCap w (n + m) c e by omega]
    omega
  · intro j u hu
    have hj := (List.getElem?_eq_some_iff.1 hu).1
    simp only [List.length_append, Array.length_toList] at hj
    rw [Nat.zero_add, Array.getElem?_append_left (by simpa using hj), ← hu]
    rw [← Array.getElem?_toList, Array.toList_append]
  · exact ⟨rfl, rfl, rfl, by simp, fun k hk => Below.heap_alloc w.drew _ k hk⟩
/-- A copy of m elements into a slice of a call's own, from its k-th on. -/
theorem run_copy_into (t e : TypeId) (i : TypeInfo) (size : Nat) (ht : P.underlying t = some (.slice e)) (hi : P.info? e = some i) (hsize : i.size = size)
    {A : Option Addr} {n c : Nat} {xs : List Value} {G : Option Nat} (h : Seg w e size A n c xs G) (k m : Nat) (hm : 0 < m) (hk : k + m ≤ n)
    {As : Option Addr} {news : List Value} (hsrc : Src w size As m news) (h1 : ∀ u ∈ news, u.oneCell' = true) :
    ∃ w', (∀ ty m1 m2, (Builtin.copy_ #[t, t] ty #[.slice (if c = k then A else A.map (·.add (k * size))) (n - k) m1, .slice As m m2]).run P w = .ok (goInt m) w') ∧
      Seg w' e size A n c (xs.take (k * size) ++ news ++ xs.drop ((k + m) * size)) G ∧ w.grownBy w' G := by
  subst hsize
  have hlen := h.1
  have hnc := h.2.1
  have e5 : n * i.size ≤ c * i.size := Nat.mul_le_mul_right _ hnc
  have e6 : (k + m) * i.size ≤ n * i.size := Nat.mul_le_mul_right _ hk
  have e7 : (k + m) * i.size = k * i.size + m * i.size := Nat.add_mul _ _ _
  obtain ⟨ad, rfl, hnews⟩ := hsrc.2 hm
  have hl := hsrc.1
  rcases h.2.2.2 with ⟨rfl, rfl, rfl⟩ | ⟨g, off, cur, rfl, rfl, hb, hfit, hcells⟩
  · omega
  · obtain ⟨cs', k1, k2, k3, k4⟩ := hb.puts news (off + k * i.size) (by omega)
    have hst := run_storeCells_cells (P := P) g (off + k * i.size) news 0 w (fun j hj => by rw [hb.cell, Array.getElem?_eq_getElem (by omega)]; rfl) (fun j _ => hb.frozen _) h1
    simp only [Nat.add_zero] at hst
    have hmin : Nat.min m (n - k) = m := Nat.min_eq_left (by omega)
    refine ⟨_, fun ty m1 m2 => ?_, ⟨?_, hnc, h.2.2.1, .inr ⟨g, off, cs', rfl, rfl, k1, by rw [k2]; exact hfit, fun j u hu => ?_⟩⟩, setCells_grown g _ _ w⟩
    · rw [if_neg (by omega : ¬ c = k)]
      have hfc := run_firstCells_some (P := P) w i.size m ad m m2 news hl hnews
      simp [Builtin.copy_, run_underlying ht, sizeOf, typeInfo, hi, Builtin.lenOf, Addr.add_lit, hmin, hfc, hst]
    · rw [List.length_append, List.length_append, List.length_take, List.length_drop, hlen]
      omega
    · by_cases j1 : j < k * i.size
      · rw [List.append_assoc, List.getElem?_append_left (by rw [List.length_take, hlen]; omega), List.getElem?_take_of_lt j1] at hu
        rw [k4 _ (by omega)]
        exact hcells j u hu
      · by_cases j2 : j < (k + m) * i.size
        · rw [List.getElem?_append_left (by rw [List.length_append, List.length_take, hlen]; omega), List.getElem?_append_right (by rw [List.length_take, hlen]; omega), List.length_take, hlen, Nat.min_eq_left (by omega)] at hu
          have := k3 (j - k * i.size) (by omega)
          rw [show off + k * i.size + (j - k * i.size) = off + j by omega] at this
          rw [this]
          exact hu
        · rw [List.getElem?_append_right (by rw [List.length_append, List.length_take, hlen]; omega), List.getElem?_drop, List.length_append, List.length_take, hlen] at hu
          rw [show (k + m) * i.size + (j - (min (k * i.size) (n * i.size) + news.length)) = j by omega] at hu
          rw [k4 _ (by omega)]
          exact hcells j u hu
end
theorem grown_wr {w V : World} {g : Nat} (h : w.grownBy V (some g)) (hg : g < w.heap.size) (hs : V.heap.size = w.heap.size) (hx : ∀ i, w.heap.size ≤ i → V.heap[i]? = w.heap[i]?) : Wr w V g :=
  ⟨hg, hs, fun b hb => by
    by_cases hlt : b < w.heap.size
    · exact h.block b hlt (fun e => hb (by cases e; rfl))
    · exact hx b (by omega), fun B a ha hB => ha.trans ⟨h.os, h.tape, h.output, by omega, fun i hi => by
    by_cases hlt : i < w.heap.size
    · exact h.block i hlt (fun e => by cases e; omega)
    · exact hx i (by omega)⟩⟩
section
variable {P : Program} {ops : Array Oper} {rest : List Oper} {dst : Option Tmp} {ty : TypeId} {pos : String} {aft : Array Edge} {a : Act} {w : World} {Q : Exit → Act → World → Prop}
/-- A builtin whose run is known. -/
theorem st_copyrun (d x : Operand) (t : TypeId) (vd vx v' : Value) (w' : World) (hd : a.eval d = vd) (hx : a.eval x = vx) (hr : (Builtin.copy_ #[t, t] ty #[vd, vx]).run P w = .ok v' w')
    (k : Sh (wpList P ops Q rest (a.put dst v') w')) : wpList P ops Q (⟨dst, .call { callee := .builtin .copy, args := #[d, x], argTypes := #[t, t] }, ty, pos, aft, none⟩ :: rest) a w := by
  refine wpList_plain rfl fun K hK => ?_
  unfold Oper.wp execOp
  simp only [resolve, invoke, builtin, Sem.run_bind, Sem.run_pure, Result.andThen_ok, List.map_toArray, List.map_cons, List.map_nil, hd, hx, hr]
  exact hK _ _ k.out
theorem st_apprun (d x : Operand) (t u : TypeId) (vd vx v' : Value) (w' : World) (hd : a.eval d = vd) (hx : a.eval x = vx) (hr : (Builtin.append_ #[t, u] ty #[vd, vx]).run P w = .ok v' w')
    (k : Sh (wpList P ops Q rest (a.put dst v') w')) : wpList P ops Q (⟨dst, .call { callee := .builtin .append, args := #[d, x], argTypes := #[t, u] }, ty, pos, aft, none⟩ :: rest) a w := by
  refine wpList_plain rfl fun K hK => ?_
  unfold Oper.wp execOp
  simp only [resolve, invoke, builtin, Sem.run_bind, Sem.run_pure, Result.andThen_ok, List.map_toArray, List.map_cons, List.map_nil, hd, hx, hr]
  exact hK _ _ k.out
/-- A slice literal of two things. -/
theorem st_lits2 (T e : TypeId) {x0 x1 : Operand} {v0 v1 : Value} (cs : Array Value) (h0 : a.eval x0 = v0) (h1 : a.eval x1 = v1) {z : Value} {s : Nat} (hu : P.underlying T = some (.slice e)) (hi : (P.info? e).map (fun i => (i.zero, i.size)) = some (some z, s)) (hs0 : 0 < s) (hs1 : s ≤ 1000)
    (hf : Instr.fill (fun i => some (i * s, s)) ((Array.range (2 * s)).map (z.cells[· % z.cells.size]!)) [(0, v0), (1, v1)] = some cs)
    (k : Sh (∀ V g, CB V g e cs → Fr w V g → wpList P ops Q rest (a.put dst (.slice (some ⟨g, 0, none⟩) 2 2)) V)) : wpList P ops Q (⟨dst, .buildSlice T 2 #[(0, x0), (1, x1)], ty, pos, aft, none⟩ :: rest) a w :=
  wpList_plain rfl fun K hK => by
    have h : (Instr.buildSlice T 2 ((#[(0, x0), (1, x1)] : Array (Nat × Operand)).map fun (i, x) => (i, a.eval x))).run P w = .ok (.slice (some ⟨w.heap.size, 0, none⟩) 2 2) (w.alloc (.cells cs e)) := by
      have := run_lits (P := P) w T e 2 [(0, v0), (1, v1)] cs hu hi hs0 (by omega) (by omega) hf
      simpa [h0, h1] using this
    unfold Oper.wp execOp
    simp only [Sem.run_bind, Sem.run_pure, Result.andThen_ok, h]
    exact hK _ _ (k.out _ _ (CB.new w e cs) ⟨rfl, le_al _ _⟩)
end
section
variable {P : Program} {ops : Array Oper} {o : Oper} {a : Act} {w : World} {K : Act → World → Prop} {Q : Exit → Act → World → Prop}
theorem rd_lits2 (hgd : o.guard = none) (T e : TypeId) {x0 x1 : Operand} (ho : o.op = .buildSlice T 2 #[(0, x0), (1, x1)]) (d : Option Tmp) (hd : o.dst = d) {v0 v1 : Value} (cs : Array Value) (h0 : a.eval x0 = v0) (h1 : a.eval x1 = v1) {z : Value} {s : Nat} (hu : P.underlying T = some (.slice e)) (hi : (P.info? e).map (fun i => (i.zero, i.size)) = some (some z, s)) (hs0 : 0 < s) (hs1 : s ≤ 1000)
    (hf : Instr.fill (fun i => some (i * s, s)) ((Array.range (2 * s)).map (z.cells[· % z.cells.size]!)) [(0, v0), (1, v1)] = some cs)
    (k : Sh (∀ V g, CB V g e cs → Fr w V g → K (a.put d (.slice (some ⟨g, 0, none⟩) 2 2)) V)) : if Region.wanted o (yielded ops a.tmps) = true then Oper.wp P o a w K Q else K (a.put o.dst undef) w := by
  subst hd
  rw [if_pos (by simp [Region.wanted, hgd])]
  have h : (Instr.buildSlice T 2 ((#[(0, x0), (1, x1)] : Array (Nat × Operand)).map fun (i, x) => (i, a.eval x))).run P w = .ok (.slice (some ⟨w.heap.size, 0, none⟩) 2 2) (w.alloc (.cells cs e)) := by
    have := run_lits (P := P) w T e 2 [(0, v0), (1, v1)] cs hu hi hs0 (by omega) (by omega) hf
    simpa [h0, h1] using this
  unfold Oper.wp execOp
  simp only [ho, Sem.run_bind, Sem.run_pure, Result.andThen_ok, h]
  exact k.out _ _ (CB.new w e cs) ⟨rfl, le_al _ _⟩
theorem rd_copyrun (hgd : o.guard = none) (dd x : Operand) (t : TypeId) (ho : o.op = .call { callee := .builtin .copy, args := #[dd, x], argTypes := #[t, t] }) (d : Option Tmp) (hd : o.dst = d) (vd vx v' : Value) (w' : World) (hdd : a.eval dd = vd) (hx : a.eval x = vx) (hr : ∀ ty, (Builtin.copy_ #[t, t] ty #[vd, vx]).run P w = .ok v' w')
    (k : Sh (K (a.put d v') w')) : if Region.wanted o (yielded ops a.tmps) = true then Oper.wp P o a w K Q else K (a.put o.dst undef) w := by
  subst hd
  rw [if_pos (by simp [Region.wanted, hgd])]
  unfold Oper.wp execOp
  simp only [ho, resolve, invoke, builtin, Sem.run_bind, Sem.run_pure, Result.andThen_ok, List.map_toArray, List.map_cons, List.map_nil, hdd, hx, hr]
  exact k.out
end
theorem Src.box2 {w : World} {g : Nat} {T : TypeId} {cs : Array Value} (h : CB w g T cs) {s : Nat} (hs : cs.size = 2 * s) : Src w s (some ⟨g, 0, none⟩) 2 cs.toList :=
  ⟨by simp [hs], fun _ => ⟨_, rfl, fun j u hu => by rw [Addr.add_lit, Nat.zero_add, h.cell j]; simpa using hu⟩⟩
end Go.Proofs.Ytfdboahcaiolgaa
