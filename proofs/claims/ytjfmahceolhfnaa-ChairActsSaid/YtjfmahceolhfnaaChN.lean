/-
  Steps of a walk, more: a slice literal of one struct, of none, a load, an append, in order or in a region that draws its order. No condition but what each theorem names.
-/
import Derived.Test.YtjfmahceolhfnaaChK
set_option linter.unusedVariables false
set_option linter.unusedSimpArgs false
namespace Go.Proofs.Ytjfmahceolhfnaa
open Go.RowKit

theorem fold_at : ∀ (l : List Value) (k : Nat) (acc : Array Value) (j : Nat), k + l.length ≤ acc.size →
    ((l.zipIdx k).foldl (fun (cs : Array Value) (p : Value × Nat) => cs.setIfInBounds (0 + p.2) p.1) acc)[j]? = if k ≤ j ∧ j < k + l.length then l[j - k]? else acc[j]?
  | [], k, acc, j, h => by
    have : ¬ (k ≤ j ∧ j < k + ([] : List Value).length) := by simp
    rw [if_neg this]
    rfl
  | x :: l, k, acc, j, h => by
    simp only [List.length_cons] at h
    rw [List.zipIdx_cons, List.foldl_cons, fold_at l (k + 1) _ j (by simp; omega)]
    by_cases h1 : k + 1 ≤ j ∧ j < k + 1 + l.length
    · rw [if_pos h1, if_pos (by simp only [List.length_cons]; omega), show j - k = (j - (k + 1)) + 1 by omega, List.getElem?_cons_succ]
    · rw [if_neg h1]
      by_cases h2 : j = k
      · subst h2
        rw [if_pos (by simp only [List.length_cons]; omega)]
        simp [show j < acc.size by omega]
      · rw [if_neg (by simp only [List.length_cons]; omega), Array.getElem?_setIfInBounds_ne (by simp; omega)]
theorem fold_put (cs base : Array Value) (h : base.size = cs.size) : cs.zipIdx.foldl (fun (acc : Array Value) (p : Value × Nat) => acc.setIfInBounds (0 + p.2) p.1) base = cs := by
  rw [← Array.foldl_toList, Array.toList_zipIdx]
  apply Array.ext_getElem?
  intro j
  have := fold_at cs.toList 0 base j (by simp [h])
  simp only [Nat.zero_add, Nat.sub_zero, Nat.zero_le, true_and, Array.length_toList] at this ⊢
  rw [this]
  split
  · simp
  · rw [Array.getElem?_eq_none (by omega), Array.getElem?_eq_none (by omega)]
/-- A slice literal of one struct. -/
theorem run_lit1 {P : Program} (w : World) (T e : TypeId) (cs : Array Value) {z : Value} {s : Nat} (hu : P.underlying T = some (.slice e)) (hi : (P.info? e).map (fun i => (i.zero, i.size)) = some (some z, s)) (hs : cs.size = s) (h0 : 0 < s) (h1 : s ≤ 1000) :
    (Instr.buildSlice T 1 #[(0, .agg cs)]).run P w = .ok (.slice (some ⟨w.heap.size, 0, none⟩) 1 1) (w.alloc (.cells cs e)) := by
  cases hq : P.info? e with
  | none => rw [hq] at hi; cases hi
  | some ie =>
    rw [hq] at hi
    simp at hi
    have hz : ie.zero = some z := hi.1
    have hsz : ie.size = s := hi.2
    have hf : Instr.fill (fun i => some (i * s, s)) ((Array.range (1 * s)).map (z.cells[· % z.cells.size]!)) [(0, .agg cs)] = some cs := by
      unfold Instr.fill
      have hc : (Value.agg cs).cells = cs := rfl
      simp only [Nat.zero_mul]
      rw [hc, if_neg (by simp [hs])]
      unfold Instr.fill
      exact congrArg some (fold_put cs ((Array.range (1 * s)).map (z.cells[· % z.cells.size]!)) (by simp [hs]))
    simp only [Nat.one_mul] at hf
    have hg : ¬ s > 16777216 := by omega
    have hne : ¬ s = 0 := by omega
    simp [Instr.buildSlice, run_underlying hu, sizeOf, typeInfo, zeroValue, hq, hz, hsz, hf, newRow, hg, hne]
/-- .. of none. -/
theorem run_lit0 {P : Program} (w : World) (T e : TypeId) {z : Value} {s : Nat} (hu : P.underlying T = some (.slice e)) (hi : (P.info? e).map (fun i => (i.zero, i.size)) = some (some z, s)) :
    (Instr.buildSlice T 0 #[]).run P w = .ok (.slice (some ⟨w.heap.size, 0, none⟩) 0 0) (w.alloc (.cells #[] e)) := by
  cases hq : P.info? e with
  | none => rw [hq] at hi; cases hi
  | some ie =>
    rw [hq] at hi
    simp at hi
    simp [Instr.buildSlice, run_underlying hu, sizeOf, typeInfo, zeroValue, hq, hi.1, hi.2, newRow, Instr.fill]
    have e0 : Array.map (fun _ : Nat => (default : Value)) (Array.range 0) = #[] := Array.eq_empty_of_size_eq_zero (by simp)
    rw [e0]
section
variable {P : Program} {ops : Array Oper} {o : Oper} {a : Act} {w : World} {K : Act → World → Prop} {Q : Exit → Act → World → Prop}
theorem rd_lit1 (hgd : o.guard = none) (T e : TypeId) (x : Operand) (ho : o.op = .buildSlice T 1 #[(0, x)]) (d : Option Tmp) (hd : o.dst = d) (cs : Array Value) (hx : a.eval x = .agg cs) {z : Value} {s : Nat} (hu : P.underlying T = some (.slice e)) (hi : (P.info? e).map (fun i => (i.zero, i.size)) = some (some z, s)) (hs : cs.size = s) (h0 : 0 < s) (h1 : s ≤ 1000)
    (k : Sh (∀ V g, CB V g e cs → Fr w V g → K (a.put d (.slice (some ⟨g, 0, none⟩) 1 1)) V)) : if Region.wanted o (yielded ops a.tmps) = true then Oper.wp P o a w K Q else K (a.put o.dst undef) w := by
  subst hd
  rw [if_pos (by simp [Region.wanted, hgd])]
  have h : (Instr.buildSlice T 1 ((#[(0, x)] : Array (Nat × Operand)).map fun (i, x) => (i, a.eval x))).run P w = .ok (.slice (some ⟨w.heap.size, 0, none⟩) 1 1) (w.alloc (.cells cs e)) := by
    have := run_lit1 (P := P) w T e cs hu hi hs h0 h1
    simpa [hx] using this
  unfold Oper.wp execOp
  simp only [ho, Sem.run_bind, Sem.run_pure, Result.andThen_ok, h]
  exact k.out _ _ (CB.new w e cs) ⟨rfl, le_al _ _⟩
theorem rd_load (hgd : o.guard = none) (T : TypeId) (x : Operand) (ho : o.op = .load T x) (d : Option Tmp) (hd : o.dst = d) (v : Value) (g i : Nat) (hx : a.eval x = .pointer (some ⟨g, i, none⟩)) (hrun : (loadVar T ⟨g, i, none⟩).run P w = .ok v w) (k : Sh (K (a.put d v) w)) : if Region.wanted o (yielded ops a.tmps) = true then Oper.wp P o a w K Q else K (a.put o.dst undef) w := by
  subst hd
  rw [if_pos (by simp [Region.wanted, hgd])]
  unfold Oper.wp execOp
  simp only [ho, hx, Instr.loadAt, Instr.sureAddr, Sem.run_bind, Sem.run_pure, Result.andThen_ok, hrun]
  exact k.out
theorem rd_app (hgd : o.guard = none) (s x : Operand) (t : TypeId) (ho : o.op = .call { callee := .builtin .append, args := #[s, x], argTypes := #[t, t] }) (d : Option Tmp) (hd : o.dst = d)
    (e : TypeId) {z : Value} {size bytes : Nat} (ht : P.underlying t = some (.slice e)) (hi : (P.info? e).map (fun i => (i.zero, i.size, i.bytes)) = some (some z, size, bytes)) (hzs : z.cells.size = size) (hsz : 0 < size)
    {A : Option Addr} {n c : Nat} {xs : List Value} {G : Option Nat} (hs : a.eval s = .slice A n c) (hseg : Seg w e size A n c xs G)
    {As : Option Addr} {m k : Nat} {news : List Value} (hx : a.eval x = .slice As m k) (hsrc : Src w size As m news) (h1 : ∀ u ∈ news, u.oneCell' = true)
    (h63 : n + m ≤ maxLen) (hbytes : (n + m) * bytes ≤ 140737488355328) (N : Nat) (hN : n + m = N)
    (kk : Sh (∀ A' c' G' w', Seg w' e size A' N c' (xs ++ news) G' → w.grownBy w' G → Moved w G G' → K (a.put d (.slice A' N c')) w')) : if Region.wanted o (yielded ops a.tmps) = true then Oper.wp P o a w K Q else K (a.put o.dst undef) w := by
  subst hd hN
  rw [if_pos (by simp [Region.wanted, hgd])]
  obtain ⟨i0, hi0, hz0, hz1, hz2⟩ := parts_of hi
  obtain ⟨A', c', G', w', hrun, h2, h3, h4⟩ := run_append_src (P := P) w t o.type e i0 z size bytes ht hi0 hz0 hz1 hz2 hzs hsz hseg k hsrc h1 h63 hbytes
  unfold Oper.wp
  simp [execOp, ho, resolve, invoke, builtin, hs, hx, hrun, Result.andThen]
  exact kk.out A' c' G' w' h2 h3 h4
end
section
variable {P : Program} {ops : Array Oper} {rest : List Oper} {dst : Option Tmp} {ty : TypeId} {pos : String} {aft : Array Edge} {a : Act} {w : World} {Q : Exit → Act → World → Prop}
theorem st_lit1 (T e : TypeId) (x : Operand) (cs : Array Value) (hx : a.eval x = .agg cs) {z : Value} {s : Nat} (hu : P.underlying T = some (.slice e)) (hi : (P.info? e).map (fun i => (i.zero, i.size)) = some (some z, s)) (hs : cs.size = s) (h0 : 0 < s) (h1 : s ≤ 1000)
    (k : Sh (∀ V g, CB V g e cs → Fr w V g → wpList P ops Q rest (a.put dst (.slice (some ⟨g, 0, none⟩) 1 1)) V)) : wpList P ops Q (⟨dst, .buildSlice T 1 #[(0, x)], ty, pos, aft, none⟩ :: rest) a w :=
  wpList_plain rfl fun K hK => by
    have h : (Instr.buildSlice T 1 ((#[(0, x)] : Array (Nat × Operand)).map fun (i, x) => (i, a.eval x))).run P w = .ok (.slice (some ⟨w.heap.size, 0, none⟩) 1 1) (w.alloc (.cells cs e)) := by
      have := run_lit1 (P := P) w T e cs hu hi hs h0 h1
      simpa [hx] using this
    unfold Oper.wp execOp
    simp only [Sem.run_bind, Sem.run_pure, Result.andThen_ok, h]
    exact hK _ _ (k.out _ _ (CB.new w e cs) ⟨rfl, le_al _ _⟩)
theorem st_lit0 (T e : TypeId) {z : Value} {s : Nat} (hu : P.underlying T = some (.slice e)) (hi : (P.info? e).map (fun i => (i.zero, i.size)) = some (some z, s))
    (k : Sh (∀ V g, CB V g e #[] → Fr w V g → wpList P ops Q rest (a.put dst (.slice (some ⟨g, 0, none⟩) 0 0)) V)) : wpList P ops Q (⟨dst, .buildSlice T 0 #[], ty, pos, aft, none⟩ :: rest) a w :=
  wpList_plain rfl fun K hK => by
    have h : (Instr.buildSlice T 0 ((#[] : Array (Nat × Operand)).map fun (i, x) => (i, a.eval x))).run P w = .ok (.slice (some ⟨w.heap.size, 0, none⟩) 0 0) (w.alloc (.cells #[] e)) := by
      have := run_lit0 (P := P) w T e hu hi
      simpa using this
    unfold Oper.wp execOp
    simp only [Sem.run_bind, Sem.run_pure, Result.andThen_ok, h]
    exact hK _ _ (k.out _ _ (CB.new w e #[]) ⟨rfl, le_al _ _⟩)
theorem st_app (s x : Operand) (t e : TypeId) {z : Value} {size bytes : Nat} (ht : P.underlying t = some (.slice e)) (hi : (P.info? e).map (fun i => (i.zero, i.size, i.bytes)) = some (some z, size, bytes)) (hzs : z.cells.size = size) (hsz : 0 < size)
    {A : Option Addr} {n c : Nat} {xs : List Value} {G : Option Nat} (hs : a.eval s = .slice A n c) (hseg : Seg w e size A n c xs G)
    {As : Option Addr} {m k : Nat} {news : List Value} (hx : a.eval x = .slice As m k) (hsrc : Src w size As m news) (h1 : ∀ u ∈ news, u.oneCell' = true)
    (h63 : n + m ≤ maxLen) (hbytes : (n + m) * bytes ≤ 140737488355328) (N : Nat) (hN : n + m = N)
    (kk : Sh (∀ A' c' G' w', Seg w' e size A' N c' (xs ++ news) G' → w.grownBy w' G → Moved w G G' → wpList P ops Q rest (a.put dst (.slice A' N c')) w')) : wpList P ops Q (⟨dst, .call { callee := .builtin .append, args := #[s, x], argTypes := #[t, t] }, ty, pos, aft, none⟩ :: rest) a w := by
  obtain ⟨i0, hi0, hz0, hz1, hz2⟩ := parts_of hi
  exact wpList_append_src w rfl s x t rfl e i0 z size bytes ht hi0 hz0 hz1 hz2 hzs hsz hs hseg hx hsrc h1 h63 hbytes N hN kk.out
end
theorem Src.box {w : World} {g : Nat} {T : TypeId} {cs : Array Value} (h : CB w g T cs) {s : Nat} (hs : cs.size = s) : Src w s (some ⟨g, 0, none⟩) 1 cs.toList :=
  ⟨by simp [hs], fun _ => ⟨_, rfl, fun j u hu => by rw [Addr.add_lit, Nat.zero_add, h.cell j]; simpa using hu⟩⟩
theorem Src.none_ (w : World) (s : Nat) (A : Option Addr) : Src w s A 0 [] := ⟨by simp, fun h => absurd h (by omega)⟩
/-- The literal of none: an empty slice of a block of the call's own. -/
theorem Seg.lit0 {w : World} {g : Nat} {T : TypeId} {s : Nat} (h : CB w g T #[]) : Seg w T s (some ⟨g, 0, none⟩) 0 0 [] (some g) :=
  ⟨by simp, Nat.le_refl _, Nat.zero_le _, .inr ⟨g, 0, #[], rfl, rfl, h, by simp, fun j u hu => by simp at hu⟩⟩
end Go.Proofs.Ytjfmahceolhfnaa
