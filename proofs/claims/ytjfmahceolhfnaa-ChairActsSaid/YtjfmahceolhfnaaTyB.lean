/-
  Steps of a walk over tallies: a new variable, a load and a store of a whole one or of one of its arrays, a store of one cell; the world behind each stands as a letter. No condition but what each theorem names.
-/
import Derived.Test.YtjfmahceolhfnaaTyA
set_option linter.unusedVariables false
set_option linter.unusedSimpArgs false
namespace Go.Proofs.Ytjfmahceolhfnaa
open Go.RowKit

theorem wpAnyH_takeL {P : Program} {md : Region.Mode} {ops : Array Oper} {Q : Exit → Act → World → Prop} {S : World → Prop} {i : Nat} {oi : Oper} {v : Value} {d : Option Tmp} {fuel : Nat} {listed : Array Bool} {a : Act} {w : World} (hi : ops[i]? = some oi) (hd : oi.dst = d)
    (hs : Region.noSelect ops = true) (hf : Region.free md ops listed i = true) (hr : (Region.ready md ops listed).contains i = true)
    (hQ : ∀ c a w, Q (.panic c) (a.put oi.dst v) w → Q (.panic c) a w) (hy : YieldsIf P ops S oi v a) (hS : S w)
    (h : wpAnyH P md ops Q S fuel (listed.setIfInBounds i true) (a.put d v) w) : wpAnyH P md ops Q S (fuel + 1) listed a w := by
  subst hd
  exact wpAnyH_take hi hs hf hr hQ hy hS h
/-- A goal that the walk leaves alone. -/
structure Sh (p : Prop) : Prop where
  out : p
/-- Block g is new. -/
structure Fr (w V : World) (g : Nat) : Prop where
  at_ : w.heap.size = g
  bel : Below w.heap.size w V
/-- One block was written. -/
structure Wr (w V : World) (g : Nat) : Prop where
  lt : g < w.heap.size
  size : V.heap.size = w.heap.size
  far : ∀ b, b ≠ g → V.heap[b]? = w.heap[b]?
  bel : ∀ (B : Nat) (a : World), Below B a w → B ≤ g → Below B a V
theorem Fr.ne {w V : World} {g b : Nat} {T : TypeId} {cs : Array Value} (h : Fr w V g) (hb : CB w b T cs) : b ≠ g := by have := hb.lt; have := h.at_; omega
theorem Wr.on {w V : World} {g b : Nat} {T : TypeId} {cs : Array Value} (h : Wr w V g) (hb : CB w b T cs) (hne : b ≠ g) : CB V b T cs := CB.same hb (h.far b hne)
theorem Fr.up {w V : World} {g : Nat} (h : Fr w V g) {a : World} (ha : Below a.heap.size a w) : a.heap.size ≤ g := by have := ha.size; have := h.at_; omega

section
variable {P : Program} {ops : Array Oper} {rest : List Oper} {dst : Option Tmp} {ty : TypeId} {pos : String} {aft : Array Edge} {a : Act} {w : World} {Q : Exit → Act → World → Prop}
theorem st_box (T : TypeId) (x : Operand) (cs : Array Value) (hx : a.eval x = .agg cs)
    (k : Sh (∀ V g, CB V g T cs → Fr w V g → wpList P ops Q rest (a.put dst (.pointer (some ⟨g, 0, none⟩))) V)) : wpList P ops Q (⟨dst, .box T x, ty, pos, aft, none⟩ :: rest) a w :=
  wpList_plain rfl fun K hK => by
    unfold Oper.wp execOp
    simp only [hx, Sem.run_bind, Instr.box, newVar, newRow, run_newObj_alloc, Sem.run_pure, Result.andThen_ok]
    exact hK _ _ (k.out _ _ (CB.new w T cs) ⟨rfl, le_al _ _⟩)
theorem st_alloc (T : TypeId) (cs : Array Value) (hz : ∀ V : World, (zeroValue T).run P V = .ok (.agg cs) V)
    (k : Sh (∀ V g, CB V g T cs → Fr w V g → wpList P ops Q rest (a.put dst (.pointer (some ⟨g, 0, none⟩))) V)) : wpList P ops Q (⟨dst, .alloc T, ty, pos, aft, none⟩ :: rest) a w := by
  refine wpList_plain rfl fun K hK => ?_
  unfold Oper.wp execOp
  simp only [Instr.alloc, hz, Sem.run_bind, newVar, newRow, run_newObj_alloc, Sem.run_pure, Result.andThen_ok]
  exact hK _ _ (k.out _ _ (CB.new w T cs) ⟨rfl, le_al _ _⟩)
theorem st_load (T : TypeId) (x : Operand) (g : Nat) (hx : a.eval x = .pointer (some ⟨g, 0, none⟩)) {U : TypeId} {cs : Array Value} (h : CB w g U cs) {d : TypeDesc}
    (hu : P.underlying T = some d) (hd : d.isRow = true) (hi : (P.info? T).map (·.size) = some cs.size)
    (k : wpList P ops Q rest (a.put dst (.agg cs)) w) : wpList P ops Q (⟨dst, .load T x, ty, pos, aft, none⟩ :: rest) a w :=
  wpList_load_row rfl T x rfl g hx U cs (0, 0) d h hu (by cases d <;> simp_all [TypeDesc.isRow]) hi k
theorem st_part (T : TypeId) (x : Operand) (g o : Nat) (hx : a.eval x = .pointer (some ⟨g, o, none⟩)) {U : TypeId} {cs pt : Array Value} (h : CB w g U cs) {d : TypeDesc}
    (hp : cs.extract o (o + pt.size) = pt) (hu : P.underlying T = some d) (hd : d.isRow = true) (hi : (P.info? T).map (·.size) = some pt.size)
    (k : wpList P ops Q rest (a.put dst (.agg pt)) w) : wpList P ops Q (⟨dst, .load T x, ty, pos, aft, none⟩ :: rest) a w := by
  have hr : w.rangeAt g o pt.toList := by
    have := World.rangeAt_of_block (show w.heap[g]? = some (.cells cs U (0, 0)) from h) o pt.size
    rw [hp] at this
    exact this
  refine wpList_load_mid rfl T x rfl g o hx pt.toList d hr hu hd (by simpa using hi) ?_
  simpa using k
theorem Below.setRow {B : Nat} {a w : World} {g : Nat} (cs : Array Value) (h : Below B a w) (hB : B ≤ g) : Below B a (w.setRow g cs) :=
  ⟨h.os, h.tape, h.output, by simpa using h.size, fun b hb => (setRow_other w g b cs (by omega)).trans (h.block b hb)⟩
theorem Wr.row {g : Nat} {U : TypeId} {old : Array Value} (h : CB w g U old) (cs : Array Value) : Wr w (w.setRow g cs) g :=
  ⟨h.lt, by simp, fun b hb => setRow_other w g b cs hb, fun B a ha hB => Below.setRow cs ha hB⟩
theorem CB.row {g : Nat} {U : TypeId} {old : Array Value} (h : CB w g U old) (cs : Array Value) : CB (w.setRow g cs) g U cs := setRow_heap w g old cs U _ h
theorem st_store (T : TypeId) (x y : Operand) (g : Nat) (cs : Array Value) (hx : a.eval x = .pointer (some ⟨g, 0, none⟩)) (hy : a.eval y = .agg cs) {U : TypeId} {old : Array Value} (h : CB w g U old)
    (hi : (P.info? T).map (·.size) = some cs.size) (hold : old.size = cs.size) (h1 : cs.all (·.oneCell') = true)
    (k : Sh (∀ V, CB V g U cs → Wr w V g → wpList P ops Q rest (a.put dst undef) V)) : wpList P ops Q (⟨dst, .store T x y, ty, pos, aft, none⟩ :: rest) a w :=
  wpList_store_row rfl T x y rfl g cs hx hy U old h hi hold h1 (k.out _ (CB.row h cs) (Wr.row h cs))
theorem Wr.cell {g : Nat} {U : TypeId} {old : Array Value} (h : CB w g U old) (i : Nat) (v : Value) : Wr w (w.setCell ⟨g, i, none⟩ v) g :=
  ⟨h.lt, by simp [World.setCell], fun b hb => heap_setCell_other w _ b v hb, fun B a ha hB => Below.setCell ha (p := ⟨g, i, none⟩) hB v⟩
theorem Wr.trans {V U : World} {g : Nat} (h : Wr w V g) (k : Wr V U g) : Wr w U g :=
  ⟨h.lt, k.size.trans h.size, fun b hb => (k.far b hb).trans (h.far b hb), fun B a ha hB => k.bel B a (h.bel B a ha hB) hB⟩
theorem Wr.refl {g : Nat} (hg : g < w.heap.size) : Wr w w g := ⟨hg, rfl, fun _ _ => rfl, fun _ _ h _ => h⟩
theorem cb_cells {g : Nat} {U : TypeId} : ∀ (vs : List Value) (o : Nat) (w : World) (cs : Array Value), CB w g U cs → Wr w (w.setCells g o vs) g
  | [], _, w, _, h => Wr.refl h.lt
  | v :: r, o, w, cs, h => by
    rw [World.setCells]
    exact (Wr.cell h o v).trans (cb_cells r (o + 1) _ _ (h.put o v))
theorem cb_puts {g : Nat} {U : TypeId} : ∀ (vs : List Value) (o : Nat) (w : World) (cs : Array Value), CB w g U cs → o + vs.length ≤ cs.size →
    CB (w.setCells g o vs) g U (cs.extract 0 o ++ vs.toArray ++ cs.extract (o + vs.length) cs.size) := by
  intro vs o w cs h ho
  obtain ⟨cs', h1, h2, h3, h4⟩ := CB.puts h vs o ho
  refine cb_cast h1 ?_
  have hm : min o cs.size = o := by omega
  apply Array.ext_getElem?
  intro j
  by_cases a1 : j < o
  · rw [h4 j (.inl a1), Array.append_assoc, Array.getElem?_append_left (by simp; omega), Array.getElem?_extract, if_pos (by omega)]
    simp
  · by_cases a2 : j < o + vs.length
    · have := h3 (j - o) (by omega)
      rw [show o + (j - o) = j by omega] at this
      rw [this, Array.append_assoc, Array.getElem?_append_right (by simp; omega), Array.getElem?_append_left (by simp; omega)]
      simp [hm]
    · rw [h4 j (.inr (by omega))]
      by_cases a3 : j < cs.size
      · rw [Array.getElem?_append_right (by simp; omega), Array.getElem?_extract, if_pos (by simp; omega)]
        congr 1
        simp
        omega
      · rw [Array.getElem?_eq_none (by omega), Array.getElem?_eq_none (by simp; omega)]
theorem st_mid (T : TypeId) (x y : Operand) (g o : Nat) (pt : Array Value) (hx : a.eval x = .pointer (some ⟨g, o, none⟩)) (hy : a.eval y = .agg pt) {U : TypeId} {cs new : Array Value} (h : CB w g U cs)
    (ho : o + pt.size ≤ cs.size) (hn : cs.extract 0 o ++ pt ++ cs.extract (o + pt.size) cs.size = new) (hi : (P.info? T).map (·.size) = some pt.size) (h1 : pt.all (·.oneCell') = true)
    (k : Sh (∀ V, CB V g U new → Wr w V g → wpList P ops Q rest (a.put dst undef) V)) : wpList P ops Q (⟨dst, .store T x y, ty, pos, aft, none⟩ :: rest) a w := by
  have ht : w.there g o pt.size := fun j hj => ⟨by rw [h.cell, Array.getElem?_eq_getElem (show o + j < cs.size by omega)]; rfl, h.frozen _⟩
  refine wpList_store_mid rfl T x y rfl g o pt hx hy ht hi h1 (k.out _ ?_ (cb_cells _ _ _ _ h))
  have := cb_puts pt.toList o w cs h (by simpa using ho)
  exact cb_cast this (by simpa using hn)
theorem st_cell (T : TypeId) (x y : Operand) (g i : Nat) (v : Value) (hx : a.eval x = .pointer (some ⟨g, i, none⟩)) (hy : a.eval y = v) {U : TypeId} {cs new : Array Value} (h : CB w g U cs)
    (hlt : i < cs.size) (hn : cs.setIfInBounds i v = new) (hi : (P.info? T).map (·.size) = some 1) (hv : v.cells = #[v]) (h1 : v.oneCell' = true)
    (k : Sh (∀ V, CB V g U new → Wr w V g → wpList P ops Q rest (a.put dst undef) V)) : wpList P ops Q (⟨dst, .store T x y, ty, pos, aft, none⟩ :: rest) a w := by
  subst hn
  have hc := h.cell i
  rw [Array.getElem?_eq_getElem hlt] at hc
  have hs : (Instr.storeAt T (.pointer (some ⟨g, i, none⟩)) v).run P w = .ok () (w.setCell ⟨g, i, none⟩ v) := by
    cases hq : P.info? T with
    | none => simp [hq] at hi
    | some j =>
      have hj : j.size = 1 := by simpa [hq] using hi
      have hadd : (⟨g, i, none⟩ : Addr).add 0 = ⟨g, i, none⟩ := by rw [Addr.add_mid]; rfl
      simp only [Instr.storeAt, Instr.sureAddr, Sem.run_bind, Sem.run_pure, Result.andThen_ok]
      simp [storeVar, sizeOf, typeInfo, hq, hj, hv, Sem.run_bind, storeCells, hadd, run_store P w _ v _ h1, hc, h.frozen i]
  refine wpList_plain rfl fun K hK => ?_
  unfold Oper.wp execOp
  simp only [hx, hy, Sem.run_bind, Sem.run_pure, Result.andThen_ok, hs]
  exact hK _ _ (k.out _ (h.put i v) (Wr.cell h i v))
end
theorem ld_part {P : Program} {w : World} (T : TypeId) (g o : Nat) {U : TypeId} {cs pt : Array Value} (h : CB w g U cs) {d : TypeDesc} (hp : cs.extract o (o + pt.size) = pt) (hu : P.underlying T = some d) (hd : d.isRow = true) (hi : (P.info? T).map (·.size) = some pt.size) :
    (loadVar T ⟨g, o, none⟩).run P w = .ok (.agg pt) w := by
  have hr : w.rangeAt g o pt.toList := by
    have := World.rangeAt_of_block (show w.heap[g]? = some (.cells cs U (0, 0)) from h) o pt.size
    rw [hp] at this
    exact this
  have := run_loadVar_mid (P := P) w g o T pt.toList d hr hu hd (by simpa using hi)
  simpa using this
section
variable {P : Program} {ev : Operand → Value} {dst : Option Tmp} {ty : TypeId} {pos : String} {aft : Array Edge} {gd : Option (Nat × Bool)} {w : World}
theorem yl_part (T : TypeId) (x : Operand) (g o : Nat) (hx : ev x = .pointer (some ⟨g, o, none⟩)) {U : TypeId} {cs pt : Array Value} (h : CB w g U cs) {d : TypeDesc} (hp : cs.extract o (o + pt.size) = pt) (hu : P.underlying T = some d) (hd : d.isRow = true) (hi : (P.info? T).map (·.size) = some pt.size) :
    (execOp ev ⟨dst, .load T x, ty, pos, aft, gd⟩).run P w = .ok (.value (.agg pt)) w := by
  unfold execOp
  simp only [hx, Instr.loadAt, Instr.sureAddr, Sem.run_bind, Sem.run_pure, Result.andThen_ok, ld_part (P := P) T g o h hp hu hd hi]
theorem yl_whole (T : TypeId) (x : Operand) (g : Nat) (hx : ev x = .pointer (some ⟨g, 0, none⟩)) {U : TypeId} {cs : Array Value} (h : CB w g U cs) {d : TypeDesc} (hu : P.underlying T = some d) (hd : d.isRow = true) (hi : (P.info? T).map (·.size) = some cs.size) :
    (execOp ev ⟨dst, .load T x, ty, pos, aft, gd⟩).run P w = .ok (.value (.agg cs)) w := yl_part T x g 0 hx h (by simp) hu hd hi
end
theorem res_two {fn : Func} {p q : Tmp} {T : TypeId} (h : fn.results = #[.cell p T, .tmp q]) {P : Program} {tmps : Array Value} {w : World} {g : Nat} {U : TypeId} {cs : Array Value} {d : TypeDesc} {x : Value}
    (hp : tmps.getD p undef = .pointer (some ⟨g, 0, none⟩)) (hq : tmps.getD q undef = x) (hg : CB w g U cs) (hu : P.underlying T = some d) (hd : d.isRow = true) (hi : (P.info? T).map (·.size) = some cs.size) :
    (results fn tmps).run P w = .ok (.tuple #[.agg cs, x]) w := by
  subst hq
  have hp' : tmps[p]?.getD undef = .pointer (some ⟨g, 0, none⟩) := by simpa using hp
  simp [results, h, hp', asAddr, run_loadVar_row w g U T cs (0, 0) d hg hu (by cases d <;> simp_all [TypeDesc.isRow]) hi]
theorem res_one {fn : Func} {p : Tmp} {T : TypeId} (h : fn.results = #[.cell p T]) {P : Program} {tmps : Array Value} {w : World} {g : Nat} {U : TypeId} {cs : Array Value} {d : TypeDesc}
    (hp : tmps.getD p undef = .pointer (some ⟨g, 0, none⟩)) (hg : CB w g U cs) (hu : P.underlying T = some d) (hd : d.isRow = true) (hi : (P.info? T).map (·.size) = some cs.size) :
    (results fn tmps).run P w = .ok (.agg cs) w := results_cell_row h tmps w g U cs (0, 0) d hp hg hu (by cases d <;> simp_all [TypeDesc.isRow]) hi
end Go.Proofs.Ytjfmahceolhfnaa
