/-
  Steps of a walk, for any program: a new variable, a load and a store of a whole struct or of a part or a cell, a literal, an append, in order or in a region that draws its order; the world behind each stands as a letter. No condition but what each theorem names.
-/
import Derived.Test.YtfdboahcaiolgaaMgR
import Derived.Laws.StructEq
import Derived.Laws.Pointers
import Derived.Laws.Small
import Derived.Laws.Cover2
import Derived.Deep.MidRow
set_option linter.unusedVariables false
set_option linter.unusedSimpArgs false
set_option linter.unusedSectionVars false
namespace Go.Proofs.Ytfdboahcaiolgaa
open Go.RowKit

theorem le_tr {w w1 w2 : World} (h : Below w.heap.size w w1) (k : Below w1.heap.size w1 w2) : Below w.heap.size w w2 := h.trans (k.mono h.size)
theorem le_al (w : World) (o : Obj) : Below w.heap.size w (w.alloc o) := (Below.refl _ _).alloc (Nat.le_refl _) o
theorem le_dr {B : Nat} {W w1 : World} (h : Below B W.drew w1) : Below B W w1 := ⟨h.os, h.tape, h.output, h.size, h.block⟩
theorem le_on {W W' : World} {b : Nat} {T : TypeId} {cs : Array Value} (h : CB W b T cs) (hb : Below W.heap.size W W') : CB W' b T cs := CB.same h (hb.block _ (CB.lt h))
theorem le_dN {B k : Nat} {a w : World} (h : Below B a w) : Below B a (w.drewN k) := ⟨h.os, h.tape, h.output, h.size, h.block⟩
theorem cb_cast {W : World} {b : Nat} {T : TypeId} {cs cs' : Array Value} (h : CB W b T cs) (e : cs = cs') : CB W b T cs' := e ▸ h
theorem wpAnyH_takeL {P : Program} {md : Region.Mode} {ops : Array Oper} {Q : Exit → Act → World → Prop} {S : World → Prop} {i : Nat} {oi : Oper} {v : Value} {d : Option Tmp} {fuel : Nat} {listed : Array Bool} {a : Act} {w : World} (hi : ops[i]? = some oi) (hd : oi.dst = d)
    (hs : Region.noSelect ops = true) (hf : Region.free md ops listed i = true) (hr : (Region.ready md ops listed).contains i = true)
    (hQ : ∀ c a w, Q (.panic c) (a.put oi.dst v) w → Q (.panic c) a w) (hy : YieldsIf P ops S oi v a) (hS : S w)
    (h : wpAnyH P md ops Q S fuel (listed.setIfInBounds i true) (a.put d v) w) : wpAnyH P md ops Q S (fuel + 1) listed a w := by
  subst hd
  exact wpAnyH_take hi hs hf hr hQ hy hS h
/-- A goal that the walk leaves alone. -/
structure Sh (p : Prop) : Prop where
  out : p
/-- Block g is new. -/
structure Fr (w V : World) (g : Nat) : Prop where
  at_ : w.heap.size = g
  bel : Below w.heap.size w V
/-- One block was written. -/
structure Wr (w V : World) (g : Nat) : Prop where
  lt : g < w.heap.size
  size : V.heap.size = w.heap.size
  far : ∀ b, b ≠ g → V.heap[b]? = w.heap[b]?
  bel : ∀ (B : Nat) (a : World), Below B a w → B ≤ g → Below B a V
theorem Fr.ne {w V : World} {g b : Nat} {T : TypeId} {cs : Array Value} (h : Fr w V g) (hb : CB w b T cs) : b ≠ g := by have := hb.lt; have := h.at_; omega
theorem Wr.on {w V : World} {g b : Nat} {T : TypeId} {cs : Array Value} (h : Wr w V g) (hb : CB w b T cs) (hne : b ≠ g) : CB V b T cs := CB.same hb (h.far b hne)
theorem Fr.up {w V : World} {g : Nat} (h : Fr w V g) {a : World} (ha : Below a.heap.size a w) : a.heap.size ≤ g := by have := ha.size; have := h.at_; omega

section
variable {P : Program} {ops : Array Oper} {rest : List Oper} {dst : Option Tmp} {ty : TypeId} {pos : String} {aft : Array Edge} {a : Act} {w : World} {Q : Exit → Act → World → Prop}
theorem st_box (T : TypeId) (x : Operand) (cs : Array Value) (hx : a.eval x = .agg cs)
    (k : Sh (∀ V g, CB V g T cs → Fr w V g → wpList P ops Q rest (a.put dst (.pointer (some ⟨g, 0, none⟩))) V)) : wpList P ops Q (⟨dst, .box T x, ty, pos, aft, none⟩ :: rest) a w :=
  wpList_plain rfl fun K hK => by
    unfold Oper.wp execOp
    simp only [hx, Sem.run_bind, Instr.box, newVar, newRow, run_newObj_alloc, Sem.run_pure, Result.andThen_ok]
    exact hK _ _ (k.out _ _ (CB.new w T cs) ⟨rfl, le_al _ _⟩)
theorem st_alloc (T : TypeId) (cs : Array Value) (hz : ∀ V : World, (zeroValue T).run P V = .ok (.agg cs) V)
    (k : Sh (∀ V g, CB V g T cs → Fr w V g → wpList P ops Q rest (a.put dst (.pointer (some ⟨g, 0, none⟩))) V)) : wpList P ops Q (⟨dst, .alloc T, ty, pos, aft, none⟩ :: rest) a w := by
  refine wpList_plain rfl fun K hK => ?_
  unfold Oper.wp execOp
  simp only [Instr.alloc, hz, Sem.run_bind, newVar, newRow, run_newObj_alloc, Sem.run_pure, Result.andThen_ok]
  exact hK _ _ (k.out _ _ (CB.new w T cs) ⟨rfl, le_al _ _⟩)
theorem st_load (T : TypeId) (x : Operand) (g : Nat) (hx : a.eval x = .pointer (some ⟨g, 0, none⟩)) {U : TypeId} {cs : Array Value} (h : CB w g U cs) {d : TypeDesc}
    (hu : P.underlying T = some d) (hd : d.isRow = true) (hi : (P.info? T).map (·.size) = some cs.size)
    (k : wpList P ops Q rest (a.put dst (.agg cs)) w) : wpList P ops Q (⟨dst, .load T x, ty, pos, aft, none⟩ :: rest) a w :=
  wpList_load_row rfl T x rfl g hx U cs (0, 0) d h hu (by cases d <;> simp_all [TypeDesc.isRow]) hi k
theorem st_part (T : TypeId) (x : Operand) (g o : Nat) (hx : a.eval x = .pointer (some ⟨g, o, none⟩)) {U : TypeId} {cs pt : Array Value} (h : CB w g U cs) {d : TypeDesc}
    (hp : cs.extract o (o + pt.size) = pt) (hu : P.underlying T = some d) (hd : d.isRow = true) (hi : (P.info? T).map (·.size) = some pt.size)
    (k : wpList P ops Q rest (a.put dst (.agg pt)) w) : wpList P ops Q (⟨dst, .load T x, ty, pos, aft, none⟩ :: rest) a w := by
  have hr : w.rangeAt g o pt.toList := by
    have := World.rangeAt_of_block (show w.heap[g]? = some (.cells cs U (0, 0)) from h) o pt.size
    rw [hp] at this
    exact this
  refine wpList_load_mid rfl T x rfl g o hx pt.toList d hr hu hd (by simpa using hi) ?_
  simpa using k
theorem Below.setRow {B : Nat} {a w : World} {g : Nat} (cs : Array Value) (h : Below B a w) (hB : B ≤ g) : Below B a (w.setRow g cs) :=
  ⟨h.os, h.tape, h.output, by simpa using h.size, fun b hb => (setRow_other w g b cs (by omega)).trans (h.block b hb)⟩
theorem Wr.row {g : Nat} {U : TypeId} {old : Array Value} (h : CB w g U old) (cs : Array Value) : Wr w (w.setRow g cs) g :=
  ⟨h.lt, by simp, fun b hb => setRow_other w g b cs hb, fun B a ha hB => Below.setRow cs ha hB⟩
theorem CB.row {g : Nat} {U : TypeId} {old : Array Value} (h : CB w g U old) (cs : Array Value) : CB (w.setRow g cs) g U cs := setRow_heap w g old cs U _ h
theorem st_store (T : TypeId) (x y : Operand) (g : Nat) (cs : Array Value) (hx : a.eval x = .pointer (some ⟨g, 0, none⟩)) (hy : a.eval y = .agg cs) {U : TypeId} {old : Array Value} (h : CB w g U old)
    (hi : (P.info? T).map (·.size) = some cs.size) (hold : old.size = cs.size) (h1 : cs.all (·.oneCell') = true)
    (k : Sh (∀ V, CB V g U cs → Wr w V g → wpList P ops Q rest (a.put dst undef) V)) : wpList P ops Q (⟨dst, .store T x y, ty, pos, aft, none⟩ :: rest) a w :=
  wpList_store_row rfl T x y rfl g cs hx hy U old h hi hold h1 (k.out _ (CB.row h cs) (Wr.row h cs))
theorem Wr.cell {g : Nat} {U : TypeId} {old : Array Value} (h : CB w g U old) (i : Nat) (v : Value) : Wr w (w.setCell ⟨g, i, none⟩ v) g :=
  ⟨h.lt, by simp [World.setCell], fun b hb => heap_setCell_other w _ b v hb, fun B a ha hB => Below.setCell ha (p := ⟨g, i, none⟩) hB v⟩
theorem Wr.trans {V U : World} {g : Nat} (h : Wr w V g) (k : Wr V U g) : Wr w U g :=
  ⟨h.lt, k.size.trans h.size, fun b hb => (k.far b hb).trans (h.far b hb), fun B a ha hB => k.bel B a (h.bel B a ha hB) hB⟩
theorem Wr.refl {g : Nat} (hg : g < w.heap.size) : Wr w w g := ⟨hg, rfl, fun _ _ => rfl, fun _ _ h _ => h⟩
theorem cb_cells {g : Nat} {U : TypeId} : ∀ (vs : List Value) (o : Nat) (w : World) (cs : Array Value), CB w g U cs → Wr w (w.setCells g o vs) g
  | [], _, w, _, h => Wr.refl h.lt
  | v :: r, o, w, cs, h => by
    rw [World.setCells]
    exact (Wr.cell h o v).trans (cb_cells r (o + 1) _ _ (h.put o v))
theorem cb_puts {g : Nat} {U : TypeId} : ∀ (vs : List Value) (o : Nat) (w : World) (cs : Array Value), CB w g U cs → o + vs.length ≤ cs.size →
    CB (w.setCells g o vs) g U (cs.extract 0 o ++ vs.toArray ++ cs.extract (o + vs.length) cs.size) := by
  intro vs o w cs h ho
  obtain ⟨cs', h1, h2, h3, h4⟩ := CB.puts h vs o ho
  refine cb_cast h1 ?_
  have hm : min o cs.size = o := by omega
  apply Array.ext_getElem?
  intro j
  by_cases a1 : j < o
  · rw [h4 j (.inl a1), Array.append_assoc, Array.getElem?_append_left (by simp; omega), Array.getElem?_extract, if_pos (by omega)]
    simp
  · by_cases a2 : j < o + vs.length
    · have := h3 (j - o) (by omega)
      rw [show o + (j - o) = j by omega] at this
      rw [this, Array.append_assoc, Array.getElem?_append_right (by simp; omega), Array.getElem?_append_left (by simp; omega)]
      simp [hm]
    · rw [h4 j (.inr (by omega))]
      by_cases a3 : j < cs.size
      · rw [Array.getElem?_append_right (by simp; omega), Array.getElem?_extract, if_pos (by simp; omega)]
        congr 1
        simp
        omega
      · rw [Array.getElem?_eq_none (by omega), Array.getElem?_eq_none (by simp; omega)]
theorem st_mid (T : TypeId) (x y : Operand) (g o : Nat) (pt : Array Value) (hx : a.eval x = .pointer (some ⟨g, o, none⟩)) (hy : a.eval y = .agg pt) {U : TypeId} {cs new : Array Value} (h : CB w g U cs)
    (ho : o + pt.size ≤ cs.size) (hn : cs.extract 0 o ++ pt ++ cs.extract (o + pt.size) cs.size = new) (hi : (P.info? T).map (·.size) = some pt.size) (h1 : pt.all (·.oneCell') = true)
    (k : Sh (∀ V, CB V g U new → Wr w V g → wpList P ops Q rest (a.put dst undef) V)) : wpList P ops Q (⟨dst, .store T x y, ty, pos, aft, none⟩ :: rest) a w := by
  have ht : w.there g o pt.size := fun j hj => ⟨by rw [h.cell, Array.getElem?_eq_getElem (show o + j < cs.size by omega)]; rfl, h.frozen _⟩
  refine wpList_store_mid rfl T x y rfl g o pt hx hy ht hi h1 (k.out _ ?_ (cb_cells _ _ _ _ h))
  have := cb_puts pt.toList o w cs h (by simpa using ho)
  exact cb_cast this (by simpa using hn)
theorem st_cell (T : TypeId) (x y : Operand) (g i : Nat) (v : Value) (hx : a.eval x = .pointer (some ⟨g, i, none⟩)) (hy : a.eval y = v) {U : TypeId} {cs new : Array Value} (h : CB w g U cs)
    (hlt : i < cs.size) (hn : cs.setIfInBounds i v = new) (hi : (P.info? T).map (·.size) = some 1) (hv : v.cells = #[v]) (h1 : v.oneCell' = true)
    (k : Sh (∀ V, CB V g U new → Wr w V g → wpList P ops Q rest (a.put dst undef) V)) : wpList P ops Q (⟨dst, .store T x y, ty, pos, aft, none⟩ :: rest) a w := by
  subst hn
  have hc := h.cell i
  rw [Array.getElem?_eq_getElem hlt] at hc
  have hs : (Instr.storeAt T (.pointer (some ⟨g, i, none⟩)) v).run P w = .ok () (w.setCell ⟨g, i, none⟩ v) := by
    cases hq : P.info? T with
    | none => simp [hq] at hi
    | some j =>
      have hj : j.size = 1 := by simpa [hq] using hi
      have hadd : (⟨g, i, none⟩ : Addr).add 0 = ⟨g, i, none⟩ := by rw [Addr.add_mid]; rfl
      simp only [Instr.storeAt, Instr.sureAddr, Sem.run_bind, Sem.run_pure, Result.andThen_ok]
      simp [storeVar, sizeOf, typeInfo, hq, hj, hv, Sem.run_bind, storeCells, hadd, run_store P w _ v _ h1, hc, h.frozen i]
  refine wpList_plain rfl fun K hK => ?_
  unfold Oper.wp execOp
  simp only [hx, hy, Sem.run_bind, Sem.run_pure, Result.andThen_ok, hs]
  exact hK _ _ (k.out _ (h.put i v) (Wr.cell h i v))
end
theorem ld_part {P : Program} {w : World} (T : TypeId) (g o : Nat) {U : TypeId} {cs pt : Array Value} (h : CB w g U cs) {d : TypeDesc} (hp : cs.extract o (o + pt.size) = pt) (hu : P.underlying T = some d) (hd : d.isRow = true) (hi : (P.info? T).map (·.size) = some pt.size) :
    (loadVar T ⟨g, o, none⟩).run P w = .ok (.agg pt) w := by
  have hr : w.rangeAt g o pt.toList := by
    have := World.rangeAt_of_block (show w.heap[g]? = some (.cells cs U (0, 0)) from h) o pt.size
    rw [hp] at this
    exact this
  have := run_loadVar_mid (P := P) w g o T pt.toList d hr hu hd (by simpa using hi)
  simpa using this
section
variable {P : Program} {ev : Operand → Value} {dst : Option Tmp} {ty : TypeId} {pos : String} {aft : Array Edge} {gd : Option (Nat × Bool)} {w : World}
theorem yl_part (T : TypeId) (x : Operand) (g o : Nat) (hx : ev x = .pointer (some ⟨g, o, none⟩)) {U : TypeId} {cs pt : Array Value} (h : CB w g U cs) {d : TypeDesc} (hp : cs.extract o (o + pt.size) = pt) (hu : P.underlying T = some d) (hd : d.isRow = true) (hi : (P.info? T).map (·.size) = some pt.size) :
    (execOp ev ⟨dst, .load T x, ty, pos, aft, gd⟩).run P w = .ok (.value (.agg pt)) w := by
  unfold execOp
  simp only [hx, Instr.loadAt, Instr.sureAddr, Sem.run_bind, Sem.run_pure, Result.andThen_ok, ld_part (P := P) T g o h hp hu hd hi]
theorem yl_whole (T : TypeId) (x : Operand) (g : Nat) (hx : ev x = .pointer (some ⟨g, 0, none⟩)) {U : TypeId} {cs : Array Value} (h : CB w g U cs) {d : TypeDesc} (hu : P.underlying T = some d) (hd : d.isRow = true) (hi : (P.info? T).map (·.size) = some cs.size) :
    (execOp ev ⟨dst, .load T x, ty, pos, aft, gd⟩).run P w = .ok (.value (.agg cs)) w := yl_part T x g 0 hx h (by simp) hu hd hi
end
theorem res_two {fn : Func} {p q : Tmp} {T : TypeId} (h : fn.results = #[.cell p T, .tmp q]) {P : Program} {tmps : Array Value} {w : World} {g : Nat} {U : TypeId} {cs : Array Value} {d : TypeDesc} {x : Value}
    (hp : tmps.getD p undef = .pointer (some ⟨g, 0, none⟩)) (hq : tmps.getD q undef = x) (hg : CB w g U cs) (hu : P.underlying T = some d) (hd : d.isRow = true) (hi : (P.info? T).map (·.size) = some cs.size) :
    (results fn tmps).run P w = .ok (.tuple #[.agg cs, x]) w := by
  subst hq
  have hp' : tmps[p]?.getD undef = .pointer (some ⟨g, 0, none⟩) := by simpa using hp
  simp [results, h, hp', asAddr, run_loadVar_row w g U T cs (0, 0) d hg hu (by cases d <;> simp_all [TypeDesc.isRow]) hi]
theorem res_one {fn : Func} {p : Tmp} {T : TypeId} (h : fn.results = #[.cell p T]) {P : Program} {tmps : Array Value} {w : World} {g : Nat} {U : TypeId} {cs : Array Value} {d : TypeDesc}
    (hp : tmps.getD p undef = .pointer (some ⟨g, 0, none⟩)) (hg : CB w g U cs) (hu : P.underlying T = some d) (hd : d.isRow = true) (hi : (P.info? T).map (·.size) = some cs.size) :
    (results fn tmps).run P w = .ok (.agg cs) w := results_cell_row h tmps w g U cs (0, 0) d hp hg hu (by cases d <;> simp_all [TypeDesc.isRow]) hi
theorem st_build {P : Program} {ops : Array Oper} {rest : List Oper} {dst : Option Tmp} {ty : TypeId} {pos : String} {aft : Array Edge} {a : Act} {w : World} {Q : Exit → Act → World → Prop} (T : TypeId) (x : Operand) (v : Value) (cs : Array Value) (hx : a.eval x = v) (hb : P.built T [(0, v)] = some cs)
    (k : wpList P ops Q rest (a.put dst (.agg cs)) w) : wpList P ops Q (⟨dst, .build T #[(0, x)], ty, pos, aft, none⟩ :: rest) a w := by
  have h : P.built T ((#[(0, x)] : Array (Nat × Operand)).map fun (i, x) => (i, a.eval x)).toList = some cs := by simpa [hx] using hb
  exact wpList_build rfl T #[(0, x)] rfl (by rw [h]; rfl) (by rw [h]; exact k)
section
variable {P : Program} {ops : Array Oper} {rest : List Oper} {dst : Option Tmp} {ty : TypeId} {pos : String} {aft : Array Edge} {gd : Nat × Bool} {a : Act} {w : World} {Q : Exit → Act → World → Prop}
theorem st_partG (T : TypeId) (x : Operand) (g o : Nat) (hx : a.eval x = .pointer (some ⟨g, o, none⟩)) {U : TypeId} {cs pt : Array Value} (h : CB w g U cs) {d : TypeDesc}
    (hp : cs.extract o (o + pt.size) = pt) (hu : P.underlying T = some d) (hd : d.isRow = true) (hi : (P.info? T).map (·.size) = some pt.size) (hw : Region.wanted ⟨dst, .load T x, ty, pos, aft, some gd⟩ (yielded ops a.tmps) = true)
    (k : wpList P ops Q rest (a.put dst (.agg pt)) w) : wpList P ops Q (⟨dst, .load T x, ty, pos, aft, some gd⟩ :: rest) a w :=
  wpList_step fun K hK => by
    rw [if_pos hw]
    unfold Oper.wp execOp
    simp only [hx, Instr.loadAt, Instr.sureAddr, Sem.run_bind, Sem.run_pure, Result.andThen_ok, ld_part (P := P) T g o h hp hu hd hi]
    exact hK _ _ k
theorem st_loadG (T : TypeId) (x : Operand) (g : Nat) (hx : a.eval x = .pointer (some ⟨g, 0, none⟩)) {U : TypeId} {cs : Array Value} (h : CB w g U cs) {d : TypeDesc}
    (hu : P.underlying T = some d) (hd : d.isRow = true) (hi : (P.info? T).map (·.size) = some cs.size) (hw : Region.wanted ⟨dst, .load T x, ty, pos, aft, some gd⟩ (yielded ops a.tmps) = true)
    (k : wpList P ops Q rest (a.put dst (.agg cs)) w) : wpList P ops Q (⟨dst, .load T x, ty, pos, aft, some gd⟩ :: rest) a w := st_partG T x g 0 hx h (by simp) hu hd hi hw k
end
theorem st_built0 {P : Program} {ops : Array Oper} {rest : List Oper} {dst : Option Tmp} {ty : TypeId} {pos : String} {aft : Array Edge} {a : Act} {w : World} {Q : Exit → Act → World → Prop} (T : TypeId) (cs : Array Value) (hb : P.built T [] = some cs)
    (k : wpList P ops Q rest (a.put dst (.agg cs)) w) : wpList P ops Q (⟨dst, .build T #[], ty, pos, aft, none⟩ :: rest) a w := by
  have h : P.built T ((#[] : Array (Nat × Operand)).map fun (i, x) => (i, a.eval x)).toList = some cs := by simpa using hb
  exact wpList_build rfl T #[] rfl (by rw [h]; rfl) (by rw [h]; exact k)
theorem st_built3 {P : Program} {ops : Array Oper} {rest : List Oper} {dst : Option Tmp} {ty : TypeId} {pos : String} {aft : Array Edge} {a : Act} {w : World} {Q : Exit → Act → World → Prop} (T : TypeId) (x0 x1 x2 : Operand) (v0 v1 v2 : Value) (cs : Array Value) (h0 : a.eval x0 = v0) (h1 : a.eval x1 = v1) (h2 : a.eval x2 = v2) (hb : P.built T [(0, v0), (1, v1), (2, v2)] = some cs)
    (k : wpList P ops Q rest (a.put dst (.agg cs)) w) : wpList P ops Q (⟨dst, .build T #[(0, x0), (1, x1), (2, x2)], ty, pos, aft, none⟩ :: rest) a w := by
  have h : P.built T ((#[(0, x0), (1, x1), (2, x2)] : Array (Nat × Operand)).map fun (i, x) => (i, a.eval x)).toList = some cs := by simpa [h0, h1, h2] using hb
  exact wpList_build rfl T #[(0, x0), (1, x1), (2, x2)] rfl (by rw [h]; rfl) (by rw [h]; exact k)
/-- A load of an element. -/
theorem st_elem {P : Program} {ops : Array Oper} {rest : List Oper} {dst : Option Tmp} {ty : TypeId} {pos : String} {aft : Array Edge} {a : Act} {w : World} {Q : Exit → Act → World → Prop} (T : TypeId) (x : Operand) (g o : Nat) (cs : Array Value) (hx : a.eval x = .pointer (some ⟨g, o, none⟩)) (hr : w.rangeAt g o cs.toList) {d : TypeDesc}
    (hu : P.underlying T = some d) (hd : d.isRow = true) (hi : (P.info? T).map (·.size) = some cs.size)
    (k : wpList P ops Q rest (a.put dst (.agg cs)) w) : wpList P ops Q (⟨dst, .load T x, ty, pos, aft, none⟩ :: rest) a w :=
  wpList_load_mid rfl T x rfl g o hx cs.toList d hr hu hd (by simpa using hi) (by simpa using k)
/-- .. in a region that draws its order. -/
theorem yl_elem {P : Program} {ev : Operand → Value} {dst : Option Tmp} {ty : TypeId} {pos : String} {aft : Array Edge} {gd : Option (Nat × Bool)} {w : World} (T : TypeId) (x : Operand) (g o : Nat) (cs : Array Value) (hx : ev x = .pointer (some ⟨g, o, none⟩)) (hr : w.rangeAt g o cs.toList) {d : TypeDesc} (hu : P.underlying T = some d) (hd : d.isRow = true) (hi : (P.info? T).map (·.size) = some cs.size) :
    (execOp ev ⟨dst, .load T x, ty, pos, aft, gd⟩).run P w = .ok (.value (.agg cs)) w := by
  have h : (loadVar T ⟨g, o, none⟩).run P w = .ok (.agg cs) w := by simpa using run_loadVar_mid (P := P) w g o T cs.toList d hr hu hd (by simpa using hi)
  unfold execOp
  simp only [hx, Instr.loadAt, Instr.sureAddr, Sem.run_bind, Sem.run_pure, Result.andThen_ok, h]

section
variable {P : Program} {ops : Array Oper} {o : Oper} {a : Act} {w : World} {K : Act → World → Prop} {Q : Exit → Act → World → Prop}
/-- Steps of a region that draws its order. -/
theorem rd_store (hgd : o.guard = none) (T : TypeId) (x y : Operand) (ho : o.op = .store T x y) (d : Option Tmp) (hd : o.dst = d) (g : Nat) (cs : Array Value) (hx : a.eval x = .pointer (some ⟨g, 0, none⟩)) (hy : a.eval y = .agg cs) {U : TypeId} {old : Array Value} (h : CB w g U old)
    (hi : (P.info? T).map (·.size) = some cs.size) (hold : old.size = cs.size) (h1 : cs.all (·.oneCell') = true)
    (k : Sh (∀ V, CB V g U cs → Wr w V g → K (a.put d undef) V)) : if Region.wanted o (yielded ops a.tmps) = true then Oper.wp P o a w K Q else K (a.put o.dst undef) w := by
  subst hd
  rw [if_pos (by simp [Region.wanted, hgd])]
  exact wp_store_row T x y ho g cs hx hy U old h hi hold h1 (k.out _ (CB.row h cs) (Wr.row h cs))
theorem rd_alloc (hgd : o.guard = none) (T : TypeId) (ho : o.op = .alloc T) (d : Option Tmp) (hd : o.dst = d) (cs : Array Value) (hz : ∀ V : World, (zeroValue T).run P V = .ok (.agg cs) V)
    (k : Sh (∀ V g, CB V g T cs → Fr w V g → K (a.put d (.pointer (some ⟨g, 0, none⟩))) V)) : if Region.wanted o (yielded ops a.tmps) = true then Oper.wp P o a w K Q else K (a.put o.dst undef) w := by
  subst hd
  rw [if_pos (by simp [Region.wanted, hgd])]
  unfold Oper.wp execOp
  simp only [ho, Instr.alloc, hz, Sem.run_bind, newVar, newRow, run_newObj_alloc, Sem.run_pure, Result.andThen_ok]
  exact k.out _ _ (CB.new w T cs) ⟨rfl, le_al _ _⟩
theorem rd_mid (hgd : o.guard = none) (T : TypeId) (x y : Operand) (ho : o.op = .store T x y) (d : Option Tmp) (hd : o.dst = d) (g off : Nat) (pt : Array Value) (hx : a.eval x = .pointer (some ⟨g, off, none⟩)) (hy : a.eval y = .agg pt) {U : TypeId} {cs new : Array Value} (h : CB w g U cs)
    (hof : off + pt.size ≤ cs.size) (hn : cs.extract 0 off ++ pt ++ cs.extract (off + pt.size) cs.size = new) (hi : (P.info? T).map (·.size) = some pt.size) (h1 : pt.all (·.oneCell') = true)
    (k : Sh (∀ V, CB V g U new → Wr w V g → K (a.put d undef) V)) : if Region.wanted o (yielded ops a.tmps) = true then Oper.wp P o a w K Q else K (a.put o.dst undef) w := by
  subst hd
  rw [if_pos (by simp [Region.wanted, hgd])]
  have ht : w.there g off pt.size := fun j hj => ⟨by rw [h.cell, Array.getElem?_eq_getElem (show off + j < cs.size by omega)]; rfl, h.frozen _⟩
  refine wp_store_mid T x y ho g off pt hx hy ht hi h1 (k.out _ ?_ (cb_cells _ _ _ _ h))
  have := cb_puts pt.toList off w cs h (by simpa using hof)
  exact cb_cast this (by simpa using hn)
theorem rd_cell (hgd : o.guard = none) (T : TypeId) (x y : Operand) (ho : o.op = .store T x y) (d : Option Tmp) (hd : o.dst = d) (g i : Nat) (v : Value) (hx : a.eval x = .pointer (some ⟨g, i, none⟩)) (hy : a.eval y = v) {U : TypeId} {cs new : Array Value} (h : CB w g U cs)
    (hlt : i < cs.size) (hn : cs.setIfInBounds i v = new) (hi : (P.info? T).map (·.size) = some 1) (hv : v.cells = #[v]) (h1 : v.oneCell' = true)
    (k : Sh (∀ V, CB V g U new → Wr w V g → K (a.put d undef) V)) : if Region.wanted o (yielded ops a.tmps) = true then Oper.wp P o a w K Q else K (a.put o.dst undef) w := by
  subst hd hn
  rw [if_pos (by simp [Region.wanted, hgd])]
  have hc := h.cell i
  rw [Array.getElem?_eq_getElem hlt] at hc
  have hs : (Instr.storeAt T (.pointer (some ⟨g, i, none⟩)) v).run P w = .ok () (w.setCell ⟨g, i, none⟩ v) := by
    cases hq : P.info? T with
    | none => simp [hq] at hi
    | some j =>
      have hj : j.size = 1 := by simpa [hq] using hi
      have hadd : (⟨g, i, none⟩ : Addr).add 0 = ⟨g, i, none⟩ := by rw [Addr.add_mid]; rfl
      simp only [Instr.storeAt, Instr.sureAddr, Sem.run_bind, Sem.run_pure, Result.andThen_ok]
      simp [storeVar, sizeOf, typeInfo, hq, hj, hv, Sem.run_bind, storeCells, hadd, run_store P w _ v _ h1, hc, h.frozen i]
  unfold Oper.wp execOp
  simp only [ho, hx, hy, Sem.run_bind, Sem.run_pure, Result.andThen_ok, hs]
  exact k.out _ (h.put i v) (Wr.cell h i v)
end

theorem parts_of {P : Program} {T : TypeId} {z : Value} {s b : Nat} (h : (P.info? T).map (fun i => (i.zero, i.size, i.bytes)) = some (some z, s, b)) : ∃ i, P.info? T = some i ∧ i.zero = some z ∧ i.size = s ∧ i.bytes = b := by
  cases hq : P.info? T with
  | none => rw [hq] at h; cases h
  | some i => rw [hq] at h; simp at h; exact ⟨i, rfl, h.1, h.2.1, h.2.2⟩
theorem all_list {cs : Array Value} (h : cs.all (·.oneCell') = true) : ∀ u ∈ cs.toList, u.oneCell' = true := fun u hu => by
  rw [Array.all_eq_true] at h
  obtain ⟨i, hi, e⟩ := Array.mem_iff_getElem.1 (Array.mem_def.2 hu)
  have := h i hi
  rw [e] at this
  exact this
theorem RR.elem {α : Type} {c : α → List Value} {s : Nat} [Nonempty (EncOk c s)] {w : World} {A : Option Addr} {n q : Nat} {L : List α} (h : RR w c s A n q L) {k : Nat} (hk : k < n) : ∃ g off x, L[k]? = some x ∧ A = some ⟨g, off, none⟩ ∧ w.rangeAt g (off + k * s) (c x) := by
  obtain ⟨g, off, x, h1, h2, h3⟩ := h.at_ hk
  exact ⟨g, off, x, h1, h2, fun i v hv => h3 i v hv⟩
theorem RS.wr {α : Type} {c : α → List Value} {s : Nat} [Nonempty (EncOk c s)] {w V : World} {T U : TypeId} {A : Option Addr} {n q g : Nat} {L : List α} {cs : Array Value} (h : RS w T c s A n q L) (k : Wr w V g) (hc : CB w g U cs) (hne : T ≠ U) : RS V T c s A n q L := by
  obtain ⟨G, h2⟩ := h
  exact ⟨G, h2.keep fun b hb => k.far b (fun e => h2.ne_ hc hne (by rw [hb, e]))⟩
theorem RS.max {α : Type} {c : α → List Value} {s : Nat} [Nonempty (EncOk c s)] {w : World} {T : TypeId} {A : Option Addr} {n q : Nat} {L : List α} (h : RS w T c s A n q L) : n ≤ 9223372036854775807 := by
  have h1 := h.rr.cap
  have h2 := h.rr.max
  simp only [maxLen] at h2
  omega
theorem fold_at : ∀ (l : List Value) (k : Nat) (acc : Array Value) (j : Nat), k + l.length ≤ acc.size →
    ((l.zipIdx k).foldl (fun (cs : Array Value) (p : Value × Nat) => cs.setIfInBounds (0 + p.2) p.1) acc)[j]? = if k ≤ j ∧ j < k + l.length then l[j - k]? else acc[j]?
  | [], k, acc, j, h => by
    have : ¬ (k ≤ j ∧ j < k + ([] : List Value).length) := by simp
    rw [if_neg this]
    rfl
  | x :: l, k, acc, j, h => by
    simp only [List.length_cons] at h
    rw [List.zipIdx_cons, List.foldl_cons, fold_at l (k + 1) _ j (by simp; omega)]
    by_cases h1 : k + 1 ≤ j ∧ j < k + 1 + l.length
    · rw [if_pos h1, if_pos (by simp only [List.length_cons]; omega), show j - k = (j - (k + 1)) + 1 by omega, List.getElem?_cons_succ]
    · rw [if_neg h1]
      by_cases h2 : j = k
      · subst h2
        rw [if_pos (by simp only [List.length_cons]; omega)]
        simp [show j < acc.size by omega]
      · rw [if_neg (by simp only [List.length_cons]; omega), Array.getElem?_setIfInBounds_ne (by simp; omega)]
theorem fold_put (cs base : Array Value) (h : base.size = cs.size) : cs.zipIdx.foldl (fun (acc : Array Value) (p : Value × Nat) => acc.setIfInBounds (0 + p.2) p.1) base = cs := by
  rw [← Array.foldl_toList, Array.toList_zipIdx]
  apply Array.ext_getElem?
  intro j
  have := fold_at cs.toList 0 base j (by simp [h])
  simp only [Nat.zero_add, Nat.sub_zero, Nat.zero_le, true_and, Array.length_toList] at this ⊢
  rw [this]
  split
  · simp
  · rw [Array.getElem?_eq_none (by omega), Array.getElem?_eq_none (by omega)]
/-- A slice literal of one struct. -/
theorem run_lit1 {P : Program} (w : World) (T e : TypeId) (cs : Array Value) {z : Value} {s : Nat} (hu : P.underlying T = some (.slice e)) (hi : (P.info? e).map (fun i => (i.zero, i.size)) = some (some z, s)) (hs : cs.size = s) (h0 : 0 < s) (h1 : s ≤ 1000) :
    (Instr.buildSlice T 1 #[(0, .agg cs)]).run P w = .ok (.slice (some ⟨w.heap.size, 0, none⟩) 1 1) (w.alloc (.cells cs e)) := by
  cases hq : P.info? e with
  | none => rw [hq] at hi; cases hi
  | some ie =>
    rw [hq] at hi
    simp at hi
    have hz : ie.zero = some z := hi.1
    have hsz : ie.size = s := hi.2
    have hf : Instr.fill (fun i => some (i * s, s)) ((Array.range (1 * s)).map (z.cells[· % z.cells.size]!)) [(0, .agg cs)] = some cs := by
      unfold Instr.fill
      have hc : (Value.agg cs).cells = cs := rfl
      simp only [Nat.zero_mul]
      rw [hc, if_neg (by simp [hs])]
      unfold Instr.fill
      exact congrArg some (fold_put cs ((Array.range (1 * s)).map (z.cells[· % z.cells.size]!)) (by simp [hs]))
    simp only [Nat.one_mul] at hf
    have hg : ¬ s > 16777216 := by omega
    have hne : ¬ s = 0 := by omega
    simp [Instr.buildSlice, run_underlying hu, sizeOf, typeInfo, zeroValue, hq, hz, hsz, hf, newRow, hg, hne]
/-- .. of none. -/
theorem run_lit0 {P : Program} (w : World) (T e : TypeId) {z : Value} {s : Nat} (hu : P.underlying T = some (.slice e)) (hi : (P.info? e).map (fun i => (i.zero, i.size)) = some (some z, s)) :
    (Instr.buildSlice T 0 #[]).run P w = .ok (.slice (some ⟨w.heap.size, 0, none⟩) 0 0) (w.alloc (.cells #[] e)) := by
  cases hq : P.info? e with
  | none => rw [hq] at hi; cases hi
  | some ie =>
    rw [hq] at hi
    simp at hi
    simp [Instr.buildSlice, run_underlying hu, sizeOf, typeInfo, zeroValue, hq, hi.1, hi.2, newRow, Instr.fill]
    have e0 : Array.map (fun _ : Nat => (default : Value)) (Array.range 0) = #[] := Array.eq_empty_of_size_eq_zero (by simp)
    rw [e0]
section
variable {P : Program} {ops : Array Oper} {o : Oper} {a : Act} {w : World} {K : Act → World → Prop} {Q : Exit → Act → World → Prop}
theorem rd_lit1 (hgd : o.guard = none) (T e : TypeId) (x : Operand) (ho : o.op = .buildSlice T 1 #[(0, x)]) (d : Option Tmp) (hd : o.dst = d) (cs : Array Value) (hx : a.eval x = .agg cs) {z : Value} {s : Nat} (hu : P.underlying T = some (.slice e)) (hi : (P.info? e).map (fun i => (i.zero, i.size)) = some (some z, s)) (hs : cs.size = s) (h0 : 0 < s) (h1 : s ≤ 1000)
    (k : Sh (∀ V g, CB V g e cs → Fr w V g → K (a.put d (.slice (some ⟨g, 0, none⟩) 1 1)) V)) : if Region.wanted o (yielded ops a.tmps) = true then Oper.wp P o a w K Q else K (a.put o.dst undef) w := by
  subst hd
  rw [if_pos (by simp [Region.wanted, hgd])]
  have h : (Instr.buildSlice T 1 ((#[(0, x)] : Array (Nat × Operand)).map fun (i, x) => (i, a.eval x))).run P w = .ok (.slice (some ⟨w.heap.size, 0, none⟩) 1 1) (w.alloc (.cells cs e)) := by
    have := run_lit1 (P := P) w T e cs hu hi hs h0 h1
    simpa [hx] using this
  unfold Oper.wp execOp
  simp only [ho, Sem.run_bind, Sem.run_pure, Result.andThen_ok, h]
  exact k.out _ _ (CB.new w e cs) ⟨rfl, le_al _ _⟩
theorem rd_load (hgd : o.guard = none) (T : TypeId) (x : Operand) (ho : o.op = .load T x) (d : Option Tmp) (hd : o.dst = d) (v : Value) (g i : Nat) (hx : a.eval x = .pointer (some ⟨g, i, none⟩)) (hrun : (loadVar T ⟨g, i, none⟩).run P w = .ok v w) (k : Sh (K (a.put d v) w)) : if Region.wanted o (yielded ops a.tmps) = true then Oper.wp P o a w K Q else K (a.put o.dst undef) w := by
  subst hd
  rw [if_pos (by simp [Region.wanted, hgd])]
  unfold Oper.wp execOp
  simp only [ho, hx, Instr.loadAt, Instr.sureAddr, Sem.run_bind, Sem.run_pure, Result.andThen_ok, hrun]
  exact k.out
theorem rd_app (hgd : o.guard = none) (s x : Operand) (t : TypeId) (ho : o.op = .call { callee := .builtin .append, args := #[s, x], argTypes := #[t, t] }) (d : Option Tmp) (hd : o.dst = d)
    (e : TypeId) {z : Value} {size bytes : Nat} (ht : P.underlying t = some (.slice e)) (hi : (P.info? e).map (fun i => (i.zero, i.size, i.bytes)) = some (some z, size, bytes)) (hzs : z.cells.size = size) (hsz : 0 < size)
    {A : Option Addr} {n c : Nat} {xs : List Value} {G : Option Nat} (hs : a.eval s = .slice A n c) (hseg : Seg w e size A n c xs G)
    {As : Option Addr} {m k : Nat} {news : List Value} (hx : a.eval x = .slice As m k) (hsrc : Src w size As m news) (h1 : ∀ u ∈ news, u.oneCell' = true)
    (h63 : n + m ≤ maxLen) (hbytes : (n + m) * bytes ≤ 140737488355328) (N : Nat) (hN : n + m = N)
    (kk : Sh (∀ A' c' G' w', Seg w' e size A' N c' (xs ++ news) G' → w.grownBy w' G → Moved w G G' → K (a.put d (.slice A' N c')) w')) : if Region.wanted o (yielded ops a.tmps) = true then Oper.wp P o a w K Q else K (a.put o.dst undef) w := by
  subst hd hN
  rw [if_pos (by simp [Region.wanted, hgd])]
  obtain ⟨i0, hi0, hz0, hz1, hz2⟩ := parts_of hi
  obtain ⟨A', c', G', w', hrun, h2, h3, h4⟩ := run_append_src (P := P) w t o.type e i0 z size bytes ht hi0 hz0 hz1 hz2 hzs hsz hseg k hsrc h1 h63 hbytes
  unfold Oper.wp
  simp [execOp, ho, resolve, invoke, builtin, hs, hx, hrun, Result.andThen]
  exact kk.out A' c' G' w' h2 h3 h4
end
section
variable {P : Program} {ops : Array Oper} {rest : List Oper} {dst : Option Tmp} {ty : TypeId} {pos : String} {aft : Array Edge} {a : Act} {w : World} {Q : Exit → Act → World → Prop}
theorem st_lit1 (T e : TypeId) (x : Operand) (cs : Array Value) (hx : a.eval x = .agg cs) {z : Value} {s : Nat} (hu : P.underlying T = some (.slice e)) (hi : (P.info? e).map (fun i => (i.zero, i.size)) = some (some z, s)) (hs : cs.size = s) (h0 : 0 < s) (h1 : s ≤ 1000)
    (k : Sh (∀ V g, CB V g e cs → Fr w V g → wpList P ops Q rest (a.put dst (.slice (some ⟨g, 0, none⟩) 1 1)) V)) : wpList P ops Q (⟨dst, .buildSlice T 1 #[(0, x)], ty, pos, aft, none⟩ :: rest) a w :=
  wpList_plain rfl fun K hK => by
    have h : (Instr.buildSlice T 1 ((#[(0, x)] : Array (Nat × Operand)).map fun (i, x) => (i, a.eval x))).run P w = .ok (.slice (some ⟨w.heap.size, 0, none⟩) 1 1) (w.alloc (.cells cs e)) := by
      have := run_lit1 (P := P) w T e cs hu hi hs h0 h1
      simpa [hx] using this
    unfold Oper.wp execOp
    simp only [Sem.run_bind, Sem.run_pure, Result.andThen_ok, h]
    exact hK _ _ (k.out _ _ (CB.new w e cs) ⟨rfl, le_al _ _⟩)
theorem st_lit0 (T e : TypeId) {z : Value} {s : Nat} (hu : P.underlying T = some (.slice e)) (hi : (P.info? e).map (fun i => (i.zero, i.size)) = some (some z, s))
    (k : Sh (∀ V g, CB V g e #[] → Fr w V g → wpList P ops Q rest (a.put dst (.slice (some ⟨g, 0, none⟩) 0 0)) V)) : wpList P ops Q (⟨dst, .buildSlice T 0 #[], ty, pos, aft, none⟩ :: rest) a w :=
  wpList_plain rfl fun K hK => by
    have h : (Instr.buildSlice T 0 ((#[] : Array (Nat × Operand)).map fun (i, x) => (i, a.eval x))).run P w = .ok (.slice (some ⟨w.heap.size, 0, none⟩) 0 0) (w.alloc (.cells #[] e)) := by
      have := run_lit0 (P := P) w T e hu hi
      simpa using this
    unfold Oper.wp execOp
    simp only [Sem.run_bind, Sem.run_pure, Result.andThen_ok, h]
    exact hK _ _ (k.out _ _ (CB.new w e #[]) ⟨rfl, le_al _ _⟩)
theorem st_app (s x : Operand) (t e : TypeId) {z : Value} {size bytes : Nat} (ht : P.underlying t = some (.slice e)) (hi : (P.info? e).map (fun i => (i.zero, i.size, i.bytes)) = some (some z, size, bytes)) (hzs : z.cells.size = size) (hsz : 0 < size)
    {A : Option Addr} {n c : Nat} {xs : List Value} {G : Option Nat} (hs : a.eval s = .slice A n c) (hseg : Seg w e size A n c xs G)
    {As : Option Addr} {m k : Nat} {news : List Value} (hx : a.eval x = .slice As m k) (hsrc : Src w size As m news) (h1 : ∀ u ∈ news, u.oneCell' = true)
    (h63 : n + m ≤ maxLen) (hbytes : (n + m) * bytes ≤ 140737488355328) (N : Nat) (hN : n + m = N)
    (kk : Sh (∀ A' c' G' w', Seg w' e size A' N c' (xs ++ news) G' → w.grownBy w' G → Moved w G G' → wpList P ops Q rest (a.put dst (.slice A' N c')) w')) : wpList P ops Q (⟨dst, .call { callee := .builtin .append, args := #[s, x], argTypes := #[t, t] }, ty, pos, aft, none⟩ :: rest) a w := by
  obtain ⟨i0, hi0, hz0, hz1, hz2⟩ := parts_of hi
  exact wpList_append_src w rfl s x t rfl e i0 z size bytes ht hi0 hz0 hz1 hz2 hzs hsz hs hseg hx hsrc h1 h63 hbytes N hN kk.out
end
theorem Src.box {w : World} {g : Nat} {T : TypeId} {cs : Array Value} (h : CB w g T cs) {s : Nat} (hs : cs.size = s) : Src w s (some ⟨g, 0, none⟩) 1 cs.toList :=
  ⟨by simp [hs], fun _ => ⟨_, rfl, fun j u hu => by rw [Addr.add_lit, Nat.zero_add, h.cell j]; simpa using hu⟩⟩
theorem Src.none_ (w : World) (s : Nat) (A : Option Addr) : Src w s A 0 [] := ⟨by simp, fun h => absurd h (by omega)⟩
/-- The literal of none: an empty slice of a block of the call's own. -/
theorem Seg.lit0 {w : World} {g : Nat} {T : TypeId} {s : Nat} (h : CB w g T #[]) : Seg w T s (some ⟨g, 0, none⟩) 0 0 [] (some g) :=
  ⟨by simp, Nat.le_refl _, Nat.zero_le _, .inr ⟨g, 0, #[], rfl, rfl, h, by simp, fun j u hu => by simp at hu⟩⟩
section
variable {w : World}
theorem Seg.grow_cb {w V : World} {T U : TypeId} {s : Nat} {A : Option Addr} {n c : Nat} {xs : List Value} {G : Option Nat} (h : Seg w T s A n c xs G) (hg : w.grownBy V G) {g : Nat} {cs : Array Value} (hc : CB w g U cs) (hne : T ≠ U) : CB V g U cs :=
  CB.same hc (hg.block g hc.lt (fun e => h.ne_ hc hne e.symm))
theorem seg_typeS {e : TypeId} {size : Nat} {A : Option Addr} {n c : Nat} {xs : List Value} {g : Nat} (h : Seg w e size A n c xs (some g)) : ∃ cs, CB w g e cs := by
  rcases h.2.2.2 with ⟨_, _, h0⟩ | ⟨g', off, cur, _, h3, h4, _⟩
  · cases h0
  · cases h3; exact ⟨cur, h4⟩
theorem RS.grow {α : Type} {c : α → List Value} {s : Nat} [Nonempty (EncOk c s)] {w V : World} {T U : TypeId} {A : Option Addr} {n q : Nat} {L : List α} (h : RS w U c s A n q L) {la : Option Addr} {ln lc s2 : Nat} {xs : List Value} {G : Option Nat} (h2 : Seg w T s2 la ln lc xs G) (hg : w.grownBy V G) (hne : U ≠ T) : RS V U c s A n q L := by
  obtain ⟨G', h'⟩ := h
  refine ⟨G', h'.keep fun g e => hg.block g (h'.lt g e) (fun e' => ?_)⟩
  subst e
  obtain ⟨cs, hc⟩ := seg_typeS (e := T) (by rw [← e'] at h2; exact h2)
  obtain ⟨cs', hc'⟩ := seg_typeS h'
  exact hc'.ne_ hc hne rfl
end
end Go.Proofs.Ytfdboahcaiolgaa

/-
  More steps of a walk, for any program: slices that lie below, slices of a call's own with their block, literals of one thing, guarded loads, structs that are built, ends of functions. No condition but what each theorem names.
-/
set_option linter.unusedVariables false
set_option linter.unusedSimpArgs false
set_option linter.unusedSectionVars false
namespace Go.Proofs.Ytfdboahcaiolgaa
open Go.RowKit

theorem st_built2 {P : Program} {ops : Array Oper} {rest : List Oper} {dst : Option Tmp} {ty : TypeId} {pos : String} {aft : Array Edge} {a : Act} {w : World} {Q : Exit → Act → World → Prop} (T : TypeId) (x0 x1 : Operand) (v0 v1 : Value) (cs : Array Value) (h0 : a.eval x0 = v0) (h1 : a.eval x1 = v1) (hb : P.built T [(0, v0), (1, v1)] = some cs)
    (k : wpList P ops Q rest (a.put dst (.agg cs)) w) : wpList P ops Q (⟨dst, .build T #[(0, x0), (1, x1)], ty, pos, aft, none⟩ :: rest) a w := by
  have h : P.built T ((#[(0, x0), (1, x1)] : Array (Nat × Operand)).map fun (i, x) => (i, a.eval x)).toList = some cs := by simpa [h0, h1] using hb
  exact wpList_build rfl T #[(0, x0), (1, x1)] rfl (by rw [h]; rfl) (by rw [h]; exact k)
theorem st_builtn {P : Program} {ops : Array Oper} {rest : List Oper} {dst : Option Tmp} {ty : TypeId} {pos : String} {aft : Array Edge} {a : Act} {w : World} {Q : Exit → Act → World → Prop} (T : TypeId) (i : Nat) (x : Operand) (v : Value) (cs : Array Value) (hx : a.eval x = v) (hb : P.built T [(i, v)] = some cs)
    (k : wpList P ops Q rest (a.put dst (.agg cs)) w) : wpList P ops Q (⟨dst, .build T #[(i, x)], ty, pos, aft, none⟩ :: rest) a w := by
  have h : P.built T ((#[(i, x)] : Array (Nat × Operand)).map fun (i, x) => (i, a.eval x)).toList = some cs := by simpa [hx] using hb
  exact wpList_build rfl T #[(i, x)] rfl (by rw [h]; rfl) (by rw [h]; exact k)
/-- A slice that lies below world w's blocks. -/
structure RL {α : Type} (w W : World) (c : α → List Value) (s : Nat) (A : Option Addr) (n q : Nat) (L : List α) : Prop where
  rr : RR W c s A n q L
  lo : ∀ b off, A = some ⟨b, off, none⟩ → 0 < n → b < w.heap.size
section
variable {α : Type} {c : α → List Value} {s : Nat} [Nonempty (EncOk c s)] {w W V : World} {A : Option Addr} {n q : Nat} {L : List α}
theorem RL.start (h : RR w c s A n q L) : RL w w c s A n q L := ⟨h, fun _ _ hA hn => h.lt hA hn⟩
theorem RL.on (h : RL w W c s A n q L) (hb : Below W.heap.size W V) : RL w V c s A n q L := ⟨h.rr.on hb, h.lo⟩
theorem RL.wr {g : Nat} (h : RL w W c s A n q L) (k : Wr W V g) (hg : w.heap.size ≤ g) : RL w V c s A n q L := ⟨h.rr.keep fun b off hA hn _ => k.far b (by have := h.lo b off hA hn; omega), h.lo⟩
theorem RL.drew (h : RL w W c s A n q L) : RL w W.drew c s A n q L := ⟨h.rr.drew, h.lo⟩
theorem RL.grow {G : Option Nat} (h : RL w W c s A n q L) (hg : W.grownBy V G) (hG : ∀ g, G = some g → w.heap.size ≤ g) : RL w V c s A n q L := ⟨h.rr.keep fun b off hA hn hlt => hg.block b hlt (fun e => by have := h.lo b off hA hn; have := hG b e.symm; omega), h.lo⟩
theorem RL.low (h : RL w W c s A n q L) (hb : Below w.heap.size w V) (h0 : RR w c s A n q L) : RL w V c s A n q L := ⟨h0.on hb, h.lo⟩
theorem RL.len (h : RL w W c s A n q L) : L.length = n := h.rr.len
theorem RL.max (h : RL w W c s A n q L) : n ≤ 9223372036854775807 := by
  have h1 := h.rr.cap
  have h2 := h.rr.max
  simp only [maxLen] at h2
  omega
end
/-- A slice of a call's own: it lies at or above N. -/
structure SO {α : Type} (N : Nat) (W : World) (T : TypeId) (c : α → List Value) (s : Nat) (A : Option Addr) (n q : Nat) (L : List α) (G : Option Nat) : Prop where
  seg : Seg W T s A n q (rc c L) G
  hi : ∀ g, G = some g → N ≤ g
section
variable {α : Type} {c : α → List Value} {s : Nat} [Nonempty (EncOk c s)] {W V : World} {N : Nat} {T : TypeId} {A : Option Addr} {n q : Nat} {L : List α} {G : Option Nat}
theorem SO.rr (h : SO N W T c s A n q L G) : RR W c s A n q L := RR.of_seg h.seg
theorem SO.on (h : SO N W T c s A n q L G) (hb : Below W.heap.size W V) : SO N V T c s A n q L G := ⟨h.seg.on hb, h.hi⟩
theorem SO.mono {M : Nat} (h : SO N W T c s A n q L G) (hm : M ≤ N) : SO M W T c s A n q L G := ⟨h.seg, fun g e => Nat.le_trans hm (h.hi g e)⟩
theorem SO.drew (h : SO N W T c s A n q L G) : SO N W.drew T c s A n q L G := ⟨h.seg, h.hi⟩
theorem SO.len (h : SO N W T c s A n q L G) : L.length = n := h.rr.len
theorem SO.max (h : SO N W T c s A n q L G) : n ≤ 9223372036854775807 := by
  have h1 := h.rr.cap
  have h2 := h.rr.max
  simp only [maxLen] at h2
  omega
/-- A box that is new is none of the slice's. -/
theorem SO.fresh (h : SO N W T c s A n q L G) {g : Nat} (hg : W.heap.size ≤ g) : ∀ b, G = some b → b ≠ g := fun b e => by have := h.seg.lt b e; omega
theorem SO.above (h : SO N W T c s A n q L G) {g : Nat} (hg : g < N) : ∀ b, G = some b → b ≠ g := fun b e => by have := h.hi b e; omega
theorem SO.wr {g : Nat} (h : SO N W T c s A n q L G) (k : Wr W V g) (hg : ∀ b, G = some b → b ≠ g) : SO N V T c s A n q L G := ⟨h.seg.keep fun b e => k.far b (hg b e), h.hi⟩
theorem SO.grow {H : Option Nat} (h : SO N W T c s A n q L G) (hg : W.grownBy V H) (hne : ∀ b, G = some b → some b ≠ H) : SO N V T c s A n q L G := ⟨h.seg.keep fun b e => hg.block b (h.seg.lt b e) (hne b e), h.hi⟩
theorem SO.nil (N : Nat) (W : World) (T : TypeId) (c : α → List Value) (s : Nat) : SO N W T c s none 0 0 [] none := ⟨Seg.nil _ _ _, fun _ e => by cases e⟩
end
theorem moved_ne {w : World} {G G' : Option Nat} (h : Moved w G G') {g : Nat} (hg : g < w.heap.size) (hG : ∀ b, G = some b → b ≠ g) : ∀ b, G' = some b → b ≠ g := by
  rcases h with rfl | ⟨g', rfl, hg'⟩
  · exact hG
  · intro b e; cases e; omega
/-- A slice literal of one thing. -/
theorem run_litv {P : Program} (w : World) (T e : TypeId) (v : Value) (cs : Array Value) (hv : v.cells = cs) {z : Value} {s : Nat} (hu : P.underlying T = some (.slice e)) (hi : (P.info? e).map (fun i => (i.zero, i.size)) = some (some z, s)) (hs : cs.size = s) (h0 : 0 < s) (h1 : s ≤ 1000) :
    (Instr.buildSlice T 1 #[(0, v)]).run P w = .ok (.slice (some ⟨w.heap.size, 0, none⟩) 1 1) (w.alloc (.cells cs e)) := by
  cases hq : P.info? e with
  | none => rw [hq] at hi; cases hi
  | some ie =>
    rw [hq] at hi
    simp at hi
    have hz : ie.zero = some z := hi.1
    have hsz : ie.size = s := hi.2
    have hf : Instr.fill (fun i => some (i * s, s)) ((Array.range (1 * s)).map (z.cells[· % z.cells.size]!)) [(0, v)] = some cs := by
      unfold Instr.fill
      simp only [Nat.zero_mul]
      rw [hv, if_neg (by simp [hs])]
      unfold Instr.fill
      exact congrArg some (fold_put cs ((Array.range (1 * s)).map (z.cells[· % z.cells.size]!)) (by simp [hs]))
    simp only [Nat.one_mul] at hf
    have hg : ¬ s > 16777216 := by omega
    have hne : ¬ s = 0 := by omega
    simp [Instr.buildSlice, run_underlying hu, sizeOf, typeInfo, zeroValue, hq, hz, hsz, hf, newRow, hg, hne]
theorem st_litv {P : Program} {ops : Array Oper} {rest : List Oper} {dst : Option Tmp} {ty : TypeId} {pos : String} {aft : Array Edge} {a : Act} {w : World} {Q : Exit → Act → World → Prop} (T e : TypeId) (x : Operand) (v : Value) (cs : Array Value) (hx : a.eval x = v) (hv : v.cells = cs) {z : Value} {s : Nat} (hu : P.underlying T = some (.slice e)) (hi : (P.info? e).map (fun i => (i.zero, i.size)) = some (some z, s)) (hs : cs.size = s) (h0 : 0 < s) (h1 : s ≤ 1000)
    (k : Sh (∀ V g, CB V g e cs → Fr w V g → wpList P ops Q rest (a.put dst (.slice (some ⟨g, 0, none⟩) 1 1)) V)) : wpList P ops Q (⟨dst, .buildSlice T 1 #[(0, x)], ty, pos, aft, none⟩ :: rest) a w :=
  wpList_plain rfl fun K hK => by
    have h : (Instr.buildSlice T 1 ((#[(0, x)] : Array (Nat × Operand)).map fun (i, x) => (i, a.eval x))).run P w = .ok (.slice (some ⟨w.heap.size, 0, none⟩) 1 1) (w.alloc (.cells cs e)) := by
      have := run_litv (P := P) w T e v cs hv hu hi hs h0 h1
      simpa [hx] using this
    unfold Oper.wp execOp
    simp only [Sem.run_bind, Sem.run_pure, Result.andThen_ok, h]
    exact hK _ _ (k.out _ _ (CB.new w e cs) ⟨rfl, le_al _ _⟩)
theorem rd_litv {P : Program} {ops : Array Oper} {o : Oper} {a : Act} {w : World} {K : Act → World → Prop} {Q : Exit → Act → World → Prop} (hgd : o.guard = none) (T e : TypeId) (x : Operand) (ho : o.op = .buildSlice T 1 #[(0, x)]) (d : Option Tmp) (hd : o.dst = d) (v : Value) (cs : Array Value) (hx : a.eval x = v) (hv : v.cells = cs) {z : Value} {s : Nat} (hu : P.underlying T = some (.slice e)) (hi : (P.info? e).map (fun i => (i.zero, i.size)) = some (some z, s)) (hs : cs.size = s) (h0 : 0 < s) (h1 : s ≤ 1000)
    (k : Sh (∀ V g, CB V g e cs → Fr w V g → K (a.put d (.slice (some ⟨g, 0, none⟩) 1 1)) V)) : if Region.wanted o (yielded ops a.tmps) = true then Oper.wp P o a w K Q else K (a.put o.dst undef) w := by
  subst hd
  rw [if_pos (by simp [Region.wanted, hgd])]
  have h : (Instr.buildSlice T 1 ((#[(0, x)] : Array (Nat × Operand)).map fun (i, x) => (i, a.eval x))).run P w = .ok (.slice (some ⟨w.heap.size, 0, none⟩) 1 1) (w.alloc (.cells cs e)) := by
    have := run_litv (P := P) w T e v cs hv hu hi hs h0 h1
    simpa [hx] using this
  unfold Oper.wp execOp
  simp only [ho, Sem.run_bind, Sem.run_pure, Result.andThen_ok, h]
  exact k.out _ _ (CB.new w e cs) ⟨rfl, le_al _ _⟩
theorem tmod_nat (a b : Nat) : (a : Int).tmod (b : Int) = ((a % b : Nat) : Int) := by rw [Int.tmod_eq_emod_of_nonneg (by omega)]; omega
section
variable {α β : Type} {c : α → List Value} {s : Nat} [Nonempty (EncOk c s)] {c' : β → List Value} {s' : Nat} [Nonempty (EncOk c' s')] {W V : World} {N M : Nat} {T U : TypeId} {A A' : Option Addr} {n q n' q' : Nat} {L : List α} {L' : List β} {G G' H : Option Nat}
theorem SO.noT (h : SO N W T c s A n q L G) {g : Nat} {cs : Array Value} (hc : CB W g U cs) (hne : T ≠ U) : ∀ b, G = some b → b ≠ g := fun b e e' => h.seg.ne_ hc hne (by rw [e, e'])
/-- Two slices lie apart. -/
theorem SO.apT (h : SO N W T c s A n q L G) (h' : SO M W U c' s' A' n' q' L' G') (hne : T ≠ U) : ∀ g, G = some g → some g ≠ G' := h.seg.apart h'.seg hne
theorem ap_new (h : SO N W T c s A n q L G) (hl : ∀ g, G' = some g → g < N) : ∀ g, G = some g → some g ≠ G' := fun g e e' => by have := h.hi g e; have := hl g e'.symm; omega
theorem ap_moved (h : SO N W T c s A n q L G) (ha : ∀ g, G = some g → some g ≠ G') (hm : Moved W G' H) : ∀ g, G = some g → some g ≠ H := fun g e => by
  rcases hm with rfl | ⟨g', rfl, hg'⟩
  · exact ha g e
  · intro e'; cases e'; have := h.seg.lt g e; omega
theorem ap_flip (ha : ∀ g, G = some g → some g ≠ G') : ∀ g, G' = some g → some g ≠ G := fun g e e' => ha g e'.symm e.symm
theorem RR.elemAt (h : RR W c s A n q L) {k : Nat} {x : α} (hx : L[k]? = some x) {g off : Nat} (hA : A = some ⟨g, off, none⟩) : W.rangeAt g (off + k * s) (c x) := by
  have hk : k < n := by rw [← h.len]; exact (List.getElem?_eq_some_iff.1 hx).1
  obtain ⟨g', off', y, h1, h2, h3⟩ := h.elem hk
  rw [hx] at h1
  cases h1
  rw [hA] at h2
  cases h2
  exact h3
end
theorem res_cct {fn : Func} {p q r : Tmp} {T1 T2 : TypeId} (h : fn.results = #[.cell p T1, .cell q T2, .tmp r]) {P : Program} {tmps : Array Value} {w : World} {g1 g2 : Nat} {U1 U2 : TypeId} {c1 c2 : Array Value} {d1 d2 : TypeDesc} {x : Value}
    (hp : tmps.getD p undef = .pointer (some ⟨g1, 0, none⟩)) (hq : tmps.getD q undef = .pointer (some ⟨g2, 0, none⟩)) (hr : tmps.getD r undef = x) (hg1 : CB w g1 U1 c1) (hg2 : CB w g2 U2 c2)
    (hu1 : P.underlying T1 = some d1) (hd1 : d1.isRow = true) (hi1 : (P.info? T1).map (·.size) = some c1.size) (hu2 : P.underlying T2 = some d2) (hd2 : d2.isRow = true) (hi2 : (P.info? T2).map (·.size) = some c2.size) :
    (results fn tmps).run P w = .ok (.tuple #[.agg c1, .agg c2, x]) w := by
  subst hr
  have hp' : tmps[p]?.getD undef = .pointer (some ⟨g1, 0, none⟩) := by simpa using hp
  have hq' : tmps[q]?.getD undef = .pointer (some ⟨g2, 0, none⟩) := by simpa using hq
  simp [results, h, hp', hq', asAddr, run_loadVar_row w g1 U1 T1 c1 (0, 0) d1 hg1 hu1 (by cases d1 <;> simp_all [TypeDesc.isRow]) hi1, run_loadVar_row w g2 U2 T2 c2 (0, 0) d2 hg2 hu2 (by cases d2 <;> simp_all [TypeDesc.isRow]) hi2]
theorem res_ctt {fn : Func} {p q r : Tmp} {T : TypeId} (h : fn.results = #[.cell p T, .tmp q, .tmp r]) {P : Program} {tmps : Array Value} {w : World} {g : Nat} {U : TypeId} {cs : Array Value} {d : TypeDesc} {x y : Value}
    (hp : tmps.getD p undef = .pointer (some ⟨g, 0, none⟩)) (hq : tmps.getD q undef = x) (hr : tmps.getD r undef = y) (hg : CB w g U cs) (hu : P.underlying T = some d) (hd : d.isRow = true) (hi : (P.info? T).map (·.size) = some cs.size) :
    (results fn tmps).run P w = .ok (.tuple #[.agg cs, x, y]) w := by
  subst hq hr
  have hp' : tmps[p]?.getD undef = .pointer (some ⟨g, 0, none⟩) := by simpa using hp
  simp [results, h, hp', asAddr, run_loadVar_row w g U T cs (0, 0) d hg hu (by cases d <;> simp_all [TypeDesc.isRow]) hi]
section
variable {P : Program} {ev : Operand → Value} {dst : Option Tmp} {ty : TypeId} {pos : String} {aft : Array Edge} {gd : Option (Nat × Bool)} {w : World}
theorem yl_build3 (T : TypeId) (x0 x1 x2 : Operand) (v0 v1 v2 : Value) (cs : Array Value) (h0 : ev x0 = v0) (h1 : ev x1 = v1) (h2 : ev x2 = v2) (hb : P.built T [(0, v0), (1, v1), (2, v2)] = some cs) :
    (execOp ev ⟨dst, .build T #[(0, x0), (1, x1), (2, x2)], ty, pos, aft, gd⟩).run P w = .ok (.value (.agg cs)) w := by
  have h := run_build (P := P) w T #[(0, v0), (1, v1), (2, v2)] cs hb
  unfold execOp
  simp [Sem.run_bind, h0, h1, h2, h]
theorem yl_build1 (T : TypeId) (i : Nat) (x : Operand) (v : Value) (cs : Array Value) (h0 : ev x = v) (hb : P.built T [(i, v)] = some cs) :
    (execOp ev ⟨dst, .build T #[(i, x)], ty, pos, aft, gd⟩).run P w = .ok (.value (.agg cs)) w := by
  have h := run_build (P := P) w T #[(i, v)] cs hb
  unfold execOp
  simp [Sem.run_bind, h0, h]
end
theorem ld_el {P : Program} {w : World} (T : TypeId) (g o : Nat) (cs : Array Value) (hr : w.rangeAt g o cs.toList) {d : TypeDesc} (hu : P.underlying T = some d) (hd : d.isRow = true) (hi : (P.info? T).map (·.size) = some cs.size) : (loadVar T ⟨g, o, none⟩).run P w = .ok (.agg cs) w := by
  simpa using run_loadVar_mid (P := P) w g o T cs.toList d hr hu hd (by simpa using hi)
theorem rd_loadG {P : Program} {ops : Array Oper} {o : Oper} {a : Act} {w : World} {K : Act → World → Prop} {Q : Exit → Act → World → Prop} (hw : Region.wanted o (yielded ops a.tmps) = true) (T : TypeId) (x : Operand) (ho : o.op = .load T x) (d : Option Tmp) (hd : o.dst = d) (v : Value) (g i : Nat) (hx : a.eval x = .pointer (some ⟨g, i, none⟩)) (hrun : (loadVar T ⟨g, i, none⟩).run P w = .ok v w) (k : Sh (K (a.put d v) w)) : if Region.wanted o (yielded ops a.tmps) = true then Oper.wp P o a w K Q else K (a.put o.dst undef) w := by
  subst hd
  rw [if_pos hw]
  unfold Oper.wp execOp
  simp only [ho, hx, Instr.loadAt, Instr.sureAddr, Sem.run_bind, Sem.run_pure, Result.andThen_ok, hrun]
  exact k.out
theorem st_elemG {P : Program} {ops : Array Oper} {rest : List Oper} {dst : Option Tmp} {ty : TypeId} {pos : String} {aft : Array Edge} {gd : Nat × Bool} {a : Act} {w : World} {Q : Exit → Act → World → Prop} (T : TypeId) (x : Operand) (g o : Nat) (cs : Array Value) (hx : a.eval x = .pointer (some ⟨g, o, none⟩)) (hr : w.rangeAt g o cs.toList) {d : TypeDesc}
    (hu : P.underlying T = some d) (hd : d.isRow = true) (hi : (P.info? T).map (·.size) = some cs.size) (hw : Region.wanted ⟨dst, .load T x, ty, pos, aft, some gd⟩ (yielded ops a.tmps) = true)
    (k : wpList P ops Q rest (a.put dst (.agg cs)) w) : wpList P ops Q (⟨dst, .load T x, ty, pos, aft, some gd⟩ :: rest) a w :=
  wpList_step fun K hK => by
    rw [if_pos hw]
    unfold Oper.wp execOp
    simp only [hx, Instr.loadAt, Instr.sureAddr, Sem.run_bind, Sem.run_pure, Result.andThen_ok, ld_el (P := P) T g o cs hr hu hd hi]
    exact hK _ _ k
theorem ld_one {P : Program} {w : World} (T : TypeId) {g i : Nat} {v : Value} (ha : (isAgg T).run P w = .ok false w) (h : w.cell? ⟨g, i, none⟩ = some v) : (loadVar T ⟨g, i, none⟩).run P w = .ok v w := by
  simp [loadVar, Sem.run_bind, ha, h, go_sem]
/-- A text, a byte, a number as an element of a slice. -/
def scl (t : ByteArray) : List Value := [.string t]
def ucl (x : Nat) : List Value := [.int .u8 (x : Int)]
def icl (x : Int) : List Value := [.int .i64 x]
instance : Nonempty (EncOk scl 1) := ⟨⟨fun _ => rfl, fun x u hu => by simp [scl] at hu; subst hu; rfl, by omega⟩⟩
instance : Nonempty (EncOk ucl 1) := ⟨⟨fun _ => rfl, fun x u hu => by simp [ucl] at hu; subst hu; rfl, by omega⟩⟩
instance : Nonempty (EncOk icl 1) := ⟨⟨fun _ => rfl, fun x u hu => by simp [icl] at hu; subst hu; rfl, by omega⟩⟩
theorem RR.one {α : Type} {f : α → Value} {c : α → List Value} [Nonempty (EncOk c 1)] {w : World} {A : Option Addr} {n q : Nat} {L : List α} (h : RR w c 1 A n q L) (hc : ∀ x, c x = [f x]) {k : Nat} (hk : k < n) : ∃ g off x, L[k]? = some x ∧ A = some ⟨g, off, none⟩ ∧ w.cell? ⟨g, off + k, none⟩ = some (f x) := by
  obtain ⟨g, off, x, h1, h2, h3⟩ := h.at_ hk
  have := h3 0 (f x) (by rw [hc]; rfl)
  rw [Nat.mul_one] at this
  exact ⟨g, off, x, h1, h2, this⟩
theorem RR.oneAt {α : Type} {f : α → Value} {c : α → List Value} [Nonempty (EncOk c 1)] {w : World} {A : Option Addr} {n q : Nat} {L : List α} (h : RR w c 1 A n q L) (hc : ∀ x, c x = [f x]) {k : Nat} {x : α} (hx : L[k]? = some x) {g off : Nat} (hA : A = some ⟨g, off, none⟩) : w.cell? ⟨g, off + k, none⟩ = some (f x) := by
  have := RR.elemAt h hx hA 0 (f x) (by rw [hc]; rfl)
  rwa [Nat.mul_one] at this
end Go.Proofs.Ytfdboahcaiolgaa
