/-
  Records, terms and deals in memory: their cells, slices of them, steps of a walk that load and store them. No condition but what each theorem names.
-/
import Derived.Test.YtjfmahceolhfnaaTyG
import Derived.Test.YtjfmahceolhfnaaTyI
import Derived.Test.YtjfmahceolhfnaaTyJ
import Derived.Test.YtjfmahceolhfnaaTyK
import Derived.Test.YtjfmahceolhfnaaChM
import Derived.Test.YtjfmahceolhfnaaVeD
import Derived.Test.YtjfmahceolhfnaaVeB
import Derived.Test.YtjfmahceolhfnaaRow2
set_option linter.unusedVariables false
set_option linter.unusedSimpArgs false
set_option linter.unusedSectionVars false
namespace Go.Proofs.Ytjfmahceolhfnaa
open Go.RowKit

/-- Terms, a record, a deal of the program and one of the document, as cells. -/
def mA (t : Te.Tm) : Array Value := #[.int .i64 t.dl, .int .i64 t.sp, .int .i64 t.us, .int .i64 t.cp]
def rA (r : Rd) : Array Value := #[.int .i64 r.kind, .int .i64 r.tx, .int .u8 (r.who : Int), .int .i64 r.ep, .int .i64 r.vote, .int .i64 r.now, .int .i64 r.sp, .int .i64 r.cap]
def dA (d : Dl) : Array Value := #[.bool (d.ty.wh 0), .bool (d.ty.wh 1), .bool (d.ty.wh 2), .bool (d.ty.wh 3), .bool (d.ty.wh 4), .bool (d.ty.wh 5), .bool (d.ty.wh 6), .bool (d.ty.wh 7), .int .i64 (d.ty.vt 0), .int .i64 (d.ty.vt 1), .int .i64 (d.ty.vt 2), .int .i64 (d.ty.vt 3), .int .i64 (d.ty.vt 4), .int .i64 (d.ty.vt 5), .int .i64 (d.ty.vt 6), .int .i64 (d.ty.vt 7), .int .i64 (d.ty.ep 0), .int .i64 (d.ty.ep 1), .int .i64 (d.ty.ep 2), .int .i64 (d.ty.ep 3), .int .i64 (d.ty.ep 4), .int .i64 (d.ty.ep 5), .int .i64 (d.ty.ep 6), .int .i64 (d.ty.ep 7), .int .i64 d.tm.dl, .int .i64 d.tm.sp, .int .i64 d.tm.us, .int .i64 d.tm.cp, .int .i64 d.out]
def xA (e : Dd) : Array Value := #[.int .i64 e.tx, .bool (e.d.ty.wh 0), .bool (e.d.ty.wh 1), .bool (e.d.ty.wh 2), .bool (e.d.ty.wh 3), .bool (e.d.ty.wh 4), .bool (e.d.ty.wh 5), .bool (e.d.ty.wh 6), .bool (e.d.ty.wh 7), .int .i64 (e.d.ty.vt 0), .int .i64 (e.d.ty.vt 1), .int .i64 (e.d.ty.vt 2), .int .i64 (e.d.ty.vt 3), .int .i64 (e.d.ty.vt 4), .int .i64 (e.d.ty.vt 5), .int .i64 (e.d.ty.vt 6), .int .i64 (e.d.ty.vt 7), .int .i64 (e.d.ty.ep 0), .int .i64 (e.d.ty.ep 1), .int .i64 (e.d.ty.ep 2), .int .i64 (e.d.ty.ep 3), .int .i64 (e.d.ty.ep 4), .int .i64 (e.d.ty.ep 5), .int .i64 (e.d.ty.ep 6), .int .i64 (e.d.ty.ep 7), .int .i64 e.d.tm.dl, .int .i64 e.d.tm.sp, .int .i64 e.d.tm.us, .int .i64 e.d.tm.cp, .int .i64 e.d.out]
def zeroM : Te.Tm := ⟨0, 0, 0, 0⟩
def zeroR : Rd := ⟨0, 0, 0, 0, 0, 0, 0, 0⟩
def zeroD : Dl := ⟨zeroY, zeroM, 0⟩
def zeroX : Dd := ⟨0, zeroD⟩
/-- The document's chair: two slices. -/
structure Yd where
  a1 : Option Addr
  n1 : Nat
  c1 : Nat
  a2 : Option Addr
  n2 : Nat
  c2 : Nat
def yA (y : Yd) : Array Value := #[.slice y.a1 y.n1 y.c1, .slice y.a2 y.n2 y.c2]
def zeroC : Yd := ⟨none, 0, 0, none, 0, 0⟩
/-- A number in a box. -/
def nA (x : Int) : Array Value := #[.int .i64 x]
theorem mA_size (t : Te.Tm) : (mA t).size = 4 := rfl
theorem rA_size (t : Rd) : (rA t).size = 8 := rfl
theorem dA_size (t : Dl) : (dA t).size = 29 := rfl
theorem xA_size (t : Dd) : (xA t).size = 30 := rfl
theorem yA_size (t : Yd) : (yA t).size = 2 := rfl
theorem nA_size (t : Int) : (nA t).size = 1 := rfl
theorem mA_one (t : Te.Tm) : (mA t).all (·.oneCell') = true := by simp [mA, Value.oneCell']
theorem rA_one (t : Rd) : (rA t).all (·.oneCell') = true := by simp [rA, Value.oneCell']
theorem dA_one (t : Dl) : (dA t).all (·.oneCell') = true := by simp [dA, Value.oneCell']
theorem xA_one (t : Dd) : (xA t).all (·.oneCell') = true := by simp [xA, Value.oneCell']
theorem yA_one (t : Yd) : (yA t).all (·.oneCell') = true := by simp [yA, Value.oneCell']
theorem nA_one (t : Int) : (nA t).all (·.oneCell') = true := by simp [nA, Value.oneCell']
theorem Try.zTm : (Try.prog.info? 42).map (·.size) = some 4 := by kernel_rfl
theorem Try.zTmr : (Try.prog.info? 74).map (·.size) = some 4 := by kernel_rfl
theorem Try.zRk : (Try.prog.info? 33).map (·.size) = some 8 := by kernel_rfl
theorem Try.zRr : (Try.prog.info? 34).map (·.size) = some 8 := by kernel_rfl
theorem Try.zDl : (Try.prog.info? 44).map (·.size) = some 29 := by kernel_rfl
theorem Try.zDr : (Try.prog.info? 76).map (·.size) = some 30 := by kernel_rfl
theorem Try.zCr : (Try.prog.info? 28).map (·.size) = some 2 := by kernel_rfl
theorem zero_tm (V : World) : (zeroValue 42).run Try.prog V = .ok (.agg (mA zeroM)) V := Try.zeroValue42 V
theorem zero_tmr (V : World) : (zeroValue 74).run Try.prog V = .ok (.agg (mA zeroM)) V := Try.zeroValue74 V
theorem zero_rk (V : World) : (zeroValue 33).run Try.prog V = .ok (.agg (rA zeroR)) V := Try.zeroValue33 V
theorem zero_rr (V : World) : (zeroValue 34).run Try.prog V = .ok (.agg (rA zeroR)) V := Try.zeroValue34 V
theorem zero_dl (V : World) : (zeroValue 44).run Try.prog V = .ok (.agg (dA zeroD)) V := Try.zeroValue44 V
theorem zero_dr (V : World) : (zeroValue 76).run Try.prog V = .ok (.agg (xA zeroX)) V := Try.zeroValue76 V
theorem zero_cr (V : World) : (zeroValue 28).run Try.prog V = .ok (.agg (yA zeroC)) V := Try.zeroValue28 V
theorem one_l : (Try.prog.info? 2).map (·.size) = some 1 := by kernel_rfl
theorem one_u : (Try.prog.info? 5).map (·.size) = some 1 := by kernel_rfl
/-- Parts. -/
theorem dA_ty (d : Dl) (S : Ty) : (dA d).extract 0 0 ++ tA S ++ (dA d).extract (0 + (tA S).size) (dA d).size = dA ⟨S, d.tm, d.out⟩ := by simp [dA, tA]
theorem dA_tm (d : Dl) (t : Te.Tm) : (dA d).extract 0 24 ++ mA t ++ (dA d).extract (24 + (mA t).size) (dA d).size = dA ⟨d.ty, t, d.out⟩ := by simp [dA, mA]
theorem dA_out (d : Dl) (x : Int) : (dA d).setIfInBounds 28 (.int .i64 x) = dA ⟨d.ty, d.tm, x⟩ := rfl
theorem xA_ty (e : Dd) (S : Ty) : (xA e).extract 0 1 ++ tA S ++ (xA e).extract (1 + (tA S).size) (xA e).size = xA ⟨e.tx, S, e.d.tm, e.d.out⟩ := by simp [xA, tA]
theorem xA_tm (e : Dd) (t : Te.Tm) : (xA e).extract 0 25 ++ mA t ++ (xA e).extract (25 + (mA t).size) (xA e).size = xA ⟨e.tx, e.d.ty, t, e.d.out⟩ := by simp [xA, mA]
theorem xA_out (e : Dd) (x : Int) : (xA e).setIfInBounds 29 (.int .i64 x) = xA ⟨e.tx, e.d.ty, e.d.tm, x⟩ := rfl
theorem yA_1 (y : Yd) (a : Option Addr) (n c : Nat) : (yA y).setIfInBounds 0 (.slice a n c) = yA ⟨a, n, c, y.a2, y.n2, y.c2⟩ := rfl
theorem yA_2 (y : Yd) (a : Option Addr) (n c : Nat) : (yA y).setIfInBounds 1 (.slice a n c) = yA ⟨y.a1, y.n1, y.c1, a, n, c⟩ := rfl
theorem dA_pty (d : Dl) : (dA d).extract 0 (0 + (tA d.ty).size) = tA d.ty := by simp [dA, tA]
theorem dA_ptm (d : Dl) : (dA d).extract 24 (24 + (mA d.tm).size) = mA d.tm := by simp [dA, mA]
theorem xA_pty (e : Dd) : (xA e).extract 1 (1 + (tA e.d.ty).size) = tA e.d.ty := by simp [xA, tA]
theorem xA_ptm (e : Dd) : (xA e).extract 25 (25 + (mA e.d.tm).size) = mA e.d.tm := by simp [xA, mA]
/-- Structs that are built. -/
theorem built_d (S : Ty) (t : Te.Tm) (x : Int) : Try.prog.built 44 [(0, .agg (tA S)), (1, .agg (mA t)), (2, .int .i64 x)] = some (dA ⟨S, t, x⟩) := by kernel_rfl
theorem built_d0 : Try.prog.built 44 [] = some (dA zeroD) := by kernel_rfl
theorem built_x (tx : Int) (S : Ty) (t : Te.Tm) : Try.prog.built 76 [(0, .int .i64 tx), (1, .agg (tA S)), (2, .agg (mA t))] = some (xA ⟨tx, S, t, 0⟩) := by kernel_rfl
theorem st_built0 {P : Program} {ops : Array Oper} {rest : List Oper} {dst : Option Tmp} {ty : TypeId} {pos : String} {aft : Array Edge} {a : Act} {w : World} {Q : Exit → Act → World → Prop} (T : TypeId) (cs : Array Value) (hb : P.built T [] = some cs)
    (k : wpList P ops Q rest (a.put dst (.agg cs)) w) : wpList P ops Q (⟨dst, .build T #[], ty, pos, aft, none⟩ :: rest) a w := by
  have h : P.built T ((#[] : Array (Nat × Operand)).map fun (i, x) => (i, a.eval x)).toList = some cs := by simpa using hb
  exact wpList_build rfl T #[] rfl (by rw [h]; rfl) (by rw [h]; exact k)
theorem st_built3 {P : Program} {ops : Array Oper} {rest : List Oper} {dst : Option Tmp} {ty : TypeId} {pos : String} {aft : Array Edge} {a : Act} {w : World} {Q : Exit → Act → World → Prop} (T : TypeId) (x0 x1 x2 : Operand) (v0 v1 v2 : Value) (cs : Array Value) (h0 : a.eval x0 = v0) (h1 : a.eval x1 = v1) (h2 : a.eval x2 = v2) (hb : P.built T [(0, v0), (1, v1), (2, v2)] = some cs)
    (k : wpList P ops Q rest (a.put dst (.agg cs)) w) : wpList P ops Q (⟨dst, .build T #[(0, x0), (1, x1), (2, x2)], ty, pos, aft, none⟩ :: rest) a w := by
  have h : P.built T ((#[(0, x0), (1, x1), (2, x2)] : Array (Nat × Operand)).map fun (i, x) => (i, a.eval x)).toList = some cs := by simpa [h0, h1, h2] using hb
  exact wpList_build rfl T #[(0, x0), (1, x1), (2, x2)] rfl (by rw [h]; rfl) (by rw [h]; exact k)
/-- A load of an element. -/
theorem st_elem {P : Program} {ops : Array Oper} {rest : List Oper} {dst : Option Tmp} {ty : TypeId} {pos : String} {aft : Array Edge} {a : Act} {w : World} {Q : Exit → Act → World → Prop} (T : TypeId) (x : Operand) (g o : Nat) (cs : Array Value) (hx : a.eval x = .pointer (some ⟨g, o, none⟩)) (hr : w.rangeAt g o cs.toList) {d : TypeDesc}
    (hu : P.underlying T = some d) (hd : d.isRow = true) (hi : (P.info? T).map (·.size) = some cs.size)
    (k : wpList P ops Q rest (a.put dst (.agg cs)) w) : wpList P ops Q (⟨dst, .load T x, ty, pos, aft, none⟩ :: rest) a w :=
  wpList_load_mid rfl T x rfl g o hx cs.toList d hr hu hd (by simpa using hi) (by simpa using k)
/-- .. in a region that draws its order. -/
theorem yl_elem {P : Program} {ev : Operand → Value} {dst : Option Tmp} {ty : TypeId} {pos : String} {aft : Array Edge} {gd : Option (Nat × Bool)} {w : World} (T : TypeId) (x : Operand) (g o : Nat) (cs : Array Value) (hx : ev x = .pointer (some ⟨g, o, none⟩)) (hr : w.rangeAt g o cs.toList) {d : TypeDesc} (hu : P.underlying T = some d) (hd : d.isRow = true) (hi : (P.info? T).map (·.size) = some cs.size) :
    (execOp ev ⟨dst, .load T x, ty, pos, aft, gd⟩).run P w = .ok (.value (.agg cs)) w := by
  have h : (loadVar T ⟨g, o, none⟩).run P w = .ok (.agg cs) w := by simpa using run_loadVar_mid (P := P) w g o T cs.toList d hr hu hd (by simpa using hi)
  unfold execOp
  simp only [hx, Instr.loadAt, Instr.sureAddr, Sem.run_bind, Sem.run_pure, Result.andThen_ok, h]

section
variable {P : Program} {ops : Array Oper} {o : Oper} {a : Act} {w : World} {K : Act → World → Prop} {Q : Exit → Act → World → Prop}
/-- Steps of a region that draws its order. -/
theorem rd_store (hgd : o.guard = none) (T : TypeId) (x y : Operand) (ho : o.op = .store T x y) (d : Option Tmp) (hd : o.dst = d) (g : Nat) (cs : Array Value) (hx : a.eval x = .pointer (some ⟨g, 0, none⟩)) (hy : a.eval y = .agg cs) {U : TypeId} {old : Array Value} (h : CB w g U old)
    (hi : (P.info? T).map (·.size) = some cs.size) (hold : old.size = cs.size) (h1 : cs.all (·.oneCell') = true)
    (k : Sh (∀ V, CB V g U cs → Wr w V g → K (a.put d undef) V)) : if Region.wanted o (yielded ops a.tmps) = true then Oper.wp P o a w K Q else K (a.put o.dst undef) w := by
  subst hd
  rw [if_pos (by simp [Region.wanted, hgd])]
  exact wp_store_row T x y ho g cs hx hy U old h hi hold h1 (k.out _ (CB.row h cs) (Wr.row h cs))
theorem rd_alloc (hgd : o.guard = none) (T : TypeId) (ho : o.op = .alloc T) (d : Option Tmp) (hd : o.dst = d) (cs : Array Value) (hz : ∀ V : World, (zeroValue T).run P V = .ok (.agg cs) V)
    (k : Sh (∀ V g, CB V g T cs → Fr w V g → K (a.put d (.pointer (some ⟨g, 0, none⟩))) V)) : if Region.wanted o (yielded ops a.tmps) = true then Oper.wp P o a w K Q else K (a.put o.dst undef) w := by
  subst hd
  rw [if_pos (by simp [Region.wanted, hgd])]
  unfold Oper.wp execOp
  simp only [ho, Instr.alloc, hz, Sem.run_bind, newVar, newRow, run_newObj_alloc, Sem.run_pure, Result.andThen_ok]
  exact k.out _ _ (CB.new w T cs) ⟨rfl, le_al _ _⟩
theorem rd_mid (hgd : o.guard = none) (T : TypeId) (x y : Operand) (ho : o.op = .store T x y) (d : Option Tmp) (hd : o.dst = d) (g off : Nat) (pt : Array Value) (hx : a.eval x = .pointer (some ⟨g, off, none⟩)) (hy : a.eval y = .agg pt) {U : TypeId} {cs new : Array Value} (h : CB w g U cs)
    (hof : off + pt.size ≤ cs.size) (hn : cs.extract 0 off ++ pt ++ cs.extract (off + pt.size) cs.size = new) (hi : (P.info? T).map (·.size) = some pt.size) (h1 : pt.all (·.oneCell') = true)
    (k : Sh (∀ V, CB V g U new → Wr w V g → K (a.put d undef) V)) : if Region.wanted o (yielded ops a.tmps) = true then Oper.wp P o a w K Q else K (a.put o.dst undef) w := by
  subst hd
  rw [if_pos (by simp [Region.wanted, hgd])]
  have ht : w.there g off pt.size := fun j hj => ⟨by rw [h.cell, Array.getElem?_eq_getElem (show off + j < cs.size by omega)]; rfl, h.frozen _⟩
  refine wp_store_mid T x y ho g off pt hx hy ht hi h1 (k.out _ ?_ (cb_cells _ _ _ _ h))
  have := cb_puts pt.toList off w cs h (by simpa using hof)
  exact cb_cast this (by simpa using hn)
theorem rd_cell (hgd : o.guard = none) (T : TypeId) (x y : Operand) (ho : o.op = .store T x y) (d : Option Tmp) (hd : o.dst = d) (g i : Nat) (v : Value) (hx : a.eval x = .pointer (some ⟨g, i, none⟩)) (hy : a.eval y = v) {U : TypeId} {cs new : Array Value} (h : CB w g U cs)
    (hlt : i < cs.size) (hn : cs.setIfInBounds i v = new) (hi : (P.info? T).map (·.size) = some 1) (hv : v.cells = #[v]) (h1 : v.oneCell' = true)
    (k : Sh (∀ V, CB V g U new → Wr w V g → K (a.put d undef) V)) : if Region.wanted o (yielded ops a.tmps) = true then Oper.wp P o a w K Q else K (a.put o.dst undef) w := by
  subst hd hn
  rw [if_pos (by simp [Region.wanted, hgd])]
  have hc := h.cell i
  rw [Array.getElem?_eq_getElem hlt] at hc
  have hs : (Instr.storeAt T (.pointer (some ⟨g, i, none⟩)) v).run P w = .ok () (w.setCell ⟨g, i, none⟩ v) := by
    cases hq : P.info? T with
    | none => simp [hq] at hi
    | some j =>
      have hj : j.size = 1 := by simpa [hq] using hi
      have hadd : (⟨g, i, none⟩ : Addr).add 0 = ⟨g, i, none⟩ := by rw [Addr.add_mid]; rfl
      simp only [Instr.storeAt, Instr.sureAddr, Sem.run_bind, Sem.run_pure, Result.andThen_ok]
      simp [storeVar, sizeOf, typeInfo, hq, hj, hv, Sem.run_bind, storeCells, hadd, run_store P w _ v _ h1, hc, h.frozen i]
  unfold Oper.wp execOp
  simp only [ho, hx, hy, Sem.run_bind, Sem.run_pure, Result.andThen_ok, hs]
  exact k.out _ (h.put i v) (Wr.cell h i v)
end

theorem parts_of {P : Program} {T : TypeId} {z : Value} {s b : Nat} (h : (P.info? T).map (fun i => (i.zero, i.size, i.bytes)) = some (some z, s, b)) : ∃ i, P.info? T = some i ∧ i.zero = some z ∧ i.size = s ∧ i.bytes = b := by
  cases hq : P.info? T with
  | none => rw [hq] at h; cases h
  | some i => rw [hq] at h; simp at h; exact ⟨i, rfl, h.1, h.2.1, h.2.2⟩
/-! ### slices of records and deals -/
def kcl (r : Rd) : List Value := (rA r).toList
def xcl (e : Dd) : List Value := (xA e).toList
theorem all_list {cs : Array Value} (h : cs.all (·.oneCell') = true) : ∀ u ∈ cs.toList, u.oneCell' = true := fun u hu => by
  rw [Array.all_eq_true] at h
  obtain ⟨i, hi, e⟩ := Array.mem_iff_getElem.1 (Array.mem_def.2 hu)
  have := h i hi
  rw [e] at this
  exact this
instance : Nonempty (EncOk kcl 8) := ⟨⟨fun _ => rfl, fun x => all_list (rA_one x), by omega⟩⟩
instance : Nonempty (EncOk xcl 30) := ⟨⟨fun _ => rfl, fun x => all_list (xA_one x), by omega⟩⟩
abbrev KK (w : World) (A : Option Addr) (n c : Nat) (L : List Rd) : Prop := RS w 33 kcl 8 A n c L
abbrev KD (w : World) (A : Option Addr) (n c : Nat) (L : List Rd) : Prop := RS w 34 kcl 8 A n c L
abbrev XD (w : World) (A : Option Addr) (n c : Nat) (L : List Dd) : Prop := RS w 76 xcl 30 A n c L
theorem RR.elem {α : Type} {c : α → List Value} {s : Nat} [Nonempty (EncOk c s)] {w : World} {A : Option Addr} {n q : Nat} {L : List α} (h : RR w c s A n q L) {k : Nat} (hk : k < n) : ∃ g off x, L[k]? = some x ∧ A = some ⟨g, off, none⟩ ∧ w.rangeAt g (off + k * s) (c x) := by
  obtain ⟨g, off, x, h1, h2, h3⟩ := h.at_ hk
  exact ⟨g, off, x, h1, h2, fun i v hv => h3 i v hv⟩
theorem RS.wr {α : Type} {c : α → List Value} {s : Nat} [Nonempty (EncOk c s)] {w V : World} {T U : TypeId} {A : Option Addr} {n q g : Nat} {L : List α} {cs : Array Value} (h : RS w T c s A n q L) (k : Wr w V g) (hc : CB w g U cs) (hne : T ≠ U) : RS V T c s A n q L := by
  obtain ⟨G, h2⟩ := h
  exact ⟨G, h2.keep fun b hb => k.far b (fun e => h2.ne_ hc hne (by rw [hb, e]))⟩
theorem RS.max {α : Type} {c : α → List Value} {s : Nat} [Nonempty (EncOk c s)] {w : World} {T : TypeId} {A : Option Addr} {n q : Nat} {L : List α} (h : RS w T c s A n q L) : n ≤ 9223372036854775807 := by
  have h1 := h.rr.cap
  have h2 := h.rr.max
  simp only [maxLen] at h2
  omega
end Go.Proofs.Ytjfmahceolhfnaa
