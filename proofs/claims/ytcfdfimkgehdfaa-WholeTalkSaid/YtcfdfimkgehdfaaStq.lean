/-
  More steps of a walk, for any program: slices that lie below, slices of a call's own with their block, literals of one thing, guarded loads, structs that are built, ends of functions. No condition but what each theorem names.
-/
import Derived.Test.YtcfdfimkgehdfaaStp
set_option linter.unusedVariables false
set_option linter.unusedSimpArgs false
set_option linter.unusedSectionVars false
namespace Go.Proofs.Ytcfdfimkgehdfaa
open Go.RowKit

theorem st_built2 {P : Program} {ops : Array Oper} {rest : List Oper} {dst : Option Tmp} {ty : TypeId} {pos : String} {aft : Array Edge} {a : Act} {w : World} {Q : Exit → Act → World → Prop} (T : TypeId) (x0 x1 : Operand) (v0 v1 : Value) (cs : Array Value) (h0 : a.eval x0 = v0) (h1 : a.eval x1 = v1) (hb : P.built T [(0, v0), (1, v1)] = some cs)
    (k : wpList P ops Q rest (a.put dst (.agg cs)) w) : wpList P ops Q (⟨dst, .build T #[(0, x0), (1, x1)], ty, pos, aft, none⟩ :: rest) a w := by
  have h : P.built T ((#[(0, x0), (1, x1)] : Array (Nat × Operand)).map fun (i, x) => (i, a.eval x)).toList = some cs := by simpa [h0, h1] using hb
  exact wpList_build rfl T #[(0, x0), (1, x1)] rfl (by rw [h]; rfl) (by rw [h]; exact k)
theorem st_builtn {P : Program} {ops : Array Oper} {rest : List Oper} {dst : Option Tmp} {ty : TypeId} {pos : String} {aft : Array Edge} {a : Act} {w : World} {Q : Exit → Act → World → Prop} (T : TypeId) (i : Nat) (x : Operand) (v : Value) (cs : Array Value) (hx : a.eval x = v) (hb : P.built T [(i, v)] = some cs)
    (k : wpList P ops Q rest (a.put dst (.agg cs)) w) : wpList P ops Q (⟨dst, .build T #[(i, x)], ty, pos, aft, none⟩ :: rest) a w := by
  have h : P.built T ((#[(i, x)] : Array (Nat × Operand)).map fun (i, x) => (i, a.eval x)).toList = some cs := by simpa [hx] using hb
  exact wpList_build rfl T #[(i, x)] rfl (by rw [h]; rfl) (by rw [h]; exact k)
/-- A slice that lies below world w's blocks. -/
structure RL {α : Type} (w W : World) (c : α → List Value) (s : Nat) (A : Option Addr) (n q : Nat) (L : List α) : Prop where
  rr : RR W c s A n q L
  lo : ∀ b off, A = some ⟨b, off, none⟩ → 0 < n → b < w.heap.size
section
variable {α : Type} {c : α → List Value} {s : Nat} [Nonempty (EncOk c s)] {w W V : World} {A : Option Addr} {n q : Nat} {L : List α}
theorem RL.start (h : RR w c s A n q L) : RL w w c s A n q L := ⟨h, fun _ _ hA hn => h.lt hA hn⟩
theorem RL.on (h : RL w W c s A n q L) (hb : Below W.heap.size W V) : RL w V c s A n q L := ⟨h.rr.on hb, h.lo⟩
theorem RL.wr {g : Nat} (h : RL w W c s A n q L) (k : Wr W V g) (hg : w.heap.size ≤ g) : RL w V c s A n q L := ⟨h.rr.keep fun b off hA hn _ => k.far b (by have := h.lo b off hA hn; omega), h.lo⟩
theorem RL.drew (h : RL w W c s A n q L) : RL w W.drew c s A n q L := ⟨h.rr.drew, h.lo⟩
theorem RL.grow {G : Option Nat} (h : RL w W c s A n q L) (hg : W.grownBy V G) (hG : ∀ g, G = some g → w.heap.size ≤ g) : RL w V c s A n q L := ⟨h.rr.keep fun b off hA hn hlt => hg.block b hlt (fun e => by have := h.lo b off hA hn; have := hG b e.symm; omega), h.lo⟩
theorem RL.low (h : RL w W c s A n q L) (hb : Below w.heap.size w V) (h0 : RR w c s A n q L) : RL w V c s A n q L := ⟨h0.on hb, h.lo⟩
theorem RL.len (h : RL w W c s A n q L) : L.length = n := h.rr.len
theorem RL.max (h : RL w W c s A n q L) : n ≤ 9223372036854775807 := by
  have h1 := h.rr.cap
  have h2 := h.rr.max
  simp only [maxLen] at h2
  omega
end
/-- A slice of a call's own: it lies at or above N. -/
structure SO {α : Type} (N : Nat) (W : World) (T : TypeId) (c : α → List Value) (s : Nat) (A : Option Addr) (n q : Nat) (L : List α) (G : Option Nat) : Prop where
  seg : Seg W T s A n q (rc c L) G
  hi : ∀ g, G = some g → N ≤ g
section
variable {α : Type} {c : α → List Value} {s : Nat} [Nonempty (EncOk c s)] {W V : World} {N : Nat} {T : TypeId} {A : Option Addr} {n q : Nat} {L : List α} {G : Option Nat}
theorem SO.rr (h : SO N W T c s A n q L G) : RR W c s A n q L := RR.of_seg h.seg
theorem SO.on (h : SO N W T c s A n q L G) (hb : Below W.heap.size W V) : SO N V T c s A n q L G := ⟨h.seg.on hb, h.hi⟩
theorem SO.mono {M : Nat} (h : SO N W T c s A n q L G) (hm : M ≤ N) : SO M W T c s A n q L G := ⟨h.seg, fun g e => Nat.le_trans hm (h.hi g e)⟩
theorem SO.drew (h : SO N W T c s A n q L G) : SO N W.drew T c s A n q L G := ⟨h.seg, h.hi⟩
theorem SO.len (h : SO N W T c s A n q L G) : L.length = n := h.rr.len
theorem SO.max (h : SO N W T c s A n q L G) : n ≤ 9223372036854775807 := by
  have h1 := h.rr.cap
  have h2 := h.rr.max
  simp only [maxLen] at h2
  omega
/-- A box that is new is none of the slice's. -/
theorem SO.fresh (h : SO N W T c s A n q L G) {g : Nat} (hg : W.heap.size ≤ g) : ∀ b, G = some b → b ≠ g := fun b e => by have := h.seg.lt b e; omega
theorem SO.above (h : SO N W T c s A n q L G) {g : Nat} (hg : g < N) : ∀ b, G = some b → b ≠ g := fun b e => by have := h.hi b e; omega
theorem SO.wr {g : Nat} (h : SO N W T c s A n q L G) (k : Wr W V g) (hg : ∀ b, G = some b → b ≠ g) : SO N V T c s A n q L G := ⟨h.seg.keep fun b e => k.far b (hg b e), h.hi⟩
theorem SO.grow {H : Option Nat} (h : SO N W T c s A n q L G) (hg : W.grownBy V H) (hne : ∀ b, G = some b → some b ≠ H) : SO N V T c s A n q L G := ⟨h.seg.keep fun b e => hg.block b (h.seg.lt b e) (hne b e), h.hi⟩
theorem SO.nil (N : Nat) (W : World) (T : TypeId) (c : α → List Value) (s : Nat) : SO N W T c s none 0 0 [] none := ⟨Seg.nil _ _ _, fun _ e => by cases e⟩
end
theorem moved_ne {w : World} {G G' : Option Nat} (h : Moved w G G') {g : Nat} (hg : g < w.heap.size) (hG : ∀ b, G = some b → b ≠ g) : ∀ b, G' = some b → b ≠ g := by
  rcases h with rfl | ⟨g', rfl, hg'⟩
  · exact hG
  · intro b e; cases e; omega
/-- A slice literal of one thing. -/
theorem run_litv {P : Program} (w : World) (T e : TypeId) (v : Value) (cs : Array Value) (hv : v.cells = cs) {z : Value} {s : Nat} (hu : P.underlying T = some (.slice e)) (hi : (P.info? e).map (fun i => (i.zero, i.size)) = some (some z, s)) (hs : cs.size = s) (h0 : 0 < s) (h1 : s ≤ 1000) :
    (Instr.buildSlice T 1 #[(0, v)]).run P w = .ok (.slice (some ⟨w.heap.size, 0, none⟩) 1 1) (w.alloc (.cells cs e)) := by
  cases hq : P.info? e with
  | none => rw [hq] at hi; cases hi
  | some ie =>
    rw [hq] at hi
    simp at hi
    have hz : ie.zero = some z := hi.1
    have hsz : ie.size = s := hi.2
    have hf : Instr.fill (fun i => some (i * s, s)) ((Array.range (1 * s)).map (z.cells[· % z.cells.size]!)) [(0, v)] = some cs := by
      unfold Instr.fill
      simp only [Nat.zero_mul]
      rw [hv, if_neg (by simp [hs])]
      unfold Instr.fill
      exact congrArg some (fold_put cs ((Array.range (1 * s)).map (z.cells[· % z.cells.size]!)) (by simp [hs]))
    simp only [Nat.one_mul] at hf
    have hg : ¬ s > 16777216 := by omega
    have hne : ¬ s = 0 := by omega
    simp [Instr.buildSlice, run_underlying hu, sizeOf, typeInfo, zeroValue, hq, hz, hsz, hf, newRow, hg, hne]
theorem st_litv {P : Program} {ops : Array Oper} {rest : List Oper} {dst : Option Tmp} {ty : TypeId} {pos : String} {aft : Array Edge} {a : Act} {w : World} {Q : Exit → Act → World → Prop} (T e : TypeId) (x : Operand) (v : Value) (cs : Array Value) (hx : a.eval x = v) (hv : v.cells = cs) {z : Value} {s : Nat} (hu : P.underlying T = some (.slice e)) (hi : (P.info? e).map (fun i => (i.zero, i.size)) = some (some z, s)) (hs : cs.size = s) (h0 : 0 < s) (h1 : s ≤ 1000)
    (k : Sh (∀ V g, CB V g e cs → Fr w V g → wpList P ops Q rest (a.put dst (.slice (some ⟨g, 0, none⟩) 1 1)) V)) : wpList P ops Q (⟨dst, .buildSlice T 1 #[(0, x)], ty, pos, aft, none⟩ :: rest) a w :=
  wpList_plain rfl fun K hK => by
    have h : (Instr.buildSlice T 1 ((#[(0, x)] : Array (Nat × Operand)).map fun (i, x) => (i, a.eval x))).run P w = .ok (.slice (some ⟨w.heap.size, 0, none⟩) 1 1) (w.alloc (.cells cs e)) := by
      have := run_litv (P := P) w T e v cs hv hu hi hs h0 h1
      simpa [hx] using this
    unfold Oper.wp execOp
    simp only [Sem.run_bind, Sem.run_pure, Result.andThen_ok, h]
    exact hK _ _ (k.out _ _ (CB.new w e cs) ⟨rfl, le_al _ _⟩)
theorem rd_litv {P : Program} {ops : Array Oper} {o : Oper} {a : Act} {w : World} {K : Act → World → Prop} {Q : Exit → Act → World → Prop} (hgd : o.guard = none) (T e : TypeId) (x : Operand) (ho : o.op = .buildSlice T 1 #[(0, x)]) (d : Option Tmp) (hd : o.dst = d) (v : Value) (cs : Array Value) (hx : a.eval x = v) (hv : v.cells = cs) {z : Value} {s : Nat} (hu : P.underlying T = some (.slice e)) (hi : (P.info? e).map (fun i => (i.zero, i.size)) = some (some z, s)) (hs : cs.size = s) (h0 : 0 < s) (h1 : s ≤ 1000)
    (k : Sh (∀ V g, CB V g e cs → Fr w V g → K (a.put d (.slice (some ⟨g, 0, none⟩) 1 1)) V)) : if Region.wanted o (yielded ops a.tmps) = true then Oper.wp P o a w K Q else K (a.put o.dst undef) w := by
  subst hd
  rw [if_pos (by simp [Region.wanted, hgd])]
  have h : (Instr.buildSlice T 1 ((#[(0, x)] : Array (Nat × Operand)).map fun (i, x) => (i, a.eval x))).run P w = .ok (.slice (some ⟨w.heap.size, 0, none⟩) 1 1) (w.alloc (.cells cs e)) := by
    have := run_litv (P := P) w T e v cs hv hu hi hs h0 h1
    simpa [hx] using this
  unfold Oper.wp execOp
  simp only [ho, Sem.run_bind, Sem.run_pure, Result.andThen_ok, h]
  exact k.out _ _ (CB.new w e cs) ⟨rfl, le_al _ _⟩
theorem tmod_nat (a b : Nat) : (a : Int).tmod (b : Int) = ((a % b : Nat) : Int) := by rw [Int.tmod_eq_emod_of_nonneg (by omega)]; omega
section
variable {α β : Type} {c : α → List Value} {s : Nat} [Nonempty (EncOk c s)] {c' : β → List Value} {s' : Nat} [Nonempty (EncOk c' s')] {W V : World} {N M : Nat} {T U : TypeId} {A A' : Option Addr} {n q n' q' : Nat} {L : List α} {L' : List β} {G G' H : Option Nat}
theorem SO.noT (h : SO N W T c s A n q L G) {g : Nat} {cs : Array Value} (hc : CB W g U cs) (hne : T ≠ U) : ∀ b, G = some b → b ≠ g := fun b e e' => h.seg.ne_ hc hne (by rw [e, e'])
/-- Two slices lie apart. -/
theorem SO.apT (h : SO N W T c s A n q L G) (h' : SO M W U c' s' A' n' q' L' G') (hne : T ≠ U) : ∀ g, G = some g → some g ≠ G' := h.seg.apart h'.seg hne
theorem ap_new (h : SO N W T c s A n q L G) (hl : ∀ g, G' = some g → g < N) : ∀ g, G = some g → some g ≠ G' := fun g e e' => by have := h.hi g e; have := hl g e'.symm; omega
theorem ap_moved (h : SO N W T c s A n q L G) (ha : ∀ g, G = some g → some g ≠ G') (hm : Moved W G' H) : ∀ g, G = some g → some g ≠ H := fun g e => by
  rcases hm with rfl | ⟨g', rfl, hg'⟩
  · exact ha g e
  · intro e'; cases e'; have := h.seg.lt g e; omega
theorem ap_flip (ha : ∀ g, G = some g → some g ≠ G') : ∀ g, G' = some g → some g ≠ G := fun g e e' => ha g e'.symm e.symm
theorem RR.elemAt (h : RR W c s A n q L) {k : Nat} {x : α} (hx : L[k]? = some x) {g off : Nat} (hA : A = some ⟨g, off, none⟩) : W.rangeAt g (off + k * s) (c x) := by
  have hk : k < n := by rw [← h.len]; exact (List.getElem?_eq_some_iff.1 hx).1
  obtain ⟨g', off', y, h1, h2, h3⟩ := h.elem hk
  rw [hx] at h1
  cases h1
  rw [hA] at h2
  cases h2
  exact h3
end
theorem res_cct {fn : Func} {p q r : Tmp} {T1 T2 : TypeId} (h : fn.results = #[.cell p T1, .cell q T2, .tmp r]) {P : Program} {tmps : Array Value} {w : World} {g1 g2 : Nat} {U1 U2 : TypeId} {c1 c2 : Array Value} {d1 d2 : TypeDesc} {x : Value}
    (hp : tmps.getD p undef = .pointer (some ⟨g1, 0, none⟩)) (hq : tmps.getD q undef = .pointer (some ⟨g2, 0, none⟩)) (hr : tmps.getD r undef = x) (hg1 : CB w g1 U1 c1) (hg2 : CB w g2 U2 c2)
    (hu1 : P.underlying T1 = some d1) (hd1 : d1.isRow = true) (hi1 : (P.info? T1).map (·.size) = some c1.size) (hu2 : P.underlying T2 = some d2) (hd2 : d2.isRow = true) (hi2 : (P.info? T2).map (·.size) = some c2.size) :
    (results fn tmps).run P w = .ok (.tuple #[.agg c1, .agg c2, x]) w := by
  subst hr
  have hp' : tmps[p]?.getD undef = .pointer (some ⟨g1, 0, none⟩) := by simpa using hp
  have hq' : tmps[q]?.getD undef = .pointer (some ⟨g2, 0, none⟩) := by simpa using hq
  simp [results, h, hp', hq', asAddr, run_loadVar_row w g1 U1 T1 c1 (0, 0) d1 hg1 hu1 (by cases d1 <;> simp_all [TypeDesc.isRow]) hi1, run_loadVar_row w g2 U2 T2 c2 (0, 0) d2 hg2 hu2 (by cases d2 <;> simp_all [TypeDesc.isRow]) hi2]
theorem res_ctt {fn : Func} {p q r : Tmp} {T : TypeId} (h : fn.results = #[.cell p T, .tmp q, .tmp r]) {P : Program} {tmps : Array Value} {w : World} {g : Nat} {U : TypeId} {cs : Array Value} {d : TypeDesc} {x y : Value}
    (hp : tmps.getD p undef = .pointer (some ⟨g, 0, none⟩)) (hq : tmps.getD q undef = x) (hr : tmps.getD r undef = y) (hg : CB w g U cs) (hu : P.underlying T = some d) (hd : d.isRow = true) (hi : (P.info? T).map (·.size) = some cs.size) :
    (results fn tmps).run P w = .ok (.tuple #[.agg cs, x, y]) w := by
  subst hq hr
  have hp' : tmps[p]?.getD undef = .pointer (some ⟨g, 0, none⟩) := by simpa using hp
  simp [results, h, hp', asAddr, run_loadVar_row w g U T cs (0, 0) d hg hu (by cases d <;> simp_all [TypeDesc.isRow]) hi]
section
variable {P : Program} {ev : Operand → Value} {dst : Option Tmp} {ty : TypeId} {pos : String} {aft : Array Edge} {gd : Option (Nat × Bool)} {w : World}
theorem yl_build3 (T : TypeId) (x0 x1 x2 : Operand) (v0 v1 v2 : Value) (cs : Array Value) (h0 : ev x0 = v0) (h1 : ev x1 = v1) (h2 : ev x2 = v2) (hb : P.built T [(0, v0), (1, v1), (2, v2)] = some cs) :
    (execOp ev ⟨dst, .build T #[(0, x0), (1, x1), (2, x2)], ty, pos, aft, gd⟩).run P w = .ok (.value (.agg cs)) w := by
  have h := run_build (P := P) w T #[(0, v0), (1, v1), (2, v2)] cs hb
  unfold execOp
  simp [Sem.run_bind, h0, h1, h2, h]
theorem yl_build1 (T : TypeId) (i : Nat) (x : Operand) (v : Value) (cs : Array Value) (h0 : ev x = v) (hb : P.built T [(i, v)] = some cs) :
    (execOp ev ⟨dst, .build T #[(i, x)], ty, pos, aft, gd⟩).run P w = .ok (.value (.agg cs)) w := by
  have h := run_build (P := P) w T #[(i, v)] cs hb
  unfold execOp
  simp [Sem.run_bind, h0, h]
end
theorem ld_el {P : Program} {w : World} (T : TypeId) (g o : Nat) (cs : Array Value) (hr : w.rangeAt g o cs.toList) {d : TypeDesc} (hu : P.underlying T = some d) (hd : d.isRow = true) (hi : (P.info? T).map (·.size) = some cs.size) : (loadVar T ⟨g, o, none⟩).run P w = .ok (.agg cs) w := by
  simpa using run_loadVar_mid (P := P) w g o T cs.toList d hr hu hd (by simpa using hi)
theorem rd_loadG {P : Program} {ops : Array Oper} {o : Oper} {a : Act} {w : World} {K : Act → World → Prop} {Q : Exit → Act → World → Prop} (hw : Region.wanted o (yielded ops a.tmps) = true) (T : TypeId) (x : Operand) (ho : o.op = .load T x) (d : Option Tmp) (hd : o.dst = d) (v : Value) (g i : Nat) (hx : a.eval x = .pointer (some ⟨g, i, none⟩)) (hrun : (loadVar T ⟨g, i, none⟩).run P w = .ok v w) (k : Sh (K (a.put d v) w)) : if Region.wanted o (yielded ops a.tmps) = true then Oper.wp P o a w K Q else K (a.put o.dst undef) w := by
  subst hd
  rw [if_pos hw]
  unfold Oper.wp execOp
  simp only [ho, hx, Instr.loadAt, Instr.sureAddr, Sem.run_bind, Sem.run_pure, Result.andThen_ok, hrun]
  exact k.out
theorem st_elemG {P : Program} {ops : Array Oper} {rest : List Oper} {dst : Option Tmp} {ty : TypeId} {pos : String} {aft : Array Edge} {gd : Nat × Bool} {a : Act} {w : World} {Q : Exit → Act → World → Prop} (T : TypeId) (x : Operand) (g o : Nat) (cs : Array Value) (hx : a.eval x = .pointer (some ⟨g, o, none⟩)) (hr : w.rangeAt g o cs.toList) {d : TypeDesc}
    (hu : P.underlying T = some d) (hd : d.isRow = true) (hi : (P.info? T).map (·.size) = some cs.size) (hw : Region.wanted ⟨dst, .load T x, ty, pos, aft, some gd⟩ (yielded ops a.tmps) = true)
    (k : wpList P ops Q rest (a.put dst (.agg cs)) w) : wpList P ops Q (⟨dst, .load T x, ty, pos, aft, some gd⟩ :: rest) a w :=
  wpList_step fun K hK => by
    rw [if_pos hw]
    unfold Oper.wp execOp
    simp only [hx, Instr.loadAt, Instr.sureAddr, Sem.run_bind, Sem.run_pure, Result.andThen_ok, ld_el (P := P) T g o cs hr hu hd hi]
    exact hK _ _ k
theorem ld_one {P : Program} {w : World} (T : TypeId) {g i : Nat} {v : Value} (ha : (isAgg T).run P w = .ok false w) (h : w.cell? ⟨g, i, none⟩ = some v) : (loadVar T ⟨g, i, none⟩).run P w = .ok v w := by
  simp [loadVar, Sem.run_bind, ha, h, go_sem]
/-- A text, a byte, a number as an element of a slice. -/
def scl (t : ByteArray) : List Value := [.string t]
def ucl (x : Nat) : List Value := [.int .u8 (x : Int)]
def icl (x : Int) : List Value := [.int .i64 x]
instance : Nonempty (EncOk scl 1) := ⟨⟨fun _ => rfl, fun x u hu => by simp [scl] at hu; subst hu; rfl, by omega⟩⟩
instance : Nonempty (EncOk ucl 1) := ⟨⟨fun _ => rfl, fun x u hu => by simp [ucl] at hu; subst hu; rfl, by omega⟩⟩
instance : Nonempty (EncOk icl 1) := ⟨⟨fun _ => rfl, fun x u hu => by simp [icl] at hu; subst hu; rfl, by omega⟩⟩
theorem RR.one {α : Type} {f : α → Value} {c : α → List Value} [Nonempty (EncOk c 1)] {w : World} {A : Option Addr} {n q : Nat} {L : List α} (h : RR w c 1 A n q L) (hc : ∀ x, c x = [f x]) {k : Nat} (hk : k < n) : ∃ g off x, L[k]? = some x ∧ A = some ⟨g, off, none⟩ ∧ w.cell? ⟨g, off + k, none⟩ = some (f x) := by
  obtain ⟨g, off, x, h1, h2, h3⟩ := h.at_ hk
  have := h3 0 (f x) (by rw [hc]; rfl)
  rw [Nat.mul_one] at this
  exact ⟨g, off, x, h1, h2, this⟩
theorem RR.oneAt {α : Type} {f : α → Value} {c : α → List Value} [Nonempty (EncOk c 1)] {w : World} {A : Option Addr} {n q : Nat} {L : List α} (h : RR w c 1 A n q L) (hc : ∀ x, c x = [f x]) {k : Nat} {x : α} (hx : L[k]? = some x) {g off : Nat} (hA : A = some ⟨g, off, none⟩) : w.cell? ⟨g, off + k, none⟩ = some (f x) := by
  have := RR.elemAt h hx hA 0 (f x) (by rw [hc]; rfl)
  rwa [Nat.mul_one] at this
end Go.Proofs.Ytcfdfimkgehdfaa
