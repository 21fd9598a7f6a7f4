/-
  Layer 16: two that talk, in memory; a literal of one text; slices of a call's own that lie apart. No condition.
-/
import Derived.Test.YtemhfaodgofcpaaPaF
set_option linter.unusedVariables false
set_option linter.unusedSimpArgs false
set_option linter.unusedSectionVars false
namespace Go.Proofs.Ytemhfaodgofcpaa
open Go.RowKit

/-- A slice literal of one thing. -/
theorem run_litv {P : Program} (w : World) (T e : TypeId) (v : Value) (cs : Array Value) (hv : v.cells = cs) {z : Value} {s : Nat} (hu : P.underlying T = some (.slice e)) (hi : (P.info? e).map (fun i => (i.zero, i.size)) = some (some z, s)) (hs : cs.size = s) (h0 : 0 < s) (h1 : s ≤ 1000) :
    (Instr.buildSlice T 1 #[(0, v)]).run P w = .ok (.slice (some ⟨w.heap.size, 0, none⟩) 1 1) (w.alloc (.cells cs e)) := by
  cases hq : P.info? e with
  | none => rw [hq] at hi; cases hi
  | some ie =>
    rw [hq] at hi
    simp at hi
    have hz : ie.zero = some z := hi.1
    have hsz : ie.size = s := hi.2
    have hf : Instr.fill (fun i => some (i * s, s)) ((Array.range (1 * s)).map (z.cells[· % z.cells.size]!)) [(0, v)] = some cs := by
      unfold Instr.fill
      simp only [Nat.zero_mul]
      rw [hv, if_neg (by simp [hs])]
      unfold Instr.fill
      exact congrArg some (fold_put cs ((Array.range (1 * s)).map (z.cells[· % z.cells.size]!)) (by simp [hs]))
    simp only [Nat.one_mul] at hf
    have hg : ¬ s > 16777216 := by omega
    have hne : ¬ s = 0 := by omega
    simp [Instr.buildSlice, run_underlying hu, sizeOf, typeInfo, zeroValue, hq, hz, hsz, hf, newRow, hg, hne]
theorem st_litv {P : Program} {ops : Array Oper} {rest : List Oper} {dst : Option Tmp} {ty : TypeId} {pos : String} {aft : Array Edge} {a : Act} {w : World} {Q : Exit → Act → World → Prop} (T e : TypeId) (x : Operand) (v : Value) (cs : Array Value) (hx : a.eval x = v) (hv : v.cells = cs) {z : Value} {s : Nat} (hu : P.underlying T = some (.slice e)) (hi : (P.info? e).map (fun i => (i.zero, i.size)) = some (some z, s)) (hs : cs.size = s) (h0 : 0 < s) (h1 : s ≤ 1000)
    (k : Sh (∀ V g, CB V g e cs → Fr w V g → wpList P ops Q rest (a.put dst (.slice (some ⟨g, 0, none⟩) 1 1)) V)) : wpList P ops Q (⟨dst, .buildSlice T 1 #[(0, x)], ty, pos, aft, none⟩ :: rest) a w :=
  wpList_plain rfl fun K hK => by
    have h : (Instr.buildSlice T 1 ((#[(0, x)] : Array (Nat × Operand)).map fun (i, x) => (i, a.eval x))).run P w = .ok (.slice (some ⟨w.heap.size, 0, none⟩) 1 1) (w.alloc (.cells cs e)) := by
      have := run_litv (P := P) w T e v cs hv hu hi hs h0 h1
      simpa [hx] using this
    unfold Oper.wp execOp
    simp only [Sem.run_bind, Sem.run_pure, Result.andThen_ok, h]
    exact hK _ _ (k.out _ _ (CB.new w e cs) ⟨rfl, le_al _ _⟩)
theorem rd_litv {P : Program} {ops : Array Oper} {o : Oper} {a : Act} {w : World} {K : Act → World → Prop} {Q : Exit → Act → World → Prop} (hgd : o.guard = none) (T e : TypeId) (x : Operand) (ho : o.op = .buildSlice T 1 #[(0, x)]) (d : Option Tmp) (hd : o.dst = d) (v : Value) (cs : Array Value) (hx : a.eval x = v) (hv : v.cells = cs) {z : Value} {s : Nat} (hu : P.underlying T = some (.slice e)) (hi : (P.info? e).map (fun i => (i.zero, i.size)) = some (some z, s)) (hs : cs.size = s) (h0 : 0 < s) (h1 : s ≤ 1000)
    (k : Sh (∀ V g, CB V g e cs → Fr w V g → K (a.put d (.slice (some ⟨g, 0, none⟩) 1 1)) V)) : if Region.wanted o (yielded ops a.tmps) = true then Oper.wp P o a w K Q else K (a.put o.dst undef) w := by
  subst hd
  rw [if_pos (by simp [Region.wanted, hgd])]
  have h : (Instr.buildSlice T 1 ((#[(0, x)] : Array (Nat × Operand)).map fun (i, x) => (i, a.eval x))).run P w = .ok (.slice (some ⟨w.heap.size, 0, none⟩) 1 1) (w.alloc (.cells cs e)) := by
    have := run_litv (P := P) w T e v cs hv hu hi hs h0 h1
    simpa [hx] using this
  unfold Oper.wp execOp
  simp only [ho, Sem.run_bind, Sem.run_pure, Result.andThen_ok, h]
  exact k.out _ _ (CB.new w e cs) ⟨rfl, le_al _ _⟩
/-- A text as the cells of a literal. -/
def zA (t : ByteArray) : Array Value := #[.string t]
theorem zA_one (t : ByteArray) : (zA t).all (·.oneCell') = true := by simp [zA, Value.oneCell']
theorem zA_size (t : ByteArray) : (zA t).size = 1 := rfl
theorem tmod_nat (a b : Nat) : (a : Int).tmod (b : Int) = ((a % b : Nat) : Int) := by rw [Int.tmod_eq_emod_of_nonneg (by omega)]; omega
section
variable {α β : Type} {c : α → List Value} {s : Nat} [Nonempty (EncOk c s)] {c' : β → List Value} {s' : Nat} [Nonempty (EncOk c' s')] {W V : World} {N M : Nat} {T U : TypeId} {A A' : Option Addr} {n q n' q' : Nat} {L : List α} {L' : List β} {G G' H : Option Nat}
theorem SO.noT (h : SO N W T c s A n q L G) {g : Nat} {cs : Array Value} (hc : CB W g U cs) (hne : T ≠ U) : ∀ b, G = some b → b ≠ g := fun b e e' => h.seg.ne_ hc hne (by rw [e, e'])
/-- Two slices lie apart. -/
theorem SO.apT (h : SO N W T c s A n q L G) (h' : SO M W U c' s' A' n' q' L' G') (hne : T ≠ U) : ∀ g, G = some g → some g ≠ G' := h.seg.apart h'.seg hne
theorem ap_new (h : SO N W T c s A n q L G) (hl : ∀ g, G' = some g → g < N) : ∀ g, G = some g → some g ≠ G' := fun g e e' => by have := h.hi g e; have := hl g e'.symm; omega
theorem ap_moved (h : SO N W T c s A n q L G) (ha : ∀ g, G = some g → some g ≠ G') (hm : Moved W G' H) : ∀ g, G = some g → some g ≠ H := fun g e => by
  rcases hm with rfl | ⟨g', rfl, hg'⟩
  · exact ha g e
  · intro e'; cases e'; have := h.seg.lt g e; omega
theorem ap_flip (ha : ∀ g, G = some g → some g ≠ G') : ∀ g, G' = some g → some g ≠ G := fun g e e' => ha g e'.symm e.symm
theorem RR.elemAt (h : RR W c s A n q L) {k : Nat} {x : α} (hx : L[k]? = some x) {g off : Nat} (hA : A = some ⟨g, off, none⟩) : W.rangeAt g (off + k * s) (c x) := by
  have hk : k < n := by rw [← h.len]; exact (List.getElem?_eq_some_iff.1 hx).1
  obtain ⟨g', off', y, h1, h2, h3⟩ := h.elem hk
  rw [hx] at h1
  cases h1
  rw [hA] at h2
  cases h2
  exact h3
end
/-- All packets stay where they are. -/
structure PS (W V : World) : Prop where
  out : ∀ g cs, CB W g 30 cs → CB V g 30 cs
theorem PS.refl (W : World) : PS W W := ⟨fun _ _ h => h⟩
theorem PS.on {W V U : World} (h : PS W V) (hb : Below V.heap.size V U) : PS W U := ⟨fun g cs hc => le_on (h.out g cs hc) hb⟩
theorem PS.wr {W V U : World} {g : Nat} {T : TypeId} {old : Array Value} (h : PS W V) (k : Wr V U g) (hc : CB V g T old) (hne : 30 ≠ T) : PS W U := ⟨fun b cs hb => k.on (h.out b cs hb) ((h.out b cs hb).ne_ hc hne)⟩
theorem PS.grow {W V U : World} {T : TypeId} {s : Nat} {A : Option Addr} {n q : Nat} {xs : List Value} {G : Option Nat} (h : PS W V) (hg : V.grownBy U G) (hs : Seg V T s A n q xs G) (hne : 30 ≠ T) : PS W U := ⟨fun b cs hb => hs.grow_cb hg (h.out b cs hb) (Ne.symm hne)⟩
theorem PS.drew {W V : World} (h : PS W V) : PS W V.drew := ⟨fun b cs hb => CB.drew (h.out b cs hb)⟩
theorem SO.ps {α : Type} {c : α → List Value} {s : Nat} [Nonempty (EncOk c s)] {W V : World} {N : Nat} {A : Option Addr} {n q : Nat} {L : List α} {G : Option Nat} (h : SO N W 30 c s A n q L G) (hp : PS W V) : SO N V 30 c s A n q L G :=
  ⟨h.seg.keep fun g e => by
    obtain ⟨cs, hc⟩ := seg_typeS (e := 30) (by rw [← e]; exact h.seg)
    exact (hp.out g cs hc).trans hc.symm, h.hi⟩
/-- Two that talk, in memory: block b is their talk; the four slices are of its own. -/
structure TS (w W : World) (b : Nat) (t : Tk) (k : Ks) (G0 G1 G2 G3 : Option Nat) : Prop where
  cb : CB W b 42 (kA k)
  nx : k.o.nx = t.S.length
  rm : k.o.rm = 9
  hh : k.h = t.h
  s0 : SO w.heap.size W 30 pcl 2 k.o.a k.o.n k.o.c (pkF t.S t.a) G0
  s1 : SO w.heap.size W 9 scl 1 k.a1 k.n1 k.c1 t.S G1
  s2 : SO w.heap.size W 9 scl 1 k.a2 k.n2 k.c2 (t.S.take t.h) G2
  s3 : SO w.heap.size W 30 pcl 2 k.a3 k.n3 k.c3 (pkF t.S 0) G3
  a03 : ∀ g, G0 = some g → some g ≠ G3
  a12 : ∀ g, G1 = some g → some g ≠ G2
  low : Below w.heap.size w W
  ge : w.heap.size ≤ b
def TX (w W : World) (b : Nat) (t : Tk) : Prop := ∃ k G0 G1 G2 G3, TS w W b t k G0 G1 G2 G3
theorem TS.on {w W V : World} {b : Nat} {t : Tk} {k : Ks} {G0 G1 G2 G3 : Option Nat} (h : TS w W b t k G0 G1 G2 G3) (hb : Below W.heap.size W V) : TS w V b t k G0 G1 G2 G3 :=
  ⟨le_on h.cb hb, h.nx, h.rm, h.hh, h.s0.on hb, h.s1.on hb, h.s2.on hb, h.s3.on hb, h.a03, h.a12, le_tr h.low hb, h.ge⟩
theorem TX.on {w W V : World} {b : Nat} {t : Tk} (h : TX w W b t) (hb : Below W.heap.size W V) : TX w V b t := by
  obtain ⟨k, G0, G1, G2, G3, h⟩ := h
  exact ⟨k, G0, G1, G2, G3, h.on hb⟩
theorem TX.low {w W : World} {b : Nat} {t : Tk} (h : TX w W b t) : Below w.heap.size w W := by
  obtain ⟨k, G0, G1, G2, G3, h⟩ := h
  exact h.low
theorem TX.ge {w W : World} {b : Nat} {t : Tk} (h : TX w W b t) : w.heap.size ≤ b := by
  obtain ⟨k, G0, G1, G2, G3, h⟩ := h
  exact h.ge
theorem TX.start {w V : World} {b : Nat} (hc : CB V b 42 (kA ⟨⟨0, none, 0, 0, 9⟩, 0, none, 0, 0, none, 0, 0, none, 0, 0⟩)) (hl : Below w.heap.size w V) (hb : w.heap.size ≤ b) : TX w V b ⟨[], 0, 0⟩ :=
  ⟨_, none, none, none, none, hc, rfl, rfl, rfl, SO.nil _ _ _ _ _, SO.nil _ _ _ _ _, SO.nil _ _ _ _ _, SO.nil _ _ _ _ _, (fun _ e => by cases e), (fun _ e => by cases e), hl, hb⟩
/-- What a packet that comes makes of a talk. -/
def heT (t : Tk) (k : Nat) : Tk := if k = t.h then ⟨t.S, t.a, t.h + 1⟩ else t
theorem heT_ok {t : Tk} {k : Nat} (h : OkT 9 t) (hk : k < t.S.length) : OkT 9 (heT t k) := by
  unfold heT
  split
  · obtain ⟨h1, h2, h3, h4⟩ := h
    exact ⟨by simp only; omega, by simp only; omega, h3, h4⟩
  · exact h
theorem heT_S (t : Tk) (k : Nat) : (heT t k).S = t.S := by unfold heT; split <;> rfl
theorem heT_a (t : Tk) (k : Nat) : (heT t k).a = t.a := by unfold heT; split <;> rfl
end Go.Proofs.Ytemhfaodgofcpaa
