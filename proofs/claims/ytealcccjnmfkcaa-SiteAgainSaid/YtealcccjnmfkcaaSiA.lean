/-
  A site in memory: a call, the map of parts as a function, the site's struct; what leaves it as it is. No condition.
-/
import Derived.Test.YtealcccjnmfkcaaSiP
import Derived.Test.YtealcccjnmfkcaaLqE
import Derived.Test.YtealcccjnmfkcaaPtA
import Derived.Maps.OwnIn
set_option linter.unusedVariables false
set_option linter.unusedSimpArgs false
namespace Go.Proofs.Ytealcccjnmfkcaa
open Go.RowKit Go.Maps

/-! ### calls -/
def kc (r : Rc) : List Value := [.int .i64 r.kd, .int .i64 r.tx, .int .u8 r.ky, .int .i64 r.nn]
instance : Nonempty (EncOk kc 4) := ⟨⟨fun _ => rfl, fun x u hu => by
  simp [kc] at hu
  rcases hu with rfl | rfl | rfl | rfl <;> rfl, by omega⟩⟩
abbrev KR (w : World) (A : Option Addr) (n c : Nat) (L : List Rc) : Prop := RR w kc 4 A n c L
abbrev kv (r : Rc) : Value := .agg #[.int .i64 r.kd, .int .i64 r.tx, .int .u8 r.ky, .int .i64 r.nn]
def tkR (L : List Rc) (j : Nat) : Rc := (L[j]?).getD ⟨0, 0, 0, 0⟩
theorem tkR_some {L : List Rc} {k : Nat} {x : Rc} (h : L[k]? = some x) : tkR L k = x := by unfold tkR; rw [h]; rfl
theorem tkR_get {L : List Rc} {j : Nat} (h : j < L.length) : L[j]? = some (tkR L j) := by unfold tkR; rw [List.getElem?_eq_getElem h]; rfl
theorem tkR_mem {L : List Rc} {j : Nat} (h : j < L.length) : tkR L j ∈ L := List.mem_of_getElem? (tkR_get h)
theorem tkR_take {L : List Rc} {j : Nat} (h : j < L.length) : L.take (j + 1) = L.take j ++ [tkR L j] := by
  rw [List.take_add_one, tkR_get h]; rfl
theorem RR.at4 {w : World} {A : Option Addr} {n c : Nat} {L : List Rc} (h : KR w A n c L) {k : Nat} (hk : k < n) : ∃ g off, A = some ⟨g, off, none⟩ ∧ w.cell? ⟨g, off + k * 4, none⟩ = some (.int .i64 (tkR L k).kd) ∧ w.cell? ⟨g, off + k * 4 + 1, none⟩ = some (.int .i64 (tkR L k).tx) ∧ w.cell? ⟨g, off + k * 4 + 2, none⟩ = some (.int .u8 (tkR L k).ky) ∧ w.cell? ⟨g, off + k * 4 + 3, none⟩ = some (.int .i64 (tkR L k).nn) := by
  obtain ⟨g, off, x, h1, h2, h3⟩ := h.at_ hk
  rw [tkR_some h1]
  exact ⟨g, off, h2, h3 0 _ rfl, h3 1 _ rfl, h3 2 _ rfl, h3 3 _ rfl⟩
/-! ### the map of parts -/
def RV (v : Value) : Option (DataW Value × List MemPlace) := some (.held v, [])
theorem lawI : Keyed Try.prog 3 := int_keyed Try.underlying3
theorem wfI {k : Int} (h : -9223372036854775808 ≤ k ∧ k ≤ 9223372036854775807) : (Lit.int .i64 k).wf = true := by
  have e1 : IntKind.i64.min = -9223372036854775808 := by decide
  have e2 : IntKind.i64.max = 9223372036854775807 := by decide
  show (decide (IntKind.i64.min ≤ k) && decide (k ≤ IntKind.i64.max)) = true
  rw [e1, e2, decide_eq_true h.1, decide_eq_true h.2]
  rfl
abbrev pz : Value := .agg #[.int .i64 0, .slice none 0 0, .bool false, .int .i64 0]
theorem zeroP (w : World) : (zeroValue 40).run Try.prog w = .ok pz w := by kernel_rfl
/-- Block m is a map of at most N entries that reads as f. -/
def MF (w : World) (m N : Nat) (f : Int → Option Value) : Prop :=
  ∃ D : DataW Value, w.ownsMap Try.prog 3 RV m N D ∧ ∀ k : Int, (has D (.int .i64 k) = (f k).isSome) ∧ ∀ v, f k = some v → ∀ z, D.atKey (.int .i64 k) z = .held v
section
variable {w w' : World} {m N : Nat} {f : Int → Option Value}
theorem MF.lt (h : MF w m N f) : m < w.heap.size := by obtain ⟨D, h1, _⟩ := h; exact h1.lt
theorem MF.is (h : MF w m N f) : ∃ es cl, w.heap[m]? = some (.map es cl) := by
  obtain ⟨D, ⟨es, clock, hb, _⟩, _⟩ := h
  exact ⟨es, clock, hb⟩
theorem MF.same (h : MF w m N f) (e : w'.heap[m]? = w.heap[m]?) : MF w' m N f := by
  obtain ⟨D, ⟨es, clock, hb, r⟩, hs⟩ := h
  exact ⟨D, ⟨es, clock, e.trans hb, r⟩, hs⟩
theorem MF.on (h : MF w m N f) (hb : Below w.heap.size w w') : MF w' m N f := h.same (hb.block _ h.lt)
theorem MF.drew (h : MF w m N f) : MF w.drew m N f := h
theorem MF.mono (h : MF w m N f) {N' : Nat} (hN : N ≤ N') : MF w m N' f := by
  obtain ⟨D, h1, h2⟩ := h
  exact ⟨D, h1.mono hN, h2⟩
theorem MF.made (w : World) : MF (w.alloc (.map #[] 0)) w.heap.size 0 (fun _ => none) := ⟨_, World.ownsMap_made w _ _ _, fun k => ⟨rfl, fun v h => by cases h⟩⟩
theorem MF.ne {g : Nat} {t : TypeId} {cs : Array Value} (h : MF w m N f) (hc : CB w g t cs) : g ≠ m := by
  rintro rfl
  obtain ⟨es, cl, hb⟩ := h.is
  have h' : w.heap[g]? = some (.cells cs t (0, 0)) := hc
  rw [h'] at hb
  cases hb
theorem MF.look (h : MF w m N f) {k : Int} (hk : (Lit.int .i64 k).wf = true) :
    (Instr.lookup 61 (.map (some m)) (.int .i64 k) true).run Try.prog w = .ok (.tuple #[(f k).getD pz, .bool (f k).isSome]) w := by
  obtain ⟨D, h1, h2⟩ := h
  obtain ⟨h3, h4⟩ := h2 k
  obtain ⟨v, ps, hrun, hv⟩ := h1.look_ok lawI Try.underlying61 (zeroP w) (zd := .held pz) (zp := []) rfl (keyOf_int_mk Try.underlying3 hk)
  rw [hrun, h3]
  have e : DataW.held v = D.atKey (.int .i64 k) (.held pz) := by
    unfold RV at hv
    simp only [Option.some.injEq, Prod.mk.injEq] at hv
    exact hv.1
  cases hf : f k with
  | none =>
    rw [atKey_of_not_has (by rw [h3, hf]; rfl)] at e
    cases e
    rfl
  | some u =>
    rw [h4 u hf] at e
    cases e
    rfl
theorem MF.store (h : MF w m N f) (hn : N < maxLen) {k : Int} (hk : (Lit.int .i64 k).wf = true) (v : Value) :
    ∃ w', (Instr.mapUpdate 61 (.map (some m)) (.int .i64 k) v).run Try.prog w = .ok () w' ∧ MF w' m (N + 1) (fun j => if j = k then some v else f j) ∧ w.mapTurned w' m := by
  obtain ⟨D, h1, h2⟩ := h
  obtain ⟨w', hrun, ho, ht⟩ := h1.store lawI Try.underlying61 hn (keyOf_int_mk Try.underlying3 hk) (val := v) (d := .held v) (ps := []) rfl
  refine ⟨w', hrun, ⟨_, ho, fun j => ?_⟩, ht⟩
  show has _ _ = (if j = k then some v else f j).isSome ∧ ∀ u, (if j = k then some v else f j) = some u → ∀ z, _
  by_cases e : j = k
  · subst e
    rw [if_pos rfl]
    have hkl := lawI.key (keyOf_int_mk Try.underlying3 hk)
    exact ⟨has_put_same h1.isMap hkl _, fun u hu z => by cases hu; exact atKey_put_same h1.isMap hkl _ _⟩
  · rw [if_neg e]
    have hne : Lit.int .i64 j ≠ Lit.int .i64 k := fun x => e (by injection x)
    obtain ⟨h3, h4⟩ := h2 j
    exact ⟨by rw [has_put_other hne]; exact h3, fun u hu z => by rw [atKey_put_other hne]; exact h4 u hu z⟩
end

/-! ### what is left alone -/
/-- All but the blocks b, m and G is as it was. -/
structure Out (w w' : World) (b m : Nat) (G : Option Nat) : Prop where
  os : w'.os = w.os
  tape : w'.tape = w.tape
  output : w'.output = w.output
  size : w.heap.size ≤ w'.heap.size
  block : ∀ i, i < w.heap.size → i ≠ b → i ≠ m → some i ≠ G → w'.heap[i]? = w.heap[i]?
theorem Out.below {w w' : World} {b m : Nat} {G : Option Nat} (h : Out w w' b m G) {B : Nat} (hB : B ≤ w.heap.size) (hb : B ≤ b) (hm : B ≤ m) (hG : ∀ g, G = some g → B ≤ g) : Below B w w' :=
  ⟨h.os, h.tape, h.output, h.size, fun i hi => h.block i (by omega) (by omega) (by omega) (fun e => by have := hG i e.symm; omega)⟩
theorem Out.of_below {w w' : World} (b m : Nat) (G : Option Nat) (h : Below w.heap.size w w') : Out w w' b m G := ⟨h.os, h.tape, h.output, h.size, fun i hi _ _ _ => h.block i hi⟩
theorem Out.trans {w w' w'' : World} {b m : Nat} {G G' : Option Nat} (h : Out w w' b m G) (k : Out w' w'' b m G') (hG : ∀ g, G' = some g → G = some g ∨ w.heap.size ≤ g) : Out w w'' b m G :=
  ⟨k.os.trans h.os, k.tape.trans h.tape, k.output.trans h.output, Nat.le_trans h.size k.size, fun i hi h1 h2 h3 => (k.block i (Nat.lt_of_lt_of_le hi h.size) h1 h2 (by
    rintro he
    rcases hG i he.symm with e | e
    · exact h3 e.symm
    · omega)).trans (h.block i hi h1 h2 h3)⟩
theorem RS.keep2 {α : Type} {c : α → List Value} {s : Nat} [Nonempty (EncOk c s)] {w w' : World} {T : TypeId} {A : Option Addr} {n q : Nat} {L : List α} (h : RS w T c s A n q L) (hk : ∀ (g : Nat) (cs : Array Value), CB w g T cs → w'.heap[g]? = w.heap[g]?) : RS w' T c s A n q L := by
  obtain ⟨G, h2⟩ := h
  refine ⟨G, h2.keep fun g hg => ?_⟩
  rcases h2.2.2.2 with ⟨_, _, h0⟩ | ⟨g', off, cur, _, h3, h4, _⟩
  · rw [h0] at hg; cases hg
  · rw [h3] at hg; cases hg
    exact hk g cur h4

/-! ### the site -/
abbrev pv (A : Option Addr) (n c : Nat) (p : Pt) : Value := .agg #[.int .i64 p.st, .slice A n c, .bool p.lo, .int .i64 p.ou]
/-- The parts: what the map has for a transaction. -/
def Ps (w : World) (f : Int → Option Value) (l : List (Int × Pt)) : Prop := ∀ tx : Int, match fnd l tx with
  | none => f tx = none
  | some p => ∃ A n c, f tx = some (pv A n c p) ∧ DS w A n c p.ad
abbrev KS (w : World) (A : Option Addr) (n c : Nat) (L : List Rc) (G : Option Nat) : Prop := Seg w 35 4 A n c (rc kc L) G
/-- Block b is a site: its parts lie in block m, its log in block G. -/
structure SR (w : World) (b m : Nat) (G : Option Nat) (s : Si) (log : List Rc) : Prop where
  ex : ∃ A1 n1 c1 A2 n2 c2 A3 n3 c3 f, CB w b 63 #[.slice A1 n1 c1, .slice A2 n2 c2, .map (some m), .slice A3 n3 c3] ∧ DS w A1 n1 c1 s.led ∧ HS w 166 A2 n2 c2 s.lk ∧ MF w m log.length f ∧ KS w A3 n3 c3 log G ∧ Ps w f s.pts
  good : Good s log
section
variable {w w' : World} {b m : Nat} {G : Option Nat} {s : Si} {log : List Rc}
theorem Ps.keep {f : Int → Option Value} {l : List (Int × Pt)} (h : Ps w f l) (hk : ∀ (g : Nat) (cs : Array Value), CB w g 102 cs → w'.heap[g]? = w.heap[g]?) : Ps w' f l := by
  intro tx
  have := h tx
  cases hf : fnd l tx with
  | none => rw [hf] at this; exact this
  | some p =>
    rw [hf] at this
    obtain ⟨A, n, c, h1, h2⟩ := this
    exact ⟨A, n, c, h1, h2.keep2 hk⟩
theorem SR.lt (h : SR w b m G s log) : b < w.heap.size ∧ m < w.heap.size ∧ (∀ g, G = some g → g < w.heap.size) := by
  obtain ⟨⟨A1, n1, c1, A2, n2, c2, A3, n3, c3, f, h1, h2, h3, h4, h5, h6⟩, _⟩ := h
  exact ⟨h1.lt, h4.lt, h5.lt⟩
theorem SR.on (h : SR w b m G s log) (hb : Below w.heap.size w w') : SR w' b m G s log := by
  obtain ⟨⟨A1, n1, c1, A2, n2, c2, A3, n3, c3, f, h1, h2, h3, h4, h5, h6⟩, hg⟩ := h
  exact ⟨⟨A1, n1, c1, A2, n2, c2, A3, n3, c3, f, h1.same (hb.block _ h1.lt), h2.on hb, h3.on hb, h4.on hb, h5.on hb, h6.keep fun g cs hc => hb.block _ hc.lt⟩, hg⟩
theorem SR.drew (h : SR w b m G s log) : SR w.drew b m G s log := ⟨h.ex, h.good⟩
theorem SR.drewN (h : SR w b m G s log) (k : Nat) : SR (w.drewN k) b m G s log := ⟨h.ex, h.good⟩
theorem Try.neDS : 102 ≠ 63 := by decide
theorem Try.neDR : 102 ≠ 35 := by decide
theorem Try.neHS : 166 ≠ 63 := by decide
theorem Try.neHR : 166 ≠ 35 := by decide
theorem Try.neRS : 35 ≠ 63 := by decide
theorem seg_type {e : TypeId} {size : Nat} {A : Option Addr} {n c : Nat} {xs : List Value} {g : Nat} (h : Seg w e size A n c xs (some g)) : ∃ cs, CB w g e cs := by
  rcases h.2.2.2 with ⟨_, _, h0⟩ | ⟨g', off, cur, _, h3, h4, _⟩
  · cases h0
  · cases h3; exact ⟨cur, h4⟩
/-- One site is left as it is by a call upon another one. -/
theorem SR.out {b' m' : Nat} {G' : Option Nat} {s' : Si} {log' : List Rc} (h : SR w b m G s log) (h' : SR w b' m' G' s' log') (ho : Out w w' b' m' G') (hb : b ≠ b') (hm : m ≠ m') (hG : ∀ g, G = some g → some g ≠ G') : SR w' b m G s log := by
  obtain ⟨⟨A1, n1, c1, A2, n2, c2, A3, n3, c3, f, h1, h2, h3, h4, h5, h6⟩, hg⟩ := h
  obtain ⟨⟨_, _, _, _, _, _, _, _, _, _, k1, _, _, k4, k5, _⟩, _⟩ := h'
  have keep : ∀ (T : TypeId), T ≠ 63 → T ≠ 35 → ∀ (g : Nat) (cs : Array Value), CB w g T cs → w'.heap[g]? = w.heap[g]? := fun T t1 t2 g cs hc =>
    ho.block g hc.lt (hc.ne_ k1 t1) (k4.ne hc) (by
      rintro rfl
      obtain ⟨cs', hc'⟩ := seg_type k5
      exact hc.ne_ hc' t2 rfl)
  refine ⟨⟨A1, n1, c1, A2, n2, c2, A3, n3, c3, f, h1.same (ho.block _ h1.lt hb (k4.ne h1) ?_), h2.keep2 (keep _ Try.neDS Try.neDR), h3.keep2 (keep _ Try.neHS Try.neHR), h4.same (ho.block _ h4.lt (fun e => h4.ne k1 e.symm) hm ?_), h5.keep fun g e => ?_, h6.keep (keep _ Try.neDS Try.neDR)⟩, hg⟩
  · rintro rfl
    obtain ⟨cs', hc'⟩ := seg_type k5
    exact hc'.ne_ h1 Try.neRS rfl
  · rintro rfl
    obtain ⟨cs', hc'⟩ := seg_type k5
    exact h4.ne hc' rfl
  · subst e
    obtain ⟨cs', hc'⟩ := seg_type h5
    exact ho.block g hc'.lt (hc'.ne_ k1 Try.neRS) (k4.ne hc') (hG g rfl)
end
end Go.Proofs.Ytealcccjnmfkcaa
