/-
  A site in memory: a call, the map of parts as a function, the site's struct; what leaves it as it is. No condition.
-/
import Derived.Test.YtealcccjnmfkcaaSiP
import Derived.Test.YtealcccjnmfkcaaYLqE
import Derived.Test.YtealcccjnmfkcaaYPtA
import Derived.Maps.OwnIn
import Derived.Deep.CutRange
import Derived.WideKeyEntry
set_option linter.unusedVariables false
set_option linter.unusedSimpArgs false
namespace Go.Proofs.Ytealcccjnmfkcaa
open Go.RowKit Go.Maps

/-! ### calls -/
def kc (r : Rc) : List Value := [.int .i64 r.kd, .int .i64 r.tx, .int .u8 r.ky, .int .i64 r.nn]
instance : Nonempty (EncOk kc 4) := ⟨⟨fun _ => rfl, fun x u hu => by
  simp [kc] at hu
  rcases hu with rfl | rfl | rfl | rfl <;> rfl, by omega⟩⟩
abbrev KR (w : World) (A : Option Addr) (n c : Nat) (L : List Rc) : Prop := RR0 w kc 4 A n c L
abbrev DKR (w : World) (A : Option Addr) (n c : Nat) (L : List Rc) : Prop := RR w kc 4 A n c L
abbrev kv (r : Rc) : Value := .agg #[.int .i64 r.kd, .int .i64 r.tx, .int .u8 r.ky, .int .i64 r.nn]
def tkR (L : List Rc) (j : Nat) : Rc := (L[j]?).getD ⟨0, 0, 0, 0⟩
theorem tkR_some {L : List Rc} {k : Nat} {x : Rc} (h : L[k]? = some x) : tkR L k = x := by unfold tkR; rw [h]; rfl
theorem tkR_get {L : List Rc} {j : Nat} (h : j < L.length) : L[j]? = some (tkR L j) := by unfold tkR; rw [List.getElem?_eq_getElem h]; rfl
theorem tkR_mem {L : List Rc} {j : Nat} (h : j < L.length) : tkR L j ∈ L := List.mem_of_getElem? (tkR_get h)
theorem tkR_take {L : List Rc} {j : Nat} (h : j < L.length) : L.take (j + 1) = L.take j ++ [tkR L j] := by
  rw [List.take_add_one, tkR_get h]; rfl
theorem RR0.at4 {w : World} {A : Option Addr} {n c : Nat} {L : List Rc} (h : KR w A n c L) {k : Nat} (hk : k < n) : ∃ g off, A = some ⟨g, off, none⟩ ∧ w.cell? ⟨g, off + k * 4, none⟩ = some (.int .i64 (tkR L k).kd) ∧ w.cell? ⟨g, off + k * 4 + 1, none⟩ = some (.int .i64 (tkR L k).tx) ∧ w.cell? ⟨g, off + k * 4 + 2, none⟩ = some (.int .u8 (tkR L k).ky) ∧ w.cell? ⟨g, off + k * 4 + 3, none⟩ = some (.int .i64 (tkR L k).nn) := by
  obtain ⟨g, off, x, h1, h2, h3⟩ := h.at_ hk
  rw [tkR_some h1]
  exact ⟨g, off, h2, h3 0 _ rfl, h3 1 _ rfl, h3 2 _ rfl, h3 3 _ rfl⟩
theorem RR.at4 {w : World} {A : Option Addr} {n c : Nat} {L : List Rc} (h : DKR w A n c L) {k : Nat} (hk : k < n) : ∃ g off, A = some ⟨g, off, none⟩ ∧ w.cell? ⟨g, off + k * 4, none⟩ = some (.int .i64 (tkR L k).kd) ∧ w.cell? ⟨g, off + k * 4 + 1, none⟩ = some (.int .i64 (tkR L k).tx) ∧ w.cell? ⟨g, off + k * 4 + 2, none⟩ = some (.int .u8 (tkR L k).ky) ∧ w.cell? ⟨g, off + k * 4 + 3, none⟩ = some (.int .i64 (tkR L k).nn) := h.r0.at4 hk
/-! ### the map of parts -/
def RV (v : Value) : Option (DataW Value × List MemPlace) := some (.held v, [])
theorem lawI : Keyed Try.prog 3 := int_keyed Try.underlying3
theorem wfI {k : Int} (h : -9223372036854775808 ≤ k ∧ k ≤ 9223372036854775807) : (Lit.int .i64 k).wf = true := by
  have e1 : IntKind.i64.min = -9223372036854775808 := by decide
  have e2 : IntKind.i64.max = 9223372036854775807 := by decide
  show (decide (IntKind.i64.min ≤ k) && decide (k ≤ IntKind.i64.max)) = true
  rw [e1, e2, decide_eq_true h.1, decide_eq_true h.2]
  rfl
abbrev pz : Value := .agg #[.int .i64 0, .slice none 0 0, .bool false, .int .i64 0]
theorem zeroP (w : World) : (zeroValue 40).run Try.prog w = .ok pz w := by kernel_rfl
/-- Block m is a map of at most N entries that reads as f. -/
def MF (w : World) (m N : Nat) (f : Int → Option Value) : Prop :=
  ∃ D : DataW Value, w.ownsMap Try.prog 3 RV m N D ∧ ∀ k : Int, (has D (.int .i64 k) = (f k).isSome) ∧ ∀ v, f k = some v → ∀ z, D.atKey (.int .i64 k) z = .held v
section
variable {w w' : World} {m N : Nat} {f : Int → Option Value}
theorem MF.lt (h : MF w m N f) : m < w.heap.size := by obtain ⟨D, h1, _⟩ := h; exact h1.lt
theorem MF.is (h : MF w m N f) : ∃ es cl, w.heap[m]? = some (.map es cl) := by
  obtain ⟨D, ⟨es, clock, hb, _⟩, _⟩ := h
  exact ⟨es, clock, hb⟩
theorem MF.same (h : MF w m N f) (e : w'.heap[m]? = w.heap[m]?) : MF w' m N f := by
  obtain ⟨D, ⟨es, clock, hb, r⟩, hs⟩ := h
  exact ⟨D, ⟨es, clock, e.trans hb, r⟩, hs⟩
theorem MF.on (h : MF w m N f) (hb : Below w.heap.size w w') : MF w' m N f := h.same (hb.block _ h.lt)
theorem MF.drew (h : MF w m N f) : MF w.drew m N f := h
theorem MF.mono (h : MF w m N f) {N' : Nat} (hN : N ≤ N') : MF w m N' f := by
  obtain ⟨D, h1, h2⟩ := h
  exact ⟨D, h1.mono hN, h2⟩
theorem MF.made (w : World) : MF (w.alloc (.map #[] 0)) w.heap.size 0 (fun _ => none) := ⟨_, World.ownsMap_made w _ _ _, fun k => ⟨rfl, fun v h => by cases h⟩⟩
theorem MF.ne {g : Nat} {t : TypeId} {cs : Array Value} (h : MF w m N f) (hc : CB w g t cs) : g ≠ m := by
  rintro rfl
  obtain ⟨es, cl, hb⟩ := h.is
  have h' : w.heap[g]? = some (.cells cs t (0, 0)) := hc
  rw [h'] at hb
  cases hb
theorem MF.look (h : MF w m N f) {k : Int} (hk : (Lit.int .i64 k).wf = true) :
    (Instr.lookup 61 (.map (some m)) (.int .i64 k) true).run Try.prog w = .ok (.tuple #[(f k).getD pz, .bool (f k).isSome]) w := by
  obtain ⟨D, h1, h2⟩ := h
  obtain ⟨h3, h4⟩ := h2 k
  obtain ⟨v, ps, hrun, hv⟩ := h1.look_ok lawI Try.underlying61 (zeroP w) (zd := .held pz) (zp := []) rfl (keyOf_int_mk Try.underlying3 hk)
  rw [hrun, h3]
  have e : DataW.held v = D.atKey (.int .i64 k) (.held pz) := by
    unfold RV at hv
    simp only [Option.some.injEq, Prod.mk.injEq] at hv
    exact hv.1
  cases hf : f k with
  | none =>
    rw [atKey_of_not_has (by rw [h3, hf]; rfl)] at e
    cases e
    rfl
  | some u =>
    rw [h4 u hf] at e
    cases e
    rfl
theorem MF.store (h : MF w m N f) (hn : N < maxLen) {k : Int} (hk : (Lit.int .i64 k).wf = true) (v : Value) :
    ∃ w', (Instr.mapUpdate 61 (.map (some m)) (.int .i64 k) v).run Try.prog w = .ok () w' ∧ MF w' m (N + 1) (fun j => if j = k then some v else f j) ∧ w.mapTurned w' m := by
  obtain ⟨D, h1, h2⟩ := h
  obtain ⟨w', hrun, ho, ht⟩ := h1.store lawI Try.underlying61 hn (keyOf_int_mk Try.underlying3 hk) (val := v) (d := .held v) (ps := []) rfl
  refine ⟨w', hrun, ⟨_, ho, fun j => ?_⟩, ht⟩
  show has _ _ = (if j = k then some v else f j).isSome ∧ ∀ u, (if j = k then some v else f j) = some u → ∀ z, _
  by_cases e : j = k
  · subst e
    rw [if_pos rfl]
    have hkl := lawI.key (keyOf_int_mk Try.underlying3 hk)
    exact ⟨has_put_same h1.isMap hkl _, fun u hu z => by cases hu; exact atKey_put_same h1.isMap hkl _ _⟩
  · rw [if_neg e]
    have hne : Lit.int .i64 j ≠ Lit.int .i64 k := fun x => e (by injection x)
    obtain ⟨h3, h4⟩ := h2 j
    exact ⟨by rw [has_put_other hne]; exact h3, fun u hu z => by rw [atKey_put_other hne]; exact h4 u hu z⟩
end

/-! ### what is left alone -/
/-- All but the blocks b, m and G is as it was. -/
structure Out (w w' : World) (b m : Nat) (G : Option Nat) : Prop where
  os : w'.os = w.os
  tape : w'.tape = w.tape
  output : w'.output = w.output
  size : w.heap.size ≤ w'.heap.size
  block : ∀ i, i < w.heap.size → i ≠ b → i ≠ m → some i ≠ G → w'.heap[i]? = w.heap[i]?
theorem Out.below {w w' : World} {b m : Nat} {G : Option Nat} (h : Out w w' b m G) {B : Nat} (hB : B ≤ w.heap.size) (hb : B ≤ b) (hm : B ≤ m) (hG : ∀ g, G = some g → B ≤ g) : Below B w w' :=
  ⟨h.os, h.tape, h.output, h.size, fun i hi => h.block i (by omega) (by omega) (by omega) (fun e => by have := hG i e.symm; omega)⟩
theorem Out.of_below {w w' : World} (b m : Nat) (G : Option Nat) (h : Below w.heap.size w w') : Out w w' b m G := ⟨h.os, h.tape, h.output, h.size, fun i hi _ _ _ => h.block i hi⟩
theorem Out.trans {w w' w'' : World} {b m : Nat} {G G' : Option Nat} (h : Out w w' b m G) (k : Out w' w'' b m G') (hG : ∀ g, G' = some g → G = some g ∨ w.heap.size ≤ g) : Out w w'' b m G :=
  ⟨k.os.trans h.os, k.tape.trans h.tape, k.output.trans h.output, Nat.le_trans h.size k.size, fun i hi h1 h2 h3 => (k.block i (Nat.lt_of_lt_of_le hi h.size) h1 h2 (by
    rintro he
    rcases hG i he.symm with e | e
    · exact h3 e.symm
    · omega)).trans (h.block i hi h1 h2 h3)⟩
theorem RS.keep2 {α : Type} {c : α → List Value} {s : Nat} [Nonempty (EncOk c s)] {w w' : World} {T : TypeId} {A : Option Addr} {n q : Nat} {L : List α} (h : RS w T c s A n q L) (hk : ∀ (g : Nat) (cs : Array Value), CB w g T cs → w'.heap[g]? = w.heap[g]?) : RS w' T c s A n q L := by
  obtain ⟨G, h2⟩ := h
  refine ⟨G, h2.keep fun g hg => ?_⟩
  rcases h2.2.2.2 with ⟨_, _, h0⟩ | ⟨g', off, cur, _, h3, h4, _⟩
  · rw [h0] at hg; cases hg
  · rw [h3] at hg; cases hg
    exact hk g cur h4

/-! ### the site -/
abbrev pv (A : Option Addr) (n c : Nat) (p : Pt) : Value := .agg #[.int .i64 p.st, .slice A n c, .bool p.lo, .int .i64 p.ou]
/-- The parts: what the map has for a transaction. -/
def Ps (w : World) (f : Int → Option Value) (l : List (Int × Pt)) : Prop := ∀ tx : Int, match fnd l tx with
  | none => f tx = none
  | some p => ∃ A n c, f tx = some (pv A n c p) ∧ DS w A n c p.ad
abbrev KS (w : World) (A : Option Addr) (n c : Nat) (L : List Rc) (G : Option Nat) : Prop := Seg w 35 4 A n c (rc kc L) G
/-- Block b is a site: its parts lie in block m, its log in block G. -/
structure SR (w : World) (b m : Nat) (G : Option Nat) (s : Si) (log : List Rc) : Prop where
  ex : ∃ A1 n1 c1 A2 n2 c2 A3 n3 c3 f, CB w b 63 #[.slice A1 n1 c1, .slice A2 n2 c2, .map (some m), .slice A3 n3 c3] ∧ DS w A1 n1 c1 s.led ∧ HS w 166 A2 n2 c2 s.lk ∧ MF w m log.length f ∧ KS w A3 n3 c3 log G ∧ Ps w f s.pts
  good : Good s log
section
variable {w w' : World} {b m : Nat} {G : Option Nat} {s : Si} {log : List Rc}
theorem Ps.keep {f : Int → Option Value} {l : List (Int × Pt)} (h : Ps w f l) (hk : ∀ (g : Nat) (cs : Array Value), CB w g 102 cs → w'.heap[g]? = w.heap[g]?) : Ps w' f l := by
  intro tx
  have := h tx
  cases hf : fnd l tx with
  | none => rw [hf] at this; exact this
  | some p =>
    rw [hf] at this
    obtain ⟨A, n, c, h1, h2⟩ := this
    exact ⟨A, n, c, h1, h2.keep2 hk⟩
theorem SR.lt (h : SR w b m G s log) : b < w.heap.size ∧ m < w.heap.size ∧ (∀ g, G = some g → g < w.heap.size) := by
  obtain ⟨⟨A1, n1, c1, A2, n2, c2, A3, n3, c3, f, h1, h2, h3, h4, h5, h6⟩, _⟩ := h
  exact ⟨h1.lt, h4.lt, h5.lt⟩
theorem SR.on (h : SR w b m G s log) (hb : Below w.heap.size w w') : SR w' b m G s log := by
  obtain ⟨⟨A1, n1, c1, A2, n2, c2, A3, n3, c3, f, h1, h2, h3, h4, h5, h6⟩, hg⟩ := h
  exact ⟨⟨A1, n1, c1, A2, n2, c2, A3, n3, c3, f, h1.same (hb.block _ h1.lt), h2.on hb, h3.on hb, h4.on hb, h5.on hb, h6.keep fun g cs hc => hb.block _ hc.lt⟩, hg⟩
theorem SR.drew (h : SR w b m G s log) : SR w.drew b m G s log := ⟨h.ex, h.good⟩
theorem SR.drewN (h : SR w b m G s log) (k : Nat) : SR (w.drewN k) b m G s log := ⟨h.ex, h.good⟩
theorem Try.neDS : 102 ≠ 63 := by decide
theorem Try.neDR : 102 ≠ 35 := by decide
theorem Try.neHS : 166 ≠ 63 := by decide
theorem Try.neHR : 166 ≠ 35 := by decide
theorem Try.neRS : 35 ≠ 63 := by decide
theorem seg_type {e : TypeId} {size : Nat} {A : Option Addr} {n c : Nat} {xs : List Value} {g : Nat} (h : Seg w e size A n c xs (some g)) : ∃ cs, CB w g e cs := by
  rcases h.2.2.2 with ⟨_, _, h0⟩ | ⟨g', off, cur, _, h3, h4, _⟩
  · cases h0
  · cases h3; exact ⟨cur, h4⟩
/-- One site is left as it is by a call upon another one. -/
theorem SR.out {b' m' : Nat} {G' : Option Nat} {s' : Si} {log' : List Rc} (h : SR w b m G s log) (h' : SR w b' m' G' s' log') (ho : Out w w' b' m' G') (hb : b ≠ b') (hm : m ≠ m') (hG : ∀ g, G = some g → some g ≠ G') : SR w' b m G s log := by
  obtain ⟨⟨A1, n1, c1, A2, n2, c2, A3, n3, c3, f, h1, h2, h3, h4, h5, h6⟩, hg⟩ := h
  obtain ⟨⟨_, _, _, _, _, _, _, _, _, _, k1, _, _, k4, k5, _⟩, _⟩ := h'
  have keep : ∀ (T : TypeId), T ≠ 63 → T ≠ 35 → ∀ (g : Nat) (cs : Array Value), CB w g T cs → w'.heap[g]? = w.heap[g]? := fun T t1 t2 g cs hc =>
    ho.block g hc.lt (hc.ne_ k1 t1) (k4.ne hc) (by
      rintro rfl
      obtain ⟨cs', hc'⟩ := seg_type k5
      exact hc.ne_ hc' t2 rfl)
  refine ⟨⟨A1, n1, c1, A2, n2, c2, A3, n3, c3, f, h1.same (ho.block _ h1.lt hb (k4.ne h1) ?_), h2.keep2 (keep _ Try.neDS Try.neDR), h3.keep2 (keep _ Try.neHS Try.neHR), h4.same (ho.block _ h4.lt (fun e => h4.ne k1 e.symm) hm ?_), h5.keep fun g e => ?_, h6.keep (keep _ Try.neDS Try.neDR)⟩, hg⟩
  · rintro rfl
    obtain ⟨cs', hc'⟩ := seg_type k5
    exact hc'.ne_ h1 Try.neRS rfl
  · rintro rfl
    obtain ⟨cs', hc'⟩ := seg_type k5
    exact h4.ne hc' rfl
  · subst e
    obtain ⟨cs', hc'⟩ := seg_type h5
    exact ho.block g hc'.lt (hc'.ne_ k1 Try.neRS) (k4.ne hc') (hG g rfl)
end
end Go.Proofs.Ytealcccjnmfkcaa
/-
  A turn in memory: the box of its struct, the box of the result, its slices; what a store into the box leaves. No condition.
-/
set_option linter.unusedVariables false
set_option linter.unusedSimpArgs false
namespace Go.Proofs.Ytealcccjnmfkcaa
open Go.RowKit

/-- All but the cells of block d is as it was. -/
structure Just (d : Nat) (W V : World) : Prop where
  os : V.os = W.os
  tape : V.tape = W.tape
  output : V.output = W.output
  size : V.heap.size = W.heap.size
  block : ∀ i, i ≠ d → V.heap[i]? = W.heap[i]?
theorem Just.set (W : World) (d i : Nat) (x : Value) : Just d W (W.setCell ⟨d, i, none⟩ x) := ⟨rfl, rfl, rfl, by simp [World.setCell], fun j hj => Below.heap_setCell W ⟨d, i, none⟩ x j hj⟩
theorem Just.trans {d : Nat} {W V U : World} (h : Just d W V) (k : Just d V U) : Just d W U := ⟨k.os.trans h.os, k.tape.trans h.tape, k.output.trans h.output, k.size.trans h.size, fun i hi => (k.block i hi).trans (h.block i hi)⟩
theorem Just.low {d : Nat} {W V : World} (h : Just d W V) {B : Nat} {w : World} (hb : Below B w W) (hd : B ≤ d) : Below B w V :=
  ⟨h.os.trans hb.os, h.tape.trans hb.tape, h.output.trans hb.output, by rw [h.size]; exact hb.size, fun i hi => (h.block i (by omega)).trans (hb.block i hi)⟩
theorem Just.cb {d : Nat} {W V : World} (h : Just d W V) {b : Nat} {T : TypeId} {cs : Array Value} (hc : CB W b T cs) (hb : b ≠ d) : CB V b T cs := hc.same (h.block b hb)
theorem Just.rs {d : Nat} {W V : World} (h : Just d W V) {α : Type} {c : α → List Value} {s : Nat} [Nonempty (EncOk c s)] {T : TypeId} {A : Option Addr} {n q : Nat} {L : List α} (hr : RS W T c s A n q L) {T' : TypeId} {cs : Array Value} (hd : CB W d T' cs) (hT : T ≠ T') : RS V T c s A n q L :=
  hr.keep2 fun g _ hc => h.block g (hc.ne_ hd hT)
theorem Just.dr {d : Nat} {W V : World} (h : Just d W V) {A : Option Addr} {n c : Nat} {L : List Dl} (hr : DR W A n c L) (hd : ∀ g off, A = some ⟨g, off, none⟩ → 0 < n → g ≠ d) : DR V A n c L := hr.keep fun g off hA hn _ => h.block g (hd g off hA hn)
abbrev tcs (p : Pt) (A : Option Addr) (n c : Nat) (A2 : Option Addr) (n2 c2 : Nat) (A3 : Option Addr) (n3 c3 : Nat) (sn : Int) : Array Value := #[.int .i64 p.st, .slice A n c, .bool p.lo, .int .i64 p.ou, .slice A2 n2 c2, .slice A3 n3 c3, .int .i64 sn]
abbrev tz : Array Value := #[.int .i64 0, .slice none 0 0, .bool false, .int .i64 0, .slice none 0 0, .slice none 0 0, .int .i64 0]
abbrev tv (p : Pt) (A : Option Addr) (n c : Nat) (A2 : Option Addr) (n2 c2 : Nat) (A3 : Option Addr) (n3 c3 : Nat) (sn : Int) : Value := .agg #[.int .i64 p.st, .slice A n c, .bool p.lo, .int .i64 p.ou, .slice A2 n2 c2, .slice A3 n3 c3, .int .i64 sn]
abbrev kcs (r : Rc) : Array Value := #[.int .i64 r.kd, .int .i64 r.tx, .int .u8 r.ky, .int .i64 r.nn]
/-- What a turn holds can be read. -/
structure TM (W : World) (A : Option Addr) (n c : Nat) (A2 : Option Addr) (n2 c2 : Nat) (A3 : Option Addr) (n3 c3 : Nat) (t : Tn) : Prop where
  ad : DS W A n c t.own.ad
  lk : HS W 166 A2 n2 c2 t.lk
  led : DS W A3 n3 c3 t.led
/-- A call gave a turn and a number back. -/
def UPost (w : World) (t : Tn) (k : Int) (e : Ending) (w' : World) : Prop :=
  ∃ A n c A2 n2 c2 A3 n3 c3, e = .returned (.tuple #[tv t.own A n c A2 n2 c2 A3 n3 c3 t.sn, .int .i64 k]) ∧ TM w' A n c A2 n2 c2 A3 n3 c3 t ∧ Below w.heap.size w w'
/-- The boxes of a turn and of the result. -/
structure TW (w W : World) (bz : Nat) (A : Option Addr) (n c : Nat) (A2 : Option Addr) (n2 c2 : Nat) (A3 : Option Addr) (n3 c3 : Nat) (t : Tn) : Prop where
  b : CB W w.heap.size 92 (tcs t.own A n c A2 n2 c2 A3 n3 c3 t.sn)
  z : CB W bz 92 tz
  m : TM W A n c A2 n2 c2 A3 n3 c3 t
  low : Below w.heap.size w W
  lt : w.heap.size < bz
theorem Try.neDT : 102 ≠ 92 := by decide
theorem Try.neHT : 166 ≠ 92 := by decide
section
variable {w W W' : World} {bz : Nat} {A : Option Addr} {n c : Nat} {A2 : Option Addr} {n2 c2 : Nat} {A3 : Option Addr} {n3 c3 : Nat} {t : Tn}
theorem TM.on (h : TM W A n c A2 n2 c2 A3 n3 c3 t) (hb : Below W.heap.size W W') : TM W' A n c A2 n2 c2 A3 n3 c3 t := ⟨h.ad.on hb, h.lk.on hb, h.led.on hb⟩
theorem TM.just (h : TM W A n c A2 n2 c2 A3 n3 c3 t) {d : Nat} {T : TypeId} {cs : Array Value} (hd : CB W d T cs) (h1 : 102 ≠ T) (h2 : 166 ≠ T) (hj : Just d W W') : TM W' A n c A2 n2 c2 A3 n3 c3 t := ⟨hj.rs h.ad hd h1, hj.rs h.lk hd h2, hj.rs h.led hd h1⟩
theorem TW.on (h : TW w W bz A n c A2 n2 c2 A3 n3 c3 t) (hb : Below W.heap.size W W') : TW w W' bz A n c A2 n2 c2 A3 n3 c3 t := ⟨h.b.on hb, h.z.on hb, h.m.on hb, bel2 h.low hb, h.lt⟩
theorem TW.cells (h : TW w W bz A n c A2 n2 c2 A3 n3 c3 t) : W.cell? ⟨w.heap.size, 0, none⟩ = some (.int .i64 t.own.st) ∧ W.cell? ⟨w.heap.size, 1, none⟩ = some (.slice A n c) ∧ W.cell? ⟨w.heap.size, 2, none⟩ = some (.bool t.own.lo) ∧ W.cell? ⟨w.heap.size, 3, none⟩ = some (.int .i64 t.own.ou) ∧ W.cell? ⟨w.heap.size, 4, none⟩ = some (.slice A2 n2 c2) ∧ W.cell? ⟨w.heap.size, 5, none⟩ = some (.slice A3 n3 c3) ∧ W.cell? ⟨w.heap.size, 6, none⟩ = some (.int .i64 t.sn) :=
  ⟨h.b.cell 0, h.b.cell 1, h.b.cell 2, h.b.cell 3, h.b.cell 4, h.b.cell 5, h.b.cell 6⟩
theorem TW.froz (h : TW w W bz A n c A2 n2 c2 A3 n3 c3 t) : W.frozen? ⟨w.heap.size, 0, none⟩ = false ∧ W.frozen? ⟨w.heap.size, 1, none⟩ = false ∧ W.frozen? ⟨w.heap.size, 2, none⟩ = false ∧ W.frozen? ⟨w.heap.size, 3, none⟩ = false ∧ W.frozen? ⟨w.heap.size, 4, none⟩ = false ∧ W.frozen? ⟨w.heap.size, 5, none⟩ = false ∧ W.frozen? ⟨w.heap.size, 6, none⟩ = false :=
  ⟨h.b.frozen 0, h.b.frozen 1, h.b.frozen 2, h.b.frozen 3, h.b.frozen 4, h.b.frozen 5, h.b.frozen 6⟩
theorem TW.zfroz (h : TW w W bz A n c A2 n2 c2 A3 n3 c3 t) : W.frozen? ⟨bz, 0, none⟩ = false ∧ W.frozen? ⟨bz, 1, none⟩ = false ∧ W.frozen? ⟨bz, 2, none⟩ = false ∧ W.frozen? ⟨bz, 3, none⟩ = false ∧ W.frozen? ⟨bz, 4, none⟩ = false ∧ W.frozen? ⟨bz, 5, none⟩ = false ∧ W.frozen? ⟨bz, 6, none⟩ = false :=
  ⟨h.z.frozen 0, h.z.frozen 1, h.z.frozen 2, h.z.frozen 3, h.z.frozen 4, h.z.frozen 5, h.z.frozen 6⟩
theorem TW.zcells (h : TW w W bz A n c A2 n2 c2 A3 n3 c3 t) : W.cell? ⟨bz, 0, none⟩ = some (.int .i64 0) ∧ W.cell? ⟨bz, 1, none⟩ = some (.slice none 0 0) ∧ W.cell? ⟨bz, 2, none⟩ = some (.bool false) ∧ W.cell? ⟨bz, 3, none⟩ = some (.int .i64 0) ∧ W.cell? ⟨bz, 4, none⟩ = some (.slice none 0 0) ∧ W.cell? ⟨bz, 5, none⟩ = some (.slice none 0 0) ∧ W.cell? ⟨bz, 6, none⟩ = some (.int .i64 0) :=
  ⟨h.z.cell 0, h.z.cell 1, h.z.cell 2, h.z.cell 3, h.z.cell 4, h.z.cell 5, h.z.cell 6⟩
/-- New locks are stored. -/
theorem TW.putL (h : TW w W bz A n c A2 n2 c2 A3 n3 c3 t) {A' : Option Addr} {n' c' : Nat} {L : List Hd} (hl : HS W 166 A' n' c' L) :
    ∃ V, W.setCell ⟨w.heap.size, 4, none⟩ (.slice A' n' c') = V ∧ TW w V bz A n c A' n' c' A3 n3 c3 ⟨t.own, L, t.led, t.sn⟩ ∧ Just w.heap.size W V := by
  have hj := Just.set W w.heap.size 4 (.slice A' n' c')
  have hm : TM _ A n c A' n' c' A3 n3 c3 ⟨t.own, L, t.led, t.sn⟩ := TM.just (W := W) ⟨h.m.ad, hl, h.m.led⟩ h.b Try.neDT Try.neHT hj
  exact ⟨_, rfl, ⟨h.b.put 4 _, hj.cb h.z (by have := h.lt; omega), hm, hj.low h.low (Nat.le_refl _), h.lt⟩, hj⟩
/-- A new ledger is stored. -/
theorem TW.putD (h : TW w W bz A n c A2 n2 c2 A3 n3 c3 t) {A' : Option Addr} {n' c' : Nat} {L : List Dl} (hl : DS W A' n' c' L) :
    ∃ V, W.setCell ⟨w.heap.size, 5, none⟩ (.slice A' n' c') = V ∧ TW w V bz A n c A2 n2 c2 A' n' c' ⟨t.own, t.lk, L, t.sn⟩ ∧ Just w.heap.size W V := by
  have hj := Just.set W w.heap.size 5 (.slice A' n' c')
  have hm : TM _ A n c A2 n2 c2 A' n' c' ⟨t.own, t.lk, L, t.sn⟩ := TM.just (W := W) ⟨h.m.ad, h.m.lk, hl⟩ h.b Try.neDT Try.neHT hj
  exact ⟨_, rfl, ⟨h.b.put 5 _, hj.cb h.z (by have := h.lt; omega), hm, hj.low h.low (Nat.le_refl _), h.lt⟩, hj⟩
/-- What is read is stored. -/
theorem TW.putN (h : TW w W bz A n c A2 n2 c2 A3 n3 c3 t) (x : Int) :
    ∃ V, W.setCell ⟨w.heap.size, 6, none⟩ (.int .i64 x) = V ∧ TW w V bz A n c A2 n2 c2 A3 n3 c3 ⟨t.own, t.lk, t.led, x⟩ ∧ Just w.heap.size W V := by
  have hj := Just.set W w.heap.size 6 (.int .i64 x)
  have hm : TM _ A n c A2 n2 c2 A3 n3 c3 ⟨t.own, t.lk, t.led, x⟩ := TM.just (W := W) ⟨h.m.ad, h.m.lk, h.m.led⟩ h.b Try.neDT Try.neHT hj
  exact ⟨_, rfl, ⟨h.b.put 6 _, hj.cb h.z (by have := h.lt; omega), hm, hj.low h.low (Nat.le_refl _), h.lt⟩, hj⟩
/-- A new part is stored. -/
theorem TW.putP (h : TW w W bz A n c A2 n2 c2 A3 n3 c3 t) {A' : Option Addr} {n' c' : Nat} {p : Pt} (hl : DS W A' n' c' p.ad) :
    ∃ V, (((W.setCell ⟨w.heap.size, 0, none⟩ (.int .i64 p.st)).setCell ⟨w.heap.size, 1, none⟩ (.slice A' n' c')).setCell ⟨w.heap.size, 2, none⟩ (.bool p.lo)).setCell ⟨w.heap.size, 3, none⟩ (.int .i64 p.ou) = V ∧ TW w V bz A' n' c' A2 n2 c2 A3 n3 c3 ⟨p, t.lk, t.led, t.sn⟩ ∧ Just w.heap.size W V := by
  have hj := ((((Just.set W w.heap.size 0 (.int .i64 p.st)).trans (Just.set _ w.heap.size 1 (.slice A' n' c'))).trans (Just.set _ w.heap.size 2 (.bool p.lo))).trans (Just.set _ w.heap.size 3 (.int .i64 p.ou)))
  have hm : TM _ A' n' c' A2 n2 c2 A3 n3 c3 ⟨p, t.lk, t.led, t.sn⟩ := TM.just (W := W) ⟨hl, h.m.lk, h.m.led⟩ h.b Try.neDT Try.neHT hj
  exact ⟨_, rfl, ⟨(((h.b.put 0 _).put 1 _).put 2 _).put 3 _, hj.cb h.z (by have := h.lt; omega), hm, hj.low h.low (Nat.le_refl _), h.lt⟩, hj⟩
theorem set7 (a0 a1 a2 a3 a4 a5 a6 x0 x1 x2 x3 x4 x5 x6 : Value) : (((((((#[a0, a1, a2, a3, a4, a5, a6] : Array Value).setIfInBounds 0 x0).setIfInBounds 1 x1).setIfInBounds 2 x2).setIfInBounds 3 x3).setIfInBounds 4 x4).setIfInBounds 5 x5).setIfInBounds 6 x6 = #[x0, x1, x2, x3, x4, x5, x6] := by simp
/-- A whole turn is stored into block d. -/
theorem turn_all {d : Nat} {cs : Array Value} (hd : CB W d 92 cs) (h7 : cs.size = 7) (p : Pt) (A : Option Addr) (n c : Nat) (A2 : Option Addr) (n2 c2 : Nat) (A3 : Option Addr) (n3 c3 : Nat) (sn : Int) :
    ∃ V, ((((((W.setCell ⟨d, 0, none⟩ (.int .i64 p.st)).setCell ⟨d, 1, none⟩ (.slice A n c)).setCell ⟨d, 2, none⟩ (.bool p.lo)).setCell ⟨d, 3, none⟩ (.int .i64 p.ou)).setCell ⟨d, 4, none⟩ (.slice A2 n2 c2)).setCell ⟨d, 5, none⟩ (.slice A3 n3 c3)).setCell ⟨d, 6, none⟩ (.int .i64 sn) = V ∧
      CB V d 92 (tcs p A n c A2 n2 c2 A3 n3 c3 sn) ∧ Just d W V := by
  have hj := ((((((Just.set W d 0 (.int .i64 p.st)).trans (Just.set _ d 1 (.slice A n c))).trans (Just.set _ d 2 (.bool p.lo))).trans (Just.set _ d 3 (.int .i64 p.ou))).trans (Just.set _ d 4 (.slice A2 n2 c2))).trans (Just.set _ d 5 (.slice A3 n3 c3))).trans (Just.set _ d 6 (.int .i64 sn))
  refine ⟨_, rfl, ?_, hj⟩
  obtain ⟨a0, a1, a2, a3, a4, a5, a6, rfl⟩ : ∃ a0 a1 a2 a3 a4 a5 a6, cs = #[a0, a1, a2, a3, a4, a5, a6] := by
    obtain ⟨l⟩ := cs
    match l, h7 with
    | [a0, a1, a2, a3, a4, a5, a6], _ => exact ⟨a0, a1, a2, a3, a4, a5, a6, rfl⟩
  have hx := ((((((hd.put 0 (.int .i64 p.st)).put 1 (.slice A n c)).put 2 (.bool p.lo)).put 3 (.int .i64 p.ou)).put 4 (.slice A2 n2 c2)).put 5 (.slice A3 n3 c3)).put 6 (.int .i64 sn)
  rw [set7] at hx
  exact hx
/-- A whole turn is stored where the turn lies: a call gave it. -/
theorem TW.putT (h : TW w W bz A n c A2 n2 c2 A3 n3 c3 t) {A' : Option Addr} {n' c' : Nat} {A2' : Option Addr} {n2' c2' : Nat} {A3' : Option Addr} {n3' c3' : Nat} {t' : Tn} (hm : TM W A' n' c' A2' n2' c2' A3' n3' c3' t') :
    ∃ V, ((((((W.setCell ⟨w.heap.size, 0, none⟩ (.int .i64 t'.own.st)).setCell ⟨w.heap.size, 1, none⟩ (.slice A' n' c')).setCell ⟨w.heap.size, 2, none⟩ (.bool t'.own.lo)).setCell ⟨w.heap.size, 3, none⟩ (.int .i64 t'.own.ou)).setCell ⟨w.heap.size, 4, none⟩ (.slice A2' n2' c2')).setCell ⟨w.heap.size, 5, none⟩ (.slice A3' n3' c3')).setCell ⟨w.heap.size, 6, none⟩ (.int .i64 t'.sn) = V ∧
      TW w V bz A' n' c' A2' n2' c2' A3' n3' c3' t' ∧ Just w.heap.size W V := by
  obtain ⟨V, hV, hb, hj⟩ := turn_all h.b rfl t'.own A' n' c' A2' n2' c2' A3' n3' c3' t'.sn
  exact ⟨V, hV, ⟨hb, hj.cb h.z (by have := h.lt; omega), hm.just h.b Try.neDT Try.neHT hj, hj.low h.low (Nat.le_refl _), h.lt⟩, hj⟩
/-- A turn is stored as the result. -/
theorem TW.fin (h : TW w W bz A n c A2 n2 c2 A3 n3 c3 t) {A' : Option Addr} {n' c' : Nat} {A2' : Option Addr} {n2' c2' : Nat} {A3' : Option Addr} {n3' c3' : Nat} {t' : Tn} (hm : TM W A' n' c' A2' n2' c2' A3' n3' c3' t') (k : Int) :
    ∃ V, ((((((W.setCell ⟨bz, 0, none⟩ (.int .i64 t'.own.st)).setCell ⟨bz, 1, none⟩ (.slice A' n' c')).setCell ⟨bz, 2, none⟩ (.bool t'.own.lo)).setCell ⟨bz, 3, none⟩ (.int .i64 t'.own.ou)).setCell ⟨bz, 4, none⟩ (.slice A2' n2' c2')).setCell ⟨bz, 5, none⟩ (.slice A3' n3' c3')).setCell ⟨bz, 6, none⟩ (.int .i64 t'.sn) = V ∧
      (V.cell? ⟨bz, 0, none⟩ = some (.int .i64 t'.own.st) ∧ V.cell? ⟨bz, 1, none⟩ = some (.slice A' n' c') ∧ V.cell? ⟨bz, 2, none⟩ = some (.bool t'.own.lo) ∧ V.cell? ⟨bz, 3, none⟩ = some (.int .i64 t'.own.ou) ∧ V.cell? ⟨bz, 4, none⟩ = some (.slice A2' n2' c2') ∧ V.cell? ⟨bz, 5, none⟩ = some (.slice A3' n3' c3') ∧ V.cell? ⟨bz, 6, none⟩ = some (.int .i64 t'.sn)) ∧
      UPost w t' k (.returned (.tuple #[tv t'.own A' n' c' A2' n2' c2' A3' n3' c3' t'.sn, .int .i64 k])) V := by
  obtain ⟨V, hV, hb, hj⟩ := turn_all h.z rfl t'.own A' n' c' A2' n2' c2' A3' n3' c3' t'.sn
  exact ⟨V, hV, ⟨hb.cell 0, hb.cell 1, hb.cell 2, hb.cell 3, hb.cell 4, hb.cell 5, hb.cell 6⟩, A', n', c', A2', n2', c2', A3', n3', c3', rfl, hm.just h.z Try.neDT Try.neHT hj, hj.low h.low (by have := h.lt; omega)⟩
/-- The boxes at the beginning of a step. -/
theorem TW.new (hm : TM w A n c A2 n2 c2 A3 n3 c3 t) (r : Rc) : ∃ W, ((w.alloc (.cells (tcs t.own A n c A2 n2 c2 A3 n3 c3 t.sn) 92)).alloc (.cells (kcs r) 35)).alloc (.cells tz 92) = W ∧
    TW w W (w.heap.size + 1 + 1) A n c A2 n2 c2 A3 n3 c3 t ∧ CB W (w.heap.size + 1) 35 (kcs r) := by
  have hb : Below w.heap.size w (((w.alloc (.cells (tcs t.own A n c A2 n2 c2 A3 n3 c3 t.sn) 92)).alloc (.cells (kcs r) 35)).alloc (.cells tz 92)) := bel2 (bel2 (belA _ _) (belA _ _)) (belA _ _)
  refine ⟨_, rfl, ⟨((CB.new w _ _).alloc _).alloc _, ?_, hm.on hb, hb, by omega⟩, ?_⟩
  · have := CB.new ((w.alloc (.cells (tcs t.own A n c A2 n2 c2 A3 n3 c3 t.sn) 92)).alloc (.cells (kcs r) 35)) 92 tz
    simpa using this
  · have := (CB.new (w.alloc (.cells (tcs t.own A n c A2 n2 c2 A3 n3 c3 t.sn) 92)) 35 (kcs r)).alloc (.cells tz 92)
    simpa using this
/-- .. where there is no call's record. -/
theorem TW.new2 (hm : TM w A n c A2 n2 c2 A3 n3 c3 t) : ∃ W, (w.alloc (.cells (tcs t.own A n c A2 n2 c2 A3 n3 c3 t.sn) 92)).alloc (.cells tz 92) = W ∧ TW w W (w.heap.size + 1) A n c A2 n2 c2 A3 n3 c3 t := by
  have hb : Below w.heap.size w ((w.alloc (.cells (tcs t.own A n c A2 n2 c2 A3 n3 c3 t.sn) 92)).alloc (.cells tz 92)) := bel2 (belA _ _) (belA _ _)
  refine ⟨_, rfl, ⟨(CB.new w _ _).alloc _, ?_, hm.on hb, hb, by omega⟩⟩
  have := CB.new (w.alloc (.cells (tcs t.own A n c A2 n2 c2 A3 n3 c3 t.sn) 92)) 92 tz
  simpa using this
theorem rec_cells {b : Nat} {r : Rc} (h : CB W b 35 (kcs r)) : W.cell? ⟨b, 0, none⟩ = some (.int .i64 r.kd) ∧ W.cell? ⟨b, 1, none⟩ = some (.int .i64 r.tx) ∧ W.cell? ⟨b, 2, none⟩ = some (.int .u8 r.ky) ∧ W.cell? ⟨b, 3, none⟩ = some (.int .i64 r.nn) :=
  ⟨h.cell 0, h.cell 1, h.cell 2, h.cell 3⟩
end
end Go.Proofs.Ytealcccjnmfkcaa

/-
  An entry of a map that is made ready first and stored afterwards: both together are the store 'm[k] = v'. Any program; the map of parts of package site.
-/
set_option linter.unusedVariables false
set_option linter.unusedSimpArgs false
namespace Go.Proofs.Ytealcccjnmfkcaa
open Go.RowKit Go.Maps Go.ChangeMaps Go.MapKept Go.WideElems Go.ChangeShapes Go.WideShapes

theorem est_run {P : Program} {t : TypeId} {w : World} {b : Nat} {es : Array MapEntry} {cl : Nat} (hb : w.heap[b]? = some (.map es cl)) {st j : Nat} (hj : es.findIdx? (fun e => ((e.born : Nat) : Int) == ((st : Nat) : Int)) = some j) (v : Value) :
    (Instr.entryStore t (.map (some b)) (goInt st) v).run P w = .ok () (setBlock w b (.map (es.modify j fun e => { e with val := v }) cl)) := by
  simp [Instr.entryStore, MapKept.run_getObj_map hb, asInt, asIntOf, goInt, hj, MapKept.run_setObj_map _ hb, Result.andThen, setBlock]
theorem entry_run {H : Type} {P : Program} {t k e : TypeId} {R : Value → Option (DataW H × List MemPlace)} {w : World} {b : Nat} {es : Array MapEntry} {cl : Nat} (K : Keyed P k) (ht : P.underlying t = some (.map k e)) {z : Value} (hz : ∀ u : World, (zeroValue e).run P u = .ok z u)
    (hb : w.heap[b]? = some (.map es cl)) (F : Fit P k R es cl) {key : Value} {kl : Lit} (hkey : keyOf P k key = some kl) :
    ∃ (x : Value) (st : Nat) (es1 : Array MapEntry) (cl1 : Nat), (Instr.mapEntry t (.map (some b)) key).run P w = .ok (.tuple #[x, goInt st]) (setBlock w b (.map es1 cl1)) ∧
      ∀ (w2 : World) (v : Value), w2.heap[b]? = some (.map es1 cl1) → ∃ es2 cl2, (Instr.entryStore t (.map (some b)) (goInt st) v).run P w2 = .ok () (setBlock w2 b (.map es2 cl2)) ∧ (Instr.mapUpdate t (.map (some b)) key v).run P w = .ok () (setBlock w b (.map es2 cl2)) := by
  obtain ⟨s1, s2, _⟩ := F.stamped
  have hck := K.check w false hkey
  rcases K.find w hkey es.toList F.keys with ⟨h1, h2⟩ | ⟨j, y, h1, h2, h3⟩
  · -- no such key: the entry is laid behind the others, under the clock's stamp
    have hnd : ((es.push ⟨key, z, cl⟩).toList.map (·.born)).Nodup := by
      rw [Array.toList_push, List.map_append]
      refine List.nodup_append.2 ⟨s2, by simp, ?_⟩
      rintro a ha c hc rfl
      obtain ⟨q, hq, rfl⟩ := List.mem_map.1 ha
      have hlt := s1 q hq
      simp at hc
      omega
    have hidx : (es.push ⟨key, z, cl⟩).findIdx? (fun e => ((e.born : Nat) : Int) == ((cl : Nat) : Int)) = some es.size := by
      rw [findIdx_arr]
      exact findIdx_born hnd (e0 := ⟨key, z, cl⟩) (by simp)
    refine ⟨z, cl, es.push ⟨key, z, cl⟩, cl + 1, ?_, fun w2 v hw2 => ⟨_, _, est_run hw2 hidx v, ?_⟩⟩
    · simp [Instr.mapEntry, run_underlying ht, MapKept.run_getObj_map hb, hck, h1, hz, MapKept.run_setObj_map _ hb, Result.andThen, setBlock]
    · have e1 : (es.push ⟨key, z, cl⟩).modify es.size (fun e => { e with val := v }) = es.push ⟨key, v, cl⟩ := by
        apply Array.ext'
        rw [Array.toList_modify, Array.toList_push, Array.toList_push, ← Array.length_toList, modify_last]
      rw [e1]
      simp [Instr.mapUpdate, run_underlying ht, MapKept.run_getObj_map hb, hck, h1, MapKept.run_setObj_map _ hb, Result.andThen, setBlock]
  · -- the key stands there: its entry is found again by its stamp
    subst h3
    have hj : es[j]? = some y := by simpa using h2
    have hst := K.stays w hkey
    have hidx : es.findIdx? (fun e => ((e.born : Nat) : Int) == ((y.born : Nat) : Int)) = some j := by
      rw [findIdx_arr]
      exact findIdx_born s2 h2
    have e0 : es.modify j (fun e => { e with key := y.key }) = es := by
      apply Array.ext'
      rw [Array.toList_modify, modify_eq_set _ _ _ _ h2]
      exact set_self _ _ _ h2
    have e2 : ∀ v : Value, es.modify j (fun e => { e with val := v }) = es.modify j (fun e => { e with key := y.key, val := v }) := fun v => by
      apply Array.ext'
      rw [Array.toList_modify, Array.toList_modify, modify_eq_set _ _ _ _ h2, modify_eq_set _ _ _ _ h2]
    refine ⟨y.val, y.born, es, cl, ?_, fun w2 v hw2 => ⟨_, _, est_run hw2 hidx v, ?_⟩⟩
    · simp [Instr.mapEntry, run_underlying ht, MapKept.run_getObj_map hb, hck, h1, hj, hst, e0, MapKept.run_setObj_map _ hb, Result.andThen, setBlock]
    · rw [e2 v]
      simp [Instr.mapUpdate, run_underlying ht, MapKept.run_getObj_map hb, hck, h1, hj, hst, MapKept.run_setObj_map _ hb, Result.andThen, setBlock]

theorem turned_set {w : World} {b : Nat} {es : Array MapEntry} {cl : Nat} (hb : w.heap[b]? = some (.map es cl)) (es' : Array MapEntry) (cl' : Nat) : w.mapTurned (setBlock w b (.map es' cl')) b := ⟨es, cl, es', cl', hb, rfl⟩
/-- The entry made ready, and stored later, in whatever world has the map's block as it was left. -/
theorem MF.entry {w : World} {m N : Nat} {f : Int → Option Value} (h : MF w m N f) (hn : N < maxLen) {k : Int} (hk : (Lit.int .i64 k).wf = true) :
    ∃ (x : Value) (st : Nat) (w1 : World), (Instr.mapEntry 61 (.map (some m)) (.int .i64 k)).run Try.prog w = .ok (.tuple #[x, .int .i64 st]) w1 ∧ w.mapTurned w1 m ∧
      ∀ (w2 : World) (v : Value), w2.heap[m]? = w1.heap[m]? → ∃ w3, (Instr.entryStore 61 (.map (some m)) (.int .i64 st) v).run Try.prog w2 = .ok () w3 ∧ MF w3 m (N + 1) (fun j => if j = k then some v else f j) ∧ w2.mapTurned w3 m := by
  obtain ⟨D, ⟨es, cl, hb, F, hs, hD⟩, h2⟩ := id h
  obtain ⟨x, st, es1, cl1, hE, hS⟩ := entry_run (w := w) lawI Try.underlying61 zeroP hb F (keyOf_int_mk Try.underlying3 hk)
  refine ⟨x, st, _, hE, turned_set hb _ _, fun w2 v hw2 => ?_⟩
  rw [heap_setBlock_same hb] at hw2
  obtain ⟨es2, cl2, hT, hU⟩ := hS w2 v hw2
  obtain ⟨w', hrun, ho, _⟩ := h.store hn hk v
  rw [hU] at hrun
  injection hrun with _ hw'
  subst hw'
  exact ⟨_, hT, ho.same (by rw [heap_setBlock_same hw2, heap_setBlock_same hb]), turned_set hw2 _ _⟩
end Go.Proofs.Ytealcccjnmfkcaa
