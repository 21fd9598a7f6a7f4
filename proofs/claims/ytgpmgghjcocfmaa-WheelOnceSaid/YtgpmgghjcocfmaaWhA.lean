/-
  Timers in memory: a slice of timers that can be read, one of a call's own, a wheel in a variable; the order of two timers. No condition but those that each theorem names.
-/
import Derived.Test.YtgpmgghjcocfmaaRows
import Derived.Test.YtgpmgghjcocfmaaWhM
import Derived.Test.YtgpmgghjcocfmaaMemC
import Derived.WalkKit
import Derived.WalkSpells
import Derived.WalkLawsBesides
import Derived.OwnWalk
import Derived.Deep.QuietTactic
import Derived.BigQuiet
import Derived.Lib.Hide
import Derived.IntWalk
import Derived.StillTailTactics
import Derived.Deep.RegionHeld3
set_option linter.unusedVariables false
set_option linter.unusedSimpArgs false
namespace Go.Proofs.Ytgpmgghjcocfmaa
open Go.RowKit

theorem ret_bool {a b : Bool} (h : a = b) : Ending.returned (.bool a) = .returned (.bool b) := by rw [h]
theorem belowN {B : Nat} {a w : World} (h : Below B a w) (n : Nat) : Below B a (w.drewN n) := ⟨h.os, h.tape, h.output, h.size, h.block⟩
theorem belowD {B : Nat} {a w : World} (h : Below B a w) : Below B a w.drew := ⟨h.os, h.tape, h.output, h.size, h.block⟩
theorem below_drew {B : Nat} {W w1 : World} (h : Below B W.drew w1) : Below B W w1 := ⟨h.os, h.tape, h.output, h.size, h.block⟩
theorem below_drewN {B k : Nat} {W w1 : World} (h : Below B (W.drewN k) w1) : Below B W w1 := ⟨h.os, h.tape, h.output, h.size, h.block⟩
theorem grown_below {w w1 : World} {G : Option Nat} (h : w.grownBy w1 G) {B : Nat} (hB : B ≤ w.heap.size) (hG : ∀ g, G = some g → B ≤ g) : Below B w w1 :=
  ⟨h.os, h.tape, h.output, h.size, fun i hi => h.block i (by omega) (fun e => by have := hG i e.symm; omega)⟩
theorem grown_drew {w w1 : World} {G : Option Nat} (h : w.grownBy w1 G) : w.grownBy w1.drew G := ⟨h.os, h.tape, h.output, h.size, h.block⟩
theorem Moved.ge {w : World} {G G' : Option Nat} (h : Moved w G G') {B : Nat} (hB : B ≤ w.heap.size) (hG : ∀ g, G = some g → B ≤ g) : ∀ g, G' = some g → B ≤ g := by
  rcases h with rfl | ⟨g, rfl, hg⟩
  · exact hG
  · intro g' e; cases e; omega
/-- Two calls one behind the other. -/
theorem bel2 {w w1 w2 : World} (h : Below w.heap.size w w1) (k : Below w1.heap.size w1 w2) : Below w.heap.size w w2 := h.trans (k.mono h.size)
theorem bel2B {B : Nat} {w w1 w2 : World} (h : Below B w w1) (hB : B ≤ w1.heap.size) (k : Below w1.heap.size w1 w2) : Below B w w2 := h.trans (k.mono hB)
section
variable {P : Program} (w : World)
theorem wpList_append_src {ops : Array Oper} {rest : List Oper} {o : Oper} {a : Act} {Q : Exit → Act → World → Prop} (hgd : o.guard = none) (s x : Operand) (t : TypeId)
    (ho : o.op = .call { callee := .builtin .append, args := #[s, x], argTypes := #[t, t] })
    (e : TypeId) (i : TypeInfo) (z : Value) (size bytes : Nat) (ht : P.underlying t = some (.slice e)) (hi : P.info? e = some i) (hz : i.zero = some z)
    (hsize : i.size = size) (hby : i.bytes = bytes) (hzs : z.cells.size = size) (hsz : 0 < size)
    {A : Option Addr} {n c : Nat} {xs : List Value} {G : Option Nat} (hs : a.eval s = .slice A n c) (hseg : Seg w e size A n c xs G)
    {As : Option Addr} {m k : Nat} {news : List Value} (hx : a.eval x = .slice As m k) (hsrc : Src w size As m news) (h1 : ∀ u ∈ news, u.oneCell' = true)
    (h63 : n + m ≤ maxLen) (hbytes : (n + m) * bytes ≤ 140737488355328) (N : Nat) (hN : n + m = N)
    (h : ∀ A' c' G' w', Seg w' e size A' N c' (xs ++ news) G' → w.grownBy w' G → Moved w G G' → wpList P ops Q rest (a.put o.dst (.slice A' N c')) w') : wpList P ops Q (o :: rest) a w := by
  subst hN
  obtain ⟨A', c', G', w', hrun, h2, h3, h4⟩ := run_append_src (P := P) w t o.type e i z size bytes ht hi hz hsize hby hzs hsz hseg k hsrc h1 h63 hbytes
  refine wpList_plain hgd fun K hK' => ?_
  unfold Oper.wp
  simp [execOp, ho, resolve, invoke, builtin, hs, hx, hrun, Result.andThen]
  exact hK' _ _ (h A' c' G' w' h2 h3 h4)
end
/-- A cut 's[k:]'. -/
theorem run_cut_from {P : Program} (t e : TypeId) (ht : P.underlying t = some (.slice e)) (size : Nat) (hz : ∀ w, (sizeOf e).run P w = .ok size w) (A : Option Addr) (n c k : Nat) (hk : k ≤ n) (w : World) :
    (Instr.slice t (.slice A n c) (some (.int .i64 k)) none none).run P w = .ok (.slice (if c = k then A else A.map (·.add (k * size))) (n - k) (c - k)) w := by
  simp [Instr.slice, run_underlying ht, Instr.sliceBounds, hz, go_sem, hk]

/-- Timers as cells. -/
def tc (L : List (Int × Int)) : List Value := L.flatMap fun p => [.int .i64 p.1, .int .i64 p.2]
theorem tc_length (L : List (Int × Int)) : (tc L).length = L.length * 2 := by
  induction L with
  | nil => rfl
  | cons p r ih => simp only [tc, List.flatMap_cons, List.length_append, List.length_cons, List.length_nil] at ih ⊢; omega
theorem tc_append (L M : List (Int × Int)) : tc (L ++ M) = tc L ++ tc M := List.flatMap_append
theorem tc_snoc (L : List (Int × Int)) (a b : Int) : tc L ++ [.int .i64 a, .int .i64 b] = tc (L ++ [(a, b)]) := by rw [tc_append]; rfl
theorem tc_one (L : List (Int × Int)) : ∀ u ∈ tc L, u.oneCell' = true := by
  intro u hu
  simp only [tc, List.mem_flatMap] at hu
  obtain ⟨p, _, hu⟩ := hu
  simp at hu
  rcases hu with rfl | rfl <;> rfl
theorem tc_at : ∀ (L : List (Int × Int)) {k : Nat}, k < L.length → (tc L)[k * 2]? = some (.int .i64 (tk L k).1) ∧ (tc L)[k * 2 + 1]? = some (.int .i64 (tk L k).2)
  | [], k, h => by simp at h
  | p :: r, 0, _ => ⟨rfl, rfl⟩
  | p :: r, k + 1, h => by
    have ih := tc_at r (k := k) (by simpa using h)
    have e : tc (p :: r) = .int .i64 p.1 :: .int .i64 p.2 :: tc r := rfl
    rw [e, show (k + 1) * 2 = k * 2 + 1 + 1 by omega]
    exact ih
theorem tc_drop : ∀ (L : List (Int × Int)) (k : Nat), (tc L).drop (k * 2) = tc (L.drop k)
  | L, 0 => by simp
  | [], k + 1 => by simp [tc]
  | p :: r, k + 1 => by
    have e : tc (p :: r) = .int .i64 p.1 :: .int .i64 p.2 :: tc r := rfl
    rw [e, show (k + 1) * 2 = k * 2 + 1 + 1 by omega]
    simpa using tc_drop r k
theorem two_one (p q : Int) : ∀ u ∈ [Value.int .i64 p, .int .i64 q], u.oneCell' = true := by
  intro u hu
  simp at hu
  rcases hu with rfl | rfl <;> rfl
theorem cell_two_new (w : World) (t : TypeId) (u v : Value) : ∀ (j : Nat) (x : Value), [u, v][j]? = some x → (w.alloc (.cells #[u, v] t)).cell? ((⟨w.heap.size, 0, none⟩ : Addr).add j) = some x := by
  intro j x hj
  match j, hj with
  | 0, hj => simp at hj; subst hj; exact (CB.new w t #[u, v]).cell 0
  | 1, hj => simp at hj; subst hj; exact (CB.new w t #[u, v]).cell 1

/-- Numbers that an int64 can have. -/
def wfL (L : List (Int × Int)) : Prop := ∀ p ∈ L, (Lit.int .i64 p.1).wf = true ∧ (Lit.int .i64 p.2).wf = true
theorem wfL.sub {L M : List (Int × Int)} (h : wfL L) (hs : M.Sublist L) : wfL M := fun p hp => h p (hs.subset hp)
theorem wfL.nil : wfL [] := fun p hp => by simp at hp
theorem wfL.ins {L : List (Int × Int)} (h : wfL L) {a b : Int} (ha : (Lit.int .i64 a).wf = true) (hb : (Lit.int .i64 b).wf = true) : wfL (insT (a, b) L) := by
  intro p hp
  rcases mem_insT.1 hp with rfl | hp
  · exact ⟨ha, hb⟩
  · exact h p hp
theorem wfL.snoc {L : List (Int × Int)} (h : wfL L) {p : Int × Int} (hp : (Lit.int .i64 p.1).wf = true ∧ (Lit.int .i64 p.2).wf = true) : wfL (L ++ [p]) := by
  intro q hq
  rcases List.mem_append.1 hq with hq | hq
  · exact h q hq
  · simp at hq; subst hq; exact hp

/-- A slice of timers that can be read. -/
structure TR (w : World) (A : Option Addr) (n c : Nat) (L : List (Int × Int)) : Prop where
  len : L.length = n
  cap : n ≤ c
  max : c ≤ maxLen
  wf : wfL L
  mem : 0 < n → ∃ g off, A = some ⟨g, off, none⟩ ∧ ∀ i v, (tc L)[i]? = some v → w.cell? ⟨g, off + i, none⟩ = some v

section
variable {w w' : World} {A : Option Addr} {n c : Nat} {L : List (Int × Int)}
theorem TR.nil (w : World) : TR w none 0 0 [] := ⟨rfl, Nat.le_refl _, Nat.zero_le _, wfL.nil, fun h => absurd h (by omega)⟩
theorem TR.drew (h : TR w A n c L) : TR w.drew A n c L := ⟨h.1, h.2, h.3, h.4, h.5⟩
theorem TR.drewN (h : TR w A n c L) (k : Nat) : TR (w.drewN k) A n c L := ⟨h.1, h.2, h.3, h.4, h.5⟩
theorem TR.at_ (h : TR w A n c L) {k : Nat} (hk : k < n) : ∃ g off, A = some ⟨g, off, none⟩ ∧ g < w.heap.size ∧ w.cell? ⟨g, off + k * 2, none⟩ = some (.int .i64 (tk L k).1) ∧ w.cell? ⟨g, off + k * 2 + 1, none⟩ = some (.int .i64 (tk L k).2) := by
  obtain ⟨g, off, h1, h2⟩ := h.mem (by omega)
  obtain ⟨e1, e2⟩ := tc_at L (k := k) (by rw [h.len]; exact hk)
  have z1 := h2 _ _ e1
  have z2 := h2 _ _ e2
  rw [← Nat.add_assoc] at z2
  exact ⟨g, off, h1, World.block_lt_of_cell? w _ z1, z1, z2⟩
theorem TR.keep (h : TR w A n c L) (hk : ∀ g off, A = some ⟨g, off, none⟩ → 0 < n → g < w.heap.size → w'.heap[g]? = w.heap[g]?) : TR w' A n c L := by
  refine ⟨h.1, h.2, h.3, h.4, fun hn => ?_⟩
  obtain ⟨g, off, h1, h2⟩ := h.mem hn
  obtain ⟨g', off', e, hlt, _⟩ := h.at_ hn
  rw [h1] at e
  cases e
  exact ⟨g, off, h1, fun i v hv => by rw [← h2 i v hv]; exact World.cell?_of_block (a := ⟨g, off + i, none⟩) (hk g off h1 hn hlt)⟩
theorem TR.on (h : TR w A n c L) (hb : Below w.heap.size w w') : TR w' A n c L := h.keep fun g _ _ _ hg => hb.block g hg
theorem TR.src (h : TR w A n c L) : Src w 2 A n (tc L) := by
  refine ⟨by rw [tc_length, h.len], fun hn => ?_⟩
  obtain ⟨g, off, h1, h2⟩ := h.mem hn
  exact ⟨_, h1, fun j u hu => by rw [Addr.add_lit]; exact h2 j u hu⟩
theorem TR.of_seg {T : TypeId} {G : Option Nat} (h : Seg w T 2 A n c (tc L) G) (hw : wfL L) : TR w A n c L := by
  have h1 := h.1
  rw [tc_length] at h1
  refine ⟨by omega, h.2.1, h.2.2.1, hw, fun hn => ?_⟩
  obtain ⟨e1, e2⟩ := tc_at L (k := 0) (by omega)
  obtain ⟨g, off, hA, hG, _⟩ := h.at_ e1
  refine ⟨g, off, hA, fun i v hv => ?_⟩
  obtain ⟨g', off', hA', _, hc⟩ := h.at_ hv
  rw [hA] at hA'
  cases hA'
  exact hc
theorem TR.cut (h : TR w A n c L) {k : Nat} (hk : k ≤ n) : TR w (if c = k then A else A.map (·.add (k * 2))) (n - k) (c - k) (L.drop k) := by
  have h1 := h.len
  have h2 := h.cap
  have h3 := h.max
  refine ⟨by rw [List.length_drop, h1], by omega, by omega, h.wf.sub (List.drop_sublist _ _), fun hn => ?_⟩
  obtain ⟨g, off, rfl, hc⟩ := h.mem (by omega)
  refine ⟨g, off + k * 2, by rw [if_neg (by omega)]; simp [Addr.add_lit], fun i v hv => ?_⟩
  rw [← tc_drop, List.getElem?_drop] at hv
  rw [Nat.add_assoc]
  exact hc _ v hv
/-- Timers stay, whatever is stored into a wheel's variable. -/
theorem TR.far (h : TR w A n c L) {d : Nat} {T : TypeId} {now : Int} {A' : Option Addr} {n' c' : Nat} (hd : CB w d T #[.int .i64 now, .slice A' n' c']) (i : Nat) (x : Value) : TR (w.setCell ⟨d, i, none⟩ x) A n c L := by
  refine h.keep fun g off hA hn _ => Below.heap_setCell w ⟨d, i, none⟩ x g ?_
  rintro rfl
  obtain ⟨g', off', e, _, z1, z2⟩ := h.at_ hn
  rw [hA] at e
  cases e
  simp only [Nat.zero_mul, Nat.add_zero] at z1 z2
  rw [hd.cell] at z1 z2
  match off, z1, z2 with
  | 0, _, z2 => simp at z2
  | 1, z1, _ => simp at z1
  | k + 2, z1, _ => simp at z1
end

/-- A slice of timers of the program's own. -/
def TS (w : World) (T : TypeId) (A : Option Addr) (n c : Nat) (L : List (Int × Int)) : Prop := wfL L ∧ ∃ G, Seg w T 2 A n c (tc L) G
section
variable {w w' : World} {T : TypeId} {A : Option Addr} {n c : Nat} {L : List (Int × Int)}
theorem TS.tr (h : TS w T A n c L) : TR w A n c L := by obtain ⟨h1, G, h2⟩ := h; exact TR.of_seg h2 h1
theorem TS.on (h : TS w T A n c L) (hb : Below w.heap.size w w') : TS w' T A n c L := by obtain ⟨h1, G, h2⟩ := h; exact ⟨h1, G, h2.keep fun g hg => hb.block g (h2.lt g hg)⟩
theorem TS.drew (h : TS w T A n c L) : TS w.drew T A n c L := h
theorem TS.drewN (h : TS w T A n c L) (k : Nat) : TS (w.drewN k) T A n c L := h
theorem TS.far (h : TS w T A n c L) {d : Nat} {T' : TypeId} {cs : Array Value} (hd : CB w d T' cs) (ht : T ≠ T') (i : Nat) (x : Value) : TS (w.setCell ⟨d, i, none⟩ x) T A n c L := by
  obtain ⟨h1, G, h2⟩ := h
  exact ⟨h1, G, h2.far (p := ⟨d, i, none⟩) (h2.ne_ hd ht) x⟩
theorem TS.nil (w : World) (T : TypeId) : TS w T none 0 0 [] := ⟨wfL.nil, none, Seg.nil _ _ _⟩
theorem TS.len (h : TS w T A n c L) : L.length = n := h.tr.len
end

/-- Ids as cells. -/
def ic (l : List Int) : List Value := l.map fun x => .int .i64 x
theorem ic_snoc (l : List Int) (x : Int) : ic l ++ [.int .i64 x] = ic (l ++ [x]) := by simp [ic]
theorem ic_append (l m : List Int) : ic (l ++ m) = ic l ++ ic m := List.map_append
theorem ic_one (l : List Int) : ∀ u ∈ ic l, u.oneCell' = true := by
  intro u hu
  simp only [ic, List.mem_map] at hu
  obtain ⟨b, _, rfl⟩ := hu
  rfl
/-- A slice of ids of a call's own. -/
def IS (w : World) (A : Option Addr) (n c : Nat) (l : List Int) : Prop := ∃ G, Seg w 3 1 A n c (ic l) G
section
variable {w w' : World} {A : Option Addr} {n c : Nat} {l : List Int}
theorem IS.on (h : IS w A n c l) (hb : Below w.heap.size w w') : IS w' A n c l := by obtain ⟨G, h2⟩ := h; exact ⟨G, h2.keep fun g hg => hb.block g (h2.lt g hg)⟩
theorem IS.drew (h : IS w A n c l) : IS w.drew A n c l := h
theorem IS.drewN (h : IS w A n c l) (k : Nat) : IS (w.drewN k) A n c l := h
theorem IS.far (h : IS w A n c l) {d : Nat} {T' : TypeId} {cs : Array Value} (hd : CB w d T' cs) (ht : 3 ≠ T') (i : Nat) (x : Value) : IS (w.setCell ⟨d, i, none⟩ x) A n c l := by
  obtain ⟨G, h2⟩ := h
  exact ⟨G, h2.far (p := ⟨d, i, none⟩) (h2.ne_ hd ht) x⟩
theorem IS.nil (w : World) : IS w none 0 0 [] := ⟨none, Seg.nil _ _ _⟩
theorem IS.len (h : IS w A n c l) : l.length = n := by obtain ⟨G, h2⟩ := h; have := h2.1; simpa [ic] using this
theorem IS.max (h : IS w A n c l) : n ≤ maxLen := by obtain ⟨G, h2⟩ := h; exact Nat.le_trans h2.2.1 h2.2.2.1
theorem IS.at_ (h : IS w A n c l) {k : Nat} (hk : k < n) : ∃ g off, A = some ⟨g, off, none⟩ ∧ w.cell? ⟨g, off + k, none⟩ = some (.int .i64 (l[k]?.getD 0)) := by
  have hl := h.len
  obtain ⟨G, h2⟩ := h
  have e : (ic l)[k]? = some (.int .i64 (l[k]?.getD 0)) := by
    unfold ic
    rw [List.getElem?_map, List.getElem?_eq_getElem (by omega)]
    rfl
  obtain ⟨g, off, h3, _, h4⟩ := h2.at_ e
  exact ⟨g, off, h3, h4⟩
theorem IS.src (h : IS w A n c l) : Src w 1 A n (ic l) := by
  have hl := h.len
  refine ⟨by simp [ic, hl], fun hn => ?_⟩
  obtain ⟨G, h2⟩ := h
  rcases h2.2.2.2 with ⟨_, h0, _⟩ | ⟨g, off, cur, h3, _, h5, _, h7⟩
  · have := h2.2.1; omega
  · exact ⟨_, h3, fun j u hu => by rw [Addr.add_lit, h5.cell]; exact h7 j u hu⟩
end

theorem Try.infoW : (Try.prog.info? 66).map (fun i => (i.zero, i.size, i.bytes)) = some (some (.agg #[.int .i64 0, .int .i64 0]), 2, 16) := by kernel_rfl
theorem Try.infoR : (Try.prog.info? 46).map (fun i => (i.zero, i.size, i.bytes)) = some (some (.agg #[.int .i64 0, .int .i64 0]), 2, 16) := by kernel_rfl
theorem Try.infoI : (Try.prog.info? 3).map (fun i => (i.zero, i.size, i.bytes)) = some (some (.int .i64 0), 1, 8) := by kernel_rfl

/-- A wheel in a variable. -/
def Box (W : World) (b : Nat) (T : TypeId) (now : Int) (A : Option Addr) (n c : Nat) : Prop := CB W b T #[.int .i64 now, .slice A n c]
abbrev set2 (W : World) (d : Nat) (x0 x1 : Value) : World := (W.setCell ⟨d, 0, none⟩ x0).setCell ⟨d, 1, none⟩ x1
section
variable {W W' : World} {b : Nat} {T : TypeId} {now : Int} {A : Option Addr} {n c : Nat}
theorem Box.lt (h : Box W b T now A n c) : b < W.heap.size := CB.lt h
theorem Box.cells (h : Box W b T now A n c) : W.cell? ⟨b, 0, none⟩ = some (.int .i64 now) ∧ W.cell? ⟨b, 1, none⟩ = some (.slice A n c) := ⟨by rw [CB.cell h]; rfl, by rw [CB.cell h]; rfl⟩
theorem Box.froz (h : Box W b T now A n c) : W.frozen? ⟨b, 0, none⟩ = false ∧ W.frozen? ⟨b, 1, none⟩ = false := ⟨CB.frozen h 0, CB.frozen h 1⟩
theorem Box.on {B : Nat} (h : Box W b T now A n c) (hb : Below B W W') (hB : b < B) : Box W' b T now A n c := CB.same h (hb.block b hB)
theorem Box.drew (h : Box W b T now A n c) : Box W.drew b T now A n c := h
theorem Box.drewN (h : Box W b T now A n c) (k : Nat) : Box (W.drewN k) b T now A n c := h
theorem Box.alloc (h : Box W b T now A n c) (o : Obj) : Box (W.alloc o) b T now A n c := CB.alloc h o
theorem Box.put2 (h : Box W b T now A n c) (now' : Int) (A' : Option Addr) (n' c' : Nat) : Box (set2 W b (.int .i64 now') (.slice A' n' c')) b T now' A' n' c' := (CB.put h 0 (.int .i64 now')).put 1 (.slice A' n' c')
theorem Box.put1 (h : Box W b T now A n c) (A' : Option Addr) (n' c' : Nat) : Box (W.setCell ⟨b, 1, none⟩ (.slice A' n' c')) b T now A' n' c' := CB.put h 1 (.slice A' n' c')
theorem Box.far1 (h : Box W b T now A n c) {d : Nat} (hd : b ≠ d) (i : Nat) (x : Value) : Box (W.setCell ⟨d, i, none⟩ x) b T now A n c := CB.far h (p := ⟨d, i, none⟩) hd x
theorem Box.far2 (h : Box W b T now A n c) {d : Nat} (hd : b ≠ d) (x0 x1 : Value) : Box (set2 W d x0 x1) b T now A n c := (h.far1 hd 0 x0).far1 hd 1 x1
theorem Box.new (w : World) (T : TypeId) (now : Int) (A : Option Addr) (n c : Nat) : Box (w.alloc (.cells #[.int .i64 now, .slice A n c] T)) w.heap.size T now A n c := CB.new _ _ _
theorem TR.far1 {A' : Option Addr} {n' c' : Nat} {L : List (Int × Int)} (h : TR W A' n' c' L) (hd : Box W b T now A n c) (i : Nat) (x : Value) : TR (W.setCell ⟨b, i, none⟩ x) A' n' c' L := h.far hd i x
theorem TR.far2 {A' : Option Addr} {n' c' : Nat} {L : List (Int × Int)} (h : TR W A' n' c' L) (hd : Box W b T now A n c) (now1 : Int) (x : Value) : TR (set2 W b (.int .i64 now1) x) A' n' c' L := by
  have h1 := h.far1 hd 0 (.int .i64 now1)
  have hd1 : Box (W.setCell ⟨b, 0, none⟩ (.int .i64 now1)) b T now1 A n c := CB.put hd 0 (.int .i64 now1)
  exact h1.far1 hd1 1 x
end
theorem below_set2 {B : Nat} {w W : World} (h : Below B w W) {d : Nat} (hd : B ≤ d) (x0 x1 : Value) : Below B w (set2 W d x0 x1) := (h.setCell hd _).setCell hd _
theorem set2_size (W : World) (d : Nat) (x0 x1 : Value) : (set2 W d x0 x1).heap.size = W.heap.size := by simp [set2, World.setCell]

/-- A variable that holds a wheel: the world behind its making under a name. -/
theorem boxed (w1 : World) (T : TypeId) (now : Int) (A : Option Addr) (n c : Nat) : ∃ W, w1.alloc (.cells #[.int .i64 now, .slice A n c] T) = W ∧ Box W w1.heap.size T now A n c ∧ Below w1.heap.size w1 W :=
  ⟨_, rfl, Box.new _ _ _ _ _ _, (Below.refl _ _).alloc (Nat.le_refl _) _⟩

/-- The two boxes at the beginning of a function with a wheel for argument and one for result. -/
theorem two_boxes (w : World) (T T' : TypeId) (now : Int) (A : Option Addr) (n c : Nat) : ∃ W, W = (w.alloc (.cells #[.int .i64 now, .slice A n c] T)).alloc (.cells #[.int .i64 0, .slice none 0 0] T') ∧ Box W w.heap.size T now A n c ∧ Box W (w.heap.size + 1) T' 0 none 0 0 ∧ Below w.heap.size w W ∧ Hid (W.heap.size = w.heap.size + 2) := by
  refine ⟨_, rfl, (Box.new w T now A n c).alloc _, ?_, ((Below.refl _ _).alloc (Nat.le_refl _) _).alloc (by simp) _, ?_⟩
  · have := Box.new (w.alloc (.cells #[.int .i64 now, .slice A n c] T)) T' 0 none 0 0
    simpa using this
  · show _ = _
    simp

/-- A wheel is stored into block d: the world behind it under a name. -/
theorem store_end {w1 : World} {d : Nat} {T : TypeId} {now' : Int} {A' : Option Addr} {n' c' : Nat} (hd : Box w1 d T now' A' n' c') (now : Int) (A : Option Addr) (n c : Nat) :
    ∃ w2, (w1.setCell ⟨d, 0, none⟩ (.int .i64 now)).setCell ⟨d, 1, none⟩ (.slice A n c) = w2 ∧ Box w2 d T now A n c ∧ w2.heap.size = w1.heap.size ∧
      (∀ (b : Nat) (T' : TypeId) (now'' : Int) (A'' : Option Addr) (n'' c'' : Nat), b ≠ d → Box w1 b T' now'' A'' n'' c'' → Box w2 b T' now'' A'' n'' c'') ∧
      (∀ (B : Nat) (w : World), Below B w w1 → B ≤ d → Below B w w2) ∧ (∀ (A'' : Option Addr) (n'' c'' : Nat) (L : List (Int × Int)), TR w1 A'' n'' c'' L → TR w2 A'' n'' c'' L) ∧
      (∀ (T'' : TypeId) (A'' : Option Addr) (n'' c'' : Nat) (L : List (Int × Int)), T'' ≠ T → TS w1 T'' A'' n'' c'' L → TS w2 T'' A'' n'' c'' L) ∧
      (∀ (A'' : Option Addr) (n'' c'' : Nat) (l : List Int), 3 ≠ T → IS w1 A'' n'' c'' l → IS w2 A'' n'' c'' l) ∧ (∀ (b : Nat), b ≠ d → w2.heap[b]? = w1.heap[b]?) :=
  ⟨_, rfl, hd.put2 now A n c, set2_size _ _ _ _, fun b T' now'' A'' n'' c'' hne h => h.far2 hne _ _, fun B w h hB => below_set2 h hB _ _, fun A'' n'' c'' L h => h.far2 hd now _,
    fun T'' A'' n'' c'' L ht h => (h.far hd ht 0 (.int .i64 now)).far (CB.put hd 0 (.int .i64 now)) ht 1 _, fun A'' n'' c'' l ht h => (h.far hd ht 0 (.int .i64 now)).far (CB.put hd 0 (.int .i64 now)) ht 1 _,
    fun b hb => (Below.heap_setCell _ ⟨d, 1, none⟩ _ b hb).trans (Below.heap_setCell _ ⟨d, 0, none⟩ _ b hb)⟩

set_option maxHeartbeats 1000000 in
theorem before_c (a b a' b' : Int) (w : World) : Calls Try.prog 34 #[.agg #[.int .i64 a, .int .i64 b], .agg #[.int .i64 a', .int .i64 b']] w fun e w' => e = .returned (.bool (befB (a, b) (a', b'))) ∧ Below w.heap.size w w' := by
  have hbl : ∀ cs ds, Below w.heap.size w ((w.alloc (.cells cs 66)).alloc (.cells ds 66)) := fun _ _ => ((Below.refl _ _).alloc (Nat.le_refl _) _).alloc (by simp) _
  go_enter Try.func34, Try.ntmps34
  go_wp2_with fail
  all_goals go_ret
  all_goals refine ⟨ret_bool ?_, hbl _ _⟩
  all_goals (rw [Bool.eq_iff_iff, befB_iff]; unfold bef; simp only [decide_eq_true_eq, true_iff, Bool.false_eq_true, false_iff]; omega)

set_option maxHeartbeats 1000000 in
theorem aheadR_c (a b a' b' : Int) (w : World) : Calls Try.prog 28 #[.agg #[.int .i64 a, .int .i64 b], .agg #[.int .i64 a', .int .i64 b']] w fun e w' => e = .returned (.bool (befB (a, b) (a', b'))) ∧ Below w.heap.size w w' := by
  have hbl : ∀ cs ds, Below w.heap.size w ((w.alloc (.cells cs 46)).alloc (.cells ds 46)) := fun _ _ => ((Below.refl _ _).alloc (Nat.le_refl _) _).alloc (by simp) _
  go_enter Try.func28, Try.ntmps28
  go_wp2_with fail
  all_goals go_ret
  all_goals refine ⟨ret_bool ?_, hbl _ _⟩
  all_goals (rw [Bool.eq_iff_iff, befB_iff]; unfold bef; simp only [decide_eq_true_eq, true_iff, Bool.false_eq_true, false_iff]; omega)
end Go.Proofs.Ytgpmgghjcocfmaa
