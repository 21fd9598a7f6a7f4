/-
  Slices of structs in memory, for any element that is written as a fixed number of cells: a slice that can be read, one of a call's own, one that a loop makes; append, make and cuts of such slices. No condition on the program but the facts on its types that each theorem names.
-/
import Derived.Test.YtcfdfimkgehdfaaMemC
import Derived.WalkKit
import Derived.WalkSpells
import Derived.WalkLawsBesides
import Derived.OwnWalk
import Derived.Deep.QuietTactic
import Derived.BigQuiet
import Derived.Lib.Hide
import Derived.IntWalk
import Derived.StillTailTactics
import Derived.Deep.RegionHeld3
import Derived.Laws.MakeOwn
set_option linter.unusedVariables false
set_option linter.unusedSimpArgs false
set_option linter.unusedSectionVars false
namespace Go.Proofs.Ytcfdfimkgehdfaa
open Go.RowKit

theorem ret_bool {a b : Bool} (h : a = b) : Ending.returned (.bool a) = .returned (.bool b) := by rw [h]
theorem ret_int {k : IntKind} {a b : Int} (h : a = b) : Ending.returned (.int k a) = .returned (.int k b) := by rw [h]
theorem belowN {B : Nat} {a w : World} (h : Below B a w) (n : Nat) : Below B a (w.drewN n) := ⟨h.os, h.tape, h.output, h.size, h.block⟩
theorem belowD {B : Nat} {a w : World} (h : Below B a w) : Below B a w.drew := ⟨h.os, h.tape, h.output, h.size, h.block⟩
theorem below_drew {B : Nat} {W w1 : World} (h : Below B W.drew w1) : Below B W w1 := ⟨h.os, h.tape, h.output, h.size, h.block⟩
theorem below_drewN {B k : Nat} {W w1 : World} (h : Below B (W.drewN k) w1) : Below B W w1 := ⟨h.os, h.tape, h.output, h.size, h.block⟩
theorem grown_below {w w1 : World} {G : Option Nat} (h : w.grownBy w1 G) {B : Nat} (hB : B ≤ w.heap.size) (hG : ∀ g, G = some g → B ≤ g) : Below B w w1 :=
  ⟨h.os, h.tape, h.output, h.size, fun i hi => h.block i (by omega) (fun e => by have := hG i e.symm; omega)⟩
theorem grown_drew {w w1 : World} {G : Option Nat} (h : w.grownBy w1 G) : w.grownBy w1.drew G := ⟨h.os, h.tape, h.output, h.size, h.block⟩
theorem Moved.ge {w : World} {G G' : Option Nat} (h : Moved w G G') {B : Nat} (hB : B ≤ w.heap.size) (hG : ∀ g, G = some g → B ≤ g) : ∀ g, G' = some g → B ≤ g := by
  rcases h with rfl | ⟨g, rfl, hg⟩
  · exact hG
  · intro g' e; cases e; omega
/-- Two calls one behind the other. -/
theorem bel2 {w w1 w2 : World} (h : Below w.heap.size w w1) (k : Below w1.heap.size w1 w2) : Below w.heap.size w w2 := h.trans (k.mono h.size)
theorem bel2B {B : Nat} {w w1 w2 : World} (h : Below B w w1) (hB : B ≤ w1.heap.size) (k : Below w1.heap.size w1 w2) : Below B w w2 := h.trans (k.mono hB)
theorem belA (w : World) (o : Obj) : Below w.heap.size w (w.alloc o) := (Below.refl _ _).alloc (Nat.le_refl _) o
theorem cell_on {w w' : World} {g i : Nat} {v : Value} (hb : Below w.heap.size w w') (h : w.cell? ⟨g, i, none⟩ = some v) : w'.cell? ⟨g, i, none⟩ = some v :=
  (hb.cell (World.block_lt_of_cell? w _ h)).trans h
section
variable {P : Program} (w : World)
theorem wpList_append_src {ops : Array Oper} {rest : List Oper} {o : Oper} {a : Act} {Q : Exit → Act → World → Prop} (hgd : o.guard = none) (s x : Operand) (t : TypeId)
    (ho : o.op = .call { callee := .builtin .append, args := #[s, x], argTypes := #[t, t] })
    (e : TypeId) (i : TypeInfo) (z : Value) (size bytes : Nat) (ht : P.underlying t = some (.slice e)) (hi : P.info? e = some i) (hz : i.zero = some z)
    (hsize : i.size = size) (hby : i.bytes = bytes) (hzs : z.cells.size = size) (hsz : 0 < size)
    {A : Option Addr} {n c : Nat} {xs : List Value} {G : Option Nat} (hs : a.eval s = .slice A n c) (hseg : Seg w e size A n c xs G)
    {As : Option Addr} {m k : Nat} {news : List Value} (hx : a.eval x = .slice As m k) (hsrc : Src w size As m news) (h1 : ∀ u ∈ news, u.oneCell' = true)
    (h63 : n + m ≤ maxLen) (hbytes : (n + m) * bytes ≤ 140737488355328) (N : Nat) (hN : n + m = N)
    (h : ∀ A' c' G' w', Seg w' e size A' N c' (xs ++ news) G' → w.grownBy w' G → Moved w G G' → wpList P ops Q rest (a.put o.dst (.slice A' N c')) w') : wpList P ops Q (o :: rest) a w := by
  subst hN
  obtain ⟨A', c', G', w', hrun, h2, h3, h4⟩ := run_append_src (P := P) w t o.type e i z size bytes ht hi hz hsize hby hzs hsz hseg k hsrc h1 h63 hbytes
  refine wpList_plain hgd fun K hK' => ?_
  unfold Oper.wp
  simp [execOp, ho, resolve, invoke, builtin, hs, hx, hrun, Result.andThen]
  exact hK' _ _ (h A' c' G' w' h2 h3 h4)
end
/-- A cut 's[k:]'. -/
theorem run_cut_from {P : Program} (t e : TypeId) (ht : P.underlying t = some (.slice e)) (size : Nat) (hz : ∀ w, (sizeOf e).run P w = .ok size w) (A : Option Addr) (n c k : Nat) (hk : k ≤ n) (w : World) :
    (Instr.slice t (.slice A n c) (some (.int .i64 k)) none none).run P w = .ok (.slice (if c = k then A else A.map (·.add (k * size))) (n - k) (c - k)) w := by
  simp [Instr.slice, run_underlying ht, Instr.sliceBounds, hz, go_sem, hk]
/-- A cut 's[:k]'. -/
theorem run_cut_upto {P : Program} (t e : TypeId) (ht : P.underlying t = some (.slice e)) (size : Nat) (hz : ∀ w, (sizeOf e).run P w = .ok size w) (A : Option Addr) (n c k : Nat) (hk : k ≤ c) (w : World) :
    (Instr.slice t (.slice A n c) none (some (.int .i64 k)) none).run P w = .ok (.slice A k c) w := by
  simp [Instr.slice, run_underlying ht, Instr.sliceBounds, hz, go_sem, hk]
theorem run_make_seg {P : Program} (w : World) (t e : TypeId) (i : TypeInfo) (z : Value) (size : Nat) (ht : P.underlying t = some (.slice e)) (hi : P.info? e = some i) (hz : i.zero = some z) (hsize : i.size = size)
    (c : Nat) (hbytes : i.bytes * c ≤ 281474976710656) (h63 : c ≤ maxLen) :
    ∃ w', (Instr.makeSlice t (.int .i64 0) (.int .i64 (c : Int))).run P w = .ok (.slice (some ⟨w.heap.size, 0, none⟩) 0 c) w' ∧ Seg w' e size (some ⟨w.heap.size, 0, none⟩) 0 c [] (some w.heap.size) ∧ w.grownBy w' none := by
  obtain ⟨w', h1, h2, h3⟩ := run_make_own (P := P) w w.heap.size t e i z size ht hi hz hsize .i64 .i64 c hbytes h63 (Nat.le_refl _)
  refine ⟨w', h1, ⟨by simp, Nat.zero_le _, h63, .inr ?_⟩, h3⟩
  rcases h2.2 with ⟨hv, _⟩ | ⟨g, cap, cur, hv, _, hg, _, _, hs, _⟩
  · cases hv
  · injection hv with e1 e2 e3
    injection e1 with e1
    injection e1 with e1
    subst e1 e3
    exact ⟨_, 0, cur, rfl, rfl, hg, by omega, fun j u hu => by simp at hu⟩
theorem Seg.src {w : World} {e : TypeId} {size : Nat} {A : Option Addr} {n c : Nat} {xs : List Value} {G : Option Nat} (h : Seg w e size A n c xs G) : Src w size A n xs := by
  refine ⟨h.1, fun hn => ?_⟩
  rcases h.2.2.2 with ⟨_, h0, _⟩ | ⟨g, off, cur, h1, h2, h3, _, h4⟩
  · have := h.2.1; omega
  · exact ⟨_, h1, fun j u hu => by rw [Addr.add_lit, h3.cell]; exact h4 j u hu⟩
theorem Seg.on {w w' : World} {e : TypeId} {size : Nat} {A : Option Addr} {n c : Nat} {xs : List Value} {G : Option Nat} (h : Seg w e size A n c xs G) (hb : Below w.heap.size w w') : Seg w' e size A n c xs G :=
  h.keep fun g hg => hb.block g (h.lt g hg)
theorem Src.on {w w' : World} {size : Nat} {A : Option Addr} {n : Nat} {xs : List Value} (h : Src w size A n xs) (hb : Below w.heap.size w w') : Src w' size A n xs :=
  ⟨h.1, fun hn => by
    obtain ⟨ad, h1, h2⟩ := h.2 hn
    exact ⟨ad, h1, fun j u hu => (hb.cell (World.block_lt_of_cell? w _ (h2 j u hu))).trans (h2 j u hu)⟩⟩
/-- The elements of a literal that the walk has just laid. -/
theorem cells_at (w : World) (t : TypeId) (us : List Value) (k : Nat) (hk : k = w.heap.size) : ∀ (j : Nat) (x : Value), us[j]? = some x → (w.alloc (.cells us.toArray t)).cell? ((⟨k, 0, none⟩ : Addr).add j) = some x := by
  subst hk
  intro j x hj
  rw [Addr.add_lit, Nat.zero_add, (CB.new w t us.toArray).cell j]
  simpa using hj
theorem Src.lit (w : World) (t : TypeId) (us : List Value) (size m : Nat) (k : Nat) (hk : k = w.heap.size) (hl : us.length = m * size) : Src (w.alloc (.cells us.toArray t)) size (some ⟨k, 0, none⟩) m us :=
  ⟨hl, fun _ => ⟨_, rfl, cells_at w t us k hk⟩⟩

/-- What a guard that did not come up leaves out. -/
theorem ite_no {c : Prop} [Decidable c] {A B : Prop} (h : ¬ c) (hB : B) : if c then A else B := by rw [if_neg h]; exact hB
/-- 'wpAnyH_take', the temporary named. -/
theorem wpAnyH_takeD {P : Program} {md : Region.Mode} {ops : Array Oper} {Q : Exit → Act → World → Prop} {S : World → Prop} {i : Nat} {oi : Oper} {v : Value} {d : Option Tmp} {fuel : Nat} {listed : Array Bool} {a : Act} {w : World} (hi : ops[i]? = some oi) (hd : oi.dst = d)
    (hs : Region.noSelect ops = true) (hf : Region.free md ops listed i = true) (hr : (Region.ready md ops listed).contains i = true)
    (hQ : ∀ c a w, Q (.panic c) (a.put oi.dst v) w → Q (.panic c) a w) (hy : YieldsIf P ops S oi v a) (hS : S w)
    (h : wpAnyH P md ops Q S fuel (listed.setIfInBounds i true) (a.put d v) w) : wpAnyH P md ops Q S (fuel + 1) listed a w := by
  subst hd
  exact wpAnyH_take hi hs hf hr hQ hy hS h
/-- A walk stays where it is. -/
def Stay (p : Prop) : Prop := p
theorem Stay.mk {p : Prop} (h : Stay p) : p := h
theorem Stay.open_ {p : Prop} (h : p) : Stay p := h
theorem Seg.apart {w : World} {e e' : TypeId} {size size' : Nat} {A A' : Option Addr} {n c n' c' : Nat} {xs xs' : List Value} {G G' : Option Nat} (h : Seg w e size A n c xs G) (h' : Seg w e' size' A' n' c' xs' G') (hne : e ≠ e') : ∀ g, G = some g → some g ≠ G' := by
  intro g hg hg'
  rcases h'.2.2.2 with ⟨_, _, h0⟩ | ⟨g', off, cur, _, h2, h3, _⟩
  · rw [h0] at hg'; cases hg'
  · rw [h2] at hg'
    cases hg'
    exact h.ne_ h3 hne hg
/-- A slice that a loop makes: it lies in a block that is new since w. -/
structure OS (w : World) (T : TypeId) (size : Nat) (xs : List Value) (v : Value) (W : World) : Prop where
  out : ∃ A m c G, v = .slice A m c ∧ Seg W T size A m c xs G ∧ ∀ g, G = some g → w.heap.size ≤ g
  low : Below w.heap.size w W
theorem OS.start (w : World) (T : TypeId) (size : Nat) {W : World} (h : Below w.heap.size w W) : OS w T size [] (.slice none 0 0) W := ⟨⟨none, 0, 0, none, rfl, Seg.nil _ _ _, fun _ h => by cases h⟩, h⟩
theorem OS.app {w : World} {T : TypeId} {size : Nat} {W' : World} (hl : Below w.heap.size w W') {G : Option Nat} (hG : ∀ g, G = some g → w.heap.size ≤ g) {ys : List Value}
    {A1 : Option Addr} {N c1 : Nat} {G1 : Option Nat} {w1 : World} (n1 : Seg w1 T size A1 N c1 ys G1) (n2 : W'.grownBy w1 G) (n3 : Moved W' G G1) : OS w T size ys (.slice A1 N c1) w1 :=
  ⟨⟨A1, N, c1, G1, rfl, n1, n3.ge hl.size hG⟩, hl.grown n2 hl.size hG⟩
theorem OS.on {w : World} {T : TypeId} {size : Nat} {xs : List Value} {v : Value} {W W' : World} (h : OS w T size xs v W) (hb : Below W.heap.size W W') : OS w T size xs v W' := by
  obtain ⟨⟨A, m, c, G, h1, h2, h3⟩, h4⟩ := h
  exact ⟨⟨A, m, c, G, h1, h2.on hb, h3⟩, bel2 h4 hb⟩

/-! ### elements of several cells -/
/-- Elements are written as s cells each. -/
structure EncOk {α : Type} (c : α → List Value) (s : Nat) : Prop where
  len : ∀ x, (c x).length = s
  one : ∀ x, ∀ u ∈ c x, u.oneCell' = true
  pos : 0 < s
theorem encLen {α : Type} {c : α → List Value} {s : Nat} [h : Nonempty (EncOk c s)] : ∀ x, (c x).length = s := h.elim fun e => e.len
theorem encOne {α : Type} {c : α → List Value} (s : Nat) [h : Nonempty (EncOk c s)] : ∀ x, ∀ u ∈ c x, u.oneCell' = true := h.elim fun e => e.one
theorem encPos {α : Type} (c : α → List Value) {s : Nat} [h : Nonempty (EncOk c s)] : 0 < s := h.elim fun e => e.pos
def rc {α : Type} (c : α → List Value) (L : List α) : List Value := L.flatMap c
section
variable {α : Type} {c : α → List Value} {s : Nat} [Nonempty (EncOk c s)]
theorem rc_nil : rc c [] = [] := rfl
theorem rc_cons (x : α) (L : List α) : rc c (x :: L) = c x ++ rc c L := rfl
theorem rc_append (L M : List α) : rc c (L ++ M) = rc c L ++ rc c M := List.flatMap_append
theorem rc_snoc (L : List α) (x : α) : rc c L ++ c x = rc c (L ++ [x]) := by rw [rc_append]; simp [rc]
theorem rc_length (s : Nat) [Nonempty (EncOk c s)] (L : List α) : (rc c L).length = L.length * s := by
  induction L with
  | nil => simp [rc]
  | cons p r ih => rw [rc_cons, List.length_append, ih, encLen (s := s), List.length_cons, Nat.add_mul, Nat.one_mul, Nat.add_comm]
theorem rc_one (s : Nat) [Nonempty (EncOk c s)] (L : List α) : ∀ u ∈ rc c L, u.oneCell' = true := by
  intro u hu
  simp only [rc, List.mem_flatMap] at hu
  obtain ⟨p, _, hu⟩ := hu
  exact encOne (c := c) s p u hu
theorem rc_at (s : Nat) [Nonempty (EncOk c s)] : ∀ (L : List α) {k : Nat} {x : α}, L[k]? = some x → ∀ {i : Nat} {v : Value}, (c x)[i]? = some v → (rc c L)[k * s + i]? = some v
  | [], k, x, h, _, _, _ => by simp at h
  | p :: r, 0, x, h, i, v, hv => by
    simp at h
    subst h
    rw [rc_cons, Nat.zero_mul, Nat.zero_add, List.getElem?_append_left (List.getElem?_eq_some_iff.1 hv).1]
    exact hv
  | p :: r, k + 1, x, h, i, v, hv => by
    have ih := rc_at s r (k := k) (x := x) (by simpa using h) hv
    rw [rc_cons, List.getElem?_append_right (by rw [encLen (s := s), Nat.add_mul]; omega), encLen (s := s), show (k + 1) * s + i - s = k * s + i by rw [Nat.add_mul]; omega]
    exact ih
theorem rc_drop (s : Nat) [Nonempty (EncOk c s)] : ∀ (L : List α) (k : Nat), (rc c L).drop (k * s) = rc c (L.drop k)
  | L, 0 => by simp
  | [], k + 1 => by simp [rc]
  | p :: r, k + 1 => by
    have hp := encLen (c := c) (s := s) p
    have ih := rc_drop s r k
    rw [rc_cons, List.drop_succ_cons, ← ih, show (k + 1) * s = s + k * s by rw [Nat.add_mul]; omega, ← List.drop_drop, List.drop_append_of_le_length (l₁ := c p) (by omega), List.drop_eq_nil_of_le (as := c p) (by omega), List.nil_append]
theorem rc_take (s : Nat) [Nonempty (EncOk c s)] : ∀ (L : List α) (k : Nat), (rc c L).take (k * s) = rc c (L.take k)
  | L, 0 => by simp [rc]
  | [], k + 1 => by simp [rc]
  | p :: r, k + 1 => by
    have hp := encLen (c := c) (s := s) p
    have ih := rc_take s r k
    rw [rc_cons, List.take_succ_cons, rc_cons, ← ih, List.take_append, List.take_of_length_le (l := c p) (by rw [hp, Nat.add_mul]; omega), hp, show (k + 1) * s - s = k * s by rw [Nat.add_mul]; omega]

/-- A slice that can be read. -/
structure RR (w : World) (c : α → List Value) (s : Nat) (A : Option Addr) (n q : Nat) (L : List α) : Prop where
  len : L.length = n
  cap : n ≤ q
  max : q ≤ maxLen
  mem : 0 < n → ∃ g off, A = some ⟨g, off, none⟩ ∧ ∀ i v, (rc c L)[i]? = some v → w.cell? ⟨g, off + i, none⟩ = some v
variable {w w' : World} {A : Option Addr} {n cap : Nat} {L : List α}
theorem RR.nil (w : World) (c : α → List Value) (s : Nat) : RR w c s none 0 0 [] := ⟨rfl, Nat.le_refl _, Nat.zero_le _, fun h => absurd h (by omega)⟩
theorem RR.drew (h : RR w c s A n cap L) : RR w.drew c s A n cap L := ⟨h.1, h.2, h.3, h.4⟩
theorem RR.drewN (h : RR w c s A n cap L) (k : Nat) : RR (w.drewN k) c s A n cap L := ⟨h.1, h.2, h.3, h.4⟩
theorem RR.at_ (h : RR w c s A n cap L) {k : Nat} (hk : k < n) : ∃ g off x, L[k]? = some x ∧ A = some ⟨g, off, none⟩ ∧ ∀ i v, (c x)[i]? = some v → w.cell? ⟨g, off + k * s + i, none⟩ = some v := by
  obtain ⟨g, off, h1, h2⟩ := h.mem (by omega)
  have hl : k < L.length := by rw [h.len]; exact hk
  refine ⟨g, off, L[k], List.getElem?_eq_getElem hl, h1, fun i v hv => ?_⟩
  have := h2 _ _ (rc_at s L (List.getElem?_eq_getElem hl) hv)
  rw [Nat.add_assoc]
  exact this
theorem RR.lt (h : RR w c s A n cap L) {g off : Nat} (hA : A = some ⟨g, off, none⟩) (hn : 0 < n) : g < w.heap.size := by
  obtain ⟨g', off', h1, h2⟩ := h.mem hn
  rw [hA] at h1
  cases h1
  have hl : 0 < (rc c L).length := by rw [rc_length s, h.len]; exact Nat.mul_pos hn (encPos c)
  exact World.block_lt_of_cell? w _ (h2 0 _ (List.getElem?_eq_getElem hl))
theorem RR.keep (h : RR w c s A n cap L) (hk : ∀ g off, A = some ⟨g, off, none⟩ → 0 < n → g < w.heap.size → w'.heap[g]? = w.heap[g]?) : RR w' c s A n cap L := by
  refine ⟨h.1, h.2, h.3, fun hn => ?_⟩
  obtain ⟨g, off, h1, h2⟩ := h.mem hn
  have hlt := h.lt h1 hn
  exact ⟨g, off, h1, fun i v hv => by rw [← h2 i v hv]; exact World.cell?_of_block (a := ⟨g, off + i, none⟩) (hk g off h1 hn hlt)⟩
theorem RR.on (h : RR w c s A n cap L) (hb : Below w.heap.size w w') : RR w' c s A n cap L := h.keep fun g _ _ _ hg => hb.block g hg
theorem RR.src (h : RR w c s A n cap L) : Src w s A n (rc c L) := by
  refine ⟨by rw [rc_length s, h.len], fun hn => ?_⟩
  obtain ⟨g, off, h1, h2⟩ := h.mem hn
  exact ⟨_, h1, fun j u hu => by rw [Addr.add_lit]; exact h2 j u hu⟩
theorem rc_len {T : TypeId} {G : Option Nat} (h : Seg w T s A n cap (rc c L) G) : L.length = n := by
  have h1 := h.1
  rw [rc_length s] at h1
  exact Nat.eq_of_mul_eq_mul_right (encPos c) h1
theorem RR.of_seg {T : TypeId} {G : Option Nat} (h : Seg w T s A n cap (rc c L) G) : RR w c s A n cap L := by
  have hl := rc_len h
  refine ⟨hl, h.2.1, h.2.2.1, fun hn => ?_⟩
  have hl0 : 0 < (rc c L).length := by rw [rc_length s, hl]; exact Nat.mul_pos hn (encPos c)
  obtain ⟨g, off, hA, hG, _⟩ := h.at_ (List.getElem?_eq_getElem hl0)
  refine ⟨g, off, hA, fun i v hv => ?_⟩
  obtain ⟨g', off', hA', _, hc⟩ := h.at_ hv
  rw [hA] at hA'
  cases hA'
  exact hc
theorem RR.cut (h : RR w c s A n cap L) {k : Nat} (hk : k ≤ n) : RR w c s (if cap = k then A else A.map (·.add (k * s))) (n - k) (cap - k) (L.drop k) := by
  have h1 := h.len
  have h2 := h.cap
  have h3 := h.max
  refine ⟨by rw [List.length_drop, h1], by omega, by omega, fun hn => ?_⟩
  obtain ⟨g, off, rfl, hc⟩ := h.mem (by omega)
  refine ⟨g, off + k * s, by rw [if_neg (by omega)]; simp [Addr.add_lit], fun i v hv => ?_⟩
  rw [← rc_drop s, List.getElem?_drop] at hv
  rw [Nat.add_assoc]
  exact hc _ v hv
theorem RR.upto (h : RR w c s A n cap L) {k : Nat} (hk : k ≤ n) : RR w c s A k cap (L.take k) := by
  have h1 := h.len
  have h2 := h.cap
  refine ⟨by rw [List.length_take, h1]; omega, by omega, h.max, fun hn => ?_⟩
  obtain ⟨g, off, rfl, hc⟩ := h.mem (by omega)
  refine ⟨g, off, rfl, fun i v hv => hc i v ?_⟩
  rw [← rc_take s, List.getElem?_take] at hv
  split at hv
  · exact hv
  · cases hv

theorem RR.of_at {g off : Nat} (hl : L.length = n) (hnc : n ≤ cap) (hc : cap ≤ maxLen) (h : ∀ (k : Nat) (x : α), L[k]? = some x → ∀ (i : Nat) (v : Value), (c x)[i]? = some v → w.cell? ⟨g, off + k * s + i, none⟩ = some v) : RR w c s (some ⟨g, off, none⟩) n cap L := by
  refine ⟨hl, hnc, hc, fun _ => ⟨g, off, rfl, fun i v hv => ?_⟩⟩
  have hs := encPos (s := s) c
  have hi : i < L.length * s := by
    have := (List.getElem?_eq_some_iff.1 hv).1
    rwa [rc_length s] at this
  have hk : i / s < L.length := Nat.div_lt_of_lt_mul (by rw [Nat.mul_comm]; exact hi)
  have hm : i % s < s := Nat.mod_lt _ hs
  have hx := List.getElem?_eq_getElem hk
  have hcx : i % s < (c L[i / s]).length := by rw [encLen (s := s)]; exact hm
  have e1 := rc_at s L hx (List.getElem?_eq_getElem hcx)
  have e2 : i / s * s + i % s = i := by rw [Nat.mul_comm]; exact Nat.div_add_mod i s
  rw [e2] at e1
  rw [e1] at hv
  cases hv
  have := h (i / s) _ hx (i % s) _ (List.getElem?_eq_getElem hcx)
  rwa [Nat.add_assoc, e2] at this

/-- A slice in a block of type T. -/
def RS (w : World) (T : TypeId) (c : α → List Value) (s : Nat) (A : Option Addr) (n cap : Nat) (L : List α) : Prop := ∃ G, Seg w T s A n cap (rc c L) G
variable {T : TypeId}
theorem RS.rr (h : RS w T c s A n cap L) : RR w c s A n cap L := by obtain ⟨G, h2⟩ := h; exact RR.of_seg h2
theorem RS.on (h : RS w T c s A n cap L) (hb : Below w.heap.size w w') : RS w' T c s A n cap L := by obtain ⟨G, h2⟩ := h; exact ⟨G, h2.on hb⟩
theorem RS.drew (h : RS w T c s A n cap L) : RS w.drew T c s A n cap L := h
theorem RS.drewN (h : RS w T c s A n cap L) (k : Nat) : RS (w.drewN k) T c s A n cap L := h
theorem RS.far (h : RS w T c s A n cap L) {d : Nat} {T' : TypeId} {cs : Array Value} (hd : CB w d T' cs) (ht : T ≠ T') (i : Nat) (x : Value) : RS (w.setCell ⟨d, i, none⟩ x) T c s A n cap L := by
  obtain ⟨G, h2⟩ := h
  exact ⟨G, h2.far (p := ⟨d, i, none⟩) (h2.ne_ hd ht) x⟩
theorem RS.nil (w : World) (T : TypeId) (c : α → List Value) (s : Nat) : RS w T c s none 0 0 [] := ⟨none, Seg.nil _ _ _⟩
theorem RS.len (h : RS w T c s A n cap L) : L.length = n := h.rr.len
/-- A call gave a slice of its own back. -/
def RPost (w : World) (T : TypeId) (c : α → List Value) (s : Nat) (L : List α) (e : Ending) (w' : World) : Prop :=
  ∃ A n cap, e = .returned (.slice A n cap) ∧ RS w' T c s A n cap L ∧ Below w.heap.size w w'
theorem RPost.of_os {v : Value} {W : World} (h : OS w T s (rc c L) v W) : RPost w T c s L (.returned v) W := by
  obtain ⟨⟨A, m, c, G, h1, h2, h3⟩, h4⟩ := h
  exact ⟨A, m, c, by rw [h1], ⟨G, h2⟩, h4⟩
end
end Go.Proofs.Ytcfdfimkgehdfaa
