/-
  Plain facts on memory: a block of cells that is known whole; a slice that reads as a list of cells inside such a block, at any place of it; what append, clear and a cut do to such a slice. No condition on the program but the facts on its types that each theorem names.
-/
import Derived.Below
import Derived.Laws.OwnMore
import Derived.Laws.Rows
import Derived.ArgAppend
import Derived.Deep.Draws
import Derived.Lib.SliceRun
import Derived.Laws.IdiomCopy
import Derived.RegionTactic
import Derived.Deep.RegionLaw
import Derived.WalkKit
import Derived.WalkSpells
import Derived.WalkLawsBesides
import Derived.OwnWalk
import Derived.Deep.QuietTactic
import Derived.BigQuiet
import Derived.Lib.Hide
import Derived.IntWalk
import Derived.StillTailTactics
import Derived.Deep.RegionHeld3
import Derived.Laws.MakeOwn
namespace Go.Proofs.Ytfdboahcaiolgaa
open Go.RowKit

/-- Block g is just the cells cs, of element type t; none of it is frozen. -/
def CB (w : World) (g : Nat) (t : TypeId) (cs : Array Value) : Prop := w.heap[g]? = some (.cells cs t (0, 0))

section
variable {w w' : World} {g : Nat} {t : TypeId} {cs : Array Value}
theorem CB.lt (h : CB w g t cs) : g < w.heap.size := (Array.getElem?_eq_some_iff.1 h).1
theorem CB.cell (h : CB w g t cs) (i : Nat) : w.cell? ⟨g, i, none⟩ = cs[i]? := cell_of_row w g i cs t (0, 0) h
theorem CB.frozen (h : CB w g t cs) (i : Nat) : w.frozen? ⟨g, i, none⟩ = false := by
  unfold CB at h
  simp [World.frozen?, h]
theorem CB.new (w : World) (t : TypeId) (cs : Array Value) : CB (w.alloc (.cells cs t)) w.heap.size t cs := heap_alloc_new w _
theorem CB.drew (h : CB w g t cs) : CB w.drew g t cs := h
theorem CB.drewN (h : CB w g t cs) (n : Nat) : CB (w.drewN n) g t cs := h
theorem CB.alloc (h : CB w g t cs) (o : Obj) : CB (w.alloc o) g t cs := (Below.heap_alloc w o g h.lt).trans h
theorem CB.put (h : CB w g t cs) (i : Nat) (u : Value) : CB (w.setCell ⟨g, i, none⟩ u) g t (cs.setIfInBounds i u) := by
  unfold CB at h ⊢
  simp [World.setCell, Array.getElem?_modify, h]
theorem CB.far (h : CB w g t cs) {p : Addr} (hp : g ≠ p.block) (u : Value) : CB (w.setCell p u) g t cs := (Below.heap_setCell w p u g hp).trans h
theorem CB.same (h : CB w g t cs) (he : w'.heap[g]? = w.heap[g]?) : CB w' g t cs := he.trans h
theorem CB.ne_ {g' : Nat} {t' : TypeId} {cs' : Array Value} (h : CB w g t cs) (h' : CB w g' t' cs') (hne : t ≠ t') : g ≠ g' := by
  rintro rfl
  unfold CB at h h'
  rw [h] at h'
  injection h' with h'
  injection h' with _ ht
  exact hne ht
theorem CB.puts (h : CB w g t cs) : ∀ (vs : List Value) (o : Nat), o + vs.length ≤ cs.size →
    ∃ cs' : Array Value, CB (w.setCells g o vs) g t cs' ∧ cs'.size = cs.size ∧ (∀ j, j < vs.length → cs'[o + j]? = vs[j]?) ∧ ∀ j, j < o ∨ o + vs.length ≤ j → cs'[j]? = cs[j]? := by
  intro vs
  induction vs generalizing w cs with
  | nil => exact fun o _ => ⟨cs, h, rfl, fun j hj => absurd hj (by simp), fun _ _ => rfl⟩
  | cons v r ih =>
    intro o ho
    simp only [List.length_cons] at ho
    obtain ⟨cs', h1, h2, h3, h4⟩ := ih (h.put o v) (o + 1) (by simp; omega)
    refine ⟨cs', h1, by simpa using h2, fun j hj => ?_, fun j hj => ?_⟩
    · match j with
      | 0 =>
        rw [h4 (o + 0) (by omega)]
        simp [Array.getElem?_setIfInBounds]
        omega
      | k + 1 =>
        rw [show o + (k + 1) = o + 1 + k by omega, h3 k (by simpa using hj)]
        simp
    · rw [h4 j (by simp at hj; omega), Array.getElem?_setIfInBounds, if_neg (by simp at hj; omega)]
end

theorem setCells_grown (g : Nat) : ∀ (vs : List Value) (o : Nat) (w : World), w.grownBy (w.setCells g o vs) (some g)
  | [], _, w => World.grownBy.refl w _
  | v :: r, o, w => by
    have ih := setCells_grown g r (o + 1) (w.setCell ⟨g, o, none⟩ v)
    exact ⟨ih.os, ih.tape, ih.output, Nat.le_trans (by simp [World.setCell]) ih.size, fun k hk hne => (ih.block k (by simpa [World.setCell] using hk) hne).trans (Below.heap_setCell w _ v k (fun e => hne (by rw [e])))⟩

/-- The world w' is w with new blocks, but for what stands in block b and in block G. -/
structure Only (w w' : World) (b : Nat) (G : Option Nat) : Prop where
  os : w'.os = w.os
  tape : w'.tape = w.tape
  output : w'.output = w.output
  size : w.heap.size ≤ w'.heap.size
  block : ∀ i, i < w.heap.size → i ≠ b → some i ≠ G → w'.heap[i]? = w.heap[i]?

theorem Only.refl (w : World) (b : Nat) (G : Option Nat) : Only w w b G := ⟨rfl, rfl, rfl, Nat.le_refl _, fun _ _ _ _ => rfl⟩
theorem Only.drewN {w w' : World} {b : Nat} {G : Option Nat} (h : Only w w' b G) (n : Nat) : Only w (w'.drewN n) b G := ⟨h.os, h.tape, h.output, h.size, h.block⟩
theorem Only.drew {w w' : World} {b : Nat} {G : Option Nat} (h : Only w w' b G) : Only w w'.drew b G := ⟨h.os, h.tape, h.output, h.size, h.block⟩
theorem Only.alloc {w w' : World} {b : Nat} {G : Option Nat} (h : Only w w' b G) (o : Obj) : Only w (w'.alloc o) b G :=
  ⟨h.os, h.tape, h.output, Nat.le_trans h.size (by simp), fun i hi h1 h2 => (Below.heap_alloc w' o i (Nat.lt_of_lt_of_le hi h.size)).trans (h.block i hi h1 h2)⟩
theorem Only.put {w w' : World} {b : Nat} {G : Option Nat} (h : Only w w' b G) {p : Addr} (hp : p.block = b ∨ some p.block = G ∨ w.heap.size ≤ p.block) (u : Value) : Only w (w'.setCell p u) b G :=
  ⟨h.os, h.tape, h.output, by simpa [World.setCell] using h.size, fun i hi h1 h2 => (Below.heap_setCell w' p u i (by
    rintro rfl
    rcases hp with hp | hp | hp
    · exact h1 hp
    · exact h2 hp
    · omega)).trans (h.block i hi h1 h2)⟩
theorem Only.grown {w w' w'' : World} {b : Nat} {G G' : Option Nat} (h : Only w w' b G) (hg : w'.grownBy w'' G') (hG : ∀ k, G' = some k → G = some k ∨ w.heap.size ≤ k) : Only w w'' b G :=
  ⟨hg.os.trans h.os, hg.tape.trans h.tape, hg.output.trans h.output, Nat.le_trans h.size hg.size, fun i hi h1 h2 => (hg.block i (Nat.lt_of_lt_of_le hi h.size) (by
    rintro he
    rcases hG i he.symm with e | e
    · exact h2 e.symm
    · omega)).trans (h.block i hi h1 h2)⟩
theorem Only.trans {w w' w'' : World} {b : Nat} {G G' : Option Nat} (h : Only w w' b G) (k : Only w' w'' b G') (hG : ∀ i, G' = some i → G = some i ∨ w.heap.size ≤ i) : Only w w'' b G :=
  ⟨k.os.trans h.os, k.tape.trans h.tape, k.output.trans h.output, Nat.le_trans h.size k.size, fun i hi h1 h2 => (k.block i (Nat.lt_of_lt_of_le hi h.size) h1 (by
    rintro he
    rcases hG i he.symm with e | e
    · exact h2 e.symm
    · omega)).trans (h.block i hi h1 h2)⟩
theorem Only.below {w w' : World} {b : Nat} {G : Option Nat} (h : Only w w' b G) {B : Nat} (hB : B ≤ w.heap.size) (hb : B ≤ b) (hG : ∀ i, G = some i → B ≤ i) : Below B w w' :=
  ⟨h.os, h.tape, h.output, h.size, fun i hi => h.block i (by omega) (by omega) (fun e => by have := hG i e.symm; omega)⟩
theorem Only.cb {w w' : World} {b : Nat} {G : Option Nat} (h : Only w w' b G) {g : Nat} {t : TypeId} {cs : Array Value} (hc : CB w g t cs) (h1 : g ≠ b) (h2 : some g ≠ G) : CB w' g t cs := hc.same (h.block g hc.lt h1 h2)

/-- The slice '.slice A n c' holds the cells xs ('size' for each element): it is nil, or it lies in block G, not frozen, with room for c elements. -/
def Seg (w : World) (e : TypeId) (size : Nat) (A : Option Addr) (n c : Nat) (xs : List Value) (G : Option Nat) : Prop :=
  xs.length = n * size ∧ n ≤ c ∧ c ≤ maxLen ∧
  ((A = none ∧ c = 0 ∧ G = none) ∨
   ∃ g off cur, A = some ⟨g, off, none⟩ ∧ G = some g ∧ CB w g e cur ∧ off + c * size ≤ cur.size ∧ ∀ j u, xs[j]? = some u → cur[off + j]? = some u)

section
variable {w w' : World} {e : TypeId} {size : Nat} {A : Option Addr} {n c : Nat} {xs : List Value} {G : Option Nat}
theorem Seg.nil (w : World) (e : TypeId) (size : Nat) : Seg w e size none 0 0 [] none := ⟨by simp, Nat.le_refl _, Nat.zero_le _, .inl ⟨rfl, rfl, rfl⟩⟩
theorem Seg.lt (h : Seg w e size A n c xs G) : ∀ g, G = some g → g < w.heap.size := by
  rintro g rfl
  rcases h.2.2.2 with ⟨_, _, h⟩ | ⟨g', off, cur, _, h, hb, _⟩
  · cases h
  · cases h
    exact hb.lt
theorem Seg.keep (h : Seg w e size A n c xs G) (hk : ∀ g, G = some g → w'.heap[g]? = w.heap[g]?) : Seg w' e size A n c xs G := by
  refine ⟨h.1, h.2.1, h.2.2.1, ?_⟩
  rcases h.2.2.2 with h0 | ⟨g, off, cur, h1, h2, h3, h4⟩
  · exact .inl h0
  · exact .inr ⟨g, off, cur, h1, h2, h3.same (hk g h2), h4⟩
theorem Seg.drew (h : Seg w e size A n c xs G) : Seg w.drew e size A n c xs G := h
theorem Seg.drewN (h : Seg w e size A n c xs G) (k : Nat) : Seg (w.drewN k) e size A n c xs G := h
theorem Seg.alloc (h : Seg w e size A n c xs G) (o : Obj) : Seg (w.alloc o) e size A n c xs G := h.keep fun g hg => Below.heap_alloc w o g (h.lt g hg)
theorem Seg.far (h : Seg w e size A n c xs G) {p : Addr} (hp : G ≠ some p.block) (u : Value) : Seg (w.setCell p u) e size A n c xs G :=
  h.keep fun g hg => Below.heap_setCell w p u g (fun e => hp (by rw [hg, e]))
theorem Seg.ne_ {b : Nat} {t : TypeId} {cs : Array Value} (h : Seg w e size A n c xs G) (hb : CB w b t cs) (hne : e ≠ t) : G ≠ some b := by
  rcases h.2.2.2 with ⟨_, _, rfl⟩ | ⟨g, off, cur, _, rfl, h3, _⟩
  · simp
  · intro he
    cases he
    exact h3.ne_ hb hne rfl
theorem Seg.at_ (h : Seg w e size A n c xs G) {j : Nat} {u : Value} (hu : xs[j]? = some u) : ∃ g off, A = some ⟨g, off, none⟩ ∧ G = some g ∧ w.cell? ⟨g, off + j, none⟩ = some u := by
  rcases h.2.2.2 with ⟨_, h0, _⟩ | ⟨g, off, cur, h1, h2, h3, _, h4⟩
  · have := h.1
    have hn := h.2.1
    obtain rfl : n = 0 := by omega
    obtain rfl : xs = [] := List.eq_nil_of_length_eq_zero (by simpa using this)
    simp at hu
  · exact ⟨g, off, h1, h2, by rw [h3.cell]; exact h4 j u hu⟩
theorem Seg.cut (h : Seg w e size A n c xs G) {k : Nat} (hk : k ≤ n) : Seg w e size (if c = k then A else A.map (·.add (k * size))) (n - k) (c - k) (xs.drop (k * size)) G := by
  refine ⟨by rw [List.length_drop, h.1, Nat.sub_mul], by have := h.2.1; omega, by have := h.2.2.1; omega, ?_⟩
  rcases h.2.2.2 with ⟨rfl, rfl, rfl⟩ | ⟨g, off, cur, rfl, rfl, h3, h4, h5⟩
  · exact .inl ⟨by split <;> rfl, by omega, rfl⟩
  · by_cases hc : c = k
    · refine .inr ⟨g, off, cur, by rw [if_pos hc], rfl, h3, by subst hc; simp; omega, fun j u hu => ?_⟩
      have hz : n = k := by have := h.2.1; omega
      have : xs.drop (k * size) = [] := List.drop_eq_nil_of_le (by rw [h.1, hz]; exact Nat.le_refl _)
      rw [this] at hu
      simp at hu
    · refine .inr ⟨g, off + k * size, cur, by rw [if_neg hc]; simp [Addr.add_lit], rfl, h3, ?_, fun j u hu => ?_⟩
      · have : k * size + (c - k) * size = c * size := by rw [← Nat.add_mul]; congr 1; have := h.2.1; omega
        omega
      · rw [Nat.add_assoc]
        exact h5 _ u (by rw [← hu, List.getElem?_drop])
theorem Seg.upto (h : Seg w e size A n c xs G) {k : Nat} (hk : k ≤ n) : Seg w e size A k c (xs.take (k * size)) G := by
  refine ⟨by rw [List.length_take, h.1]; exact Nat.min_eq_left (Nat.mul_le_mul_right _ hk), by have := h.2.1; omega, h.2.2.1, ?_⟩
  rcases h.2.2.2 with h0 | ⟨g, off, cur, h1, h2, h3, h4, h5⟩
  · exact .inl h0
  · refine .inr ⟨g, off, cur, h1, h2, h3, h4, fun j u hu => h5 j u ?_⟩
    rw [List.getElem?_take] at hu
    split at hu
    · exact hu
    · cases hu
theorem Seg.of_own {base m : Nat} {v : Value} (h : w.ownsRow base e size v m xs) (hm : 0 < m) : ∃ g c', v = .slice (some ⟨g, 0, none⟩) m c' ∧ base ≤ g ∧ Seg w e size (some ⟨g, 0, none⟩) m c' xs (some g) := by
  obtain ⟨h1, h2⟩ := h
  rcases h2 with ⟨_, h0⟩ | ⟨g, cap, cur, rfl, hb, hg, hc, hx, hs, ht⟩
  · omega
  · refine ⟨g, cap, rfl, hb, h1, hc, hx, .inr ⟨g, 0, cur, rfl, rfl, hg, by omega, fun j u hu => ?_⟩⟩
    rw [Nat.zero_add]
    rw [← ht, List.getElem?_take] at hu
    split at hu
    · simpa using hu
    · cases hu
end

/-- What a step may do to the block of a slice: it stays, or a new block takes its place. -/
def Moved (w : World) (G G' : Option Nat) : Prop := G' = G ∨ ∃ g, G' = some g ∧ w.heap.size ≤ g

theorem Moved.refl (w : World) (G : Option Nat) : Moved w G G := .inl rfl
theorem Moved.trans {w w1 : World} {G G1 G2 : Option Nat} (h : Moved w G G1) (k : Moved w1 G1 G2) (hs : w.heap.size ≤ w1.heap.size) : Moved w G G2 := by
  rcases k with rfl | ⟨g, rfl, hg⟩
  · exact h
  · exact .inr ⟨g, rfl, by omega⟩

section
variable {P : Program} (w : World)
theorem run_append_seg (t ty e : TypeId) (i : TypeInfo) (z : Value) (size bytes : Nat) (ht : P.underlying t = some (.slice e)) (hi : P.info? e = some i) (hz : i.zero = some z)
    (hsize : i.size = size) (hby : i.bytes = bytes) (hzs : z.cells.size = size) (hsz : 0 < size)
    {A : Option Addr} {n c : Nat} {xs : List Value} {G : Option Nat} (h : Seg w e size A n c xs G)
    (ad : Addr) (m k : Nat) (news : List Value) (hl : news.length = m * size) (hnews : ∀ j u, news[j]? = some u → w.cell? (ad.add j) = some u) (h1 : ∀ u ∈ news, u.oneCell' = true) (hm : 0 < m)
    (h63 : n + m ≤ maxLen) (hbytes : (n + m) * bytes ≤ 140737488355328) :
    ∃ A' c' G' w', (Builtin.append_ #[t, t] ty #[.slice A n c, .slice (some ad) m k]).run P w = .ok (.slice A' (n + m) c') w' ∧ Seg w' e size A' (n + m) c' (xs ++ news) G' ∧ w.grownBy w' G ∧ Moved w G G' := by
  have hlen := h.1
  have hnc := h.2.1
  have hcm := h.2.2.1
  rcases h.2.2.2 with ⟨rfl, rfl, rfl⟩ | ⟨g, off, cur, rfl, rfl, hb, hfit, hcells⟩
  · obtain rfl : n = 0 := by omega
    obtain rfl : xs = [] := List.eq_nil_of_length_eq_zero (by simpa using hlen)
    obtain ⟨v', w', hrun, r1, r2, _⟩ := run_append_own (P := P) w w.heap.size t ty e i z size bytes ht hi hz hsize hby hzs hsz (.slice none 0 0) 0 [] (World.ownsRow_nil w _ e size) ad m k news hl hnews h1 h63 hbytes (Nat.le_refl _)
    obtain ⟨g, c', rfl, hg, hs⟩ := Seg.of_own r1 (by omega)
    exact ⟨_, c', some g, w', hrun, hs, r2, .inr ⟨g, rfl, hg⟩⟩
  · by_cases hr : n + m ≤ c
    · subst hsize
      have hroom : off + n * i.size + news.length ≤ cur.size := by
        have : (n + m) * i.size ≤ c * i.size := Nat.mul_le_mul_right _ hr
        rw [Nat.add_mul] at this
        omega
      have hrun := run_append_room_cells (P := P) w t ty e i ht hi g off n c ad m k news hl hnews h1 hr (fun j hj => by rw [hb.cell]; rw [Array.getElem?_eq_getElem (by omega)]; rfl) (fun j _ => hb.frozen _)
      obtain ⟨cs', k1, k2, k3, k4⟩ := hb.puts news (off + n * i.size) hroom
      refine ⟨_, c, some g, _, hrun, ⟨by rw [List.length_append, hlen, hl, Nat.add_mul], hr, hcm, .inr ⟨g, off, cs', rfl, rfl, k1, by rw [k2]; exact hfit, fun j u hu => ?_⟩⟩, ?_, .inl rfl⟩
      · by_cases hj : j < xs.length
        · rw [List.getElem?_append_left hj] at hu
          rw [k4 _ (by omega)]
          exact hcells j u hu
        · rw [List.getElem?_append_right (by omega)] at hu
          have hjl : j - xs.length < news.length := (List.getElem?_eq_some_iff.1 hu).1
          have := k3 (j - xs.length) hjl
          rw [show off + n * i.size + (j - xs.length) = off + j by omega] at this
          rw [this]
          exact hu
      · exact setCells_grown g news _ w
    · obtain ⟨v', w', hrun, r1, r2⟩ := run_append_arg_grows (P := P) w t ty e i z size bytes ht hi hz hsize hby hzs hsz ⟨g, off, none⟩ n c xs hlen (fun j u hj => by rw [Addr.add_lit, hb.cell]; exact hcells j u hj) ad m k news hl hnews (by omega) h63 hbytes
      obtain ⟨g', c', rfl, hg, hs⟩ := Seg.of_own r1 (by omega)
      exact ⟨_, c', some g', w', hrun, hs, ⟨r2.os, r2.tape, r2.output, r2.size, fun q hq _ => r2.block q hq (by simp)⟩, .inr ⟨g', rfl, hg⟩⟩

/-- The append as one step of a walk. -/
theorem wpList_append_seg {ops : Array Oper} {rest : List Oper} {o : Oper} {a : Act} {Q : Exit → Act → World → Prop} (hgd : o.guard = none) (s x : Operand) (t : TypeId)
    (ho : o.op = .call { callee := .builtin .append, args := #[s, x], argTypes := #[t, t] })
    (e : TypeId) (i : TypeInfo) (z : Value) (size bytes : Nat) (ht : P.underlying t = some (.slice e)) (hi : P.info? e = some i) (hz : i.zero = some z)
    (hsize : i.size = size) (hby : i.bytes = bytes) (hzs : z.cells.size = size) (hsz : 0 < size)
    {A : Option Addr} {n c : Nat} {xs : List Value} {G : Option Nat} (hs : a.eval s = .slice A n c) (hseg : Seg w e size A n c xs G)
    (ad : Addr) (m k : Nat) (news : List Value) (hx : a.eval x = .slice (some ad) m k) (hl : news.length = m * size) (hnews : ∀ j u, news[j]? = some u → w.cell? (ad.add j) = some u) (h1 : ∀ u ∈ news, u.oneCell' = true) (hm : 0 < m)
    (h63 : n + m ≤ maxLen) (hbytes : (n + m) * bytes ≤ 140737488355328)
    (h : ∀ A' c' G' w', Seg w' e size A' (n + m) c' (xs ++ news) G' → w.grownBy w' G → Moved w G G' → wpList P ops Q rest (a.put o.dst (.slice A' (n + m) c')) w') : wpList P ops Q (o :: rest) a w := by
  obtain ⟨A', c', G', w', hrun, h2, h3, h4⟩ := run_append_seg (P := P) w t o.type e i z size bytes ht hi hz hsize hby hzs hsz hseg ad m k news hl hnews h1 hm h63 hbytes
  refine wpList_plain hgd fun K hK' => ?_
  unfold Oper.wp
  simp [execOp, ho, resolve, invoke, builtin, hs, hx, hrun, Result.andThen]
  exact hK' _ _ (h A' c' G' w' h2 h3 h4)

/-- 'clear' of the first m elements. -/
theorem run_clear_seg (t e : TypeId) (z : Value) (ht : P.underlying t = some (.slice e)) (hv : ∀ w, (zeroValue e).run P w = .ok z w) (hone : ∀ u ∈ z.cells, u.oneCell' = true)
    {A : Option Addr} {n c : Nat} {xs : List Value} {G : Option Nat} (h : Seg w e z.cells.size A n c xs G) (m : Nat) (hm : m ≤ n) (hpos : 0 < z.cells.size) :
    ∃ w' ys, (∀ ty k, (Builtin.clear_ #[t] ty #[.slice A m k]).run P w = .ok (.tuple #[]) w') ∧ Seg w' e z.cells.size A n c (ys ++ xs.drop (m * z.cells.size)) G ∧ ys.length = m * z.cells.size ∧ w.grownBy w' G := by
  have hlen := h.1
  rcases h.2.2.2 with ⟨rfl, rfl, rfl⟩ | ⟨g, off, cur, rfl, rfl, hb, hfit, hcells⟩
  · obtain rfl : n = 0 := by have := h.2.1; omega
    obtain rfl : m = 0 := by omega
    refine ⟨w, [], fun ty k => by simp [Builtin.clear_, run_underlying ht], by simpa using h, by simp, World.grownBy.refl w _⟩
  · by_cases h0 : m = 0
    · subst h0
      refine ⟨w, [], fun ty k => by simp [Builtin.clear_, run_underlying ht], by simpa using h, by simp, World.grownBy.refl w _⟩
    · have hzl : (Builtin.zeroCells z.cells m).toList.length = m * z.cells.size := by simp [Builtin.zeroCells]
      have hmc : m * z.cells.size ≤ c * z.cells.size := Nat.mul_le_mul_right _ (Nat.le_trans hm h.2.1)
      have hmn : m * z.cells.size ≤ xs.length := by rw [hlen]; exact Nat.mul_le_mul_right _ hm
      have hst := run_storeCells_cells (P := P) g off (Builtin.zeroCells z.cells m).toList 0 w (fun j hj => by rw [hb.cell, Array.getElem?_eq_getElem (by omega)]; rfl) (fun j _ => hb.frozen _) (by
        intro u hu
        simp only [Builtin.zeroCells, Array.toList_map, List.mem_map] at hu
        obtain ⟨j, _, rfl⟩ := hu
        rw [getElem!_pos z.cells _ (Nat.mod_lt _ hpos)]
        exact hone _ (Array.getElem_mem _))
      simp only [Nat.add_zero] at hst
      obtain ⟨cs', k1, k2, k3, k4⟩ := hb.puts (Builtin.zeroCells z.cells m).toList off (by omega)
      refine ⟨_, (Builtin.zeroCells z.cells m).toList, fun ty k => ?_, ⟨by rw [List.length_append, hzl, List.length_drop, hlen]; omega, h.2.1, h.2.2.1, .inr ⟨g, off, cs', rfl, rfl, k1, by rw [k2]; exact hfit, fun j u hu => ?_⟩⟩, hzl, setCells_grown g _ _ w⟩
      · obtain ⟨q, rfl⟩ : ∃ q, m = q + 1 := ⟨m - 1, by omega⟩
        simp [Builtin.clear_, run_underlying ht, hv, hst]
      · by_cases hj : j < m * z.cells.size
        · rw [List.getElem?_append_left (by omega)] at hu
          rw [k3 j (by omega)]
          exact hu
        · rw [List.getElem?_append_right (by omega), List.getElem?_drop, hzl, show m * z.cells.size + (j - m * z.cells.size) = j by omega] at hu
          rw [k4 _ (by omega)]
          exact hcells j u hu
end
end Go.Proofs.Ytfdboahcaiolgaa

/-
  Plain facts on memory, more: append of any slice (nil, empty or not) onto a slice of the call's own, as a run and as one step of a statement whose order is open. No condition on the program but the facts on its types that each theorem names.
-/
namespace Go.Proofs.Ytfdboahcaiolgaa
open Go.RowKit

/-- The slice '.slice A m k' reads as the cells news ('size' for each element), wherever it lies. -/
def Src (w : World) (size : Nat) (A : Option Addr) (m : Nat) (news : List Value) : Prop :=
  news.length = m * size ∧ (0 < m → ∃ ad, A = some ad ∧ ∀ j u, news[j]? = some u → w.cell? (ad.add j) = some u)

section
variable {P : Program} (w : World)
theorem run_append_src (t ty e : TypeId) (i : TypeInfo) (z : Value) (size bytes : Nat) (ht : P.underlying t = some (.slice e)) (hi : P.info? e = some i) (hz : i.zero = some z)
    (hsize : i.size = size) (hby : i.bytes = bytes) (hzs : z.cells.size = size) (hsz : 0 < size)
    {A : Option Addr} {n c : Nat} {xs : List Value} {G : Option Nat} (h : Seg w e size A n c xs G)
    {As : Option Addr} {m : Nat} (k : Nat) {news : List Value} (hsrc : Src w size As m news) (h1 : ∀ u ∈ news, u.oneCell' = true)
    (h63 : n + m ≤ maxLen) (hbytes : (n + m) * bytes ≤ 140737488355328) :
    ∃ A' c' G' w', (Builtin.append_ #[t, t] ty #[.slice A n c, .slice As m k]).run P w = .ok (.slice A' (n + m) c') w' ∧ Seg w' e size A' (n + m) c' (xs ++ news) G' ∧ w.grownBy w' G ∧ Moved w G G' := by
  rcases Nat.eq_zero_or_pos m with h0 | h0
  · subst h0
    obtain rfl : news = [] := List.eq_nil_of_length_eq_zero (by simpa using hsrc.1)
    refine ⟨A, c, G, w, ?_, by simpa using h, World.grownBy.refl w _, .inl rfl⟩
    have hnc := h.2.1
    have hfc : (Builtin.firstCells i.size 0 (.slice As 0 k)).run P w = .ok #[] w := by
      rcases As with _ | ad
      · simp [Builtin.firstCells]
      · exact run_firstCells_some (P := P) w i.size 0 ad 0 k [] (by simp) (by simp)
    rcases A with _ | a
    · simp [Builtin.append_, run_underlying ht, sizeOf, typeInfo, hi, Builtin.lenOf, hnc, hfc]
    · simp [Builtin.append_, run_underlying ht, sizeOf, typeInfo, hi, Builtin.lenOf, hnc, hfc, storeCells]
  · obtain ⟨ad, rfl, hc⟩ := hsrc.2 h0
    exact run_append_seg w t ty e i z size bytes ht hi hz hsize hby hzs hsz h ad m k news hsrc.1 hc h1 h0 h63 hbytes

theorem step_append_src {ops : Array Oper} {o : Oper} {a : Act} {K : Act → World → Prop} {Q : Exit → Act → World → Prop} {E : Prop} (s x : Operand) (t : TypeId)
    (ho : o.op = .call { callee := .builtin .append, args := #[s, x], argTypes := #[t, t] })
    (e : TypeId) (i : TypeInfo) (z : Value) (size bytes : Nat) (ht : P.underlying t = some (.slice e)) (hi : P.info? e = some i) (hz : i.zero = some z)
    (hsize : i.size = size) (hby : i.bytes = bytes) (hzs : z.cells.size = size) (hsz : 0 < size)
    {A : Option Addr} {n c : Nat} {xs : List Value} {G : Option Nat} (hs : a.eval s = .slice A n c) (h : Seg w e size A n c xs G)
    {As : Option Addr} {m k : Nat} {news : List Value} (hx : a.eval x = .slice As m k) (hsrc : Src w size As m news) (h1 : ∀ u ∈ news, u.oneCell' = true)
    (h63 : n + m ≤ maxLen) (hbytes : (n + m) * bytes ≤ 140737488355328) (hw : Region.wanted o (yielded ops a.tmps) = true) (N : Nat) (hN : n + m = N)
    (hK : ∀ A' c' G' w', Seg w' e size A' N c' (xs ++ news) G' → w.grownBy w' G → Moved w G G' → K (a.put o.dst (.slice A' N c')) w') :
    if Region.wanted o (yielded ops a.tmps) = true then Oper.wp P o a w K Q else E := by
  subst hN
  rw [if_pos hw]
  obtain ⟨A', c', G', w', hrun, h2, h3, h4⟩ := run_append_src (P := P) w t o.type e i z size bytes ht hi hz hsize hby hzs hsz h k hsrc h1 h63 hbytes
  unfold Oper.wp
  simp [execOp, ho, resolve, invoke, builtin, hs, hx, hrun, Result.andThen]
  exact hK A' c' G' w' h2 h3 h4
end
end Go.Proofs.Ytfdboahcaiolgaa

/-
  Slices of structs in memory, for any element that is written as a fixed number of cells: a slice that can be read, one of a call's own, one that a loop makes; append, make and cuts of such slices. No condition on the program but the facts on its types that each theorem names.
-/
set_option linter.unusedVariables false
set_option linter.unusedSimpArgs false
set_option linter.unusedSectionVars false
namespace Go.Proofs.Ytfdboahcaiolgaa
open Go.RowKit

theorem ret_bool {a b : Bool} (h : a = b) : Ending.returned (.bool a) = .returned (.bool b) := by rw [h]
theorem ret_int {k : IntKind} {a b : Int} (h : a = b) : Ending.returned (.int k a) = .returned (.int k b) := by rw [h]
theorem belowN {B : Nat} {a w : World} (h : Below B a w) (n : Nat) : Below B a (w.drewN n) := ⟨h.os, h.tape, h.output, h.size, h.block⟩
theorem belowD {B : Nat} {a w : World} (h : Below B a w) : Below B a w.drew := ⟨h.os, h.tape, h.output, h.size, h.block⟩
theorem below_drew {B : Nat} {W w1 : World} (h : Below B W.drew w1) : Below B W w1 := ⟨h.os, h.tape, h.output, h.size, h.block⟩
theorem below_drewN {B k : Nat} {W w1 : World} (h : Below B (W.drewN k) w1) : Below B W w1 := ⟨h.os, h.tape, h.output, h.size, h.block⟩
theorem grown_below {w w1 : World} {G : Option Nat} (h : w.grownBy w1 G) {B : Nat} (hB : B ≤ w.heap.size) (hG : ∀ g, G = some g → B ≤ g) : Below B w w1 :=
  ⟨h.os, h.tape, h.output, h.size, fun i hi => h.block i (by omega) (fun e => by have := hG i e.symm; omega)⟩
theorem grown_drew {w w1 : World} {G : Option Nat} (h : w.grownBy w1 G) : w.grownBy w1.drew G := ⟨h.os, h.tape, h.output, h.size, h.block⟩
theorem Moved.ge {w : World} {G G' : Option Nat} (h : Moved w G G') {B : Nat} (hB : B ≤ w.heap.size) (hG : ∀ g, G = some g → B ≤ g) : ∀ g, G' = some g → B ≤ g := by
  rcases h with rfl | ⟨g, rfl, hg⟩
  · exact hG
  · intro g' e; cases e; omega
/-- Two calls one behind the other. -/
theorem bel2 {w w1 w2 : World} (h : Below w.heap.size w w1) (k : Below w1.heap.size w1 w2) : Below w.heap.size w w2 := h.trans (k.mono h.size)
theorem bel2B {B : Nat} {w w1 w2 : World} (h : Below B w w1) (hB : B ≤ w1.heap.size) (k : Below w1.heap.size w1 w2) : Below B w w2 := h.trans (k.mono hB)
theorem belA (w : World) (o : Obj) : Below w.heap.size w (w.alloc o) := (Below.refl _ _).alloc (Nat.le_refl _) o
theorem cell_on {w w' : World} {g i : Nat} {v : Value} (hb : Below w.heap.size w w') (h : w.cell? ⟨g, i, none⟩ = some v) : w'.cell? ⟨g, i, none⟩ = some v :=
  (hb.cell (World.block_lt_of_cell? w _ h)).trans h
section
variable {P : Program} (w : World)
theorem wpList_append_src {ops : Array Oper} {rest : List Oper} {o : Oper} {a : Act} {Q : Exit → Act → World → Prop} (hgd : o.guard = none) (s x : Operand) (t : TypeId)
    (ho : o.op = .call { callee := .builtin .append, args := #[s, x], argTypes := #[t, t] })
    (e : TypeId) (i : TypeInfo) (z : Value) (size bytes : Nat) (ht : P.underlying t = some (.slice e)) (hi : P.info? e = some i) (hz : i.zero = some z)
    (hsize : i.size = size) (hby : i.bytes = bytes) (hzs : z.cells.size = size) (hsz : 0 < size)
    {A : Option Addr} {n c : Nat} {xs : List Value} {G : Option Nat} (hs : a.eval s = .slice A n c) (hseg : Seg w e size A n c xs G)
    {As : Option Addr} {m k : Nat} {news : List Value} (hx : a.eval x = .slice As m k) (hsrc : Src w size As m news) (h1 : ∀ u ∈ news, u.oneCell' = true)
    (h63 : n + m ≤ maxLen) (hbytes : (n + m) * bytes ≤ 140737488355328) (N : Nat) (hN : n + m = N)
    (h : ∀ A' c' G' w', Seg w' e size A' N c' (xs ++ news) G' → w.grownBy w' G → Moved w G G' → wpList P ops Q rest (a.put o.dst (.slice A' N c')) w') : wpList P ops Q (o :: rest) a w := by
  subst hN
  obtain ⟨A', c', G', w', hrun, h2, h3, h4⟩ := run_append_src (P := P) w t o.type e i z size bytes ht hi hz hsize hby hzs hsz hseg k hsrc h1 h63 hbytes
  refine wpList_plain hgd fun K hK' => ?_
  unfold Oper.wp
  simp [execOp, ho, resolve, invoke, builtin, hs, hx, hrun, Result.andThen]
  exact hK' _ _ (h A' c' G' w' h2 h3 h4)
end
/-- A cut 's[k:]'. -/
theorem run_cut_from {P : Program} (t e : TypeId) (ht : P.underlying t = some (.slice e)) (size : Nat) (hz : ∀ w, (sizeOf e).run P w = .ok size w) (A : Option Addr) (n c k : Nat) (hk : k ≤ n) (w : World) :
    (Instr.slice t (.slice A n c) (some (.int .i64 k)) none none).run P w = .ok (.slice (if c = k then A else A.map (·.add (k * size))) (n - k) (c - k)) w := by
  simp [Instr.slice, run_underlying ht, Instr.sliceBounds, hz, go_sem, hk]
/-- A cut 's[:k]'. -/
theorem run_cut_upto {P : Program} (t e : TypeId) (ht : P.underlying t = some (.slice e)) (size : Nat) (hz : ∀ w, (sizeOf e).run P w = .ok size w) (A : Option Addr) (n c k : Nat) (hk : k ≤ c) (w : World) :
    (Instr.slice t (.slice A n c) none (some (.int .i64 k)) none).run P w = .ok (.slice A k c) w := by
  simp [Instr.slice, run_underlying ht, Instr.sliceBounds, hz, go_sem, hk]
theorem run_make_seg {P : Program} (w : World) (t e : TypeId) (i : TypeInfo) (z : Value) (size : Nat) (ht : P.underlying t = some (.slice e)) (hi : P.info? e = some i) (hz : i.zero = some z) (hsize : i.size = size)
    (c : Nat) (hbytes : i.bytes * c ≤ 281474976710656) (h63 : c ≤ maxLen) :
    ∃ w', (Instr.makeSlice t (.int .i64 0) (.int .i64 (c : Int))).run P w = .ok (.slice (some ⟨w.heap.size, 0, none⟩) 0 c) w' ∧ Seg w' e size (some ⟨w.heap.size, 0, none⟩) 0 c [] (some w.heap.size) ∧ w.grownBy w' none := by
  obtain ⟨w', h1, h2, h3⟩ := run_make_own (P := P) w w.heap.size t e i z size ht hi hz hsize .i64 .i64 c hbytes h63 (Nat.le_refl _)
  refine ⟨w', h1, ⟨by simp, Nat.zero_le _, h63, .inr ?_⟩, h3⟩
  rcases h2.2 with ⟨hv, _⟩ | ⟨g, cap, cur, hv, _, hg, _, _, hs, _⟩
  · cases hv
  · injection hv with e1 e2 e3
    injection e1 with e1
    injection e1 with e1
    subst e1 e3
    exact ⟨_, 0, cur, rfl, rfl, hg, by omega, fun j u hu => by simp at hu⟩
theorem Seg.src {w : World} {e : TypeId} {size : Nat} {A : Option Addr} {n c : Nat} {xs : List Value} {G : Option Nat} (h : Seg w e size A n c xs G) : Src w size A n xs := by
  refine ⟨h.1, fun hn => ?_⟩
  rcases h.2.2.2 with ⟨_, h0, _⟩ | ⟨g, off, cur, h1, h2, h3, _, h4⟩
  · have := h.2.1; omega
  · exact ⟨_, h1, fun j u hu => by rw [Addr.add_lit, h3.cell]; exact h4 j u hu⟩
theorem Seg.on {w w' : World} {e : TypeId} {size : Nat} {A : Option Addr} {n c : Nat} {xs : List Value} {G : Option Nat} (h : Seg w e size A n c xs G) (hb : Below w.heap.size w w') : Seg w' e size A n c xs G :=
  h.keep fun g hg => hb.block g (h.lt g hg)
theorem Src.on {w w' : World} {size : Nat} {A : Option Addr} {n : Nat} {xs : List Value} (h : Src w size A n xs) (hb : Below w.heap.size w w') : Src w' size A n xs :=
  ⟨h.1, fun hn => by
    obtain ⟨ad, h1, h2⟩ := h.2 hn
    exact ⟨ad, h1, fun j u hu => (hb.cell (World.block_lt_of_cell? w _ (h2 j u hu))).trans (h2 j u hu)⟩⟩
/-- The elements of a literal that the walk has just laid. -/
theorem cells_at (w : World) (t : TypeId) (us : List Value) (k : Nat) (hk : k = w.heap.size) : ∀ (j : Nat) (x : Value), us[j]? = some x → (w.alloc (.cells us.toArray t)).cell? ((⟨k, 0, none⟩ : Addr).add j) = some x := by
  subst hk
  intro j x hj
  rw [Addr.add_lit, Nat.zero_add, (CB.new w t us.toArray).cell j]
  simpa using hj
theorem Src.lit (w : World) (t : TypeId) (us : List Value) (size m : Nat) (k : Nat) (hk : k = w.heap.size) (hl : us.length = m * size) : Src (w.alloc (.cells us.toArray t)) size (some ⟨k, 0, none⟩) m us :=
  ⟨hl, fun _ => ⟨_, rfl, cells_at w t us k hk⟩⟩

/-- What a guard that did not come up leaves out. -/
theorem ite_no {c : Prop} [Decidable c] {A B : Prop} (h : ¬ c) (hB : B) : if c then A else B := by rw [if_neg h]; exact hB
/-- 'wpAnyH_take', the temporary named. -/
theorem wpAnyH_takeD {P : Program} {md : Region.Mode} {ops : Array Oper} {Q : Exit → Act → World → Prop} {S : World → Prop} {i : Nat} {oi : Oper} {v : Value} {d : Option Tmp} {fuel : Nat} {listed : Array Bool} {a : Act} {w : World} (hi : ops[i]? = some oi) (hd : oi.dst = d)
    (hs : Region.noSelect ops = true) (hf : Region.free md ops listed i = true) (hr : (Region.ready md ops listed).contains i = true)
    (hQ : ∀ c a w, Q (.panic c) (a.put oi.dst v) w → Q (.panic c) a w) (hy : YieldsIf P ops S oi v a) (hS : S w)
    (h : wpAnyH P md ops Q S fuel (listed.setIfInBounds i true) (a.put d v) w) : wpAnyH P md ops Q S (fuel + 1) listed a w := by
  subst hd
  exact wpAnyH_take hi hs hf hr hQ hy hS h
/-- A walk stays where it is. -/
def Stay (p : Prop) : Prop := p
theorem Stay.mk {p : Prop} (h : Stay p) : p := h
theorem Stay.open_ {p : Prop} (h : p) : Stay p := h
theorem Seg.apart {w : World} {e e' : TypeId} {size size' : Nat} {A A' : Option Addr} {n c n' c' : Nat} {xs xs' : List Value} {G G' : Option Nat} (h : Seg w e size A n c xs G) (h' : Seg w e' size' A' n' c' xs' G') (hne : e ≠ e') : ∀ g, G = some g → some g ≠ G' := by
  intro g hg hg'
  rcases h'.2.2.2 with ⟨_, _, h0⟩ | ⟨g', off, cur, _, h2, h3, _⟩
  · rw [h0] at hg'; cases hg'
  · rw [h2] at hg'
    cases hg'
    exact h.ne_ h3 hne hg
/-- A slice that a loop makes: it lies in a block that is new since w. -/
structure OS (w : World) (T : TypeId) (size : Nat) (xs : List Value) (v : Value) (W : World) : Prop where
  out : ∃ A m c G, v = .slice A m c ∧ Seg W T size A m c xs G ∧ ∀ g, G = some g → w.heap.size ≤ g
  low : Below w.heap.size w W
theorem OS.start (w : World) (T : TypeId) (size : Nat) {W : World} (h : Below w.heap.size w W) : OS w T size [] (.slice none 0 0) W := ⟨⟨none, 0, 0, none, rfl, Seg.nil _ _ _, fun _ h => by cases h⟩, h⟩
theorem OS.app {w : World} {T : TypeId} {size : Nat} {W' : World} (hl : Below w.heap.size w W') {G : Option Nat} (hG : ∀ g, G = some g → w.heap.size ≤ g) {ys : List Value}
    {A1 : Option Addr} {N c1 : Nat} {G1 : Option Nat} {w1 : World} (n1 : Seg w1 T size A1 N c1 ys G1) (n2 : W'.grownBy w1 G) (n3 : Moved W' G G1) : OS w T size ys (.slice A1 N c1) w1 :=
  ⟨⟨A1, N, c1, G1, rfl, n1, n3.ge hl.size hG⟩, hl.grown n2 hl.size hG⟩
theorem OS.on {w : World} {T : TypeId} {size : Nat} {xs : List Value} {v : Value} {W W' : World} (h : OS w T size xs v W) (hb : Below W.heap.size W W') : OS w T size xs v W' := by
  obtain ⟨⟨A, m, c, G, h1, h2, h3⟩, h4⟩ := h
  exact ⟨⟨A, m, c, G, h1, h2.on hb, h3⟩, bel2 h4 hb⟩

/-! ### elements of several cells -/
/-- Elements are written as s cells each. -/
structure EncOk {α : Type} (c : α → List Value) (s : Nat) : Prop where
  len : ∀ x, (c x).length = s
  one : ∀ x, ∀ u ∈ c x, u.oneCell' = true
  pos : 0 < s
theorem encLen {α : Type} {c : α → List Value} {s : Nat} [h : Nonempty (EncOk c s)] : ∀ x, (c x).length = s := h.elim fun e => e.len
theorem encOne {α : Type} {c : α → List Value} (s : Nat) [h : Nonempty (EncOk c s)] : ∀ x, ∀ u ∈ c x, u.oneCell' = true := h.elim fun e => e.one
theorem encPos {α : Type} (c : α → List Value) {s : Nat} [h : Nonempty (EncOk c s)] : 0 < s := h.elim fun e => e.pos
def rc {α : Type} (c : α → List Value) (L : List α) : List Value := L.flatMap c
section
variable {α : Type} {c : α → List Value} {s : Nat} [Nonempty (EncOk c s)]
theorem rc_nil : rc c [] = [] := rfl
theorem rc_cons (x : α) (L : List α) : rc c (x :: L) = c x ++ rc c L := rfl
theorem rc_append (L M : List α) : rc c (L ++ M) = rc c L ++ rc c M := List.flatMap_append
theorem rc_snoc (L : List α) (x : α) : rc c L ++ c x = rc c (L ++ [x]) := by rw [rc_append]; simp [rc]
theorem rc_length (s : Nat) [Nonempty (EncOk c s)] (L : List α) : (rc c L).length = L.length * s := by
  induction L with
  | nil => simp [rc]
  | cons p r ih => rw [rc_cons, List.length_append, ih, encLen (s := s), List.length_cons, Nat.add_mul, Nat.one_mul, Nat.add_comm]
theorem rc_one (s : Nat) [Nonempty (EncOk c s)] (L : List α) : ∀ u ∈ rc c L, u.oneCell' = true := by
  intro u hu
  simp only [rc, List.mem_flatMap] at hu
  obtain ⟨p, _, hu⟩ := hu
  exact encOne (c := c) s p u hu
theorem rc_at (s : Nat) [Nonempty (EncOk c s)] : ∀ (L : List α) {k : Nat} {x : α}, L[k]? = some x → ∀ {i : Nat} {v : Value}, (c x)[i]? = some v → (rc c L)[k * s + i]? = some v
  | [], k, x, h, _, _, _ => by simp at h
  | p :: r, 0, x, h, i, v, hv => by
    simp at h
    subst h
    rw [rc_cons, Nat.zero_mul, Nat.zero_add, List.getElem?_append_left (List.getElem?_eq_some_iff.1 hv).1]
    exact hv
  | p :: r, k + 1, x, h, i, v, hv => by
    have ih := rc_at s r (k := k) (x := x) (by simpa using h) hv
    rw [rc_cons, List.getElem?_append_right (by rw [encLen (s := s), Nat.add_mul]; omega), encLen (s := s), show (k + 1) * s + i - s = k * s + i by rw [Nat.add_mul]; omega]
    exact ih
theorem rc_drop (s : Nat) [Nonempty (EncOk c s)] : ∀ (L : List α) (k : Nat), (rc c L).drop (k * s) = rc c (L.drop k)
  | L, 0 => by simp
  | [], k + 1 => by simp [rc]
  | p :: r, k + 1 => by
    have hp := encLen (c := c) (s := s) p
    have ih := rc_drop s r k
    rw [rc_cons, List.drop_succ_cons, ← ih, show (k + 1) * s = s + k * s by rw [Nat.add_mul]; omega, ← List.drop_drop, List.drop_append_of_le_length (l₁ := c p) (by omega), List.drop_eq_nil_of_le (as := c p) (by omega), List.nil_append]
theorem rc_take (s : Nat) [Nonempty (EncOk c s)] : ∀ (L : List α) (k : Nat), (rc c L).take (k * s) = rc c (L.take k)
  | L, 0 => by simp [rc]
  | [], k + 1 => by simp [rc]
  | p :: r, k + 1 => by
    have hp := encLen (c := c) (s := s) p
    have ih := rc_take s r k
    rw [rc_cons, List.take_succ_cons, rc_cons, ← ih, List.take_append, List.take_of_length_le (l := c p) (by rw [hp, Nat.add_mul]; omega), hp, show (k + 1) * s - s = k * s by rw [Nat.add_mul]; omega]

/-- A slice that can be read. -/
structure RR (w : World) (c : α → List Value) (s : Nat) (A : Option Addr) (n q : Nat) (L : List α) : Prop where
  len : L.length = n
  cap : n ≤ q
  max : q ≤ maxLen
  mem : 0 < n → ∃ g off, A = some ⟨g, off, none⟩ ∧ ∀ i v, (rc c L)[i]? = some v → w.cell? ⟨g, off + i, none⟩ = some v
variable {w w' : World} {A : Option Addr} {n cap : Nat} {L : List α}
theorem RR.nil (w : World) (c : α → List Value) (s : Nat) : RR w c s none 0 0 [] := ⟨rfl, Nat.le_refl _, Nat.zero_le _, fun h => absurd h (by omega)⟩
theorem RR.drew (h : RR w c s A n cap L) : RR w.drew c s A n cap L := ⟨h.1, h.2, h.3, h.4⟩
theorem RR.drewN (h : RR w c s A n cap L) (k : Nat) : RR (w.drewN k) c s A n cap L := ⟨h.1, h.2, h.3, h.4⟩
theorem RR.at_ (h : RR w c s A n cap L) {k : Nat} (hk : k < n) : ∃ g off x, L[k]? = some x ∧ A = some ⟨g, off, none⟩ ∧ ∀ i v, (c x)[i]? = some v → w.cell? ⟨g, off + k * s + i, none⟩ = some v := by
  obtain ⟨g, off, h1, h2⟩ := h.mem (by omega)
  have hl : k < L.length := by rw [h.len]; exact hk
  refine ⟨g, off, L[k], List.getElem?_eq_getElem hl, h1, fun i v hv => ?_⟩
  have := h2 _ _ (rc_at s L (List.getElem?_eq_getElem hl) hv)
  rw [Nat.add_assoc]
  exact this
theorem RR.lt (h : RR w c s A n cap L) {g off : Nat} (hA : A = some ⟨g, off, none⟩) (hn : 0 < n) : g < w.heap.size := by
  obtain ⟨g', off', h1, h2⟩ := h.mem hn
  rw [hA] at h1
  cases h1
  have hl : 0 < (rc c L).length := by rw [rc_length s, h.len]; exact Nat.mul_pos hn (encPos c)
  exact World.block_lt_of_cell? w _ (h2 0 _ (List.getElem?_eq_getElem hl))
theorem RR.keep (h : RR w c s A n cap L) (hk : ∀ g off, A = some ⟨g, off, none⟩ → 0 < n → g < w.heap.size → w'.heap[g]? = w.heap[g]?) : RR w' c s A n cap L := by
  refine ⟨h.1, h.2, h.3, fun hn => ?_⟩
  obtain ⟨g, off, h1, h2⟩ := h.mem hn
  have hlt := h.lt h1 hn
  exact ⟨g, off, h1, fun i v hv => by rw [← h2 i v hv]; exact World.cell?_of_block (a := ⟨g, off + i, none⟩) (hk g off h1 hn hlt)⟩
theorem RR.on (h : RR w c s A n cap L) (hb : Below w.heap.size w w') : RR w' c s A n cap L := h.keep fun g _ _ _ hg => hb.block g hg
theorem RR.src (h : RR w c s A n cap L) : Src w s A n (rc c L) := by
  refine ⟨by rw [rc_length s, h.len], fun hn => ?_⟩
  obtain ⟨g, off, h1, h2⟩ := h.mem hn
  exact ⟨_, h1, fun j u hu => by rw [Addr.add_lit]; exact h2 j u hu⟩
theorem rc_len {T : TypeId} {G : Option Nat} (h : Seg w T s A n cap (rc c L) G) : L.length = n := by
  have h1 := h.1
  rw [rc_length s] at h1
  exact Nat.eq_of_mul_eq_mul_right (encPos c) h1
theorem RR.of_seg {T : TypeId} {G : Option Nat} (h : Seg w T s A n cap (rc c L) G) : RR w c s A n cap L := by
  have hl := rc_len h
  refine ⟨hl, h.2.1, h.2.2.1, fun hn => ?_⟩
  have hl0 : 0 < (rc c L).length := by rw [rc_length s, hl]; exact Nat.mul_pos hn (encPos c)
  obtain ⟨g, off, hA, hG, _⟩ := h.at_ (List.getElem?_eq_getElem hl0)
  refine ⟨g, off, hA, fun i v hv => ?_⟩
  obtain ⟨g', off', hA', _, hc⟩ := h.at_ hv
  rw [hA] at hA'
  cases hA'
  exact hc
theorem RR.cut (h : RR w c s A n cap L) {k : Nat} (hk : k ≤ n) : RR w c s (if cap = k then A else A.map (·.add (k * s))) (n - k) (cap - k) (L.drop k) := by
  have h1 := h.len
  have h2 := h.cap
  have h3 := h.max
  refine ⟨by rw [List.length_drop, h1], by omega, by omega, fun hn => ?_⟩
  obtain ⟨g, off, rfl, hc⟩ := h.mem (by omega)
  refine ⟨g, off + k * s, by rw [if_neg (by omega)]; simp [Addr.add_lit], fun i v hv => ?_⟩
  rw [← rc_drop s, List.getElem?_drop] at hv
  rw [Nat.add_assoc]
  exact hc _ v hv
theorem RR.upto (h : RR w c s A n cap L) {k : Nat} (hk : k ≤ n) : RR w c s A k cap (L.take k) := by
  have h1 := h.len
  have h2 := h.cap
  refine ⟨by rw [List.length_take, h1]; omega, by omega, h.max, fun hn => ?_⟩
  obtain ⟨g, off, rfl, hc⟩ := h.mem (by omega)
  refine ⟨g, off, rfl, fun i v hv => hc i v ?_⟩
  rw [← rc_take s, List.getElem?_take] at hv
  split at hv
  · exact hv
  · cases hv

theorem RR.of_at {g off : Nat} (hl : L.length = n) (hnc : n ≤ cap) (hc : cap ≤ maxLen) (h : ∀ (k : Nat) (x : α), L[k]? = some x → ∀ (i : Nat) (v : Value), (c x)[i]? = some v → w.cell? ⟨g, off + k * s + i, none⟩ = some v) : RR w c s (some ⟨g, off, none⟩) n cap L := by
  refine ⟨hl, hnc, hc, fun _ => ⟨g, off, rfl, fun i v hv => ?_⟩⟩
  have hs := encPos (s := s) c
  have hi : i < L.length * s := by
    have := (List.getElem?_eq_some_iff.1 hv).1
    rwa [rc_length s] at this
  have hk : i / s < L.length := Nat.div_lt_of_lt_mul (by rw [Nat.mul_comm]; exact hi)
  have hm : i % s < s := Nat.mod_lt _ hs
  have hx := List.getElem?_eq_getElem hk
  have hcx : i % s < (c L[i / s]).length := by rw [encLen (s := s)]; exact hm
  have e1 := rc_at s L hx (List.getElem?_eq_getElem hcx)
  have e2 : i / s * s + i % s = i := by rw [Nat.mul_comm]; exact Nat.div_add_mod i s
  rw [e2] at e1
  rw [e1] at hv
  cases hv
  have := h (i / s) _ hx (i % s) _ (List.getElem?_eq_getElem hcx)
  rwa [Nat.add_assoc, e2] at this

/-- A slice in a block of type T. -/
def RS (w : World) (T : TypeId) (c : α → List Value) (s : Nat) (A : Option Addr) (n cap : Nat) (L : List α) : Prop := ∃ G, Seg w T s A n cap (rc c L) G
variable {T : TypeId}
theorem RS.rr (h : RS w T c s A n cap L) : RR w c s A n cap L := by obtain ⟨G, h2⟩ := h; exact RR.of_seg h2
theorem RS.on (h : RS w T c s A n cap L) (hb : Below w.heap.size w w') : RS w' T c s A n cap L := by obtain ⟨G, h2⟩ := h; exact ⟨G, h2.on hb⟩
theorem RS.drew (h : RS w T c s A n cap L) : RS w.drew T c s A n cap L := h
theorem RS.drewN (h : RS w T c s A n cap L) (k : Nat) : RS (w.drewN k) T c s A n cap L := h
theorem RS.far (h : RS w T c s A n cap L) {d : Nat} {T' : TypeId} {cs : Array Value} (hd : CB w d T' cs) (ht : T ≠ T') (i : Nat) (x : Value) : RS (w.setCell ⟨d, i, none⟩ x) T c s A n cap L := by
  obtain ⟨G, h2⟩ := h
  exact ⟨G, h2.far (p := ⟨d, i, none⟩) (h2.ne_ hd ht) x⟩
theorem RS.nil (w : World) (T : TypeId) (c : α → List Value) (s : Nat) : RS w T c s none 0 0 [] := ⟨none, Seg.nil _ _ _⟩
theorem RS.len (h : RS w T c s A n cap L) : L.length = n := h.rr.len
/-- A call gave a slice of its own back. -/
def RPost (w : World) (T : TypeId) (c : α → List Value) (s : Nat) (L : List α) (e : Ending) (w' : World) : Prop :=
  ∃ A n cap, e = .returned (.slice A n cap) ∧ RS w' T c s A n cap L ∧ Below w.heap.size w w'
theorem RPost.of_os {v : Value} {W : World} (h : OS w T s (rc c L) v W) : RPost w T c s L (.returned v) W := by
  obtain ⟨⟨A, m, c, G, h1, h2, h3⟩, h4⟩ := h
  exact ⟨A, m, c, by rw [h1], ⟨G, h2⟩, h4⟩
end
end Go.Proofs.Ytfdboahcaiolgaa

/-
  More on memory, for any program: a store into a slice of a call's own; an array in a block of its own that reads as a function. No condition.
-/
set_option linter.unusedVariables false
set_option linter.unusedSimpArgs false
namespace Go.Proofs.Ytfdboahcaiolgaa
open Go.RowKit

theorem Seg.slot {w : World} {e : TypeId} {size : Nat} {A : Option Addr} {n c : Nat} {xs : List Value} {G : Option Nat} (h : Seg w e size A n c xs G) (k : Nat) (hk : k < n * size) :
    ∃ g off, A = some ⟨g, off, none⟩ ∧ G = some g ∧ w.frozen? ⟨g, off + k, none⟩ = false ∧ (∀ u, xs[k]? = some u → w.cell? ⟨g, off + k, none⟩ = some u) ∧ ∀ v, Seg (w.setCell ⟨g, off + k, none⟩ v) e size A n c (xs.set k v) G := by
  have hl := h.1
  have hnc := h.2.1
  have hm : n * size ≤ c * size := Nat.mul_le_mul_right _ hnc
  rcases h.2.2.2 with ⟨_, h0, _⟩ | ⟨g, off, cur, rfl, rfl, h3, h4, h5⟩
  · subst h0; simp at hm; omega
  · refine ⟨g, off, rfl, rfl, h3.frozen _, fun u hu => by rw [h3.cell]; exact h5 k u hu, fun v => ⟨by rw [List.length_set]; exact hl, hnc, h.2.2.1, .inr ⟨g, off, _, rfl, rfl, h3.put (off + k) v, by rw [Array.size_setIfInBounds]; exact h4, fun j u hu => ?_⟩⟩⟩
    rw [Array.getElem?_setIfInBounds]
    by_cases hj : k = j
    · subst hj
      rw [List.getElem?_set_self (by omega)] at hu
      rw [if_pos rfl, if_pos (by omega)]
      exact hu
    · rw [List.getElem?_set_ne hj] at hu
      rw [if_neg (by omega)]
      exact h5 j u hu
/-- Block g is an array of N cells, the i-th of which is f i. -/
def AN (w : World) (g : Nat) (t : TypeId) (N : Nat) (f : Nat → Value) : Prop := ∃ cs, CB w g t cs ∧ cs.size = N ∧ ∀ i, i < N → cs[i]? = some (f i)
section
variable {w w' : World} {g : Nat} {t : TypeId} {N : Nat} {f : Nat → Value}
theorem AN.lt (h : AN w g t N f) : g < w.heap.size := by obtain ⟨cs, h1, _⟩ := h; exact h1.lt
theorem AN.cell (h : AN w g t N f) {i : Nat} (hi : i < N) : w.cell? ⟨g, i, none⟩ = some (f i) := by
  obtain ⟨cs, h1, h2, h3⟩ := h
  rw [h1.cell]
  exact h3 i hi
theorem AN.frozen (h : AN w g t N f) (i : Nat) : w.frozen? ⟨g, i, none⟩ = false := by
  obtain ⟨cs, h1, _⟩ := h
  exact h1.frozen i
theorem AN.same (h : AN w g t N f) (e : w'.heap[g]? = w.heap[g]?) : AN w' g t N f := by
  obtain ⟨cs, h1, h2⟩ := h
  exact ⟨cs, h1.same e, h2⟩
theorem AN.drew (h : AN w g t N f) : AN w.drew g t N f := h
theorem AN.alloc (h : AN w g t N f) (o : Obj) : AN (w.alloc o) g t N f := h.same (Below.heap_alloc w o g h.lt)
theorem AN.put (h : AN w g t N f) {i : Nat} (hi : i < N) (u : Value) {f' : Nat → Value} (hf : ∀ j, j < N → f' j = if j = i then u else f j) : AN (w.setCell ⟨g, i, none⟩ u) g t N f' := by
  obtain ⟨cs, h1, h2, h3⟩ := h
  refine ⟨cs.setIfInBounds i u, h1.put i u, by simpa using h2, fun j hj => ?_⟩
  rw [Array.getElem?_setIfInBounds, hf j hj]
  by_cases e : i = j
  · subst e
    simp [h2, hi]
  · rw [if_neg e, if_neg (fun e' => e e'.symm)]
    exact h3 j hj
theorem AN.new (w : World) (t : TypeId) (N : Nat) (u : Value) (f : Nat → Value) (hf : ∀ j, j < N → f j = u) : AN (w.alloc (.cells (Array.replicate N u) t)) w.heap.size t N f :=
  ⟨_, CB.new w t _, by simp, fun i hi => by rw [hf i hi]; simp [hi]⟩
end
end Go.Proofs.Ytfdboahcaiolgaa
