/-
  Plain facts on memory: a block of cells that is known whole; a slice that reads as a list of cells inside such a block, at any place of it; what append, clear and a cut do to such a slice. No condition on the program but the facts on its types that each theorem names.
-/
import Derived.Below
import Derived.Laws.OwnMore
import Derived.Laws.Rows
import Derived.ArgAppend
import Derived.Deep.Draws
import Derived.Lib.SliceRun
import Derived.Laws.IdiomCopy
namespace Go.Proofs.Ytcfdfimkgehdfaa
open Go.RowKit

/-- Block g is just the cells cs, of element type t; none of it is frozen. -/
def CB (w : World) (g : Nat) (t : TypeId) (cs : Array Value) : Prop := w.heap[g]? = some (.cells cs t (0, 0))

section
variable {w w' : World} {g : Nat} {t : TypeId} {cs : Array Value}
theorem CB.lt (h : CB w g t cs) : g < w.heap.size := (Array.getElem?_eq_some_iff.1 h).1
theorem CB.cell (h : CB w g t cs) (i : Nat) : w.cell? ⟨g, i, none⟩ = cs[i]? := cell_of_row w g i cs t (0, 0) h
theorem CB.frozen (h : CB w g t cs) (i : Nat) : w.frozen? ⟨g, i, none⟩ = false := by
  unfold CB at h
  simp [World.frozen?, h]
theorem CB.new (w : World) (t : TypeId) (cs : Array Value) : CB (w.alloc (.cells cs t)) w.heap.size t cs := heap_alloc_new w _
theorem CB.drew (h : CB w g t cs) : CB w.drew g t cs := h
theorem CB.drewN (h : CB w g t cs) (n : Nat) : CB (w.drewN n) g t cs := h
theorem CB.alloc (h : CB w g t cs) (o : Obj) : CB (w.alloc o) g t cs := (Below.heap_alloc w o g h.lt).trans h
theorem CB.put (h : CB w g t cs) (i : Nat) (u : Value) : CB (w.setCell ⟨g, i, none⟩ u) g t (cs.setIfInBounds i u) := by
  unfold CB at h ⊢
  simp [World.setCell, Array.getElem?_modify, h]
theorem CB.far (h : CB w g t cs) {p : Addr} (hp : g ≠ p.block) (u : Value) : CB (w.setCell p u) g t cs := (Below.heap_setCell w p u g hp).trans h
theorem CB.same (h : CB w g t cs) (he : w'.heap[g]? = w.heap[g]?) : CB w' g t cs := he.trans h
theorem CB.ne_ {g' : Nat} {t' : TypeId} {cs' : Array Value} (h : CB w g t cs) (h' : CB w g' t' cs') (hne : t ≠ t') : g ≠ g' := by
  rintro rfl
  unfold CB at h h'
  rw [h] at h'
  injection h' with h'
  injection h' with _ ht
  exact hne ht
theorem CB.puts (h : CB w g t cs) : ∀ (vs : List Value) (o : Nat), o + vs.length ≤ cs.size →
    ∃ cs' : Array Value, CB (w.setCells g o vs) g t cs' ∧ cs'.size = cs.size ∧ (∀ j, j < vs.length → cs'[o + j]? = vs[j]?) ∧ ∀ j, j < o ∨ o + vs.length ≤ j → cs'[j]? = cs[j]? := by
  intro vs
  induction vs generalizing w cs with
  | nil => exact fun o _ => ⟨cs, h, rfl, fun j hj => absurd hj (by simp), fun _ _ => rfl⟩
  | cons v r ih =>
    intro o ho
    simp only [List.length_cons] at ho
    obtain ⟨cs', h1, h2, h3, h4⟩ := ih (h.put o v) (o + 1) (by simp; omega)
    refine ⟨cs', h1, by simpa using h2, fun j hj => ?_, fun j hj => ?_⟩
    · match j with
      | 0 =>
        rw [h4 (o + 0) (by omega)]
        simp [Array.getElem?_setIfInBounds]
        omega
      | k + 1 =>
        rw [show o + (k + 1) = o + 1 + k by omega, h3 k (by simpa using hj)]
        simp
    · rw [h4 j (by simp at hj; omega), Array.getElem?_setIfInBounds, if_neg (by simp at hj; omega)]
end

theorem setCells_grown (g : Nat) : ∀ (vs : List Value) (o : Nat) (w : World), w.grownBy (w.setCells g o vs) (some g)
  | [], _, w => World.grownBy.refl w _
  | v :: r, o, w => by
    have ih := setCells_grown g r (o + 1) (w.setCell ⟨g, o, none⟩ v)
    exact ⟨ih.os, ih.tape, ih.output, Nat.le_trans (by simp [World.setCell]) ih.size, fun k hk hne => (ih.block k (by simpa [World.setCell] using hk) hne).trans (Below.heap_setCell w _ v k (fun e => hne (by rw [e])))⟩

/-- The world w' is w with new blocks, but for what stands in block b and in block G. -/
structure Only (w w' : World) (b : Nat) (G : Option Nat) : Prop where
  os : w'.os = w.os
  tape : w'.tape = w.tape
  output : w'.output = w.output
  size : w.heap.size ≤ w'.heap.size
  block : ∀ i, i < w.heap.size → i ≠ b → some i ≠ G → w'.heap[i]? = w.heap[i]?

theorem Only.refl (w : World) (b : Nat) (G : Option Nat) : Only w w b G := ⟨rfl, rfl, rfl, Nat.le_refl _, fun _ _ _ _ => rfl⟩
theorem Only.drewN {w w' : World} {b : Nat} {G : Option Nat} (h : Only w w' b G) (n : Nat) : Only w (w'.drewN n) b G := ⟨h.os, h.tape, h.output, h.size, h.block⟩
theorem Only.drew {w w' : World} {b : Nat} {G : Option Nat} (h : Only w w' b G) : Only w w'.drew b G := ⟨h.os, h.tape, h.output, h.size, h.block⟩
theorem Only.alloc {w w' : World} {b : Nat} {G : Option Nat} (h : Only w w' b G) (o : Obj) : Only w (w'.alloc o) b G :=
  ⟨h.os, h.tape, h.output, Nat.le_trans h.size (by simp), fun i hi h1 h2 => (Below.heap_alloc w' o i (Nat.lt_of_lt_of_le hi h.size)).trans (h.block i hi h1 h2)⟩
theorem Only.put {w w' : World} {b : Nat} {G : Option Nat} (h : Only w w' b G) {p : Addr} (hp : p.block = b ∨ some p.block = G ∨ w.heap.size ≤ p.block) (u : Value) : Only w (w'.setCell p u) b G :=
  ⟨h.os, h.tape, h.output, by simpa [World.setCell] using h.size, fun i hi h1 h2 => (Below.heap_setCell w' p u i (by
    rintro rfl
    rcases hp with hp | hp | hp
    · exact h1 hp
    · exact h2 hp
    · omega)).trans (h.block i hi h1 h2)⟩
theorem Only.grown {w w' w'' : World} {b : Nat} {G G' : Option Nat} (h : Only w w' b G) (hg : w'.grownBy w'' G') (hG : ∀ k, G' = some k → G = some k ∨ w.heap.size ≤ k) : Only w w'' b G :=
  ⟨hg.os.trans h.os, hg.tape.trans h.tape, hg.output.trans h.output, Nat.le_trans h.size hg.size, fun i hi h1 h2 => (hg.block i (Nat.lt_of_lt_of_le hi h.size) (by
    rintro he
    rcases hG i he.symm with e | e
    · exact h2 e.symm
    · omega)).trans (h.block i hi h1 h2)⟩
theorem Only.trans {w w' w'' : World} {b : Nat} {G G' : Option Nat} (h : Only w w' b G) (k : Only w' w'' b G') (hG : ∀ i, G' = some i → G = some i ∨ w.heap.size ≤ i) : Only w w'' b G :=
  ⟨k.os.trans h.os, k.tape.trans h.tape, k.output.trans h.output, Nat.le_trans h.size k.size, fun i hi h1 h2 => (k.block i (Nat.lt_of_lt_of_le hi h.size) h1 (by
    rintro he
    rcases hG i he.symm with e | e
    · exact h2 e.symm
    · omega)).trans (h.block i hi h1 h2)⟩
theorem Only.below {w w' : World} {b : Nat} {G : Option Nat} (h : Only w w' b G) {B : Nat} (hB : B ≤ w.heap.size) (hb : B ≤ b) (hG : ∀ i, G = some i → B ≤ i) : Below B w w' :=
  ⟨h.os, h.tape, h.output, h.size, fun i hi => h.block i (by omega) (by omega) (fun e => by have := hG i e.symm; omega)⟩
theorem Only.cb {w w' : World} {b : Nat} {G : Option Nat} (h : Only w w' b G) {g : Nat} {t : TypeId} {cs : Array Value} (hc : CB w g t cs) (h1 : g ≠ b) (h2 : some g ≠ G) : CB w' g t cs := hc.same (h.block g hc.lt h1 h2)

/-- The slice '.slice A n c' holds the cells xs ('size' for each element): it is nil, or it lies in block G, not frozen, with room for c elements. -/
def Seg (w : World) (e : TypeId) (size : Nat) (A : Option Addr) (n c : Nat) (xs : List Value) (G : Option Nat) : Prop :=
  xs.length = n * size ∧ n ≤ c ∧ c ≤ maxLen ∧
  ((A = none ∧ c = 0 ∧ G = none) ∨
   ∃ g off cur, A = some ⟨g, off, none⟩ ∧ G = some g ∧ CB w g e cur ∧ off + c * size ≤ cur.size ∧ ∀ j u, xs[j]? = some u → cur[off + j]? = some u)

section
variable {w w' : World} {e : TypeId} {size : Nat} {A : Option Addr} {n c : Nat} {xs : List Value} {G : Option Nat}
theorem Seg.nil (w : World) (e : TypeId) (size : Nat) : Seg w e size none 0 0 [] none := ⟨by simp, Nat.le_refl _, Nat.zero_le _, .inl ⟨rfl, rfl, rfl⟩⟩
theorem Seg.lt (h : Seg w e size A n c xs G) : ∀ g, G = some g → g < w.heap.size := by
  rintro g rfl
  rcases h.2.2.2 with ⟨_, _, h⟩ | ⟨g', off, cur, _, h, hb, _⟩
  · cases h
  · cases h
    exact hb.lt
theorem Seg.keep (h : Seg w e size A n c xs G) (hk : ∀ g, G = some g → w'.heap[g]? = w.heap[g]?) : Seg w' e size A n c xs G := by
  refine ⟨h.1, h.2.1, h.2.2.1, ?_⟩
  rcases h.2.2.2 with h0 | ⟨g, off, cur, h1, h2, h3, h4⟩
  · exact .inl h0
  · exact .inr ⟨g, off, cur, h1, h2, h3.same (hk g h2), h4⟩
theorem Seg.drew (h : Seg w e size A n c xs G) : Seg w.drew e size A n c xs G := h
theorem Seg.drewN (h : Seg w e size A n c xs G) (k : Nat) : Seg (w.drewN k) e size A n c xs G := h
theorem Seg.alloc (h : Seg w e size A n c xs G) (o : Obj) : Seg (w.alloc o) e size A n c xs G := h.keep fun g hg => Below.heap_alloc w o g (h.lt g hg)
theorem Seg.far (h : Seg w e size A n c xs G) {p : Addr} (hp : G ≠ some p.block) (u : Value) : Seg (w.setCell p u) e size A n c xs G :=
  h.keep fun g hg => Below.heap_setCell w p u g (fun e => hp (by rw [hg, e]))
theorem Seg.ne_ {b : Nat} {t : TypeId} {cs : Array Value} (h : Seg w e size A n c xs G) (hb : CB w b t cs) (hne : e ≠ t) : G ≠ some b := by
  rcases h.2.2.2 with ⟨_, _, rfl⟩ | ⟨g, off, cur, _, rfl, h3, _⟩
  · simp
  · intro he
    cases he
    exact h3.ne_ hb hne rfl
theorem Seg.at_ (h : Seg w e size A n c xs G) {j : Nat} {u : Value} (hu : xs[j]? = some u) : ∃ g off, A = some ⟨g, off, none⟩ ∧ G = some g ∧ w.cell? ⟨g, off + j, none⟩ = some u := by
  rcases h.2.2.2 with ⟨_, h0, _⟩ | ⟨g, off, cur, h1, h2, h3, _, h4⟩
  · have := h.1
    have hn := h.2.1
    obtain rfl : n = 0 := by omega
    obtain rfl : xs = [] := List.eq_nil_of_length_eq_zero (by simpa using this)
    simp at hu
  · exact ⟨g, off, h1, h2, by rw [h3.cell]; exact h4 j u hu⟩
theorem Seg.cut (h : Seg w e size A n c xs G) {k : Nat} (hk : k ≤ n) : Seg w e size (if c = k then A else A.map (·.add (k * size))) (n - k) (c - k) (xs.drop (k * size)) G := by
  refine ⟨by rw [List.length_drop, h.1, Nat.sub_mul], by have := h.2.1; omega, by have := h.2.2.1; omega, ?_⟩
  rcases h.2.2.2 with ⟨rfl, rfl, rfl⟩ | ⟨g, off, cur, rfl, rfl, h3, h4, h5⟩
  · exact .inl ⟨by split <;> rfl, by omega, rfl⟩
  · by_cases hc : c = k
    · refine .inr ⟨g, off, cur, by rw [if_pos hc], rfl, h3, by subst hc; simp; omega, fun j u hu => ?_⟩
      have hz : n = k := by have := h.2.1; omega
      have : xs.drop (k * size) = [] := List.drop_eq_nil_of_le (by rw [h.1, hz]; exact Nat.le_refl _)
      rw [this] at hu
      simp at hu
    · refine .inr ⟨g, off + k * size, cur, by rw [if_neg hc]; simp [Addr.add_lit], rfl, h3, ?_, fun j u hu => ?_⟩
      · have : k * size + (c - k) * size = c * size := by rw [← Nat.add_mul]; congr 1; have := h.2.1; omega
        omega
      · rw [Nat.add_assoc]
        exact h5 _ u (by rw [← hu, List.getElem?_drop])
theorem Seg.upto (h : Seg w e size A n c xs G) {k : Nat} (hk : k ≤ n) : Seg w e size A k c (xs.take (k * size)) G := by
  refine ⟨by rw [List.length_take, h.1]; exact Nat.min_eq_left (Nat.mul_le_mul_right _ hk), by have := h.2.1; omega, h.2.2.1, ?_⟩
  rcases h.2.2.2 with h0 | ⟨g, off, cur, h1, h2, h3, h4, h5⟩
  · exact .inl h0
  · refine .inr ⟨g, off, cur, h1, h2, h3, h4, fun j u hu => h5 j u ?_⟩
    rw [List.getElem?_take] at hu
    split at hu
    · exact hu
    · cases hu
theorem Seg.of_own {base m : Nat} {v : Value} (h : w.ownsRow base e size v m xs) (hm : 0 < m) : ∃ g c', v = .slice (some ⟨g, 0, none⟩) m c' ∧ base ≤ g ∧ Seg w e size (some ⟨g, 0, none⟩) m c' xs (some g) := by
  obtain ⟨h1, h2⟩ := h
  rcases h2 with ⟨_, h0⟩ | ⟨g, cap, cur, rfl, hb, hg, hc, hx, hs, ht⟩
  · omega
  · refine ⟨g, cap, rfl, hb, h1, hc, hx, .inr ⟨g, 0, cur, rfl, rfl, hg, by omega, fun j u hu => ?_⟩⟩
    rw [Nat.zero_add]
    rw [← ht, List.getElem?_take] at hu
    split at hu
    · simpa using hu
    · cases hu
end

/-- What a step may do to the block of a slice: it stays, or a new block takes its place. -/
def Moved (w : World) (G G' : Option Nat) : Prop := G' = G ∨ ∃ g, G' = some g ∧ w.heap.size ≤ g

theorem Moved.refl (w : World) (G : Option Nat) : Moved w G G := .inl rfl
theorem Moved.trans {w w1 : World} {G G1 G2 : Option Nat} (h : Moved w G G1) (k : Moved w1 G1 G2) (hs : w.heap.size ≤ w1.heap.size) : Moved w G G2 := by
  rcases k with rfl | ⟨g, rfl, hg⟩
  · exact h
  · exact .inr ⟨g, rfl, by omega⟩

section
variable {P : Program} (w : World)
theorem run_append_seg (t ty e : TypeId) (i : TypeInfo) (z : Value) (size bytes : Nat) (ht : P.underlying t = some (.slice e)) (hi : P.info? e = some i) (hz : i.zero = some z)
    (hsize : i.size = size) (hby : i.bytes = bytes) (hzs : z.cells.size = size) (hsz : 0 < size)
    {A : Option Addr} {n c : Nat} {xs : List Value} {G : Option Nat} (h : Seg w e size A n c xs G)
    (ad : Addr) (m k : Nat) (news : List Value) (hl : news.length = m * size) (hnews : ∀ j u, news[j]? = some u → w.cell? (ad.add j) = some u) (h1 : ∀ u ∈ news, u.oneCell' = true) (hm : 0 < m)
    (h63 : n + m ≤ maxLen) (hbytes : (n + m) * bytes ≤ 140737488355328) :
    ∃ A' c' G' w', (Builtin.append_ #[t, t] ty #[.slice A n c, .slice (some ad) m k]).run P w = .ok (.slice A' (n + m) c') w' ∧ Seg w' e size A' (n + m) c' (xs ++ news) G' ∧ w.grownBy w' G ∧ Moved w G G' := by
  have hlen := h.1
  have hnc := h.2.1
  have hcm := h.2.2.1
  rcases h.2.2.2 with ⟨rfl, rfl, rfl⟩ | ⟨g, off, cur, rfl, rfl, hb, hfit, hcells⟩
  · obtain rfl : n = 0 := by omega
    obtain rfl : xs = [] := List.eq_nil_of_length_eq_zero (by simpa using hlen)
    obtain ⟨v', w', hrun, r1, r2, _⟩ := run_append_own (P := P) w w.heap.size t ty e i z size bytes ht hi hz hsize hby hzs hsz (.slice none 0 0) 0 [] (World.ownsRow_nil w _ e size) ad m k news hl hnews h1 h63 hbytes (Nat.le_refl _)
    obtain ⟨g, c', rfl, hg, hs⟩ := Seg.of_own r1 (by omega)
    exact ⟨_, c', some g, w', hrun, hs, r2, .inr ⟨g, rfl, hg⟩⟩
  · by_cases hr : n + m ≤ c
    · subst hsize
      have hroom : off + n * i.size + news.length ≤ cur.size := by
        have : (n + m) * i.size ≤ c * i.size := Nat.mul_le_mul_right _ hr
        rw [Nat.add_mul] at this
        omega
      have hrun := run_append_room_cells (P := P) w t ty e i ht hi g off n c ad m k news hl hnews h1 hr (fun j hj => by rw [hb.cell]; rw [Array.getElem?_eq_getElem (by omega)]; rfl) (fun j _ => hb.frozen _)
      obtain ⟨cs', k1, k2, k3, k4⟩ := hb.puts news (off + n * i.size) hroom
      refine ⟨_, c, some g, _, hrun, ⟨by rw [List.length_append, hlen, hl, Nat.add_mul], hr, hcm, .inr ⟨g, off, cs', rfl, rfl, k1, by rw [k2]; exact hfit, fun j u hu => ?_⟩⟩, ?_, .inl rfl⟩
      · by_cases hj : j < xs.length
        · rw [List.getElem?_append_left hj] at hu
          rw [k4 _ (by omega)]
          exact hcells j u hu
        · rw [List.getElem?_append_right (by omega)] at hu
          have hjl : j - xs.length < news.length := (List.getElem?_eq_some_iff.1 hu).1
          have := k3 (j - xs.length) hjl
          rw [show off + n * i.size + (j - xs.length) = off + j by omega] at this
          rw [this]
          exact hu
      · exact setCells_grown g news _ w
    · obtain ⟨v', w', hrun, r1, r2⟩ := run_append_arg_grows (P := P) w t ty e i z size bytes ht hi hz hsize hby hzs hsz ⟨g, off, none⟩ n c xs hlen (fun j u hj => by rw [Addr.add_lit, hb.cell]; exact hcells j u hj) ad m k news hl hnews (by omega) h63 hbytes
      obtain ⟨g', c', rfl, hg, hs⟩ := Seg.of_own r1 (by omega)
      exact ⟨_, c', some g', w', hrun, hs, ⟨r2.os, r2.tape, r2.output, r2.size, fun q hq _ => r2.block q hq (by simp)⟩, .inr ⟨g', rfl, hg⟩⟩

/-- The append as one step of a walk. -/
theorem wpList_append_seg {ops : Array Oper} {rest : List Oper} {o : Oper} {a : Act} {Q : Exit → Act → World → Prop} (hgd : o.guard = none) (s x : Operand) (t : TypeId)
    (ho : o.op = .call { callee := .builtin .append, args := #[s, x], argTypes := #[t, t] })
    (e : TypeId) (i : TypeInfo) (z : Value) (size bytes : Nat) (ht : P.underlying t = some (.slice e)) (hi : P.info? e = some i) (hz : i.zero = some z)
    (hsize : i.size = size) (hby : i.bytes = bytes) (hzs : z.cells.size = size) (hsz : 0 < size)
    {A : Option Addr} {n c : Nat} {xs : List Value} {G : Option Nat} (hs : a.eval s = .slice A n c) (hseg : Seg w e size A n c xs G)
    (ad : Addr) (m k : Nat) (news : List Value) (hx : a.eval x = .slice (some ad) m k) (hl : news.length = m * size) (hnews : ∀ j u, news[j]? = some u → w.cell? (ad.add j) = some u) (h1 : ∀ u ∈ news, u.oneCell' = true) (hm : 0 < m)
    (h63 : n + m ≤ maxLen) (hbytes : (n + m) * bytes ≤ 140737488355328)
    (h : ∀ A' c' G' w', Seg w' e size A' (n + m) c' (xs ++ news) G' → w.grownBy w' G → Moved w G G' → wpList P ops Q rest (a.put o.dst (.slice A' (n + m) c')) w') : wpList P ops Q (o :: rest) a w := by
  obtain ⟨A', c', G', w', hrun, h2, h3, h4⟩ := run_append_seg (P := P) w t o.type e i z size bytes ht hi hz hsize hby hzs hsz hseg ad m k news hl hnews h1 hm h63 hbytes
  refine wpList_plain hgd fun K hK' => ?_
  unfold Oper.wp
  simp [execOp, ho, resolve, invoke, builtin, hs, hx, hrun, Result.andThen]
  exact hK' _ _ (h A' c' G' w' h2 h3 h4)

/-- 'clear' of the first m elements. -/
theorem run_clear_seg (t e : TypeId) (z : Value) (ht : P.underlying t = some (.slice e)) (hv : ∀ w, (zeroValue e).run P w = .ok z w) (hone : ∀ u ∈ z.cells, u.oneCell' = true)
    {A : Option Addr} {n c : Nat} {xs : List Value} {G : Option Nat} (h : Seg w e z.cells.size A n c xs G) (m : Nat) (hm : m ≤ n) (hpos : 0 < z.cells.size) :
    ∃ w' ys, (∀ ty k, (Builtin.clear_ #[t] ty #[.slice A m k]).run P w = .ok (.tuple #[]) w') ∧ Seg w' e z.cells.size A n c (ys ++ xs.drop (m * z.cells.size)) G ∧ ys.length = m * z.cells.size ∧ w.grownBy w' G := by
  have hlen := h.1
  rcases h.2.2.2 with ⟨rfl, rfl, rfl⟩ | ⟨g, off, cur, rfl, rfl, hb, hfit, hcells⟩
  · obtain rfl : n = 0 := by have := h.2.1; omega
    obtain rfl : m = 0 := by omega
    refine ⟨w, [], fun ty k => by simp [Builtin.clear_, run_underlying ht], by simpa using h, by simp, World.grownBy.refl w _⟩
  · by_cases h0 : m = 0
    · subst h0
      refine ⟨w, [], fun ty k => by simp [Builtin.clear_, run_underlying ht], by simpa using h, by simp, World.grownBy.refl w _⟩
    · have hzl : (Builtin.zeroCells z.cells m).toList.length = m * z.cells.size := by simp [Builtin.zeroCells]
      have hmc : m * z.cells.size ≤ c * z.cells.size := Nat.mul_le_mul_right _ (Nat.le_trans hm h.2.1)
      have hmn : m * z.cells.size ≤ xs.length := by rw [hlen]; exact Nat.mul_le_mul_right _ hm
      have hst := run_storeCells_cells (P := P) g off (Builtin.zeroCells z.cells m).toList 0 w (fun j hj => by rw [hb.cell, Array.getElem?_eq_getElem (by omega)]; rfl) (fun j _ => hb.frozen _) (by
        intro u hu
        simp only [Builtin.zeroCells, Array.toList_map, List.mem_map] at hu
        obtain ⟨j, _, rfl⟩ := hu
        rw [getElem!_pos z.cells _ (Nat.mod_lt _ hpos)]
        exact hone _ (Array.getElem_mem _))
      simp only [Nat.add_zero] at hst
      obtain ⟨cs', k1, k2, k3, k4⟩ := hb.puts (Builtin.zeroCells z.cells m).toList off (by omega)
      refine ⟨_, (Builtin.zeroCells z.cells m).toList, fun ty k => ?_, ⟨by rw [List.length_append, hzl, List.length_drop, hlen]; omega, h.2.1, h.2.2.1, .inr ⟨g, off, cs', rfl, rfl, k1, by rw [k2]; exact hfit, fun j u hu => ?_⟩⟩, hzl, setCells_grown g _ _ w⟩
      · obtain ⟨q, rfl⟩ : ∃ q, m = q + 1 := ⟨m - 1, by omega⟩
        simp [Builtin.clear_, run_underlying ht, hv, hst]
      · by_cases hj : j < m * z.cells.size
        · rw [List.getElem?_append_left (by omega)] at hu
          rw [k3 j (by omega)]
          exact hu
        · rw [List.getElem?_append_right (by omega), List.getElem?_drop, hzl, show m * z.cells.size + (j - m * z.cells.size) = j by omega] at hu
          rw [k4 _ (by omega)]
          exact hcells j u hu
end
end Go.Proofs.Ytcfdfimkgehdfaa
