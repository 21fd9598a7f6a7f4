/-
  Plain facts on memory: a block of cells that is known whole; a slice that reads as a list of cells inside such a block, at any place of it; what append, clear and a cut do to such a slice. No condition on the program but the facts on its types that each theorem names.
-/
import Derived.Below
import Derived.Laws.OwnMore
import Derived.Laws.Rows
import Derived.ArgAppend
import Derived.Deep.Draws
import Derived.Lib.SliceRun
import Derived.Laws.IdiomCopy
import Derived.RegionTactic
import Derived.Deep.RegionLaw
import Derived.Test.YtfdboahcaiolgaaRows
import Derived.Test.YtfdboahcaiolgaaMgM
import Derived.WalkKit
import Derived.WalkSpells
import Derived.WalkLawsBesides
import Derived.Deep.QuietTactic
import Derived.BigQuiet
import Derived.Lib.Hide
import Derived.IntWalk
import Derived.StillTailTactics
import Derived.Laws.BitsAllLaws
import Derived.Lib.AppendStr
import Derived.Laws.MakeOwn
import Derived.Lib.ConvBytes
import Derived.Deep.RegionHeld3
namespace Go.Proofs.Ytfdboahcaiolgaa.Dk
set_option maxRecDepth 100000
open Go.RowKit

/-- Block g is just the cells cs, of element type t; none of it is frozen. -/
def CB (w : World) (g : Nat) (t : TypeId) (cs : Array Value) : Prop := w.heap[g]? = some (.cells cs t (0, 0))

section
variable {w w' : World} {g : Nat} {t : TypeId} {cs : Array Value}
theorem CB.lt (h : CB w g t cs) : g < w.heap.size := (Array.getElem?_eq_some_iff.1 h).1
theorem CB.cell (h : CB w g t cs) (i : Nat) : w.cell? ⟨g, i, none⟩ = cs[i]? := cell_of_row w g i cs t (0, 0) h
theorem CB.frozen (h : CB w g t cs) (i : Nat) : w.frozen? ⟨g, i, none⟩ = false := by
  unfold CB at h
  simp [World.frozen?, h]
theorem CB.new (w : World) (t : TypeId) (cs : Array Value) : CB (w.alloc (.cells cs t)) w.heap.size t cs := heap_alloc_new w _
theorem CB.drew (h : CB w g t cs) : CB w.drew g t cs := h
theorem CB.drewN (h : CB w g t cs) (n : Nat) : CB (w.drewN n) g t cs := h
theorem CB.alloc (h : CB w g t cs) (o : Obj) : CB (w.alloc o) g t cs := (Below.heap_alloc w o g h.lt).trans h
theorem CB.put (h : CB w g t cs) (i : Nat) (u : Value) : CB (w.setCell ⟨g, i, none⟩ u) g t (cs.setIfInBounds i u) := by
  unfold CB at h ⊢
  simp [World.setCell, Array.getElem?_modify, h]
theorem CB.far (h : CB w g t cs) {p : Addr} (hp : g ≠ p.block) (u : Value) : CB (w.setCell p u) g t cs := (Below.heap_setCell w p u g hp).trans h
theorem CB.same (h : CB w g t cs) (he : w'.heap[g]? = w.heap[g]?) : CB w' g t cs := he.trans h
theorem CB.ne_ {g' : Nat} {t' : TypeId} {cs' : Array Value} (h : CB w g t cs) (h' : CB w g' t' cs') (hne : t ≠ t') : g ≠ g' := by
  rintro rfl
  unfold CB at h h'
  rw [h] at h'
  injection h' with h'
  injection h' with _ ht
  exact hne ht
theorem CB.puts (h : CB w g t cs) : ∀ (vs : List Value) (o : Nat), o + vs.length ≤ cs.size →
    ∃ cs' : Array Value, CB (w.setCells g o vs) g t cs' ∧ cs'.size = cs.size ∧ (∀ j, j < vs.length → cs'[o + j]? = vs[j]?) ∧ ∀ j, j < o ∨ o + vs.length ≤ j → cs'[j]? = cs[j]? := by
  intro vs
  induction vs generalizing w cs with
  | nil => exact fun o _ => ⟨cs, h, rfl, fun j hj => absurd hj (by simp), fun _ _ => rfl⟩
  | cons v r ih =>
    intro o ho
    simp only [List.length_cons] at ho
    obtain ⟨cs', h1, h2, h3, h4⟩ := ih (h.put o v) (o + 1) (by simp; omega)
    refine ⟨cs', h1, by simpa using h2, fun j hj => ?_, fun j hj => ?_⟩
    · match j with
      | 0 =>
        rw [h4 (o + 0) (by omega)]
        simp [Array.getElem?_setIfInBounds]
        omega
      | k + 1 =>
        rw [show o + (k + 1) = o + 1 + k by omega, h3 k (by simpa using hj)]
        simp
    · rw [h4 j (by simp at hj; omega), Array.getElem?_setIfInBounds, if_neg (by simp at hj; omega)]
end

theorem setCells_grown (g : Nat) : ∀ (vs : List Value) (o : Nat) (w : World), w.grownBy (w.setCells g o vs) (some g)
  | [], _, w => World.grownBy.refl w _
  | v :: r, o, w => by
    have ih := setCells_grown g r (o + 1) (w.setCell ⟨g, o, none⟩ v)
    exact ⟨ih.os, ih.tape, ih.output, Nat.le_trans (by simp [World.setCell]) ih.size, fun k hk hne => (ih.block k (by simpa [World.setCell] using hk) hne).trans (Below.heap_setCell w _ v k (fun e => hne (by rw [e])))⟩

/-- The world w' is w with new blocks, but for what stands in block b and in block G. -/
structure Only (w w' : World) (b : Nat) (G : Option Nat) : Prop where
  os : w'.os = w.os
  tape : w'.tape = w.tape
  output : w'.output = w.output
  size : w.heap.size ≤ w'.heap.size
  block : ∀ i, i < w.heap.size → i ≠ b → some i ≠ G → w'.heap[i]? = w.heap[i]?

theorem Only.refl (w : World) (b : Nat) (G : Option Nat) : Only w w b G := ⟨rfl, rfl, rfl, Nat.le_refl _, fun _ _ _ _ => rfl⟩
theorem Only.drewN {w w' : World} {b : Nat} {G : Option Nat} (h : Only w w' b G) (n : Nat) : Only w (w'.drewN n) b G := ⟨h.os, h.tape, h.output, h.size, h.block⟩
theorem Only.drew {w w' : World} {b : Nat} {G : Option Nat} (h : Only w w' b G) : Only w w'.drew b G := ⟨h.os, h.tape, h.output, h.size, h.block⟩
theorem Only.alloc {w w' : World} {b : Nat} {G : Option Nat} (h : Only w w' b G) (o : Obj) : Only w (w'.alloc o) b G :=
  ⟨h.os, h.tape, h.output, Nat.le_trans h.size (by simp), fun i hi h1 h2 => (Below.heap_alloc w' o i (Nat.lt_of_lt_of_le hi h.size)).trans (h.block i hi h1 h2)⟩
theorem Only.put {w w' : World} {b : Nat} {G : Option Nat} (h : Only w w' b G) {p : Addr} (hp : p.block = b ∨ some p.block = G ∨ w.heap.size ≤ p.block) (u : Value) : Only w (w'.setCell p u) b G :=
  ⟨h.os, h.tape, h.output, by simpa [World.setCell] using h.size, fun i hi h1 h2 => (Below.heap_setCell w' p u i (by
    rintro rfl
    rcases hp with hp | hp | hp
    · exact h1 hp
    · exact h2 hp
    · omega)).trans (h.block i hi h1 h2)⟩
theorem Only.grown {w w' w'' : World} {b : Nat} {G G' : Option Nat} (h : Only w w' b G) (hg : w'.grownBy w'' G') (hG : ∀ k, G' = some k → G = some k ∨ w.heap.size ≤ k) : Only w w'' b G :=
  ⟨hg.os.trans h.os, hg.tape.trans h.tape, hg.output.trans h.output, Nat.le_trans h.size hg.size, fun i hi h1 h2 => (hg.block i (Nat.lt_of_lt_of_le hi h.size) (by
    rintro he
    rcases hG i he.symm with e | e
    · exact h2 e.symm
    · omega)).trans (h.block i hi h1 h2)⟩
theorem Only.trans {w w' w'' : World} {b : Nat} {G G' : Option Nat} (h : Only w w' b G) (k : Only w' w'' b G') (hG : ∀ i, G' = some i → G = some i ∨ w.heap.size ≤ i) : Only w w'' b G :=
  ⟨k.os.trans h.os, k.tape.trans h.tape, k.output.trans h.output, Nat.le_trans h.size k.size, fun i hi h1 h2 => (k.block i (Nat.lt_of_lt_of_le hi h.size) h1 (by
    rintro he
    rcases hG i he.symm with e | e
    · exact h2 e.symm
    · omega)).trans (h.block i hi h1 h2)⟩
theorem Only.below {w w' : World} {b : Nat} {G : Option Nat} (h : Only w w' b G) {B : Nat} (hB : B ≤ w.heap.size) (hb : B ≤ b) (hG : ∀ i, G = some i → B ≤ i) : Below B w w' :=
  ⟨h.os, h.tape, h.output, h.size, fun i hi => h.block i (by omega) (by omega) (fun e => by have := hG i e.symm; omega)⟩
theorem Only.cb {w w' : World} {b : Nat} {G : Option Nat} (h : Only w w' b G) {g : Nat} {t : TypeId} {cs : Array Value} (hc : CB w g t cs) (h1 : g ≠ b) (h2 : some g ≠ G) : CB w' g t cs := hc.same (h.block g hc.lt h1 h2)

/-- The slice '.slice A n c' holds the cells xs ('size' for each element): it is nil, or it lies in block G, not frozen, with room for c elements. -/
def Seg (w : World) (e : TypeId) (size : Nat) (A : Option Addr) (n c : Nat) (xs : List Value) (G : Option Nat) : Prop :=
  xs.length = n * size ∧ n ≤ c ∧ c ≤ maxLen ∧
  ((A = none ∧ c = 0 ∧ G = none) ∨
   ∃ g off cur, A = some ⟨g, off, none⟩ ∧ G = some g ∧ CB w g e cur ∧ off + c * size ≤ cur.size ∧ ∀ j u, xs[j]? = some u → cur[off + j]? = some u)

section
variable {w w' : World} {e : TypeId} {size : Nat} {A : Option Addr} {n c : Nat} {xs : List Value} {G : Option Nat}
theorem Seg.nil (w : World) (e : TypeId) (size : Nat) : Seg w e size none 0 0 [] none := ⟨by simp, Nat.le_refl _, Nat.zero_le _, .inl ⟨rfl, rfl, rfl⟩⟩
theorem Seg.lt (h : Seg w e size A n c xs G) : ∀ g, G = some g → g < w.heap.size := by
  rintro g rfl
  rcases h.2.2.2 with ⟨_, _, h⟩ | ⟨g', off, cur, _, h, hb, _⟩
  · cases h
  · cases h
    exact hb.lt
theorem Seg.keep (h : Seg w e size A n c xs G) (hk : ∀ g, G = some g → w'.heap[g]? = w.heap[g]?) : Seg w' e size A n c xs G := by
  refine ⟨h.1, h.2.1, h.2.2.1, ?_⟩
  rcases h.2.2.2 with h0 | ⟨g, off, cur, h1, h2, h3, h4⟩
  · exact .inl h0
  · exact .inr ⟨g, off, cur, h1, h2, h3.same (hk g h2), h4⟩
theorem Seg.drew (h : Seg w e size A n c xs G) : Seg w.drew e size A n c xs G := h
theorem Seg.drewN (h : Seg w e size A n c xs G) (k : Nat) : Seg (w.drewN k) e size A n c xs G := h
theorem Seg.alloc (h : Seg w e size A n c xs G) (o : Obj) : Seg (w.alloc o) e size A n c xs G := h.keep fun g hg => Below.heap_alloc w o g (h.lt g hg)
theorem Seg.far (h : Seg w e size A n c xs G) {p : Addr} (hp : G ≠ some p.block) (u : Value) : Seg (w.setCell p u) e size A n c xs G :=
  h.keep fun g hg => Below.heap_setCell w p u g (fun e => hp (by rw [hg, e]))
theorem Seg.ne_ {b : Nat} {t : TypeId} {cs : Array Value} (h : Seg w e size A n c xs G) (hb : CB w b t cs) (hne : e ≠ t) : G ≠ some b := by
  rcases h.2.2.2 with ⟨_, _, rfl⟩ | ⟨g, off, cur, _, rfl, h3, _⟩
  · simp
  · intro he
    cases he
    exact h3.ne_ hb hne rfl
theorem Seg.at_ (h : Seg w e size A n c xs G) {j : Nat} {u : Value} (hu : xs[j]? = some u) : ∃ g off, A = some ⟨g, off, none⟩ ∧ G = some g ∧ w.cell? ⟨g, off + j, none⟩ = some u := by
  rcases h.2.2.2 with ⟨_, h0, _⟩ | ⟨g, off, cur, h1, h2, h3, _, h4⟩
  · have := h.1
    have hn := h.2.1
    obtain rfl : n = 0 := by omega
    obtain rfl : xs = [] := List.eq_nil_of_length_eq_zero (by simpa using this)
    simp at hu
  · exact ⟨g, off, h1, h2, by rw [h3.cell]; exact h4 j u hu⟩
theorem Seg.cut (h : Seg w e size A n c xs G) {k : Nat} (hk : k ≤ n) : Seg w e size (if c = k then A else A.map (·.add (k * size))) (n - k) (c - k) (xs.drop (k * size)) G := by
  refine ⟨by rw [List.length_drop, h.1, Nat.sub_mul], by have := h.2.1; omega, by have := h.2.2.1; omega, ?_⟩
  rcases h.2.2.2 with ⟨rfl, rfl, rfl⟩ | ⟨g, off, cur, rfl, rfl, h3, h4, h5⟩
  · exact .inl ⟨by split <;> rfl, by omega, rfl⟩
  · by_cases hc : c = k
    · refine .inr ⟨g, off, cur, by rw [if_pos hc], rfl, h3, by subst hc; simp; omega, fun j u hu => ?_⟩
      have hz : n = k := by have := h.2.1; omega
      have : xs.drop (k * size) = [] := List.drop_eq_nil_of_le (by rw [h.1, hz]; exact Nat.le_refl _)
      rw [this] at hu
      simp at hu
    · refine .inr ⟨g, off + k * size, cur, by rw [if_neg hc]; simp [Addr.add_lit], rfl, h3, ?_, fun j u hu => ?_⟩
      · have : k * size + (c - k) * size = c * size := by rw [← Nat.add_mul]; congr 1; have := h.2.1; omega
        omega
      · rw [Nat.add_assoc]
        exact h5 _ u (by rw [← hu, List.getElem?_drop])
theorem Seg.upto (h : Seg w e size A n c xs G) {k : Nat} (hk : k ≤ n) : Seg w e size A k c (xs.take (k * size)) G := by
  refine ⟨by rw [List.length_take, h.1]; exact Nat.min_eq_left (Nat.mul_le_mul_right _ hk), by have := h.2.1; omega, h.2.2.1, ?_⟩
  rcases h.2.2.2 with h0 | ⟨g, off, cur, h1, h2, h3, h4, h5⟩
  · exact .inl h0
  · refine .inr ⟨g, off, cur, h1, h2, h3, h4, fun j u hu => h5 j u ?_⟩
    rw [List.getElem?_take] at hu
    split at hu
    · exact hu
    · cases hu
theorem Seg.of_own {base m : Nat} {v : Value} (h : w.ownsRow base e size v m xs) (hm : 0 < m) : ∃ g c', v = .slice (some ⟨g, 0, none⟩) m c' ∧ base ≤ g ∧ Seg w e size (some ⟨g, 0, none⟩) m c' xs (some g) := by
  obtain ⟨h1, h2⟩ := h
  rcases h2 with ⟨_, h0⟩ | ⟨g, cap, cur, rfl, hb, hg, hc, hx, hs, ht⟩
  · omega
  · refine ⟨g, cap, rfl, hb, h1, hc, hx, .inr ⟨g, 0, cur, rfl, rfl, hg, by omega, fun j u hu => ?_⟩⟩
    rw [Nat.zero_add]
    rw [← ht, List.getElem?_take] at hu
    split at hu
    · simpa using hu
    · cases hu
end

/-- What a step may do to the block of a slice: it stays, or a new block takes its place. -/
def Moved (w : World) (G G' : Option Nat) : Prop := G' = G ∨ ∃ g, G' = some g ∧ w.heap.size ≤ g

theorem Moved.refl (w : World) (G : Option Nat) : Moved w G G := .inl rfl
theorem Moved.trans {w w1 : World} {G G1 G2 : Option Nat} (h : Moved w G G1) (k : Moved w1 G1 G2) (hs : w.heap.size ≤ w1.heap.size) : Moved w G G2 := by
  rcases k with rfl | ⟨g, rfl, hg⟩
  · exact h
  · exact .inr ⟨g, rfl, by omega⟩

section
variable {P : Program} (w : World)
theorem run_append_seg (t ty e : TypeId) (i : TypeInfo) (z : Value) (size bytes : Nat) (ht : P.underlying t = some (.slice e)) (hi : P.info? e = some i) (hz : i.zero = some z)
    (hsize : i.size = size) (hby : i.bytes = bytes) (hzs : z.cells.size = size) (hsz : 0 < size)
    {A : Option Addr} {n c : Nat} {xs : List Value} {G : Option Nat} (h : Seg w e size A n c xs G)
    (ad : Addr) (m k : Nat) (news : List Value) (hl : news.length = m * size) (hnews : ∀ j u, news[j]? = some u → w.cell? (ad.add j) = some u) (h1 : ∀ u ∈ news, u.oneCell' = true) (hm : 0 < m)
    (h63 : n + m ≤ maxLen) (hbytes : (n + m) * bytes ≤ 140737488355328) :
    ∃ A' c' G' w', (Builtin.append_ #[t, t] ty #[.slice A n c, .slice (some ad) m k]).run P w = .ok (.slice A' (n + m) c') w' ∧ Seg w' e size A' (n + m) c' (xs ++ news) G' ∧ w.grownBy w' G ∧ Moved w G G' := by
  have hlen := h.1
  have hnc := h.2.1
  have hcm := h.2.2.1
  rcases h.2.2.2 with ⟨rfl, rfl, rfl⟩ | ⟨g, off, cur, rfl, rfl, hb, hfit, hcells⟩
  · obtain rfl : n = 0 := by omega
    obtain rfl : xs = [] := List.eq_nil_of_length_eq_zero (by simpa using hlen)
    obtain ⟨v', w', hrun, r1, r2, _⟩ := run_append_own (P := P) w w.heap.size t ty e i z size bytes ht hi hz hsize hby hzs hsz (.slice none 0 0) 0 [] (World.ownsRow_nil w _ e size) ad m k news hl hnews h1 h63 hbytes (Nat.le_refl _)
    obtain ⟨g, c', rfl, hg, hs⟩ := Seg.of_own r1 (by omega)
    exact ⟨_, c', some g, w', hrun, hs, r2, .inr ⟨g, rfl, hg⟩⟩
  · by_cases hr : n + m ≤ c
    · subst hsize
      have hroom : off + n * i.size + news.length ≤ cur.size := by
        have : (n + m) * i.size ≤ c * i.size := Nat.mul_le_mul_right _ hr
        rw [Nat.add_mul] at this
        omega
      have hrun := run_append_room_cells (P := P) w t ty e i ht hi g off n c ad m k news hl hnews h1 hr (fun j hj => by rw [hb.cell]; rw [Array.getElem?_eq_getElem (by omega)]; rfl) (fun j _ => hb.frozen _)
      obtain ⟨cs', k1, k2, k3, k4⟩ := hb.puts news (off + n * i.size) hroom
      refine ⟨_, c, some g, _, hrun, ⟨by rw [List.length_append, hlen, hl, Nat.add_mul], hr, hcm, .inr ⟨g, off, cs', rfl, rfl, k1, by rw [k2]; exact hfit, fun j u hu => ?_⟩⟩, ?_, .inl rfl⟩
      · by_cases hj : j < xs.length
        · rw [List.getElem?_append_left hj] at hu
          rw [k4 _ (by omega)]
          exact hcells j u hu
        · rw [List.getElem?_append_right (by omega)] at hu
          have hjl : j - xs.length < news.length := (List.getElem?_eq_some_iff.1 hu).1
          have := k3 (j - xs.length) hjl
          rw [show off + n * i.size + (j - xs.length) = off + j by omega] at this
          rw [this]
          exact hu
      · exact setCells_grown g news _ w
    · obtain ⟨v', w', hrun, r1, r2⟩ := run_append_arg_grows (P := P) w t ty e i z size bytes ht hi hz hsize hby hzs hsz ⟨g, off, none⟩ n c xs hlen (fun j u hj => by rw [Addr.add_lit, hb.cell]; exact hcells j u hj) ad m k news hl hnews (by omega) h63 hbytes
      obtain ⟨g', c', rfl, hg, hs⟩ := Seg.of_own r1 (by omega)
      exact ⟨_, c', some g', w', hrun, hs, ⟨r2.os, r2.tape, r2.output, r2.size, fun q hq _ => r2.block q hq (by simp)⟩, .inr ⟨g', rfl, hg⟩⟩

/-- The append as one step of a walk. -/
theorem wpList_append_seg {ops : Array Oper} {rest : List Oper} {o : Oper} {a : Act} {Q : Exit → Act → World → Prop} (hgd : o.guard = none) (s x : Operand) (t : TypeId)
    (ho : o.op = .call { callee := .builtin .append, args := #[s, x], argTypes := #[t, t] })
    (e : TypeId) (i : TypeInfo) (z : Value) (size bytes : Nat) (ht : P.underlying t = some (.slice e)) (hi : P.info? e = some i) (hz : i.zero = some z)
    (hsize : i.size = size) (hby : i.bytes = bytes) (hzs : z.cells.size = size) (hsz : 0 < size)
    {A : Option Addr} {n c : Nat} {xs : List Value} {G : Option Nat} (hs : a.eval s = .slice A n c) (hseg : Seg w e size A n c xs G)
    (ad : Addr) (m k : Nat) (news : List Value) (hx : a.eval x = .slice (some ad) m k) (hl : news.length = m * size) (hnews : ∀ j u, news[j]? = some u → w.cell? (ad.add j) = some u) (h1 : ∀ u ∈ news, u.oneCell' = true) (hm : 0 < m)
    (h63 : n + m ≤ maxLen) (hbytes : (n + m) * bytes ≤ 140737488355328)
    (h : ∀ A' c' G' w', Seg w' e size A' (n + m) c' (xs ++ news) G' → w.grownBy w' G → Moved w G G' → wpList P ops Q rest (a.put o.dst (.slice A' (n + m) c')) w') : wpList P ops Q (o :: rest) a w := by
  obtain ⟨A', c', G', w', hrun, h2, h3, h4⟩ := run_append_seg (P := P) w t o.type e i z size bytes ht hi hz hsize hby hzs hsz hseg ad m k news hl hnews h1 hm h63 hbytes
  refine wpList_plain hgd fun K hK' => ?_
  unfold Oper.wp
  simp [execOp, ho, resolve, invoke, builtin, hs, hx, hrun, Result.andThen]
  exact hK' _ _ (h A' c' G' w' h2 h3 h4)

/-- 'clear' of the first m elements. -/
theorem run_clear_seg (t e : TypeId) (z : Value) (ht : P.underlying t = some (.slice e)) (hv : ∀ w, (zeroValue e).run P w = .ok z w) (hone : ∀ u ∈ z.cells, u.oneCell' = true)
    {A : Option Addr} {n c : Nat} {xs : List Value} {G : Option Nat} (h : Seg w e z.cells.size A n c xs G) (m : Nat) (hm : m ≤ n) (hpos : 0 < z.cells.size) :
    ∃ w' ys, (∀ ty k, (Builtin.clear_ #[t] ty #[.slice A m k]).run P w = .ok (.tuple #[]) w') ∧ Seg w' e z.cells.size A n c (ys ++ xs.drop (m * z.cells.size)) G ∧ ys.length = m * z.cells.size ∧ w.grownBy w' G := by
  have hlen := h.1
  rcases h.2.2.2 with ⟨rfl, rfl, rfl⟩ | ⟨g, off, cur, rfl, rfl, hb, hfit, hcells⟩
  · obtain rfl : n = 0 := by have := h.2.1; omega
    obtain rfl : m = 0 := by omega
    refine ⟨w, [], fun ty k => by simp [Builtin.clear_, run_underlying ht], by simpa using h, by simp, World.grownBy.refl w _⟩
  · by_cases h0 : m = 0
    · subst h0
      refine ⟨w, [], fun ty k => by simp [Builtin.clear_, run_underlying ht], by simpa using h, by simp, World.grownBy.refl w _⟩
    · have hzl : (Builtin.zeroCells z.cells m).toList.length = m * z.cells.size := by simp [Builtin.zeroCells]
      have hmc : m * z.cells.size ≤ c * z.cells.size := Nat.mul_le_mul_right _ (Nat.le_trans hm h.2.1)
      have hmn : m * z.cells.size ≤ xs.length := by rw [hlen]; exact Nat.mul_le_mul_right _ hm
      have hst := run_storeCells_cells (P := P) g off (Builtin.zeroCells z.cells m).toList 0 w (fun j hj => by rw [hb.cell, Array.getElem?_eq_getElem (by omega)]; rfl) (fun j _ => hb.frozen _) (by
        intro u hu
        simp only [Builtin.zeroCells, Array.toList_map, List.mem_map] at hu
        obtain ⟨j, _, rfl⟩ := hu
        rw [getElem!_pos z.cells _ (Nat.mod_lt _ hpos)]
        exact hone _ (Array.getElem_mem _))
      simp only [Nat.add_zero] at hst
      obtain ⟨cs', k1, k2, k3, k4⟩ := hb.puts (Builtin.zeroCells z.cells m).toList off (by omega)
      refine ⟨_, (Builtin.zeroCells z.cells m).toList, fun ty k => ?_, ⟨by rw [List.length_append, hzl, List.length_drop, hlen]; omega, h.2.1, h.2.2.1, .inr ⟨g, off, cs', rfl, rfl, k1, by rw [k2]; exact hfit, fun j u hu => ?_⟩⟩, hzl, setCells_grown g _ _ w⟩
      · obtain ⟨q, rfl⟩ : ∃ q, m = q + 1 := ⟨m - 1, by omega⟩
        simp [Builtin.clear_, run_underlying ht, hv, hst]
      · by_cases hj : j < m * z.cells.size
        · rw [List.getElem?_append_left (by omega)] at hu
          rw [k3 j (by omega)]
          exact hu
        · rw [List.getElem?_append_right (by omega), List.getElem?_drop, hzl, show m * z.cells.size + (j - m * z.cells.size) = j by omega] at hu
          rw [k4 _ (by omega)]
          exact hcells j u hu
end
end Go.Proofs.Ytfdboahcaiolgaa.Dk

/-
  Plain facts on memory, more: append of any slice (nil, empty or not) onto a slice of the call's own, as a run and as one step of a statement whose order is open. No condition on the program but the facts on its types that each theorem names.
-/
namespace Go.Proofs.Ytfdboahcaiolgaa.Dk
set_option maxRecDepth 100000
open Go.RowKit

/-- The slice '.slice A m k' reads as the cells news ('size' for each element), wherever it lies. -/
def Src (w : World) (size : Nat) (A : Option Addr) (m : Nat) (news : List Value) : Prop :=
  news.length = m * size ∧ (0 < m → ∃ ad, A = some ad ∧ ∀ j u, news[j]? = some u → w.cell? (ad.add j) = some u)

section
variable {P : Program} (w : World)
theorem run_append_src (t ty e : TypeId) (i : TypeInfo) (z : Value) (size bytes : Nat) (ht : P.underlying t = some (.slice e)) (hi : P.info? e = some i) (hz : i.zero = some z)
    (hsize : i.size = size) (hby : i.bytes = bytes) (hzs : z.cells.size = size) (hsz : 0 < size)
    {A : Option Addr} {n c : Nat} {xs : List Value} {G : Option Nat} (h : Seg w e size A n c xs G)
    {As : Option Addr} {m : Nat} (k : Nat) {news : List Value} (hsrc : Src w size As m news) (h1 : ∀ u ∈ news, u.oneCell' = true)
    (h63 : n + m ≤ maxLen) (hbytes : (n + m) * bytes ≤ 140737488355328) :
    ∃ A' c' G' w', (Builtin.append_ #[t, t] ty #[.slice A n c, .slice As m k]).run P w = .ok (.slice A' (n + m) c') w' ∧ Seg w' e size A' (n + m) c' (xs ++ news) G' ∧ w.grownBy w' G ∧ Moved w G G' := by
  rcases Nat.eq_zero_or_pos m with h0 | h0
  · subst h0
    obtain rfl : news = [] := List.eq_nil_of_length_eq_zero (by simpa using hsrc.1)
    refine ⟨A, c, G, w, ?_, by simpa using h, World.grownBy.refl w _, .inl rfl⟩
    have hnc := h.2.1
    have hfc : (Builtin.firstCells i.size 0 (.slice As 0 k)).run P w = .ok #[] w := by
      rcases As with _ | ad
      · simp [Builtin.firstCells]
      · exact run_firstCells_some (P := P) w i.size 0 ad 0 k [] (by simp) (by simp)
    rcases A with _ | a
    · simp [Builtin.append_, run_underlying ht, sizeOf, typeInfo, hi, Builtin.lenOf, hnc, hfc]
    · simp [Builtin.append_, run_underlying ht, sizeOf, typeInfo, hi, Builtin.lenOf, hnc, hfc, storeCells]
  · obtain ⟨ad, rfl, hc⟩ := hsrc.2 h0
    exact run_append_seg w t ty e i z size bytes ht hi hz hsize hby hzs hsz h ad m k news hsrc.1 hc h1 h0 h63 hbytes

theorem step_append_src {ops : Array Oper} {o : Oper} {a : Act} {K : Act → World → Prop} {Q : Exit → Act → World → Prop} {E : Prop} (s x : Operand) (t : TypeId)
    (ho : o.op = .call { callee := .builtin .append, args := #[s, x], argTypes := #[t, t] })
    (e : TypeId) (i : TypeInfo) (z : Value) (size bytes : Nat) (ht : P.underlying t = some (.slice e)) (hi : P.info? e = some i) (hz : i.zero = some z)
    (hsize : i.size = size) (hby : i.bytes = bytes) (hzs : z.cells.size = size) (hsz : 0 < size)
    {A : Option Addr} {n c : Nat} {xs : List Value} {G : Option Nat} (hs : a.eval s = .slice A n c) (h : Seg w e size A n c xs G)
    {As : Option Addr} {m k : Nat} {news : List Value} (hx : a.eval x = .slice As m k) (hsrc : Src w size As m news) (h1 : ∀ u ∈ news, u.oneCell' = true)
    (h63 : n + m ≤ maxLen) (hbytes : (n + m) * bytes ≤ 140737488355328) (hw : Region.wanted o (yielded ops a.tmps) = true) (N : Nat) (hN : n + m = N)
    (hK : ∀ A' c' G' w', Seg w' e size A' N c' (xs ++ news) G' → w.grownBy w' G → Moved w G G' → K (a.put o.dst (.slice A' N c')) w') :
    if Region.wanted o (yielded ops a.tmps) = true then Oper.wp P o a w K Q else E := by
  subst hN
  rw [if_pos hw]
  obtain ⟨A', c', G', w', hrun, h2, h3, h4⟩ := run_append_src (P := P) w t o.type e i z size bytes ht hi hz hsize hby hzs hsz h k hsrc h1 h63 hbytes
  unfold Oper.wp
  simp [execOp, ho, resolve, invoke, builtin, hs, hx, hrun, Result.andThen]
  exact hK A' c' G' w' h2 h3 h4
end
end Go.Proofs.Ytfdboahcaiolgaa.Dk

/-
  Bytes in memory, for every program with slices of bytes: a slice of bytes of a call's own that grows, a slice of bytes that can be read, cuts of it, the string of it; small facts on bytes and numbers. No condition but those that each theorem names.
-/
namespace Go.Proofs.Ytfdboahcaiolgaa.Dk
set_option maxRecDepth 100000
open Go.RowKit

theorem u8ne {c : UInt8} (d : UInt8) (K : Int) (hK : (d.toNat : Int) = K) (h : ¬ c = d) : ((c.toNat : Int) == K) = false := by
  rw [beq_eq_false_iff_ne]
  intro e
  apply h
  apply UInt8.toNat_inj.1
  omega
theorem ret_bool {a b : Bool} (h : a = b) : Ending.returned (.bool a) = .returned (.bool b) := by rw [h]
theorem ret_i64 {a b : Int} (h : a = b) : Ending.returned (.int .i64 a) = .returned (.int .i64 b) := by rw [h]
theorem bl_get (s : ByteArray) (k : Nat) (h : k < s.size) : (bl s)[k]? = some s[k] := by
  unfold bl
  rw [List.getElem?_eq_getElem (show k < s.data.toList.length by rw [Array.length_toList]; exact h)]
  rfl
theorem tl_bl (s : ByteArray) : s.toList = bl s := ByteArray.toList_eq s
theorem empty_of_size {s : ByteArray} (h : s.size = 0) : s = ByteArray.mk #[] := bl_inj (List.eq_nil_of_length_eq_zero (by rw [bl_length]; exact h))
theorem isEmpty_of_size {s : ByteArray} (h : ¬ s.size = 0) : s.toList.isEmpty = false := by
  rw [tl_bl]
  cases hb : bl s with
  | nil => exact absurd (by rw [← bl_length, hb]; rfl) h
  | cons a r => rfl
theorem ne_nil_of_size {s : ByteArray} (h : ¬ s.size = 0) : ¬ s.toList = [] := by
  intro e
  apply h
  rw [← bl_length, ← tl_bl, e]
  rfl
theorem shr_nat (n k : Nat) : ((n : Int) / 2 ^ (8 * k)) = ((n / 256 ^ k : Nat) : Int) := by
  rw [Int.natCast_ediv, Int.natCast_pow, Int.pow_mul]
  rfl
theorem belowN {B : Nat} {a w : World} (h : Below B a w) (n : Nat) : Below B a (w.drewN n) := ⟨h.os, h.tape, h.output, h.size, h.block⟩
theorem div_pow_succ (n k : Nat) : n / 256 ^ k / 256 = n / 256 ^ (k + 1) := by rw [Nat.div_div_eq_div_mul, Nat.pow_succ]
/-- Bytes as cells. -/
def bc (l : List UInt8) : List Value := l.map fun b => .int .u8 (b.toNat : Int)
theorem bc_length (l : List UInt8) : (bc l).length = l.length := List.length_map _
theorem bc_append (l m : List UInt8) : bc (l ++ m) = bc l ++ bc m := List.map_append
theorem bc_str (s : ByteArray) : Lib.strCells s = bc (bl s) := rfl
theorem bc_one (l : List UInt8) : ∀ u ∈ bc l, u.oneCell' = true := by
  intro u hu
  simp only [bc, List.mem_map] at hu
  obtain ⟨b, _, rfl⟩ := hu
  rfl
theorem grown_trans {w w1 w2 : World} {G G1 : Option Nat} (h : w.grownBy w1 G) (hm : Moved w G G1) (k : w1.grownBy w2 G1) : w.grownBy w2 G :=
  ⟨k.os.trans h.os, k.tape.trans h.tape, k.output.trans h.output, Nat.le_trans h.size k.size, fun i hi hne => (k.block i (Nat.lt_of_lt_of_le hi h.size) (by
    rcases hm with rfl | ⟨g, rfl, hg⟩
    · exact hne
    · intro e; cases e; omega)).trans (h.block i hi hne)⟩
theorem grown_alloc {w w1 : World} {G : Option Nat} (h : w.grownBy w1 G) (o : Obj) : w.grownBy (w1.alloc o) G :=
  ⟨h.os, h.tape, h.output, Nat.le_trans h.size (by simp), fun i hi hne => (Below.heap_alloc w1 o i (Nat.lt_of_lt_of_le hi h.size)).trans (h.block i hi hne)⟩
theorem grown_drewN {w w1 : World} {G : Option Nat} (h : w.grownBy w1 G) (n : Nat) : w.grownBy (w1.drewN n) G := ⟨h.os, h.tape, h.output, h.size, h.block⟩
theorem grown_drew {w w1 : World} {G : Option Nat} (h : w.grownBy w1 G) : w.grownBy w1.drew G := ⟨h.os, h.tape, h.output, h.size, h.block⟩
theorem grown_below {w w1 : World} {G : Option Nat} (h : w.grownBy w1 G) {B : Nat} (hB : B ≤ w.heap.size) (hG : ∀ g, G = some g → B ≤ g) : Below B w w1 :=
  ⟨h.os, h.tape, h.output, h.size, fun i hi => h.block i (by omega) (fun e => by have := hG i e.symm; omega)⟩
theorem below_grown {w w1 : World} (h : Below w.heap.size w w1) (G : Option Nat) : w.grownBy w1 G := ⟨h.os, h.tape, h.output, h.size, fun i hi _ => h.block i hi⟩
theorem Moved.ge {w : World} {G G' : Option Nat} (h : Moved w G G') {B : Nat} (hB : B ≤ w.heap.size) (hG : ∀ g, G = some g → B ≤ g) : ∀ g, G' = some g → B ≤ g := by
  rcases h with rfl | ⟨g, rfl, hg⟩
  · exact hG
  · intro g' e; cases e; omega
theorem Moved.of_size {w w1 : World} {G G' : Option Nat} (h : Moved w1 G G') (hs : w.heap.size ≤ w1.heap.size) : Moved w G G' := by
  rcases h with rfl | ⟨g, rfl, hg⟩
  · exact .inl rfl
  · exact .inr ⟨g, rfl, by omega⟩
section
variable {P : Program} (w : World)
theorem run_append_seg_string (t u ty e : TypeId) (i : TypeInfo) (ht : P.underlying t = some (.slice e)) (hu : P.underlying u = some .string) (hi : P.info? e = some i) (hz : i.zero = some (.int .u8 0)) (hsize : i.size = 1) (hby : i.bytes = 1)
    {A : Option Addr} {n c : Nat} {xs : List Value} {G : Option Nat} (h : Seg w e 1 A n c xs G) (s : ByteArray) (h63 : n + s.size ≤ maxLen) (hbytes : n + s.size ≤ 140737488355328) :
    ∃ A' c' G' w', (Builtin.append_ #[t, u] ty #[.slice A n c, .string s]).run P w = .ok (.slice A' (n + s.size) c') w' ∧ Seg w' e 1 A' (n + s.size) c' (xs ++ Lib.strCells s) G' ∧ w.grownBy w' G ∧ Moved w G G' := by
  have hlen := h.1
  have hnc := h.2.1
  have hcm := h.2.2.1
  have hsl := Lib.strCells_length s
  have hsmall : n + s.size ≤ 9223372036854775807 := by simp only [maxLen] at h63; omega
  rcases h.2.2.2 with ⟨rfl, rfl, rfl⟩ | ⟨g, off, cur, rfl, rfl, hb, hfit, hcells⟩
  · obtain rfl : n = 0 := by omega
    obtain rfl : xs = [] := List.eq_nil_of_length_eq_zero (by simpa using hlen)
    obtain ⟨v', w', hrun, r1, r2, r3⟩ := Lib.run_append_own_string (P := P) w w.heap.size t u ty e i ht hu hi hz hsize hby (.slice none 0 0) 0 [] (World.ownsRow_nil w _ e 1) s h63 hbytes (Nat.le_refl _)
    by_cases hm : s.size = 0
    · obtain rfl := r3.2 ⟨rfl, hm⟩
      have hn : Lib.strCells s = [] := List.eq_nil_of_length_eq_zero (by rw [hsl]; exact hm)
      refine ⟨none, 0, none, w', by rw [hrun, hm], ?_, r2, .inl rfl⟩
      rw [hm, hn]
      exact Seg.nil _ _ _
    · obtain ⟨g, c', rfl, hg, hs⟩ := Seg.of_own r1 (by omega)
      exact ⟨_, c', some g, w', hrun, hs, r2, .inr ⟨g, rfl, hg⟩⟩
  · by_cases hr : n + s.size ≤ c
    · have hf := Lib.run_firstCells_string (P := P) w 1 s
      have hst := run_storeCells_cells (P := P) g (off + n) (Lib.strCells s) 0 w (fun j hj => by rw [hb.cell, Array.getElem?_eq_getElem (by omega)]; rfl) (fun j _ => hb.frozen _) (Lib.strCells_oneCell s)
      simp only [Nat.add_zero] at hst
      obtain ⟨cs', k1, k2, k3, k4⟩ := hb.puts (Lib.strCells s) (off + n) (by omega)
      refine ⟨some ⟨g, off, none⟩, c, some g, w.setCells g (off + n) (Lib.strCells s), ?_, ⟨by rw [List.length_append, hlen, hsl, Nat.mul_one, Nat.mul_one], hr, hcm, .inr ⟨g, off, cs', rfl, rfl, k1, by rw [k2]; exact hfit, fun j u hu => ?_⟩⟩, setCells_grown g _ _ w, .inl rfl⟩
      · simp [Builtin.append_, run_underlying ht, run_underlying hu, sizeOf, typeInfo, hi, hsize, Builtin.lenOf, hr, hf, Addr.add_lit, hst]
      · by_cases hj : j < xs.length
        · rw [List.getElem?_append_left hj] at hu
          rw [k4 _ (by omega)]
          exact hcells j u hu
        · rw [List.getElem?_append_right (by omega)] at hu
          have hjl : j - xs.length < (Lib.strCells s).length := (List.getElem?_eq_some_iff.1 hu).1
          have := k3 (j - xs.length) hjl
          rw [show off + n + (j - xs.length) = off + j by omega] at this
          rw [this]
          exact hu
    · have hrun := Lib.run_append_grow_string (P := P) w t u ty e i (.int .u8 0) ht hu hi hz ⟨g, off, none⟩ n c xs (by rw [hsize]; exact hlen) (fun j v hj => by rw [Addr.add_lit, hb.cell]; exact hcells j v hj) s (by omega) (by omega) (by rw [hby]; exact growslice_fits (by omega) (by omega))
      have hge := grownCap_ge w (n + s.size) c e
      have hcm' : grownCap w (n + s.size) c e ≤ maxLen := grownCap_le_maxLen w (n + s.size) c e h63
      refine ⟨_, _, some w.heap.size, _, hrun, ⟨by rw [List.length_append, hlen, hsl, Nat.mul_one, Nat.mul_one], hge, hcm', .inr ⟨w.heap.size, 0, _, rfl, rfl, heap_alloc_new w.drew _, ?_, fun j u hu => ?_⟩⟩, ⟨rfl, rfl, rfl, by simp, fun k hk _ => Below.heap_alloc w.drew _ k hk⟩, .inr ⟨_, rfl, Nat.le_refl _⟩⟩
      · have hz1 : (Value.int IntKind.u8 0).cells.size = 1 := rfl
        simp only [Array.size_append, List.size_toArray, size_zeroCells, hz1, hlen, hsl]
        omega
      · have hjl : j < (xs ++ Lib.strCells s).length := (List.getElem?_eq_some_iff.1 hu).1
        rw [Nat.zero_add, ← Array.getElem?_toList]
        simp only [Array.toList_append]
        rw [List.getElem?_append_left (by simpa using hjl)]
        exact hu

theorem wpList_append_seg_string {ops : Array Oper} {rest : List Oper} {o : Oper} {a : Act} {Q : Exit → Act → World → Prop} (hgd : o.guard = none) (s x : Operand) (t u : TypeId)
    (ho : o.op = .call { callee := .builtin .append, args := #[s, x], argTypes := #[t, u] })
    (e : TypeId) (i : TypeInfo) (ht : P.underlying t = some (.slice e)) (hu : P.underlying u = some .string) (hi : P.info? e = some i) (hz : i.zero = some (.int .u8 0)) (hsize : i.size = 1) (hby : i.bytes = 1)
    {A : Option Addr} {n c : Nat} {xs : List Value} {G : Option Nat} (hs : a.eval s = .slice A n c) (hseg : Seg w e 1 A n c xs G)
    (st : ByteArray) (hx : a.eval x = .string st) (h63 : n + st.size ≤ maxLen) (hbytes : n + st.size ≤ 140737488355328)
    (h : ∀ A' c' G' w', Seg w' e 1 A' (n + st.size) c' (xs ++ Lib.strCells st) G' → w.grownBy w' G → Moved w G G' → wpList P ops Q rest (a.put o.dst (.slice A' (n + st.size) c')) w') : wpList P ops Q (o :: rest) a w := by
  obtain ⟨A', c', G', w', hrun, h2, h3, h4⟩ := run_append_seg_string (P := P) w t u o.type e i ht hu hi hz hsize hby hseg st h63 hbytes
  refine wpList_plain hgd fun K hK' => ?_
  unfold Oper.wp
  simp [execOp, ho, resolve, invoke, builtin, hs, hx, hrun, Result.andThen]
  exact hK' _ _ (h A' c' G' w' h2 h3 h4)

/-- The append of any slice as one step of a walk. -/
theorem wpList_append_src {ops : Array Oper} {rest : List Oper} {o : Oper} {a : Act} {Q : Exit → Act → World → Prop} (hgd : o.guard = none) (s x : Operand) (t : TypeId)
    (ho : o.op = .call { callee := .builtin .append, args := #[s, x], argTypes := #[t, t] })
    (e : TypeId) (i : TypeInfo) (z : Value) (size bytes : Nat) (ht : P.underlying t = some (.slice e)) (hi : P.info? e = some i) (hz : i.zero = some z)
    (hsize : i.size = size) (hby : i.bytes = bytes) (hzs : z.cells.size = size) (hsz : 0 < size)
    {A : Option Addr} {n c : Nat} {xs : List Value} {G : Option Nat} (hs : a.eval s = .slice A n c) (hseg : Seg w e size A n c xs G)
    {As : Option Addr} {m k : Nat} {news : List Value} (hx : a.eval x = .slice As m k) (hsrc : Src w size As m news) (h1 : ∀ u ∈ news, u.oneCell' = true)
    (h63 : n + m ≤ maxLen) (hbytes : (n + m) * bytes ≤ 140737488355328)
    (h : ∀ A' c' G' w', Seg w' e size A' (n + m) c' (xs ++ news) G' → w.grownBy w' G → Moved w G G' → wpList P ops Q rest (a.put o.dst (.slice A' (n + m) c')) w') : wpList P ops Q (o :: rest) a w := by
  obtain ⟨A', c', G', w', hrun, h2, h3, h4⟩ := run_append_src (P := P) w t o.type e i z size bytes ht hi hz hsize hby hzs hsz hseg k hsrc h1 h63 hbytes
  refine wpList_plain hgd fun K hK' => ?_
  unfold Oper.wp
  simp [execOp, ho, resolve, invoke, builtin, hs, hx, hrun, Result.andThen]
  exact hK' _ _ (h A' c' G' w' h2 h3 h4)
end

theorem Try.infoB : (Try.prog.info? 5).map (fun i => (i.zero, i.size, i.bytes)) = some (some (.int .u8 0), 1, 1) := by kernel_rfl
/-- A call gave bytes bs back, in a slice of its own that was G's. -/
def BPost (w : World) (G : Option Nat) (bs : List UInt8) (e : Ending) (w' : World) : Prop :=
  ∃ A' n' c' G', e = .returned (.slice A' n' c') ∧ Seg w' 5 1 A' n' c' (bc bs) G' ∧ w.grownBy w' G ∧ Moved w G G'
theorem num_get (N : Nat) : ∀ (k j : Nat), j < k → (num N k)[k - (j + 1)]? = some (UInt8.ofNat (N / 256 ^ j))
  | 0, j, h => by omega
  | k + 1, j, h => by
    by_cases e : j = k
    · subst e; simp [num]
    · rw [show k + 1 - (j + 1) = (k - (j + 1)) + 1 by omega, num, List.getElem?_cons_succ]
      exact num_get N k j (by omega)
theorem num_snoc (N k j : Nat) (h : j < k) : (num N k).take (k - (j + 1)) ++ [UInt8.ofNat (N / 256 ^ j)] = (num N k).take (k - j) := by
  have := num_get N k j h
  obtain ⟨h1, h2⟩ := List.getElem?_eq_some_iff.1 this
  rw [show k - j = (k - (j + 1)) + 1 by omega, List.take_succ_eq_append_getElem h1, h2]
theorem u8_ofNat (N j : Nat) : ((UInt8.ofNat (N / 256 ^ j)).toNat : Int) = (N : Int) / 2 ^ (8 * j) % 256 := by
  rw [shr_nat, UInt8.toNat_ofNat']
  rfl
theorem src1 (w : World) (t : TypeId) (v : Value) : Src (w.alloc (.cells #[v] t)) 1 (some ⟨w.heap.size, 0, none⟩) 1 [v] := by
  refine ⟨rfl, fun _ => ⟨_, rfl, fun j u hj => ?_⟩⟩
  match j, hj with
  | 0, hj => simp at hj; subst hj; exact (CB.new w _ #[v]).cell 0
theorem bc_snoc (l : List UInt8) (N j : Nat) : bc l ++ [.int .u8 ((N : Int) / 2 ^ (8 * j) % 256)] = bc (l ++ [UInt8.ofNat (N / 256 ^ j)]) := by
  rw [bc_append]
  simp only [bc, List.map_cons, List.map_nil, u8_ofNat]
theorem one_one (k : IntKind) (x : Int) : ∀ u ∈ [Value.int k x], u.oneCell' = true := by
  intro u hu
  simp only [List.mem_singleton] at hu
  subst hu
  rfl
theorem byte_mod (N j q : Nat) (h : q = N / 256 ^ j) : Value.int .u8 ((q : Int) % 256) = .int .u8 ((N : Int) / 2 ^ (8 * j) % 256) := by rw [shr_nat, h]
/-- A call gave bytes and a number back. -/
def EPost (w : World) (bs : List UInt8) (k : Nat) (e : Ending) (w' : World) : Prop :=
  ∃ A n c G, e = .returned (.tuple #[.slice A n c, .int .i64 (k : Int)]) ∧ Seg w' 5 1 A n c (bc bs) G ∧ Below w.heap.size w w' ∧ (∀ g, G = some g → w.heap.size ≤ g)
theorem run_make_seg {P : Program} (w : World) (t e : TypeId) (i : TypeInfo) (z : Value) (size : Nat) (ht : P.underlying t = some (.slice e)) (hi : P.info? e = some i) (hz : i.zero = some z) (hsize : i.size = size)
    (c : Nat) (hbytes : i.bytes * c ≤ 281474976710656) (h63 : c ≤ maxLen) :
    ∃ w', (Instr.makeSlice t (.int .i64 0) (.int .i64 (c : Int))).run P w = .ok (.slice (some ⟨w.heap.size, 0, none⟩) 0 c) w' ∧ Seg w' e size (some ⟨w.heap.size, 0, none⟩) 0 c [] (some w.heap.size) ∧ w.grownBy w' none := by
  obtain ⟨w', h1, h2, h3⟩ := run_make_own (P := P) w w.heap.size t e i z size ht hi hz hsize .i64 .i64 c hbytes h63 (Nat.le_refl _)
  refine ⟨w', h1, ⟨by simp, Nat.zero_le _, h63, .inr ?_⟩, h3⟩
  rcases h2.2 with ⟨hv, _⟩ | ⟨g, cap, cur, hv, _, hg, _, _, hs, _⟩
  · cases hv
  · injection hv with e1 e2 e3
    injection e1 with e1
    injection e1 with e1
    subst e1 e3
    exact ⟨_, 0, cur, rfl, rfl, hg, by omega, fun j u hu => by simp at hu⟩
theorem Seg.src {w : World} {e : TypeId} {size : Nat} {A : Option Addr} {n c : Nat} {xs : List Value} {G : Option Nat} (h : Seg w e size A n c xs G) : Src w size A n xs := by
  refine ⟨h.1, fun hn => ?_⟩
  rcases h.2.2.2 with ⟨_, h0, _⟩ | ⟨g, off, cur, h1, h2, h3, _, h4⟩
  · have := h.2.1; omega
  · exact ⟨_, h1, fun j u hu => by rw [Addr.add_lit, h3.cell]; exact h4 j u hu⟩
theorem Seg.below {w w' : World} {e : TypeId} {size : Nat} {A : Option Addr} {n c : Nat} {xs : List Value} {G : Option Nat} (h : Seg w e size A n c xs G) {B : Nat} (hb : Below B w w') (hB : w.heap.size ≤ B) : Seg w' e size A n c xs G :=
  h.keep fun g hg => hb.block g (Nat.lt_of_lt_of_le (h.lt g hg) hB)
theorem Src.below {w w' : World} {size : Nat} {A : Option Addr} {n : Nat} {xs : List Value} (h : Src w size A n xs) {B : Nat} (hb : Below B w w') (hB : w.heap.size ≤ B) : Src w' size A n xs :=
  ⟨h.1, fun hn => by
    obtain ⟨ad, h1, h2⟩ := h.2 hn
    exact ⟨ad, h1, fun j u hu => (hb.cell (Nat.lt_of_lt_of_le (World.block_lt_of_cell? w _ (h2 j u hu)) hB)).trans (h2 j u hu)⟩⟩
/-- A slice of bytes that can be read, below block B. -/
def BR (w : World) (B : Nat) (A : Option Addr) (n c : Nat) (bs : List UInt8) : Prop :=
  bs.length = n ∧ n ≤ c ∧ c ≤ maxLen ∧ (0 < n → ∃ g off, A = some ⟨g, off, none⟩ ∧ g < B ∧ ∀ i b, bs[i]? = some b → w.cell? ⟨g, off + i, none⟩ = some (.int .u8 (b.toNat : Int)))

section
variable {w w' : World} {B : Nat} {A : Option Addr} {n c : Nat} {bs : List UInt8}
theorem BR.nil (w : World) (B : Nat) : BR w B none 0 0 [] := ⟨rfl, Nat.le_refl _, Nat.zero_le _, fun h => by omega⟩
theorem BR.keep (h : BR w B A n c bs) (hk : ∀ g, g < B → w'.heap[g]? = w.heap[g]?) : BR w' B A n c bs := by
  refine ⟨h.1, h.2.1, h.2.2.1, fun hn => ?_⟩
  obtain ⟨g, off, h1, h2, h3⟩ := h.2.2.2 hn
  exact ⟨g, off, h1, h2, fun i b hb => (World.cell?_of_block (a := ⟨g, off + i, none⟩) (hk g h2)).trans (h3 i b hb)⟩
theorem BR.below {B' : Nat} (h : BR w B A n c bs) (hb : Below B' w w') (hB : B ≤ B') : BR w' B A n c bs := h.keep fun g hg => hb.block g (by omega)
theorem BR.more {B' : Nat} (h : BR w B A n c bs) (hB : B ≤ B') : BR w B' A n c bs :=
  ⟨h.1, h.2.1, h.2.2.1, fun hn => by obtain ⟨g, off, h1, h2, h3⟩ := h.2.2.2 hn; exact ⟨g, off, h1, by omega, h3⟩⟩
theorem BR.grown (h : BR w B A n c bs) {G : Option Nat} (hg : w.grownBy w' G) (hB : B ≤ w.heap.size) (hG : ∀ g, G = some g → B ≤ g) : BR w' B A n c bs :=
  h.keep fun g hgB => hg.block g (by omega) (fun e => by have := hG g e.symm; omega)
theorem BR.cut (h : BR w B A n c bs) {k : Nat} (hk : k ≤ n) : BR w B (if c = k then A else A.map (·.add (k * 1))) (n - k) (c - k) (bs.drop k) := by
  refine ⟨by rw [List.length_drop, h.1], by have := h.2.1; omega, by have := h.2.2.1; omega, fun hn => ?_⟩
  obtain ⟨g, off, rfl, h2, h3⟩ := h.2.2.2 (by omega)
  have hc : ¬ c = k := by have := h.2.1; omega
  refine ⟨g, off + k, by rw [if_neg hc]; simp [Addr.add_lit], h2, fun i b hb => ?_⟩
  rw [Nat.add_assoc]
  exact h3 _ b (by rw [← hb, List.getElem?_drop])
theorem BR.upto (h : BR w B A n c bs) {k : Nat} (hk : k ≤ n) : BR w B A k c (bs.take k) := by
  refine ⟨by rw [List.length_take, h.1]; omega, by have := h.2.1; omega, h.2.2.1, fun hn => ?_⟩
  obtain ⟨g, off, h1, h2, h3⟩ := h.2.2.2 (by omega)
  refine ⟨g, off, h1, h2, fun i b hb => h3 i b ?_⟩
  rw [List.getElem?_take] at hb
  split at hb
  · exact hb
  · cases hb
theorem BR.at_ (h : BR w B A n c bs) {i : Nat} (hi : i < n) : ∃ (g off : Nat) (b : UInt8), A = some ⟨g, off, none⟩ ∧ g < B ∧ Hid (bs[i]? = some b) ∧ w.cell? ⟨g, off + i, none⟩ = some (.int .u8 (b.toNat : Int)) := by
  obtain ⟨g, off, h1, h2, h3⟩ := h.2.2.2 (by omega)
  have hl : i < bs.length := by rw [h.1]; exact hi
  exact ⟨g, off, bs[i], h1, h2, List.getElem?_eq_getElem hl, h3 i _ (List.getElem?_eq_getElem hl)⟩
theorem BR.of_seg {e : TypeId} {G : Option Nat} (h : Seg w e 1 A n c (bc bs) G) : BR w w.heap.size A n c bs := by
  have h1 := h.1
  rw [bc_length] at h1
  refine ⟨by omega, h.2.1, h.2.2.1, fun hn => ?_⟩
  rcases h.2.2.2 with ⟨_, h0, _⟩ | ⟨g, off, cur, h1, h2, h3, _, h4⟩
  · have := h.2.1; omega
  · refine ⟨g, off, h1, h3.lt, fun i b hb => ?_⟩
    rw [h3.cell]
    exact h4 i _ (by unfold bc; rw [List.getElem?_map, hb]; rfl)
end

/-- A cut 's[k:]', its address under one name. -/
theorem run_cut_from {P : Program} (t e : TypeId) (ht : P.underlying t = some (.slice e)) (size : Nat) (hz : ∀ w, (sizeOf e).run P w = .ok size w) (A : Option Addr) (n c k : Nat) (hk : k ≤ n) (w : World) :
    (Instr.slice t (.slice A n c) (some (.int .i64 k)) none none).run P w = .ok (.slice (if c = k then A else A.map (·.add (k * size))) (n - k) (c - k)) w := by
  simp [Instr.slice, run_underlying ht, Instr.sliceBounds, hz, go_sem, hk]
/-- A cut 's[:k]'. -/
theorem run_cut_upto {P : Program} (t e : TypeId) (ht : P.underlying t = some (.slice e)) (size : Nat) (hz : ∀ w, (sizeOf e).run P w = .ok size w) (A : Option Addr) (n c k : Nat) (hk : k ≤ c) (w : World) :
    (Instr.slice t (.slice A n c) none (some (.int .i64 k)) none).run P w = .ok (.slice A k c) w := by
  simp [Instr.slice, run_underlying ht, Instr.sliceBounds, hz, go_sem, hk]
theorem Try.sizeB (w : World) : (sizeOf 5).run Try.prog w = .ok 1 w := by kernel_rfl

theorem grown_put {w w1 : World} {g : Nat} (h : w.grownBy w1 (some g)) (i : Nat) (u : Value) : w.grownBy (w1.setCell ⟨g, i, none⟩ u) (some g) :=
  ⟨h.os, h.tape, h.output, by simpa [World.setCell] using h.size, fun j hj hne => (Below.heap_setCell w1 ⟨g, i, none⟩ u j (fun e => hne (by rw [e]))).trans (h.block j hj hne)⟩
theorem val_lt64 (l : List UInt8) (h : l.length ≤ 8) : val l < 18446744073709551616 := by
  have h1 := val_lt l
  have h2 : 256 ^ l.length ≤ 256 ^ 8 := Nat.pow_le_pow_right (by omega) h
  have h3 : (256 : Nat) ^ 8 = 18446744073709551616 := by rfl
  omega
theorem val_step {bs : List UInt8} {k j : Nat} {b : UInt8} (hb : (bs.take k)[j]? = some b) : val ((bs.take k).take (j + 1)) = val ((bs.take k).take j) * 256 + b.toNat := by
  obtain ⟨h1, rfl⟩ := List.getElem?_eq_some_iff.1 hb
  rw [List.take_succ_eq_append_getElem h1, val_snoc]
theorem or_step (q : Nat) (b : UInt8) (h : q * 256 + b.toNat < 18446744073709551616) : bits .or .u64 (IntKind.u64.wrap ((q : Int) * 256)) (IntKind.u64.wrap (b.toNat : Int)) = ((q * 256 + b.toNat : Nat) : Int) := by
  have hb : b.toNat < 2 ^ 8 := b.toNat_lt
  have h1 : q * 256 < 18446744073709551616 := Nat.lt_of_le_of_lt (Nat.le_add_right _ _) h
  have h2 : b.toNat < 18446744073709551616 := Nat.lt_of_le_of_lt (Nat.le_add_left _ _) h
  have e1 : IntKind.u64.wrap ((q : Int) * 256) = ((q * 256 : Nat) : Int) := by rw [IntKind.wrap_u64]; omega
  have e2 : IntKind.u64.wrap (b.toNat : Int) = (b.toNat : Int) := by rw [IntKind.wrap_u64]; omega
  rw [e1, e2, u64_or_nat (q * 256) b.toNat h1 h2]
  have := Nat.shiftLeft_add_eq_or_of_lt hb q
  rw [Nat.shiftLeft_eq] at this
  rw [← this]
theorem grown_new {w w1 : World} {G : Option Nat} (h : w.grownBy w1 G) {p : Addr} (hp : w.heap.size ≤ p.block) (u : Value) : w.grownBy (w1.setCell p u) G :=
  ⟨h.os, h.tape, h.output, by simpa [World.setCell] using h.size, fun j hj hne => (Below.heap_setCell w1 p u j (by omega)).trans (h.block j hj hne)⟩
theorem conv_br {w : World} {B : Nat} {A : Option Addr} {n c : Nat} {bs : List UInt8} (h : BR w B A n c bs) : (convert 77 9 (.slice A n c)).run Try.prog w = .ok (.string (mkS bs)) w := by
  have e : mkS bs = strOfNums (bs.map fun b => (b.toNat : Int)) := by
    apply bl_inj
    rw [bl_mkS]
    unfold bl
    rw [strOfNums_data, List.map_map]
    conv => lhs; rw [← List.map_id bs]
    apply List.map_congr_left
    intro b _
    simp
  rcases Nat.eq_zero_or_pos n with h0 | h0
  · subst h0
    obtain rfl : bs = [] := List.eq_nil_of_length_eq_zero h.1
    rcases A with _ | ⟨g, off, sp⟩
    · rw [run_convert_bytes_nil (P := Try.prog) w 77 5 Try.underlying77 Try.underlying5 0 c 9 Try.underlying9]
      rfl
    · rw [run_convert_bytes_string (P := Try.prog) w 77 9 5 _ 0 c Try.underlying77 Try.underlying5 Try.underlying9]
      rw [run_bytesToString (P := Try.prog) w ⟨g, off, sp⟩ 0 c [] (by simpa using run_loadCells_list (P := Try.prog) w ⟨g, off, sp⟩ [] (fun j v hj => by simp at hj))]
      rfl
  · obtain ⟨g, off, rfl, _, hc⟩ := h.2.2.2 h0
    rw [run_convert_bytes_arg (P := Try.prog) w 77 5 Try.underlying77 Try.underlying5 g off n c (bs.map fun b => (b.toNat : Int)) (by rw [List.length_map]; exact h.1) (fun i hi => by
      have hl : i < bs.length := by rw [h.1]; exact hi
      rw [hc i bs[i] (List.getElem?_eq_getElem hl)]
      simp [List.getD, List.getElem?_eq_getElem hl]) 9 Try.underlying9, e]
theorem run_cut_both {P : Program} (t e : TypeId) (ht : P.underlying t = some (.slice e)) (size : Nat) (hz : ∀ w, (sizeOf e).run P w = .ok size w) (A : Option Addr) (n c lo hi : Nat) (h1 : lo ≤ hi) (h2 : hi ≤ c) (w : World) :
    (Instr.slice t (.slice A n c) (some (.int .i64 lo)) (some (.int .i64 hi)) none).run P w = .ok (.slice (if c = lo then A else A.map (·.add (lo * size))) (hi - lo) (c - lo)) w := by
  simp [Instr.slice, run_underlying ht, Instr.sliceBounds, hz, go_sem, h1, h2]
theorem CB.grown {w w' : World} {g : Nat} {t : TypeId} {cs : Array Value} (h : CB w g t cs) {G : Option Nat} (hg : w.grownBy w' G) (hne : some g ≠ G) : CB w' g t cs := h.same (hg.block _ h.lt hne)
end Go.Proofs.Ytfdboahcaiolgaa.Dk
