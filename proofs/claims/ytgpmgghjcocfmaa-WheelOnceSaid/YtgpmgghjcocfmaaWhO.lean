/-
  Arguments of layer 6's laws that came in: a wheel, acts, an array of two numbers of 16 bits, a slice of such numbers. No condition.
-/
import Derived.Test.YtgpmgghjcocfmaaWhA
import Derived.ProofKit
import Derived.OpenShut
import Derived.Deep.Slices
import Derived.Deep.Fields
import Derived.ChangeArms
set_option linter.unusedVariables false
set_option linter.unusedSimpArgs false
namespace Go.Proofs.Ytgpmgghjcocfmaa
open Go.RowKit Go.ChangeShapes Go.WideShapes Go.Deep

theorem exists_list {α : Type} (P : Nat → α → Prop) : ∀ n : Nat, (∀ i, i < n → ∃ v, P i v) → ∃ l : List α, l.length = n ∧ ∀ (j : Nat) (v : α), l[j]? = some v → P j v
  | 0, _ => ⟨[], rfl, fun j v hv => by simp at hv⟩
  | n + 1, h => by
    obtain ⟨l, h1, h2⟩ := exists_list P n (fun i hi => h i (by omega))
    obtain ⟨v, hv⟩ := h n (by omega)
    refine ⟨l ++ [v], by simp [h1], fun j u hu => ?_⟩
    by_cases hj : j < l.length
    · rw [List.getElem?_append_left hj] at hu
      exact h2 j u hu
    · rw [List.getElem?_append_right (by omega)] at hu
      obtain ⟨hlt, he⟩ := List.getElem?_eq_some_iff.1 hu
      simp at hlt he
      obtain rfl : j = n := by omega
      rw [← he]
      exact hv

theorem tk_some {L : List (Int × Int)} {k : Nat} (hk : k < L.length) : L[k]? = some (tk L k) := by
  unfold tk
  rw [List.getElem?_eq_getElem hk]
  rfl
theorem TR.of_at {w : World} {g off n c : Nat} {L : List (Int × Int)} (hl : L.length = n) (hnc : n ≤ c) (hc : c ≤ maxLen) (hw : wfL L)
    (h : ∀ k, k < n → w.cell? ⟨g, off + k * 2, none⟩ = some (.int .i64 (tk L k).1) ∧ w.cell? ⟨g, off + k * 2 + 1, none⟩ = some (.int .i64 (tk L k).2)) : TR w (some ⟨g, off, none⟩) n c L := by
  refine ⟨hl, hnc, hc, hw, fun _ => ⟨g, off, rfl, fun i v hv => ?_⟩⟩
  have hi : i < n * 2 := by
    have := (List.getElem?_eq_some_iff.1 hv).1
    rw [tc_length, hl] at this
    exact this
  obtain ⟨h1, h2⟩ := h (i / 2) (by omega)
  obtain ⟨e1, e2⟩ := tc_at L (k := i / 2) (by omega)
  rcases Nat.mod_two_eq_zero_or_one i with hm | hm
  · rw [show i / 2 * 2 = i by omega] at e1 h1
    rw [e1] at hv
    cases hv
    exact h1
  · rw [show i / 2 * 2 + 1 = i by omega] at e2
    rw [Nat.add_assoc, show i / 2 * 2 + 1 = i by omega] at h2
    rw [e2] at hv
    cases hv
    exact h2

theorem Try.cellsT : Try.prog.cellsOf 46 = 2 := by kernel_rfl

set_option maxRecDepth 100000 in
theorem timers_trod {H : Type} {enc : TypeId × Value → H} {w : World} {m : Nat} {c0 : Value} {y : DataW H × List MemPlace}
    (hf : DataW.trod enc Try.prog w 0 (fun _ => true) true m 22 [c0] = some y) :
    ∃ (a : Option Addr) (len cap : Nat) (L : List (Int × Int)), c0 = .slice a len cap ∧ TR w a len cap L := by
  rcases open_slice Try.underlying22 hf with ⟨hcs, _⟩ | ⟨x, l, c, m, n, D, Pl, hcs, hb, hl, hm, hmm, _, hi⟩
  · simp at hcs
    exact ⟨none, 0, 0, [], hcs, TR.nil _⟩
  · simp at hcs
    simp only [if_true] at hmm
    subst hmm
    have key : ∀ i, i < l → ∃ v : Int × Int, ((Lit.int .i64 v.1).wf = true ∧ (Lit.int .i64 v.2).wf = true) ∧ w.cell? ((x.add (i * 2)).add 0) = some (.int .i64 v.1) ∧ w.cell? ((x.add (i * 2)).add 1) = some (.int .i64 v.2) := by
      intro i hil
      obtain ⟨cs', hc, ht⟩ := hi i (by omega)
      rw [Try.cellsT] at hc
      obtain ⟨xs, n', _, _, _, hxl, hg⟩ := DataW.trod_struct Try.underlying46 ht
      obtain ⟨_, hcl, hat⟩ := World.cells?_some hc
      match cs', hcl, xs, hxl with
      | [u0, u1], _, [y0, y1], _ =>
        have g0 : DataW.trod enc Try.prog w 0 (fun _ => true) true n' 3 (([u0, u1].drop 0).take (Try.prog.cellsOf 3)) = some y0 := hg 0 _ rfl
        have g1 : DataW.trod enc Try.prog w 0 (fun _ => true) true n' 2 (([u0, u1].drop 1).take (Try.prog.cellsOf 2)) = some y1 := hg 1 _ rfl
        rw [show Try.prog.cellsOf 3 = 1 by kernel_rfl] at g0
        rw [show Try.prog.cellsOf 2 = 1 by kernel_rfl] at g1
        obtain ⟨n0, e0, _, wf0⟩ := DataW.trod_int (x := y0) Try.underlying3 g0
        obtain ⟨n1, e1, _, wf1⟩ := DataW.trod_int (x := y1) Try.underlying2 g1
        simp at e0 e1
        subst e0 e1
        exact ⟨(n0, n1), ⟨wf0, wf1⟩, hat 0 (by omega), hat 1 (by omega)⟩
    obtain ⟨L, h1, h2⟩ := exists_list _ l key
    refine ⟨some x, l, _, L, hcs, ?_⟩
    rcases Nat.eq_zero_or_pos l with h0 | h0
    · obtain rfl : L = [] := List.eq_nil_of_length_eq_zero (by omega)
      exact ⟨h1, by omega, by omega, wfL.nil, fun h => by omega⟩
    · obtain ⟨v0, _, z1, _⟩ := key 0 h0
      obtain ⟨b, off, spot⟩ := x
      have hspot : spot = none := by simpa [Addr.add] using World.cell?_spot z1
      subst hspot
      refine TR.of_at h1 (by omega) (by omega) (fun p hp => ?_) (fun k hk => ?_)
      · obtain ⟨j, hj, e⟩ := List.getElem_of_mem hp
        exact (h2 j p (by rw [List.getElem?_eq_getElem hj, e])).1
      · obtain ⟨_, k1, k2⟩ := h2 k _ (tk_some (by omega))
        simp only [Addr.add_lit, Nat.add_zero] at k1 k2
        exact ⟨k1, k2⟩

theorem wheel_of {H : Type} {enc : TypeId × Value → H} {w : World} {r : Reach} {b0 : Nat} {v : Value} {d : DataW H} {p : List MemPlace}
    (hv : Value.okWide Try.prog w r b0 24 v) (h : DataW.Trod enc Try.prog w 0 (fun _ => true) true 24 v d p) :
    ∃ (now : Int) (a : Option Addr) (len cap : Nat) (L : List (Int × Int)), v = .agg #[.int .i64 now, .slice a len cap] ∧ TR w a len cap L := by
  have hc : Try.prog.cellsOf 24 = 2 := by kernel_rfl
  have hc0 : Try.prog.cellsOf 2 = 1 := by kernel_rfl
  have hc1 : Try.prog.cellsOf 22 = 1 := by kernel_rfl
  simp only [Value.okWide, Try.underlying24] at hv
  obtain ⟨cs, rfl, hsz, _⟩ := hv
  obtain ⟨l⟩ := cs
  match l, hsz.trans hc with
  | [c0, c1], _ =>
    obtain ⟨fuel, hf⟩ := h
    obtain ⟨xs, m, _, _, _, hlen, hg⟩ := DataW.trod_struct Try.underlying24 hf
    have g0 := hg 0 _ rfl
    have g1 := hg 1 _ rfl
    match xs, hlen with
    | [y0, y1], _ =>
      have g0' : DataW.trod enc Try.prog w 0 (fun _ => true) true m 2 [c0] = some y0 := by simpa [Value.cells, hc0] using g0
      have g1' : DataW.trod enc Try.prog w 0 (fun _ => true) true m 22 [c1] = some y1 := by simpa [Value.cells, hc1] using g1
      obtain ⟨n1, e1, _, _⟩ := DataW.trod_int Try.underlying2 g0'
      obtain ⟨a, len, cap, L, e0, hb⟩ := timers_trod g1'
      simp at e0 e1
      subst e0 e1
      exact ⟨n1, a, len, cap, L, rfl, hb⟩

theorem two_u16 {H : Type} {enc : TypeId × Value → H} {w : World} {r : Reach} {b0 : Nat} {v : Value} {d : DataW H} {p : List MemPlace}
    (hv : Value.okWide Try.prog w r b0 60 v) (h : DataW.Trod enc Try.prog w 0 (fun _ => true) true 60 v d p) :
    ∃ k0 k1 : Nat, v = .agg #[.int .u16 k0, .int .u16 k1] ∧ k0 < 65536 ∧ k1 < 65536 := by
  have hc : Try.prog.cellsOf 60 = 2 := by kernel_rfl
  have he : Try.prog.cellsOf 57 = 1 := by kernel_rfl
  simp only [Value.okWide, Try.underlying60] at hv
  obtain ⟨cs, rfl, hsz, _⟩ := hv
  obtain ⟨l⟩ := cs
  match l, hsz.trans hc with
  | [c0, c1], _ =>
    obtain ⟨fuel, hf⟩ := h
    obtain ⟨xs, m, _, _, _, hlen, hg⟩ := DataW.trod_array Try.underlying60 hf
    match xs, hlen with
    | [y0, y1], _ =>
      have g0 := hg 0 (by omega)
      have g1 := hg 1 (by omega)
      rw [he] at g0 g1
      have g0' : DataW.trod enc Try.prog w 0 (fun _ => true) true m 57 [c0] = some y0 := by simpa [Value.cells] using g0
      have g1' : DataW.trod enc Try.prog w 0 (fun _ => true) true m 57 [c1] = some y1 := by simpa [Value.cells] using g1
      obtain ⟨s0, e0, _, z0⟩ := DataW.trod_int (x := y0) Try.underlying57 g0'
      obtain ⟨s1, e1, _, z1⟩ := DataW.trod_int (x := y1) Try.underlying57 g1'
      have b0 := bounds_u16 z0
      have b1 := bounds_u16 z1
      simp at e0 e1
      subst e0 e1
      have h0 : ((s0.toNat : Nat) : Int) = s0 := by omega
      have h1 : ((s1.toNat : Nat) : Int) = s1 := by omega
      exact ⟨s0.toNat, s1.toNat, by rw [h0, h1], by omega, by omega⟩

/-- A slice of numbers of 16 bits that came in. -/
def CameU (w : World) (a : Option Addr) (l : List Nat) : Prop := ∀ (j v : Nat), l[j]? = some v → v < 65536 ∧ ∃ g off, a = some ⟨g, off, none⟩ ∧ g < w.heap.size ∧ w.cell? ⟨g, off + j, none⟩ = some (.int .u16 (v : Int))

set_option maxRecDepth 100000 in
theorem pieces_of {H : Type} {enc : TypeId × Value → H} {w : World} {a : Option Addr} {len cap : Nat} {d : DataW H} {p : List MemPlace}
    (h : DataW.Trod enc Try.prog w 0 (fun _ => true) true 56 (.slice a len cap) d p) :
    ∃ l : List Nat, len = l.length ∧ CameU w a l ∧ l.length ≤ maxLen := by
  obtain ⟨fuel, hf⟩ := h
  rcases open_slice Try.underlying56 hf with ⟨hcs, _⟩ | ⟨x, l, c, m, n, D, Pl, hcs, hb, hl, hm, hmm, _, hi⟩
  · simp [Value.cells] at hcs
    obtain ⟨rfl, rfl, rfl⟩ := hcs
    exact ⟨[], rfl, fun j v hv => by simp at hv, Nat.zero_le _⟩
  · simp [Value.cells] at hcs
    obtain ⟨rfl, rfl, rfl⟩ := hcs
    simp only [if_true] at hmm
    subst hmm
    have key : ∀ i, i < len → ∃ v : Nat, v < 65536 ∧ w.cell? ((x.add (i * 1)).add 0) = some (.int .u16 (v : Int)) := by
      intro i hil
      obtain ⟨cs', hc, ht⟩ := hi i (by omega)
      rw [show Try.prog.cellsOf 57 = 1 by kernel_rfl] at hc
      obtain ⟨_, hcl, hat⟩ := World.cells?_some hc
      match cs', hcl with
      | [u0], _ =>
        obtain ⟨n0, e0, _, wf0⟩ := DataW.trod_int Try.underlying57 ht
        have b0 := bounds_u16 wf0
        simp at e0
        subst e0
        refine ⟨n0.toNat, by omega, ?_⟩
        rw [show ((n0.toNat : Nat) : Int) = n0 by omega]
        exact hat 0 (by omega)
    obtain ⟨l, h1, h2⟩ := exists_list _ len key
    refine ⟨l, h1.symm, fun j v hv => ?_, by omega⟩
    have hj : j < len := by rw [← h1]; exact (List.getElem?_eq_some_iff.1 hv).1
    obtain ⟨k1, k2⟩ := h2 j v hv
    obtain ⟨v0, _, z1⟩ := key 0 (by omega)
    obtain ⟨b, off, spot⟩ := x
    have hspot : spot = none := by simpa [Addr.add] using World.cell?_spot z1
    subst hspot
    simp only [Addr.add_lit, Nat.add_zero, Nat.mul_one] at k2
    exact ⟨k1, b, off, rfl, World.block_lt_of_cell? w _ k2, k2⟩

/-- An act. -/
structure ActV where
  kind : Int
  id : Int
  at_ : Int
def ActV.ok (a : ActV) : Prop := (Lit.int .u8 a.kind).wf = true ∧ (Lit.int .i64 a.id).wf = true ∧ (Lit.int .i64 a.at_).wf = true
/-- Acts that came in. -/
def CameA (w : World) (a : Option Addr) (l : List ActV) : Prop := ∀ j v, l[j]? = some v → v.ok ∧ ∃ g off, a = some ⟨g, off, none⟩ ∧ g < w.heap.size ∧ w.cell? ⟨g, off + j * 3, none⟩ = some (.int .u8 v.kind) ∧ w.cell? ⟨g, off + j * 3 + 1, none⟩ = some (.int .i64 v.id) ∧ w.cell? ⟨g, off + j * 3 + 2, none⟩ = some (.int .i64 v.at_)
theorem Try.cellsAct : Try.prog.cellsOf 54 = 3 := by kernel_rfl

set_option maxRecDepth 100000 in
theorem acts_of {H : Type} {enc : TypeId × Value → H} {w : World} {a : Option Addr} {len cap : Nat} {d : DataW H} {p : List MemPlace}
    (h : DataW.Trod enc Try.prog w 0 (fun _ => true) true 52 (.slice a len cap) d p) :
    ∃ acts : List ActV, len = acts.length ∧ CameA w a acts ∧ acts.length ≤ maxLen := by
  obtain ⟨fuel, hf⟩ := h
  rcases open_slice Try.underlying52 hf with ⟨hcs, _⟩ | ⟨x, l, c, m, n, D, Pl, hcs, hb, hl, hm, hmm, _, hi⟩
  · simp [Value.cells] at hcs
    obtain ⟨rfl, rfl, rfl⟩ := hcs
    exact ⟨[], rfl, fun j v hv => by simp at hv, Nat.zero_le _⟩
  · simp [Value.cells] at hcs
    obtain ⟨rfl, rfl, rfl⟩ := hcs
    simp only [if_true] at hmm
    subst hmm
    have key : ∀ i, i < len → ∃ v : ActV, v.ok ∧ w.cell? ((x.add (i * 3)).add 0) = some (.int .u8 v.kind) ∧ w.cell? ((x.add (i * 3)).add 1) = some (.int .i64 v.id) ∧ w.cell? ((x.add (i * 3)).add 2) = some (.int .i64 v.at_) := by
      intro i hil
      obtain ⟨cs', hc, ht⟩ := hi i (by omega)
      rw [Try.cellsAct] at hc
      obtain ⟨xs, n', _, _, _, hxl, hg⟩ := DataW.trod_struct Try.underlying54 ht
      obtain ⟨_, hcl, hat⟩ := World.cells?_some hc
      match cs', hcl, xs, hxl with
      | [u0, u1, u2], _, [y0, y1, y2], _ =>
        have g0 : DataW.trod enc Try.prog w 0 (fun _ => true) true n' 5 (([u0, u1, u2].drop 0).take (Try.prog.cellsOf 5)) = some y0 := hg 0 _ rfl
        have g1 : DataW.trod enc Try.prog w 0 (fun _ => true) true n' 3 (([u0, u1, u2].drop 1).take (Try.prog.cellsOf 3)) = some y1 := hg 1 _ rfl
        have g2 : DataW.trod enc Try.prog w 0 (fun _ => true) true n' 2 (([u0, u1, u2].drop 2).take (Try.prog.cellsOf 2)) = some y2 := hg 2 _ rfl
        rw [show Try.prog.cellsOf 5 = 1 by kernel_rfl] at g0
        rw [show Try.prog.cellsOf 3 = 1 by kernel_rfl] at g1
        rw [show Try.prog.cellsOf 2 = 1 by kernel_rfl] at g2
        obtain ⟨n0, e0, _, wf0⟩ := DataW.trod_int (x := y0) Try.underlying5 g0
        obtain ⟨n1, e1, _, wf1⟩ := DataW.trod_int (x := y1) Try.underlying3 g1
        obtain ⟨n2, e2, _, wf2⟩ := DataW.trod_int (x := y2) Try.underlying2 g2
        simp at e0 e1 e2
        subst e0 e1 e2
        have hok : ActV.ok ⟨n0, n1, n2⟩ := ⟨wf0, wf1, wf2⟩
        exact ⟨⟨n0, n1, n2⟩, hok, hat 0 (by omega), hat 1 (by omega), hat 2 (by omega)⟩
    obtain ⟨acts, h1, h2⟩ := exists_list _ len key
    refine ⟨acts, h1.symm, fun j v hv => ?_, by omega⟩
    have hj : j < len := by rw [← h1]; exact (List.getElem?_eq_some_iff.1 hv).1
    obtain ⟨k1, k2, k3, k4⟩ := h2 j v hv
    obtain ⟨v0, _, z1, _⟩ := key 0 (by omega)
    obtain ⟨b, off, spot⟩ := x
    have hspot : spot = none := by simpa [Addr.add] using World.cell?_spot z1
    subst hspot
    simp only [Addr.add_lit, Nat.add_zero] at k2 k3 k4
    exact ⟨k1, b, off, rfl, World.block_lt_of_cell? w _ k2, k2, k3, k4⟩
end Go.Proofs.Ytgpmgghjcocfmaa
