/-
  Arguments of layer 7's laws that came in: holds, an act, acts, an array of two numbers of 16 bits, a slice of such numbers. No condition.
-/
import Derived.Test.YtifppmpknnpmpaaLkA
import Derived.ProofKit
import Derived.OpenShut
import Derived.Deep.Slices
import Derived.Deep.Fields
import Derived.ChangeArms
set_option linter.unusedVariables false
set_option linter.unusedSimpArgs false
namespace Go.Proofs.Ytifppmpknnpmpaa
open Go.RowKit Go.ChangeShapes Go.WideShapes Go.Deep

theorem exists_list {α : Type} (P : Nat → α → Prop) : ∀ n : Nat, (∀ i, i < n → ∃ v, P i v) → ∃ l : List α, l.length = n ∧ ∀ (j : Nat) (v : α), l[j]? = some v → P j v
  | 0, _ => ⟨[], rfl, fun j v hv => by simp at hv⟩
  | n + 1, h => by
    obtain ⟨l, h1, h2⟩ := exists_list P n (fun i hi => h i (by omega))
    obtain ⟨v, hv⟩ := h n (by omega)
    refine ⟨l ++ [v], by simp [h1], fun j u hu => ?_⟩
    by_cases hj : j < l.length
    · rw [List.getElem?_append_left hj] at hu
      exact h2 j u hu
    · rw [List.getElem?_append_right (by omega)] at hu
      obtain ⟨hlt, he⟩ := List.getElem?_eq_some_iff.1 hu
      simp at hlt he
      obtain rfl : j = n := by omega
      rw [← he]
      exact hv

/-- A slice whose elements are each written as s cells, opened. -/
theorem row_of {α : Type} {c : α → List Value} {s : Nat} [Nonempty (EncOk c s)] {H : Type} {enc : TypeId × Value → H} {w : World} {a : Option Addr} {len cap : Nat} {d : DataW H} {p : List MemPlace} {t e : TypeId} (q : α → Prop)
    (ht : Try.prog.underlying t = some (.slice e)) (hs : Try.prog.cellsOf e = s)
    (hone : ∀ (m : Nat) (cs : List Value) (y : DataW H × List MemPlace), cs.length = s → DataW.trod enc Try.prog w 0 (fun _ => true) true m e cs = some y → ∃ x, q x ∧ cs = c x)
    (h : DataW.Trod enc Try.prog w 0 (fun _ => true) true t (.slice a len cap) d p) :
    ∃ L : List α, RR w c s a len cap L ∧ ∀ x ∈ L, q x := by
  obtain ⟨fuel, hf⟩ := h
  rcases open_slice ht hf with ⟨hcs, _⟩ | ⟨x, l, c', m, n, D, Pl, hcs, hb, hl, hm, hmm, _, hi⟩
  · simp [Value.cells] at hcs
    obtain ⟨rfl, rfl, rfl⟩ := hcs
    exact ⟨[], RR.nil _ _ _, by simp⟩
  · simp [Value.cells] at hcs
    obtain ⟨rfl, rfl, rfl⟩ := hcs
    simp only [if_true] at hmm
    subst hmm
    have key : ∀ i, i < len → ∃ v : α, q v ∧ ∀ (j : Nat) (u : Value), (c v)[j]? = some u → w.cell? ((x.add (i * s)).add j) = some u := by
      intro i hil
      obtain ⟨cs', hc, ht⟩ := hi i (by omega)
      rw [hs] at hc
      obtain ⟨_, hcl, hat⟩ := World.cells?_some hc
      obtain ⟨v, hq, rfl⟩ := hone _ _ _ hcl ht
      refine ⟨v, hq, fun j u hu => ?_⟩
      rw [hat j (by rw [← hcl]; exact (List.getElem?_eq_some_iff.1 hu).1)]
      exact hu
    obtain ⟨L, h1, h2⟩ := exists_list _ len key
    refine ⟨L, ?_, fun v hv => ?_⟩
    · rcases Nat.eq_zero_or_pos len with h0 | h0
      · obtain rfl : L = [] := List.eq_nil_of_length_eq_zero (by omega)
        exact ⟨h1, by omega, by omega, fun h => by omega⟩
      · obtain ⟨v0, _, z1⟩ := key 0 h0
        have hl0 : 0 < (c v0).length := by rw [encLen (s := s)]; exact encPos c
        have z1 := z1 0 _ (List.getElem?_eq_getElem hl0)
        obtain ⟨b, off, spot⟩ := x
        have hspot : spot = none := by simpa [Addr.add] using World.cell?_spot z1
        subst hspot
        refine RR.of_at h1 (by omega) (by omega) fun k x hx i v hv => ?_
        have := (h2 k x hx).2 i v hv
        simpa only [Addr.add_lit] using this
    · obtain ⟨j, hj, rfl⟩ := List.getElem_of_mem hv
      exact (h2 j _ (List.getElem?_eq_getElem hj)).1

theorem Try.c8 : Try.prog.cellsOf 5 = 1 := by kernel_rfl
theorem Try.ci : Try.prog.cellsOf 3 = 1 := by kernel_rfl
theorem Try.cb : Try.prog.cellsOf 4 = 1 := by kernel_rfl
theorem Try.c16 : Try.prog.cellsOf 50 = 1 := by kernel_rfl
theorem Try.cH : Try.prog.cellsOf 47 = 3 := by kernel_rfl
theorem Try.cA : Try.prog.cellsOf 24 = 4 := by kernel_rfl

set_option maxRecDepth 100000 in
theorem holds_of {H : Type} {enc : TypeId × Value → H} {w : World} {a : Option Addr} {len cap : Nat} {d : DataW H} {p : List MemPlace}
    (h : DataW.Trod enc Try.prog w 0 (fun _ => true) true 22 (.slice a len cap) d p) :
    ∃ L : List Hd, HR w a len cap L := by
  obtain ⟨L, h1, _⟩ := row_of (c := hc) (s := 3) (fun _ => True) Try.underlying22 Try.cH (fun m cs y hl hf => by
    obtain ⟨xs, n', _, _, _, hxl, hg⟩ := DataW.trod_struct Try.underlying47 hf
    match cs, hl, xs, hxl with
    | [u0, u1, u2], _, [y0, y1, y2], _ =>
      have g0 : DataW.trod enc Try.prog w 0 (fun _ => true) true n' 5 (([u0, u1, u2].drop 0).take (Try.prog.cellsOf 5)) = some y0 := hg 0 _ rfl
      have g1 : DataW.trod enc Try.prog w 0 (fun _ => true) true n' 3 (([u0, u1, u2].drop 1).take (Try.prog.cellsOf 3)) = some y1 := hg 1 _ rfl
      have g2 : DataW.trod enc Try.prog w 0 (fun _ => true) true n' 4 (([u0, u1, u2].drop 2).take (Try.prog.cellsOf 4)) = some y2 := hg 2 _ rfl
      rw [Try.c8] at g0
      rw [Try.ci] at g1
      rw [Try.cb] at g2
      obtain ⟨n0, e0, _, _⟩ := DataW.trod_int (x := y0) Try.underlying5 g0
      obtain ⟨n1, e1, _, _⟩ := DataW.trod_int (x := y1) Try.underlying3 g1
      obtain ⟨n2, e2, _⟩ := DataW.trod_bool (x := y2) Try.underlying4 g2
      simp at e0 e1 e2
      subst e0 e1 e2
      exact ⟨⟨n0, n1, n2⟩, trivial, rfl⟩) h
  exact ⟨L, h1⟩
/-- An act. -/
structure ActV where
  kind : Int
  tx : Int
  key : Int
  w : Bool
def ac (x : ActV) : List Value := [.int .u8 x.kind, .int .i64 x.tx, .int .u8 x.key, .bool x.w]
instance : Nonempty (EncOk ac 4) := ⟨⟨fun _ => rfl, fun x u hu => by
  simp [ac] at hu
  rcases hu with rfl | rfl | rfl | rfl <;> rfl, by omega⟩⟩
abbrev av (x : ActV) : Value := .agg #[.int .u8 x.kind, .int .i64 x.tx, .int .u8 x.key, .bool x.w]

set_option maxRecDepth 100000 in
theorem act_trod {H : Type} {enc : TypeId × Value → H} {w : World} (m : Nat) (cs : List Value) (y : DataW H × List MemPlace) (hl : cs.length = 4) (hf : DataW.trod enc Try.prog w 0 (fun _ => true) true m 24 cs = some y) :
    ∃ x : ActV, (0 ≤ x.kind ∧ x.kind ≤ 255) ∧ cs = ac x := by
  obtain ⟨xs, n', _, _, _, hxl, hg⟩ := DataW.trod_struct Try.underlying24 hf
  match cs, hl, xs, hxl with
  | [u0, u1, u2, u3], _, [y0, y1, y2, y3], _ =>
    have g0 : DataW.trod enc Try.prog w 0 (fun _ => true) true n' 5 (([u0, u1, u2, u3].drop 0).take (Try.prog.cellsOf 5)) = some y0 := hg 0 _ rfl
    have g1 : DataW.trod enc Try.prog w 0 (fun _ => true) true n' 3 (([u0, u1, u2, u3].drop 1).take (Try.prog.cellsOf 3)) = some y1 := hg 1 _ rfl
    have g2 : DataW.trod enc Try.prog w 0 (fun _ => true) true n' 5 (([u0, u1, u2, u3].drop 2).take (Try.prog.cellsOf 5)) = some y2 := hg 2 _ rfl
    have g3 : DataW.trod enc Try.prog w 0 (fun _ => true) true n' 4 (([u0, u1, u2, u3].drop 3).take (Try.prog.cellsOf 4)) = some y3 := hg 3 _ rfl
    rw [Try.c8] at g0 g2
    rw [Try.ci] at g1
    rw [Try.cb] at g3
    obtain ⟨n0, e0, _, z0⟩ := DataW.trod_int (x := y0) Try.underlying5 g0
    obtain ⟨n1, e1, _, _⟩ := DataW.trod_int (x := y1) Try.underlying3 g1
    obtain ⟨n2, e2, _, _⟩ := DataW.trod_int (x := y2) Try.underlying5 g2
    obtain ⟨n3, e3, _⟩ := DataW.trod_bool (x := y3) Try.underlying4 g3
    simp at e0 e1 e2 e3
    subst e0 e1 e2 e3
    exact ⟨⟨n0, n1, n2, n3⟩, bounds_u8 z0, rfl⟩
theorem acts_of {H : Type} {enc : TypeId × Value → H} {w : World} {a : Option Addr} {len cap : Nat} {d : DataW H} {p : List MemPlace}
    (h : DataW.Trod enc Try.prog w 0 (fun _ => true) true 43 (.slice a len cap) d p) :
    ∃ L : List ActV, RR w ac 4 a len cap L ∧ ∀ x ∈ L, 0 ≤ x.kind ∧ x.kind ≤ 255 :=
  row_of (c := ac) (s := 4) _ Try.underlying43 Try.cA act_trod h
theorem act_of {H : Type} {enc : TypeId × Value → H} {w : World} {r : Reach} {b0 : Nat} {v : Value} {d : DataW H} {p : List MemPlace}
    (hv : Value.okWide Try.prog w r b0 24 v) (h : DataW.Trod enc Try.prog w 0 (fun _ => true) true 24 v d p) :
    ∃ x : ActV, v = av x := by
  simp only [Value.okWide, Try.underlying24] at hv
  obtain ⟨cs, rfl, hsz, _⟩ := hv
  obtain ⟨l⟩ := cs
  obtain ⟨fuel, hf⟩ := h
  obtain ⟨x, _, hx⟩ := act_trod fuel l _ (hsz.trans Try.cA) hf
  exact ⟨x, by rw [hx]; rfl⟩

def uc (x : Nat) : List Value := [.int .u16 (x : Int)]
instance : Nonempty (EncOk uc 1) := ⟨⟨fun _ => rfl, fun x u hu => by
  simp [uc] at hu
  subst hu
  rfl, by omega⟩⟩
theorem u16s_of {H : Type} {enc : TypeId × Value → H} {w : World} {a : Option Addr} {len cap : Nat} {d : DataW H} {p : List MemPlace}
    (h : DataW.Trod enc Try.prog w 0 (fun _ => true) true 48 (.slice a len cap) d p) :
    ∃ L : List Nat, RR w uc 1 a len cap L ∧ ∀ x ∈ L, x < 65536 :=
  row_of (c := uc) (s := 1) _ Try.underlying48 Try.c16 (fun m cs y hl hf => by
    obtain ⟨n0, e0, _, wf0⟩ := DataW.trod_int Try.underlying50 hf
    have b0 := bounds_u16 wf0
    subst e0
    refine ⟨n0.toNat, by omega, ?_⟩
    unfold uc
    rw [show ((n0.toNat : Nat) : Int) = n0 by omega]) h

theorem two_u16 {H : Type} {enc : TypeId × Value → H} {w : World} {r : Reach} {b0 : Nat} {v : Value} {d : DataW H} {p : List MemPlace}
    (hv : Value.okWide Try.prog w r b0 53 v) (h : DataW.Trod enc Try.prog w 0 (fun _ => true) true 53 v d p) :
    ∃ k0 k1 : Nat, v = .agg #[.int .u16 k0, .int .u16 k1] ∧ k0 < 65536 ∧ k1 < 65536 := by
  have hc : Try.prog.cellsOf 53 = 2 := by kernel_rfl
  simp only [Value.okWide, Try.underlying53] at hv
  obtain ⟨cs, rfl, hsz, _⟩ := hv
  obtain ⟨l⟩ := cs
  match l, hsz.trans hc with
  | [c0, c1], _ =>
    obtain ⟨fuel, hf⟩ := h
    obtain ⟨xs, m, _, _, _, hlen, hg⟩ := DataW.trod_array Try.underlying53 hf
    match xs, hlen with
    | [y0, y1], _ =>
      have g0 := hg 0 (by omega)
      have g1 := hg 1 (by omega)
      rw [Try.c16] at g0 g1
      have g0' : DataW.trod enc Try.prog w 0 (fun _ => true) true m 50 [c0] = some y0 := by simpa [Value.cells] using g0
      have g1' : DataW.trod enc Try.prog w 0 (fun _ => true) true m 50 [c1] = some y1 := by simpa [Value.cells] using g1
      obtain ⟨s0, e0, _, z0⟩ := DataW.trod_int (x := y0) Try.underlying50 g0'
      obtain ⟨s1, e1, _, z1⟩ := DataW.trod_int (x := y1) Try.underlying50 g1'
      have b0 := bounds_u16 z0
      have b1 := bounds_u16 z1
      simp at e0 e1
      subst e0 e1
      have h0 : ((s0.toNat : Nat) : Int) = s0 := by omega
      have h1 : ((s1.toNat : Nat) : Int) = s1 := by omega
      exact ⟨s0.toNat, s1.toNat, by rw [h0, h1], by omega, by omega⟩
end Go.Proofs.Ytifppmpknnpmpaa
