/-
  Arguments opened: a tally, an act, bytes, eight truth values. No condition.
-/
import Derived.Test.YtjooceaclfdjjaaTyL
import Derived.Test.YtjooceaclfdjjaaOpn
import Derived.OpenShut
import Derived.ProofKit
set_option linter.unusedVariables false
set_option linter.unusedSimpArgs false
namespace Go.Proofs.Ytjooceaclfdjjaa
open Go.RowKit

theorem ty_u8 {k : Int} (h : (Lit.int .u8 k).wf = true) : ∃ m : Nat, k = (m : Int) := by
  have : 0 ≤ k ∧ k ≤ 255 := by simpa [Lit.wf, IntKind.min, IntKind.max, IntKind.signed, IntKind.bits] using h
  exact ⟨k.toNat, by omega⟩
theorem Try.tyb : Try.prog.cellsOf 4 = 1 := by kernel_rfl
theorem Try.tyi : Try.prog.cellsOf 3 = 1 := by kernel_rfl
theorem Try.tyu : Try.prog.cellsOf 5 = 1 := by kernel_rfl
theorem Try.tyB : Try.prog.cellsOf 22 = 8 := by kernel_rfl
theorem Try.tyI : Try.prog.cellsOf 23 = 8 := by kernel_rfl
theorem Try.tyT : Try.prog.cellsOf 25 = 24 := by kernel_rfl
theorem Try.tyA : Try.prog.cellsOf 27 = 4 := by kernel_rfl

theorem pick8 {α : Type} {c : α → Value} {cs : List Value} (hl : cs.length = 8) (d : α) (h : ∀ i, i < 8 → ∃ b, cs[i]? = some (c b)) : ∃ f : Nat → α, ∀ i, i < 8 → cs[i]? = some (c (f i)) := by
  have h' : ∀ i, ∃ b, i < 8 → cs[i]? = some (c b) := fun i => by
    by_cases e : i < 8
    · obtain ⟨b, hb⟩ := h i e; exact ⟨b, fun _ => hb⟩
    · exact ⟨d, fun e' => absurd e' e⟩
  exact ⟨fun i => Classical.choose (h' i), fun i => Classical.choose_spec (h' i)⟩
theorem bools_of {H : Type} {enc : TypeId × Value → H} {w : World} {m : Nat} {cs : List Value} {y : DataW H × List MemPlace} (hl : cs.length = 8)
    (hf : DataW.trod enc Try.prog w 0 (fun _ => true) true m 22 cs = some y) : ∃ f : Nat → Bool, cs = (bA f).toList := by
  obtain ⟨xs, m', _, _, _, hx, hg⟩ := DataW.trod_array Try.underlying22 hf
  obtain ⟨f, hf⟩ := pick8 (c := Value.bool) hl false fun i hi => by
    have g := hg i hi
    rw [Try.tyb, List.getElem?_eq_getElem (show i < xs.length by omega)] at g
    obtain ⟨b, e, _⟩ := DataW.trod_bool Try.underlying4 g
    have := congrArg (·[0]?) e
    exact ⟨b, by simpa using this⟩
  refine ⟨f, List.ext_getElem? fun i => ?_⟩
  by_cases hi : i < 8
  · rw [hf i hi, Array.getElem?_toList, bA_get f hi]
  · rw [List.getElem?_eq_none (by omega), List.getElem?_eq_none (by simp [bA_size]; omega)]
theorem ints_of {H : Type} {enc : TypeId × Value → H} {w : World} {m : Nat} {cs : List Value} {y : DataW H × List MemPlace} (hl : cs.length = 8)
    (hf : DataW.trod enc Try.prog w 0 (fun _ => true) true m 23 cs = some y) : ∃ f : Nat → Int, cs = (iA f).toList := by
  obtain ⟨xs, m', _, _, _, hx, hg⟩ := DataW.trod_array Try.underlying23 hf
  obtain ⟨f, hf⟩ := pick8 (c := Value.int .i64) hl 0 fun i hi => by
    have g := hg i hi
    rw [Try.tyi, List.getElem?_eq_getElem (show i < xs.length by omega)] at g
    obtain ⟨b, e, _⟩ := DataW.trod_int Try.underlying3 g
    have := congrArg (·[0]?) e
    exact ⟨b, by simpa using this⟩
  refine ⟨f, List.ext_getElem? fun i => ?_⟩
  by_cases hi : i < 8
  · rw [hf i hi, Array.getElem?_toList, iA_get f hi]
  · rw [List.getElem?_eq_none (by omega), List.getElem?_eq_none (by simp [iA_size]; omega)]

theorem tally_of {H : Type} {enc : TypeId × Value → H} {w : World} {r : Reach} {b0 : Nat} {v : Value} {d : DataW H} {p : List MemPlace}
    (hv : Value.okWide Try.prog w r b0 25 v) (h : DataW.Trod enc Try.prog w 0 (fun _ => true) true 25 v d p) :
    ∃ S : Ty, v = .agg (tA S) := by
  simp only [Value.okWide, Try.underlying25] at hv
  obtain ⟨cs, rfl, hsz, _⟩ := hv
  obtain ⟨l⟩ := cs
  obtain ⟨fuel, hf⟩ := h
  obtain ⟨xs, n', _, _, _, hxl, hg⟩ := DataW.trod_struct Try.underlying25 hf
  have hl : l.length = 24 := by simpa using hsz.trans Try.tyT
  match xs, hxl with
  | [y0, y1, y2], _ =>
    have g0 : DataW.trod enc Try.prog w 0 (fun _ => true) true n' 22 ((l.drop 0).take (Try.prog.cellsOf 22)) = some y0 := hg 0 _ rfl
    have g1 : DataW.trod enc Try.prog w 0 (fun _ => true) true n' 23 ((l.drop 8).take (Try.prog.cellsOf 23)) = some y1 := hg 1 _ rfl
    have g2 : DataW.trod enc Try.prog w 0 (fun _ => true) true n' 23 ((l.drop 16).take (Try.prog.cellsOf 23)) = some y2 := hg 2 _ rfl
    rw [Try.tyB] at g0
    rw [Try.tyI] at g1 g2
    obtain ⟨f0, e0⟩ := bools_of (by simp; omega) g0
    obtain ⟨f1, e1⟩ := ints_of (by simp; omega) g1
    obtain ⟨f2, e2⟩ := ints_of (by simp; omega) g2
    refine ⟨⟨f0, f1, f2⟩, ?_⟩
    have : l = (tA ⟨f0, f1, f2⟩).toList := by
      have s1 : l = (l.drop 0).take 8 ++ ((l.drop 8).take 8 ++ (l.drop 16).take 8) := by
        apply List.ext_getElem?
        intro i
        by_cases a1 : i < 8
        · rw [List.getElem?_append_left (by simp; omega)]
          simp [List.getElem?_take, a1]
        · rw [List.getElem?_append_right (by simp; omega)]
          by_cases a2 : i < 16
          · rw [List.getElem?_append_left (by simp; omega), List.getElem?_take, if_pos (by simp; omega), List.getElem?_drop]
            congr 1
            simp
            omega
          · rw [List.getElem?_append_right (by simp; omega), List.getElem?_take]
            split
            · rw [List.getElem?_drop]
              congr 1
              simp
              omega
            · rename_i a3
              rw [List.getElem?_eq_none]
              simp at a3
              omega
      rw [s1, e0, e1, e2]
      rfl
    rw [this]
theorem act_of {H : Type} {enc : TypeId × Value → H} {w : World} {r : Reach} {b0 : Nat} {v : Value} {d : DataW H} {p : List MemPlace}
    (hv : Value.okWide Try.prog w r b0 27 v) (h : DataW.Trod enc Try.prog w 0 (fun _ => true) true 27 v d p) :
    ∃ a : Ay, v = .agg (aA a) := by
  simp only [Value.okWide, Try.underlying27] at hv
  obtain ⟨cs, rfl, hsz, _⟩ := hv
  obtain ⟨l⟩ := cs
  obtain ⟨fuel, hf⟩ := h
  obtain ⟨xs, n', _, _, _, hxl, hg⟩ := DataW.trod_struct Try.underlying27 hf
  match l, hsz.trans Try.tyA, xs, hxl with
  | [u0, u1, u2, u3], _, [y0, y1, y2, y3], _ =>
    have g0 : DataW.trod enc Try.prog w 0 (fun _ => true) true n' 4 (([u0, u1, u2, u3].drop 0).take (Try.prog.cellsOf 4)) = some y0 := hg 0 _ rfl
    have g1 : DataW.trod enc Try.prog w 0 (fun _ => true) true n' 5 (([u0, u1, u2, u3].drop 1).take (Try.prog.cellsOf 5)) = some y1 := hg 1 _ rfl
    have g2 : DataW.trod enc Try.prog w 0 (fun _ => true) true n' 3 (([u0, u1, u2, u3].drop 2).take (Try.prog.cellsOf 3)) = some y2 := hg 2 _ rfl
    have g3 : DataW.trod enc Try.prog w 0 (fun _ => true) true n' 3 (([u0, u1, u2, u3].drop 3).take (Try.prog.cellsOf 3)) = some y3 := hg 3 _ rfl
    rw [Try.tyb] at g0
    rw [Try.tyu] at g1
    rw [Try.tyi] at g2 g3
    obtain ⟨n0, e0, _⟩ := DataW.trod_bool (x := y0) Try.underlying4 g0
    obtain ⟨n1, e1, _, z1⟩ := DataW.trod_int (x := y1) Try.underlying5 g1
    obtain ⟨n2, e2, _, z2⟩ := DataW.trod_int (x := y2) Try.underlying3 g2
    obtain ⟨n3, e3, _, z3⟩ := DataW.trod_int (x := y3) Try.underlying3 g3
    obtain ⟨k, rfl⟩ := ty_u8 z1
    simp at e0 e1 e2 e3
    subst e0 e1 e2 e3
    exact ⟨⟨n0, k, n2, n3⟩, rfl⟩
theorem u8s_of {H : Type} {enc : TypeId × Value → H} {w : World} {a : Option Addr} {len cap : Nat} {d : DataW H} {p : List MemPlace}
    (h : DataW.Trod enc Try.prog w 0 (fun _ => true) true 28 (.slice a len cap) d p) : ∃ L : List Nat, RR w uc 1 a len cap L := by
  obtain ⟨L, hL, _⟩ := row_of (c := uc) (s := 1) (fun _ => True) Try.underlying28 Try.tyu (fun m cs y hl hf => by
    obtain ⟨n0, e0, _, wf0⟩ := DataW.trod_int Try.underlying5 hf
    subst e0
    obtain ⟨k, rfl⟩ := ty_u8 wf0
    exact ⟨k, trivial, rfl⟩) h
  exact ⟨L, hL⟩
theorem ty_u8b {k : Int} (h : (Lit.int .u8 k).wf = true) : ∃ m : Nat, m < 256 ∧ k = (m : Int) := by
  have : 0 ≤ k ∧ k ≤ 255 := by simpa [Lit.wf, IntKind.min, IntKind.max, IntKind.signed, IntKind.bits] using h
  exact ⟨k.toNat, by omega, by omega⟩
theorem u8b_of {H : Type} {enc : TypeId × Value → H} {w : World} {a : Option Addr} {len cap : Nat} {d : DataW H} {p : List MemPlace}
    (h : DataW.Trod enc Try.prog w 0 (fun _ => true) true 28 (.slice a len cap) d p) : ∃ L : List Nat, RR w uc 1 a len cap L ∧ ∀ x ∈ L, x < 256 :=
  row_of (c := uc) (s := 1) (fun x => x < 256) Try.underlying28 Try.tyu (fun m cs y hl hf => by
    obtain ⟨n0, e0, _, wf0⟩ := DataW.trod_int Try.underlying5 hf
    subst e0
    obtain ⟨k, hk, rfl⟩ := ty_u8b wf0
    exact ⟨k, hk, rfl⟩) h
theorem votes_of {H : Type} {enc : TypeId × Value → H} {w : World} {r : Reach} {b0 : Nat} {v : Value} {d : DataW H} {p : List MemPlace}
    (hv : Value.okWide Try.prog w r b0 22 v) (h : DataW.Trod enc Try.prog w 0 (fun _ => true) true 22 v d p) : ∃ f : Nat → Bool, v = .agg (bA f) := by
  simp only [Value.okWide, Try.underlying22] at hv
  obtain ⟨cs, rfl, hsz, _⟩ := hv
  obtain ⟨l⟩ := cs
  obtain ⟨fuel, hf⟩ := h
  obtain ⟨f, e⟩ := bools_of (by simpa using hsz.trans Try.tyB) (by simpa [Value.cells] using hf)
  exact ⟨f, by rw [e]⟩
end Go.Proofs.Ytjooceaclfdjjaa
