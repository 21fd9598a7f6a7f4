/-
  Arguments of layer 4's laws that came in: a disk, an array of two numbers of 16 bits. No condition.
-/
import Derived.Test.YtdelllkgllfcdaaSumO
import Derived.ChangeArms
import Derived.Deep.Strs
namespace Go.Proofs.Ytdelllkgllfcdaa
open Go.RowKit Go.ChangeShapes Go.WideShapes Go.Deep

theorem disk_of {H : Type} {enc : TypeId × Value → H} {w : World} {r : Reach} {b0 : Nat} {v : Value} {d : DataW H} {p : List MemPlace}
    (hv : Value.okWide Try.prog w r b0 24 v) (h : DataW.Trod enc Try.prog w 0 (fun _ => true) true 24 v d p) :
    ∃ (a : Option Addr) (len cap : Nat) (s r : Int) (bs : List UInt8), v = .agg #[.slice a len cap, .int .i64 s, .int .i64 r] ∧ BR w w.heap.size a len cap bs := by
  have hc : Try.prog.cellsOf 24 = 3 := by kernel_rfl
  have hc0 : Try.prog.cellsOf 22 = 1 := by kernel_rfl
  have hc1 : Try.prog.cellsOf 3 = 1 := by kernel_rfl
  simp only [Value.okWide, Try.underlying24] at hv
  obtain ⟨cs, rfl, hsz, _⟩ := hv
  obtain ⟨l⟩ := cs
  match l, hsz.trans hc with
  | [c0, c1, c2], _ =>
    obtain ⟨fuel, hf⟩ := h
    obtain ⟨xs, m, _, _, _, hlen, hg⟩ := DataW.trod_struct Try.underlying24 hf
    have g0 := hg 0 _ rfl
    have g1 := hg 1 _ rfl
    have g2 := hg 2 _ rfl
    match xs, hlen with
    | [y0, y1, y2], _ =>
      have g0' : DataW.trod enc Try.prog w 0 (fun _ => true) true m 22 [c0] = some y0 := by simpa [Value.cells, hc0] using g0
      have g1' : DataW.trod enc Try.prog w 0 (fun _ => true) true m 3 [c1] = some y1 := by simpa [Value.cells, hc1] using g1
      have g2' : DataW.trod enc Try.prog w 0 (fun _ => true) true m 3 [c2] = some y2 := by simpa [Value.cells, hc1] using g2
      obtain ⟨a, len, cap, e0, bs, hb⟩ := bytes_trod g0'
      obtain ⟨n1, e1, _, _⟩ := DataW.trod_int Try.underlying3 g1'
      obtain ⟨n2, e2, _, _⟩ := DataW.trod_int Try.underlying3 g2'
      simp at e0 e1 e2
      subst e0 e1 e2
      exact ⟨a, len, cap, n1, n2, bs, rfl, hb⟩

theorem two_u16 {H : Type} {enc : TypeId × Value → H} {w : World} {r : Reach} {b0 : Nat} {v : Value} {d : DataW H} {p : List MemPlace}
    (hv : Value.okWide Try.prog w r b0 50 v) (h : DataW.Trod enc Try.prog w 0 (fun _ => true) true 50 v d p) :
    ∃ k0 k1 : Nat, v = .agg #[.int .u16 k0, .int .u16 k1] ∧ k0 < 65536 ∧ k1 < 65536 := by
  have hc : Try.prog.cellsOf 50 = 2 := by kernel_rfl
  have he : Try.prog.cellsOf 25 = 1 := by kernel_rfl
  simp only [Value.okWide, Try.underlying50] at hv
  obtain ⟨cs, rfl, hsz, _⟩ := hv
  obtain ⟨l⟩ := cs
  match l, hsz.trans hc with
  | [c0, c1], _ =>
    obtain ⟨fuel, hf⟩ := h
    obtain ⟨xs, m, _, _, _, hlen, hg⟩ := DataW.trod_array Try.underlying50 hf
    match xs, hlen with
    | [y0, y1], _ =>
      have g0 := hg 0 (by omega)
      have g1 := hg 1 (by omega)
      rw [he] at g0 g1
      have g0' : DataW.trod enc Try.prog w 0 (fun _ => true) true m 25 [c0] = some y0 := by simpa [Value.cells] using g0
      have g1' : DataW.trod enc Try.prog w 0 (fun _ => true) true m 25 [c1] = some y1 := by simpa [Value.cells] using g1
      obtain ⟨s0, e0, _, z0⟩ := DataW.trod_int (x := y0) Try.underlying25 g0'
      obtain ⟨s1, e1, _, z1⟩ := DataW.trod_int (x := y1) Try.underlying25 g1'
      have b0 := bounds_u16 z0
      have b1 := bounds_u16 z1
      simp at e0 e1
      subst e0 e1
      have h0 : ((s0.toNat : Nat) : Int) = s0 := by omega
      have h1 : ((s1.toNat : Nat) : Int) = s1 := by omega
      exact ⟨s0.toNat, s1.toNat, by rw [h0, h1], by omega, by omega⟩
end Go.Proofs.Ytdelllkgllfcdaa
