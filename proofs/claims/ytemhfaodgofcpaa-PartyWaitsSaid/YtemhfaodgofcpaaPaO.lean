/-
  Arguments of layer 16's laws that came in: a packet, steps, texts, bytes. No condition.
-/
import Derived.Test.YtemhfaodgofcpaaPaA
import Derived.Test.YtemhfaodgofcpaaOpn
set_option linter.unusedVariables false
set_option linter.unusedSimpArgs false
set_option linter.constructorNameAsVariable false
namespace Go.Proofs.Ytemhfaodgofcpaa
open Go.RowKit Go.ChangeShapes Go.WideShapes Go.Deep

theorem Try.cn : Try.prog.cellsOf 3 = 1 := by kernel_rfl
theorem Try.cs : Try.prog.cellsOf 9 = 1 := by kernel_rfl
theorem Try.c8 : Try.prog.cellsOf 5 = 1 := by kernel_rfl
theorem Try.c16 : Try.prog.cellsOf 43 = 1 := by kernel_rfl
theorem Try.cP : Try.prog.cellsOf 23 = 2 := by kernel_rfl
theorem Try.cS : Try.prog.cellsOf 45 = 3 := by kernel_rfl
theorem bnd_u8 {n : Int} (h : (Lit.int .u8 n).wf = true) : 0 ≤ n ∧ n ≤ 255 := by
  have e1 : IntKind.u8.min = 0 := by decide
  have e2 : IntKind.u8.max = 255 := by decide
  have h : (decide (IntKind.u8.min ≤ n) && decide (n ≤ IntKind.u8.max)) = true := h
  rw [e1, e2] at h
  simpa using h
theorem bnd_u16 {n : Int} (h : (Lit.int .u16 n).wf = true) : 0 ≤ n ∧ n ≤ 65535 := by
  have e1 : IntKind.u16.min = 0 := by decide
  have e2 : IntKind.u16.max = 65535 := by decide
  have h : (decide (IntKind.u16.min ≤ n) && decide (n ≤ IntKind.u16.max)) = true := h
  rw [e1, e2] at h
  simpa using h
theorem nat_of {n : Int} (h : 0 ≤ n) : ∃ t : Nat, n = (t : Int) := ⟨n.toNat, by omega⟩
theorem word_of {n : Int} (h : (Lit.int .u16 n).wf = true) : ∃ t : Nat, n = (t : Int) ∧ t < 65536 := by
  have b := bnd_u16 h
  obtain ⟨t, rfl⟩ := nat_of b.1
  exact ⟨t, rfl, by omega⟩
set_option maxRecDepth 100000 in
theorem pkt_trod {H : Type} {enc : TypeId × Value → H} {w : World} (m : Nat) (cs : List Value) (y : DataW H × List MemPlace) (hl : cs.length = 2) (hf : DataW.trod enc Try.prog w 0 (fun _ => true) true m 23 cs = some y) :
    ∃ x : Pk, True ∧ cs = pcl x := by
  obtain ⟨xs, n', _, _, _, hxl, hg⟩ := DataW.trod_struct Try.underlying23 hf
  match cs, hl, xs, hxl with
  | [u0, u1], _, [y0, y1], _ =>
    have g0 : DataW.trod enc Try.prog w 0 (fun _ => true) true n' 3 (([u0, u1].drop 0).take (Try.prog.cellsOf 3)) = some y0 := hg 0 _ rfl
    rw [Try.cn] at g0
    have g1 : DataW.trod enc Try.prog w 0 (fun _ => true) true n' 9 (([u0, u1].drop 1).take (Try.prog.cellsOf 9)) = some y1 := hg 1 _ rfl
    rw [Try.cs] at g1
    obtain ⟨n0, e0, _, z0⟩ := DataW.trod_int (x := y0) Try.underlying3 g0
    obtain ⟨n1, e1, _⟩ := DataW.trod_string (x := y1) Try.underlying9 g1
    simp at e0 e1
    subst e0 e1
    exact ⟨⟨n0, n1⟩, trivial, rfl⟩
set_option maxRecDepth 100000 in
theorem step_trod {H : Type} {enc : TypeId × Value → H} {w : World} (m : Nat) (cs : List Value) (y : DataW H × List MemPlace) (hl : cs.length = 3) (hf : DataW.trod enc Try.prog w 0 (fun _ => true) true m 45 cs = some y) :
    ∃ x : Sp, (x.kd < 256 ∧ x.at_ < 65536) ∧ cs = zcl x := by
  obtain ⟨xs, n', _, _, _, hxl, hg⟩ := DataW.trod_struct Try.underlying45 hf
  match cs, hl, xs, hxl with
  | [u0, u1, u2], _, [y0, y1, y2], _ =>
    have g0 : DataW.trod enc Try.prog w 0 (fun _ => true) true n' 5 (([u0, u1, u2].drop 0).take (Try.prog.cellsOf 5)) = some y0 := hg 0 _ rfl
    rw [Try.c8] at g0
    have g1 : DataW.trod enc Try.prog w 0 (fun _ => true) true n' 9 (([u0, u1, u2].drop 1).take (Try.prog.cellsOf 9)) = some y1 := hg 1 _ rfl
    rw [Try.cs] at g1
    have g2 : DataW.trod enc Try.prog w 0 (fun _ => true) true n' 43 (([u0, u1, u2].drop 2).take (Try.prog.cellsOf 43)) = some y2 := hg 2 _ rfl
    rw [Try.c16] at g2
    obtain ⟨n0, e0, _, z0⟩ := DataW.trod_int (x := y0) Try.underlying5 g0
    obtain ⟨n1, e1, _⟩ := DataW.trod_string (x := y1) Try.underlying9 g1
    obtain ⟨n2, e2, _, z2⟩ := DataW.trod_int (x := y2) Try.underlying43 g2
    simp at e0 e1 e2
    subst e0 e1 e2
    have b0 := bnd_u8 z0
    have b2 := bnd_u16 z2
    obtain ⟨k, rfl⟩ := nat_of b0.1
    obtain ⟨q, rfl⟩ := nat_of b2.1
    exact ⟨⟨k, n1, q⟩, ⟨by simp only; omega, by simp only; omega⟩, rfl⟩
theorem pkt_of {H : Type} {enc : TypeId × Value → H} {w : World} {r : Reach} {b0 : Nat} {v : Value} {d : DataW H} {p : List MemPlace}
    (hv : Value.okWide Try.prog w r b0 23 v) (h : DataW.Trod enc Try.prog w 0 (fun _ => true) true 23 v d p) :
    ∃ x : Pk, v = .agg (pA x) := by
  simp only [Value.okWide, Try.underlying23] at hv
  obtain ⟨cs, rfl, hsz, _⟩ := hv
  obtain ⟨l⟩ := cs
  obtain ⟨fuel, hf⟩ := h
  obtain ⟨x, _, hc⟩ := pkt_trod fuel l _ (hsz.trans Try.cP) hf
  exact ⟨x, by rw [hc]; rfl⟩
theorem steps_of {H : Type} {enc : TypeId × Value → H} {w : World} {a : Option Addr} {len cap : Nat} {d : DataW H} {p : List MemPlace}
    (h : DataW.Trod enc Try.prog w 0 (fun _ => true) true 35 (.slice a len cap) d p) :
    ∃ L : List Sp, RR w zcl 3 a len cap L ∧ ∀ x ∈ L, x.kd < 256 ∧ x.at_ < 65536 :=
  row_of (c := zcl) (s := 3) _ Try.underlying35 Try.cS step_trod h
theorem texts_of {H : Type} {enc : TypeId × Value → H} {w : World} {a : Option Addr} {len cap : Nat} {d : DataW H} {p : List MemPlace}
    (h : DataW.Trod enc Try.prog w 0 (fun _ => true) true 40 (.slice a len cap) d p) : ∃ L : List ByteArray, RR w scl 1 a len cap L := by
  obtain ⟨L, hL, _⟩ := row_of (c := scl) (s := 1) (fun _ => True) Try.underlying40 Try.cs (fun m cs y hl hf => by
    obtain ⟨n0, e0, _⟩ := DataW.trod_string Try.underlying9 hf
    subst e0
    exact ⟨n0, trivial, rfl⟩) h
  exact ⟨L, hL⟩
theorem bytes_of {H : Type} {enc : TypeId × Value → H} {w : World} {a : Option Addr} {len cap : Nat} {d : DataW H} {p : List MemPlace}
    (h : DataW.Trod enc Try.prog w 0 (fun _ => true) true 50 (.slice a len cap) d p) : ∃ L : List Nat, RR w ucl 1 a len cap L ∧ ∀ x ∈ L, x < 256 :=
  row_of (c := ucl) (s := 1) _ Try.underlying50 Try.c8 (fun m cs y hl hf => by
    obtain ⟨n0, e0, _, wf0⟩ := DataW.trod_int Try.underlying5 hf
    subst e0
    have b := bnd_u8 wf0
    obtain ⟨k, rfl⟩ := nat_of b.1
    exact ⟨k, by omega, rfl⟩) h
end Go.Proofs.Ytemhfaodgofcpaa
