/-
  Arguments of layer 17's laws that came in: a note, a message, bytes. No condition.
-/
import Derived.Test.YtcfdfimkgehdfaaWqA
import Derived.Test.YtcfdfimkgehdfaaOpn
set_option linter.unusedVariables false
set_option linter.unusedSimpArgs false
set_option linter.constructorNameAsVariable false
namespace Go.Proofs.Ytcfdfimkgehdfaa
open Go.RowKit Go.ChangeShapes Go.WideShapes Go.Deep
open Dk (Nt InN RightN)

theorem Try.cn : Try.prog.cellsOf 3 = 1 := by kernel_rfl
theorem Try.cs : Try.prog.cellsOf 9 = 1 := by kernel_rfl
theorem Try.c8 : Try.prog.cellsOf 5 = 1 := by kernel_rfl
theorem Try.cM : Try.prog.cellsOf 79 = 5 := by kernel_rfl
theorem Try.cN : Try.prog.cellsOf 81 = 10 := by kernel_rfl
theorem bnd_u8 {n : Int} (h : (Lit.int .u8 n).wf = true) : 0 ≤ n ∧ n ≤ 255 := by
  have e1 : IntKind.u8.min = 0 := by decide
  have e2 : IntKind.u8.max = 255 := by decide
  have h : (decide (IntKind.u8.min ≤ n) && decide (n ≤ IntKind.u8.max)) = true := h
  rw [e1, e2] at h
  simpa using h
theorem bnd_u16 {n : Int} (h : (Lit.int .u16 n).wf = true) : 0 ≤ n ∧ n ≤ 65535 := by
  have e1 : IntKind.u16.min = 0 := by decide
  have e2 : IntKind.u16.max = 65535 := by decide
  have h : (decide (IntKind.u16.min ≤ n) && decide (n ≤ IntKind.u16.max)) = true := h
  rw [e1, e2] at h
  simpa using h
theorem bnd_i64 {n : Int} (h : (Lit.int .i64 n).wf = true) : -9223372036854775808 ≤ n ∧ n ≤ 9223372036854775807 := by
  have e1 : IntKind.i64.min = -9223372036854775808 := by decide
  have e2 : IntKind.i64.max = 9223372036854775807 := by decide
  have h : (decide (IntKind.i64.min ≤ n) && decide (n ≤ IntKind.i64.max)) = true := h
  rw [e1, e2] at h
  simpa using h
theorem nat_of {n : Int} (h : 0 ≤ n) : ∃ t : Nat, n = (t : Int) := ⟨n.toNat, by omega⟩
theorem word_of {n : Int} (h : (Lit.int .u16 n).wf = true) : ∃ t : Nat, n = (t : Int) ∧ t < 65536 := by
  have b := bnd_u16 h
  obtain ⟨t, rfl⟩ := nat_of b.1
  exact ⟨t, rfl, by omega⟩
theorem byte_of {n : Int} (h : (Lit.int .u8 n).wf = true) : ∃ t : Nat, n = (t : Int) ∧ t < 256 := by
  have b := bnd_u8 h
  obtain ⟨t, rfl⟩ := nat_of b.1
  exact ⟨t, rfl, by omega⟩
/-- A note's numbers are in their types' ranges. -/
def InI (n : Nt) : Prop := ∀ x, x = n.kd ∨ x = n.tx ∨ x = n.ep ∨ x = n.vl ∨ x = n.mq ∨ x = n.me → -9223372036854775808 ≤ x ∧ x ≤ 9223372036854775807
set_option maxRecDepth 100000 in
theorem msg_trod {H : Type} {enc : TypeId × Value → H} {w : World} (m : Nat) (cs : List Value) (y : DataW H × List MemPlace) (hl : cs.length = 5) (hf : DataW.trod enc Try.prog w 0 (fun _ => true) true m 79 cs = some y) :
    ∃ (q f t e : Int) (g : ByteArray), cs = [.int .i64 q, .int .u8 f, .int .u8 t, .int .i64 e, .string g] ∧ (-9223372036854775808 ≤ q ∧ q ≤ 9223372036854775807) ∧ (0 ≤ f ∧ f ≤ 255) ∧ (0 ≤ t ∧ t ≤ 255) ∧ (-9223372036854775808 ≤ e ∧ e ≤ 9223372036854775807) := by
  obtain ⟨xs, n', _, _, _, hxl, hg⟩ := DataW.trod_struct Try.underlying79 hf
  match cs, hl, xs, hxl with
  | [u0, u1, u2, u3, u4], _, [y0, y1, y2, y3, y4], _ =>
    have g0 : DataW.trod enc Try.prog w 0 (fun _ => true) true n' 3 (([u0, u1, u2, u3, u4].drop 0).take (Try.prog.cellsOf 3)) = some y0 := hg 0 _ rfl
    have g1 : DataW.trod enc Try.prog w 0 (fun _ => true) true n' 5 (([u0, u1, u2, u3, u4].drop 1).take (Try.prog.cellsOf 5)) = some y1 := hg 1 _ rfl
    have g2 : DataW.trod enc Try.prog w 0 (fun _ => true) true n' 5 (([u0, u1, u2, u3, u4].drop 2).take (Try.prog.cellsOf 5)) = some y2 := hg 2 _ rfl
    have g3 : DataW.trod enc Try.prog w 0 (fun _ => true) true n' 3 (([u0, u1, u2, u3, u4].drop 3).take (Try.prog.cellsOf 3)) = some y3 := hg 3 _ rfl
    have g4 : DataW.trod enc Try.prog w 0 (fun _ => true) true n' 9 (([u0, u1, u2, u3, u4].drop 4).take (Try.prog.cellsOf 9)) = some y4 := hg 4 _ rfl
    rw [Try.cn] at g0 g3
    rw [Try.c8] at g1 g2
    rw [Try.cs] at g4
    obtain ⟨n0, e0, _, z0⟩ := DataW.trod_int (x := y0) Try.underlying3 g0
    obtain ⟨n1, e1, _, z1⟩ := DataW.trod_int (x := y1) Try.underlying5 g1
    obtain ⟨n2, e2, _, z2⟩ := DataW.trod_int (x := y2) Try.underlying5 g2
    obtain ⟨n3, e3, _, z3⟩ := DataW.trod_int (x := y3) Try.underlying3 g3
    obtain ⟨n4, e4, _⟩ := DataW.trod_string (x := y4) Try.underlying9 g4
    simp at e0 e1 e2 e3 e4
    subst e0 e1 e2 e3 e4
    exact ⟨n0, n1, n2, n3, n4, rfl, bnd_i64 z0, bnd_u8 z1, bnd_u8 z2, bnd_i64 z3⟩
set_option maxRecDepth 100000 in
theorem note_of {H : Type} {enc : TypeId × Value → H} {w : World} {r : Reach} {b0 : Nat} {v : Value} {d : DataW H} {p : List MemPlace}
    (hv : Value.okWide Try.prog w r b0 81 v) (h : DataW.Trod enc Try.prog w 0 (fun _ => true) true 81 v d p) :
    ∃ n : Nt, v = .agg (ntA n) ∧ InN n ∧ InI n := by
  simp only [Value.okWide, Try.underlying81] at hv
  obtain ⟨cs, rfl, hsz, _⟩ := hv
  obtain ⟨l⟩ := cs
  obtain ⟨fuel, hf⟩ := h
  obtain ⟨xs, n', _, _, _, hxl, hg⟩ := DataW.trod_struct Try.underlying81 hf
  match l, hsz.trans Try.cN, xs, hxl with
  | [u0, u1, u2, u3, u4, u5, u6, u7, u8, u9], _, [y0, y1, y2, y3, y4, y5], _ =>
    have g0 : DataW.trod enc Try.prog w 0 (fun _ => true) true n' 3 (([u0, u1, u2, u3, u4, u5, u6, u7, u8, u9].drop 0).take (Try.prog.cellsOf 3)) = some y0 := hg 0 _ rfl
    have g1 : DataW.trod enc Try.prog w 0 (fun _ => true) true n' 5 (([u0, u1, u2, u3, u4, u5, u6, u7, u8, u9].drop 1).take (Try.prog.cellsOf 5)) = some y1 := hg 1 _ rfl
    have g2 : DataW.trod enc Try.prog w 0 (fun _ => true) true n' 3 (([u0, u1, u2, u3, u4, u5, u6, u7, u8, u9].drop 2).take (Try.prog.cellsOf 3)) = some y2 := hg 2 _ rfl
    have g3 : DataW.trod enc Try.prog w 0 (fun _ => true) true n' 3 (([u0, u1, u2, u3, u4, u5, u6, u7, u8, u9].drop 3).take (Try.prog.cellsOf 3)) = some y3 := hg 3 _ rfl
    have g4 : DataW.trod enc Try.prog w 0 (fun _ => true) true n' 3 (([u0, u1, u2, u3, u4, u5, u6, u7, u8, u9].drop 4).take (Try.prog.cellsOf 3)) = some y4 := hg 4 _ rfl
    have g5 : DataW.trod enc Try.prog w 0 (fun _ => true) true n' 79 (([u0, u1, u2, u3, u4, u5, u6, u7, u8, u9].drop 5).take (Try.prog.cellsOf 79)) = some y5 := hg 5 _ rfl
    rw [Try.cn] at g0 g2 g3 g4
    rw [Try.c8] at g1
    rw [Try.cM] at g5
    obtain ⟨n0, e0, _, z0⟩ := DataW.trod_int (x := y0) Try.underlying3 g0
    obtain ⟨n1, e1, _, z1⟩ := DataW.trod_int (x := y1) Try.underlying5 g1
    obtain ⟨n2, e2, _, z2⟩ := DataW.trod_int (x := y2) Try.underlying3 g2
    obtain ⟨n3, e3, _, z3⟩ := DataW.trod_int (x := y3) Try.underlying3 g3
    obtain ⟨n4, e4, _, z4⟩ := DataW.trod_int (x := y4) Try.underlying3 g4
    obtain ⟨q, f, t, e, g, e5, r1, r2, r3, r4⟩ := msg_trod _ _ _ rfl g5
    simp at e0 e1 e2 e3 e4 e5
    obtain ⟨rfl, rfl, rfl, rfl, rfl⟩ := e5
    subst e0 e1 e2 e3 e4
    have b1 := bnd_u8 z1
    refine ⟨⟨n0, n1, n2, n3, n4, q, f, t, e, g⟩, rfl, ⟨⟨b1.1, by simp only; omega⟩, ⟨r2.1, by simp only; omega⟩, ⟨r3.1, by simp only; omega⟩⟩, ?_⟩
    rintro x (rfl | rfl | rfl | rfl | rfl | rfl)
    · exact bnd_i64 z0
    · exact bnd_i64 z2
    · exact bnd_i64 z3
    · exact bnd_i64 z4
    · exact r1
    · exact r4
/-- A message, with a number beside it: a note of the kind Hand. -/
theorem msg_of {H : Type} {enc : TypeId × Value → H} {w : World} {r : Reach} {b0 : Nat} {v : Value} {d : DataW H} {p : List MemPlace}
    (hv : Value.okWide Try.prog w r b0 79 v) (h : DataW.Trod enc Try.prog w 0 (fun _ => true) true 79 v d p) {b : Nat} (hb : b < 256) :
    ∃ n : Nt, v = .agg (mgA n) ∧ n.mb = (b : Int) ∧ InN n ∧ (n.kd = 1 ∧ n.tx = 0 ∧ n.ep = 0 ∧ n.vl = 0) := by
  simp only [Value.okWide, Try.underlying79] at hv
  obtain ⟨cs, rfl, hsz, _⟩ := hv
  obtain ⟨l⟩ := cs
  obtain ⟨fuel, hf⟩ := h
  obtain ⟨q, f, t, e, g, e5, r1, r2, r3, r4⟩ := msg_trod _ l _ (hsz.trans Try.cM) hf
  exact ⟨⟨1, b, 0, 0, 0, q, f, t, e, g⟩, by rw [e5]; rfl, rfl, ⟨⟨by simp only; omega, by simp only; omega⟩, ⟨r2.1, by simp only; omega⟩, ⟨r3.1, by simp only; omega⟩⟩, rfl, rfl, rfl, rfl⟩
theorem bytes_of {H : Type} {enc : TypeId × Value → H} {w : World} {a : Option Addr} {len cap : Nat} {d : DataW H} {p : List MemPlace}
    (h : DataW.Trod enc Try.prog w 0 (fun _ => true) true 30 (.slice a len cap) d p) : ∃ L : List UInt8, RR w bcl 1 a len cap L := by
  obtain ⟨L, hL, _⟩ := row_of (c := bcl) (s := 1) (fun _ => True) Try.underlying30 Try.c8 (fun m cs y hl hf => by
    obtain ⟨n0, e0, _, wf0⟩ := DataW.trod_int Try.underlying5 hf
    subst e0
    obtain ⟨k, rfl, hk⟩ := byte_of wf0
    refine ⟨UInt8.ofNat k, trivial, ?_⟩
    simp only [bcl]
    congr
    simp; omega) h
  exact ⟨L, hL⟩
end Go.Proofs.Ytcfdfimkgehdfaa
