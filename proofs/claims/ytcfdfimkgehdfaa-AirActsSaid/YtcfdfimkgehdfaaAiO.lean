/-
  Arguments of layer 18's laws that came in: bytes, slices of bytes, calls. No condition.
-/
import Derived.Test.YtcfdfimkgehdfaaAiL
import Derived.Test.YtcfdfimkgehdfaaOpn
set_option linter.unusedVariables false
set_option linter.unusedSimpArgs false
set_option linter.constructorNameAsVariable false
namespace Go.Proofs.Ytcfdfimkgehdfaa
open Go.RowKit Go.ChangeShapes Go.WideShapes Go.Deep

theorem Try.cn : Try.prog.cellsOf 3 = 1 := by kernel_rfl
theorem Try.c8 : Try.prog.cellsOf 5 = 1 := by kernel_rfl
theorem Try.c16 : Try.prog.cellsOf 31 = 1 := by kernel_rfl
theorem Try.cB : Try.prog.cellsOf 30 = 1 := by kernel_rfl
theorem Try.cX : Try.prog.cellsOf 33 = 7 := by kernel_rfl
theorem bnd_u8 {n : Int} (h : (Lit.int .u8 n).wf = true) : 0 ≤ n ∧ n ≤ 255 := by
  have e1 : IntKind.u8.min = 0 := by decide
  have e2 : IntKind.u8.max = 255 := by decide
  have h : (decide (IntKind.u8.min ≤ n) && decide (n ≤ IntKind.u8.max)) = true := h
  rw [e1, e2] at h
  simpa using h
theorem bnd_u16 {n : Int} (h : (Lit.int .u16 n).wf = true) : 0 ≤ n ∧ n ≤ 65535 := by
  have e1 : IntKind.u16.min = 0 := by decide
  have e2 : IntKind.u16.max = 65535 := by decide
  have h : (decide (IntKind.u16.min ≤ n) && decide (n ≤ IntKind.u16.max)) = true := h
  rw [e1, e2] at h
  simpa using h
theorem nat_of {n : Int} (h : 0 ≤ n) : ∃ t : Nat, n = (t : Int) := ⟨n.toNat, by omega⟩
theorem word_of {n : Int} (h : (Lit.int .u16 n).wf = true) : ∃ t : Nat, n = (t : Int) ∧ t < 65536 := by
  have b := bnd_u16 h
  obtain ⟨t, rfl⟩ := nat_of b.1
  exact ⟨t, rfl, by omega⟩
theorem byte_of {n : Int} (h : (Lit.int .u8 n).wf = true) : ∃ t : Nat, n = (t : Int) ∧ t < 256 := by
  have b := bnd_u8 h
  obtain ⟨t, rfl⟩ := nat_of b.1
  exact ⟨t, rfl, by omega⟩
theorem u8_of {n : Int} (h : (Lit.int .u8 n).wf = true) : ∃ y : UInt8, n = (y.toNat : Int) := by
  have b := bnd_u8 h
  exact ⟨UInt8.ofNat n.toNat, by rw [UInt8.toNat_ofNat']; omega⟩
theorem bytes_trod {H : Type} {enc : TypeId × Value → H} {w : World} {fuel : Nat} {cs : List Value} {x : DataW H × List MemPlace}
    (hf : DataW.trod enc Try.prog w 0 (fun _ => true) true fuel 30 cs = some x) :
    ∃ a len cap, cs = [.slice a len cap] ∧ ∃ bs : List UInt8, RR w bcl 1 a len cap bs := by
  rcases open_slice1 Try.underlying30 (by kernel_rfl) hf with ⟨hcs, _⟩ | ⟨x, len, cap, m, n, V, D, Pl, hcs, hb, hl, hm, hmm, _, hi⟩
  · exact ⟨none, 0, 0, hcs, [], RR.nil _ _ _⟩
  · refine ⟨_, _, _, hcs, ?_⟩
    simp only [if_true] at hmm
    subst hmm
    have key : ∀ i, i < len → ∃ v : UInt8, w.cell? (x.add i) = some (.int .u8 (v.toNat : Int)) := by
      intro i hil
      obtain ⟨hc, ht⟩ := hi i (by omega)
      obtain ⟨n0, e0, _, wf0⟩ := DataW.trod_int Try.underlying5 ht
      simp at e0
      rw [e0] at hc
      obtain ⟨y, rfl⟩ := u8_of wf0
      exact ⟨y, hc⟩
    obtain ⟨vs, h1, h2⟩ := exists_list _ len key
    refine ⟨vs, rr_br (B := w.heap.size) ⟨h1, hl, by omega, fun hn => ?_⟩⟩
    obtain ⟨v0, z1⟩ := key 0 (by omega)
    obtain ⟨b, off, spot⟩ := x
    have hspot : spot = none := by simpa [Addr.add] using World.cell?_spot z1
    subst hspot
    exact ⟨b, off, rfl, World.block_lt_of_cell? w _ z1, fun i v hv => by have := h2 i v hv; rwa [Addr.add_lit] at this⟩
theorem bytes_of {H : Type} {enc : TypeId × Value → H} {w : World} {a : Option Addr} {len cap : Nat} {d : DataW H} {p : List MemPlace}
    (h : DataW.Trod enc Try.prog w 0 (fun _ => true) true 30 (.slice a len cap) d p) : ∃ bs : List UInt8, RR w bcl 1 a len cap bs := by
  obtain ⟨fuel, hf⟩ := h
  obtain ⟨a', len', cap', hcs, bs, hb⟩ := bytes_trod hf
  simp [Value.cells] at hcs
  obtain ⟨rfl, rfl, rfl⟩ := hcs
  exact ⟨bs, hb⟩
/-- A slice of bytes as an element. -/
structure Ym where
  b : List UInt8
  A : Option Addr
  n : Nat
  c : Nat
def ycl (y : Ym) : List Value := [.slice y.A y.n y.c]
instance : Nonempty (EncOk ycl 1) := ⟨⟨fun _ => rfl, fun x u hu => by simp [ycl] at hu; subst hu; rfl, by omega⟩⟩
theorem lists_of {H : Type} {enc : TypeId × Value → H} {w : World} {a : Option Addr} {len cap : Nat} {d : DataW H} {p : List MemPlace}
    (h : DataW.Trod enc Try.prog w 0 (fun _ => true) true 57 (.slice a len cap) d p) : ∃ L : List Ym, RR w ycl 1 a len cap L ∧ ∀ y ∈ L, RR w bcl 1 y.A y.n y.c y.b := by
  refine row_of (c := ycl) (s := 1) (fun y => RR w bcl 1 y.A y.n y.c y.b) Try.underlying57 Try.cB (fun m cs y hl hf => ?_) h
  obtain ⟨A, n, c, rfl, bs, hb⟩ := bytes_trod hf
  exact ⟨⟨bs, A, n, c⟩, hb, rfl⟩
set_option maxRecDepth 100000 in
theorem act_trod {H : Type} {enc : TypeId × Value → H} {w : World} (m : Nat) (cs : List Value) (y : DataW H × List MemPlace) (hl : cs.length = 7) (hf : DataW.trod enc Try.prog w 0 (fun _ => true) true m 33 cs = some y) :
    ∃ x : Xm, (x.pl < 65536 ∧ RR w bcl 1 x.A x.n x.c x.b) ∧ cs = xcl x := by
  obtain ⟨xs, n', _, _, _, hxl, hg⟩ := DataW.trod_struct Try.underlying33 hf
  match cs, hl, xs, hxl with
  | [u0, u1, u2, u3, u4, u5, u6], _, [y0, y1, y2, y3, y4, y5, y6], _ =>
    have g0 : DataW.trod enc Try.prog w 0 (fun _ => true) true n' 5 (([u0, u1, u2, u3, u4, u5, u6].drop 0).take (Try.prog.cellsOf 5)) = some y0 := hg 0 _ rfl
    rw [Try.c8] at g0
    have g1 : DataW.trod enc Try.prog w 0 (fun _ => true) true n' 5 (([u0, u1, u2, u3, u4, u5, u6].drop 1).take (Try.prog.cellsOf 5)) = some y1 := hg 1 _ rfl
    rw [Try.c8] at g1
    have g2 : DataW.trod enc Try.prog w 0 (fun _ => true) true n' 5 (([u0, u1, u2, u3, u4, u5, u6].drop 2).take (Try.prog.cellsOf 5)) = some y2 := hg 2 _ rfl
    rw [Try.c8] at g2
    have g3 : DataW.trod enc Try.prog w 0 (fun _ => true) true n' 30 (([u0, u1, u2, u3, u4, u5, u6].drop 3).take (Try.prog.cellsOf 30)) = some y3 := hg 3 _ rfl
    rw [Try.cB] at g3
    have g4 : DataW.trod enc Try.prog w 0 (fun _ => true) true n' 3 (([u0, u1, u2, u3, u4, u5, u6].drop 4).take (Try.prog.cellsOf 3)) = some y4 := hg 4 _ rfl
    rw [Try.cn] at g4
    have g5 : DataW.trod enc Try.prog w 0 (fun _ => true) true n' 31 (([u0, u1, u2, u3, u4, u5, u6].drop 5).take (Try.prog.cellsOf 31)) = some y5 := hg 5 _ rfl
    rw [Try.c16] at g5
    have g6 : DataW.trod enc Try.prog w 0 (fun _ => true) true n' 5 (([u0, u1, u2, u3, u4, u5, u6].drop 6).take (Try.prog.cellsOf 5)) = some y6 := hg 6 _ rfl
    rw [Try.c8] at g6
    obtain ⟨n0, e0, _, z0⟩ := DataW.trod_int (x := y0) Try.underlying5 g0
    obtain ⟨n1, e1, _, z1⟩ := DataW.trod_int (x := y1) Try.underlying5 g1
    obtain ⟨n2, e2, _, z2⟩ := DataW.trod_int (x := y2) Try.underlying5 g2
    obtain ⟨A, n, c, e3, bs, hb⟩ := bytes_trod g3
    obtain ⟨n4, e4, _, z4⟩ := DataW.trod_int (x := y4) Try.underlying3 g4
    obtain ⟨n5, e5, _, z5⟩ := DataW.trod_int (x := y5) Try.underlying31 g5
    obtain ⟨n6, e6, _, z6⟩ := DataW.trod_int (x := y6) Try.underlying5 g6
    simp at e0 e1 e2 e3 e4 e5 e6
    subst e0 e1 e2 e3 e4 e5 e6
    obtain ⟨k0, rfl, _⟩ := byte_of z0
    obtain ⟨k1, rfl, _⟩ := byte_of z1
    obtain ⟨k2, rfl, _⟩ := byte_of z2
    obtain ⟨k5, rfl, h5⟩ := word_of z5
    obtain ⟨k6, rfl⟩ := u8_of z6
    exact ⟨⟨k0, k1, k2, bs, A, n, c, n4, k5, k6⟩, ⟨h5, hb⟩, rfl⟩
set_option maxRecDepth 100000 in
theorem acts_of {H : Type} {enc : TypeId × Value → H} {w : World} {a : Option Addr} {len cap : Nat} {d : DataW H} {p : List MemPlace}
    (h : DataW.Trod enc Try.prog w 0 (fun _ => true) true 22 (.slice a len cap) d p) : ∃ L : List Xm, RR w xcl 7 a len cap L ∧ ∀ x ∈ L, x.pl < 65536 ∧ RR w bcl 1 x.A x.n x.c x.b :=
  row_of (c := xcl) (s := 7) (fun x => x.pl < 65536 ∧ RR w bcl 1 x.A x.n x.c x.b) Try.underlying22 Try.cX (fun m cs y hl hf => act_trod m cs y hl hf) h
set_option maxRecDepth 100000 in
theorem two_u8 {H : Type} {enc : TypeId × Value → H} {w : World} {r : Reach} {b0 : Nat} {v : Value} {d : DataW H} {p : List MemPlace}
    (hv : Value.okWide Try.prog w r b0 59 v) (h : DataW.Trod enc Try.prog w 0 (fun _ => true) true 59 v d p) :
    ∃ (k0 : Nat) (k1 : UInt8), v = .agg #[.int .u8 (k0 : Int), .int .u8 (k1.toNat : Int)] ∧ k0 < 256 := by
  have hc : Try.prog.cellsOf 59 = 2 := by kernel_rfl
  simp only [Value.okWide, Try.underlying59] at hv
  obtain ⟨cs, rfl, hsz, _⟩ := hv
  obtain ⟨l⟩ := cs
  match l, hsz.trans hc with
  | [c0, c1], _ =>
    obtain ⟨fuel, hf⟩ := h
    obtain ⟨xs, m, _, _, _, hlen, hg⟩ := DataW.trod_array Try.underlying59 hf
    match xs, hlen with
    | [y0, y1], _ =>
      have g0 := hg 0 (by omega)
      have g1 := hg 1 (by omega)
      rw [Try.c8] at g0 g1
      have g0' : DataW.trod enc Try.prog w 0 (fun _ => true) true m 5 [c0] = some y0 := by simpa [Value.cells] using g0
      have g1' : DataW.trod enc Try.prog w 0 (fun _ => true) true m 5 [c1] = some y1 := by simpa [Value.cells] using g1
      obtain ⟨s0, e0, _, z0⟩ := DataW.trod_int (x := y0) Try.underlying5 g0'
      obtain ⟨s1, e1, _, z1⟩ := DataW.trod_int (x := y1) Try.underlying5 g1'
      simp at e0 e1
      subst e0 e1
      obtain ⟨k0, rfl, h0⟩ := byte_of z0
      obtain ⟨k1, rfl⟩ := u8_of z1
      exact ⟨k0, k1, rfl, h0⟩
end Go.Proofs.Ytcfdfimkgehdfaa
