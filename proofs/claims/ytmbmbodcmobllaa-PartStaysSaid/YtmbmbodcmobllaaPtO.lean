/-
  Arguments of layer 9's laws that came in: a part, an act, acts. No condition.
-/
import Derived.Test.YtmbmbodcmobllaaDlP
import Derived.Test.YtmbmbodcmobllaaPtK
set_option linter.unusedVariables false
set_option linter.unusedSimpArgs false
namespace Go.Proofs.Ytmbmbodcmobllaa
open Go.RowKit Go.ChangeShapes Go.WideShapes Go.Deep

theorem Try.cb : Try.prog.cellsOf 4 = 1 := by kernel_rfl
theorem Try.cn : Try.prog.cellsOf 3 = 1 := by kernel_rfl
theorem Try.cs : Try.prog.cellsOf 22 = 1 := by kernel_rfl
theorem Try.cP : Try.prog.cellsOf 24 = 4 := by kernel_rfl
theorem Try.cA : Try.prog.cellsOf 28 = 5 := by kernel_rfl

set_option maxRecDepth 100000 in
theorem part_of {H : Type} {enc : TypeId × Value → H} {w : World} {r : Reach} {b0 : Nat} {v : Value} {d : DataW H} {p : List MemPlace}
    (hv : Value.okWide Try.prog w r b0 24 v) (h : DataW.Trod enc Try.prog w 0 (fun _ => true) true 24 v d p) :
    ∃ (s : Int) (a : Option Addr) (len cap : Nat) (l : Bool) (o : Int) (L : List Dl), v = .agg #[.int .i64 s, .slice a len cap, .bool l, .int .i64 o] ∧ DR w a len cap L ∧ WfL L := by
  simp only [Value.okWide, Try.underlying24] at hv
  obtain ⟨cs, rfl, hsz, _⟩ := hv
  obtain ⟨l⟩ := cs
  obtain ⟨fuel, hf⟩ := h
  obtain ⟨xs, n', _, _, _, hxl, hg⟩ := DataW.trod_struct Try.underlying24 hf
  match l, hsz.trans Try.cP, xs, hxl with
  | [u0, u1, u2, u3], _, [y0, y1, y2, y3], _ =>
    have g0 : DataW.trod enc Try.prog w 0 (fun _ => true) true n' 3 (([u0, u1, u2, u3].drop 0).take (Try.prog.cellsOf 3)) = some y0 := hg 0 _ rfl
    have g1 : DataW.trod enc Try.prog w 0 (fun _ => true) true n' 22 (([u0, u1, u2, u3].drop 1).take (Try.prog.cellsOf 22)) = some y1 := hg 1 _ rfl
    have g2 : DataW.trod enc Try.prog w 0 (fun _ => true) true n' 4 (([u0, u1, u2, u3].drop 2).take (Try.prog.cellsOf 4)) = some y2 := hg 2 _ rfl
    have g3 : DataW.trod enc Try.prog w 0 (fun _ => true) true n' 3 (([u0, u1, u2, u3].drop 3).take (Try.prog.cellsOf 3)) = some y3 := hg 3 _ rfl
    rw [Try.cn] at g0 g3
    rw [Try.cs] at g1
    rw [Try.cb] at g2
    obtain ⟨n0, e0, _, _⟩ := DataW.trod_int (x := y0) Try.underlying3 g0
    obtain ⟨n2, e2, _⟩ := DataW.trod_bool (x := y2) Try.underlying4 g2
    obtain ⟨n3, e3, _, _⟩ := DataW.trod_int (x := y3) Try.underlying3 g3
    obtain ⟨a, len, cap, e1⟩ := slice_trod (c := u1) Try.underlying22 g1
    simp at e0 e2 e3
    subst e0 e1 e2 e3
    obtain ⟨L, hL, wL⟩ := deltas_of (d := y1.1) (p := y1.2) ⟨n', g1⟩
    exact ⟨n0, a, len, cap, n2, n3, L, rfl, hL, wL⟩
def ac (x : Ac) : List Value := [.int .u8 x.kd, .int .u8 x.dk, .int .i64 x.db, .bool x.y, .int .i64 x.u]
instance : Nonempty (EncOk ac 5) := ⟨⟨fun _ => rfl, fun x u hu => by
  simp [ac] at hu
  rcases hu with rfl | rfl | rfl | rfl | rfl <;> rfl, by omega⟩⟩

set_option maxRecDepth 100000 in
theorem act_trod {H : Type} {enc : TypeId × Value → H} {w : World} (m : Nat) (cs : List Value) (y : DataW H × List MemPlace) (hl : cs.length = 5) (hf : DataW.trod enc Try.prog w 0 (fun _ => true) true m 28 cs = some y) :
    ∃ x : Ac, inA x ∧ cs = ac x := by
  obtain ⟨xs, n', _, _, _, hxl, hg⟩ := DataW.trod_struct Try.underlying28 hf
  match cs, hl, xs, hxl with
  | [u0, u1, u2, u3, u4], _, [y0, y1, y2, y3], _ =>
    have g0 : DataW.trod enc Try.prog w 0 (fun _ => true) true n' 5 (([u0, u1, u2, u3, u4].drop 0).take (Try.prog.cellsOf 5)) = some y0 := hg 0 _ rfl
    have g1 : DataW.trod enc Try.prog w 0 (fun _ => true) true n' 26 (([u0, u1, u2, u3, u4].drop 1).take (Try.prog.cellsOf 26)) = some y1 := hg 1 _ rfl
    have g2 : DataW.trod enc Try.prog w 0 (fun _ => true) true n' 4 (([u0, u1, u2, u3, u4].drop 3).take (Try.prog.cellsOf 4)) = some y2 := hg 2 _ rfl
    have g3 : DataW.trod enc Try.prog w 0 (fun _ => true) true n' 3 (([u0, u1, u2, u3, u4].drop 4).take (Try.prog.cellsOf 3)) = some y3 := hg 3 _ rfl
    rw [Try.c8] at g0
    rw [Try.cD] at g1
    rw [Try.cb] at g2
    rw [Try.cn] at g3
    obtain ⟨n0, e0, _, z0⟩ := DataW.trod_int (x := y0) Try.underlying5 g0
    obtain ⟨x1, z1, e1⟩ := delta_trod n' _ y1 rfl g1
    obtain ⟨n2, e2, _⟩ := DataW.trod_bool (x := y2) Try.underlying4 g2
    obtain ⟨n3, e3, _, z3⟩ := DataW.trod_int (x := y3) Try.underlying3 g3
    simp [dc] at e0 e1 e2 e3
    obtain ⟨rfl, rfl⟩ := e1
    subst e0 e2 e3
    exact ⟨⟨n0, x1.k, x1.b, n2, n3⟩, ⟨bnd_u8 z0, z1, bnd_i64 z3⟩, rfl⟩
theorem acts_of {H : Type} {enc : TypeId × Value → H} {w : World} {a : Option Addr} {len cap : Nat} {d : DataW H} {p : List MemPlace}
    (h : DataW.Trod enc Try.prog w 0 (fun _ => true) true 40 (.slice a len cap) d p) :
    ∃ L : List Ac, RR w ac 5 a len cap L ∧ ∀ x ∈ L, inA x :=
  row_of (c := ac) (s := 5) _ Try.underlying40 Try.cA act_trod h
theorem act_of {H : Type} {enc : TypeId × Value → H} {w : World} {r : Reach} {b0 : Nat} {v : Value} {d : DataW H} {p : List MemPlace}
    (hv : Value.okWide Try.prog w r b0 28 v) (h : DataW.Trod enc Try.prog w 0 (fun _ => true) true 28 v d p) :
    ∃ x : Ac, v = av x ∧ inA x := by
  simp only [Value.okWide, Try.underlying28] at hv
  obtain ⟨cs, rfl, hsz, _⟩ := hv
  obtain ⟨l⟩ := cs
  obtain ⟨fuel, hf⟩ := h
  obtain ⟨x, hx, hc⟩ := act_trod fuel l _ (hsz.trans Try.cA) hf
  exact ⟨x, by rw [hc]; rfl, hx⟩
/-- The j-th act. -/
theorem act_at {w : World} {a : Option Addr} {n c : Nat} {L : List Ac} (h : RR w ac 5 a n c L) {k : Nat} (hk : k < n) : ∃ g off x, L[k]? = some x ∧ a = some ⟨g, off, none⟩ ∧ w.cell? ⟨g, off + k * 5, none⟩ = some (.int .u8 x.kd) ∧ w.cell? ⟨g, off + k * 5 + 1, none⟩ = some (.int .u8 x.dk) ∧ w.cell? ⟨g, off + k * 5 + 2, none⟩ = some (.int .i64 x.db) ∧ w.cell? ⟨g, off + k * 5 + 3, none⟩ = some (.bool x.y) ∧ w.cell? ⟨g, off + k * 5 + 4, none⟩ = some (.int .i64 x.u) := by
  obtain ⟨g, off, x, h1, h2, h3⟩ := h.at_ hk
  exact ⟨g, off, x, h1, h2, h3 0 _ rfl, h3 1 _ rfl, h3 2 _ rfl, h3 3 _ rfl, h3 4 _ rfl⟩
end Go.Proofs.Ytmbmbodcmobllaa
