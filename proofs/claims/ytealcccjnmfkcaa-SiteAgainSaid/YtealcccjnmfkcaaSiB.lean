/-
  A turn in memory: the box of its struct, the box of the result, its slices; what a store into the box leaves. No condition.
-/
import Derived.Test.YtealcccjnmfkcaaSiA
import Derived.Deep.CutRange
set_option linter.unusedVariables false
set_option linter.unusedSimpArgs false
namespace Go.Proofs.Ytealcccjnmfkcaa
open Go.RowKit

/-- All but the cells of block d is as it was. -/
structure Just (d : Nat) (W V : World) : Prop where
  os : V.os = W.os
  tape : V.tape = W.tape
  output : V.output = W.output
  size : V.heap.size = W.heap.size
  block : ∀ i, i ≠ d → V.heap[i]? = W.heap[i]?
theorem Just.set (W : World) (d i : Nat) (x : Value) : Just d W (W.setCell ⟨d, i, none⟩ x) := ⟨rfl, rfl, rfl, by simp [World.setCell], fun j hj => Below.heap_setCell W ⟨d, i, none⟩ x j hj⟩
theorem Just.trans {d : Nat} {W V U : World} (h : Just d W V) (k : Just d V U) : Just d W U := ⟨k.os.trans h.os, k.tape.trans h.tape, k.output.trans h.output, k.size.trans h.size, fun i hi => (k.block i hi).trans (h.block i hi)⟩
theorem Just.low {d : Nat} {W V : World} (h : Just d W V) {B : Nat} {w : World} (hb : Below B w W) (hd : B ≤ d) : Below B w V :=
  ⟨h.os.trans hb.os, h.tape.trans hb.tape, h.output.trans hb.output, by rw [h.size]; exact hb.size, fun i hi => (h.block i (by omega)).trans (hb.block i hi)⟩
theorem Just.cb {d : Nat} {W V : World} (h : Just d W V) {b : Nat} {T : TypeId} {cs : Array Value} (hc : CB W b T cs) (hb : b ≠ d) : CB V b T cs := hc.same (h.block b hb)
theorem Just.rs {d : Nat} {W V : World} (h : Just d W V) {α : Type} {c : α → List Value} {s : Nat} [Nonempty (EncOk c s)] {T : TypeId} {A : Option Addr} {n q : Nat} {L : List α} (hr : RS W T c s A n q L) {T' : TypeId} {cs : Array Value} (hd : CB W d T' cs) (hT : T ≠ T') : RS V T c s A n q L :=
  hr.keep2 fun g _ hc => h.block g (hc.ne_ hd hT)
theorem Just.dr {d : Nat} {W V : World} (h : Just d W V) {A : Option Addr} {n c : Nat} {L : List Dl} (hr : DR W A n c L) (hd : ∀ g off, A = some ⟨g, off, none⟩ → 0 < n → g ≠ d) : DR V A n c L := hr.keep fun g off hA hn _ => h.block g (hd g off hA hn)
abbrev tcs (p : Pt) (A : Option Addr) (n c : Nat) (A2 : Option Addr) (n2 c2 : Nat) (A3 : Option Addr) (n3 c3 : Nat) (sn : Int) : Array Value := #[.int .i64 p.st, .slice A n c, .bool p.lo, .int .i64 p.ou, .slice A2 n2 c2, .slice A3 n3 c3, .int .i64 sn]
abbrev tz : Array Value := #[.int .i64 0, .slice none 0 0, .bool false, .int .i64 0, .slice none 0 0, .slice none 0 0, .int .i64 0]
abbrev tv (p : Pt) (A : Option Addr) (n c : Nat) (A2 : Option Addr) (n2 c2 : Nat) (A3 : Option Addr) (n3 c3 : Nat) (sn : Int) : Value := .agg #[.int .i64 p.st, .slice A n c, .bool p.lo, .int .i64 p.ou, .slice A2 n2 c2, .slice A3 n3 c3, .int .i64 sn]
abbrev kcs (r : Rc) : Array Value := #[.int .i64 r.kd, .int .i64 r.tx, .int .u8 r.ky, .int .i64 r.nn]
/-- What a turn holds can be read. -/
structure TM (W : World) (A : Option Addr) (n c : Nat) (A2 : Option Addr) (n2 c2 : Nat) (A3 : Option Addr) (n3 c3 : Nat) (t : Tn) : Prop where
  ad : DS W A n c t.own.ad
  lk : HS W 166 A2 n2 c2 t.lk
  led : DS W A3 n3 c3 t.led
/-- A call gave a turn and a number back. -/
def UPost (w : World) (t : Tn) (k : Int) (e : Ending) (w' : World) : Prop :=
  ∃ A n c A2 n2 c2 A3 n3 c3, e = .returned (.tuple #[tv t.own A n c A2 n2 c2 A3 n3 c3 t.sn, .int .i64 k]) ∧ TM w' A n c A2 n2 c2 A3 n3 c3 t ∧ Below w.heap.size w w'
/-- The boxes of a turn and of the result. -/
structure TW (w W : World) (bz : Nat) (A : Option Addr) (n c : Nat) (A2 : Option Addr) (n2 c2 : Nat) (A3 : Option Addr) (n3 c3 : Nat) (t : Tn) : Prop where
  b : CB W w.heap.size 92 (tcs t.own A n c A2 n2 c2 A3 n3 c3 t.sn)
  z : CB W bz 92 tz
  m : TM W A n c A2 n2 c2 A3 n3 c3 t
  low : Below w.heap.size w W
  lt : w.heap.size < bz
theorem Try.neDT : 102 ≠ 92 := by decide
theorem Try.neHT : 166 ≠ 92 := by decide
section
variable {w W W' : World} {bz : Nat} {A : Option Addr} {n c : Nat} {A2 : Option Addr} {n2 c2 : Nat} {A3 : Option Addr} {n3 c3 : Nat} {t : Tn}
theorem TM.on (h : TM W A n c A2 n2 c2 A3 n3 c3 t) (hb : Below W.heap.size W W') : TM W' A n c A2 n2 c2 A3 n3 c3 t := ⟨h.ad.on hb, h.lk.on hb, h.led.on hb⟩
theorem TM.just (h : TM W A n c A2 n2 c2 A3 n3 c3 t) {d : Nat} {T : TypeId} {cs : Array Value} (hd : CB W d T cs) (h1 : 102 ≠ T) (h2 : 166 ≠ T) (hj : Just d W W') : TM W' A n c A2 n2 c2 A3 n3 c3 t := ⟨hj.rs h.ad hd h1, hj.rs h.lk hd h2, hj.rs h.led hd h1⟩
theorem TW.on (h : TW w W bz A n c A2 n2 c2 A3 n3 c3 t) (hb : Below W.heap.size W W') : TW w W' bz A n c A2 n2 c2 A3 n3 c3 t := ⟨h.b.on hb, h.z.on hb, h.m.on hb, bel2 h.low hb, h.lt⟩
theorem TW.cells (h : TW w W bz A n c A2 n2 c2 A3 n3 c3 t) : W.cell? ⟨w.heap.size, 0, none⟩ = some (.int .i64 t.own.st) ∧ W.cell? ⟨w.heap.size, 1, none⟩ = some (.slice A n c) ∧ W.cell? ⟨w.heap.size, 2, none⟩ = some (.bool t.own.lo) ∧ W.cell? ⟨w.heap.size, 3, none⟩ = some (.int .i64 t.own.ou) ∧ W.cell? ⟨w.heap.size, 4, none⟩ = some (.slice A2 n2 c2) ∧ W.cell? ⟨w.heap.size, 5, none⟩ = some (.slice A3 n3 c3) ∧ W.cell? ⟨w.heap.size, 6, none⟩ = some (.int .i64 t.sn) :=
  ⟨h.b.cell 0, h.b.cell 1, h.b.cell 2, h.b.cell 3, h.b.cell 4, h.b.cell 5, h.b.cell 6⟩
theorem TW.froz (h : TW w W bz A n c A2 n2 c2 A3 n3 c3 t) : W.frozen? ⟨w.heap.size, 0, none⟩ = false ∧ W.frozen? ⟨w.heap.size, 1, none⟩ = false ∧ W.frozen? ⟨w.heap.size, 2, none⟩ = false ∧ W.frozen? ⟨w.heap.size, 3, none⟩ = false ∧ W.frozen? ⟨w.heap.size, 4, none⟩ = false ∧ W.frozen? ⟨w.heap.size, 5, none⟩ = false ∧ W.frozen? ⟨w.heap.size, 6, none⟩ = false :=
  ⟨h.b.frozen 0, h.b.frozen 1, h.b.frozen 2, h.b.frozen 3, h.b.frozen 4, h.b.frozen 5, h.b.frozen 6⟩
theorem TW.zfroz (h : TW w W bz A n c A2 n2 c2 A3 n3 c3 t) : W.frozen? ⟨bz, 0, none⟩ = false ∧ W.frozen? ⟨bz, 1, none⟩ = false ∧ W.frozen? ⟨bz, 2, none⟩ = false ∧ W.frozen? ⟨bz, 3, none⟩ = false ∧ W.frozen? ⟨bz, 4, none⟩ = false ∧ W.frozen? ⟨bz, 5, none⟩ = false ∧ W.frozen? ⟨bz, 6, none⟩ = false :=
  ⟨h.z.frozen 0, h.z.frozen 1, h.z.frozen 2, h.z.frozen 3, h.z.frozen 4, h.z.frozen 5, h.z.frozen 6⟩
theorem TW.zcells (h : TW w W bz A n c A2 n2 c2 A3 n3 c3 t) : W.cell? ⟨bz, 0, none⟩ = some (.int .i64 0) ∧ W.cell? ⟨bz, 1, none⟩ = some (.slice none 0 0) ∧ W.cell? ⟨bz, 2, none⟩ = some (.bool false) ∧ W.cell? ⟨bz, 3, none⟩ = some (.int .i64 0) ∧ W.cell? ⟨bz, 4, none⟩ = some (.slice none 0 0) ∧ W.cell? ⟨bz, 5, none⟩ = some (.slice none 0 0) ∧ W.cell? ⟨bz, 6, none⟩ = some (.int .i64 0) :=
  ⟨h.z.cell 0, h.z.cell 1, h.z.cell 2, h.z.cell 3, h.z.cell 4, h.z.cell 5, h.z.cell 6⟩
/-- New locks are stored. -/
theorem TW.putL (h : TW w W bz A n c A2 n2 c2 A3 n3 c3 t) {A' : Option Addr} {n' c' : Nat} {L : List Hd} (hl : HS W 166 A' n' c' L) :
    ∃ V, W.setCell ⟨w.heap.size, 4, none⟩ (.slice A' n' c') = V ∧ TW w V bz A n c A' n' c' A3 n3 c3 ⟨t.own, L, t.led, t.sn⟩ ∧ Just w.heap.size W V := by
  have hj := Just.set W w.heap.size 4 (.slice A' n' c')
  have hm : TM _ A n c A' n' c' A3 n3 c3 ⟨t.own, L, t.led, t.sn⟩ := TM.just (W := W) ⟨h.m.ad, hl, h.m.led⟩ h.b Try.neDT Try.neHT hj
  exact ⟨_, rfl, ⟨h.b.put 4 _, hj.cb h.z (by have := h.lt; omega), hm, hj.low h.low (Nat.le_refl _), h.lt⟩, hj⟩
/-- A new ledger is stored. -/
theorem TW.putD (h : TW w W bz A n c A2 n2 c2 A3 n3 c3 t) {A' : Option Addr} {n' c' : Nat} {L : List Dl} (hl : DS W A' n' c' L) :
    ∃ V, W.setCell ⟨w.heap.size, 5, none⟩ (.slice A' n' c') = V ∧ TW w V bz A n c A2 n2 c2 A' n' c' ⟨t.own, t.lk, L, t.sn⟩ ∧ Just w.heap.size W V := by
  have hj := Just.set W w.heap.size 5 (.slice A' n' c')
  have hm : TM _ A n c A2 n2 c2 A' n' c' ⟨t.own, t.lk, L, t.sn⟩ := TM.just (W := W) ⟨h.m.ad, h.m.lk, hl⟩ h.b Try.neDT Try.neHT hj
  exact ⟨_, rfl, ⟨h.b.put 5 _, hj.cb h.z (by have := h.lt; omega), hm, hj.low h.low (Nat.le_refl _), h.lt⟩, hj⟩
/-- What is read is stored. -/
theorem TW.putN (h : TW w W bz A n c A2 n2 c2 A3 n3 c3 t) (x : Int) :
    ∃ V, W.setCell ⟨w.heap.size, 6, none⟩ (.int .i64 x) = V ∧ TW w V bz A n c A2 n2 c2 A3 n3 c3 ⟨t.own, t.lk, t.led, x⟩ ∧ Just w.heap.size W V := by
  have hj := Just.set W w.heap.size 6 (.int .i64 x)
  have hm : TM _ A n c A2 n2 c2 A3 n3 c3 ⟨t.own, t.lk, t.led, x⟩ := TM.just (W := W) ⟨h.m.ad, h.m.lk, h.m.led⟩ h.b Try.neDT Try.neHT hj
  exact ⟨_, rfl, ⟨h.b.put 6 _, hj.cb h.z (by have := h.lt; omega), hm, hj.low h.low (Nat.le_refl _), h.lt⟩, hj⟩
/-- A new part is stored. -/
theorem TW.putP (h : TW w W bz A n c A2 n2 c2 A3 n3 c3 t) {A' : Option Addr} {n' c' : Nat} {p : Pt} (hl : DS W A' n' c' p.ad) :
    ∃ V, (((W.setCell ⟨w.heap.size, 0, none⟩ (.int .i64 p.st)).setCell ⟨w.heap.size, 1, none⟩ (.slice A' n' c')).setCell ⟨w.heap.size, 2, none⟩ (.bool p.lo)).setCell ⟨w.heap.size, 3, none⟩ (.int .i64 p.ou) = V ∧ TW w V bz A' n' c' A2 n2 c2 A3 n3 c3 ⟨p, t.lk, t.led, t.sn⟩ ∧ Just w.heap.size W V := by
  have hj := ((((Just.set W w.heap.size 0 (.int .i64 p.st)).trans (Just.set _ w.heap.size 1 (.slice A' n' c'))).trans (Just.set _ w.heap.size 2 (.bool p.lo))).trans (Just.set _ w.heap.size 3 (.int .i64 p.ou)))
  have hm : TM _ A' n' c' A2 n2 c2 A3 n3 c3 ⟨p, t.lk, t.led, t.sn⟩ := TM.just (W := W) ⟨hl, h.m.lk, h.m.led⟩ h.b Try.neDT Try.neHT hj
  exact ⟨_, rfl, ⟨(((h.b.put 0 _).put 1 _).put 2 _).put 3 _, hj.cb h.z (by have := h.lt; omega), hm, hj.low h.low (Nat.le_refl _), h.lt⟩, hj⟩
theorem set7 (a0 a1 a2 a3 a4 a5 a6 x0 x1 x2 x3 x4 x5 x6 : Value) : (((((((#[a0, a1, a2, a3, a4, a5, a6] : Array Value).setIfInBounds 0 x0).setIfInBounds 1 x1).setIfInBounds 2 x2).setIfInBounds 3 x3).setIfInBounds 4 x4).setIfInBounds 5 x5).setIfInBounds 6 x6 = #[x0, x1, x2, x3, x4, x5, x6] := by simp
/-- A whole turn is stored into block d. -/
theorem turn_all {d : Nat} {cs : Array Value} (hd : CB W d 92 cs) (h7 : cs.size = 7) (p : Pt) (A : Option Addr) (n c : Nat) (A2 : Option Addr) (n2 c2 : Nat) (A3 : Option Addr) (n3 c3 : Nat) (sn : Int) :
    ∃ V, ((((((W.setCell ⟨d, 0, none⟩ (.int .i64 p.st)).setCell ⟨d, 1, none⟩ (.slice A n c)).setCell ⟨d, 2, none⟩ (.bool p.lo)).setCell ⟨d, 3, none⟩ (.int .i64 p.ou)).setCell ⟨d, 4, none⟩ (.slice A2 n2 c2)).setCell ⟨d, 5, none⟩ (.slice A3 n3 c3)).setCell ⟨d, 6, none⟩ (.int .i64 sn) = V ∧
      CB V d 92 (tcs p A n c A2 n2 c2 A3 n3 c3 sn) ∧ Just d W V := by
  have hj := ((((((Just.set W d 0 (.int .i64 p.st)).trans (Just.set _ d 1 (.slice A n c))).trans (Just.set _ d 2 (.bool p.lo))).trans (Just.set _ d 3 (.int .i64 p.ou))).trans (Just.set _ d 4 (.slice A2 n2 c2))).trans (Just.set _ d 5 (.slice A3 n3 c3))).trans (Just.set _ d 6 (.int .i64 sn))
  refine ⟨_, rfl, ?_, hj⟩
  obtain ⟨a0, a1, a2, a3, a4, a5, a6, rfl⟩ : ∃ a0 a1 a2 a3 a4 a5 a6, cs = #[a0, a1, a2, a3, a4, a5, a6] := by
    obtain ⟨l⟩ := cs
    match l, h7 with
    | [a0, a1, a2, a3, a4, a5, a6], _ => exact ⟨a0, a1, a2, a3, a4, a5, a6, rfl⟩
  have hx := ((((((hd.put 0 (.int .i64 p.st)).put 1 (.slice A n c)).put 2 (.bool p.lo)).put 3 (.int .i64 p.ou)).put 4 (.slice A2 n2 c2)).put 5 (.slice A3 n3 c3)).put 6 (.int .i64 sn)
  rw [set7] at hx
  exact hx
/-- A whole turn is stored where the turn lies: a call gave it. -/
theorem TW.putT (h : TW w W bz A n c A2 n2 c2 A3 n3 c3 t) {A' : Option Addr} {n' c' : Nat} {A2' : Option Addr} {n2' c2' : Nat} {A3' : Option Addr} {n3' c3' : Nat} {t' : Tn} (hm : TM W A' n' c' A2' n2' c2' A3' n3' c3' t') :
    ∃ V, ((((((W.setCell ⟨w.heap.size, 0, none⟩ (.int .i64 t'.own.st)).setCell ⟨w.heap.size, 1, none⟩ (.slice A' n' c')).setCell ⟨w.heap.size, 2, none⟩ (.bool t'.own.lo)).setCell ⟨w.heap.size, 3, none⟩ (.int .i64 t'.own.ou)).setCell ⟨w.heap.size, 4, none⟩ (.slice A2' n2' c2')).setCell ⟨w.heap.size, 5, none⟩ (.slice A3' n3' c3')).setCell ⟨w.heap.size, 6, none⟩ (.int .i64 t'.sn) = V ∧
      TW w V bz A' n' c' A2' n2' c2' A3' n3' c3' t' ∧ Just w.heap.size W V := by
  obtain ⟨V, hV, hb, hj⟩ := turn_all h.b rfl t'.own A' n' c' A2' n2' c2' A3' n3' c3' t'.sn
  exact ⟨V, hV, ⟨hb, hj.cb h.z (by have := h.lt; omega), hm.just h.b Try.neDT Try.neHT hj, hj.low h.low (Nat.le_refl _), h.lt⟩, hj⟩
/-- A turn is stored as the result. -/
theorem TW.fin (h : TW w W bz A n c A2 n2 c2 A3 n3 c3 t) {A' : Option Addr} {n' c' : Nat} {A2' : Option Addr} {n2' c2' : Nat} {A3' : Option Addr} {n3' c3' : Nat} {t' : Tn} (hm : TM W A' n' c' A2' n2' c2' A3' n3' c3' t') (k : Int) :
    ∃ V, ((((((W.setCell ⟨bz, 0, none⟩ (.int .i64 t'.own.st)).setCell ⟨bz, 1, none⟩ (.slice A' n' c')).setCell ⟨bz, 2, none⟩ (.bool t'.own.lo)).setCell ⟨bz, 3, none⟩ (.int .i64 t'.own.ou)).setCell ⟨bz, 4, none⟩ (.slice A2' n2' c2')).setCell ⟨bz, 5, none⟩ (.slice A3' n3' c3')).setCell ⟨bz, 6, none⟩ (.int .i64 t'.sn) = V ∧
      (V.cell? ⟨bz, 0, none⟩ = some (.int .i64 t'.own.st) ∧ V.cell? ⟨bz, 1, none⟩ = some (.slice A' n' c') ∧ V.cell? ⟨bz, 2, none⟩ = some (.bool t'.own.lo) ∧ V.cell? ⟨bz, 3, none⟩ = some (.int .i64 t'.own.ou) ∧ V.cell? ⟨bz, 4, none⟩ = some (.slice A2' n2' c2') ∧ V.cell? ⟨bz, 5, none⟩ = some (.slice A3' n3' c3') ∧ V.cell? ⟨bz, 6, none⟩ = some (.int .i64 t'.sn)) ∧
      UPost w t' k (.returned (.tuple #[tv t'.own A' n' c' A2' n2' c2' A3' n3' c3' t'.sn, .int .i64 k])) V := by
  obtain ⟨V, hV, hb, hj⟩ := turn_all h.z rfl t'.own A' n' c' A2' n2' c2' A3' n3' c3' t'.sn
  exact ⟨V, hV, ⟨hb.cell 0, hb.cell 1, hb.cell 2, hb.cell 3, hb.cell 4, hb.cell 5, hb.cell 6⟩, A', n', c', A2', n2', c2', A3', n3', c3', rfl, hm.just h.z Try.neDT Try.neHT hj, hj.low h.low (by have := h.lt; omega)⟩
/-- The boxes at the beginning of a step. -/
theorem TW.new (hm : TM w A n c A2 n2 c2 A3 n3 c3 t) (r : Rc) : ∃ W, ((w.alloc (.cells (tcs t.own A n c A2 n2 c2 A3 n3 c3 t.sn) 92)).alloc (.cells (kcs r) 35)).alloc (.cells tz 92) = W ∧
    TW w W (w.heap.size + 1 + 1) A n c A2 n2 c2 A3 n3 c3 t ∧ CB W (w.heap.size + 1) 35 (kcs r) := by
  have hb : Below w.heap.size w (((w.alloc (.cells (tcs t.own A n c A2 n2 c2 A3 n3 c3 t.sn) 92)).alloc (.cells (kcs r) 35)).alloc (.cells tz 92)) := bel2 (bel2 (belA _ _) (belA _ _)) (belA _ _)
  refine ⟨_, rfl, ⟨((CB.new w _ _).alloc _).alloc _, ?_, hm.on hb, hb, by omega⟩, ?_⟩
  · have := CB.new ((w.alloc (.cells (tcs t.own A n c A2 n2 c2 A3 n3 c3 t.sn) 92)).alloc (.cells (kcs r) 35)) 92 tz
    simpa using this
  · have := (CB.new (w.alloc (.cells (tcs t.own A n c A2 n2 c2 A3 n3 c3 t.sn) 92)) 35 (kcs r)).alloc (.cells tz 92)
    simpa using this
/-- .. where there is no call's record. -/
theorem TW.new2 (hm : TM w A n c A2 n2 c2 A3 n3 c3 t) : ∃ W, (w.alloc (.cells (tcs t.own A n c A2 n2 c2 A3 n3 c3 t.sn) 92)).alloc (.cells tz 92) = W ∧ TW w W (w.heap.size + 1) A n c A2 n2 c2 A3 n3 c3 t := by
  have hb : Below w.heap.size w ((w.alloc (.cells (tcs t.own A n c A2 n2 c2 A3 n3 c3 t.sn) 92)).alloc (.cells tz 92)) := bel2 (belA _ _) (belA _ _)
  refine ⟨_, rfl, ⟨(CB.new w _ _).alloc _, ?_, hm.on hb, hb, by omega⟩⟩
  have := CB.new (w.alloc (.cells (tcs t.own A n c A2 n2 c2 A3 n3 c3 t.sn) 92)) 92 tz
  simpa using this
theorem rec_cells {b : Nat} {r : Rc} (h : CB W b 35 (kcs r)) : W.cell? ⟨b, 0, none⟩ = some (.int .i64 r.kd) ∧ W.cell? ⟨b, 1, none⟩ = some (.int .i64 r.tx) ∧ W.cell? ⟨b, 2, none⟩ = some (.int .u8 r.ky) ∧ W.cell? ⟨b, 3, none⟩ = some (.int .i64 r.nn) :=
  ⟨h.cell 0, h.cell 1, h.cell 2, h.cell 3⟩
end
end Go.Proofs.Ytealcccjnmfkcaa
