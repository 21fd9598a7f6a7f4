/-
  The bytes of a site's record and back (waystationtop's bytes, record). Conditions: the record's numbers such as the shape holds; the bytes can be read.
-/
import Derived.Test.YtcfdfimkgehdfaaDzDeco
import Derived.Test.YtcfdfimkgehdfaaDzDisk
import Derived.Deep.RegionHeld3
import Derived.BigQuiet
import Derived.Deep.RegionWith
import Derived.Deep.CutRange
import Derived.RegionTactic
import Derived.Test.YtcfdfimkgehdfaaRow
import Derived.Test.YtcfdfimkgehdfaaStp
namespace Go.Proofs.Ytcfdfimkgehdfaa.Dz
set_option maxRecDepth 100000
open Go.RowKit

/-- A record's numbers are such as its shape holds. -/
structure Fit (kd tx ky nn : Int) : Prop where
  kd : 0 ≤ kd ∧ kd ≤ 255
  tx : 0 ≤ tx ∧ tx ≤ 65535
  ky : 0 ≤ ky ∧ ky ≤ 255
  nn : -9223372036854775808 ≤ nn ∧ nn ≤ 9223372036854775807
abbrev es : ByteArray := ⟨#[]⟩
def shp : ByteArray := ⟨#[97, 98, 97, 100]⟩
def vals (kd tx ky nn : Int) : List CV := [⟨kd.toNat, es⟩, ⟨tx.toNat, es⟩, ⟨ky.toNat, es⟩, ⟨(nn + 9223372036854775808).toNat, es⟩]
def encR (kd tx ky nn : Int) : List UInt8 := enc (bl shp) (vals kd tx ky nn)
theorem vals_fits {kd tx ky nn : Int} (h : Fit kd tx ky nn) : okE (bl shp) (vals kd tx ky nn) = true := by
  obtain ⟨h1, h2, h3, h4⟩ := h
  have e1 : kd.toNat < 256 := by omega
  have e2 : tx.toNat < 65536 := by omega
  have e3 : ky.toNat < 256 := by omega
  have e4 : (nn + 9223372036854775808).toNat < 18446744073709551616 := by omega
  simp [okE, properB, fitsB, fitB, wd, letB, bl, shp, vals, e1, e2, e3, e4]
  rfl
theorem encR_len (kd tx ky nn : Int) : (encR kd tx ky nn).length = 12 := by
  simp [encR, enc, encV, wd, bl, shp, vals, num_length]
theorem encR_ok {kd tx ky nn : Int} (h : Fit kd tx ky nn) : eE (bl shp) (vals kd tx ky nn) = 0 ∧ bE (bl shp) (vals kd tx ky nn) = encR kd tx ky nn := by
  have h1 := vals_fits h
  have h2 := encR_len kd tx ky nn
  exact eE_ok h1 (by unfold encR at h2; omega)
theorem decR_ok {kd tx ky nn : Int} (h : Fit kd tx ky nn) : eD (bl shp) (encR kd tx ky nn) = 0 ∧ lD (bl shp) (encR kd tx ky nn) = vals kd tx ky nn := by
  have h1 := vals_fits h
  have h2 := encR_len kd tx ky nn
  have h3 : properB (bl shp) = true := by simp [properB, letB, wd, bl, shp]
  have h4 : fitsB (bl shp) (vals kd tx ky nn) = true := by
    simp only [okE, Bool.and_eq_true] at h1
    exact h1.2
  exact eD_yes h3 (okD_some.2 ⟨rfl, h4, rfl, by omega⟩)
abbrev rcs (kd tx ky nn : Int) : Array Value := #[.int .i64 kd, .int .i64 tx, .int .u8 ky, .int .i64 nn]
abbrev vcs (kd tx ky nn : Int) : Array Value := #[.int .u64 kd, .string es, .int .u64 tx, .string es, .int .u64 ky, .string es, .int .u64 (nn + 9223372036854775808), .string es]
theorem vals_read {kd tx ky nn : Int} (h : Fit kd tx ky nn) (W : World) (T : TypeId) : VR (W.alloc (.cells (vcs kd tx ky nn) T)) (some ⟨W.heap.size, 0, none⟩) (vals kd tx ky nn) := by
  obtain ⟨h1, h2, h3, h4⟩ := h
  have hc := CB.new W T (vcs kd tx ky nn)
  have e0 : es.size ≤ maxLen := Nat.zero_le _
  intro i v hv
  match i, hv with
  | 0, hv =>
    simp [vals] at hv; subst hv
    refine ⟨by simp only; omega, e0, _, _, rfl, by simp, ?_, hc.cell 1⟩
    have := hc.cell 0
    simp only [List.getElem?_toArray, List.getElem?_cons_zero] at this
    rw [show ((kd.toNat : Nat) : Int) = kd by omega]; exact this
  | 1, hv =>
    simp [vals] at hv; subst hv
    refine ⟨by simp only; omega, e0, _, _, rfl, by simp, ?_, hc.cell 3⟩
    have := hc.cell 2
    simp only [List.getElem?_toArray, List.getElem?_cons_zero, List.getElem?_cons_succ] at this
    rw [show ((tx.toNat : Nat) : Int) = tx by omega]; exact this
  | 2, hv =>
    simp [vals] at hv; subst hv
    refine ⟨by simp only; omega, e0, _, _, rfl, by simp, ?_, hc.cell 5⟩
    have := hc.cell 4
    simp only [List.getElem?_toArray, List.getElem?_cons_zero, List.getElem?_cons_succ] at this
    rw [show ((ky.toNat : Nat) : Int) = ky by omega]; exact this
  | 3, hv =>
    simp [vals] at hv; subst hv
    refine ⟨by simp only; omega, e0, _, _, rfl, by simp, ?_, hc.cell 7⟩
    have := hc.cell 6
    simp only [List.getElem?_toArray, List.getElem?_cons_zero, List.getElem?_cons_succ] at this
    rw [show (((nn + 9223372036854775808).toNat : Nat) : Int) = nn + 9223372036854775808 by omega]; exact this
  | i + 4, hv => simp [vals] at hv

set_option maxHeartbeats 2000000 in
theorem bytes_c (kd tx ky nn : Int) (w : World) (hf : Fit kd tx ky nn) :
    Calls Try.prog 42 #[.agg (rcs kd tx ky nn)] w (EPostC w (encR kd tx ky nn) 0) := by
  obtain ⟨W, hW⟩ : ∃ W, w.alloc (.cells (rcs kd tx ky nn) 103) = W := ⟨_, rfl⟩
  have cW : CB W w.heap.size 103 (rcs kd tx ky nn) := by rw [← hW]; exact CB.new _ _ _
  have bW : Below w.heap.size w W := by rw [← hW]; exact (Below.refl _ _).alloc (Nat.le_refl _) _
  have HW := Lib.hid hW
  have hs := Lib.hid (fun (U : World) => sign_c nn U hf.nn.1 hf.nn.2)
  have he := Lib.hid (fun (U : World) (T : TypeId) => show Calls Try.prog 54 #[.string ⟨#[97, 98, 97, 100]⟩, .slice (some ⟨U.heap.size, 0, none⟩) 4 4] (U.alloc (.cells (vcs kd tx ky nn) T)).drew (EPostC (U.alloc (.cells (vcs kd tx ky nn) T)).drew (encR kd tx ky nn) 0) from by
    have := encode_c shp (some ⟨U.heap.size, 0, none⟩) 4 (vals kd tx ky nn) (U.alloc (.cells (vcs kd tx ky nn) T)).drew (by show (4 : Nat) ≤ maxLen; simp [maxLen]) (vals_read hf U T)
    rw [(encR_ok hf).1, (encR_ok hf).2] at this
    exact this)
  have q0 := cW.cell 0
  have q1 := cW.cell 1
  have q2 := cW.cell 2
  have q3 := cW.cell 3
  simp only [List.getElem?_toArray, List.getElem?_cons_zero, List.getElem?_cons_succ] at q0 q1 q2 q3
  clear hW
  go_enter Try.func42, Try.ntmps42
  go_upto_region 1 with fail
  rw [HW.out]
  have x0 : IntKind.u64.wrap kd = kd := IntWalk.u64_in _ (by have := hf.kd; omega)
  have x1 : IntKind.u64.wrap tx = tx := IntWalk.u64_in _ (by have := hf.tx; omega)
  have x2 : IntKind.u64.wrap ky = ky := IntWalk.u64_in _ (by have := hf.ky; omega)
  have Hev := Lib.hid (fun (W' : World) (hb : Below W.heap.size W W') => show W'.cell? ⟨w.heap.size, 0, none⟩ = some (.int .i64 kd) ∧ W'.cell? ⟨w.heap.size, 1, none⟩ = some (.int .i64 tx) ∧ W'.cell? ⟨w.heap.size, 2, none⟩ = some (.int .u8 ky) ∧ W'.cell? ⟨w.heap.size, 3, none⟩ = some (.int .i64 nn) from ⟨(cW.same (hb.block _ cW.lt)).cell 0, (cW.same (hb.block _ cW.lt)).cell 1, (cW.same (hb.block _ cW.lt)).cell 2, (cW.same (hb.block _ cW.lt)).cell 3⟩)
  have Hk := Lib.hid (Hev.out (W.alloc (.cells (vcs kd tx ky nn) 142)).drew ⟨rfl, rfl, rfl, by simp, fun i hi => ((Below.refl W.heap.size W).alloc (Nat.le_refl _) (.cells (vcs kd tx ky nn) 142)).block i hi⟩)
  have Hl := Lib.hid (fun (w2 : World) (h : Below (W.alloc (.cells (vcs kd tx ky nn) 142)).drew.heap.size (W.alloc (.cells (vcs kd tx ky nn) 142)).drew w2) => show Below W.heap.size W w2 from by
    have h2 : Below (W.alloc (.cells (vcs kd tx ky nn) 142)).heap.size (W.alloc (.cells (vcs kd tx ky nn) 142)) w2 := ⟨h.os, h.tape, h.output, h.size, h.block⟩
    exact ((Below.refl _ _).alloc (Nat.le_refl _) (.cells (vcs kd tx ky nn) 142)).trans (h2.mono (by simp)))
  have Hc := Lib.hid (show W.cell? ⟨w.heap.size, 0, none⟩ = some (.int .i64 kd) ∧ W.cell? ⟨w.heap.size, 1, none⟩ = some (.int .i64 tx) ∧ W.cell? ⟨w.heap.size, 2, none⟩ = some (.int .u8 ky) ∧ W.cell? ⟨w.heap.size, 3, none⟩ = some (.int .i64 nn) from ⟨q0, q1, q2, q3⟩)
  go_region_held3 (fun W' => W'.cell? ⟨w.heap.size, 0, none⟩ = some (.int .i64 kd) ∧ W'.cell? ⟨w.heap.size, 1, none⟩ = some (.int .i64 tx) ∧ W'.cell? ⟨w.heap.size, 2, none⟩ = some (.int .u8 ky) ∧ W'.cell? ⟨w.heap.size, 3, none⟩ = some (.int .i64 nn)) (first | exact Hc.out | exact Hk.out | exact t1.out) (first
    | (go_at_call 68; (with_reducible refine (hs.out W.drew).mono ?_); rintro e w1 ⟨rfl, rfl⟩)
    | (go_at_call 54; (with_reducible refine (he.out W 142).mono ?_); rintro e w2 ⟨A, n, c, G, rfl, hsg, b2⟩; have l2 := Hl.out w2 b2; have t1 := Lib.hid (Hev.out w2 l2)))
  have H := Lib.hid (show EPostC w (encR kd tx ky nn) 0 (.returned (.tuple #[.slice A n c, .int .i64 0])) w2 from ⟨A, n, c, G, rfl, hsg, bW.trans (l2.mono bW.size)⟩)
  clear hsg b2 l2 t1 Hev Hk Hc Hl q0 q1 q2 q3 cW hs he
  go_wp2_with fail
  go_ret2
  exact H.out

/-- Only block d may have changed. -/
structure Just (d : Nat) (W V : World) : Prop where
  os : V.os = W.os
  tape : V.tape = W.tape
  output : V.output = W.output
  size : V.heap.size = W.heap.size
  block : ∀ i, i ≠ d → V.heap[i]? = W.heap[i]?
theorem Just.set (W : World) (d i : Nat) (x : Value) : Just d W (W.setCell ⟨d, i, none⟩ x) := ⟨rfl, rfl, rfl, by simp [World.setCell], fun j hj => Below.heap_setCell W ⟨d, i, none⟩ x j hj⟩
theorem Just.trans {d : Nat} {W V U : World} (h : Just d W V) (k : Just d V U) : Just d W U := ⟨k.os.trans h.os, k.tape.trans h.tape, k.output.trans h.output, k.size.trans h.size, fun i hi => (k.block i hi).trans (h.block i hi)⟩
theorem Just.low {d : Nat} {W V : World} (h : Just d W V) {B : Nat} {w : World} (hb : Below B w W) (hd : B ≤ d) : Below B w V :=
  hb.trans ⟨h.os, h.tape, h.output, by rw [h.size]; exact Nat.le_refl _, fun i hi => h.block i (by omega)⟩
theorem set4 (a0 a1 a2 a3 x0 x1 x2 x3 : Value) : ((((#[a0, a1, a2, a3] : Array Value).setIfInBounds 0 x0).setIfInBounds 1 x1).setIfInBounds 2 x2).setIfInBounds 3 x3 = #[x0, x1, x2, x3] := by simp
/-- A record is stored. -/
theorem rec_all {W : World} {T : TypeId} {d : Nat} {a0 a1 a2 a3 : Value} (hd : CB W d T #[a0, a1, a2, a3]) (x0 x1 x2 x3 : Value) :
    ∃ V, (((W.setCell ⟨d, 0, none⟩ x0).setCell ⟨d, 1, none⟩ x1).setCell ⟨d, 2, none⟩ x2).setCell ⟨d, 3, none⟩ x3 = V ∧ CB V d T #[x0, x1, x2, x3] ∧ Just d W V := by
  have hj := (((Just.set W d 0 x0).trans (Just.set _ d 1 x1)).trans (Just.set _ d 2 x2)).trans (Just.set _ d 3 x3)
  have hx := (((hd.put 0 x0).put 1 x1).put 2 x2).put 3 x3
  rw [set4] at hx
  exact ⟨_, rfl, hx, hj⟩

set_option maxHeartbeats 2000000 in
/-- The bytes of a record give it back. -/
theorem record_c (A : Option Addr) (n c : Nat) (kd tx ky nn : Int) (w : World) (hf : Fit kd tx ky nn) (hb : BR w w.heap.size A n c (encR kd tx ky nn)) :
    Calls Try.prog 47 #[.slice A n c] w fun e w' => e = .returned (.tuple #[.agg (rcs kd tx ky nn), .int .i64 0]) ∧ Below w.heap.size w w' := by
  obtain ⟨W, hW⟩ : ∃ W, w.alloc (.cells #[.int .i64 0, .int .i64 0, .int .u8 0, .int .i64 0] 103) = W := ⟨_, rfl⟩
  have cW : CB W w.heap.size 103 #[.int .i64 0, .int .i64 0, .int .u8 0, .int .i64 0] := by rw [← hW]; exact CB.new _ _ _
  have bW : Below w.heap.size w W := by rw [← hW]; exact (Below.refl _ _).alloc (Nat.le_refl _) _
  have HW := Lib.hid hW
  have hd : Calls Try.prog 61 #[.string ⟨#[97, 98, 97, 100]⟩, .slice A n c] W (DPostC W (vals kd tx ky nn) 0) := by
    have := decode_c shp A n c (encR kd tx ky nn) W (by show (4 : Nat) ≤ maxLen; simp [maxLen]) (hb.on bW)
    rw [(decR_ok hf).1, (decR_ok hf).2] at this
    exact this
  clear hW hb
  go_enter Try.func47, Try.ntmps47
  go_upto_region 1 with fail
  rw [HW.out]
  go_wp2_with fail
  (with_reducible refine hd.mono ?_)
  rintro e w1 ⟨A1, c1, rfl, hv, _, b1⟩
  have b1' := Lib.hid (bW.trans (b1.mono bW.size))
  have c1' : CB w1 w.heap.size 103 #[.int .i64 0, .int .i64 0, .int .u8 0, .int .i64 0] := cW.same (b1.block _ cW.lt)
  have hl : (vals kd tx ky nn).length = 4 := rfl
  rw [hl]
  obtain ⟨_, _, g, off, rfl, _, v0, _⟩ := hv 0 _ rfl
  obtain ⟨_, _, g', off', e1, _, v1, _⟩ := hv 1 _ rfl
  cases e1
  obtain ⟨_, _, g', off', e1, _, v2, _⟩ := hv 2 _ rfl
  cases e1
  obtain ⟨_, _, g', off', e1, _, v3, _⟩ := hv 3 _ rfl
  cases e1
  simp only [Nat.zero_mul, Nat.add_zero, Nat.one_mul] at v0 v1 v2 v3
  have y0 : ((kd.toNat : Nat) : Int) = kd := by have := hf.kd; omega
  have y1 : ((tx.toNat : Nat) : Int) = tx := by have := hf.tx; omega
  have y2 : ((ky.toNat : Nat) : Int) = ky := by have := hf.ky; omega
  have y3 : (((nn + 9223372036854775808).toNat : Nat) : Int) = nn + 9223372036854775808 := by have := hf.nn; omega
  rw [y0] at v0
  rw [y1] at v1
  rw [y2] at v2
  rw [y3] at v3
  have hu := Lib.hid (fun (U : World) => show Calls Try.prog 73 #[.int .u64 (nn + 9223372036854775808)] U (fun e w' => e = .returned (.int .i64 nn) ∧ Below U.heap.size U w') from by
    have := unsign_c (nn + 9223372036854775808) U (by have := hf.nn; omega) (by have := hf.nn; omega)
    rw [show nn + 9223372036854775808 - 9223372036854775808 = nn by omega] at this
    exact this.mono fun e w' h => ⟨h.1, by rw [← h.2]; exact Below.refl _ _⟩)
  have hne : g ≠ w.heap.size := by
    rintro rfl
    rw [c1'.cell] at v0
    match hk : off, v0 with
    | 0, h => simp at h
    | 1, h => simp at h
    | 2, h => simp at h
    | 3, h => simp at h
    | m + 4, h => simp at h
  have hgl := World.block_lt_of_cell? w1 _ v0
  have Hev := Lib.hid (fun (U : World) (hb : U.heap[g]? = w1.heap[g]?) => show U.cell? ⟨g, off, none⟩ = some (.int .u64 kd) ∧ U.cell? ⟨g, off + 2, none⟩ = some (.int .u64 tx) ∧ U.cell? ⟨g, off + 2 * 2, none⟩ = some (.int .u64 ky) ∧ U.cell? ⟨g, off + 3 * 2, none⟩ = some (.int .u64 (nn + 9223372036854775808)) from ⟨(World.cell?_of_block (a := ⟨g, _, none⟩) hb).trans v0, (World.cell?_of_block (a := ⟨g, _, none⟩) hb).trans v1, (World.cell?_of_block (a := ⟨g, _, none⟩) hb).trans v2, (World.cell?_of_block (a := ⟨g, _, none⟩) hb).trans v3⟩)
  have Hc := Lib.hid (Hev.out w1 rfl)
  have Hd := Lib.hid (fun (w2 : World) (h : Below w1.drew.heap.size w1.drew w2) => show Below w1.heap.size w1 w2 from ⟨h.os, h.tape, h.output, h.size, h.block⟩)
  have Hq := Lib.hid (fun (w2 : World) (h : Below w1.heap.size w1 w2) => show ∃ V, (((w2.setCell ⟨w.heap.size, 0, none⟩ (.int .i64 kd)).setCell ⟨w.heap.size, 1, none⟩ (.int .i64 tx)).setCell ⟨w.heap.size, 2, none⟩ (.int .u8 ky)).setCell ⟨w.heap.size, 3, none⟩ (.int .i64 nn) = V ∧ (w2.frozen? ⟨w.heap.size, 0, none⟩ = false ∧ w2.frozen? ⟨w.heap.size, 1, none⟩ = false ∧ w2.frozen? ⟨w.heap.size, 2, none⟩ = false ∧ w2.frozen? ⟨w.heap.size, 3, none⟩ = false) ∧ (V.cell? ⟨w.heap.size, 0, none⟩ = some (.int .i64 kd) ∧ V.cell? ⟨w.heap.size, 1, none⟩ = some (.int .i64 tx) ∧ V.cell? ⟨w.heap.size, 2, none⟩ = some (.int .u8 ky) ∧ V.cell? ⟨w.heap.size, 3, none⟩ = some (.int .i64 nn)) ∧ (w2.cell? ⟨w.heap.size, 0, none⟩ = some (.int .i64 0) ∧ w2.cell? ⟨w.heap.size, 1, none⟩ = some (.int .i64 0) ∧ w2.cell? ⟨w.heap.size, 2, none⟩ = some (.int .u8 0) ∧ w2.cell? ⟨w.heap.size, 3, none⟩ = some (.int .i64 0)) ∧ Below w.heap.size w V ∧ V.heap[g]? = w1.heap[g]? ∧ w2.heap[g]? = w1.heap[g]? from by
    have c2 : CB w2 w.heap.size 103 #[.int .i64 0, .int .i64 0, .int .u8 0, .int .i64 0] := c1'.same (h.block _ c1'.lt)
    obtain ⟨V, hV, cV, jV⟩ := rec_all c2 (.int .i64 kd) (.int .i64 tx) (.int .u8 ky) (.int .i64 nn)
    exact ⟨V, hV, ⟨c2.frozen 0, c2.frozen 1, c2.frozen 2, c2.frozen 3⟩, ⟨cV.cell 0, cV.cell 1, cV.cell 2, cV.cell 3⟩, ⟨c2.cell 0, c2.cell 1, c2.cell 2, c2.cell 3⟩, jV.low (b1'.out.trans (h.mono b1'.out.size)) (Nat.le_refl _), (jV.block g hne).trans (h.block g hgl), h.block g hgl⟩)
  have x0 : IntKind.i64.wrap kd = kd := IntWalk.i64_in _ (by have := hf.kd; omega)
  have x1 : IntKind.i64.wrap tx = tx := IntWalk.i64_in _ (by have := hf.tx; omega)
  have x2 : IntKind.u8.wrap ky = ky := IntWalk.u8_in _ (by have := hf.ky; omega)
  clear hv hd cW y0 y1 y2 y3 b1 c1'
  go_upto_region 4 with fail
  go_region_held3 (fun U => U.cell? ⟨g, off, none⟩ = some (.int .u64 kd) ∧ U.cell? ⟨g, off + 2, none⟩ = some (.int .u64 tx) ∧ U.cell? ⟨g, off + 2 * 2, none⟩ = some (.int .u64 ky) ∧ U.cell? ⟨g, off + 3 * 2, none⟩ = some (.int .u64 (nn + 9223372036854775808))) (first | exact Hc.out | exact t1.out | exact t2.out) (first
    | (go_at_call 73; (with_reducible refine (hu.out w1.drew).mono ?_); rintro e w2 ⟨rfl, d2⟩; obtain ⟨V, hV, ⟨z0, z1, z2, z3⟩, ⟨o0, o1, o2, o3⟩, ⟨p0, p1, p2, p3⟩, lV, e1, e2⟩ := Hq.out w2 (Hd.out w2 d2); have t1 := Lib.hid (Hev.out w2 e2); have t2 := Lib.hid (Hev.out V e1); have LV := Lib.hid lV; clear lV e1 e2 d2))
  clear t1 t2 Hev Hc Hd Hq hu
  go_wp2_with fail
  exact bodyPost_ret (v := .tuple #[.agg (rcs kd tx ky nn), .int .i64 0]) (by simp [results, Try.results47, go_sem, o0, o1, o2, o3]) rfl ⟨rfl, LV.out⟩
end Go.Proofs.Ytcfdfimkgehdfaa.Dz

/-
  works of waystationtop: it returns true. No condition.
-/
set_option linter.unusedVariables false
set_option linter.unusedSimpArgs false
namespace Go.Proofs.Ytcfdfimkgehdfaa.Dz
set_option maxRecDepth 100000
open Go.RowKit

set_option maxRecDepth 100000 in
set_option maxHeartbeats 1000000 in
theorem sitenew_c (w : World) : Calls Try.prog 48 #[] w fun e w' => ∃ b, e = .returned (.pointer (some ⟨b, 0, none⟩)) ∧ Below w.heap.size w w' := by
  obtain ⟨W, hW⟩ : ∃ W, w.alloc (.map #[] 0) = W := ⟨_, rfl⟩
  have hb : Below w.heap.size w W := by rw [← hW]; exact le_al _ _
  obtain ⟨V, hV⟩ : ∃ V, W.alloc (.cells #[.slice none 0 0, .slice none 0 0, .map (some w.heap.size), .slice none 0 0] 155) = V := ⟨_, rfl⟩
  have hb2 : Below W.heap.size W V := by rw [← hV]; exact le_al _ _
  have e1 : W.heap.size = w.heap.size + 1 := by rw [← hW]; simp
  have H := Lib.hid (le_tr hb hb2)
  have hmk : (Instr.makeMap 148 none).run Try.prog w = .ok (.map (some w.heap.size)) (w.alloc (.map #[] 0)) := run_makeMap _ w
  have HW := Lib.hid hW
  have HV := Lib.hid hV
  clear hW hV hb hb2 e1
  go_enter Try.func48, Try.ntmps48
  go_wp2_with fail
  rw [HW.out, HV.out]
  go_wp2_with fail
  go_ret
  exact ⟨_, rfl, H.out⟩

set_option maxRecDepth 100000 in
set_option maxHeartbeats 2000000 in
theorem works_c (w : World) : Calls Try.prog 22 #[] w fun e w' => e = .returned (.bool true) ∧ Below w.heap.size w w' := by
  have hf : Dz.Fit 3 300 3 (-5) := ⟨by omega, by omega, by omega, by omega⟩
  obtain ⟨rb, hrb⟩ : ∃ l, Dz.encR 3 300 3 (-5) = l := ⟨_, rfl⟩
  have hlen : rb.length = 12 := by rw [← hrb]; exact Dz.encR_len _ _ _ _
  obtain ⟨W, hW⟩ : ∃ W, w.alloc (.cells #[.int .i64 3, .int .i64 300, .int .u8 3, .int .i64 (-5)] 103) = W := ⟨_, rfl⟩
  have cW : CB W w.heap.size 103 #[.int .i64 3, .int .i64 300, .int .u8 3, .int .i64 (-5)] := by rw [← hW]; exact CB.new _ _ _
  have bW : Below w.heap.size w W := by rw [← hW]; exact belA _ _
  have HW := Lib.hid hW
  have hby := Dz.bytes_c 3 300 3 (-5) W hf
  rw [hrb] at hby
  have Hq := Lib.hid (fun (U : World) (hb : Below W.heap.size W U) => show U.cell? ⟨w.heap.size, 0, none⟩ = some (.int .i64 3) ∧ U.cell? ⟨w.heap.size, 1, none⟩ = some (.int .i64 300) ∧ U.cell? ⟨w.heap.size, 2, none⟩ = some (.int .u8 3) ∧ U.cell? ⟨w.heap.size, 3, none⟩ = some (.int .i64 (-5)) from ⟨(le_on cW hb).cell 0, (le_on cW hb).cell 1, (le_on cW hb).cell 2, (le_on cW hb).cell 3⟩)
  obtain ⟨q0, q1, q2, q3⟩ := Hq.out W (Below.refl _ _)
  have Hrb := Lib.hid hrb
  clear hW cW hrb
  go_enter Try.func22, Try.ntmps22
  go_upto_region 2 with fail
  rw [HW.out]
  go_wp2_with fail
  (with_reducible refine hby.mono ?_)
  rintro e w1 ⟨A1, n1, c1, G1, rfl, hsg, b1⟩
  have hb1 := Dz.BR.of_seg hsg
  have e0 : Dz.eA 0 1000 rb = 0 := Dz.eA_ok (by omega) (by omega)
  have e1 : Dz.bA 1000 [] rb = Dz.frameB rb := by
    rw [Dz.bA_ok (show Dz.eA ([] : List UInt8).length 1000 rb = 0 from e0)]
    rfl
  have hap : Calls Try.prog 43 #[.agg #[.slice none 0 0, .int .i64 0, .int .i64 1000], .slice A1 n1 c1] w1 (Dz.TPostF w1 0 1000 (Dz.frameB rb) 0) := by
    have h := Dz.append_f none 0 0 1000 0 [] A1 n1 c1 rb w1 (Dz.BR.nil _ _) hb1 (by omega) (by omega)
    rw [e0, e1] at h
    exact h
  have l1 := Lib.hid (bel2 bW b1)
  have b1h := Lib.hid b1
  clear hby hsg b1 e0 e1
  go_wp2_with fail
  (with_reducible refine hap.mono ?_)
  rintro e w2 ⟨A2, n2, c2, rfl, hb2, b2, _⟩
  have hl2 : n2 ≤ 100 := by
    have h1 := hb2.1
    simp [Dz.frameB, Dz.headB, Dz.num_length] at h1
    omega
  obtain ⟨X, hX⟩ : ∃ V, w2.alloc (.cells #[.slice A2 n2 c2, .int .i64 0, .int .i64 1000] 106) = V := ⟨_, rfl⟩
  have cX : CB X w2.heap.size 106 #[.slice A2 n2 c2, .int .i64 0, .int .i64 1000] := by rw [← hX]; exact CB.new _ _ _
  have bX : Below w2.heap.size w2 X := by rw [← hX]; exact belA _ _
  have lX := Lib.hid (bel2 (bel2 b1h.out b2) bX)
  have hbX := Dz.BR.on hb2 bX
  obtain ⟨s0, s1, s2⟩ : X.cell? ⟨w2.heap.size, 0, none⟩ = some (.slice A2 n2 c2) ∧ X.cell? ⟨w2.heap.size, 1, none⟩ = some (.int .i64 0) ∧ X.cell? ⟨w2.heap.size, 2, none⟩ = some (.int .i64 1000) := ⟨cX.cell 0, cX.cell 1, cX.cell 2⟩
  have hsy : Calls Try.prog 46 #[.agg #[.slice A2 n2 c2, .int .i64 0, .int .i64 1000]] X (Dz.DPost X n2 n2 1000 (Dz.frameB rb)) := Dz.sync_d A2 n2 c2 0 1000 _ X hbX (by omega)
  have hlf := hb2.1
  have HX := Lib.hid hX
  clear hap hX bX hb2 b2 hbX cX q0 q1 q2 q3
  go_upto_region 4 with fail
  rw [HX.out]
  go_wp2_with fail
  (with_reducible refine hsy.mono ?_)
  rintro e w3 ⟨A3, c3, rfl, hb3, b3⟩
  have hcr : Calls Try.prog 45 #[.agg #[.slice A3 n2 c3, .int .i64 n2, .int .i64 1000], .int .u16 0] w3 (Dz.DPost w3 n2 n2 1000 (Dz.frameB rb)) := by
    have h := Dz.crash_d A3 n2 c3 n2 0 1000 (Dz.frameB rb) w3 hb3 (by omega) (Nat.le_refl _) (by omega)
    rw [show Dz.kC n2 n2 0 = n2 by simp [Dz.kC], List.take_of_length_le (by omega)] at h
    exact h
  have l3 := Lib.hid (bel2 lX.out b3)
  clear hsy b3 hb3 s0 s1 s2
  go_wp2_with fail
  (with_reducible refine hcr.mono ?_)
  rintro e w4 ⟨A4, c4, rfl, hb4, b4⟩
  have hrc := (Dz.records_d A4 n2 c4 n2 1000 (Dz.frameB rb) w4 hb4 (by omega)).mono (fun _ _ h => h.toA)
  have ha := (Dz.aC_all (ls := [rb]) (by intro l hl; simp at hl; subst hl; omega)).1
  rw [show Dz.frs [rb] = Dz.frameB rb by simp [Dz.frs]] at ha
  have l4 := Lib.hid (bel2 l3.out b4)
  clear hcr b4 hb4
  go_wp2_with fail
  (with_reducible refine hrc.mono ?_)
  rintro e w5 ⟨A5, n5, c5, rfl, hl5, b5⟩
  rw [ha] at hl5
  obtain rfl : n5 = 1 := hl5.1.symm
  obtain ⟨g, off, A', n', c', l, rfl, hl, v0, hbr⟩ := hl5.at_ (i := 0) (by omega)
  obtain rfl : l = rb := by have := hl.out; simp at this; exact this.symm
  have hre := Dz.record_c A' n' c' 3 300 3 (-5) w5 hf (by rw [Hrb.out]; exact hbr)
  have l5 := Lib.hid (bel2 l4.out b5)
  clear hrc b5 hl5 hl ha hbr
  rw [Nat.add_zero] at v0
  go_wp2_with fail
  (with_reducible refine hre.mono ?_)
  rintro e w6 ⟨rfl, b6⟩
  obtain ⟨Y, hY⟩ : ∃ V, w6.alloc (.cells #[.int .i64 3, .int .i64 300, .int .u8 3, .int .i64 (-5)] 103) = V := ⟨_, rfl⟩
  have cY : CB Y w6.heap.size 103 #[.int .i64 3, .int .i64 300, .int .u8 3, .int .i64 (-5)] := by rw [← hY]; exact CB.new _ _ _
  have bY : Below w6.heap.size w6 Y := by rw [← hY]; exact belA _ _
  have lY := Lib.hid (bel2 (bel2 l5.out b6) bY)
  have HY := Lib.hid hY
  clear hre b6 hY bY v0
  go_upto_region 8 with fail
  rw [HY.out]
  go_wp2_with fail
  (with_reducible refine (sitenew_c Y).mono ?_)
  rintro e w7 ⟨b, rfl, b7⟩
  have l7 := Lib.hid (bel2 lY.out b7)
  obtain ⟨o0, o1, o2, o3⟩ : w7.cell? ⟨w6.heap.size, 0, none⟩ = some (.int .i64 3) ∧ w7.cell? ⟨w6.heap.size, 1, none⟩ = some (.int .i64 300) ∧ w7.cell? ⟨w6.heap.size, 2, none⟩ = some (.int .u8 3) ∧ w7.cell? ⟨w6.heap.size, 3, none⟩ = some (.int .i64 (-5)) := ⟨(le_on cY b7).cell 0, (le_on cY b7).cell 1, (le_on cY b7).cell 2, (le_on cY b7).cell 3⟩
  obtain ⟨q0, q1, q2, q3⟩ := Hq.out w7 l7.out
  clear b7 cY
  go_wp2_with fail
  go_ret
  exact ⟨rfl, bel2 bW l7.out⟩
end Go.Proofs.Ytcfdfimkgehdfaa.Dz
