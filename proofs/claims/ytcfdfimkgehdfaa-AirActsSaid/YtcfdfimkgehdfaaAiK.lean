/-
  Layer 18: the document's Again, Turn, Same. Conditions: the letters can be read, there are no more than there is room for, a million at most.
-/
import Derived.Test.YtcfdfimkgehdfaaAiJ
set_option linter.unusedVariables false
set_option linter.unusedSimpArgs false
namespace Go.Proofs.Ytcfdfimkgehdfaa
open Go.RowKit

theorem again_snd {room : Nat} {L : List Lt} {t : Nat} {i : Int} (hR : Roomy room (toR L)) (hE : eAt (toR L) t i = 0) : eSn room (toR L) (xTk (toR L) t i) = eAg room (toR L) t i ∧ sSnR room L (xTk (toR L) t i) = sAgR room L t i := by
  have hm := (hR t).2.2 _ (List.mem_of_getElem? (xTk_at hE))
  obtain ⟨h1, h2, h3⟩ := hm
  have ht := (eAt_ok hE).1
  have e : eSn room (toR L) (xTk (toR L) t i) = eAg room (toR L) t i := by
    unfold eSn eAg
    rw [if_pos hE, if_neg (by omega), if_neg (by omega), h1]
  exact ⟨e, by unfold sSnR sAgR; rw [e]⟩
theorem SRPost.mono {w w1 w' : World} {A : Option Addr} {n : Nat} {L : List Lm} {F F2 : Nat → Prop} {rm : Int} {M : List Lt} {k : Nat} {e : Ending} (h : SRPost w1 A n L F rm M k e w') (hb : Below w.heap.size w w1) (hF : ∀ g, F g → FD A n L g ∨ F2 g) : SRPost w A n L F2 rm M k e w' := by
  obtain ⟨A', n', c', L', h1, h2, h3, h4, h5⟩ := h
  refine ⟨A', n', c', L', h1, h2, h3, fun g hg => ?_, le_tr hb h5⟩
  rcases h4 g hg with e | e | e
  · exact .inl e
  · exact (hF g e).imp id .inl
  · exact .inr (.inr (Nat.le_trans hb.size e))
/-- What a call that hands back the very letters leaves. -/
theorem SRPost.as_ {w w' : World} {A : Option Addr} {n : Nat} {L : List Lm} {F : Nat → Prop} {rm : Int} {M : List Lt} {k : Nat} {A' : Option Addr} {n' c' : Nat} {L' : List Lm} {k' : Nat} (h1 : DL A' n' c' L' w') (h2 : LT L' = M) (h3 : ∀ g, FD A' n' L' g → FD A n L g ∨ F g ∨ w.heap.size ≤ g) (hk : k = k') (hb : Below w.heap.size w w') :
    SRPost w A n L F rm M k (.returned (.tuple #[.agg (cA ⟨A', n', c', rm⟩), .int .i64 (k' : Int)])) w' := by
  subst hk
  exact ⟨A', n', c', L', rfl, h1, h2, h3, hb⟩
def NoF (_ : Nat) : Prop := False
theorem SRPost.fin {w w1 w' V : World} {A : Option Addr} {n : Nat} {L : List Lm} {F : Nat → Prop} {rm : Int} {M : List Lt} {k : Nat} {e : Ending} (hb : Below w.heap.size w w1) (h : SRPost w1 A n L F rm M k e w') {g : Nat} (kk : Wr w' V g) (hg : w.heap.size ≤ g) (hg1 : g < w1.heap.size)
    (hF : ∀ g, F g → FD A n L g) (lo : ∀ g, FD A n L g → g < w.heap.size) : SRPost w A n L NoF rm M k e V := by
  obtain ⟨A', n', c', L', h1, h2, h3, h4, h5⟩ := h
  have hng : ¬ FD A' n' L' g := fun e => by
    rcases h4 g e with e | e | e
    · have := lo g e; omega
    · have := lo g (hF g e); omega
    · omega
  refine ⟨A', n', c', L', h1, (h2.ob.wr kk hng).ok, h3, fun g hg => ?_, kk.bel _ _ (le_tr hb h5) hg⟩
  rcases h4 g hg with e | e | e
  · exact .inl e
  · exact .inl (hF g e)
  · exact .inr (.inr (Nat.le_trans hb.size e))
/-- Behind Take where the place is told. -/
def TRP (w : World) (A : Option Addr) (n : Nat) (L : List Lm) (rm : Int) (t : Nat) (i : Int) (k : Nat) (e : Ending) (w' : World) : Prop :=
  ∃ A' n' c' L' x, e = .returned (.tuple #[.agg (cA ⟨A', n', c', rm⟩), .agg (lA x), .int .i64 (k : Int)]) ∧ DL A' n' c' L' w' ∧ LT L' = sTkR (LT L) t i ∧ x.lt = xTk (toR (LT L)) t i ∧ RR w' bcl 1 x.A x.n x.c x.b ∧
    (∀ g, InR x.A x.n g → FD A n L g) ∧ (∀ g, FD A' n' L' g → FD A n L g ∨ w.heap.size ≤ g) ∧ Below w.heap.size w w'
theorem TRPost.at_ {w w' : World} {A : Option Addr} {n : Nat} {L : List Lm} {rm : Int} {t : Nat} {i : Int} {k : Nat} {e : Ending} (hE : eAt (toR (LT L)) t i = k) (h : TRPost w A n L rm t i e w') : TRP w A n L rm t i k e w' := by
  subst hE
  exact h
theorem rc_setE {α : Type} {c : α → List Value} (s : Nat) [Nonempty (EncOk c s)] : ∀ (L : List α) (k : Nat) (x : α) (j : Nat), k < L.length → (rc c (L.set k x))[j]? = if k * s ≤ j ∧ j < k * s + s then (c x)[j - k * s]? else (rc c L)[j]?
  | [], k, x, j, h => by simp at h
  | y :: r, 0, x, j, h => by
    have hy := encLen (c := c) (s := s) y
    have hx := encLen (c := c) (s := s) x
    rw [List.set_cons_zero, rc_cons, rc_cons, Nat.zero_mul, Nat.zero_add, Nat.sub_zero]
    by_cases hj : j < s
    · rw [if_pos ⟨Nat.zero_le _, hj⟩, List.getElem?_append_left (by omega)]
    · rw [if_neg (by omega), List.getElem?_append_right (by omega), List.getElem?_append_right (by omega), hx, hy]
  | y :: r, k + 1, x, j, h => by
    have hy := encLen (c := c) (s := s) y
    have ih := rc_setE (c := c) s r k x (j - s) (by simpa using h)
    rw [List.set_cons_succ, rc_cons, rc_cons]
    have e : (k + 1) * s = k * s + s := by rw [Nat.add_mul, Nat.one_mul]
    rw [e]
    by_cases hj : j < s
    · rw [List.getElem?_append_left (by omega), List.getElem?_append_left (by omega), if_neg (by omega)]
    · rw [List.getElem?_append_right (by omega), List.getElem?_append_right (by omega), hy, ih]
      by_cases h1 : k * s ≤ j - s ∧ j - s < k * s + s
      · rw [if_pos h1, if_pos (by omega)]
        congr 1
        omega
      · rw [if_neg h1, if_neg (by omega)]
section
variable {P : Program} {ops : Array Oper} {rest : List Oper} {dst : Option Tmp} {ty : TypeId} {pos : String} {aft : Array Edge} {a : Act} {w : World} {Q : Exit → Act → World → Prop}
theorem st_elst {α : Type} {c : α → List Value} {s : Nat} [Nonempty (EncOk c s)] (T : TypeId) (x y : Operand) (g off k : Nat) (e : α) (hx : a.eval x = .pointer (some ⟨g, off + k * s, none⟩)) (hy : a.eval y = .agg (c e).toArray)
    {n q : Nat} {L : List α} (h : Seg w T s (some ⟨g, off, none⟩) n q (rc c L) (some g)) (hk : k < n) (hi : (P.info? T).map (·.size) = some s) (h1 : (c e).toArray.all (·.oneCell') = true)
    (kk : Sh (∀ V, Seg V T s (some ⟨g, off, none⟩) n q (rc c (L.set k e)) (some g) → Wr w V g → wpList P ops Q rest (a.put dst undef) V)) : wpList P ops Q (⟨dst, .store T x y, ty, pos, aft, none⟩ :: rest) a w := by
  have hL := rc_len h
  have hs := encLen (c := c) (s := s) e
  rcases h.2.2.2 with ⟨h0, _⟩ | ⟨g', off', cur, e1, e2, h3, h4, h5⟩
  · cases h0
  · cases e1
    have hnq : n * s ≤ q * s := Nat.mul_le_mul_right _ h.2.1
    have hks : k * s + s ≤ n * s := by
      have : (k + 1) * s ≤ n * s := Nat.mul_le_mul_right _ hk
      rwa [Nat.add_mul, Nat.one_mul] at this
    have hsz : off + k * s + (c e).toArray.size ≤ cur.size := by simp [hs]; omega
    refine st_mid T x y g (off + k * s) (c e).toArray hx hy h3 hsz rfl (by simp [hs, hi]) h1 ⟨fun V hV kV => kk.out V ⟨?_, h.2.1, h.2.2.1, .inr ⟨g, off, _, rfl, rfl, hV, ?_, fun j u hu => ?_⟩⟩ kV⟩
    · rw [rc_length s, List.length_set, hL]
    · simp [hs]
      omega
    · rw [rc_setE (c := c) s L k e j (by omega)] at hu
      have hlen1 : (cur.extract 0 (off + k * s)).size = off + k * s := by simp; omega
      split at hu
      · rename_i hr
        rw [Array.append_assoc, Array.getElem?_append_right (by omega), hlen1, Array.getElem?_append_left (by simp [hs]; omega)]
        rw [show off + j - (off + k * s) = j - k * s by omega]
        simpa using hu
      · rename_i hr
        have hj : j < n * s := by
          have := (List.getElem?_eq_some_iff.1 hu).1
          rwa [rc_length s, hL] at this
        have := h5 j u hu
        by_cases hlt : j < k * s
        · rw [Array.append_assoc, Array.getElem?_append_left (by omega), Array.getElem?_extract, if_pos (by omega)]
          simpa using this
        · rw [Array.getElem?_append_right (by simp [hs]; omega), Array.getElem?_extract, if_pos (by simp [hs]; omega)]
          simp only [Array.size_append, hlen1]
          rw [← this]
          congr 1
          simp [hs]
          omega
end
theorem SO.addr {α : Type} {c : α → List Value} {s : Nat} [Nonempty (EncOk c s)] {W : World} {N : Nat} {T : TypeId} {A : Option Addr} {n q : Nat} {L : List α} {G : Option Nat} (h : SO N W T c s A n q L G) (hn : 0 < n) : ∃ g off, A = some ⟨g, off, none⟩ ∧ G = some g := by
  rcases h.seg.2.2.2 with ⟨_, h0, _⟩ | ⟨g, off, cur, h1, h2, _⟩
  · have := h.seg.2.1; omega
  · exact ⟨g, off, h1, h2⟩
/-- A byte of a slice of a call's own is written. -/
theorem slot_o {W : World} {N : Nat} {A : Option Addr} {n q : Nat} {L : List UInt8} {G : Option Nat} (h : SO N W 5 bcl 1 A n q L G) (i : Nat) (hi : i < n) :
    ∃ g off x, A = some ⟨g, off, none⟩ ∧ G = some g ∧ L[i]? = some x ∧ W.frozen? ⟨g, off + i, none⟩ = false ∧ W.cell? ⟨g, off + i, none⟩ = some (.int .u8 (x.toNat : Int)) ∧
      ∀ y : UInt8, SO N (W.setCell ⟨g, off + i, none⟩ (.int .u8 (y.toNat : Int))) 5 bcl 1 A n q (L.set i y) G ∧ Wr W (W.setCell ⟨g, off + i, none⟩ (.int .u8 (y.toNat : Int))) g := by
  have hl := h.len
  obtain ⟨g, off, hA, hG, fz, hc, hs⟩ := h.seg.slot i (by omega)
  have hx : L[i]? = some L[i] := List.getElem?_eq_getElem (by omega)
  have hr : (rc bcl L)[i]? = some (.int .u8 (L[i].toNat : Int)) := by rw [rc_bcl]; unfold Dk.bc; rw [List.getElem?_map, hx]; rfl
  obtain ⟨cs, hcs⟩ := seg_typeS (e := 5) (by have := h.seg; rw [hG] at this; exact this)
  refine ⟨g, off, L[i], hA, hG, hx, fz, hc _ hr, fun y => ⟨⟨?_, h.hi⟩, Wr.cell hcs _ _⟩⟩
  have := hs (.int .u8 (y.toNat : Int))
  have e : (rc bcl L).set i (.int .u8 (y.toNat : Int)) = rc bcl (L.set i y) := by rw [rc_bcl, rc_bcl]; unfold Dk.bc; rw [List.map_set]
  rw [e] at this
  exact this
/-- What Turn hands back. -/
theorem SRPost.turned {w w' : World} {A : Option Addr} {n c : Nat} {L : List Lm} {rm : Int} {M : List Lt} {k j : Nat} {x' : Lm} {B : Option Addr} {m q : Nat} {G G2 : Option Nat} (h : DL A n c L w') (hs : SO w.heap.size w' 45 lcl 3 B m q (L.set j x') G) (hb : SO w.heap.size w' 5 bcl 1 x'.A x'.n x'.c x'.b G2) (hM : (LT L).set j x'.lt = M) (hk : k = 0)
    (hl : Below w.heap.size w w') : SRPost w A n L NoF rm M k (.returned (.tuple #[.agg (cA ⟨B, m, q, rm⟩), .int .i64 0])) w' := by
  subst hk
  refine ⟨B, m, q, L.set j x', rfl, ⟨hs.rr, fun y hy => ?_⟩, by rw [← hM]; unfold LT; rw [List.map_set], fun g hg => ?_, hl⟩
  · rcases List.mem_or_eq_of_mem_set hy with hy | rfl
    · exact h.el y hy
    · exact hb.rr
  · rcases hg with ⟨hg, _⟩ | ⟨y, hy, hg⟩
    · exact .inr (.inr (hs.in_ hg))
    · rcases List.mem_or_eq_of_mem_set hy with hy | rfl
      · exact .inl (.inr ⟨y, hy, hg⟩)
      · exact .inr (.inr (hb.in_ hg.1))
set_option maxRecDepth 100000 in
set_option maxHeartbeats 4000000 in
theorem ragain_c (A : Option Addr) (n c : Nat) (L : List Lm) (room t : Nat) (i : Int) (w : World) (h : DL A n c L w) (hR : Roomy room (toR (LT L))) (hn : n ≤ 1000000) : Calls Try.prog 33 #[.agg (cA ⟨A, n, c, (room : Int)⟩), .int .u8 (t : Int), .int .i64 i] w (SRPost w A n L NoF (room : Int) (sAgR room (LT L) t i) (eAg room (toR (LT L)) t i)) := by
  have hd := OD.start h
  have hlen := Lib.hid h.rr.len
  clear h
  have T0 := fun (V : World) (h : DL A n c L V) => rtake_c A n c L (room : Int) t i V h hn
  by_cases hE : eAt (toR (LT L)) t i = 0
  · skip
    obtain ⟨z1, z2⟩ := again_snd hR hE
    have HG1 := Lib.hid z1
    have HG2 := Lib.hid z2
    clear z1 z2
    have T1 := fun (V : World) (h : DL A n c L V) => (T0 V h).mono fun e w' hp => hp.at_ hE
    clear hE T0 hR
    go_enter Try.func33, Try.ntmps33
    go_wp2_with (first | ((with_reducible refine st_box 28 _ (cA ⟨A, n, c, (room : Int)⟩) ?_ ?_); exact rfl))
    refine ⟨fun V1 g1 n1 f1 => ?_⟩
    have up1 : w.heap.size ≤ g1 := Nat.le_of_eq f1.at_
    have bl1 := f1.bel
    clear f1
    have r3_d := (hd).on bl1
    have l3 := le_tr (Below.refl _ _) bl1
    clear hd
    clear bl1
    go_wp2_with (first | ((with_reducible refine st_alloc 28 (cA zeroC) ?_ ?_); exact zero_cr))
    refine ⟨fun V4 g4 n4 f4 => ?_⟩
    have ne4_a := f4.ne n1
    have up4 : w.heap.size ≤ g4 := f4.up l3
    have bl4 := f4.bel
    clear f4
    have r6_a := le_on n1 bl4
    have r6_d := (r3_d).on bl4
    have l6 := le_tr l3 bl4
    clear n1 r3_d l3
    clear bl4
    go_wp2_with (first | ((with_reducible refine st_load 28 _ g1 ?_ r6_a Try.underlying28 ?_ ?_ ?_); exact rfl; exact rfl; exact Try.zCr))
    (with_reducible refine (T1 _ r6_d.dl).mono ?_)
    rintro e w7 ⟨A1, n1, c1, L1, x, rfl, d1, e1, e2, rx, f1, f2, b7⟩
    have r9_a := le_on r6_a b7
    have r9_r := le_on n4 b7
    have r9_d := (r6_d).on b7
    have l9 := le_tr l6 b7
    clear r6_a n4 r6_d l6
    clear b7
    have hrx : RL w w7 bcl 1 x.A x.n x.c x.b := ⟨rx, fun b off hA hn => Ol.lo r9_d b (f1 b ⟨⟨off, hA⟩, hn⟩)⟩
    clear rx d1 e1 f2
    go_wp2_with (first | ((with_reducible refine st_alloc 28 (cA zeroC) ?_ ?_); exact zero_cr))
    refine ⟨fun V10 g10 n10 f10 => ?_⟩
    have ne10_a := f10.ne r9_a
    have ne10_r := f10.ne r9_r
    have up10 : w.heap.size ≤ g10 := f10.up l9
    have bl10 := f10.bel
    clear f10
    have r12_a := le_on r9_a bl10
    have r12_r := le_on r9_r bl10
    have r12_d := (r9_d).on bl10
    have r12_xb := (hrx).on bl10
    have l12 := le_tr l9 bl10
    clear r9_a r9_r r9_d hrx l9
    clear bl10
    go_wp2_with (first | ((with_reducible refine st_alloc 45 (lA zeroL) ?_ ?_); exact zero_lr))
    refine ⟨fun V13 g13 n13 f13 => ?_⟩
    have ne13_a := f13.ne r12_a
    have ne13_r := f13.ne r12_r
    have ne13_b := f13.ne n10
    have up13 : w.heap.size ≤ g13 := f13.up l12
    have bl13 := f13.bel
    clear f13
    have r15_a := le_on r12_a bl13
    have r15_r := le_on r12_r bl13
    have r15_b := le_on n10 bl13
    have r15_d := (r12_d).on bl13
    have r15_xb := (r12_xb).on bl13
    have l15 := le_tr l12 bl13
    clear r12_a r12_r n10 r12_d r12_xb l12
    clear bl13
    go_wp2_with (first | ((with_reducible refine st_store 28 _ _ g10 (cA ⟨A1, n1, c1, (room : Int)⟩) ?_ ?_ r15_b ?_ ?_ ?_ ?_); exact rfl; exact rfl; exact Try.zCr; exact rfl; exact cA_one _))
    refine ⟨fun V16 n16 k16 => ?_⟩
    have m16_a := k16.on r15_a ne10_a
    have m16_r := k16.on r15_r ne10_r
    have m16_x := k16.on n13 (Ne.symm ne13_b)
    have m16_d := (r15_d).wr k16 up10
    have m16_xb := (r15_xb).wr k16 up10
    have o16 := k16.bel _ _ l15 up10
    clear k16
    clear r15_b r15_a r15_r n13 r15_d r15_xb l15
    go_wp2_with (first | ((with_reducible refine st_store 45 _ _ g13 (lA x) ?_ ?_ m16_x ?_ ?_ ?_ ?_); exact rfl; exact rfl; exact Try.zLr; exact rfl; exact lA_one _))
    refine ⟨fun V17 n17 k17 => ?_⟩
    have m17_a := k17.on m16_a ne13_a
    have m17_r := k17.on m16_r ne13_r
    have m17_b := k17.on n16 ne13_b
    have m17_d := (m16_d).wr k17 up13
    have m17_xb := (m16_xb).wr k17 up13
    have o17 := k17.bel _ _ o16 up13
    clear k17
    clear m16_x m16_a m16_r n16 m16_d m16_xb o16
    go_wp2_with (first | ((with_reducible refine st_load 28 _ g1 ?_ m17_a Try.underlying28 ?_ ?_ ?_); exact rfl; exact rfl; exact Try.zCr) | ((with_reducible refine st_load 45 _ g13 ?_ n17 Try.underlying45 ?_ ?_ ?_); exact rfl; exact rfl; exact Try.zLr))
    have hb9 := o17
    have hx9 := Ol.lo m17_d
    have lt9 := CB.lt m17_r
    (with_reducible refine (rsend_c A n c L room x _ m17_d.dl m17_xb.rr hn).mono ?_)
    intro e w9 hp
    rw [e2, HG1.out, HG2.out] at hp
    obtain ⟨A5, n5, c5, L5, rfl, q1, q2, q3, q4⟩ := hp
    have b9 := q4
    have r19_a := le_on m17_a b9
    have r19_r := le_on m17_r b9
    have r19_b := le_on m17_b b9
    have r19_x := le_on n17 b9
    have l19 := le_tr o17 b9
    clear m17_a m17_r m17_b n17 o17
    clear b9
    go_wp2_with (first | ((with_reducible refine st_store 28 _ _ g4 (cA ⟨A5, n5, c5, (room : Int)⟩) ?_ ?_ r19_r ?_ ?_ ?_ ?_); exact rfl; exact rfl; exact Try.zCr; exact rfl; exact cA_one _))
    refine ⟨fun V10 n10 k10 => ?_⟩
    have hf := SRPost.fin hb9 (show SRPost _ A n L (InR x.A x.n) (room : Int) (sAgR room (LT L) t i) (eAg room (toR (LT L)) t i) (.returned (.tuple #[.agg (cA ⟨A5, n5, c5, (room : Int)⟩), .int .i64 ((eAg room (toR (LT L)) t i : Nat) : Int)])) w9 from ⟨A5, n5, c5, L5, rfl, q1, q2, q3, q4⟩) k10 up4 lt9 f1 hx9
    clear k10 q1 q2 q3 q4 hb9 lt9
    go_wp2_with fail
    exact bodyPost_ret (v := .tuple #[.agg (cA ⟨A5, n5, c5, (room : Int)⟩), .int .i64 ((eAg room (toR (LT L)) t i : Nat) : Int)]) (res_two Try.results33 rfl rfl n10 Try.underlying28 rfl Try.zCr) rfl (hf)
  obtain ⟨k, hk⟩ : ∃ k, eAt (toR (LT L)) t i = k := ⟨_, rfl⟩
  have hk0 : ¬ k = 0 := by omega
  have q1 : ((k : Int) != 0) = true := by simp; omega
  have q1' : (k != 0) = true := by simp; omega
  have T1 := fun (V : World) (h : DL A n c L V) => (T0 V h).mono fun e w' hp => hp.at_ hk
  have HE := Lib.hid (eAg_n (room := room) hk hk0).1
  have HQ := Lib.hid (show LT L = sAgR room (LT L) t i by unfold sAgR; rw [HE.out, if_neg hk0])
  clear hE hk hk0 T0
  go_enter Try.func33, Try.ntmps33
  go_wp2_with (first | ((with_reducible refine st_box 28 _ (cA ⟨A, n, c, (room : Int)⟩) ?_ ?_); exact rfl))
  refine ⟨fun V1 g1 n1 f1 => ?_⟩
  have up1 : w.heap.size ≤ g1 := Nat.le_of_eq f1.at_
  have bl1 := f1.bel
  clear f1
  have r3_d := (hd).on bl1
  have l3 := le_tr (Below.refl _ _) bl1
  clear hd
  clear bl1
  go_wp2_with (first | ((with_reducible refine st_alloc 28 (cA zeroC) ?_ ?_); exact zero_cr))
  refine ⟨fun V4 g4 n4 f4 => ?_⟩
  have ne4_a := f4.ne n1
  have up4 : w.heap.size ≤ g4 := f4.up l3
  have bl4 := f4.bel
  clear f4
  have r6_a := le_on n1 bl4
  have r6_d := (r3_d).on bl4
  have l6 := le_tr l3 bl4
  clear n1 r3_d l3
  clear bl4
  go_wp2_with (first | ((with_reducible refine st_load 28 _ g1 ?_ r6_a Try.underlying28 ?_ ?_ ?_); exact rfl; exact rfl; exact Try.zCr))
  (with_reducible refine (T1 _ r6_d.dl).mono ?_)
  rintro e w7 ⟨A1, n1, c1, L1, x, rfl, d1, e1, e2, rx, f1, f2, b7⟩
  have r9_a := le_on r6_a b7
  have r9_r := le_on n4 b7
  have r9_d := (r6_d).on b7
  have l9 := le_tr l6 b7
  clear r6_a n4 r6_d l6
  clear b7
  have hrx : RL w w7 bcl 1 x.A x.n x.c x.b := ⟨rx, fun b off hA hn => Ol.lo r9_d b (f1 b ⟨⟨off, hA⟩, hn⟩)⟩
  clear rx d1 e1 f2
  go_wp2_with (first | ((with_reducible refine st_alloc 28 (cA zeroC) ?_ ?_); exact zero_cr))
  refine ⟨fun V10 g10 n10 f10 => ?_⟩
  have ne10_a := f10.ne r9_a
  have ne10_r := f10.ne r9_r
  have up10 : w.heap.size ≤ g10 := f10.up l9
  have bl10 := f10.bel
  clear f10
  have r12_a := le_on r9_a bl10
  have r12_r := le_on r9_r bl10
  have r12_d := (r9_d).on bl10
  have r12_xb := (hrx).on bl10
  have l12 := le_tr l9 bl10
  clear r9_a r9_r r9_d hrx l9
  clear bl10
  go_wp2_with (first | ((with_reducible refine st_alloc 45 (lA zeroL) ?_ ?_); exact zero_lr))
  refine ⟨fun V13 g13 n13 f13 => ?_⟩
  have ne13_a := f13.ne r12_a
  have ne13_r := f13.ne r12_r
  have ne13_b := f13.ne n10
  have up13 : w.heap.size ≤ g13 := f13.up l12
  have bl13 := f13.bel
  clear f13
  have r15_a := le_on r12_a bl13
  have r15_r := le_on r12_r bl13
  have r15_b := le_on n10 bl13
  have r15_d := (r12_d).on bl13
  have r15_xb := (r12_xb).on bl13
  have l15 := le_tr l12 bl13
  clear r12_a r12_r n10 r12_d r12_xb l12
  clear bl13
  go_wp2_with (first | ((with_reducible refine st_store 28 _ _ g10 (cA ⟨A1, n1, c1, (room : Int)⟩) ?_ ?_ r15_b ?_ ?_ ?_ ?_); exact rfl; exact rfl; exact Try.zCr; exact rfl; exact cA_one _))
  refine ⟨fun V16 n16 k16 => ?_⟩
  have m16_a := k16.on r15_a ne10_a
  have m16_r := k16.on r15_r ne10_r
  have m16_x := k16.on n13 (Ne.symm ne13_b)
  have m16_d := (r15_d).wr k16 up10
  have m16_xb := (r15_xb).wr k16 up10
  have o16 := k16.bel _ _ l15 up10
  clear k16
  clear r15_b r15_a r15_r n13 r15_d r15_xb l15
  go_wp2_with (first | ((with_reducible refine st_store 45 _ _ g13 (lA x) ?_ ?_ m16_x ?_ ?_ ?_ ?_); exact rfl; exact rfl; exact Try.zLr; exact rfl; exact lA_one _))
  refine ⟨fun V17 n17 k17 => ?_⟩
  have m17_a := k17.on m16_a ne13_a
  have m17_r := k17.on m16_r ne13_r
  have m17_b := k17.on n16 ne13_b
  have m17_d := (m16_d).wr k17 up13
  have m17_xb := (m16_xb).wr k17 up13
  have o17 := k17.bel _ _ o16 up13
  clear k17
  clear m16_x m16_a m16_r n16 m16_d m16_xb o16
  go_wp2_with (first | ((with_reducible refine st_load 28 _ g1 ?_ m17_a Try.underlying28 ?_ ?_ ?_); exact rfl; exact rfl; exact Try.zCr) | ((with_reducible refine st_store 28 _ _ g4 (cA ⟨A, n, c, (room : Int)⟩) ?_ ?_ m17_r ?_ ?_ ?_ ?_); exact rfl; exact rfl; exact Try.zCr; exact rfl; exact cA_one _))
  refine ⟨fun V18 n18 k18 => ?_⟩
  have m18_a := k18.on m17_a ne4_a
  have m18_b := k18.on m17_b (Ne.symm ne10_r)
  have m18_x := k18.on n17 (Ne.symm ne13_r)
  have m18_d := (m17_d).wr k18 up4
  have m18_xb := (m17_xb).wr k18 up4
  have o18 := k18.bel _ _ o17 up4
  clear k18
  clear m17_r m17_a m17_b n17 m17_d m17_xb o17
  go_wp2_with fail
  exact bodyPost_ret (v := .tuple #[.agg (cA ⟨A, n, c, (room : Int)⟩), .int .i64 (k : Int)]) (res_two Try.results33 rfl rfl n18 Try.underlying28 rfl Try.zCr) rfl (SRPost.no m18_d.dl HQ.out HE.out o18)
set_option maxRecDepth 100000 in
set_option maxHeartbeats 4000000 in
theorem rturn_c (A : Option Addr) (n c : Nat) (L : List Lm) (room t : Nat) (i : Int) (p : Nat) (y : UInt8) (hp : p < 65536) (w : World) (h : DL A n c L w) (hR : Roomy room (toR (LT L))) (hn : n ≤ 1000000) : Calls Try.prog 34 #[.agg (cA ⟨A, n, c, (room : Int)⟩), .int .u8 (t : Int), .int .i64 i, .int .u16 (p : Int), .int .u8 (y.toNat : Int)] w (SRPost w A n L NoF (room : Int) (sTnR (LT L) t i p y) (eTn (toR (LT L)) t i)) := by
  have hd := OD.start h
  have hlen := Lib.hid h.rr.len
  clear h
  have T0 := fun (V : World) (h : DL A n c L V) => rtake_c A n c L (room : Int) t i V h hn
  by_cases hE : eAt (toR (LT L)) t i = 0
  · skip
    have T1 := fun (V : World) (h : DL A n c L V) => (T0 V h).mono fun e w' hp => hp.at_ hE
    obtain ⟨N2, hN2⟩ : ∃ N2, (xTk (toR (LT L)) t i).b.length = N2 := ⟨_, rfl⟩
    have hm4 := ((hR t).2.2 _ (List.mem_of_getElem? (xTk_at hE))).2.1
    clear T0 hR
    by_cases h0 : N2 = 0
    · subst h0
      have HE := Lib.hid (eTn_7 (p := p) (y := y) hE hN2).1
      have HQ := Lib.hid (show LT L = sTnR (LT L) t i p y by unfold sTnR; rw [HE.out]; rfl)
      have HN := Lib.hid hN2
      clear hE hN2 hm4
      go_enter Try.func34, Try.ntmps34
      go_wp2_with (first | ((with_reducible refine st_box 28 _ (cA ⟨A, n, c, (room : Int)⟩) ?_ ?_); exact rfl))
      refine ⟨fun V1 g1 n1 f1 => ?_⟩
      have up1 : w.heap.size ≤ g1 := Nat.le_of_eq f1.at_
      have bl1 := f1.bel
      clear f1
      have r3_d := (hd).on bl1
      have l3 := le_tr (Below.refl _ _) bl1
      clear hd
      clear bl1
      go_wp2_with (first | ((with_reducible refine st_alloc 28 (cA zeroC) ?_ ?_); exact zero_cr))
      refine ⟨fun V4 g4 n4 f4 => ?_⟩
      have ne4_a := f4.ne n1
      have up4 : w.heap.size ≤ g4 := f4.up l3
      have bl4 := f4.bel
      clear f4
      have r6_a := le_on n1 bl4
      have r6_d := (r3_d).on bl4
      have l6 := le_tr l3 bl4
      clear n1 r3_d l3
      clear bl4
      go_wp2_with (first | ((with_reducible refine st_load 28 _ g1 ?_ r6_a Try.underlying28 ?_ ?_ ?_); exact rfl; exact rfl; exact Try.zCr))
      (with_reducible refine (T1 _ r6_d.dl).mono ?_)
      rintro e w7 ⟨A1, n1, c1, L1, x, rfl, d1, e1, e2, rx, f1, f2, b7⟩
      have r9_a := le_on r6_a b7
      have r9_r := le_on n4 b7
      have r9_d := (r6_d).on b7
      have l9 := le_tr l6 b7
      clear r6_a n4 r6_d l6
      clear b7
      have hrx : RL w w7 bcl 1 x.A x.n x.c x.b := ⟨rx, fun b off hA hn => Ol.lo r9_d b (f1 b ⟨⟨off, hA⟩, hn⟩)⟩
      clear rx d1 e1 f2
      go_wp2_with (first | ((with_reducible refine st_alloc 28 (cA zeroC) ?_ ?_); exact zero_cr))
      refine ⟨fun V10 g10 n10 f10 => ?_⟩
      have ne10_a := f10.ne r9_a
      have ne10_r := f10.ne r9_r
      have up10 : w.heap.size ≤ g10 := f10.up l9
      have bl10 := f10.bel
      clear f10
      have r12_a := le_on r9_a bl10
      have r12_r := le_on r9_r bl10
      have r12_d := (r9_d).on bl10
      have r12_xb := (hrx).on bl10
      have l12 := le_tr l9 bl10
      clear r9_a r9_r r9_d hrx l9
      clear bl10
      go_wp2_with (first | ((with_reducible refine st_alloc 45 (lA zeroL) ?_ ?_); exact zero_lr))
      refine ⟨fun V13 g13 n13 f13 => ?_⟩
      have ne13_a := f13.ne r12_a
      have ne13_r := f13.ne r12_r
      have ne13_b := f13.ne n10
      have up13 : w.heap.size ≤ g13 := f13.up l12
      have bl13 := f13.bel
      clear f13
      have r15_a := le_on r12_a bl13
      have r15_r := le_on r12_r bl13
      have r15_b := le_on n10 bl13
      have r15_d := (r12_d).on bl13
      have r15_xb := (r12_xb).on bl13
      have l15 := le_tr l12 bl13
      clear r12_a r12_r n10 r12_d r12_xb l12
      clear bl13
      go_wp2_with (first | ((with_reducible refine st_store 28 _ _ g10 (cA ⟨A1, n1, c1, (room : Int)⟩) ?_ ?_ r15_b ?_ ?_ ?_ ?_); exact rfl; exact rfl; exact Try.zCr; exact rfl; exact cA_one _))
      refine ⟨fun V16 n16 k16 => ?_⟩
      have m16_a := k16.on r15_a ne10_a
      have m16_r := k16.on r15_r ne10_r
      have m16_x := k16.on n13 (Ne.symm ne13_b)
      have m16_d := (r15_d).wr k16 up10
      have m16_xb := (r15_xb).wr k16 up10
      have o16 := k16.bel _ _ l15 up10
      clear k16
      clear r15_b r15_a r15_r n13 r15_d r15_xb l15
      go_wp2_with (first | ((with_reducible refine st_store 45 _ _ g13 (lA x) ?_ ?_ m16_x ?_ ?_ ?_ ?_); exact rfl; exact rfl; exact Try.zLr; exact rfl; exact lA_one _))
      refine ⟨fun V17 n17 k17 => ?_⟩
      have m17_a := k17.on m16_a ne13_a
      have m17_r := k17.on m16_r ne13_r
      have m17_b := k17.on n16 ne13_b
      have m17_d := (m16_d).wr k17 up13
      have m17_xb := (m16_xb).wr k17 up13
      have o17 := k17.bel _ _ o16 up13
      clear k17
      clear m16_x m16_a m16_r n16 m16_d m16_xb o16
      have hx0 : x.n = 0 := by have := RL.len m17_xb; rw [← this]; have := congrArg (fun l => l.b.length) e2; simp only [Lm.lt] at this; rw [this]; exact HN.out
      have c99 : V17.cell? ⟨g13, 2, none⟩ = some (.slice x.A 0 x.c) := (CB.cell n17 2).trans (by rw [← hx0]; rfl)
      clear hx0
      go_wp2_with (first | ((with_reducible refine st_load 28 _ g1 ?_ m17_a Try.underlying28 ?_ ?_ ?_); exact rfl; exact rfl; exact Try.zCr) | ((with_reducible refine st_store 28 _ _ g4 (cA ⟨A, n, c, (room : Int)⟩) ?_ ?_ m17_r ?_ ?_ ?_ ?_); exact rfl; exact rfl; exact Try.zCr; exact rfl; exact cA_one _))
      refine ⟨fun V18 n18 k18 => ?_⟩
      clear c99
      have m18_a := k18.on m17_a ne4_a
      have m18_b := k18.on m17_b (Ne.symm ne10_r)
      have m18_x := k18.on n17 (Ne.symm ne13_r)
      have m18_d := (m17_d).wr k18 up4
      have m18_xb := (m17_xb).wr k18 up4
      have o18 := k18.bel _ _ o17 up4
      clear k18
      clear m17_r m17_a m17_b n17 m17_d m17_xb o17
      go_wp2_with fail
      exact bodyPost_ret (v := .tuple #[.agg (cA ⟨A, n, c, (room : Int)⟩), .int .i64 7]) (res_two Try.results34 rfl rfl n18 Try.underlying28 rfl Try.zCr) rfl (SRPost.no m18_d.dl HQ.out HE.out o18)
    have hf0 := (fndI_at hE).2
    obtain ⟨j, hj⟩ : ∃ j : Nat, fndI (LT L) t i = (j : Int) := ⟨(fndI (LT L) t i).toNat, by omega⟩
    have hat := at_R hE
    rw [show (fndI (LT L) t i).toNat = j by omega] at hat
    obtain ⟨y0, hy0, _⟩ := lt_get hat
    have hjn : j < n := by rw [← hlen.out]; exact (List.getElem?_eq_some_iff.1 hy0).1
    obtain ⟨s, hs⟩ : ∃ s, p % N2 = s := ⟨_, rfl⟩
    have hsn : s < N2 := by rw [← hs]; exact Nat.mod_lt _ (by omega)
    have tm : Int.tmod (p : Int) (N2 : Int) = (s : Int) := by rw [tmod_nat, hs]
    have wp : IntKind.i64.wrap (p : Int) = (p : Int) := IntWalk.i64_in _ (by omega)
    have n1 : ¬ (N2 : Int) = 0 := by omega
    have n2' : ((N2 : Int) == 0) = false := by simp; omega
    have HE := Lib.hid (show eTn (toR (LT L)) t i = 0 by unfold eTn; rw [if_pos hE, if_neg (by omega)])
    have HQ := Lib.hid (show (LT L).set j (tnL (xTk (toR (LT L)) t i) p y) = sTnR (LT L) t i p y by unfold sTnR; rw [if_pos HE.out]; congr 1; omega)
    have N1 := fun (V : World) (h : DL A n c L V) => find_r A n c L (room : Int) t i V h
    rw [hj] at N1
    have HN := Lib.hid hN2
    have HS := Lib.hid hs
    clear hN2 hs hj hat hy0 hf0 hE
    go_enter Try.func34, Try.ntmps34
    go_wp2_with (first | ((with_reducible refine st_box 28 _ (cA ⟨A, n, c, (room : Int)⟩) ?_ ?_); exact rfl))
    refine ⟨fun V1 g1 n1 f1 => ?_⟩
    have up1 : w.heap.size ≤ g1 := Nat.le_of_eq f1.at_
    have bl1 := f1.bel
    clear f1
    have r3_d := (hd).on bl1
    have l3 := le_tr (Below.refl _ _) bl1
    clear hd
    clear bl1
    go_wp2_with (first | ((with_reducible refine st_alloc 28 (cA zeroC) ?_ ?_); exact zero_cr))
    refine ⟨fun V4 g4 n4 f4 => ?_⟩
    have ne4_a := f4.ne n1
    have up4 : w.heap.size ≤ g4 := f4.up l3
    have bl4 := f4.bel
    clear f4
    have r6_a := le_on n1 bl4
    have r6_d := (r3_d).on bl4
    have l6 := le_tr l3 bl4
    clear n1 r3_d l3
    clear bl4
    go_wp2_with (first | ((with_reducible refine st_load 28 _ g1 ?_ r6_a Try.underlying28 ?_ ?_ ?_); exact rfl; exact rfl; exact Try.zCr))
    (with_reducible refine (T1 _ r6_d.dl).mono ?_)
    rintro e w7 ⟨A1, n1, c1, L1, x, rfl, d1, e1, e2, rx, f1, f2, b7⟩
    have r9_a := le_on r6_a b7
    have r9_r := le_on n4 b7
    have r9_d := (r6_d).on b7
    have l9 := le_tr l6 b7
    clear r6_a n4 r6_d l6
    clear b7
    have hrx : RL w w7 bcl 1 x.A x.n x.c x.b := ⟨rx, fun b off hA hn => Ol.lo r9_d b (f1 b ⟨⟨off, hA⟩, hn⟩)⟩
    clear rx d1 e1 f2
    go_wp2_with (first | ((with_reducible refine st_alloc 28 (cA zeroC) ?_ ?_); exact zero_cr))
    refine ⟨fun V10 g10 n10 f10 => ?_⟩
    have ne10_a := f10.ne r9_a
    have ne10_r := f10.ne r9_r
    have up10 : w.heap.size ≤ g10 := f10.up l9
    have bl10 := f10.bel
    clear f10
    have r12_a := le_on r9_a bl10
    have r12_r := le_on r9_r bl10
    have r12_d := (r9_d).on bl10
    have r12_xb := (hrx).on bl10
    have l12 := le_tr l9 bl10
    clear r9_a r9_r r9_d hrx l9
    clear bl10
    go_wp2_with (first | ((with_reducible refine st_alloc 45 (lA zeroL) ?_ ?_); exact zero_lr))
    refine ⟨fun V13 g13 n13 f13 => ?_⟩
    have ne13_a := f13.ne r12_a
    have ne13_r := f13.ne r12_r
    have ne13_b := f13.ne n10
    have up13 : w.heap.size ≤ g13 := f13.up l12
    have bl13 := f13.bel
    clear f13
    have r15_a := le_on r12_a bl13
    have r15_r := le_on r12_r bl13
    have r15_b := le_on n10 bl13
    have r15_d := (r12_d).on bl13
    have r15_xb := (r12_xb).on bl13
    have l15 := le_tr l12 bl13
    clear r12_a r12_r n10 r12_d r12_xb l12
    clear bl13
    go_wp2_with (first | ((with_reducible refine st_store 28 _ _ g10 (cA ⟨A1, n1, c1, (room : Int)⟩) ?_ ?_ r15_b ?_ ?_ ?_ ?_); exact rfl; exact rfl; exact Try.zCr; exact rfl; exact cA_one _))
    refine ⟨fun V16 n16 k16 => ?_⟩
    have m16_a := k16.on r15_a ne10_a
    have m16_r := k16.on r15_r ne10_r
    have m16_x := k16.on n13 (Ne.symm ne13_b)
    have m16_d := (r15_d).wr k16 up10
    have m16_xb := (r15_xb).wr k16 up10
    have o16 := k16.bel _ _ l15 up10
    clear k16
    clear r15_b r15_a r15_r n13 r15_d r15_xb l15
    go_wp2_with (first | ((with_reducible refine st_store 45 _ _ g13 (lA x) ?_ ?_ m16_x ?_ ?_ ?_ ?_); exact rfl; exact rfl; exact Try.zLr; exact rfl; exact lA_one _))
    refine ⟨fun V17 n17 k17 => ?_⟩
    have m17_a := k17.on m16_a ne13_a
    have m17_r := k17.on m16_r ne13_r
    have m17_b := k17.on n16 ne13_b
    have m17_d := (m16_d).wr k17 up13
    have m17_xb := (m16_xb).wr k17 up13
    have o17 := k17.bel _ _ o16 up13
    clear k17
    clear m16_x m16_a m16_r n16 m16_d m16_xb o16
    obtain ⟨f, to, bs, A2, n2, c2⟩ := x
    simp only [Lm.lt] at e2
    have hx0 : n2 = N2 := by have h1 := RL.len m17_xb; have h2 := congrArg (fun l => l.b.length) e2; simp only at h1 h2; rw [← h1, h2]; exact HN.out
    subst hx0
    have hx4 : n2 ≤ 4000 := by have := HN.out; omega
    simp only at f1
    have hrx2 : RL w V17 bcl 1 A2 n2 c2 bs := m17_xb
    clear m17_xb
    have c18 : V17.cell? ⟨g13, 2, none⟩ = some (.slice A2 n2 c2) := CB.cell n17 2
    go_wp2_with (first | ((with_reducible refine st_lit0 30 5 Try.underlying30 Try.infoU2 ?_)))
    refine ⟨fun V19 g19 n19 f19 => ?_⟩
    clear c18
    have no19_a : ∀ b, (some g19) = some b → b ≠ g1 := fun b e => by cases e; exact Ne.symm (f19.ne m17_a)
    have no19_r : ∀ b, (some g19) = some b → b ≠ g4 := fun b e => by cases e; exact Ne.symm (f19.ne m17_r)
    have no19_b : ∀ b, (some g19) = some b → b ≠ g10 := fun b e => by cases e; exact Ne.symm (f19.ne m17_b)
    have no19_x : ∀ b, (some g19) = some b → b ≠ g13 := fun b e => by cases e; exact Ne.symm (f19.ne n17)
    have up19 : w.heap.size ≤ g19 := f19.up o17
    have so19 : SO w.heap.size V19 5 bcl 1 (some ⟨g19, 0, none⟩) 0 0 [] (some g19) := ⟨Seg.lit0 n19, fun g e => by cases e; exact up19⟩
    have bl19 := f19.bel
    clear f19 n19
    have r21_a := le_on m17_a bl19
    have r21_r := le_on m17_r bl19
    have r21_b := le_on m17_b bl19
    have r21_x := le_on n17 bl19
    have r21_d := (m17_d).on bl19
    have r21_xb := (hrx2).on bl19
    have l21 := le_tr o17 bl19
    clear m17_a m17_r m17_b n17 m17_d hrx2 o17
    clear bl19
    have c22 : V19.cell? ⟨g13, 2, none⟩ = some (.slice A2 n2 c2) := CB.cell r21_x 2
    go_wp2_with (first | ((with_reducible refine st_app (.tmp 36) (.tmp 38) 30 5 Try.underlying30 Try.infoU rfl (by decide) (A := (some ⟨g19, 0, none⟩)) (n := 0) (c := 0) (G := (some g19)) rfl so19.seg (As := A2) (m := n2) (k := c2) rfl r21_xb.rr.src (rc_one 1 bs) (by simp only [maxLen]; omega) (by omega) (n2) (by omega) ?_)))
    refine ⟨fun B23 m23 q23 w23 s23 h23 k23 => ?_⟩
    clear c22
    have s23 : Seg w23 5 1 B23 (n2) m23 (rc bcl (bs)) q23 := by rw [rc_nil, List.nil_append] at s23; exact s23
    have hg23 : ∀ g, some g19 = some g → w.heap.size ≤ g := fun g e => so19.hi g e
    have so23 : SO w.heap.size w23 5 bcl 1 B23 (n2) m23 (bs) q23 := ⟨s23, k23.ge (l21).size hg23⟩
    have e23_a := CB.same r21_a (h23.block _ (CB.lt r21_a) (fun e => no19_a _ e.symm rfl))
    have na23_a := moved_ne k23 (CB.lt r21_a) no19_a
    have e23_r := CB.same r21_r (h23.block _ (CB.lt r21_r) (fun e => no19_r _ e.symm rfl))
    have na23_r := moved_ne k23 (CB.lt r21_r) no19_r
    have e23_b := CB.same r21_b (h23.block _ (CB.lt r21_b) (fun e => no19_b _ e.symm rfl))
    have na23_b := moved_ne k23 (CB.lt r21_b) no19_b
    have e23_x := CB.same r21_x (h23.block _ (CB.lt r21_x) (fun e => no19_x _ e.symm rfl))
    have na23_x := moved_ne k23 (CB.lt r21_x) no19_x
    have e23_d := (r21_d).grow h23 hg23
    have e23_xb := (r21_xb).grow h23 hg23
    have lw23 := (l21).grown h23 (l21).size hg23
    clear h23 k23 s23 hg23 so19 r21_a no19_a r21_r no19_r r21_b no19_b r21_x no19_x r21_d r21_xb l21
    obtain ⟨gb, ob, b0, rfl, rfl, hb0, fz, cb, hset⟩ := slot_o so23 s hsn
    have HXO := Lib.hid (xor_u b0 y)
    have HB0 := Lib.hid hb0
    clear hb0
    have s1 : (s : Int) < n2 := by omega
    have s2 : (0 : Int) ≤ (s : Int) := by omega
    have hxo := HXO.out
    go_wp2_with (first | ((with_reducible refine st_slot 5 _ _ gb (ob + s) (.int .u8 ((b0 ^^^ y).toNat : Int)) ?_ ?_ cb fz ?_ ?_ ?_ ?_); exact rfl; exact rfl; exact one_u; exact rfl; exact rfl))
    obtain ⟨hs1, hs2⟩ := hset (b0 ^^^ y)
    clear hset cb fz hxo
    refine ⟨?_⟩
    generalize World.setCell w23 ⟨gb, ob + s, none⟩ (.int .u8 ((b0 ^^^ y).toNat : Int)) = V9 at *
    have m24_a := hs2.on e23_a (Ne.symm (na23_a _ rfl))
    have m24_r := hs2.on e23_r (Ne.symm (na23_r _ rfl))
    have m24_b := hs2.on e23_b (Ne.symm (na23_b _ rfl))
    have m24_x := hs2.on e23_x (Ne.symm (na23_x _ rfl))
    have up24 := SO.hi so23 _ rfl
    have m24_d := (e23_d).wr hs2 up24
    have m24_xb := (e23_xb).wr hs2 up24
    have o24 := hs2.bel _ _ lw23 up24
    clear up24 hs2 so23 e23_a e23_r e23_b e23_x e23_d e23_xb lw23
    go_wp2_with (first | ((with_reducible refine st_cell 30 _ _ g13 2 (.slice (some ⟨gb, ob, none⟩) n2 m23) ?_ ?_ m24_x (new := lA ⟨f, to, (bs.set s (b0 ^^^ y)), some ⟨gb, ob, none⟩, n2, m23⟩) ?_ ?_ ?_ ?_ ?_ ?_); exact rfl; exact rfl; exact (by rw [lA_size]; decide); exact lA_b _ _ _ _ _; exact one_by; exact rfl; exact rfl))
    refine ⟨fun V25 n25 k25 => ?_⟩
    have m25_a := k25.on m24_a ne13_a
    have m25_r := k25.on m24_r ne13_r
    have m25_b := k25.on m24_b ne13_b
    have m25_d := (m24_d).wr k25 up13
    have m25_xb := (m24_xb).wr k25 up13
    have m25_bs := SO.wr hs1 k25 na23_x
    have o25 := k25.bel _ _ o24 up13
    clear k25
    clear m24_x m24_a m24_r m24_b m24_d m24_xb hs1 o24
    have c26 : V25.cell? ⟨g1, 0, none⟩ = some (.slice A n c) := CB.cell m25_a 0
    go_wp2_with (first | ((with_reducible refine st_lit0 26 45 Try.underlying26 Try.infoR2 ?_)))
    refine ⟨fun V27 g27 n27 f27 => ?_⟩
    clear c26
    have no27_a : ∀ b, (some g27) = some b → b ≠ g1 := fun b e => by cases e; exact Ne.symm (f27.ne m25_a)
    have no27_r : ∀ b, (some g27) = some b → b ≠ g4 := fun b e => by cases e; exact Ne.symm (f27.ne m25_r)
    have no27_b : ∀ b, (some g27) = some b → b ≠ g10 := fun b e => by cases e; exact Ne.symm (f27.ne m25_b)
    have no27_x : ∀ b, (some g27) = some b → b ≠ g13 := fun b e => by cases e; exact Ne.symm (f27.ne n25)
    have up27 : w.heap.size ≤ g27 := f27.up o25
    have so27 : SO w.heap.size V27 45 lcl 3 (some ⟨g27, 0, none⟩) 0 0 [] (some g27) := ⟨Seg.lit0 n27, fun g e => by cases e; exact up27⟩
    have bl27 := f27.bel
    clear f27 n27
    have r28_bs := SO.on m25_bs bl27
    have r29_a := le_on m25_a bl27
    have r29_r := le_on m25_r bl27
    have r29_b := le_on m25_b bl27
    have r29_x := le_on n25 bl27
    have r29_d := (m25_d).on bl27
    have r29_xb := (m25_xb).on bl27
    have l29 := le_tr o25 bl27
    clear m25_a m25_r m25_b n25 m25_d m25_xb o25
    clear m25_bs
    clear bl27
    have c30 : V27.cell? ⟨g1, 0, none⟩ = some (.slice A n c) := CB.cell r29_a 0
    go_wp2_with (first | ((with_reducible refine st_app (.tmp 56) (.tmp 58) 26 45 Try.underlying26 Try.infoR rfl (by decide) (A := (some ⟨g27, 0, none⟩)) (n := 0) (c := 0) (G := (some g27)) rfl so27.seg (As := A) (m := n) (k := c) rfl r29_d.dl.rr.src (rc_one 3 L) (by simp only [maxLen]; omega) (by omega) (n) (by omega) ?_)))
    refine ⟨fun B31 m31 q31 w31 s31 h31 k31 => ?_⟩
    clear c30
    have s31 : Seg w31 45 3 B31 (n) m31 (rc lcl (L)) q31 := by rw [rc_nil, List.nil_append] at s31; exact s31
    have hg31 : ∀ g, some g27 = some g → w.heap.size ≤ g := fun g e => so27.hi g e
    have so31 : SO w.heap.size w31 45 lcl 3 B31 (n) m31 (L) q31 := ⟨s31, k31.ge (l29).size hg31⟩
    have e31_a := CB.same r29_a (h31.block _ (CB.lt r29_a) (fun e => no27_a _ e.symm rfl))
    have na31_a := moved_ne k31 (CB.lt r29_a) no27_a
    have e31_r := CB.same r29_r (h31.block _ (CB.lt r29_r) (fun e => no27_r _ e.symm rfl))
    have na31_r := moved_ne k31 (CB.lt r29_r) no27_r
    have e31_b := CB.same r29_b (h31.block _ (CB.lt r29_b) (fun e => no27_b _ e.symm rfl))
    have na31_b := moved_ne k31 (CB.lt r29_b) no27_b
    have e31_x := CB.same r29_x (h31.block _ (CB.lt r29_x) (fun e => no27_x _ e.symm rfl))
    have na31_x := moved_ne k31 (CB.lt r29_x) no27_x
    have e31_d := (r29_d).grow h31 hg31
    have e31_xb := (r29_xb).grow h31 hg31
    have e31_bs := SO.grow r28_bs h31 (SO.apT r28_bs so27 (by decide))
    have lw31 := (l29).grown h31 (l29).size hg31
    clear h31 k31 s31 hg31 so27 r29_a no27_a r29_r no27_r r29_b no27_b r29_x no27_x r29_d r29_xb r28_bs l29
    go_wp2_with (first | ((with_reducible refine st_load 28 _ g1 ?_ e31_a Try.underlying28 ?_ ?_ ?_); exact rfl; exact rfl; exact Try.zCr))
    (with_reducible refine (N1 _ e31_d.dl).mono ?_)
    rintro e w32 ⟨rfl, b32⟩
    have r33_bs := SO.on e31_bs b32
    have r33_ls := SO.on so31 b32
    have r34_a := le_on e31_a b32
    have r34_r := le_on e31_r b32
    have r34_b := le_on e31_b b32
    have r34_x := le_on e31_x b32
    have r34_d := (e31_d).on b32
    have r34_xb := (e31_xb).on b32
    have l34 := le_tr lw31 b32
    clear e31_a e31_r e31_b e31_x e31_d e31_xb lw31
    clear e31_bs so31
    clear b32
    obtain ⟨gl, ol, rfl, rfl⟩ := SO.addr r33_ls (by omega)
    have s3 : (j : Int) < n := by omega
    have s4 : (0 : Int) ≤ (j : Int) := by omega
    go_wp2_with (first | ((with_reducible refine st_load 45 _ g13 ?_ r34_x Try.underlying45 ?_ ?_ ?_); exact rfl; exact rfl; exact Try.zLr) | ((with_reducible refine st_elst (c := lcl) (s := 3) 45 _ _ gl ol j (⟨f, to, (bs.set s (b0 ^^^ y)), some ⟨gb, ob, none⟩, n2, m23⟩ : Lm) ?_ ?_ r33_ls.seg hjn ?_ ?_ ?_); exact rfl; exact rfl; exact Try.zLr; exact lA_one _))
    refine ⟨fun V11 h11 k11 => ?_⟩
    have h12 : SO w.heap.size V11 45 lcl 3 (some ⟨gl, ol, none⟩) n m31 (L.set j ⟨f, to, (bs.set s (b0 ^^^ y)), some ⟨gb, ob, none⟩, n2, m23⟩) (some gl) := ⟨h11, r33_ls.hi⟩
    clear h11
    have m35_a := k11.on r34_a (Ne.symm (na31_a _ rfl))
    have m35_r := k11.on r34_r (Ne.symm (na31_r _ rfl))
    have m35_b := k11.on r34_b (Ne.symm (na31_b _ rfl))
    have m35_x := k11.on r34_x (Ne.symm (na31_x _ rfl))
    have up35 := SO.hi r33_ls _ rfl
    have m35_d := (r34_d).wr k11 up35
    have m35_xb := (r34_xb).wr k11 up35
    have m35_bs := SO.wr r33_bs k11 (fun b e e' => (SO.apT r33_bs r33_ls (by decide)) b e (by rw [e']))
    have o35 := k11.bel _ _ l34 up35
    clear up35 k11 r33_ls r34_a r34_r r34_b r34_x r34_d r34_xb r33_bs l34
    go_wp2_with (first | ((with_reducible refine st_cell 26 _ _ g1 0 (.slice (some ⟨gl, ol, none⟩) n m31) ?_ ?_ m35_a (new := cA ⟨some ⟨gl, ol, none⟩, n, m31, (room : Int)⟩) ?_ ?_ ?_ ?_ ?_ ?_); exact rfl; exact rfl; exact (by rw [cA_size]; decide); exact cA_l _ _ _ _; exact one_rs; exact rfl; exact rfl))
    refine ⟨fun V36 n36 k36 => ?_⟩
    have m36_r := k36.on m35_r (Ne.symm ne4_a)
    have m36_b := k36.on m35_b (Ne.symm ne10_a)
    have m36_x := k36.on m35_x (Ne.symm ne13_a)
    have m36_d := (m35_d).wr k36 up1
    have m36_xb := (m35_xb).wr k36 up1
    have m36_bs := SO.wr m35_bs k36 na23_a
    have m36_ls := SO.wr h12 k36 na31_a
    have o36 := k36.bel _ _ o35 up1
    clear k36
    clear m35_a m35_r m35_b m35_x m35_d m35_xb m35_bs h12 o35
    go_wp2_with (first | ((with_reducible refine st_load 28 _ g1 ?_ n36 Try.underlying28 ?_ ?_ ?_); exact rfl; exact rfl; exact Try.zCr) | ((with_reducible refine st_store 28 _ _ g4 (cA ⟨some ⟨gl, ol, none⟩, n, m31, (room : Int)⟩) ?_ ?_ m36_r ?_ ?_ ?_ ?_); exact rfl; exact rfl; exact Try.zCr; exact rfl; exact cA_one _))
    refine ⟨fun V37 n37 k37 => ?_⟩
    have m37_a := k37.on n36 ne4_a
    have m37_b := k37.on m36_b (Ne.symm ne10_r)
    have m37_x := k37.on m36_x (Ne.symm ne13_r)
    have m37_d := (m36_d).wr k37 up4
    have m37_xb := (m36_xb).wr k37 up4
    have m37_bs := SO.wr m36_bs k37 na23_r
    have m37_ls := SO.wr m36_ls k37 na31_r
    have o37 := k37.bel _ _ o36 up4
    clear k37
    clear m36_r n36 m36_b m36_x m36_d m36_xb m36_bs m36_ls o36
    go_wp2_with fail
    exact bodyPost_ret (v := .tuple #[.agg (cA ⟨some ⟨gl, ol, none⟩, n, m31, (room : Int)⟩), .int .i64 0]) (res_two Try.results34 rfl rfl n37 Try.underlying28 rfl Try.zCr) rfl (SRPost.turned (x' := ⟨f, to, (bs.set s (b0 ^^^ y)), some ⟨gb, ob, none⟩, n2, m23⟩) m37_d.dl m37_ls m37_bs (by rw [← HQ.out, ← e2]; congr 1; unfold tnL; simp only [Lm.lt]; rw [tnB_at bs p y (j := s) (by rw [m37_xb.rr.len]; exact HS.out), HB0.out]; rfl) HE.out o37)
  obtain ⟨k, hk⟩ : ∃ k, eAt (toR (LT L)) t i = k := ⟨_, rfl⟩
  have hk0 : ¬ k = 0 := by omega
  have q1 : ((k : Int) != 0) = true := by simp; omega
  have q1' : (k != 0) = true := by simp; omega
  have T1 := fun (V : World) (h : DL A n c L V) => (T0 V h).mono fun e w' hp => hp.at_ hk
  have HE := Lib.hid (eTn_n (p := p) (y := y) hk hk0).1
  have HQ := Lib.hid (show LT L = sTnR (LT L) t i p y by unfold sTnR; rw [HE.out, if_neg hk0])
  clear hE hk hk0 T0
  go_enter Try.func34, Try.ntmps34
  go_wp2_with (first | ((with_reducible refine st_box 28 _ (cA ⟨A, n, c, (room : Int)⟩) ?_ ?_); exact rfl))
  refine ⟨fun V1 g1 n1 f1 => ?_⟩
  have up1 : w.heap.size ≤ g1 := Nat.le_of_eq f1.at_
  have bl1 := f1.bel
  clear f1
  have r3_d := (hd).on bl1
  have l3 := le_tr (Below.refl _ _) bl1
  clear hd
  clear bl1
  go_wp2_with (first | ((with_reducible refine st_alloc 28 (cA zeroC) ?_ ?_); exact zero_cr))
  refine ⟨fun V4 g4 n4 f4 => ?_⟩
  have ne4_a := f4.ne n1
  have up4 : w.heap.size ≤ g4 := f4.up l3
  have bl4 := f4.bel
  clear f4
  have r6_a := le_on n1 bl4
  have r6_d := (r3_d).on bl4
  have l6 := le_tr l3 bl4
  clear n1 r3_d l3
  clear bl4
  go_wp2_with (first | ((with_reducible refine st_load 28 _ g1 ?_ r6_a Try.underlying28 ?_ ?_ ?_); exact rfl; exact rfl; exact Try.zCr))
  (with_reducible refine (T1 _ r6_d.dl).mono ?_)
  rintro e w7 ⟨A1, n1, c1, L1, x, rfl, d1, e1, e2, rx, f1, f2, b7⟩
  have r9_a := le_on r6_a b7
  have r9_r := le_on n4 b7
  have r9_d := (r6_d).on b7
  have l9 := le_tr l6 b7
  clear r6_a n4 r6_d l6
  clear b7
  have hrx : RL w w7 bcl 1 x.A x.n x.c x.b := ⟨rx, fun b off hA hn => Ol.lo r9_d b (f1 b ⟨⟨off, hA⟩, hn⟩)⟩
  clear rx d1 e1 f2
  go_wp2_with (first | ((with_reducible refine st_alloc 28 (cA zeroC) ?_ ?_); exact zero_cr))
  refine ⟨fun V10 g10 n10 f10 => ?_⟩
  have ne10_a := f10.ne r9_a
  have ne10_r := f10.ne r9_r
  have up10 : w.heap.size ≤ g10 := f10.up l9
  have bl10 := f10.bel
  clear f10
  have r12_a := le_on r9_a bl10
  have r12_r := le_on r9_r bl10
  have r12_d := (r9_d).on bl10
  have r12_xb := (hrx).on bl10
  have l12 := le_tr l9 bl10
  clear r9_a r9_r r9_d hrx l9
  clear bl10
  go_wp2_with (first | ((with_reducible refine st_alloc 45 (lA zeroL) ?_ ?_); exact zero_lr))
  refine ⟨fun V13 g13 n13 f13 => ?_⟩
  have ne13_a := f13.ne r12_a
  have ne13_r := f13.ne r12_r
  have ne13_b := f13.ne n10
  have up13 : w.heap.size ≤ g13 := f13.up l12
  have bl13 := f13.bel
  clear f13
  have r15_a := le_on r12_a bl13
  have r15_r := le_on r12_r bl13
  have r15_b := le_on n10 bl13
  have r15_d := (r12_d).on bl13
  have r15_xb := (r12_xb).on bl13
  have l15 := le_tr l12 bl13
  clear r12_a r12_r n10 r12_d r12_xb l12
  clear bl13
  go_wp2_with (first | ((with_reducible refine st_store 28 _ _ g10 (cA ⟨A1, n1, c1, (room : Int)⟩) ?_ ?_ r15_b ?_ ?_ ?_ ?_); exact rfl; exact rfl; exact Try.zCr; exact rfl; exact cA_one _))
  refine ⟨fun V16 n16 k16 => ?_⟩
  have m16_a := k16.on r15_a ne10_a
  have m16_r := k16.on r15_r ne10_r
  have m16_x := k16.on n13 (Ne.symm ne13_b)
  have m16_d := (r15_d).wr k16 up10
  have m16_xb := (r15_xb).wr k16 up10
  have o16 := k16.bel _ _ l15 up10
  clear k16
  clear r15_b r15_a r15_r n13 r15_d r15_xb l15
  go_wp2_with (first | ((with_reducible refine st_store 45 _ _ g13 (lA x) ?_ ?_ m16_x ?_ ?_ ?_ ?_); exact rfl; exact rfl; exact Try.zLr; exact rfl; exact lA_one _))
  refine ⟨fun V17 n17 k17 => ?_⟩
  have m17_a := k17.on m16_a ne13_a
  have m17_r := k17.on m16_r ne13_r
  have m17_b := k17.on n16 ne13_b
  have m17_d := (m16_d).wr k17 up13
  have m17_xb := (m16_xb).wr k17 up13
  have o17 := k17.bel _ _ o16 up13
  clear k17
  clear m16_x m16_a m16_r n16 m16_d m16_xb o16
  go_wp2_with (first | ((with_reducible refine st_load 28 _ g1 ?_ m17_a Try.underlying28 ?_ ?_ ?_); exact rfl; exact rfl; exact Try.zCr) | ((with_reducible refine st_store 28 _ _ g4 (cA ⟨A, n, c, (room : Int)⟩) ?_ ?_ m17_r ?_ ?_ ?_ ?_); exact rfl; exact rfl; exact Try.zCr; exact rfl; exact cA_one _))
  refine ⟨fun V18 n18 k18 => ?_⟩
  have m18_a := k18.on m17_a ne4_a
  have m18_b := k18.on m17_b (Ne.symm ne10_r)
  have m18_x := k18.on n17 (Ne.symm ne13_r)
  have m18_d := (m17_d).wr k18 up4
  have m18_xb := (m17_xb).wr k18 up4
  have o18 := k18.bel _ _ o17 up4
  clear k18
  clear m17_r m17_a m17_b n17 m17_d m17_xb o17
  go_wp2_with fail
  exact bodyPost_ret (v := .tuple #[.agg (cA ⟨A, n, c, (room : Int)⟩), .int .i64 (k : Int)]) (res_two Try.results34 rfl rfl n18 Try.underlying28 rfl Try.zCr) rfl (SRPost.no m18_d.dl HQ.out HE.out o18)
instance : DecidableEq Lt := fun x y => by
  obtain ⟨a, b, c⟩ := x
  obtain ⟨d, e, f⟩ := y
  by_cases h : a = d ∧ b = e ∧ c = f
  · obtain ⟨rfl, rfl, rfl⟩ := h; exact isTrue rfl
  · exact isFalse (fun e => h (by cases e; exact ⟨rfl, rfl, rfl⟩))
theorem mks_ne {a b : List UInt8} (h : ¬ a = b) : ((Dk.mkS a).toList == (Dk.mkS b).toList) = false := by
  rw [beq_eq_false_iff_ne]
  intro e
  rw [Dk.tl_bl, Dk.tl_bl, Dk.bl_mkS, Dk.bl_mkS] at e
  exact h e
set_option maxRecDepth 100000 in
set_option maxHeartbeats 4000000 in
theorem same_c (x y : Lm) (w : World) (hx : RR w bcl 1 x.A x.n x.c x.b) (hy : RR w bcl 1 y.A y.n y.c y.b) : Calls Try.prog 18 #[.agg (lA x), .agg (lA y)] w fun e w' => e = .returned (.bool (decide (x.lt = y.lt))) ∧ Below w.heap.size w w' := by
  obtain ⟨f, t, bs, A, n, c⟩ := x
  obtain ⟨f2, t2, bs2, A2, n2, c2⟩ := y
  simp only at hx hy
  have h1 := RL.start hx
  have h2 := RL.start hy
  clear hx hy
  by_cases hf : f = f2
  · have q1 : ((f : Int) == (f2 : Int)) = true := by simp [hf]
    by_cases ht : t = t2
    · have q2 : ((t : Int) == (t2 : Int)) = true := by simp [ht]
      by_cases hb : bs = bs2
      · have q3 : ((Dk.mkS bs).toList == (Dk.mkS bs2).toList) = true := by simp [hb]
        have HE := Lib.hid (show decide (Lm.lt ⟨f, t, bs, A, n, c⟩ = Lm.lt ⟨f2, t2, bs2, A2, n2, c2⟩) = true from (show decide ((⟨f, t, bs⟩ : Lt) = ⟨f2, t2, bs2⟩) = true by simp [hf, ht, hb]))
        clear hf ht hb
        go_enter Try.func18, Try.ntmps18
        go_wp2_with (first | ((with_reducible refine st_box 45 _ (lA ⟨f, t, bs, A, n, c⟩) ?_ ?_); exact rfl))
        refine ⟨fun V1 g1 n1 f1 => ?_⟩
        have up1 : w.heap.size ≤ g1 := Nat.le_of_eq f1.at_
        have bl1 := f1.bel
        clear f1
        have r3_xb := (h1).on bl1
        have r3_yb := (h2).on bl1
        have l3 := le_tr (Below.refl _ _) bl1
        clear h1 h2
        clear bl1
        go_wp2_with (first | ((with_reducible refine st_box 45 _ (lA ⟨f2, t2, bs2, A2, n2, c2⟩) ?_ ?_); exact rfl))
        refine ⟨fun V4 g4 n4 f4 => ?_⟩
        have ne4_x := f4.ne n1
        have up4 : w.heap.size ≤ g4 := f4.up l3
        have bl4 := f4.bel
        clear f4
        have r6_x := le_on n1 bl4
        have r6_xb := (r3_xb).on bl4
        have r6_yb := (r3_yb).on bl4
        have l6 := le_tr l3 bl4
        clear n1 r3_xb r3_yb l3
        clear bl4
        have cv1 := conv_C r6_xb.rr
        have cv2 := conv_C r6_yb.rr
        have c7 : V4.cell? ⟨g1, 0, none⟩ = some (.int .u8 (f : Int)) := CB.cell r6_x 0
        have c8 : V4.cell? ⟨g1, 1, none⟩ = some (.int .u8 (t : Int)) := CB.cell r6_x 1
        have c9 : V4.cell? ⟨g1, 2, none⟩ = some (.slice A n c) := CB.cell r6_x 2
        have c10 : V4.cell? ⟨g4, 0, none⟩ = some (.int .u8 (f2 : Int)) := CB.cell n4 0
        have c11 : V4.cell? ⟨g4, 1, none⟩ = some (.int .u8 (t2 : Int)) := CB.cell n4 1
        have c12 : V4.cell? ⟨g4, 2, none⟩ = some (.slice A2 n2 c2) := CB.cell n4 2
        go_wp2_with fail
        go_ret
        exact ⟨by rw [HE.out]; rfl, l6⟩
      have q3 : ((Dk.mkS bs).toList == (Dk.mkS bs2).toList) = false := mks_ne hb
      have HE := Lib.hid (show decide (Lm.lt ⟨f, t, bs, A, n, c⟩ = Lm.lt ⟨f2, t2, bs2, A2, n2, c2⟩) = false from (show decide ((⟨f, t, bs⟩ : Lt) = ⟨f2, t2, bs2⟩) = false by simp [hb]))
      clear hf ht hb
      go_enter Try.func18, Try.ntmps18
      go_wp2_with (first | ((with_reducible refine st_box 45 _ (lA ⟨f, t, bs, A, n, c⟩) ?_ ?_); exact rfl))
      refine ⟨fun V1 g1 n1 f1 => ?_⟩
      have up1 : w.heap.size ≤ g1 := Nat.le_of_eq f1.at_
      have bl1 := f1.bel
      clear f1
      have r3_xb := (h1).on bl1
      have r3_yb := (h2).on bl1
      have l3 := le_tr (Below.refl _ _) bl1
      clear h1 h2
      clear bl1
      go_wp2_with (first | ((with_reducible refine st_box 45 _ (lA ⟨f2, t2, bs2, A2, n2, c2⟩) ?_ ?_); exact rfl))
      refine ⟨fun V4 g4 n4 f4 => ?_⟩
      have ne4_x := f4.ne n1
      have up4 : w.heap.size ≤ g4 := f4.up l3
      have bl4 := f4.bel
      clear f4
      have r6_x := le_on n1 bl4
      have r6_xb := (r3_xb).on bl4
      have r6_yb := (r3_yb).on bl4
      have l6 := le_tr l3 bl4
      clear n1 r3_xb r3_yb l3
      clear bl4
      have cv1 := conv_C r6_xb.rr
      have cv2 := conv_C r6_yb.rr
      have c7 : V4.cell? ⟨g1, 0, none⟩ = some (.int .u8 (f : Int)) := CB.cell r6_x 0
      have c8 : V4.cell? ⟨g1, 1, none⟩ = some (.int .u8 (t : Int)) := CB.cell r6_x 1
      have c9 : V4.cell? ⟨g1, 2, none⟩ = some (.slice A n c) := CB.cell r6_x 2
      have c10 : V4.cell? ⟨g4, 0, none⟩ = some (.int .u8 (f2 : Int)) := CB.cell n4 0
      have c11 : V4.cell? ⟨g4, 1, none⟩ = some (.int .u8 (t2 : Int)) := CB.cell n4 1
      have c12 : V4.cell? ⟨g4, 2, none⟩ = some (.slice A2 n2 c2) := CB.cell n4 2
      go_wp2_with fail
      go_ret
      exact ⟨by rw [HE.out]; rfl, l6⟩
    have q2 : ((t : Int) == (t2 : Int)) = false := by simp; omega
    have HE := Lib.hid (show decide (Lm.lt ⟨f, t, bs, A, n, c⟩ = Lm.lt ⟨f2, t2, bs2, A2, n2, c2⟩) = false from (show decide ((⟨f, t, bs⟩ : Lt) = ⟨f2, t2, bs2⟩) = false by simp [ht]))
    clear hf ht
    go_enter Try.func18, Try.ntmps18
    go_wp2_with (first | ((with_reducible refine st_box 45 _ (lA ⟨f, t, bs, A, n, c⟩) ?_ ?_); exact rfl))
    refine ⟨fun V1 g1 n1 f1 => ?_⟩
    have up1 : w.heap.size ≤ g1 := Nat.le_of_eq f1.at_
    have bl1 := f1.bel
    clear f1
    have r3_xb := (h1).on bl1
    have r3_yb := (h2).on bl1
    have l3 := le_tr (Below.refl _ _) bl1
    clear h1 h2
    clear bl1
    go_wp2_with (first | ((with_reducible refine st_box 45 _ (lA ⟨f2, t2, bs2, A2, n2, c2⟩) ?_ ?_); exact rfl))
    refine ⟨fun V4 g4 n4 f4 => ?_⟩
    have ne4_x := f4.ne n1
    have up4 : w.heap.size ≤ g4 := f4.up l3
    have bl4 := f4.bel
    clear f4
    have r6_x := le_on n1 bl4
    have r6_xb := (r3_xb).on bl4
    have r6_yb := (r3_yb).on bl4
    have l6 := le_tr l3 bl4
    clear n1 r3_xb r3_yb l3
    clear bl4
    have cv1 := conv_C r6_xb.rr
    have cv2 := conv_C r6_yb.rr
    have c7 : V4.cell? ⟨g1, 0, none⟩ = some (.int .u8 (f : Int)) := CB.cell r6_x 0
    have c8 : V4.cell? ⟨g1, 1, none⟩ = some (.int .u8 (t : Int)) := CB.cell r6_x 1
    have c9 : V4.cell? ⟨g1, 2, none⟩ = some (.slice A n c) := CB.cell r6_x 2
    have c10 : V4.cell? ⟨g4, 0, none⟩ = some (.int .u8 (f2 : Int)) := CB.cell n4 0
    have c11 : V4.cell? ⟨g4, 1, none⟩ = some (.int .u8 (t2 : Int)) := CB.cell n4 1
    have c12 : V4.cell? ⟨g4, 2, none⟩ = some (.slice A2 n2 c2) := CB.cell n4 2
    go_wp2_with fail
    go_ret
    exact ⟨by rw [HE.out]; rfl, l6⟩
  have q1 : ((f : Int) == (f2 : Int)) = false := by simp; omega
  have HE := Lib.hid (show decide (Lm.lt ⟨f, t, bs, A, n, c⟩ = Lm.lt ⟨f2, t2, bs2, A2, n2, c2⟩) = false from (show decide ((⟨f, t, bs⟩ : Lt) = ⟨f2, t2, bs2⟩) = false by simp [hf]))
  clear hf
  go_enter Try.func18, Try.ntmps18
  go_wp2_with (first | ((with_reducible refine st_box 45 _ (lA ⟨f, t, bs, A, n, c⟩) ?_ ?_); exact rfl))
  refine ⟨fun V1 g1 n1 f1 => ?_⟩
  have up1 : w.heap.size ≤ g1 := Nat.le_of_eq f1.at_
  have bl1 := f1.bel
  clear f1
  have r3_xb := (h1).on bl1
  have r3_yb := (h2).on bl1
  have l3 := le_tr (Below.refl _ _) bl1
  clear h1 h2
  clear bl1
  go_wp2_with (first | ((with_reducible refine st_box 45 _ (lA ⟨f2, t2, bs2, A2, n2, c2⟩) ?_ ?_); exact rfl))
  refine ⟨fun V4 g4 n4 f4 => ?_⟩
  have ne4_x := f4.ne n1
  have up4 : w.heap.size ≤ g4 := f4.up l3
  have bl4 := f4.bel
  clear f4
  have r6_x := le_on n1 bl4
  have r6_xb := (r3_xb).on bl4
  have r6_yb := (r3_yb).on bl4
  have l6 := le_tr l3 bl4
  clear n1 r3_xb r3_yb l3
  clear bl4
  have cv1 := conv_C r6_xb.rr
  have cv2 := conv_C r6_yb.rr
  have c7 : V4.cell? ⟨g1, 0, none⟩ = some (.int .u8 (f : Int)) := CB.cell r6_x 0
  have c8 : V4.cell? ⟨g1, 1, none⟩ = some (.int .u8 (t : Int)) := CB.cell r6_x 1
  have c9 : V4.cell? ⟨g1, 2, none⟩ = some (.slice A n c) := CB.cell r6_x 2
  have c10 : V4.cell? ⟨g4, 0, none⟩ = some (.int .u8 (f2 : Int)) := CB.cell n4 0
  have c11 : V4.cell? ⟨g4, 1, none⟩ = some (.int .u8 (t2 : Int)) := CB.cell n4 1
  have c12 : V4.cell? ⟨g4, 2, none⟩ = some (.slice A2 n2 c2) := CB.cell n4 2
  go_wp2_with fail
  go_ret
  exact ⟨by rw [HE.out]; rfl, l6⟩
end Go.Proofs.Ytcfdfimkgehdfaa
