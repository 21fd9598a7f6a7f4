/-
  Layer 18: few and does of the statements. Conditions: the air is one that New made, what the document keeps can be read and is no part of it.
-/
import Derived.Test.YtcfdfimkgehdfaaAiL
set_option linter.unusedVariables false
set_option linter.unusedSimpArgs false
namespace Go.Proofs.Ytcfdfimkgehdfaa
open Go.RowKit

theorem st_litvG {P : Program} {ops : Array Oper} {rest : List Oper} {dst : Option Tmp} {ty : TypeId} {pos : String} {aft : Array Edge} {gd : Nat × Bool} {a : Act} {w : World} {Q : Exit → Act → World → Prop} (T e : TypeId) (x : Operand) (v : Value) (cs : Array Value) (hx : a.eval x = v) (hv : v.cells = cs) {z : Value} {s : Nat} (hu : P.underlying T = some (.slice e)) (hi : (P.info? e).map (fun i => (i.zero, i.size)) = some (some z, s)) (hs : cs.size = s) (h0 : 0 < s) (h1 : s ≤ 1000)
    (hw : Region.wanted ⟨dst, .buildSlice T 1 #[(0, x)], ty, pos, aft, some gd⟩ (yielded ops a.tmps) = true)
    (k : Sh (∀ V g, CB V g e cs → Fr w V g → wpList P ops Q rest (a.put dst (.slice (some ⟨g, 0, none⟩) 1 1)) V)) : wpList P ops Q (⟨dst, .buildSlice T 1 #[(0, x)], ty, pos, aft, some gd⟩ :: rest) a w :=
  wpList_step fun K hK => by
    have h : (Instr.buildSlice T 1 ((#[(0, x)] : Array (Nat × Operand)).map fun (i, x) => (i, a.eval x))).run P w = .ok (.slice (some ⟨w.heap.size, 0, none⟩) 1 1) (w.alloc (.cells cs e)) := by
      have := run_litv (P := P) w T e v cs hv hu hi hs h0 h1
      simpa [hx] using this
    rw [if_pos hw]
    unfold Oper.wp execOp
    simp only [Sem.run_bind, Sem.run_pure, Result.andThen_ok, h]
    exact hK _ _ (k.out _ _ (CB.new w e cs) ⟨rfl, le_al _ _⟩)
section
variable {P : Program} {ops : Array Oper} {rest : List Oper} {dst : Option Tmp} {ty : TypeId} {pos : String} {aft : Array Edge} {gd : Nat × Bool} {a : Act} {w : World} {Q : Exit → Act → World → Prop}
theorem st_built3G (T : TypeId) (x0 x1 x2 : Operand) (v0 v1 v2 : Value) (cs : Array Value) (h0 : a.eval x0 = v0) (h1 : a.eval x1 = v1) (h2 : a.eval x2 = v2) (hb : P.built T [(0, v0), (1, v1), (2, v2)] = some cs) (hw : Region.wanted ⟨dst, .build T #[(0, x0), (1, x1), (2, x2)], ty, pos, aft, some gd⟩ (yielded ops a.tmps) = true)
    (k : wpList P ops Q rest (a.put dst (.agg cs)) w) : wpList P ops Q (⟨dst, .build T #[(0, x0), (1, x1), (2, x2)], ty, pos, aft, some gd⟩ :: rest) a w :=
  wpList_step fun K hK => by
    have h := run_build (P := P) w T #[(0, v0), (1, v1), (2, v2)] cs hb
    rw [if_pos hw]
    unfold Oper.wp execOp
    simp [Sem.run_bind, h0, h1, h2, h]
    exact hK _ _ k
theorem st_built2G (T : TypeId) (i j : Nat) (x0 x1 : Operand) (v0 v1 : Value) (cs : Array Value) (h0 : a.eval x0 = v0) (h1 : a.eval x1 = v1) (hb : P.built T [(i, v0), (j, v1)] = some cs) (hw : Region.wanted ⟨dst, .build T #[(i, x0), (j, x1)], ty, pos, aft, some gd⟩ (yielded ops a.tmps) = true)
    (k : wpList P ops Q rest (a.put dst (.agg cs)) w) : wpList P ops Q (⟨dst, .build T #[(i, x0), (j, x1)], ty, pos, aft, some gd⟩ :: rest) a w :=
  wpList_step fun K hK => by
    have h := run_build (P := P) w T #[(i, v0), (j, v1)] cs hb
    rw [if_pos hw]
    unfold Oper.wp execOp
    simp [Sem.run_bind, h0, h1, h]
    exact hK _ _ k
theorem st_builtnG (T : TypeId) (i : Nat) (x0 : Operand) (v0 : Value) (cs : Array Value) (h0 : a.eval x0 = v0) (hb : P.built T [(i, v0)] = some cs) (hw : Region.wanted ⟨dst, .build T #[(i, x0)], ty, pos, aft, some gd⟩ (yielded ops a.tmps) = true)
    (k : wpList P ops Q rest (a.put dst (.agg cs)) w) : wpList P ops Q (⟨dst, .build T #[(i, x0)], ty, pos, aft, some gd⟩ :: rest) a w :=
  wpList_step fun K hK => by
    have h := run_build (P := P) w T #[(i, v0)] cs hb
    rw [if_pos hw]
    unfold Oper.wp execOp
    simp [Sem.run_bind, h0, h]
    exact hK _ _ k
end
/-- The document's letters behind a call. -/
def sAcR (room : Nat) (L : List Lt) (x : Ax) : List Lt :=
  if x.kd % 6 = 3 then sTkR L x.to x.at_ else if x.kd % 6 = 4 then sAgR room L x.to x.at_ else if x.kd % 6 = 5 then sTnR L x.to x.at_ x.pl x.by_ else sSnR room L ⟨x.fr, x.to, x.b⟩
theorem toR_ac (room : Nat) (L : List Lt) (x : Ax) : toR (sAcR room L x) = sAc room (toR L) x := by
  unfold sAcR sAc
  split
  · exact toR_tk _ _ _
  · split
    · exact toR_ag _ _ _ _
    · split
      · exact toR_tn _ _ _ _ _
      · exact toR_snd _ _ _
theorem sac_3 {room : Nat} {L : List Lt} {Q : Qs} {x : Ax} (h : x.kd % 6 = 3) : sAc room Q x = sTk Q x.to x.at_ ∧ sAcR room L x = sTkR L x.to x.at_ := ⟨if_pos h, if_pos h⟩
theorem sac_4 {room : Nat} {L : List Lt} {Q : Qs} {x : Ax} (h : x.kd % 6 = 4) : sAc room Q x = sAg room Q x.to x.at_ ∧ sAcR room L x = sAgR room L x.to x.at_ := ⟨(if_neg (by omega)).trans (if_pos h), (if_neg (by omega)).trans (if_pos h)⟩
theorem sac_5 {room : Nat} {L : List Lt} {Q : Qs} {x : Ax} (h : x.kd % 6 = 5) : sAc room Q x = sTn Q x.to x.at_ x.pl x.by_ ∧ sAcR room L x = sTnR L x.to x.at_ x.pl x.by_ := ⟨(if_neg (by omega)).trans ((if_neg (by omega)).trans (if_pos h)), (if_neg (by omega)).trans ((if_neg (by omega)).trans (if_pos h))⟩
theorem sac_0 {room : Nat} {L : List Lt} {Q : Qs} {x : Ax} (h : ¬ x.kd % 6 = 3 ∧ ¬ x.kd % 6 = 4 ∧ ¬ x.kd % 6 = 5) : sAc room Q x = sSn room Q ⟨x.fr, x.to, x.b⟩ ∧ sAcR room L x = sSnR room L ⟨x.fr, x.to, x.b⟩ := ⟨(if_neg h.1).trans ((if_neg h.2.1).trans (if_neg h.2.2)), (if_neg h.1).trans ((if_neg h.2.1).trans (if_neg h.2.2))⟩
/-- Behind a call of both. -/
def DPost (w : World) (S : Nat → Prop) (ba room : Nat) (Q : Qs) (A : Option Addr) (n : Nat) (L : List Lm) (r2 : Nat) (x : Xm) (e : Ending) (w' : World) : Prop :=
  ∃ A' n' c' L' b S', e = .returned (.tuple #[.agg (cA ⟨A', n', c', (r2 : Int)⟩), .bool b]) ∧ (room = r2 → Q = toR (LT L) → b = true) ∧ AO S' ba room (sAc room Q x.ax) w' ∧ DL A' n' c' L' w' ∧ LT L' = sAcR r2 (LT L) x.ax ∧ (∀ i, S' i → S i ∨ w.heap.size ≤ i) ∧
    (∀ g, FD A' n' L' g → ¬ S' g) ∧ (∀ g, FD A' n' L' g → FD A n L g ∨ InR x.A x.n g ∨ w.heap.size ≤ g) ∧ Out w w' S
set_option maxRecDepth 100000 in
set_option maxHeartbeats 400000 in
theorem few_c (x : Xm) (w : World) : Calls Try.prog 13 #[.agg (xA x)] w fun e w' => e = .returned (.bool (decide (x.n ≤ 4100))) ∧ Below w.heap.size w w' := by
  have q1 : decide ((x.n : Int) ≤ 4100) = decide (x.n ≤ 4100) := by rw [Bool.eq_iff_iff]; simp; omega
  go_enter Try.func13, Try.ntmps13
  go_wp2_with (first | ((with_reducible refine st_box 33 _ (xA x) ?_ ?_); exact rfl))
  refine ⟨fun V1 g1 n1 f1 => ?_⟩
  have up1 : w.heap.size ≤ g1 := Nat.le_of_eq f1.at_
  have bl1 := f1.bel
  clear f1
  have l3 := le_tr (Below.refl _ _) bl1
  clear bl1
  have c4 : V1.cell? ⟨g1, 3, none⟩ = some (.slice (x.A) (x.n) (x.c)) := CB.cell n1 3
  go_wp2_with fail
  go_ret
  exact ⟨by first | rfl | rw [q1] | simp; omega, l3⟩
set_option maxRecDepth 100000 in
set_option maxHeartbeats 8000000 in
theorem does_3 (S : Nat → Prop) (ba room : Nat) (Q : Qs) (A : Option Addr) (n c : Nat) (L : List Lm) (r2 : Nat) (x : Xm) (w : World) (h : AO S ba room Q w) (hd : DL A n c L w) (hR : Roomy r2 (toR (LT L))) (hn : n ≤ 1000000) (hx : RR w bcl 1 x.A x.n x.c x.b) (hpl : x.pl < 65536) (hds : ∀ g, FD A n L g → ¬ S g) (hxs : ∀ g, InR x.A x.n g → ¬ S g) (hm : x.kd % 6 = 3) : Calls Try.prog 14 #[.pointer (some ⟨ba, 0, none⟩), .agg (cA ⟨A, n, c, (r2 : Int)⟩), .agg (xA x)] w (DPost w S ba room Q A n L r2 x) := by
  obtain ⟨kd, fr, to, bs, A2, n2, c2, at_, pl, by_⟩ := x
  have hxo := hx.ob
  have hdo := hd.ob
  have hsd : ∀ g, S g → ¬ FD A n L g := fun g a b => hds g b a
  simp only at hx hxo hxs hpl hm
  have hsx : ∀ g, S g → ¬ InR A2 n2 g := fun g a b => hxs g b a
  have hi0 : ∀ i, S i → S i ∨ w.heap.size ≤ i := fun i e => .inl e
  clear hx hd
  have tm : Int.tmod (kd : Int) 6 = 3 := (tmod_nat kd 6).trans (by rw [hm]; rfl)
  obtain ⟨z1, z2⟩ := sac_3 (room := room) (L := LT L) (Q := Q) (x := Xm.ax ⟨kd, fr, to, bs, A2, n2, c2, at_, pl, by_⟩) hm
  have z3 := (sac_3 (room := r2) (L := LT L) (Q := Q) (x := Xm.ax ⟨kd, fr, to, bs, A2, n2, c2, at_, pl, by_⟩) hm).2
  clear hm z2
  have HA := Lib.hid z1
  have HL := Lib.hid z3
  clear z1 z3
  go_enter Try.func14, Try.ntmps14
  go_wp2_with (first | ((with_reducible refine st_box 28 _ (cA ⟨A, n, c, (r2 : Int)⟩) ?_ ?_); exact rfl))
  refine ⟨fun V1 g1 n1 f1 => ?_⟩
  have nn1_oa := h.fresh (Nat.le_of_eq f1.at_)
  have nn1_od := hdo.fresh (Nat.le_of_eq f1.at_)
  have nn1_ox := hxo.fresh (Nat.le_of_eq f1.at_)
  have up1 : w.heap.size ≤ g1 := Nat.le_of_eq f1.at_
  have bl1 := f1.bel
  clear f1
  have r2_oa := h.on bl1
  have r2_od := hdo.on bl1
  have r2_ox := hxo.on bl1
  have l4 := Out.tr (Out.refl _ S) bl1
  clear h hdo hxo
  clear bl1
  go_wp2_with (first | ((with_reducible refine st_box 33 _ (xA ⟨kd, fr, to, bs, A2, n2, c2, at_, pl, by_⟩) ?_ ?_); exact rfl))
  refine ⟨fun V5 g5 n5 f5 => ?_⟩
  have ne5_m := f5.ne n1
  have nn5_oa := r2_oa.fresh (Nat.le_of_eq f5.at_)
  have nn5_od := r2_od.fresh (Nat.le_of_eq f5.at_)
  have nn5_ox := r2_ox.fresh (Nat.le_of_eq f5.at_)
  have up5 : w.heap.size ≤ g5 := f5.upO l4
  have bl5 := f5.bel
  clear f5
  have r6_oa := r2_oa.on bl5
  have r6_od := r2_od.on bl5
  have r6_ox := r2_ox.on bl5
  have r8_m := le_on n1 bl5
  have l8 := Out.tr l4 bl5
  clear n1 l4
  clear r2_oa r2_od r2_ox
  clear bl5
  go_wp2_with (first | ((with_reducible refine st_alloc 28 (cA zeroC) ?_ ?_); exact zero_cr))
  refine ⟨fun V9 g9 n9 f9 => ?_⟩
  have ne9_m := f9.ne r8_m
  have ne9_x := f9.ne n5
  have nn9_oa := r6_oa.fresh (Nat.le_of_eq f9.at_)
  have nn9_od := r6_od.fresh (Nat.le_of_eq f9.at_)
  have nn9_ox := r6_ox.fresh (Nat.le_of_eq f9.at_)
  have up9 : w.heap.size ≤ g9 := f9.upO l8
  have bl9 := f9.bel
  clear f9
  have r10_oa := r6_oa.on bl9
  have r10_od := r6_od.on bl9
  have r10_ox := r6_ox.on bl9
  have r12_m := le_on r8_m bl9
  have r12_x := le_on n5 bl9
  have l12 := Out.tr l8 bl9
  clear r8_m n5 l8
  clear r6_oa r6_od r6_ox
  clear bl9
  have c13 : V9.cell? ⟨g5, 0, none⟩ = some (.int .u8 (kd : Int)) := CB.cell r12_x 0
  have c14 : V9.cell? ⟨g5, 1, none⟩ = some (.int .u8 (fr : Int)) := CB.cell r12_x 1
  have c15 : V9.cell? ⟨g5, 2, none⟩ = some (.int .u8 (to : Int)) := CB.cell r12_x 2
  have c16 : V9.cell? ⟨g5, 3, none⟩ = some (.slice A2 n2 c2) := CB.cell r12_x 3
  have c17 : V9.cell? ⟨g5, 4, none⟩ = some (.int .i64 at_) := CB.cell r12_x 4
  have c18 : V9.cell? ⟨g5, 5, none⟩ = some (.int .u16 (pl : Int)) := CB.cell r12_x 5
  have c19 : V9.cell? ⟨g5, 6, none⟩ = some (.int .u8 ((by_).toNat : Int)) := CB.cell r12_x 6
  go_wp2_with fail
  (with_reducible refine (take_c S ba room Q to at_ _ r10_oa).mono ?_)
  rintro e w20 ⟨x20, rfl, hx20, rs20, S20, ao20, ou20, nw20, xo20⟩
  clear c13 c14 c15 c16 c17 c18 c19
  have q20_m := ou20.box r12_m nn1_oa
  have no20_m : ¬ S20 g1 := fun e => (nw20 _ e).elim nn1_oa (fun e => by have := CB.lt r12_m; omega)
  have nx20_m : ¬ InB x20.A g1 := fun e => nn1_oa (xo20 _ e).1
  have q20_x := ou20.box r12_x nn5_oa
  have no20_x : ¬ S20 g5 := fun e => (nw20 _ e).elim nn5_oa (fun e => by have := CB.lt r12_x; omega)
  have nx20_x : ¬ InB x20.A g5 := fun e => nn5_oa (xo20 _ e).1
  have q20_r := ou20.box n9 nn9_oa
  have no20_r : ¬ S20 g9 := fun e => (nw20 _ e).elim nn9_oa (fun e => by have := CB.lt n9; omega)
  have nx20_r : ¬ InB x20.A g9 := fun e => nn9_oa (xo20 _ e).1
  have q20_od := r10_od.out ou20 hds
  have ds20_od := Ob.far r10_od hds nw20
  have dt20_od : ∀ i, S20 i → ¬ (FD A n L) i := fun i a b => ds20_od i b a
  have dx20_od : ∀ i, InB x20.A i → ¬ (FD A n L) i := fun i a b => hds i b (xo20 i a).1
  have dy20_od : ∀ i, (FD A n L) i → ¬ InB x20.A i := fun i a b => dx20_od i b a
  have q20_ox := r10_ox.out ou20 hxs
  have ds20_ox := Ob.far r10_ox hxs nw20
  have dt20_ox : ∀ i, S20 i → ¬ (InR A2 n2) i := fun i a b => ds20_ox i b a
  have dx20_ox : ∀ i, InB x20.A i → ¬ (InR A2 n2) i := fun i a b => hxs i b (xo20 i a).1
  have dy20_ox : ∀ i, (InR A2 n2) i → ¬ InB x20.A i := fun i a b => dx20_ox i b a
  have hi20 : ∀ i, S20 i → S i ∨ w.heap.size ≤ i := fun i e => (nw20 i e).elim (hi0 i) (fun e => .inr (Nat.le_trans (l12).size e))
  have l20 := Out.trans l12 ou20 (fun _ _ h => h)
  have rb20 := rs20.ob
  have xa20 : ∀ i, InB x20.A i → ¬ S20 i := fun i a => (xo20 i a).2
  have xb20 : ∀ i, S20 i → ¬ InB x20.A i := fun i a b => xa20 i b a
  clear ou20 nw20 rs20 xo20 r10_oa r12_m nn1_oa r12_x nn5_oa n9 nn9_oa r10_od hds hsd r10_ox hxs hsx hi0 l12
  go_wp2_with (first | ((with_reducible refine st_alloc 40 (lA zeroL) ?_ ?_); exact zero_lc))
  refine ⟨fun V21 g21 n21 f21 => ?_⟩
  have ne21_m := f21.ne q20_m
  have ne21_x := f21.ne q20_x
  have ne21_r := f21.ne q20_r
  have nn21_oa := ao20.fresh (Nat.le_of_eq f21.at_)
  have nn21_od := q20_od.fresh (Nat.le_of_eq f21.at_)
  have nn21_ox := q20_ox.fresh (Nat.le_of_eq f21.at_)
  have nn21_tl := rb20.fresh (Nat.le_of_eq f21.at_)
  have up21 : w.heap.size ≤ g21 := f21.upO l20
  have bl21 := f21.bel
  clear f21
  have r22_oa := ao20.on bl21
  have r22_od := q20_od.on bl21
  have r22_ox := q20_ox.on bl21
  have r22_tl := rb20.on bl21
  have r24_m := le_on q20_m bl21
  have r24_x := le_on q20_x bl21
  have r24_r := le_on q20_r bl21
  have l24 := Out.tr l20 bl21
  clear q20_m q20_x q20_r l20
  clear ao20 q20_od q20_ox rb20
  clear bl21
  go_wp2_with (first | ((with_reducible refine st_store 40 _ _ g21 (lA x20) ?_ ?_ n21 ?_ ?_ ?_ ?_); exact rfl; exact rfl; exact Try.zLc; exact rfl; exact lA_one _))
  refine ⟨fun V25 n25 k25 => ?_⟩
  have m25_m := k25.on r24_m ne21_m
  have m25_x := k25.on r24_x ne21_x
  have m25_r := k25.on r24_r ne21_r
  have m25_oa := r22_oa.wr k25 nn21_oa
  have m25_od := r22_od.wr k25 nn21_od
  have m25_ox := r22_ox.wr k25 nn21_ox
  have m25_tl := r22_tl.wr k25 nn21_tl
  have o25 := Out.wr l24 k25 up21
  clear k25
  clear n21 r24_m r24_x r24_r r22_oa r22_od r22_ox r22_tl l24
  have c26 : V25.cell? ⟨g5, 2, none⟩ = some (.int .u8 (to : Int)) := CB.cell m25_x 2
  have c27 : V25.cell? ⟨g5, 4, none⟩ = some (.int .i64 at_) := CB.cell m25_x 4
  have lt28_m := CB.lt m25_m
  have lt28_x := CB.lt m25_x
  have lt28_r := CB.lt m25_r
  have lt28_l := CB.lt n25
  have la28 := m25_oa.lt
  have lo28 := (o25).size
  go_wp2_with (first | ((with_reducible refine st_load 28 _ g1 ?_ m25_m Try.underlying28 ?_ ?_ ?_); exact rfl; exact rfl; exact Try.zCr))
  (with_reducible refine (rtake_c A n c L (r2 : Int) to at_ _ m25_od.ok hn).mono ?_)
  rintro e w29 ⟨A1, n1, c1, L1, y, rfl, d1, e1, e2, ry, f1, f2, b29⟩
  clear c26 c27
  have r30_oa := m25_oa.on b29
  have r30_od := m25_od.on b29
  have r30_ox := m25_ox.on b29
  have r30_tl := m25_tl.on b29
  have r32_m := le_on m25_m b29
  have r32_x := le_on m25_x b29
  have r32_r := le_on m25_r b29
  have r32_l := le_on n25 b29
  have l32 := Out.tr o25 b29
  clear m25_m m25_x m25_r n25 o25
  clear m25_oa m25_od m25_ox m25_tl
  clear b29
  have nf28_m : ¬ (FD A1 n1 L1) g1 := fun e => by
    rcases f2 _ e with e | e
    · exact nn1_od e
    · omega
  have nf28_x : ¬ (FD A1 n1 L1) g5 := fun e => by
    rcases f2 _ e with e | e
    · exact nn5_od e
    · omega
  have nf28_r : ¬ (FD A1 n1 L1) g9 := fun e => by
    rcases f2 _ e with e | e
    · exact nn9_od e
    · omega
  have nf28_l : ¬ (FD A1 n1 L1) g21 := fun e => by
    rcases f2 _ e with e | e
    · exact nn21_od e
    · omega
  have df28 : ∀ j, (FD A1 n1 L1) j → ¬ S20 j := fun j hj hs => by
    rcases f2 _ hj with e | e
    · exact ds20_od j e hs
    · have := la28 j hs; omega
  have dg28 : ∀ j, S20 j → ¬ (FD A1 n1 L1) j := fun j a b => df28 j b a
  have od28 := d1.ob
  clear d1
  have ny28_m : ¬ (InR y.A y.n) g1 := fun e => nn1_od (f1 _ e)
  have ny28_x : ¬ (InR y.A y.n) g5 := fun e => nn5_od (f1 _ e)
  have ny28_r : ¬ (InR y.A y.n) g9 := fun e => nn9_od (f1 _ e)
  have ny28_l : ¬ (InR y.A y.n) g21 := fun e => nn21_od (f1 _ e)
  have dz28 : ∀ j, (InR y.A y.n) j → ¬ S20 j := fun j a b => ds20_od j (f1 j a) b
  have dw28 : ∀ j, S20 j → ¬ (InR y.A y.n) j := fun j a b => dz28 j b a
  have oy28 := ry.ob
  clear ry
  have fb28 : ∀ g, (FD A1 n1 L1) g → (FD A n L) g ∨ False ∨ w.heap.size ≤ g := fun g e => (f2 g e).imp id (fun e => .inr (Nat.le_trans lo28 e))
  clear f2
  clear la28 lo28 lt28_m lt28_x lt28_r lt28_l
  go_wp2_with (first | ((with_reducible refine st_alloc 28 (cA zeroC) ?_ ?_); exact zero_cr))
  refine ⟨fun V33 g33 n33 f33 => ?_⟩
  have ne33_m := f33.ne r32_m
  have ne33_x := f33.ne r32_x
  have ne33_r := f33.ne r32_r
  have ne33_l := f33.ne r32_l
  have nn33_oa := r30_oa.fresh (Nat.le_of_eq f33.at_)
  have nn33_od := r30_od.fresh (Nat.le_of_eq f33.at_)
  have nn33_ox := r30_ox.fresh (Nat.le_of_eq f33.at_)
  have nn33_tl := r30_tl.fresh (Nat.le_of_eq f33.at_)
  have nn33_o1 := od28.fresh (Nat.le_of_eq f33.at_)
  have nn33_oy := oy28.fresh (Nat.le_of_eq f33.at_)
  have up33 : w.heap.size ≤ g33 := f33.upO l32
  have bl33 := f33.bel
  clear f33
  have r34_oa := r30_oa.on bl33
  have r34_od := r30_od.on bl33
  have r34_ox := r30_ox.on bl33
  have r34_tl := r30_tl.on bl33
  have r34_o1 := od28.on bl33
  have r34_oy := oy28.on bl33
  have r36_m := le_on r32_m bl33
  have r36_x := le_on r32_x bl33
  have r36_r := le_on r32_r bl33
  have r36_l := le_on r32_l bl33
  have l36 := Out.tr l32 bl33
  clear r32_m r32_x r32_r r32_l l32
  clear r30_oa r30_od r30_ox r30_tl od28 oy28
  clear bl33
  go_wp2_with (first | ((with_reducible refine st_alloc 45 (lA zeroL) ?_ ?_); exact zero_lr))
  refine ⟨fun V37 g37 n37 f37 => ?_⟩
  have ne37_m := f37.ne r36_m
  have ne37_x := f37.ne r36_x
  have ne37_r := f37.ne r36_r
  have ne37_l := f37.ne r36_l
  have ne37_b := f37.ne n33
  have nn37_oa := r34_oa.fresh (Nat.le_of_eq f37.at_)
  have nn37_od := r34_od.fresh (Nat.le_of_eq f37.at_)
  have nn37_ox := r34_ox.fresh (Nat.le_of_eq f37.at_)
  have nn37_tl := r34_tl.fresh (Nat.le_of_eq f37.at_)
  have nn37_o1 := r34_o1.fresh (Nat.le_of_eq f37.at_)
  have nn37_oy := r34_oy.fresh (Nat.le_of_eq f37.at_)
  have up37 : w.heap.size ≤ g37 := f37.upO l36
  have bl37 := f37.bel
  clear f37
  have r38_oa := r34_oa.on bl37
  have r38_od := r34_od.on bl37
  have r38_ox := r34_ox.on bl37
  have r38_tl := r34_tl.on bl37
  have r38_o1 := r34_o1.on bl37
  have r38_oy := r34_oy.on bl37
  have r40_m := le_on r36_m bl37
  have r40_x := le_on r36_x bl37
  have r40_r := le_on r36_r bl37
  have r40_l := le_on r36_l bl37
  have r40_b := le_on n33 bl37
  have l40 := Out.tr l36 bl37
  clear r36_m r36_x r36_r r36_l n33 l36
  clear r34_oa r34_od r34_ox r34_tl r34_o1 r34_oy
  clear bl37
  go_wp2_with (first | ((with_reducible refine st_store 28 _ _ g33 (cA ⟨A1, n1, c1, (r2 : Int)⟩) ?_ ?_ r40_b ?_ ?_ ?_ ?_); exact rfl; exact rfl; exact Try.zCr; exact rfl; exact cA_one _))
  refine ⟨fun V41 n41 k41 => ?_⟩
  have m41_m := k41.on r40_m ne33_m
  have m41_x := k41.on r40_x ne33_x
  have m41_r := k41.on r40_r ne33_r
  have m41_l := k41.on r40_l ne33_l
  have m41_k := k41.on n37 (Ne.symm ne37_b)
  have m41_oa := r38_oa.wr k41 nn33_oa
  have m41_od := r38_od.wr k41 nn33_od
  have m41_ox := r38_ox.wr k41 nn33_ox
  have m41_tl := r38_tl.wr k41 nn33_tl
  have m41_o1 := r38_o1.wr k41 nn33_o1
  have m41_oy := r38_oy.wr k41 nn33_oy
  have o41 := Out.wr l40 k41 up33
  clear k41
  clear r40_b r40_m r40_x r40_r r40_l n37 r38_oa r38_od r38_ox r38_tl r38_o1 r38_oy l40
  go_wp2_with (first | ((with_reducible refine st_store 45 _ _ g37 (lA y) ?_ ?_ m41_k ?_ ?_ ?_ ?_); exact rfl; exact rfl; exact Try.zLr; exact rfl; exact lA_one _))
  refine ⟨fun V42 n42 k42 => ?_⟩
  have m42_m := k42.on m41_m ne37_m
  have m42_x := k42.on m41_x ne37_x
  have m42_r := k42.on m41_r ne37_r
  have m42_l := k42.on m41_l ne37_l
  have m42_b := k42.on n41 ne37_b
  have m42_oa := m41_oa.wr k42 nn37_oa
  have m42_od := m41_od.wr k42 nn37_od
  have m42_ox := m41_ox.wr k42 nn37_ox
  have m42_tl := m41_tl.wr k42 nn37_tl
  have m42_o1 := m41_o1.wr k42 nn37_o1
  have m42_oy := m41_oy.wr k42 nn37_oy
  have o42 := Out.wr o41 k42 up37
  clear k42
  clear m41_k m41_m m41_x m41_r m41_l n41 m41_oa m41_od m41_ox m41_tl m41_o1 m41_oy o41
  have C1 := fun (V : World) (hx : RR V bcl 1 x20.A x20.n x20.c x20.b) (hy : RR V bcl 1 y.A y.n y.c y.b) => same_c x20 y V hx hy
  obtain ⟨bq, hbq⟩ : ∃ b, (((eAt Q to at_ : Nat) : Int) == ((eAt (toR (LT L)) to at_ : Nat) : Int)) = b := ⟨_, rfl⟩
  have HB := Lib.hid hbq
  clear hbq
  by_cases hsm : x20.lt = y.lt
  · skip
    simp only [decide_eq_true hsm] at C1
    go_wp2_with fail
    have y43 := Lib.hid (show (fun V : World => CB V g33 28 (cA ⟨A1, n1, c1, (r2 : Int)⟩) ∧ CB V g21 40 (lA x20) ∧ CB V g37 45 (lA y)) V42.drew from ⟨CB.drew m42_b, CB.drew m42_l, CB.drew n42⟩)
    refine wp_region_held_drew (S := (fun V : World => CB V g33 28 (cA ⟨A1, n1, c1, (r2 : Int)⟩) ∧ CB V g21 40 (lA x20) ∧ CB V g37 45 (lA y))) (by kernel_rfl) y43.out (fun hHeld => ?_)
    obtain ⟨D43, hD43⟩ : ∃ V, V42.drew = V := ⟨_, rfl⟩
    have b43 : Below V42.heap.size V42 D43 := by rw [← hD43]; exact le_dr (Below.refl _ _)
    rw [hD43] at hHeld ⊢
    clear hD43
    have r44_oa := m42_oa.on b43
    have r44_od := m42_od.on b43
    have r44_ox := m42_ox.on b43
    have r44_tl := m42_tl.on b43
    have r44_o1 := m42_o1.on b43
    have r44_oy := m42_oy.on b43
    have r46_m := le_on m42_m b43
    have r46_x := le_on m42_x b43
    have r46_r := le_on m42_r b43
    have r46_l := le_on m42_l b43
    have r46_b := le_on m42_b b43
    have r46_k := le_on n42 b43
    have l46 := Out.tr o42 b43
    clear m42_m m42_x m42_r m42_l m42_b n42 o42
    clear m42_oa m42_od m42_ox m42_tl m42_o1 m42_oy
    clear b43
    refine wpAnyH_takeL (i := 0) (d := some 44) (v := .agg (cA ⟨A1, n1, c1, (r2 : Int)⟩)) rfl rfl (by kernel_rfl) (by kernel_rfl) (by kernel_rfl) (fun _ _ _ h => h) (Or.inl ⟨by rfl, ?_⟩) hHeld ?_
    · intro w hSw; exact yl_whole 28 _ g33 rfl hSw.1 Try.underlying28 rfl Try.zCr
    try simp only [Act.put, List.setIfInBounds_toArray, List.set_cons_zero, List.set_cons_succ]
    refine wpAnyH_takeL (i := 1) (d := some 45) (v := .agg (lA x20)) rfl rfl (by kernel_rfl) (by kernel_rfl) (by kernel_rfl) (fun _ _ _ h => h) (Or.inl ⟨by rfl, ?_⟩) hHeld ?_
    · intro w hSw; exact yl_whole 40 _ g21 rfl hSw.2.1 Try.underlying40 rfl Try.zLc
    try simp only [Act.put, List.setIfInBounds_toArray, List.set_cons_zero, List.set_cons_succ]
    refine wpAnyH_takeL (i := 2) (d := some 46) (v := .agg (lA y)) rfl rfl (by kernel_rfl) (by kernel_rfl) (by kernel_rfl) (fun _ _ _ h => h) (Or.inl ⟨by rfl, ?_⟩) hHeld ?_
    · intro w hSw; exact yl_whole 45 _ g37 rfl hSw.2.2 Try.underlying45 rfl Try.zLr
    try simp only [Act.put, List.setIfInBounds_toArray, List.set_cons_zero, List.set_cons_succ]
    refine wpAnyH_ready (rs := [3]) (by kernel_rfl) (by simp) ?_
    refine AllReadyH.cons rfl (fun K hK => ?_) AllReadyH.nil
    go_simp
    (with_reducible refine (C1 _ r44_tl.ok.rr r44_oy.ok).mono ?_)
    rintro e u47 ⟨rfl, b47⟩
    have r48_oa := r44_oa.on b47
    have r48_od := r44_od.on b47
    have r48_ox := r44_ox.on b47
    have r48_tl := r44_tl.on b47
    have r48_o1 := r44_o1.on b47
    have r48_oy := r44_oy.on b47
    have r50_m := le_on r46_m b47
    have r50_x := le_on r46_x b47
    have r50_r := le_on r46_r b47
    have r50_l := le_on r46_l b47
    have r50_b := le_on r46_b b47
    have r50_k := le_on r46_k b47
    have l50 := Out.tr l46 b47
    clear r46_m r46_x r46_r r46_l r46_b r46_k l46
    clear r44_oa r44_od r44_ox r44_tl r44_o1 r44_oy
    clear b47
    go_wp2_with fail
    have y51 := Lib.hid (show (fun V : World => CB V g33 28 (cA ⟨A1, n1, c1, (r2 : Int)⟩) ∧ CB V g21 40 (lA x20) ∧ CB V g37 45 (lA y)) u47 from ⟨r50_b, r50_l, r50_k⟩)
    refine hK.out _ _ y51.out (fun hHeld => ?_)
    clear hK K y51
    try simp only [Act.put, List.setIfInBounds_toArray, List.set_cons_zero, List.set_cons_succ]
    refine wpAnyH_takeL (i := 4) (d := some 48) (v := .bool true) rfl rfl (by kernel_rfl) (by kernel_rfl) (by kernel_rfl) (fun _ _ _ h => h) (Or.inl ⟨by rfl, ?_⟩) hHeld ?_
    · intro w hSw; (try dsimp only at hSw); go_simp
    try simp only [Act.put, List.setIfInBounds_toArray, List.set_cons_zero, List.set_cons_succ]
    refine wpAnyH_takeL (i := 5) (d := some 49) (v := .int .i64 ((eAt Q to at_ : Nat) : Int)) rfl rfl (by kernel_rfl) (by kernel_rfl) (by kernel_rfl) (fun _ _ _ h => h) (Or.inl ⟨by rfl, ?_⟩) hHeld ?_
    · intro w hSw; (try dsimp only at hSw); go_simp
    try simp only [Act.put, List.setIfInBounds_toArray, List.set_cons_zero, List.set_cons_succ]
    refine wpAnyH_takeL (i := 6) (d := some 50) (v := .int .i64 ((eAt (toR (LT L)) to at_ : Nat) : Int)) rfl rfl (by kernel_rfl) (by kernel_rfl) (by kernel_rfl) (fun _ _ _ h => h) (Or.inl ⟨by rfl, ?_⟩) hHeld ?_
    · intro w hSw; (try dsimp only at hSw); go_simp
    try simp only [Act.put, List.setIfInBounds_toArray, List.set_cons_zero, List.set_cons_succ]
    refine wpAnyH_takeL (i := 7) (d := some 51) (v := .bool bq) rfl rfl (by kernel_rfl) (by kernel_rfl) (by kernel_rfl) (fun _ _ _ h => h) (Or.inl ⟨by rfl, ?_⟩) hHeld ?_
    · intro w hSw; have hb9 := HB.out; go_simp
    try simp only [Act.put, List.setIfInBounds_toArray, List.set_cons_zero, List.set_cons_succ]
    refine wpAnyH_takeL (i := 8) (d := some 52) (v := .bool bq) rfl rfl (by kernel_rfl) (by kernel_rfl) (by kernel_rfl) (fun _ _ _ h => h) (Or.inl ⟨by rfl, ?_⟩) hHeld ?_
    · intro w hSw; (try dsimp only at hSw); go_simp
    try simp only [Act.put, List.setIfInBounds_toArray, List.set_cons_zero, List.set_cons_succ]
    refine wpAnyH_ready (rs := [9]) (by kernel_rfl) (by simp) ?_
    refine AllReadyH.cons rfl (fun K hK => ?_) AllReadyH.nil
    refine rd_store rfl 28 _ _ rfl none rfl g9 (cA ⟨A1, n1, c1, (r2 : Int)⟩) rfl rfl r50_r Try.zCr rfl (cA_one _) ?_
    refine ⟨fun V52 n52 k52 => ?_⟩
    have m52_m := k52.on r50_m ne9_m
    have m52_x := k52.on r50_x ne9_x
    have m52_l := k52.on r50_l (Ne.symm ne21_r)
    have m52_b := k52.on r50_b (Ne.symm ne33_r)
    have m52_k := k52.on r50_k (Ne.symm ne37_r)
    have m52_oa := r48_oa.wr k52 no20_r
    have m52_od := r48_od.wr k52 nn9_od
    have m52_ox := r48_ox.wr k52 nn9_ox
    have m52_tl := r48_tl.wr k52 nx20_r
    have m52_o1 := r48_o1.wr k52 nf28_r
    have m52_oy := r48_oy.wr k52 ny28_r
    have o52 := Out.wr l50 k52 up9
    clear k52
    clear r50_r r50_m r50_x r50_l r50_b r50_k r48_oa r48_od r48_ox r48_tl r48_o1 r48_oy l50
    have y53 := Lib.hid (show (fun V : World => CB V g33 28 (cA ⟨A1, n1, c1, (r2 : Int)⟩) ∧ CB V g21 40 (lA x20) ∧ CB V g37 45 (lA y)) V52 from ⟨m52_b, m52_l, m52_k⟩)
    refine hK.out _ _ y53.out (fun hHeld => ?_)
    clear hK K y53
    try simp only [Act.put, List.setIfInBounds_toArray, List.set_cons_zero, List.set_cons_succ]
    refine wpAnyH_takeL (i := 10) (d := some 7) (v := .bool bq) rfl rfl (by kernel_rfl) (by kernel_rfl) (by kernel_rfl) (fun _ _ _ h => h) (Or.inl ⟨by rfl, ?_⟩) hHeld ?_
    · intro w hSw; (try dsimp only at hSw); go_simp
    try simp only [Act.put, List.setIfInBounds_toArray, List.set_cons_zero, List.set_cons_succ]
    refine wpAnyH_done (by kernel_rfl) ?_ _
    go_wp2_with fail
    exact bodyPost_ret (v := .tuple #[.agg (cA ⟨A1, n1, c1, (r2 : Int)⟩), .bool bq]) (res_two Try.results14 rfl rfl n52 Try.underlying28 rfl Try.zCr) rfl ⟨A1, n1, c1, L1, bq, _, rfl, (fun hr hq => by rw [← HB.out, hq]; simp), by rw [HA.out]; exact m52_oa, m52_o1.ok, by rw [HL.out]; exact e1, hi20, df28, fun g e => (fb28 g e).imp id (fun e => e.imp (fun e => e.elim) id), o52⟩
  simp only [decide_eq_false hsm] at C1
  go_wp2_with fail
  have y43 := Lib.hid (show (fun V : World => CB V g33 28 (cA ⟨A1, n1, c1, (r2 : Int)⟩) ∧ CB V g21 40 (lA x20) ∧ CB V g37 45 (lA y)) V42.drew from ⟨CB.drew m42_b, CB.drew m42_l, CB.drew n42⟩)
  refine wp_region_held_drew (S := (fun V : World => CB V g33 28 (cA ⟨A1, n1, c1, (r2 : Int)⟩) ∧ CB V g21 40 (lA x20) ∧ CB V g37 45 (lA y))) (by kernel_rfl) y43.out (fun hHeld => ?_)
  obtain ⟨D43, hD43⟩ : ∃ V, V42.drew = V := ⟨_, rfl⟩
  have b43 : Below V42.heap.size V42 D43 := by rw [← hD43]; exact le_dr (Below.refl _ _)
  rw [hD43] at hHeld ⊢
  clear hD43
  have r44_oa := m42_oa.on b43
  have r44_od := m42_od.on b43
  have r44_ox := m42_ox.on b43
  have r44_tl := m42_tl.on b43
  have r44_o1 := m42_o1.on b43
  have r44_oy := m42_oy.on b43
  have r46_m := le_on m42_m b43
  have r46_x := le_on m42_x b43
  have r46_r := le_on m42_r b43
  have r46_l := le_on m42_l b43
  have r46_b := le_on m42_b b43
  have r46_k := le_on n42 b43
  have l46 := Out.tr o42 b43
  clear m42_m m42_x m42_r m42_l m42_b n42 o42
  clear m42_oa m42_od m42_ox m42_tl m42_o1 m42_oy
  clear b43
  refine wpAnyH_takeL (i := 0) (d := some 44) (v := .agg (cA ⟨A1, n1, c1, (r2 : Int)⟩)) rfl rfl (by kernel_rfl) (by kernel_rfl) (by kernel_rfl) (fun _ _ _ h => h) (Or.inl ⟨by rfl, ?_⟩) hHeld ?_
  · intro w hSw; exact yl_whole 28 _ g33 rfl hSw.1 Try.underlying28 rfl Try.zCr
  try simp only [Act.put, List.setIfInBounds_toArray, List.set_cons_zero, List.set_cons_succ]
  refine wpAnyH_takeL (i := 1) (d := some 45) (v := .agg (lA x20)) rfl rfl (by kernel_rfl) (by kernel_rfl) (by kernel_rfl) (fun _ _ _ h => h) (Or.inl ⟨by rfl, ?_⟩) hHeld ?_
  · intro w hSw; exact yl_whole 40 _ g21 rfl hSw.2.1 Try.underlying40 rfl Try.zLc
  try simp only [Act.put, List.setIfInBounds_toArray, List.set_cons_zero, List.set_cons_succ]
  refine wpAnyH_takeL (i := 2) (d := some 46) (v := .agg (lA y)) rfl rfl (by kernel_rfl) (by kernel_rfl) (by kernel_rfl) (fun _ _ _ h => h) (Or.inl ⟨by rfl, ?_⟩) hHeld ?_
  · intro w hSw; exact yl_whole 45 _ g37 rfl hSw.2.2 Try.underlying45 rfl Try.zLr
  try simp only [Act.put, List.setIfInBounds_toArray, List.set_cons_zero, List.set_cons_succ]
  refine wpAnyH_ready (rs := [3]) (by kernel_rfl) (by simp) ?_
  refine AllReadyH.cons rfl (fun K hK => ?_) AllReadyH.nil
  go_simp
  (with_reducible refine (C1 _ r44_tl.ok.rr r44_oy.ok).mono ?_)
  rintro e u47 ⟨rfl, b47⟩
  have r48_oa := r44_oa.on b47
  have r48_od := r44_od.on b47
  have r48_ox := r44_ox.on b47
  have r48_tl := r44_tl.on b47
  have r48_o1 := r44_o1.on b47
  have r48_oy := r44_oy.on b47
  have r50_m := le_on r46_m b47
  have r50_x := le_on r46_x b47
  have r50_r := le_on r46_r b47
  have r50_l := le_on r46_l b47
  have r50_b := le_on r46_b b47
  have r50_k := le_on r46_k b47
  have l50 := Out.tr l46 b47
  clear r46_m r46_x r46_r r46_l r46_b r46_k l46
  clear r44_oa r44_od r44_ox r44_tl r44_o1 r44_oy
  clear b47
  go_wp2_with fail
  have y51 := Lib.hid (show (fun V : World => CB V g33 28 (cA ⟨A1, n1, c1, (r2 : Int)⟩) ∧ CB V g21 40 (lA x20) ∧ CB V g37 45 (lA y)) u47 from ⟨r50_b, r50_l, r50_k⟩)
  refine hK.out _ _ y51.out (fun hHeld => ?_)
  clear hK K y51
  try simp only [Act.put, List.setIfInBounds_toArray, List.set_cons_zero, List.set_cons_succ]
  refine wpAnyH_takeL (i := 4) (d := some 48) (v := .bool false) rfl rfl (by kernel_rfl) (by kernel_rfl) (by kernel_rfl) (fun _ _ _ h => h) (Or.inl ⟨by rfl, ?_⟩) hHeld ?_
  · intro w hSw; (try dsimp only at hSw); go_simp
  try simp only [Act.put, List.setIfInBounds_toArray, List.set_cons_zero, List.set_cons_succ]
  refine wpAnyH_takeL (i := 5) (d := some 49) (v := undef) rfl rfl (by kernel_rfl) (by kernel_rfl) (by kernel_rfl) (fun _ _ _ h => h) (Or.inr ⟨by kernel_rfl, rfl⟩) hHeld ?_
  try simp only [Act.put, List.setIfInBounds_toArray, List.set_cons_zero, List.set_cons_succ]
  refine wpAnyH_takeL (i := 6) (d := some 50) (v := undef) rfl rfl (by kernel_rfl) (by kernel_rfl) (by kernel_rfl) (fun _ _ _ h => h) (Or.inr ⟨by kernel_rfl, rfl⟩) hHeld ?_
  try simp only [Act.put, List.setIfInBounds_toArray, List.set_cons_zero, List.set_cons_succ]
  refine wpAnyH_takeL (i := 7) (d := some 51) (v := undef) rfl rfl (by kernel_rfl) (by kernel_rfl) (by kernel_rfl) (fun _ _ _ h => h) (Or.inr ⟨by kernel_rfl, rfl⟩) hHeld ?_
  try simp only [Act.put, List.setIfInBounds_toArray, List.set_cons_zero, List.set_cons_succ]
  refine wpAnyH_takeL (i := 8) (d := some 52) (v := .bool false) rfl rfl (by kernel_rfl) (by kernel_rfl) (by kernel_rfl) (fun _ _ _ h => h) (Or.inl ⟨by rfl, ?_⟩) hHeld ?_
  · intro w hSw; (try dsimp only at hSw); go_simp
  try simp only [Act.put, List.setIfInBounds_toArray, List.set_cons_zero, List.set_cons_succ]
  refine wpAnyH_ready (rs := [9]) (by kernel_rfl) (by simp) ?_
  refine AllReadyH.cons rfl (fun K hK => ?_) AllReadyH.nil
  refine rd_store rfl 28 _ _ rfl none rfl g9 (cA ⟨A1, n1, c1, (r2 : Int)⟩) rfl rfl r50_r Try.zCr rfl (cA_one _) ?_
  refine ⟨fun V52 n52 k52 => ?_⟩
  have m52_m := k52.on r50_m ne9_m
  have m52_x := k52.on r50_x ne9_x
  have m52_l := k52.on r50_l (Ne.symm ne21_r)
  have m52_b := k52.on r50_b (Ne.symm ne33_r)
  have m52_k := k52.on r50_k (Ne.symm ne37_r)
  have m52_oa := r48_oa.wr k52 no20_r
  have m52_od := r48_od.wr k52 nn9_od
  have m52_ox := r48_ox.wr k52 nn9_ox
  have m52_tl := r48_tl.wr k52 nx20_r
  have m52_o1 := r48_o1.wr k52 nf28_r
  have m52_oy := r48_oy.wr k52 ny28_r
  have o52 := Out.wr l50 k52 up9
  clear k52
  clear r50_r r50_m r50_x r50_l r50_b r50_k r48_oa r48_od r48_ox r48_tl r48_o1 r48_oy l50
  have y53 := Lib.hid (show (fun V : World => CB V g33 28 (cA ⟨A1, n1, c1, (r2 : Int)⟩) ∧ CB V g21 40 (lA x20) ∧ CB V g37 45 (lA y)) V52 from ⟨m52_b, m52_l, m52_k⟩)
  refine hK.out _ _ y53.out (fun hHeld => ?_)
  clear hK K y53
  try simp only [Act.put, List.setIfInBounds_toArray, List.set_cons_zero, List.set_cons_succ]
  refine wpAnyH_takeL (i := 10) (d := some 7) (v := .bool false) rfl rfl (by kernel_rfl) (by kernel_rfl) (by kernel_rfl) (fun _ _ _ h => h) (Or.inl ⟨by rfl, ?_⟩) hHeld ?_
  · intro w hSw; (try dsimp only at hSw); go_simp
  try simp only [Act.put, List.setIfInBounds_toArray, List.set_cons_zero, List.set_cons_succ]
  refine wpAnyH_done (by kernel_rfl) ?_ _
  go_wp2_with fail
  exact bodyPost_ret (v := .tuple #[.agg (cA ⟨A1, n1, c1, (r2 : Int)⟩), .bool false]) (res_two Try.results14 rfl rfl n52 Try.underlying28 rfl Try.zCr) rfl ⟨A1, n1, c1, L1, false, _, rfl, (fun hr hq => absurd (by rw [hx20, e2, hq]) hsm), by rw [HA.out]; exact m52_oa, m52_o1.ok, by rw [HL.out]; exact e1, hi20, df28, fun g e => (fb28 g e).imp id (fun e => e.imp (fun e => e.elim) id), o52⟩
set_option maxRecDepth 100000 in
set_option maxHeartbeats 8000000 in
theorem does_4 (S : Nat → Prop) (ba room : Nat) (Q : Qs) (A : Option Addr) (n c : Nat) (L : List Lm) (r2 : Nat) (x : Xm) (w : World) (h : AO S ba room Q w) (hd : DL A n c L w) (hR : Roomy r2 (toR (LT L))) (hn : n ≤ 1000000) (hx : RR w bcl 1 x.A x.n x.c x.b) (hpl : x.pl < 65536) (hds : ∀ g, FD A n L g → ¬ S g) (hxs : ∀ g, InR x.A x.n g → ¬ S g) (hm : x.kd % 6 = 4) : Calls Try.prog 14 #[.pointer (some ⟨ba, 0, none⟩), .agg (cA ⟨A, n, c, (r2 : Int)⟩), .agg (xA x)] w (DPost w S ba room Q A n L r2 x) := by
  obtain ⟨kd, fr, to, bs, A2, n2, c2, at_, pl, by_⟩ := x
  have hxo := hx.ob
  have hdo := hd.ob
  have hsd : ∀ g, S g → ¬ FD A n L g := fun g a b => hds g b a
  simp only at hx hxo hxs hpl hm
  have hsx : ∀ g, S g → ¬ InR A2 n2 g := fun g a b => hxs g b a
  have hi0 : ∀ i, S i → S i ∨ w.heap.size ≤ i := fun i e => .inl e
  clear hx hd
  have tm : Int.tmod (kd : Int) 6 = 4 := (tmod_nat kd 6).trans (by rw [hm]; rfl)
  obtain ⟨z1, z2⟩ := sac_4 (room := room) (L := LT L) (Q := Q) (x := Xm.ax ⟨kd, fr, to, bs, A2, n2, c2, at_, pl, by_⟩) hm
  have z3 := (sac_4 (room := r2) (L := LT L) (Q := Q) (x := Xm.ax ⟨kd, fr, to, bs, A2, n2, c2, at_, pl, by_⟩) hm).2
  clear hm z2
  have HA := Lib.hid z1
  have HL := Lib.hid z3
  clear z1 z3
  go_enter Try.func14, Try.ntmps14
  go_wp2_with (first | ((with_reducible refine st_box 28 _ (cA ⟨A, n, c, (r2 : Int)⟩) ?_ ?_); exact rfl))
  refine ⟨fun V1 g1 n1 f1 => ?_⟩
  have nn1_oa := h.fresh (Nat.le_of_eq f1.at_)
  have nn1_od := hdo.fresh (Nat.le_of_eq f1.at_)
  have nn1_ox := hxo.fresh (Nat.le_of_eq f1.at_)
  have up1 : w.heap.size ≤ g1 := Nat.le_of_eq f1.at_
  have bl1 := f1.bel
  clear f1
  have r2_oa := h.on bl1
  have r2_od := hdo.on bl1
  have r2_ox := hxo.on bl1
  have l4 := Out.tr (Out.refl _ S) bl1
  clear h hdo hxo
  clear bl1
  go_wp2_with (first | ((with_reducible refine st_box 33 _ (xA ⟨kd, fr, to, bs, A2, n2, c2, at_, pl, by_⟩) ?_ ?_); exact rfl))
  refine ⟨fun V5 g5 n5 f5 => ?_⟩
  have ne5_m := f5.ne n1
  have nn5_oa := r2_oa.fresh (Nat.le_of_eq f5.at_)
  have nn5_od := r2_od.fresh (Nat.le_of_eq f5.at_)
  have nn5_ox := r2_ox.fresh (Nat.le_of_eq f5.at_)
  have up5 : w.heap.size ≤ g5 := f5.upO l4
  have bl5 := f5.bel
  clear f5
  have r6_oa := r2_oa.on bl5
  have r6_od := r2_od.on bl5
  have r6_ox := r2_ox.on bl5
  have r8_m := le_on n1 bl5
  have l8 := Out.tr l4 bl5
  clear n1 l4
  clear r2_oa r2_od r2_ox
  clear bl5
  go_wp2_with (first | ((with_reducible refine st_alloc 28 (cA zeroC) ?_ ?_); exact zero_cr))
  refine ⟨fun V9 g9 n9 f9 => ?_⟩
  have ne9_m := f9.ne r8_m
  have ne9_x := f9.ne n5
  have nn9_oa := r6_oa.fresh (Nat.le_of_eq f9.at_)
  have nn9_od := r6_od.fresh (Nat.le_of_eq f9.at_)
  have nn9_ox := r6_ox.fresh (Nat.le_of_eq f9.at_)
  have up9 : w.heap.size ≤ g9 := f9.upO l8
  have bl9 := f9.bel
  clear f9
  have r10_oa := r6_oa.on bl9
  have r10_od := r6_od.on bl9
  have r10_ox := r6_ox.on bl9
  have r12_m := le_on r8_m bl9
  have r12_x := le_on n5 bl9
  have l12 := Out.tr l8 bl9
  clear r8_m n5 l8
  clear r6_oa r6_od r6_ox
  clear bl9
  have c13 : V9.cell? ⟨g5, 0, none⟩ = some (.int .u8 (kd : Int)) := CB.cell r12_x 0
  have c14 : V9.cell? ⟨g5, 1, none⟩ = some (.int .u8 (fr : Int)) := CB.cell r12_x 1
  have c15 : V9.cell? ⟨g5, 2, none⟩ = some (.int .u8 (to : Int)) := CB.cell r12_x 2
  have c16 : V9.cell? ⟨g5, 3, none⟩ = some (.slice A2 n2 c2) := CB.cell r12_x 3
  have c17 : V9.cell? ⟨g5, 4, none⟩ = some (.int .i64 at_) := CB.cell r12_x 4
  have c18 : V9.cell? ⟨g5, 5, none⟩ = some (.int .u16 (pl : Int)) := CB.cell r12_x 5
  have c19 : V9.cell? ⟨g5, 6, none⟩ = some (.int .u8 ((by_).toNat : Int)) := CB.cell r12_x 6
  have lt20_m := CB.lt r12_m
  have lt20_x := CB.lt r12_x
  have lt20_r := CB.lt n9
  have la20 := r10_oa.lt
  have lo20 := (l12).size
  go_wp2_with (first | ((with_reducible refine st_load 28 _ g1 ?_ r12_m Try.underlying28 ?_ ?_ ?_); exact rfl; exact rfl; exact Try.zCr))
  (with_reducible refine (ragain_c A n c L r2 to at_ _ r10_od.ok hR hn).mono ?_)
  rintro e w21 ⟨A1, n1, c1, L1, rfl, d1, e1, f1, b21⟩
  clear c13 c14 c15 c16 c17 c18 c19
  have r22_oa := r10_oa.on b21
  have r22_od := r10_od.on b21
  have r22_ox := r10_ox.on b21
  have r24_m := le_on r12_m b21
  have r24_x := le_on r12_x b21
  have r24_r := le_on n9 b21
  have l24 := Out.tr l12 b21
  clear r12_m r12_x n9 l12
  clear r10_oa r10_od r10_ox
  clear b21
  have nf20_m : ¬ (FD A1 n1 L1) g1 := fun e => by
    rcases f1 _ e with e | e | e
    · exact nn1_od e
    · exact False.elim e
    · omega
  have nf20_x : ¬ (FD A1 n1 L1) g5 := fun e => by
    rcases f1 _ e with e | e | e
    · exact nn5_od e
    · exact False.elim e
    · omega
  have nf20_r : ¬ (FD A1 n1 L1) g9 := fun e => by
    rcases f1 _ e with e | e | e
    · exact nn9_od e
    · exact False.elim e
    · omega
  have df20 : ∀ j, (FD A1 n1 L1) j → ¬ S j := fun j hj hs => by
    rcases f1 _ hj with e | e | e
    · exact hds j e hs
    · exact False.elim e
    · have := la20 j hs; omega
  have dg20 : ∀ j, S j → ¬ (FD A1 n1 L1) j := fun j a b => df20 j b a
  have od20 := d1.ob
  clear d1
  have fb20 : ∀ g, (FD A1 n1 L1) g → (FD A n L) g ∨ False ∨ w.heap.size ≤ g := fun g e => (f1 g e).imp id (fun e => e.imp id (fun e => Nat.le_trans lo20 e))
  clear f1
  clear la20 lo20 lt20_m lt20_x lt20_r
  go_wp2_with (first | ((with_reducible refine st_alloc 28 (cA zeroC) ?_ ?_); exact zero_cr))
  refine ⟨fun V25 g25 n25 f25 => ?_⟩
  have ne25_m := f25.ne r24_m
  have ne25_x := f25.ne r24_x
  have ne25_r := f25.ne r24_r
  have nn25_oa := r22_oa.fresh (Nat.le_of_eq f25.at_)
  have nn25_od := r22_od.fresh (Nat.le_of_eq f25.at_)
  have nn25_ox := r22_ox.fresh (Nat.le_of_eq f25.at_)
  have nn25_o1 := od20.fresh (Nat.le_of_eq f25.at_)
  have up25 : w.heap.size ≤ g25 := f25.upO l24
  have bl25 := f25.bel
  clear f25
  have r26_oa := r22_oa.on bl25
  have r26_od := r22_od.on bl25
  have r26_ox := r22_ox.on bl25
  have r26_o1 := od20.on bl25
  have r28_m := le_on r24_m bl25
  have r28_x := le_on r24_x bl25
  have r28_r := le_on r24_r bl25
  have l28 := Out.tr l24 bl25
  clear r24_m r24_x r24_r l24
  clear r22_oa r22_od r22_ox od20
  clear bl25
  go_wp2_with (first | ((with_reducible refine st_store 28 _ _ g25 (cA ⟨A1, n1, c1, (r2 : Int)⟩) ?_ ?_ n25 ?_ ?_ ?_ ?_); exact rfl; exact rfl; exact Try.zCr; exact rfl; exact cA_one _))
  refine ⟨fun V29 n29 k29 => ?_⟩
  have m29_m := k29.on r28_m ne25_m
  have m29_x := k29.on r28_x ne25_x
  have m29_r := k29.on r28_r ne25_r
  have m29_oa := r26_oa.wr k29 nn25_oa
  have m29_od := r26_od.wr k29 nn25_od
  have m29_ox := r26_ox.wr k29 nn25_ox
  have m29_o1 := r26_o1.wr k29 nn25_o1
  have o29 := Out.wr l28 k29 up25
  clear k29
  clear n25 r28_m r28_x r28_r r26_oa r26_od r26_ox r26_o1 l28
  obtain ⟨bq, hbq⟩ : ∃ b, (((eAg room Q to at_ : Nat) : Int) == ((eAg r2 (toR (LT L)) to at_ : Nat) : Int)) = b := ⟨_, rfl⟩
  have HB := Lib.hid hbq
  clear hbq
  go_wp2_with fail
  have y30 := Lib.hid (show (fun V : World => CB V g25 28 (cA ⟨A1, n1, c1, (r2 : Int)⟩) ∧ CB V g5 33 (xA ⟨kd, fr, to, bs, A2, n2, c2, at_, pl, by_⟩)) V29.drew from ⟨CB.drew n29, CB.drew m29_x⟩)
  refine wp_region_held_drew (S := (fun V : World => CB V g25 28 (cA ⟨A1, n1, c1, (r2 : Int)⟩) ∧ CB V g5 33 (xA ⟨kd, fr, to, bs, A2, n2, c2, at_, pl, by_⟩))) (by kernel_rfl) y30.out (fun hHeld => ?_)
  obtain ⟨D30, hD30⟩ : ∃ V, V29.drew = V := ⟨_, rfl⟩
  have b30 : Below V29.heap.size V29 D30 := by rw [← hD30]; exact le_dr (Below.refl _ _)
  rw [hD30] at hHeld ⊢
  clear hD30
  have r31_oa := m29_oa.on b30
  have r31_od := m29_od.on b30
  have r31_ox := m29_ox.on b30
  have r31_o1 := m29_o1.on b30
  have r33_m := le_on m29_m b30
  have r33_x := le_on m29_x b30
  have r33_r := le_on m29_r b30
  have r33_b := le_on n29 b30
  have l33 := Out.tr o29 b30
  clear m29_m m29_x m29_r n29 o29
  clear m29_oa m29_od m29_ox m29_o1
  clear b30
  refine wpAnyH_takeL (i := 0) (d := some 64) (v := .agg (cA ⟨A1, n1, c1, (r2 : Int)⟩)) rfl rfl (by kernel_rfl) (by kernel_rfl) (by kernel_rfl) (fun _ _ _ h => h) (Or.inl ⟨by rfl, ?_⟩) hHeld ?_
  · intro w hSw; exact yl_whole 28 _ g25 rfl hSw.1 Try.underlying28 rfl Try.zCr
  try simp only [Act.put, List.setIfInBounds_toArray, List.set_cons_zero, List.set_cons_succ]
  refine wpAnyH_takeL (i := 1) (d := some 65) (v := .pointer (some ⟨ba, 0, none⟩)) rfl rfl (by kernel_rfl) (by kernel_rfl) (by kernel_rfl) (fun _ _ _ h => h) (Or.inl ⟨by rfl, ?_⟩) hHeld ?_
  · intro w hSw; (try dsimp only at hSw); go_simp
  try simp only [Act.put, List.setIfInBounds_toArray, List.set_cons_zero, List.set_cons_succ]
  refine wpAnyH_takeL (i := 2) (d := some 66) (v := .pointer (some ⟨g5, 2, none⟩)) rfl rfl (by kernel_rfl) (by kernel_rfl) (by kernel_rfl) (fun _ _ _ h => h) (Or.inl ⟨by rfl, ?_⟩) hHeld ?_
  · intro w hSw; (try dsimp only at hSw); go_simp
  try simp only [Act.put, List.setIfInBounds_toArray, List.set_cons_zero, List.set_cons_succ]
  refine wpAnyH_takeL (i := 3) (d := some 67) (v := .int .u8 (to : Int)) rfl rfl (by kernel_rfl) (by kernel_rfl) (by kernel_rfl) (fun _ _ _ h => h) (Or.inl ⟨by rfl, ?_⟩) hHeld ?_
  · intro w hSw; (try dsimp only at hSw); have hcc : w.cell? ⟨g5, 2, none⟩ = some (.int .u8 (to : Int)) := CB.cell hSw.2 2; go_simp
  try simp only [Act.put, List.setIfInBounds_toArray, List.set_cons_zero, List.set_cons_succ]
  refine wpAnyH_takeL (i := 4) (d := some 68) (v := .pointer (some ⟨g5, 4, none⟩)) rfl rfl (by kernel_rfl) (by kernel_rfl) (by kernel_rfl) (fun _ _ _ h => h) (Or.inl ⟨by rfl, ?_⟩) hHeld ?_
  · intro w hSw; (try dsimp only at hSw); go_simp
  try simp only [Act.put, List.setIfInBounds_toArray, List.set_cons_zero, List.set_cons_succ]
  refine wpAnyH_takeL (i := 5) (d := some 69) (v := .int .i64 at_) rfl rfl (by kernel_rfl) (by kernel_rfl) (by kernel_rfl) (fun _ _ _ h => h) (Or.inl ⟨by rfl, ?_⟩) hHeld ?_
  · intro w hSw; (try dsimp only at hSw); have hcc : w.cell? ⟨g5, 4, none⟩ = some (.int .i64 at_) := CB.cell hSw.2 4; go_simp
  try simp only [Act.put, List.setIfInBounds_toArray, List.set_cons_zero, List.set_cons_succ]
  refine wpAnyH_takeL (i := 7) (d := some 71) (v := .int .i64 ((eAg r2 (toR (LT L)) to at_ : Nat) : Int)) rfl rfl (by kernel_rfl) (by kernel_rfl) (by kernel_rfl) (fun _ _ _ h => h) (Or.inl ⟨by rfl, ?_⟩) hHeld ?_
  · intro w hSw; (try dsimp only at hSw); go_simp
  try simp only [Act.put, List.setIfInBounds_toArray, List.set_cons_zero, List.set_cons_succ]
  refine wpAnyH_ready (rs := [6]) (by kernel_rfl) (by simp) ?_
  refine AllReadyH.cons rfl (fun K hK => ?_) AllReadyH.nil
  go_simp
  (with_reducible refine (again_c S ba room Q to at_ _ r31_oa).mono ?_)
  rintro e w34 ⟨rfl, S34, ao34, ou34, nw34⟩
  have q34_m := ou34.box r33_m nn1_oa
  have no34_m : ¬ S34 g1 := fun e => (nw34 _ e).elim nn1_oa (fun e => by have := CB.lt r33_m; omega)
  have q34_x := ou34.box r33_x nn5_oa
  have no34_x : ¬ S34 g5 := fun e => (nw34 _ e).elim nn5_oa (fun e => by have := CB.lt r33_x; omega)
  have q34_r := ou34.box r33_r nn9_oa
  have no34_r : ¬ S34 g9 := fun e => (nw34 _ e).elim nn9_oa (fun e => by have := CB.lt r33_r; omega)
  have q34_b := ou34.box r33_b nn25_oa
  have no34_b : ¬ S34 g25 := fun e => (nw34 _ e).elim nn25_oa (fun e => by have := CB.lt r33_b; omega)
  have q34_od := r31_od.out ou34 hds
  have ds34_od := Ob.far r31_od hds nw34
  have dt34_od : ∀ i, S34 i → ¬ (FD A n L) i := fun i a b => ds34_od i b a
  have q34_ox := r31_ox.out ou34 hxs
  have ds34_ox := Ob.far r31_ox hxs nw34
  have dt34_ox : ∀ i, S34 i → ¬ (InR A2 n2) i := fun i a b => ds34_ox i b a
  have q34_o1 := r31_o1.out ou34 df20
  have ds34_o1 := Ob.far r31_o1 df20 nw34
  have dt34_o1 : ∀ i, S34 i → ¬ (FD A1 n1 L1) i := fun i a b => ds34_o1 i b a
  have hi34 : ∀ i, S34 i → S i ∨ w.heap.size ≤ i := fun i e => (nw34 i e).elim (hi0 i) (fun e => .inr (Nat.le_trans (l33).size e))
  have l34 := Out.trans l33 ou34 (fun _ _ h => h)
  clear ou34 nw34 r31_oa r33_m nn1_oa r33_x nn5_oa r33_r nn9_oa r33_b nn25_oa r31_od hds hsd r31_ox hxs hsx r31_o1 df20 dg20 hi0 l33
  go_wp2_with fail
  have y35 := Lib.hid (show (fun V : World => CB V g25 28 (cA ⟨A1, n1, c1, (r2 : Int)⟩) ∧ CB V g5 33 (xA ⟨kd, fr, to, bs, A2, n2, c2, at_, pl, by_⟩)) w34 from ⟨q34_b, q34_x⟩)
  refine hK.out _ _ y35.out (fun hHeld => ?_)
  clear hK K y35
  try simp only [Act.put, List.setIfInBounds_toArray, List.set_cons_zero, List.set_cons_succ]
  refine wpAnyH_takeL (i := 8) (d := some 72) (v := .bool bq) rfl rfl (by kernel_rfl) (by kernel_rfl) (by kernel_rfl) (fun _ _ _ h => h) (Or.inl ⟨by rfl, ?_⟩) hHeld ?_
  · intro w hSw; have hb9 := HB.out; go_simp
  try simp only [Act.put, List.setIfInBounds_toArray, List.set_cons_zero, List.set_cons_succ]
  refine wpAnyH_ready (rs := [9]) (by kernel_rfl) (by simp) ?_
  refine AllReadyH.cons rfl (fun K hK => ?_) AllReadyH.nil
  refine rd_store rfl 28 _ _ rfl none rfl g9 (cA ⟨A1, n1, c1, (r2 : Int)⟩) rfl rfl q34_r Try.zCr rfl (cA_one _) ?_
  refine ⟨fun V36 n36 k36 => ?_⟩
  have m36_m := k36.on q34_m ne9_m
  have m36_x := k36.on q34_x ne9_x
  have m36_b := k36.on q34_b (Ne.symm ne25_r)
  have m36_oa := ao34.wr k36 no34_r
  have m36_od := q34_od.wr k36 nn9_od
  have m36_ox := q34_ox.wr k36 nn9_ox
  have m36_o1 := q34_o1.wr k36 nf20_r
  have o36 := Out.wr l34 k36 up9
  clear k36
  clear q34_r q34_m q34_x q34_b ao34 q34_od q34_ox q34_o1 l34
  have y37 := Lib.hid (show (fun V : World => CB V g25 28 (cA ⟨A1, n1, c1, (r2 : Int)⟩) ∧ CB V g5 33 (xA ⟨kd, fr, to, bs, A2, n2, c2, at_, pl, by_⟩)) V36 from ⟨m36_b, m36_x⟩)
  refine hK.out _ _ y37.out (fun hHeld => ?_)
  clear hK K y37
  try simp only [Act.put, List.setIfInBounds_toArray, List.set_cons_zero, List.set_cons_succ]
  refine wpAnyH_takeL (i := 10) (d := some 7) (v := .bool bq) rfl rfl (by kernel_rfl) (by kernel_rfl) (by kernel_rfl) (fun _ _ _ h => h) (Or.inl ⟨by rfl, ?_⟩) hHeld ?_
  · intro w hSw; (try dsimp only at hSw); go_simp
  try simp only [Act.put, List.setIfInBounds_toArray, List.set_cons_zero, List.set_cons_succ]
  refine wpAnyH_done (by kernel_rfl) ?_ _
  go_wp2_with fail
  exact bodyPost_ret (v := .tuple #[.agg (cA ⟨A1, n1, c1, (r2 : Int)⟩), .bool bq]) (res_two Try.results14 rfl rfl n36 Try.underlying28 rfl Try.zCr) rfl ⟨A1, n1, c1, L1, bq, _, rfl, (fun hr hq => by rw [← HB.out, hq]; subst hr; simp), by rw [HA.out]; exact m36_oa, m36_o1.ok, by rw [HL.out]; exact e1, hi34, ds34_o1, fun g e => (fb20 g e).imp id (fun e => e.imp (fun e => e.elim) id), o36⟩
set_option maxRecDepth 100000 in
set_option maxHeartbeats 8000000 in
theorem does_5 (S : Nat → Prop) (ba room : Nat) (Q : Qs) (A : Option Addr) (n c : Nat) (L : List Lm) (r2 : Nat) (x : Xm) (w : World) (h : AO S ba room Q w) (hd : DL A n c L w) (hR : Roomy r2 (toR (LT L))) (hn : n ≤ 1000000) (hx : RR w bcl 1 x.A x.n x.c x.b) (hpl : x.pl < 65536) (hds : ∀ g, FD A n L g → ¬ S g) (hxs : ∀ g, InR x.A x.n g → ¬ S g) (hm : x.kd % 6 = 5) : Calls Try.prog 14 #[.pointer (some ⟨ba, 0, none⟩), .agg (cA ⟨A, n, c, (r2 : Int)⟩), .agg (xA x)] w (DPost w S ba room Q A n L r2 x) := by
  obtain ⟨kd, fr, to, bs, A2, n2, c2, at_, pl, by_⟩ := x
  have hxo := hx.ob
  have hdo := hd.ob
  have hsd : ∀ g, S g → ¬ FD A n L g := fun g a b => hds g b a
  simp only at hx hxo hxs hpl hm
  have hsx : ∀ g, S g → ¬ InR A2 n2 g := fun g a b => hxs g b a
  have hi0 : ∀ i, S i → S i ∨ w.heap.size ≤ i := fun i e => .inl e
  clear hx hd
  have tm : Int.tmod (kd : Int) 6 = 5 := (tmod_nat kd 6).trans (by rw [hm]; rfl)
  obtain ⟨z1, z2⟩ := sac_5 (room := room) (L := LT L) (Q := Q) (x := Xm.ax ⟨kd, fr, to, bs, A2, n2, c2, at_, pl, by_⟩) hm
  have z3 := (sac_5 (room := r2) (L := LT L) (Q := Q) (x := Xm.ax ⟨kd, fr, to, bs, A2, n2, c2, at_, pl, by_⟩) hm).2
  clear hm z2
  have HA := Lib.hid z1
  have HL := Lib.hid z3
  clear z1 z3
  go_enter Try.func14, Try.ntmps14
  go_wp2_with (first | ((with_reducible refine st_box 28 _ (cA ⟨A, n, c, (r2 : Int)⟩) ?_ ?_); exact rfl))
  refine ⟨fun V1 g1 n1 f1 => ?_⟩
  have nn1_oa := h.fresh (Nat.le_of_eq f1.at_)
  have nn1_od := hdo.fresh (Nat.le_of_eq f1.at_)
  have nn1_ox := hxo.fresh (Nat.le_of_eq f1.at_)
  have up1 : w.heap.size ≤ g1 := Nat.le_of_eq f1.at_
  have bl1 := f1.bel
  clear f1
  have r2_oa := h.on bl1
  have r2_od := hdo.on bl1
  have r2_ox := hxo.on bl1
  have l4 := Out.tr (Out.refl _ S) bl1
  clear h hdo hxo
  clear bl1
  go_wp2_with (first | ((with_reducible refine st_box 33 _ (xA ⟨kd, fr, to, bs, A2, n2, c2, at_, pl, by_⟩) ?_ ?_); exact rfl))
  refine ⟨fun V5 g5 n5 f5 => ?_⟩
  have ne5_m := f5.ne n1
  have nn5_oa := r2_oa.fresh (Nat.le_of_eq f5.at_)
  have nn5_od := r2_od.fresh (Nat.le_of_eq f5.at_)
  have nn5_ox := r2_ox.fresh (Nat.le_of_eq f5.at_)
  have up5 : w.heap.size ≤ g5 := f5.upO l4
  have bl5 := f5.bel
  clear f5
  have r6_oa := r2_oa.on bl5
  have r6_od := r2_od.on bl5
  have r6_ox := r2_ox.on bl5
  have r8_m := le_on n1 bl5
  have l8 := Out.tr l4 bl5
  clear n1 l4
  clear r2_oa r2_od r2_ox
  clear bl5
  go_wp2_with (first | ((with_reducible refine st_alloc 28 (cA zeroC) ?_ ?_); exact zero_cr))
  refine ⟨fun V9 g9 n9 f9 => ?_⟩
  have ne9_m := f9.ne r8_m
  have ne9_x := f9.ne n5
  have nn9_oa := r6_oa.fresh (Nat.le_of_eq f9.at_)
  have nn9_od := r6_od.fresh (Nat.le_of_eq f9.at_)
  have nn9_ox := r6_ox.fresh (Nat.le_of_eq f9.at_)
  have up9 : w.heap.size ≤ g9 := f9.upO l8
  have bl9 := f9.bel
  clear f9
  have r10_oa := r6_oa.on bl9
  have r10_od := r6_od.on bl9
  have r10_ox := r6_ox.on bl9
  have r12_m := le_on r8_m bl9
  have r12_x := le_on n5 bl9
  have l12 := Out.tr l8 bl9
  clear r8_m n5 l8
  clear r6_oa r6_od r6_ox
  clear bl9
  have c13 : V9.cell? ⟨g5, 0, none⟩ = some (.int .u8 (kd : Int)) := CB.cell r12_x 0
  have c14 : V9.cell? ⟨g5, 1, none⟩ = some (.int .u8 (fr : Int)) := CB.cell r12_x 1
  have c15 : V9.cell? ⟨g5, 2, none⟩ = some (.int .u8 (to : Int)) := CB.cell r12_x 2
  have c16 : V9.cell? ⟨g5, 3, none⟩ = some (.slice A2 n2 c2) := CB.cell r12_x 3
  have c17 : V9.cell? ⟨g5, 4, none⟩ = some (.int .i64 at_) := CB.cell r12_x 4
  have c18 : V9.cell? ⟨g5, 5, none⟩ = some (.int .u16 (pl : Int)) := CB.cell r12_x 5
  have c19 : V9.cell? ⟨g5, 6, none⟩ = some (.int .u8 ((by_).toNat : Int)) := CB.cell r12_x 6
  have lt20_m := CB.lt r12_m
  have lt20_x := CB.lt r12_x
  have lt20_r := CB.lt n9
  have la20 := r10_oa.lt
  have lo20 := (l12).size
  go_wp2_with (first | ((with_reducible refine st_load 28 _ g1 ?_ r12_m Try.underlying28 ?_ ?_ ?_); exact rfl; exact rfl; exact Try.zCr))
  (with_reducible refine (rturn_c A n c L r2 to at_ pl by_ hpl _ r10_od.ok hR hn).mono ?_)
  rintro e w21 ⟨A1, n1, c1, L1, rfl, d1, e1, f1, b21⟩
  clear c13 c14 c15 c16 c17 c18 c19
  have r22_oa := r10_oa.on b21
  have r22_od := r10_od.on b21
  have r22_ox := r10_ox.on b21
  have r24_m := le_on r12_m b21
  have r24_x := le_on r12_x b21
  have r24_r := le_on n9 b21
  have l24 := Out.tr l12 b21
  clear r12_m r12_x n9 l12
  clear r10_oa r10_od r10_ox
  clear b21
  have nf20_m : ¬ (FD A1 n1 L1) g1 := fun e => by
    rcases f1 _ e with e | e | e
    · exact nn1_od e
    · exact False.elim e
    · omega
  have nf20_x : ¬ (FD A1 n1 L1) g5 := fun e => by
    rcases f1 _ e with e | e | e
    · exact nn5_od e
    · exact False.elim e
    · omega
  have nf20_r : ¬ (FD A1 n1 L1) g9 := fun e => by
    rcases f1 _ e with e | e | e
    · exact nn9_od e
    · exact False.elim e
    · omega
  have df20 : ∀ j, (FD A1 n1 L1) j → ¬ S j := fun j hj hs => by
    rcases f1 _ hj with e | e | e
    · exact hds j e hs
    · exact False.elim e
    · have := la20 j hs; omega
  have dg20 : ∀ j, S j → ¬ (FD A1 n1 L1) j := fun j a b => df20 j b a
  have od20 := d1.ob
  clear d1
  have fb20 : ∀ g, (FD A1 n1 L1) g → (FD A n L) g ∨ False ∨ w.heap.size ≤ g := fun g e => (f1 g e).imp id (fun e => e.imp id (fun e => Nat.le_trans lo20 e))
  clear f1
  clear la20 lo20 lt20_m lt20_x lt20_r
  go_wp2_with (first | ((with_reducible refine st_alloc 28 (cA zeroC) ?_ ?_); exact zero_cr))
  refine ⟨fun V25 g25 n25 f25 => ?_⟩
  have ne25_m := f25.ne r24_m
  have ne25_x := f25.ne r24_x
  have ne25_r := f25.ne r24_r
  have nn25_oa := r22_oa.fresh (Nat.le_of_eq f25.at_)
  have nn25_od := r22_od.fresh (Nat.le_of_eq f25.at_)
  have nn25_ox := r22_ox.fresh (Nat.le_of_eq f25.at_)
  have nn25_o1 := od20.fresh (Nat.le_of_eq f25.at_)
  have up25 : w.heap.size ≤ g25 := f25.upO l24
  have bl25 := f25.bel
  clear f25
  have r26_oa := r22_oa.on bl25
  have r26_od := r22_od.on bl25
  have r26_ox := r22_ox.on bl25
  have r26_o1 := od20.on bl25
  have r28_m := le_on r24_m bl25
  have r28_x := le_on r24_x bl25
  have r28_r := le_on r24_r bl25
  have l28 := Out.tr l24 bl25
  clear r24_m r24_x r24_r l24
  clear r22_oa r22_od r22_ox od20
  clear bl25
  go_wp2_with (first | ((with_reducible refine st_store 28 _ _ g25 (cA ⟨A1, n1, c1, (r2 : Int)⟩) ?_ ?_ n25 ?_ ?_ ?_ ?_); exact rfl; exact rfl; exact Try.zCr; exact rfl; exact cA_one _))
  refine ⟨fun V29 n29 k29 => ?_⟩
  have m29_m := k29.on r28_m ne25_m
  have m29_x := k29.on r28_x ne25_x
  have m29_r := k29.on r28_r ne25_r
  have m29_oa := r26_oa.wr k29 nn25_oa
  have m29_od := r26_od.wr k29 nn25_od
  have m29_ox := r26_ox.wr k29 nn25_ox
  have m29_o1 := r26_o1.wr k29 nn25_o1
  have o29 := Out.wr l28 k29 up25
  clear k29
  clear n25 r28_m r28_x r28_r r26_oa r26_od r26_ox r26_o1 l28
  obtain ⟨bq, hbq⟩ : ∃ b, (((eTn Q to at_ : Nat) : Int) == ((eTn (toR (LT L)) to at_ : Nat) : Int)) = b := ⟨_, rfl⟩
  have HB := Lib.hid hbq
  clear hbq
  go_wp2_with fail
  have y30 := Lib.hid (show (fun V : World => CB V g25 28 (cA ⟨A1, n1, c1, (r2 : Int)⟩) ∧ CB V g5 33 (xA ⟨kd, fr, to, bs, A2, n2, c2, at_, pl, by_⟩)) V29.drew from ⟨CB.drew n29, CB.drew m29_x⟩)
  refine wp_region_held_drew (S := (fun V : World => CB V g25 28 (cA ⟨A1, n1, c1, (r2 : Int)⟩) ∧ CB V g5 33 (xA ⟨kd, fr, to, bs, A2, n2, c2, at_, pl, by_⟩))) (by kernel_rfl) y30.out (fun hHeld => ?_)
  obtain ⟨D30, hD30⟩ : ∃ V, V29.drew = V := ⟨_, rfl⟩
  have b30 : Below V29.heap.size V29 D30 := by rw [← hD30]; exact le_dr (Below.refl _ _)
  rw [hD30] at hHeld ⊢
  clear hD30
  have r31_oa := m29_oa.on b30
  have r31_od := m29_od.on b30
  have r31_ox := m29_ox.on b30
  have r31_o1 := m29_o1.on b30
  have r33_m := le_on m29_m b30
  have r33_x := le_on m29_x b30
  have r33_r := le_on m29_r b30
  have r33_b := le_on n29 b30
  have l33 := Out.tr o29 b30
  clear m29_m m29_x m29_r n29 o29
  clear m29_oa m29_od m29_ox m29_o1
  clear b30
  refine wpAnyH_takeL (i := 0) (d := some 88) (v := .agg (cA ⟨A1, n1, c1, (r2 : Int)⟩)) rfl rfl (by kernel_rfl) (by kernel_rfl) (by kernel_rfl) (fun _ _ _ h => h) (Or.inl ⟨by rfl, ?_⟩) hHeld ?_
  · intro w hSw; exact yl_whole 28 _ g25 rfl hSw.1 Try.underlying28 rfl Try.zCr
  try simp only [Act.put, List.setIfInBounds_toArray, List.set_cons_zero, List.set_cons_succ]
  refine wpAnyH_takeL (i := 1) (d := some 89) (v := .pointer (some ⟨ba, 0, none⟩)) rfl rfl (by kernel_rfl) (by kernel_rfl) (by kernel_rfl) (fun _ _ _ h => h) (Or.inl ⟨by rfl, ?_⟩) hHeld ?_
  · intro w hSw; (try dsimp only at hSw); go_simp
  try simp only [Act.put, List.setIfInBounds_toArray, List.set_cons_zero, List.set_cons_succ]
  refine wpAnyH_takeL (i := 2) (d := some 90) (v := .pointer (some ⟨g5, 2, none⟩)) rfl rfl (by kernel_rfl) (by kernel_rfl) (by kernel_rfl) (fun _ _ _ h => h) (Or.inl ⟨by rfl, ?_⟩) hHeld ?_
  · intro w hSw; (try dsimp only at hSw); go_simp
  try simp only [Act.put, List.setIfInBounds_toArray, List.set_cons_zero, List.set_cons_succ]
  refine wpAnyH_takeL (i := 3) (d := some 91) (v := .int .u8 (to : Int)) rfl rfl (by kernel_rfl) (by kernel_rfl) (by kernel_rfl) (fun _ _ _ h => h) (Or.inl ⟨by rfl, ?_⟩) hHeld ?_
  · intro w hSw; (try dsimp only at hSw); have hcc : w.cell? ⟨g5, 2, none⟩ = some (.int .u8 (to : Int)) := CB.cell hSw.2 2; go_simp
  try simp only [Act.put, List.setIfInBounds_toArray, List.set_cons_zero, List.set_cons_succ]
  refine wpAnyH_takeL (i := 4) (d := some 92) (v := .pointer (some ⟨g5, 4, none⟩)) rfl rfl (by kernel_rfl) (by kernel_rfl) (by kernel_rfl) (fun _ _ _ h => h) (Or.inl ⟨by rfl, ?_⟩) hHeld ?_
  · intro w hSw; (try dsimp only at hSw); go_simp
  try simp only [Act.put, List.setIfInBounds_toArray, List.set_cons_zero, List.set_cons_succ]
  refine wpAnyH_takeL (i := 5) (d := some 93) (v := .int .i64 at_) rfl rfl (by kernel_rfl) (by kernel_rfl) (by kernel_rfl) (fun _ _ _ h => h) (Or.inl ⟨by rfl, ?_⟩) hHeld ?_
  · intro w hSw; (try dsimp only at hSw); have hcc : w.cell? ⟨g5, 4, none⟩ = some (.int .i64 at_) := CB.cell hSw.2 4; go_simp
  try simp only [Act.put, List.setIfInBounds_toArray, List.set_cons_zero, List.set_cons_succ]
  refine wpAnyH_takeL (i := 6) (d := some 94) (v := .pointer (some ⟨g5, 5, none⟩)) rfl rfl (by kernel_rfl) (by kernel_rfl) (by kernel_rfl) (fun _ _ _ h => h) (Or.inl ⟨by rfl, ?_⟩) hHeld ?_
  · intro w hSw; (try dsimp only at hSw); go_simp
  try simp only [Act.put, List.setIfInBounds_toArray, List.set_cons_zero, List.set_cons_succ]
  refine wpAnyH_takeL (i := 7) (d := some 95) (v := .int .u16 (pl : Int)) rfl rfl (by kernel_rfl) (by kernel_rfl) (by kernel_rfl) (fun _ _ _ h => h) (Or.inl ⟨by rfl, ?_⟩) hHeld ?_
  · intro w hSw; (try dsimp only at hSw); have hcc : w.cell? ⟨g5, 5, none⟩ = some (.int .u16 (pl : Int)) := CB.cell hSw.2 5; go_simp
  try simp only [Act.put, List.setIfInBounds_toArray, List.set_cons_zero, List.set_cons_succ]
  refine wpAnyH_takeL (i := 8) (d := some 96) (v := .pointer (some ⟨g5, 6, none⟩)) rfl rfl (by kernel_rfl) (by kernel_rfl) (by kernel_rfl) (fun _ _ _ h => h) (Or.inl ⟨by rfl, ?_⟩) hHeld ?_
  · intro w hSw; (try dsimp only at hSw); go_simp
  try simp only [Act.put, List.setIfInBounds_toArray, List.set_cons_zero, List.set_cons_succ]
  refine wpAnyH_takeL (i := 9) (d := some 97) (v := .int .u8 ((by_).toNat : Int)) rfl rfl (by kernel_rfl) (by kernel_rfl) (by kernel_rfl) (fun _ _ _ h => h) (Or.inl ⟨by rfl, ?_⟩) hHeld ?_
  · intro w hSw; (try dsimp only at hSw); have hcc : w.cell? ⟨g5, 6, none⟩ = some (.int .u8 ((by_).toNat : Int)) := CB.cell hSw.2 6; go_simp
  try simp only [Act.put, List.setIfInBounds_toArray, List.set_cons_zero, List.set_cons_succ]
  refine wpAnyH_takeL (i := 11) (d := some 99) (v := .int .i64 ((eTn (toR (LT L)) to at_ : Nat) : Int)) rfl rfl (by kernel_rfl) (by kernel_rfl) (by kernel_rfl) (fun _ _ _ h => h) (Or.inl ⟨by rfl, ?_⟩) hHeld ?_
  · intro w hSw; (try dsimp only at hSw); go_simp
  try simp only [Act.put, List.setIfInBounds_toArray, List.set_cons_zero, List.set_cons_succ]
  refine wpAnyH_ready (rs := [10]) (by kernel_rfl) (by simp) ?_
  refine AllReadyH.cons rfl (fun K hK => ?_) AllReadyH.nil
  go_simp
  (with_reducible refine (turn_c S ba room Q to at_ pl by_ hpl _ r31_oa).mono ?_)
  rintro e w34 ⟨rfl, S34, ao34, ou34, nw34⟩
  have q34_m := ou34.box r33_m nn1_oa
  have no34_m : ¬ S34 g1 := fun e => (nw34 _ e).elim nn1_oa (fun e => by have := CB.lt r33_m; omega)
  have q34_x := ou34.box r33_x nn5_oa
  have no34_x : ¬ S34 g5 := fun e => (nw34 _ e).elim nn5_oa (fun e => by have := CB.lt r33_x; omega)
  have q34_r := ou34.box r33_r nn9_oa
  have no34_r : ¬ S34 g9 := fun e => (nw34 _ e).elim nn9_oa (fun e => by have := CB.lt r33_r; omega)
  have q34_b := ou34.box r33_b nn25_oa
  have no34_b : ¬ S34 g25 := fun e => (nw34 _ e).elim nn25_oa (fun e => by have := CB.lt r33_b; omega)
  have q34_od := r31_od.out ou34 hds
  have ds34_od := Ob.far r31_od hds nw34
  have dt34_od : ∀ i, S34 i → ¬ (FD A n L) i := fun i a b => ds34_od i b a
  have q34_ox := r31_ox.out ou34 hxs
  have ds34_ox := Ob.far r31_ox hxs nw34
  have dt34_ox : ∀ i, S34 i → ¬ (InR A2 n2) i := fun i a b => ds34_ox i b a
  have q34_o1 := r31_o1.out ou34 df20
  have ds34_o1 := Ob.far r31_o1 df20 nw34
  have dt34_o1 : ∀ i, S34 i → ¬ (FD A1 n1 L1) i := fun i a b => ds34_o1 i b a
  have hi34 : ∀ i, S34 i → S i ∨ w.heap.size ≤ i := fun i e => (nw34 i e).elim (hi0 i) (fun e => .inr (Nat.le_trans (l33).size e))
  have l34 := Out.trans l33 ou34 (fun _ _ h => h)
  clear ou34 nw34 r31_oa r33_m nn1_oa r33_x nn5_oa r33_r nn9_oa r33_b nn25_oa r31_od hds hsd r31_ox hxs hsx r31_o1 df20 dg20 hi0 l33
  go_wp2_with fail
  have y35 := Lib.hid (show (fun V : World => CB V g25 28 (cA ⟨A1, n1, c1, (r2 : Int)⟩) ∧ CB V g5 33 (xA ⟨kd, fr, to, bs, A2, n2, c2, at_, pl, by_⟩)) w34 from ⟨q34_b, q34_x⟩)
  refine hK.out _ _ y35.out (fun hHeld => ?_)
  clear hK K y35
  try simp only [Act.put, List.setIfInBounds_toArray, List.set_cons_zero, List.set_cons_succ]
  refine wpAnyH_takeL (i := 12) (d := some 100) (v := .bool bq) rfl rfl (by kernel_rfl) (by kernel_rfl) (by kernel_rfl) (fun _ _ _ h => h) (Or.inl ⟨by rfl, ?_⟩) hHeld ?_
  · intro w hSw; have hb9 := HB.out; go_simp
  try simp only [Act.put, List.setIfInBounds_toArray, List.set_cons_zero, List.set_cons_succ]
  refine wpAnyH_ready (rs := [13]) (by kernel_rfl) (by simp) ?_
  refine AllReadyH.cons rfl (fun K hK => ?_) AllReadyH.nil
  refine rd_store rfl 28 _ _ rfl none rfl g9 (cA ⟨A1, n1, c1, (r2 : Int)⟩) rfl rfl q34_r Try.zCr rfl (cA_one _) ?_
  refine ⟨fun V36 n36 k36 => ?_⟩
  have m36_m := k36.on q34_m ne9_m
  have m36_x := k36.on q34_x ne9_x
  have m36_b := k36.on q34_b (Ne.symm ne25_r)
  have m36_oa := ao34.wr k36 no34_r
  have m36_od := q34_od.wr k36 nn9_od
  have m36_ox := q34_ox.wr k36 nn9_ox
  have m36_o1 := q34_o1.wr k36 nf20_r
  have o36 := Out.wr l34 k36 up9
  clear k36
  clear q34_r q34_m q34_x q34_b ao34 q34_od q34_ox q34_o1 l34
  have y37 := Lib.hid (show (fun V : World => CB V g25 28 (cA ⟨A1, n1, c1, (r2 : Int)⟩) ∧ CB V g5 33 (xA ⟨kd, fr, to, bs, A2, n2, c2, at_, pl, by_⟩)) V36 from ⟨m36_b, m36_x⟩)
  refine hK.out _ _ y37.out (fun hHeld => ?_)
  clear hK K y37
  try simp only [Act.put, List.setIfInBounds_toArray, List.set_cons_zero, List.set_cons_succ]
  refine wpAnyH_takeL (i := 14) (d := some 7) (v := .bool bq) rfl rfl (by kernel_rfl) (by kernel_rfl) (by kernel_rfl) (fun _ _ _ h => h) (Or.inl ⟨by rfl, ?_⟩) hHeld ?_
  · intro w hSw; (try dsimp only at hSw); go_simp
  try simp only [Act.put, List.setIfInBounds_toArray, List.set_cons_zero, List.set_cons_succ]
  refine wpAnyH_done (by kernel_rfl) ?_ _
  go_wp2_with fail
  exact bodyPost_ret (v := .tuple #[.agg (cA ⟨A1, n1, c1, (r2 : Int)⟩), .bool bq]) (res_two Try.results14 rfl rfl n36 Try.underlying28 rfl Try.zCr) rfl ⟨A1, n1, c1, L1, bq, _, rfl, (fun hr hq => by rw [← HB.out, hq]; simp), by rw [HA.out]; exact m36_oa, m36_o1.ok, by rw [HL.out]; exact e1, hi34, ds34_o1, fun g e => (fb20 g e).imp id (fun e => e.imp (fun e => e.elim) id), o36⟩
set_option maxRecDepth 100000 in
set_option maxHeartbeats 8000000 in
theorem does_0 (S : Nat → Prop) (ba room : Nat) (Q : Qs) (A : Option Addr) (n c : Nat) (L : List Lm) (r2 : Nat) (x : Xm) (w : World) (h : AO S ba room Q w) (hd : DL A n c L w) (hR : Roomy r2 (toR (LT L))) (hn : n ≤ 1000000) (hx : RR w bcl 1 x.A x.n x.c x.b) (hpl : x.pl < 65536) (hds : ∀ g, FD A n L g → ¬ S g) (hxs : ∀ g, InR x.A x.n g → ¬ S g) (hm : ¬ x.kd % 6 = 3 ∧ ¬ x.kd % 6 = 4 ∧ ¬ x.kd % 6 = 5) : Calls Try.prog 14 #[.pointer (some ⟨ba, 0, none⟩), .agg (cA ⟨A, n, c, (r2 : Int)⟩), .agg (xA x)] w (DPost w S ba room Q A n L r2 x) := by
  obtain ⟨kd, fr, to, bs, A2, n2, c2, at_, pl, by_⟩ := x
  have hxo := hx.ob
  have hdo := hd.ob
  have hsd : ∀ g, S g → ¬ FD A n L g := fun g a b => hds g b a
  simp only at hx hxo hxs hpl hm
  have hsx : ∀ g, S g → ¬ InR A2 n2 g := fun g a b => hxs g b a
  have hi0 : ∀ i, S i → S i ∨ w.heap.size ≤ i := fun i e => .inl e
  clear hx hd
  obtain ⟨r6, hr6⟩ : ∃ r6, kd % 6 = r6 := ⟨_, rfl⟩
  have tm : Int.tmod (kd : Int) 6 = (r6 : Int) := (tmod_nat kd 6).trans (by rw [hr6])
  have t3 : ((r6 : Int) == 3) = false := by simp; omega
  have t4 : ((r6 : Int) == 4) = false := by simp; omega
  have t5 : ((r6 : Int) == 5) = false := by simp; omega
  have z1 := (sac_0 (room := room) (L := LT L) (Q := Q) (x := Xm.ax ⟨kd, fr, to, bs, A2, n2, c2, at_, pl, by_⟩) hm).1
  have z3 := (sac_0 (room := r2) (L := LT L) (Q := Q) (x := Xm.ax ⟨kd, fr, to, bs, A2, n2, c2, at_, pl, by_⟩) hm).2
  clear hm hr6
  have HA := Lib.hid z1
  have HL := Lib.hid z3
  clear z1 z3
  go_enter Try.func14, Try.ntmps14
  go_wp2_with (first | ((with_reducible refine st_box 28 _ (cA ⟨A, n, c, (r2 : Int)⟩) ?_ ?_); exact rfl))
  refine ⟨fun V1 g1 n1 f1 => ?_⟩
  have nn1_oa := h.fresh (Nat.le_of_eq f1.at_)
  have nn1_od := hdo.fresh (Nat.le_of_eq f1.at_)
  have nn1_ox := hxo.fresh (Nat.le_of_eq f1.at_)
  have up1 : w.heap.size ≤ g1 := Nat.le_of_eq f1.at_
  have bl1 := f1.bel
  clear f1
  have r2_oa := h.on bl1
  have r2_od := hdo.on bl1
  have r2_ox := hxo.on bl1
  have l4 := Out.tr (Out.refl _ S) bl1
  clear h hdo hxo
  clear bl1
  go_wp2_with (first | ((with_reducible refine st_box 33 _ (xA ⟨kd, fr, to, bs, A2, n2, c2, at_, pl, by_⟩) ?_ ?_); exact rfl))
  refine ⟨fun V5 g5 n5 f5 => ?_⟩
  have ne5_m := f5.ne n1
  have nn5_oa := r2_oa.fresh (Nat.le_of_eq f5.at_)
  have nn5_od := r2_od.fresh (Nat.le_of_eq f5.at_)
  have nn5_ox := r2_ox.fresh (Nat.le_of_eq f5.at_)
  have up5 : w.heap.size ≤ g5 := f5.upO l4
  have bl5 := f5.bel
  clear f5
  have r6_oa := r2_oa.on bl5
  have r6_od := r2_od.on bl5
  have r6_ox := r2_ox.on bl5
  have r8_m := le_on n1 bl5
  have l8 := Out.tr l4 bl5
  clear n1 l4
  clear r2_oa r2_od r2_ox
  clear bl5
  go_wp2_with (first | ((with_reducible refine st_alloc 28 (cA zeroC) ?_ ?_); exact zero_cr))
  refine ⟨fun V9 g9 n9 f9 => ?_⟩
  have ne9_m := f9.ne r8_m
  have ne9_x := f9.ne n5
  have nn9_oa := r6_oa.fresh (Nat.le_of_eq f9.at_)
  have nn9_od := r6_od.fresh (Nat.le_of_eq f9.at_)
  have nn9_ox := r6_ox.fresh (Nat.le_of_eq f9.at_)
  have up9 : w.heap.size ≤ g9 := f9.upO l8
  have bl9 := f9.bel
  clear f9
  have r10_oa := r6_oa.on bl9
  have r10_od := r6_od.on bl9
  have r10_ox := r6_ox.on bl9
  have r12_m := le_on r8_m bl9
  have r12_x := le_on n5 bl9
  have l12 := Out.tr l8 bl9
  clear r8_m n5 l8
  clear r6_oa r6_od r6_ox
  clear bl9
  have c13 : V9.cell? ⟨g5, 0, none⟩ = some (.int .u8 (kd : Int)) := CB.cell r12_x 0
  have c14 : V9.cell? ⟨g5, 1, none⟩ = some (.int .u8 (fr : Int)) := CB.cell r12_x 1
  have c15 : V9.cell? ⟨g5, 2, none⟩ = some (.int .u8 (to : Int)) := CB.cell r12_x 2
  have c16 : V9.cell? ⟨g5, 3, none⟩ = some (.slice A2 n2 c2) := CB.cell r12_x 3
  have c17 : V9.cell? ⟨g5, 4, none⟩ = some (.int .i64 at_) := CB.cell r12_x 4
  have c18 : V9.cell? ⟨g5, 5, none⟩ = some (.int .u16 (pl : Int)) := CB.cell r12_x 5
  have c19 : V9.cell? ⟨g5, 6, none⟩ = some (.int .u8 ((by_).toNat : Int)) := CB.cell r12_x 6
  go_wp2_with (first | ((with_reducible refine st_built3 45 _ _ _ (.int .u8 (fr : Int)) (.int .u8 (to : Int)) (.slice A2 n2 c2) (lA ⟨fr, to, bs, A2, n2, c2⟩) ?_ ?_ ?_ ?_ ?_); exact rfl; exact rfl; exact rfl; exact built_r _ _ _ _ _ _) | ((with_reducible refine st_alloc 45 (lA zeroL) ?_ ?_); exact zero_lr))
  refine ⟨fun V20 g20 n20 f20 => ?_⟩
  clear c13 c14 c15 c16 c17 c18 c19
  have ne20_m := f20.ne r12_m
  have ne20_x := f20.ne r12_x
  have ne20_r := f20.ne n9
  have nn20_oa := r10_oa.fresh (Nat.le_of_eq f20.at_)
  have nn20_od := r10_od.fresh (Nat.le_of_eq f20.at_)
  have nn20_ox := r10_ox.fresh (Nat.le_of_eq f20.at_)
  have up20 : w.heap.size ≤ g20 := f20.upO l12
  have bl20 := f20.bel
  clear f20
  have r21_oa := r10_oa.on bl20
  have r21_od := r10_od.on bl20
  have r21_ox := r10_ox.on bl20
  have r23_m := le_on r12_m bl20
  have r23_x := le_on r12_x bl20
  have r23_r := le_on n9 bl20
  have l23 := Out.tr l12 bl20
  clear r12_m r12_x n9 l12
  clear r10_oa r10_od r10_ox
  clear bl20
  go_wp2_with (first | ((with_reducible refine st_store 45 _ _ g20 (lA ⟨fr, to, bs, A2, n2, c2⟩) ?_ ?_ n20 ?_ ?_ ?_ ?_); exact rfl; exact rfl; exact Try.zLr; exact rfl; exact lA_one _))
  refine ⟨fun V24 n24 k24 => ?_⟩
  have m24_m := k24.on r23_m ne20_m
  have m24_x := k24.on r23_x ne20_x
  have m24_r := k24.on r23_r ne20_r
  have m24_oa := r21_oa.wr k24 nn20_oa
  have m24_od := r21_od.wr k24 nn20_od
  have m24_ox := r21_ox.wr k24 nn20_ox
  have o24 := Out.wr l23 k24 up20
  clear k24
  clear n20 r23_m r23_x r23_r r21_oa r21_od r21_ox l23
  have lt25_m := CB.lt m24_m
  have lt25_x := CB.lt m24_x
  have lt25_r := CB.lt m24_r
  have lt25_l := CB.lt n24
  have la25 := m24_oa.lt
  have lo25 := (o24).size
  go_wp2_with (first | ((with_reducible refine st_load 28 _ g1 ?_ m24_m Try.underlying28 ?_ ?_ ?_); exact rfl; exact rfl; exact Try.zCr) | ((with_reducible refine st_load 45 _ g20 ?_ n24 Try.underlying45 ?_ ?_ ?_); exact rfl; exact rfl; exact Try.zLr))
  (with_reducible refine (rsend_c A n c L r2 ⟨fr, to, bs, A2, n2, c2⟩ _ m24_od.ok m24_ox.ok hn).mono ?_)
  rintro e w26 ⟨A1, n1, c1, L1, rfl, d1, e1, f1, b26⟩
  have r27_oa := m24_oa.on b26
  have r27_od := m24_od.on b26
  have r27_ox := m24_ox.on b26
  have r29_m := le_on m24_m b26
  have r29_x := le_on m24_x b26
  have r29_r := le_on m24_r b26
  have r29_l := le_on n24 b26
  have l29 := Out.tr o24 b26
  clear m24_m m24_x m24_r n24 o24
  clear m24_oa m24_od m24_ox
  clear b26
  have nf25_m : ¬ (FD A1 n1 L1) g1 := fun e => by
    rcases f1 _ e with e | e | e
    · exact nn1_od e
    · exact nn1_ox e
    · omega
  have nf25_x : ¬ (FD A1 n1 L1) g5 := fun e => by
    rcases f1 _ e with e | e | e
    · exact nn5_od e
    · exact nn5_ox e
    · omega
  have nf25_r : ¬ (FD A1 n1 L1) g9 := fun e => by
    rcases f1 _ e with e | e | e
    · exact nn9_od e
    · exact nn9_ox e
    · omega
  have nf25_l : ¬ (FD A1 n1 L1) g20 := fun e => by
    rcases f1 _ e with e | e | e
    · exact nn20_od e
    · exact nn20_ox e
    · omega
  have df25 : ∀ j, (FD A1 n1 L1) j → ¬ S j := fun j hj hs => by
    rcases f1 _ hj with e | e | e
    · exact hds j e hs
    · exact hxs j e hs
    · have := la25 j hs; omega
  have dg25 : ∀ j, S j → ¬ (FD A1 n1 L1) j := fun j a b => df25 j b a
  have od25 := d1.ob
  clear d1
  have fb25 : ∀ g, (FD A1 n1 L1) g → (FD A n L) g ∨ (InR A2 n2) g ∨ w.heap.size ≤ g := fun g e => (f1 g e).imp id (fun e => e.imp id (fun e => Nat.le_trans lo25 e))
  clear f1
  clear la25 lo25 lt25_m lt25_x lt25_r lt25_l
  go_wp2_with (first | ((with_reducible refine st_alloc 28 (cA zeroC) ?_ ?_); exact zero_cr))
  refine ⟨fun V30 g30 n30 f30 => ?_⟩
  have ne30_m := f30.ne r29_m
  have ne30_x := f30.ne r29_x
  have ne30_r := f30.ne r29_r
  have ne30_l := f30.ne r29_l
  have nn30_oa := r27_oa.fresh (Nat.le_of_eq f30.at_)
  have nn30_od := r27_od.fresh (Nat.le_of_eq f30.at_)
  have nn30_ox := r27_ox.fresh (Nat.le_of_eq f30.at_)
  have nn30_o1 := od25.fresh (Nat.le_of_eq f30.at_)
  have up30 : w.heap.size ≤ g30 := f30.upO l29
  have bl30 := f30.bel
  clear f30
  have r31_oa := r27_oa.on bl30
  have r31_od := r27_od.on bl30
  have r31_ox := r27_ox.on bl30
  have r31_o1 := od25.on bl30
  have r33_m := le_on r29_m bl30
  have r33_x := le_on r29_x bl30
  have r33_r := le_on r29_r bl30
  have r33_l := le_on r29_l bl30
  have l33 := Out.tr l29 bl30
  clear r29_m r29_x r29_r r29_l l29
  clear r27_oa r27_od r27_ox od25
  clear bl30
  go_wp2_with (first | ((with_reducible refine st_store 28 _ _ g30 (cA ⟨A1, n1, c1, (r2 : Int)⟩) ?_ ?_ n30 ?_ ?_ ?_ ?_); exact rfl; exact rfl; exact Try.zCr; exact rfl; exact cA_one _))
  refine ⟨fun V34 n34 k34 => ?_⟩
  have m34_m := k34.on r33_m ne30_m
  have m34_x := k34.on r33_x ne30_x
  have m34_r := k34.on r33_r ne30_r
  have m34_l := k34.on r33_l ne30_l
  have m34_oa := r31_oa.wr k34 nn30_oa
  have m34_od := r31_od.wr k34 nn30_od
  have m34_ox := r31_ox.wr k34 nn30_ox
  have m34_o1 := r31_o1.wr k34 nn30_o1
  have o34 := Out.wr l33 k34 up30
  clear k34
  clear n30 r33_m r33_x r33_r r33_l r31_oa r31_od r31_ox r31_o1 l33
  obtain ⟨bq, hbq⟩ : ∃ b, (((eSn room Q (Lm.lt ⟨fr, to, bs, A2, n2, c2⟩) : Nat) : Int) == ((eSn r2 (toR (LT L)) (Lm.lt ⟨fr, to, bs, A2, n2, c2⟩) : Nat) : Int)) = b := ⟨_, rfl⟩
  have HB := Lib.hid hbq
  clear hbq
  go_wp2_with fail
  have y35 := Lib.hid (show (fun V : World => CB V g30 28 (cA ⟨A1, n1, c1, (r2 : Int)⟩) ∧ CB V g20 45 (lA ⟨fr, to, bs, A2, n2, c2⟩)) V34.drew from ⟨CB.drew n34, CB.drew m34_l⟩)
  refine wp_region_held_drew (S := (fun V : World => CB V g30 28 (cA ⟨A1, n1, c1, (r2 : Int)⟩) ∧ CB V g20 45 (lA ⟨fr, to, bs, A2, n2, c2⟩))) (by kernel_rfl) y35.out (fun hHeld => ?_)
  obtain ⟨D35, hD35⟩ : ∃ V, V34.drew = V := ⟨_, rfl⟩
  have b35 : Below V34.heap.size V34 D35 := by rw [← hD35]; exact le_dr (Below.refl _ _)
  rw [hD35] at hHeld ⊢
  clear hD35
  have r36_oa := m34_oa.on b35
  have r36_od := m34_od.on b35
  have r36_ox := m34_ox.on b35
  have r36_o1 := m34_o1.on b35
  have r38_m := le_on m34_m b35
  have r38_x := le_on m34_x b35
  have r38_r := le_on m34_r b35
  have r38_l := le_on m34_l b35
  have r38_b := le_on n34 b35
  have l38 := Out.tr o34 b35
  clear m34_m m34_x m34_r m34_l n34 o34
  clear m34_oa m34_od m34_ox m34_o1
  clear b35
  refine wpAnyH_takeL (i := 0) (d := some 114) (v := .agg (cA ⟨A1, n1, c1, (r2 : Int)⟩)) rfl rfl (by kernel_rfl) (by kernel_rfl) (by kernel_rfl) (fun _ _ _ h => h) (Or.inl ⟨by rfl, ?_⟩) hHeld ?_
  · intro w hSw; exact yl_whole 28 _ g30 rfl hSw.1 Try.underlying28 rfl Try.zCr
  try simp only [Act.put, List.setIfInBounds_toArray, List.set_cons_zero, List.set_cons_succ]
  refine wpAnyH_takeL (i := 1) (d := some 115) (v := .pointer (some ⟨ba, 0, none⟩)) rfl rfl (by kernel_rfl) (by kernel_rfl) (by kernel_rfl) (fun _ _ _ h => h) (Or.inl ⟨by rfl, ?_⟩) hHeld ?_
  · intro w hSw; (try dsimp only at hSw); go_simp
  try simp only [Act.put, List.setIfInBounds_toArray, List.set_cons_zero, List.set_cons_succ]
  refine wpAnyH_takeL (i := 2) (d := some 116) (v := .agg (lA ⟨fr, to, bs, A2, n2, c2⟩)) rfl rfl (by kernel_rfl) (by kernel_rfl) (by kernel_rfl) (fun _ _ _ h => h) (Or.inl ⟨by rfl, ?_⟩) hHeld ?_
  · intro w hSw; exact yl_whole 45 _ g20 rfl hSw.2 Try.underlying45 rfl Try.zLr
  try simp only [Act.put, List.setIfInBounds_toArray, List.set_cons_zero, List.set_cons_succ]
  refine wpAnyH_takeL (i := 4) (d := some 118) (v := .int .i64 ((eSn r2 (toR (LT L)) (Lm.lt ⟨fr, to, bs, A2, n2, c2⟩) : Nat) : Int)) rfl rfl (by kernel_rfl) (by kernel_rfl) (by kernel_rfl) (fun _ _ _ h => h) (Or.inl ⟨by rfl, ?_⟩) hHeld ?_
  · intro w hSw; (try dsimp only at hSw); go_simp
  try simp only [Act.put, List.setIfInBounds_toArray, List.set_cons_zero, List.set_cons_succ]
  refine wpAnyH_ready (rs := [3]) (by kernel_rfl) (by simp) ?_
  refine AllReadyH.cons rfl (fun K hK => ?_) AllReadyH.nil
  go_simp
  (with_reducible refine (send_c S ba room Q ⟨fr, to, bs, A2, n2, c2⟩ _ r36_oa r36_ox.ok).mono ?_)
  rintro e w39 ⟨rfl, S39, ao39, ou39, nw39⟩
  have q39_m := ou39.box r38_m nn1_oa
  have no39_m : ¬ S39 g1 := fun e => (nw39 _ e).elim nn1_oa (fun e => by have := CB.lt r38_m; omega)
  have q39_x := ou39.box r38_x nn5_oa
  have no39_x : ¬ S39 g5 := fun e => (nw39 _ e).elim nn5_oa (fun e => by have := CB.lt r38_x; omega)
  have q39_r := ou39.box r38_r nn9_oa
  have no39_r : ¬ S39 g9 := fun e => (nw39 _ e).elim nn9_oa (fun e => by have := CB.lt r38_r; omega)
  have q39_l := ou39.box r38_l nn20_oa
  have no39_l : ¬ S39 g20 := fun e => (nw39 _ e).elim nn20_oa (fun e => by have := CB.lt r38_l; omega)
  have q39_b := ou39.box r38_b nn30_oa
  have no39_b : ¬ S39 g30 := fun e => (nw39 _ e).elim nn30_oa (fun e => by have := CB.lt r38_b; omega)
  have q39_od := r36_od.out ou39 hds
  have ds39_od := Ob.far r36_od hds nw39
  have dt39_od : ∀ i, S39 i → ¬ (FD A n L) i := fun i a b => ds39_od i b a
  have q39_ox := r36_ox.out ou39 hxs
  have ds39_ox := Ob.far r36_ox hxs nw39
  have dt39_ox : ∀ i, S39 i → ¬ (InR A2 n2) i := fun i a b => ds39_ox i b a
  have q39_o1 := r36_o1.out ou39 df25
  have ds39_o1 := Ob.far r36_o1 df25 nw39
  have dt39_o1 : ∀ i, S39 i → ¬ (FD A1 n1 L1) i := fun i a b => ds39_o1 i b a
  have hi39 : ∀ i, S39 i → S i ∨ w.heap.size ≤ i := fun i e => (nw39 i e).elim (hi0 i) (fun e => .inr (Nat.le_trans (l38).size e))
  have l39 := Out.trans l38 ou39 (fun _ _ h => h)
  clear ou39 nw39 r36_oa r38_m nn1_oa r38_x nn5_oa r38_r nn9_oa r38_l nn20_oa r38_b nn30_oa r36_od hds hsd r36_ox hxs hsx r36_o1 df25 dg25 hi0 l38
  go_wp2_with fail
  have y40 := Lib.hid (show (fun V : World => CB V g30 28 (cA ⟨A1, n1, c1, (r2 : Int)⟩) ∧ CB V g20 45 (lA ⟨fr, to, bs, A2, n2, c2⟩)) w39 from ⟨q39_b, q39_l⟩)
  refine hK.out _ _ y40.out (fun hHeld => ?_)
  clear hK K y40
  try simp only [Act.put, List.setIfInBounds_toArray, List.set_cons_zero, List.set_cons_succ]
  refine wpAnyH_takeL (i := 5) (d := some 119) (v := .bool bq) rfl rfl (by kernel_rfl) (by kernel_rfl) (by kernel_rfl) (fun _ _ _ h => h) (Or.inl ⟨by rfl, ?_⟩) hHeld ?_
  · intro w hSw; have hb9 := HB.out; go_simp
  try simp only [Act.put, List.setIfInBounds_toArray, List.set_cons_zero, List.set_cons_succ]
  refine wpAnyH_ready (rs := [6]) (by kernel_rfl) (by simp) ?_
  refine AllReadyH.cons rfl (fun K hK => ?_) AllReadyH.nil
  refine rd_store rfl 28 _ _ rfl none rfl g9 (cA ⟨A1, n1, c1, (r2 : Int)⟩) rfl rfl q39_r Try.zCr rfl (cA_one _) ?_
  refine ⟨fun V41 n41 k41 => ?_⟩
  have m41_m := k41.on q39_m ne9_m
  have m41_x := k41.on q39_x ne9_x
  have m41_l := k41.on q39_l (Ne.symm ne20_r)
  have m41_b := k41.on q39_b (Ne.symm ne30_r)
  have m41_oa := ao39.wr k41 no39_r
  have m41_od := q39_od.wr k41 nn9_od
  have m41_ox := q39_ox.wr k41 nn9_ox
  have m41_o1 := q39_o1.wr k41 nf25_r
  have o41 := Out.wr l39 k41 up9
  clear k41
  clear q39_r q39_m q39_x q39_l q39_b ao39 q39_od q39_ox q39_o1 l39
  have y42 := Lib.hid (show (fun V : World => CB V g30 28 (cA ⟨A1, n1, c1, (r2 : Int)⟩) ∧ CB V g20 45 (lA ⟨fr, to, bs, A2, n2, c2⟩)) V41 from ⟨m41_b, m41_l⟩)
  refine hK.out _ _ y42.out (fun hHeld => ?_)
  clear hK K y42
  try simp only [Act.put, List.setIfInBounds_toArray, List.set_cons_zero, List.set_cons_succ]
  refine wpAnyH_takeL (i := 7) (d := some 7) (v := .bool bq) rfl rfl (by kernel_rfl) (by kernel_rfl) (by kernel_rfl) (fun _ _ _ h => h) (Or.inl ⟨by rfl, ?_⟩) hHeld ?_
  · intro w hSw; (try dsimp only at hSw); go_simp
  try simp only [Act.put, List.setIfInBounds_toArray, List.set_cons_zero, List.set_cons_succ]
  refine wpAnyH_done (by kernel_rfl) ?_ _
  go_wp2_with fail
  exact bodyPost_ret (v := .tuple #[.agg (cA ⟨A1, n1, c1, (r2 : Int)⟩), .bool bq]) (res_two Try.results14 rfl rfl n41 Try.underlying28 rfl Try.zCr) rfl ⟨A1, n1, c1, L1, bq, _, rfl, (fun hr hq => by rw [← HB.out, hq]; subst hr; simp), by rw [HA.out]; exact m41_oa, m41_o1.ok, by rw [HL.out]; exact e1, hi39, ds39_o1, fun g e => (fb25 g e).imp id (fun e => e.imp (fun e => e) id), o41⟩
theorem does_c (S : Nat → Prop) (ba room : Nat) (Q : Qs) (A : Option Addr) (n c : Nat) (L : List Lm) (r2 : Nat) (x : Xm) (w : World) (h : AO S ba room Q w) (hd : DL A n c L w) (hR : Roomy r2 (toR (LT L))) (hn : n ≤ 1000000) (hx : RR w bcl 1 x.A x.n x.c x.b) (hpl : x.pl < 65536) (hds : ∀ g, FD A n L g → ¬ S g) (hxs : ∀ g, InR x.A x.n g → ¬ S g) : Calls Try.prog 14 #[.pointer (some ⟨ba, 0, none⟩), .agg (cA ⟨A, n, c, (r2 : Int)⟩), .agg (xA x)] w (DPost w S ba room Q A n L r2 x) := by
  by_cases h3 : x.kd % 6 = 3
  · exact does_3 S ba room Q A n c L r2 x w h hd hR hn hx hpl hds hxs h3
  · by_cases h4 : x.kd % 6 = 4
    · exact does_4 S ba room Q A n c L r2 x w h hd hR hn hx hpl hds hxs h4
    · by_cases h5 : x.kd % 6 = 5
      · exact does_5 S ba room Q A n c L r2 x w h hd hR hn hx hpl hds hxs h5
      · exact does_0 S ba room Q A n c L r2 x w h hd hR hn hx hpl hds hxs ⟨h3, h4, h5⟩
end Go.Proofs.Ytcfdfimkgehdfaa
