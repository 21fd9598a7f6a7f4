/-
  Layer 18: the calls of an air told by their numbers; alive of the statements. No condition.
-/
import Derived.Test.YtcfdfimkgehdfaaAiN
set_option linter.unusedVariables false
set_option linter.unusedSimpArgs false
namespace Go.Proofs.Ytcfdfimkgehdfaa
open Go.RowKit

/-- Behind Take, told by what is taken. -/
def TPk (w : World) (S : Nat → Prop) (ba room : Nat) (Q : Qs) (l : Lt) (z : Int) (e : Ending) (w' : World) : Prop :=
  ∃ x : Lm, e = .returned (.tuple #[.agg (lA x), .int .i64 z]) ∧ x.lt = l ∧ RS w' 5 bcl 1 x.A x.n x.c x.b ∧ ∃ S', AO S' ba room Q w' ∧ Out w w' S ∧ (∀ i, S' i → S i ∨ w.heap.size ≤ i) ∧ ∀ g, InB x.A g → S g ∧ ¬ S' g
section
variable {S : Nat → Prop} {ba room : Nat} {Q Q' : Qs} {w : World} {z : Int}
theorem send_k (x : Lm) {l : Lt} (h : AO S ba room Q w) (hx : RR w bcl 1 x.A x.n x.c x.b) (hl : x.lt = l) (hQ : sSn room Q l = Q') (hz : ((eSn room Q l : Nat) : Int) = z) : Calls Try.prog 19 #[.pointer (some ⟨ba, 0, none⟩), .agg (lA x)] w (APost w S ba room Q' (.int .i64 z)) := by
  subst hl hQ hz
  exact send_c S ba room Q x w h hx
theorem take_k {t : Nat} {i : Int} {l : Lt} (h : AO S ba room Q w) (hl : xTk Q t i = l) (hQ : sTk Q t i = Q') (hz : ((eAt Q t i : Nat) : Int) = z) : Calls Try.prog 17 #[.pointer (some ⟨ba, 0, none⟩), .int .u8 (t : Int), .int .i64 i] w (TPk w S ba room Q' l z) := by
  subst hl hQ hz
  exact take_c S ba room Q t i w h
theorem again_k {t : Nat} {i : Int} (h : AO S ba room Q w) (hQ : sAg room Q t i = Q') (hz : ((eAg room Q t i : Nat) : Int) = z) : Calls Try.prog 20 #[.pointer (some ⟨ba, 0, none⟩), .int .u8 (t : Int), .int .i64 i] w (APost w S ba room Q' (.int .i64 z)) := by
  subst hQ hz
  exact again_c S ba room Q t i w h
theorem turn_k {t : Nat} {i : Int} {p : Nat} {y : UInt8} (hp : p < 65536) (h : AO S ba room Q w) (hQ : sTn Q t i p y = Q') (hz : ((eTn Q t i : Nat) : Int) = z) : Calls Try.prog 21 #[.pointer (some ⟨ba, 0, none⟩), .int .u8 (t : Int), .int .i64 i, .int .u16 (p : Int), .int .u8 (y.toNat : Int)] w (APost w S ba room Q' (.int .i64 z)) := by
  subst hQ hz
  exact turn_c S ba room Q t i p y hp w h
theorem alen_k {t : Nat} (h : AO S ba room Q w) (hz : ((Q t).length : Int) = z) : Calls Try.prog 15 #[.pointer (some ⟨ba, 0, none⟩), .int .u8 (t : Int)] w fun e w' => e = .returned (.int .i64 z) ∧ w = w' := by
  subst hz
  exact alen_c S ba room Q t w h
end
/-- The literal of one byte. -/
theorem lit_b {V : World} {g : Nat} {b : UInt8} (h : CB V g 5 #[.int .u8 (b.toNat : Int)]) : RR V bcl 1 (some ⟨g, 0, none⟩) 1 1 [b] := by
  refine ⟨rfl, Nat.le_refl _, by decide, fun _ => ⟨g, 0, rfl, fun i v hv => ?_⟩⟩
  rw [Nat.zero_add, h.cell]
  have : rc bcl [b] = [.int .u8 (b.toNat : Int)] := rfl
  rw [this] at hv
  simpa using hv
theorem cv_mark {P : Program} {w : World} (t e : TypeId) (g n c : Nat) {cs : Array Value} (ht : P.underlying t = some (.slice e)) (he : P.underlying e = some (.int .u8)) (h : CB w g e cs) :
    ∃ V, (convert t t (.slice (some ⟨g, 0, none⟩) n c)).run P w = .ok (.slice (some ⟨g, 0, none⟩) n c) V ∧ V.heap[g]? = some (.cells cs e (cs.size, cs.size + 1)) ∧ Wr w V g := by
  have hh : w.heap[g]? = some (.cells cs e (0, 0)) := h
  have hsh : w.shape? g = some (e, cs.size) := by unfold World.shape?; rw [hh]
  have hfar : ∀ b, b ≠ g → (w.freeze ⟨g, cs.size, none⟩ 1).heap[b]? = w.heap[b]? := fun b hb => by
    unfold World.freeze
    rw [if_neg (by decide)]
    simp only [Array.getElem?_modify]
    rw [if_neg (fun e => hb e.symm)]
  refine ⟨w.freeze ⟨g, cs.size, none⟩ 1, ?_, ?_, ⟨h.lt, ?_, hfar, fun B a ha hB => ⟨ha.os, ha.tape, ha.output, ?_, fun i hi => (hfar i (by omega)).trans (ha.block i hi)⟩⟩⟩
  · simp [convert, run_underlying ht, run_underlying he, markStringish, hsh]
  · unfold World.freeze
    rw [if_neg (by decide)]
    simp only [Array.getElem?_modify, if_true]
    rw [hh]
    rfl
  · unfold World.freeze
    rw [if_neg (by decide)]
    simp
  · unfold World.freeze
    rw [if_neg (by decide)]
    simpa using ha.size
theorem st_cvG {P : Program} {ops : Array Oper} {rest : List Oper} {dst : Option Tmp} {ty : TypeId} {pos : String} {aft : Array Edge} {gd : Nat × Bool} {a : Act} {w : World} {Q : Exit → Act → World → Prop} (t : TypeId) (x : Operand) (g n c : Nat) {e : TypeId} {cs : Array Value} (hx : a.eval x = .slice (some ⟨g, 0, none⟩) n c) (ht : P.underlying t = some (.slice e)) (he : P.underlying e = some (.int .u8)) (h : CB w g e cs)
    (hw : Region.wanted ⟨dst, .convert t t x, ty, pos, aft, some gd⟩ (yielded ops a.tmps) = true) (k : Sh (∀ V, V.heap[g]? = some (.cells cs e (cs.size, cs.size + 1)) → Wr w V g → wpList P ops Q rest (a.put dst (.slice (some ⟨g, 0, none⟩) n c)) V)) : wpList P ops Q (⟨dst, .convert t t x, ty, pos, aft, some gd⟩ :: rest) a w := by
  obtain ⟨V, h1, h2, h3⟩ := cv_mark (P := P) t e g n c ht he h
  refine wpList_step fun K hK => ?_
  rw [if_pos hw]
  unfold Oper.wp execOp
  simp only [hx, Sem.run_bind, Sem.run_pure, Result.andThen_ok, h1]
  exact hK _ _ (k.out V h2 h3)
theorem lit_m {V : World} {g : Nat} {b : UInt8} {T : TypeId} {fr : Nat × Nat} (h : V.heap[g]? = some (.cells #[.int .u8 (b.toNat : Int)] T fr)) : RR V bcl 1 (some ⟨g, 0, none⟩) 1 1 [b] := by
  refine ⟨rfl, Nat.le_refl _, by decide, fun _ => ⟨g, 0, rfl, fun i v hv => ?_⟩⟩
  rw [Nat.zero_add, cell_of_row _ _ i _ T fr h]
  have : rc bcl [b] = [.int .u8 (b.toNat : Int)] := rfl
  rw [this] at hv
  simpa using hv
def qa0 : Qs := fun _ => []
def qa1 : Qs := sSn 2 qa0 ⟨1, 3, [97]⟩
def qa2 : Qs := sSn 2 qa1 ⟨2, 3, [98]⟩
def qa3 : Qs := sSn 2 qa2 ⟨0, 3, []⟩
def qa4 : Qs := sTn qa3 3 0 0 3
def qa5 : Qs := sTk qa4 3 1
def qa6 : Qs := sTk qa5 3 0
def qa7 : Qs := sSn 2 qa6 ⟨0, 17, []⟩
theorem ea1 : ((eSn 2 qa0 ⟨1, 3, [97]⟩ : Nat) : Int) = 0 := by decide
theorem ea2 : ((eSn 2 qa1 ⟨2, 3, [98]⟩ : Nat) : Int) = 0 := by decide
theorem ea3 : ((eSn 2 qa2 ⟨0, 3, []⟩ : Nat) : Int) = 6 := by decide
theorem ea4 : ((eTn qa3 3 0 : Nat) : Int) = 0 := by decide
theorem ea5 : ((eAt qa4 3 1 : Nat) : Int) = 0 := by decide
theorem xa5 : xTk qa4 3 1 = ⟨2, 3, [98]⟩ := by decide
theorem ea6 : ((eAt qa5 3 0 : Nat) : Int) = 0 := by decide
theorem xa6 : xTk qa5 3 0 = ⟨1, 3, [98]⟩ := by decide
theorem na6 : ((qa6 3).length : Int) = 0 := by decide
theorem ea7 : ((eSn 2 qa6 ⟨0, 17, []⟩ : Nat) : Int) = 2 := by decide
theorem bytes_98 {x : Lm} {f t : Nat} {V : World} (h : RR V bcl 1 x.A x.n x.c x.b) (hx : x.lt = ⟨f, t, [98]⟩) : (convert 30 9 (.slice x.A x.n x.c)).run Try.prog V = .ok (.string ⟨#[98]⟩) V := by
  have hb : x.b = [98] := congrArg Lt.b hx
  rw [hb] at h
  exact conv_C h
set_option maxRecDepth 100000 in
set_option maxHeartbeats 4000000 in
theorem alive_c (w : World) : Calls Try.prog 11 #[] w fun e w' => e = .returned (.bool true) ∧ Below w.heap.size w w' := by
  go_enter Try.func11, Try.ntmps11
  go_wp2_with fail
  have cn1 := anew_c (2 : Int) w
  (with_reducible refine cn1.mono ?_)
  clear cn1
  intro e w1 hp1
  obtain ⟨ba1, S1, rfl, ao1, h01, bl1⟩ := NPost.yes (r := 2) (by omega) (by omega) hp1
  clear hp1
  have hi1 : ∀ i, S1 i → w.heap.size ≤ i := fun i e => Nat.le_trans (Nat.le_refl _) (h01 i e)
  clear h01
  have l4 := le_tr (Below.refl _ _) bl1
  clear bl1
  go_wp2_with (first | ((with_reducible refine st_litvG 30 5 _ (.int .u8 97) #[.int .u8 97] ?_ rfl Try.underlying30 Try.infoU2 rfl (by decide) (by decide) ?_ ?_); exact rfl; exact rfl))
  refine ⟨fun V5 g5 n5 f5 => ?_⟩
  have nn5_oa := ao1.fresh (Nat.le_of_eq f5.at_)
  have up5 : w.heap.size ≤ g5 := f5.up l4
  have bl5 := f5.bel
  clear f5
  have r6_oa := ao1.on bl5
  have l8 := le_tr l4 bl5
  clear l4
  clear ao1
  clear bl5
  go_wp2_with (first | ((with_reducible refine st_cvG 30 _ g5 1 1 ?_ Try.underlying30 Try.underlying5 n5 ?_ ?_); exact rfl; exact rfl))
  refine ⟨fun V9 h9 k9 => ?_⟩
  have rr9 := lit_m (b := 97) h9
  have m9_oa := r6_oa.wr k9 nn5_oa
  have o9 := k9.bel _ _ l8 up5
  clear h9 k9 n5 l8 r6_oa
  go_wp2_with (first | ((with_reducible refine st_built3G 40 _ _ _ (.int .u8 1) (.int .u8 3) (.slice (some ⟨g5, 0, none⟩) 1 1) (lA ⟨1, 3, [97], some ⟨g5, 0, none⟩, 1, 1⟩) ?_ ?_ ?_ ?_ ?_ ?_); exact rfl; exact rfl; exact rfl; exact built_l _ _ _ _ _ _; exact rfl))
  have cc10 := send_k (Q := qa0) (l := ⟨1, 3, [97]⟩) (Q' := qa1) (z := 0) ⟨1, 3, [97], some ⟨g5, 0, none⟩, 1, 1⟩ m9_oa rr9 rfl rfl ea1
  (with_reducible refine cc10.mono ?_)
  clear cc10
  rintro e w10 ⟨rfl, S10, ao10, ou10, nw10⟩
  have hi10 : ∀ i, S10 i → w.heap.size ≤ i := fun i e => (nw10 i e).elim (hi1 i) (fun e => Nat.le_trans (o9).size e)
  have l10 := below_out o9 ou10 hi1
  clear ou10 nw10 m9_oa hi1 o9
  clear rr9
  go_wp2_with (first | ((with_reducible refine st_litvG 30 5 _ (.int .u8 98) #[.int .u8 98] ?_ rfl Try.underlying30 Try.infoU2 rfl (by decide) (by decide) ?_ ?_); exact rfl; exact rfl))
  refine ⟨fun V11 g11 n11 f11 => ?_⟩
  have nn11_oa := ao10.fresh (Nat.le_of_eq f11.at_)
  have up11 : w.heap.size ≤ g11 := f11.up l10
  have bl11 := f11.bel
  clear f11
  have r12_oa := ao10.on bl11
  have l14 := le_tr l10 bl11
  clear l10
  clear ao10
  clear bl11
  go_wp2_with (first | ((with_reducible refine st_cvG 30 _ g11 1 1 ?_ Try.underlying30 Try.underlying5 n11 ?_ ?_); exact rfl; exact rfl))
  refine ⟨fun V15 h15 k15 => ?_⟩
  have rr15 := lit_m (b := 98) h15
  have m15_oa := r12_oa.wr k15 nn11_oa
  have o15 := k15.bel _ _ l14 up11
  clear h15 k15 n11 l14 r12_oa
  go_wp2_with (first | ((with_reducible refine st_built3G 40 _ _ _ (.int .u8 2) (.int .u8 3) (.slice (some ⟨g11, 0, none⟩) 1 1) (lA ⟨2, 3, [98], some ⟨g11, 0, none⟩, 1, 1⟩) ?_ ?_ ?_ ?_ ?_ ?_); exact rfl; exact rfl; exact rfl; exact built_l _ _ _ _ _ _; exact rfl))
  have cc16 := send_k (l := ⟨2, 3, [98]⟩) (Q' := qa2) (z := 0) ⟨2, 3, [98], some ⟨g11, 0, none⟩, 1, 1⟩ m15_oa rr15 rfl rfl ea2
  (with_reducible refine cc16.mono ?_)
  clear cc16
  rintro e w16 ⟨rfl, S16, ao16, ou16, nw16⟩
  have hi16 : ∀ i, S16 i → w.heap.size ≤ i := fun i e => (nw16 i e).elim (hi10 i) (fun e => Nat.le_trans (o15).size e)
  have l16 := below_out o15 ou16 hi10
  clear ou16 nw16 m15_oa hi10 o15
  clear rr15
  go_wp2_with (first | ((with_reducible refine st_builtnG 40 1 _ (.int .u8 3) (lA ⟨0, 3, [], none, 0, 0⟩) ?_ ?_ ?_ ?_); exact rfl; exact built_l1 3; exact rfl))
  have cc17 := send_k (l := ⟨0, 3, []⟩) (Q' := qa3) (z := 6) ⟨0, 3, [], none, 0, 0⟩ ao16 (RR.nil _ _ _) rfl rfl ea3
  (with_reducible refine cc17.mono ?_)
  clear cc17
  rintro e w17 ⟨rfl, S17, ao17, ou17, nw17⟩
  have hi17 : ∀ i, S17 i → w.heap.size ≤ i := fun i e => (nw17 i e).elim (hi16 i) (fun e => Nat.le_trans (l16).size e)
  have l17 := below_out l16 ou17 hi16
  clear ou17 nw17 ao16 hi16 l16
  go_wp2_with fail
  have cc18 := (show Calls Try.prog 21 #[.pointer (some ⟨ba1, 0, none⟩), .int .u8 3, .int .i64 0, .int .u16 0, .int .u8 3] _ _ from turn_k (t := 3) (i := 0) (p := 0) (y := 3) (Q' := qa4) (z := 0) (by decide) ao17 rfl ea4)
  (with_reducible refine cc18.mono ?_)
  clear cc18
  rintro e w18 ⟨rfl, S18, ao18, ou18, nw18⟩
  have hi18 : ∀ i, S18 i → w.heap.size ≤ i := fun i e => (nw18 i e).elim (hi17 i) (fun e => Nat.le_trans (l17).size e)
  have l18 := below_out l17 ou18 hi17
  clear ou18 nw18 ao17 hi17 l17
  go_wp2_with fail
  have cc19 := (show Calls Try.prog 17 #[.pointer (some ⟨ba1, 0, none⟩), .int .u8 3, .int .i64 1] _ _ from take_k (t := 3) (i := 1) (Q' := qa5) (z := 0) ao18 xa5 rfl ea5)
  (with_reducible refine cc19.mono ?_)
  clear cc19
  rintro e w19 ⟨x19, rfl, hx19, rs19, S19, ao19, ou19, nw19, xo19⟩
  have hi19 : ∀ i, S19 i → w.heap.size ≤ i := fun i e => (nw19 i e).elim (hi18 i) (fun e => Nat.le_trans (l18).size e)
  have l19 := below_out l18 ou19 hi18
  have rb19 := rs19.ob
  have xa19 : ∀ i, InB x19.A i → ¬ S19 i := fun i a => (xo19 i a).2
  have xb19 : ∀ i, S19 i → ¬ InB x19.A i := fun i a b => xa19 i b a
  have hx19_ : ∀ i, InB x19.A i → w.heap.size ≤ i := fun i e => hi18 i (xo19 i e).1
  clear ou19 nw19 rs19 xo19 ao18 hi18 l18
  go_wp2_with (first | ((with_reducible refine st_alloc 40 (lA zeroL) ?_ ?_); exact zero_lc))
  refine ⟨fun V20 g20 n20 f20 => ?_⟩
  have nn20_oa := ao19.fresh (Nat.le_of_eq f20.at_)
  have nn20_t1 := rb19.fresh (Nat.le_of_eq f20.at_)
  have up20 : w.heap.size ≤ g20 := f20.up l19
  have bl20 := f20.bel
  clear f20
  have r21_oa := ao19.on bl20
  have r21_t1 := rb19.on bl20
  have l23 := le_tr l19 bl20
  clear l19
  clear ao19 rb19
  clear bl20
  go_wp2_with (first | ((with_reducible refine st_store 40 _ _ g20 (lA x19) ?_ ?_ n20 ?_ ?_ ?_ ?_); exact rfl; exact rfl; exact Try.zLc; exact rfl; exact lA_one _))
  refine ⟨fun V24 n24 k24 => ?_⟩
  have m24_oa := r21_oa.wr k24 nn20_oa
  have m24_t1 := r21_t1.wr k24 nn20_t1
  have o24 := k24.bel _ _ l23 up20
  clear k24
  clear n20 r21_oa r21_t1 l23
  go_wp2_with fail
  have cc25 := (show Calls Try.prog 17 #[.pointer (some ⟨ba1, 0, none⟩), .int .u8 3, .int .i64 0] _ _ from take_k (t := 3) (i := 0) (Q' := qa6) (z := 0) m24_oa xa6 rfl ea6)
  (with_reducible refine cc25.mono ?_)
  clear cc25
  rintro e w25 ⟨x25, rfl, hx25, rs25, S25, ao25, ou25, nw25, xo25⟩
  have q25_x := ou25.box n24 nn20_oa
  have no25_x : ¬ S25 g20 := fun e => (nw25 _ e).elim nn20_oa (fun e => by have := CB.lt n24; omega)
  have nx25_x : ¬ InB x25.A g20 := fun e => nn20_oa (xo25 _ e).1
  have q25_t1 := m24_t1.out ou25 xa19
  have ds25_t1 := Ob.far m24_t1 xa19 nw25
  have dt25_t1 : ∀ i, S25 i → ¬ (InB x19.A) i := fun i a b => ds25_t1 i b a
  have dx25_t1 : ∀ i, InB x25.A i → ¬ (InB x19.A) i := fun i a b => xa19 i b (xo25 i a).1
  have dy25_t1 : ∀ i, (InB x19.A) i → ¬ InB x25.A i := fun i a b => dx25_t1 i b a
  have hi25 : ∀ i, S25 i → w.heap.size ≤ i := fun i e => (nw25 i e).elim (hi19 i) (fun e => Nat.le_trans (o24).size e)
  have l25 := below_out o24 ou25 hi19
  have rb25 := rs25.ob
  have xa25 : ∀ i, InB x25.A i → ¬ S25 i := fun i a => (xo25 i a).2
  have xb25 : ∀ i, S25 i → ¬ InB x25.A i := fun i a b => xa25 i b a
  have hx25_ : ∀ i, InB x25.A i → w.heap.size ≤ i := fun i e => hi19 i (xo25 i e).1
  clear ou25 nw25 rs25 xo25 m24_oa n24 nn20_oa m24_t1 xa19 xb19 hi19 o24
  go_wp2_with (first | ((with_reducible refine st_alloc 40 (lA zeroL) ?_ ?_); exact zero_lc))
  refine ⟨fun V26 g26 n26 f26 => ?_⟩
  have ne26_x := f26.ne q25_x
  have nn26_oa := ao25.fresh (Nat.le_of_eq f26.at_)
  have nn26_t1 := q25_t1.fresh (Nat.le_of_eq f26.at_)
  have nn26_t2 := rb25.fresh (Nat.le_of_eq f26.at_)
  have up26 : w.heap.size ≤ g26 := f26.up l25
  have bl26 := f26.bel
  clear f26
  have r27_oa := ao25.on bl26
  have r27_t1 := q25_t1.on bl26
  have r27_t2 := rb25.on bl26
  have r29_x := le_on q25_x bl26
  have l29 := le_tr l25 bl26
  clear q25_x l25
  clear ao25 q25_t1 rb25
  clear bl26
  go_wp2_with (first | ((with_reducible refine st_store 40 _ _ g26 (lA x25) ?_ ?_ n26 ?_ ?_ ?_ ?_); exact rfl; exact rfl; exact Try.zLc; exact rfl; exact lA_one _))
  refine ⟨fun V30 n30 k30 => ?_⟩
  have m30_x := k30.on r29_x ne26_x
  have m30_oa := r27_oa.wr k30 nn26_oa
  have m30_t1 := r27_t1.wr k30 nn26_t1
  have m30_t2 := r27_t2.wr k30 nn26_t2
  have o30 := k30.bel _ _ l29 up26
  clear k30
  clear n26 r29_x r27_oa r27_t1 r27_t2 l29
  have cv1 := bytes_98 m30_t1.ok.rr hx19
  have cv2 := bytes_98 m30_t2.ok.rr hx25
  have c31 : V30.cell? ⟨g20, 2, none⟩ = some (.slice (x19.A) (x19.n) (x19.c)) := CB.cell m30_x 2
  have c32 : V30.cell? ⟨g26, 2, none⟩ = some (.slice (x25.A) (x25.n) (x25.c)) := CB.cell n30 2
  go_wp2_with fail
  have cl9 : Calls Try.prog 15 #[.pointer (some ⟨ba1, 0, none⟩), .int .u8 3] _ _ := alen_k (t := 3) (z := 0) m30_oa na6
  (with_reducible refine cl9.mono ?_)
  clear cl9
  rintro e w' ⟨rfl, rfl⟩
  go_wp2_with (first | ((with_reducible refine st_builtnG 40 1 _ (.int .u8 17) (lA ⟨0, 17, [], none, 0, 0⟩) ?_ ?_ ?_ ?_); exact rfl; exact built_l1 17; exact rfl))
  have cc33 := send_k (l := ⟨0, 17, []⟩) (Q' := qa7) (z := 2) ⟨0, 17, [], none, 0, 0⟩ m30_oa (RR.nil _ _ _) rfl rfl ea7
  (with_reducible refine cc33.mono ?_)
  clear cc33
  rintro e w33 ⟨rfl, S33, ao33, ou33, nw33⟩
  clear c31 c32
  have q33_x := ou33.box m30_x no25_x
  have no33_x : ¬ S33 g20 := fun e => (nw33 _ e).elim no25_x (fun e => by have := CB.lt m30_x; omega)
  have q33_y := ou33.box n30 nn26_oa
  have no33_y : ¬ S33 g26 := fun e => (nw33 _ e).elim nn26_oa (fun e => by have := CB.lt n30; omega)
  have q33_t1 := m30_t1.out ou33 ds25_t1
  have ds33_t1 := Ob.far m30_t1 ds25_t1 nw33
  have dt33_t1 : ∀ i, S33 i → ¬ (InB x19.A) i := fun i a b => ds33_t1 i b a
  have q33_t2 := m30_t2.out ou33 xa25
  have ds33_t2 := Ob.far m30_t2 xa25 nw33
  have dt33_t2 : ∀ i, S33 i → ¬ (InB x25.A) i := fun i a b => ds33_t2 i b a
  have hi33 : ∀ i, S33 i → w.heap.size ≤ i := fun i e => (nw33 i e).elim (hi25 i) (fun e => Nat.le_trans (o30).size e)
  have l33 := below_out o30 ou33 hi25
  clear ou33 nw33 m30_oa m30_x no25_x n30 nn26_oa m30_t1 ds25_t1 dt25_t1 m30_t2 xa25 xb25 hi25 o30
  go_wp2_with fail
  go_ret
  exact ⟨rfl, l33⟩
end Go.Proofs.Ytcfdfimkgehdfaa
