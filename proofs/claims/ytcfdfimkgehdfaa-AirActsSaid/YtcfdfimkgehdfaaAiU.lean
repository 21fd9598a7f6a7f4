/-
  The law AirApart, walked. Conditions: the calls can be read, their places are numbers of their type.
-/
import Derived.Test.YtcfdfimkgehdfaaAiR
import Derived.Deep.LoopGhost
set_option linter.unusedVariables false
set_option linter.unusedSimpArgs false
namespace Go.Proofs.Ytcfdfimkgehdfaa
open Go.RowKit

/-- Calls that lie below world w's blocks. -/
structure XR (w W : World) (A : Option Addr) (n c : Nat) (L : List Xm) : Prop where
  rr : RL w W xcl 7 A n c L
  el : ∀ x ∈ L, RL w W bcl 1 x.A x.n x.c x.b
section
variable {w W V : World} {A : Option Addr} {n c : Nat} {L : List Xm}
theorem XR.start (h : RR w xcl 7 A n c L) (k : ∀ x ∈ L, RR w bcl 1 x.A x.n x.c x.b) : XR w w A n c L := ⟨RL.start h, fun y hy => RL.start (k y hy)⟩
theorem XR.on (h : XR w W A n c L) (hb : Below W.heap.size W V) : XR w V A n c L := ⟨h.rr.on hb, fun y hy => (h.el y hy).on hb⟩
theorem XR.wr (h : XR w W A n c L) {g : Nat} (k : Wr W V g) (hg : w.heap.size ≤ g) : XR w V A n c L := ⟨h.rr.wr k hg, fun y hy => (h.el y hy).wr k hg⟩
theorem XR.out {S : Nat → Prop} (h : XR w W A n c L) (o : Out W V S) (hS : ∀ i, S i → w.heap.size ≤ i) : XR w V A n c L := ⟨h.rr.out o hS, fun y hy => (h.el y hy).out o hS⟩
theorem XR.drew (h : XR w W A n c L) : XR w W.drew A n c L := ⟨h.rr.drew, fun y hy => (h.el y hy).drew⟩
theorem XR.no (h : XR w W A n c L) {x : Xm} (hx : x ∈ L) {S : Nat → Prop} (hS : ∀ i, S i → w.heap.size ≤ i) : ∀ g, InR x.A x.n g → ¬ S g := fun g hg hs => by
  obtain ⟨⟨off, e⟩, hn⟩ := hg
  have := (h.el x hx).lo g off e hn
  have := hS g hs
  omega
theorem XR.elem (h : XR w W A n c L) {k : Nat} {x : Xm} (hx : L[k]? = some x) {g off : Nat} (hA : A = some ⟨g, off, none⟩) : W.rangeAt g (off + k * 7) (xA x).toList := RR.elemAt h.rr.rr hx hA
theorem XR.to_ (h : XR w W A n c L) {k : Nat} {x : Xm} (hx : L[k]? = some x) {g off : Nat} (hA : A = some ⟨g, off, none⟩) : W.cell? ⟨g, off + k * 7 + 2, none⟩ = some (.int .u8 (x.to : Int)) := h.elem hx hA 2 _ rfl
end
theorem dl_none (w : World) : DL none 0 0 [] w := ⟨RR.nil _ _ _, fun x hx => by cases hx⟩
theorem fd_none {g : Nat} : ¬ FD none 0 [] g := fun e => by
  rcases e with ⟨⟨_, e⟩, _⟩ | ⟨x, hx, _⟩
  · cases e
  · cases hx
theorem rm_none : Roomy 0 (toR (LT [])) := roomy_nil 0
theorem built_c0 : Try.prog.built 28 [] = some (cA ⟨none, 0, 0, 0⟩) := by kernel_rfl
theorem q_cons {Q : Qs} {e : Nat} {l : Lt} {r : List Lt} (he : e < 17) (h : Q e = l :: r) : ((eAt Q e 0 : Nat) : Int) = 0 ∧ xTk Q e 0 = l ∧ sTk Q e 0 e = r := by
  have h0 : eAt Q e 0 = 0 := by unfold eAt; rw [if_neg (by omega), if_pos]; rw [h]; simp
  have hx := xTk_at h0
  rw [h] at hx
  refine ⟨by rw [h0]; rfl, ?_, ?_⟩
  · simpa using hx.symm
  · unfold sTk
    rw [if_pos h0, updQ_same, h]
    rfl
/-- A call beside a document that has nothing. -/
theorem does_n (S : Nat → Prop) (ba room : Nat) (Q : Qs) (x : Xm) (w : World) (h : AO S ba room Q w) (hx : RR w bcl 1 x.A x.n x.c x.b) (hpl : x.pl < 65536) (hxs : ∀ g, InR x.A x.n g → ¬ S g) : Calls Try.prog 14 #[.pointer (some ⟨ba, 0, none⟩), .agg (cA ⟨none, 0, 0, 0⟩), .agg (xA x)] w (DPost w S ba room Q none 0 [] 0 x) :=
  does_c S ba room Q none 0 0 [] 0 x w h (dl_none w) rm_none (by decide) hx hpl (fun g e => absurd e fd_none) hxs
set_option maxRecDepth 100000 in
set_option maxHeartbeats 8000000 in
theorem apart_walk (A : Option Addr) (n c : Nat) (L : List Xm) (en : Nat) (w : World) (h : RR w xcl 7 A n c L) (hk : ∀ x ∈ L, x.pl < 65536 ∧ RR w bcl 1 x.A x.n x.c x.b) : Calls Try.prog 4 #[.slice A n c, .int .u8 (en : Int)] w fun e w' => e = .returned (.bool true) ∧ Below w.heap.size w w' := by
  have hlen := Lib.hid h.len
  have hx := XR.start h (fun x hx => (hk x hx).2)
  have hpl : ∀ x ∈ L, x.pl < 65536 := fun x hx => (hk x hx).1
  obtain ⟨e, he⟩ : ∃ e, en % 17 = e := ⟨_, rfl⟩
  have he17 : e < 17 := by rw [← he]; exact Nat.mod_lt _ (by decide)
  have tm : Int.tmod (en : Int) 17 = (e : Int) := (tmod_nat en 17).trans (by rw [he])
  clear h hk he
  go_enter Try.func4, Try.ntmps4
  go_wp2_with fail
  (with_reducible refine (alive_c _).mono ?_)
  rintro e w1 ⟨rfl, b1⟩
  have r4_xx := (hx).on b1
  have l4 := le_tr (Below.refl _ _) b1
  clear hx
  clear b1
  go_wp2_with fail
  have cn5 := anew_c (50 : Int) w1
  (with_reducible refine cn5.mono ?_)
  clear cn5
  intro e w5 hp5
  obtain ⟨ba5, S5, rfl, ao5, h05, bl5⟩ := NPost.yes (r := 50) (by omega) (by omega) hp5
  clear hp5
  have hi5 : ∀ i, S5 i → w.heap.size ≤ i := fun i e => Nat.le_trans (l4).size (h05 i e)
  clear h05
  have r8_xx := (r4_xx).on bl5
  have l8 := le_tr l4 bl5
  clear r4_xx l4
  clear bl5
  go_wp2_with fail
  have cn9 := anew_c (50 : Int) w5
  (with_reducible refine cn9.mono ?_)
  clear cn9
  intro e w9 hp9
  obtain ⟨ba9, S9, rfl, ao9, h09, bl9⟩ := NPost.yes (r := 50) (by omega) (by omega) hp9
  clear hp9
  have da9_oa : ∀ i, S9 i → ¬ S5 i := fun i a b => by have := h09 i a; have := ao5.lt i b; omega
  have db9_oa : ∀ i, S5 i → ¬ S9 i := fun i a b => da9_oa i b a
  have hi9 : ∀ i, S9 i → w.heap.size ≤ i := fun i e => Nat.le_trans (l8).size (h09 i e)
  clear h09
  have r10_oa := ao5.on bl9
  have r12_xx := (r8_xx).on bl9
  have l12 := le_tr l8 bl9
  clear r8_xx l8
  clear ao5
  clear bl9
  go_wp2_with fail
  go_loopw [7] (fun iv wr => ∃ (k : Nat) (Sa Sb : Nat → Prop) (Qa Qb : Qs), k ≤ n ∧ k ≤ 80 ∧ iv = .int .i64 k ∧ AO Sa ba5 50 Qa wr ∧ AO Sb ba9 50 Qb wr ∧ (∀ i, Sa i → w.heap.size ≤ i) ∧ (∀ i, Sb i → w.heap.size ≤ i) ∧ (∀ i, Sa i → ¬ Sb i) ∧ Hid (Qa e = Qb e) ∧ XR w wr A n c L ∧ Below w.heap.size w wr) (fun iv _ => n - (intOf iv).toNat)
  case atStart => exact ⟨0, _, _, _, _, by omega, by omega, rfl, r10_oa, ao9, hi5, hi9, db9_oa, Lib.hid rfl, r12_xx, l12⟩
  case round =>
    clear r10_oa ao9 hi5 hi9 db9_oa da9_oa r12_xx l12
    obtain ⟨k, Sa, Sb, Qa, Qb, hkn, hk80, rfl, ha, hbo, hi, hj, dd, HQ, hx, hw⟩ := hrel
    have dd2 : ∀ i, Sb i → ¬ Sa i := fun i a b => dd i b a
    by_cases hlt : k < n ∧ k < 80
    · skip
      obtain ⟨hlt1, hlt2⟩ := hlt
      have l1 : (k : Int) < n := by omega
      have l2 : (0 : Int) ≤ (k : Int) := by omega
      have l3 : (k : Int) < 80 := by omega
      obtain ⟨ga, oa, x, hxk, hAx, _⟩ := hx.rr.rr.elem hlt1
      have hxm := List.mem_of_getElem? hxk
      have hxp := hpl x hxm
      have hr2 := hx.elem hxk hAx
      subst hAx
      go_wp2_with (first | ((with_reducible refine st_elem 33 _ ga (oa + k * 7) (xA x) ?_ hr2 Try.underlying33 ?_ ?_ ?_); exact rfl; exact rfl; exact Try.zAx))
      (with_reducible refine (few_c x _).mono ?_)
      rintro e0 w9 ⟨rfl, b9⟩
      clear hr2
      have r201_oa := ha.on b9
      have r201_ob := hbo.on b9
      have r203_xx := (hx).on b9
      have l203 := le_tr hw b9
      clear hx hw
      clear ha hbo
      clear b9
      by_cases h4 : x.n ≤ 4100
      rotate_left
      · simp only [decide_eq_false h4]
        go_wp2_with fail
        go_roundw
        case rel => exact ⟨k + 1, Sa, Sb, Qa, Qb, by omega, by omega, by go_num, r201_oa, r201_ob, hi, hj, dd, HQ, r203_xx, l203⟩
        case measure => simp [intOf]; omega
      simp only [decide_eq_true h4]
      have hr3 := r203_xx.elem hxk rfl
      have xn1 := r203_xx.no hxm hi
      have xn2 := r203_xx.no hxm hj
      go_wp2_with (first | ((with_reducible refine st_built0 28 (cA ⟨none, 0, 0, 0⟩) ?_ ?_); exact built_c0) | ((with_reducible refine st_elem 33 _ ga (oa + k * 7) (xA x) ?_ hr3 Try.underlying33 ?_ ?_ ?_); exact rfl; exact rfl; exact Try.zAx))
      have cc204 := does_n Sa ba5 50 Qa x _ r201_oa (r203_xx.el x hxm).rr hxp xn1
      (with_reducible refine cc204.mono ?_)
      clear cc204
      rintro e w204 ⟨Ad204, nd204, cd204, Ld204, bd204, S204, rfl, hbd204, ao204, dd204, ed204, nw204, sd204, fd204, ou204⟩
      clear hbd204 dd204 ed204 sd204 fd204
      have q204_ob := r201_ob.out ou204 dd2
      have ds204_ob := Ob.far r201_ob dd2 nw204
      have dt204_ob : ∀ i, S204 i → ¬ Sb i := fun i a b => ds204_ob i b a
      have q204_xx := (r203_xx).out ou204 hi
      have hi204 : ∀ i, S204 i → w.heap.size ≤ i := fun i e => (nw204 i e).elim (hi i) (fun e => Nat.le_trans (l203).size e)
      have l204 := below_out l203 ou204 hi
      clear ou204 nw204 r201_oa r201_ob dd2 dd r203_xx hi l203
      clear hr3
      have c5 := q204_xx.to_ hxk rfl
      by_cases ht : x.to = e
      · have q5 : ((x.to : Int) == (e : Int)) = true := by simp [ht]
        have hr4 := q204_xx.elem hxk rfl
        go_wp2_with (first | ((with_reducible refine st_built0 28 (cA ⟨none, 0, 0, 0⟩) ?_ ?_); exact built_c0) | ((with_reducible refine st_elem 33 _ ga (oa + k * 7) (xA x) ?_ hr4 Try.underlying33 ?_ ?_ ?_); exact rfl; exact rfl; exact Try.zAx))
        have cc205 := does_n Sb ba9 50 Qb x _ q204_ob (q204_xx.el x hxm).rr hxp xn2
        (with_reducible refine cc205.mono ?_)
        clear cc205
        rintro e w205 ⟨Ad205, nd205, cd205, Ld205, bd205, S205, rfl, hbd205, ao205, dd205, ed205, nw205, sd205, fd205, ou205⟩
        clear hbd205 dd205 ed205 sd205 fd205
        have q205_oa := ao204.out ou205 dt204_ob
        have ds205_oa := Ob.far ao204 dt204_ob nw205
        have dt205_oa : ∀ i, S205 i → ¬ S204 i := fun i a b => ds205_oa i b a
        have q205_xx := (q204_xx).out ou205 hj
        have hi205 : ∀ i, S205 i → w.heap.size ≤ i := fun i e => (nw205 i e).elim (hj i) (fun e => Nat.le_trans (l204).size e)
        have l205 := below_out l204 ou205 hj
        clear ou205 nw205 q204_ob ao204 dt204_ob ds204_ob q204_xx hj l204
        have HQ2 := Lib.hid (show sAc 50 Qa x.ax e = sAc 50 Qb x.ax e by subst ht; exact sAc_same (x := x.ax) HQ.out)
        go_wp2_with fail
        go_roundw
        case rel => exact ⟨k + 1, _, _, _, _, by omega, by omega, by go_num, q205_oa, ao205, hi204, hi205, ds205_oa, HQ2, q205_xx, l205⟩
        case measure => simp [intOf]; omega
      have q5 : ((x.to : Int) == (e : Int)) = false := by simp; omega
      have HQ2 := Lib.hid (show sAc 50 Qa x.ax e = Qb e by rw [sAc_other (x := x.ax) (fun e2 => ht e2.symm)]; exact HQ.out)
      go_wp2_with fail
      go_roundw
      case rel => exact ⟨k + 1, _, _, _, _, by omega, by omega, by go_num, ao204, q204_ob, hi204, hj, dt204_ob, HQ2, q204_xx, l204⟩
      case measure => simp [intOf]; omega
    have hend : ¬ (k < n) ∨ ¬ (k < 80) := by omega
    obtain ⟨N0, hN0⟩ : ∃ N0, (Qa e).length = N0 := ⟨_, rfl⟩
    clear dd2
    by_cases hkn2 : k < n
    · skip
      have g1 : (k : Int) < n := by omega
      obtain rfl : k = 80 := by omega
      have g2 : ¬ ((80 : Nat) : Int) < 80 := by omega
      clear hlt hend hkn hk80 hkn2 hlen
      go_wp2_with fail
      go_loopg [] N0 (fun N wr => ∃ (Sa Sb : Nat → Prop) (Qa Qb : Qs) (M : List Lt), Hid (M.length = N) ∧ Hid (Qa e = M) ∧ Hid (Qb e = M) ∧ AO Sa ba5 50 Qa wr ∧ AO Sb ba9 50 Qb wr ∧ (∀ i, Sa i → w.heap.size ≤ i) ∧ (∀ i, Sb i → w.heap.size ≤ i) ∧ (∀ i, Sa i → ¬ Sb i) ∧ Below w.heap.size w wr)
      case atStart => exact ⟨Sa, Sb, Qa, Qb, Qa e, Lib.hid hN0, Lib.hid rfl, Lib.hid HQ.out.symm, ha, hbo, hi, hj, dd, hw⟩
      case round =>
        clear ha hbo hi hj dd hw HQ hx hN0
        obtain ⟨Sa, Sb, Qa, Qb, M, hM, hQa, hQb, ha, hbo, hi, hj, dd, hw⟩ := hrel
        have dd2 : ∀ i, Sb i → ¬ Sa i := fun i a b => dd i b a
        cases M with
        | nil =>
          go_wp2_with fail
          have cl9 : Calls Try.prog 15 #[.pointer (some ⟨ba5, 0, none⟩), .int .u8 (e : Int)] _ _ := alen_k (t := e) (z := 0) ha (by rw [hQa.out] <;> rfl)
          (with_reducible refine cl9.mono ?_)
          clear cl9
          rintro e0 w' ⟨rfl, rfl⟩
          go_wp2_with fail
          have cl9 : Calls Try.prog 15 #[.pointer (some ⟨ba9, 0, none⟩), .int .u8 (e : Int)] _ _ := alen_k (t := e) (z := 0) hbo (by rw [hQb.out] <;> rfl)
          (with_reducible refine cl9.mono ?_)
          clear cl9
          rintro e0 w' ⟨rfl, rfl⟩
          go_wp2_with fail
          go_ret
          exact ⟨rfl, hw⟩
        | cons l M =>
          obtain ⟨z1, z2, z3⟩ := q_cons he17 hQa.out
          obtain ⟨y1, y2, y3⟩ := q_cons he17 hQb.out
          have Z1 := Lib.hid z1
          have Z2 := Lib.hid z2
          have Z3 := Lib.hid z3
          have Y1 := Lib.hid y1
          have Y2 := Lib.hid y2
          have Y3 := Lib.hid y3
          clear z1 z2 z3 y1 y2 y3
          have hlm : ((M.length : Int) + 1 > 0) := by omega
          have hlm2 : decide ((0 : Int) < (M.length : Int) + 1) = true := by rw [decide_eq_true_iff]; omega
          go_wp2_with fail
          have cl9 : Calls Try.prog 15 #[.pointer (some ⟨ba5, 0, none⟩), .int .u8 (e : Int)] _ _ := alen_k (t := e) (z := ((M.length + 1 : Nat) : Int)) ha (by rw [hQa.out] <;> rfl)
          (with_reducible refine cl9.mono ?_)
          clear cl9
          rintro e0 w' ⟨rfl, rfl⟩
          have hl5 : decide ((0 : Int) < ((M.length + 1 : Nat) : Int)) = true := by simp
          go_wp2_with fail
          have cc501 := (show Calls Try.prog 17 #[.pointer (some ⟨ba5, 0, none⟩), .int .u8 (e : Int), .int .i64 0] _ _ from take_k (t := e) (i := 0) (z := 0) ha Z2.out rfl Z1.out)
          (with_reducible refine cc501.mono ?_)
          clear cc501
          rintro e w501 ⟨x501, rfl, hx501, rs501, S501, ao501, ou501, nw501, xo501⟩
          have q501_ob := hbo.out ou501 dd2
          have ds501_ob := Ob.far hbo dd2 nw501
          have dt501_ob : ∀ i, S501 i → ¬ Sb i := fun i a b => ds501_ob i b a
          have dx501_ob : ∀ i, InB x501.A i → ¬ Sb i := fun i a b => dd2 i b (xo501 i a).1
          have dy501_ob : ∀ i, Sb i → ¬ InB x501.A i := fun i a b => dx501_ob i b a
          have hi501 : ∀ i, S501 i → w.heap.size ≤ i := fun i e => (nw501 i e).elim (hi i) (fun e => Nat.le_trans (hw).size e)
          have l501 := below_out hw ou501 hi
          have rb501 := rs501.ob
          have xa501 : ∀ i, InB x501.A i → ¬ S501 i := fun i a => (xo501 i a).2
          have xb501 : ∀ i, S501 i → ¬ InB x501.A i := fun i a b => xa501 i b a
          have hx501_ : ∀ i, InB x501.A i → w.heap.size ≤ i := fun i e => hi i (xo501 i e).1
          clear ou501 nw501 rs501 xo501 ha hbo dd2 dd hi hw
          go_wp2_with (first | ((with_reducible refine st_alloc 40 (lA zeroL) ?_ ?_); exact zero_lc))
          refine ⟨fun V502 g502 n502 f502 => ?_⟩
          have nn502_oa := ao501.fresh (Nat.le_of_eq f502.at_)
          have nn502_ob := q501_ob.fresh (Nat.le_of_eq f502.at_)
          have nn502_ta := rb501.fresh (Nat.le_of_eq f502.at_)
          have up502 : w.heap.size ≤ g502 := f502.up l501
          have bl502 := f502.bel
          clear f502
          have r503_oa := ao501.on bl502
          have r503_ob := q501_ob.on bl502
          have r503_ta := rb501.on bl502
          have l505 := le_tr l501 bl502
          clear l501
          clear ao501 q501_ob rb501
          clear bl502
          go_wp2_with (first | ((with_reducible refine st_store 40 _ _ g502 (lA x501) ?_ ?_ n502 ?_ ?_ ?_ ?_); exact rfl; exact rfl; exact Try.zLc; exact rfl; exact lA_one _))
          refine ⟨fun V506 n506 k506 => ?_⟩
          have m506_oa := r503_oa.wr k506 nn502_oa
          have m506_ob := r503_ob.wr k506 nn502_ob
          have m506_ta := r503_ta.wr k506 nn502_ta
          have o506 := k506.bel _ _ l505 up502
          clear k506
          clear n502 r503_oa r503_ob r503_ta l505
          go_wp2_with fail
          have cc507 := (show Calls Try.prog 17 #[.pointer (some ⟨ba9, 0, none⟩), .int .u8 (e : Int), .int .i64 0] _ _ from take_k (t := e) (i := 0) (z := 0) m506_ob Y2.out rfl Y1.out)
          (with_reducible refine cc507.mono ?_)
          clear cc507
          rintro e w507 ⟨x507, rfl, hx507, rs507, S507, ao507, ou507, nw507, xo507⟩
          have q507_x := ou507.box n506 nn502_ob
          have no507_x : ¬ S507 g502 := fun e => (nw507 _ e).elim nn502_ob (fun e => by have := CB.lt n506; omega)
          have nx507_x : ¬ InB x507.A g502 := fun e => nn502_ob (xo507 _ e).1
          have q507_oa := m506_oa.out ou507 dt501_ob
          have ds507_oa := Ob.far m506_oa dt501_ob nw507
          have dt507_oa : ∀ i, S507 i → ¬ S501 i := fun i a b => ds507_oa i b a
          have dx507_oa : ∀ i, InB x507.A i → ¬ S501 i := fun i a b => dt501_ob i b (xo507 i a).1
          have dy507_oa : ∀ i, S501 i → ¬ InB x507.A i := fun i a b => dx507_oa i b a
          have q507_ta := m506_ta.out ou507 dx501_ob
          have ds507_ta := Ob.far m506_ta dx501_ob nw507
          have dt507_ta : ∀ i, S507 i → ¬ (InB x501.A) i := fun i a b => ds507_ta i b a
          have dx507_ta : ∀ i, InB x507.A i → ¬ (InB x501.A) i := fun i a b => dx501_ob i b (xo507 i a).1
          have dy507_ta : ∀ i, (InB x501.A) i → ¬ InB x507.A i := fun i a b => dx507_ta i b a
          have hi507 : ∀ i, S507 i → w.heap.size ≤ i := fun i e => (nw507 i e).elim (hj i) (fun e => Nat.le_trans (o506).size e)
          have l507 := below_out o506 ou507 hj
          have rb507 := rs507.ob
          have xa507 : ∀ i, InB x507.A i → ¬ S507 i := fun i a => (xo507 i a).2
          have xb507 : ∀ i, S507 i → ¬ InB x507.A i := fun i a b => xa507 i b a
          have hx507_ : ∀ i, InB x507.A i → w.heap.size ≤ i := fun i e => hj i (xo507 i e).1
          clear ou507 nw507 rs507 xo507 m506_ob n506 nn502_ob m506_oa dt501_ob ds501_ob m506_ta dx501_ob dy501_ob hj o506
          go_wp2_with (first | ((with_reducible refine st_alloc 40 (lA zeroL) ?_ ?_); exact zero_lc))
          refine ⟨fun V508 g508 n508 f508 => ?_⟩
          have ne508_x := f508.ne q507_x
          have nn508_oa := q507_oa.fresh (Nat.le_of_eq f508.at_)
          have nn508_ob := ao507.fresh (Nat.le_of_eq f508.at_)
          have nn508_ta := q507_ta.fresh (Nat.le_of_eq f508.at_)
          have nn508_tb := rb507.fresh (Nat.le_of_eq f508.at_)
          have up508 : w.heap.size ≤ g508 := f508.up l507
          have bl508 := f508.bel
          clear f508
          have r509_oa := q507_oa.on bl508
          have r509_ob := ao507.on bl508
          have r509_ta := q507_ta.on bl508
          have r509_tb := rb507.on bl508
          have r511_x := le_on q507_x bl508
          have l511 := le_tr l507 bl508
          clear q507_x l507
          clear q507_oa ao507 q507_ta rb507
          clear bl508
          go_wp2_with (first | ((with_reducible refine st_store 40 _ _ g508 (lA x507) ?_ ?_ n508 ?_ ?_ ?_ ?_); exact rfl; exact rfl; exact Try.zLc; exact rfl; exact lA_one _))
          refine ⟨fun V512 n512 k512 => ?_⟩
          have m512_x := k512.on r511_x ne508_x
          have m512_oa := r509_oa.wr k512 nn508_oa
          have m512_ob := r509_ob.wr k512 nn508_ob
          have m512_ta := r509_ta.wr k512 nn508_ta
          have m512_tb := r509_tb.wr k512 nn508_tb
          have o512 := k512.bel _ _ l511 up508
          clear k512
          clear n508 r511_x r509_oa r509_ob r509_ta r509_tb l511
          have hsm : x501.lt = x507.lt := hx501.trans hx507.symm
          have cs := same_c x501 x507 _ m512_ta.ok.rr m512_tb.ok.rr
          simp only [decide_eq_true hsm] at cs
          go_wp2_with (first | (first | ((with_reducible refine st_load 40 _ g502 ?_ m512_x Try.underlying40 ?_ ?_ ?_); exact rfl; exact rfl; exact Try.zLc) | ((with_reducible refine st_loadG 40 _ g502 ?_ m512_x Try.underlying40 ?_ ?_ ?_ ?_); exact rfl; exact rfl; exact Try.zLc; exact rfl)) | (first | ((with_reducible refine st_load 40 _ g508 ?_ n512 Try.underlying40 ?_ ?_ ?_); exact rfl; exact rfl; exact Try.zLc) | ((with_reducible refine st_loadG 40 _ g508 ?_ n512 Try.underlying40 ?_ ?_ ?_ ?_); exact rfl; exact rfl; exact Try.zLc; exact rfl)))
          (with_reducible refine cs.mono ?_)
          clear cs
          rintro e0 w9 ⟨rfl, b9⟩
          have r513_oa := m512_oa.on b9
          have r513_ob := m512_ob.on b9
          have r513_ta := m512_ta.on b9
          have r513_tb := m512_tb.on b9
          have r515_x := le_on m512_x b9
          have r515_y := le_on n512 b9
          have l515 := le_tr o512 b9
          clear m512_x n512 o512
          clear m512_oa m512_ob m512_ta m512_tb
          clear b9
          go_wp2_with fail
          have hML := hM.out
          simp only [List.length_cons] at hML
          go_roundg M.length
          case measure => omega
          case rel => exact ⟨_, _, _, _, M, Lib.hid rfl, Z3, Y3, r513_oa, r513_ob, hi501, hi507, ds507_oa, l515⟩
    have g1 : ¬ (k : Int) < n := by omega
    clear hlt hend hkn hk80 hkn2 hlen
    go_wp2_with fail
    go_loopg [] N0 (fun N wr => ∃ (Sa Sb : Nat → Prop) (Qa Qb : Qs) (M : List Lt), Hid (M.length = N) ∧ Hid (Qa e = M) ∧ Hid (Qb e = M) ∧ AO Sa ba5 50 Qa wr ∧ AO Sb ba9 50 Qb wr ∧ (∀ i, Sa i → w.heap.size ≤ i) ∧ (∀ i, Sb i → w.heap.size ≤ i) ∧ (∀ i, Sa i → ¬ Sb i) ∧ Below w.heap.size w wr)
    case atStart => exact ⟨Sa, Sb, Qa, Qb, Qa e, Lib.hid hN0, Lib.hid rfl, Lib.hid HQ.out.symm, ha, hbo, hi, hj, dd, hw⟩
    case round =>
      clear ha hbo hi hj dd hw HQ hx hN0
      obtain ⟨Sa, Sb, Qa, Qb, M, hM, hQa, hQb, ha, hbo, hi, hj, dd, hw⟩ := hrel
      have dd2 : ∀ i, Sb i → ¬ Sa i := fun i a b => dd i b a
      cases M with
      | nil =>
        go_wp2_with fail
        have cl9 : Calls Try.prog 15 #[.pointer (some ⟨ba5, 0, none⟩), .int .u8 (e : Int)] _ _ := alen_k (t := e) (z := 0) ha (by rw [hQa.out] <;> rfl)
        (with_reducible refine cl9.mono ?_)
        clear cl9
        rintro e0 w' ⟨rfl, rfl⟩
        go_wp2_with fail
        have cl9 : Calls Try.prog 15 #[.pointer (some ⟨ba9, 0, none⟩), .int .u8 (e : Int)] _ _ := alen_k (t := e) (z := 0) hbo (by rw [hQb.out] <;> rfl)
        (with_reducible refine cl9.mono ?_)
        clear cl9
        rintro e0 w' ⟨rfl, rfl⟩
        go_wp2_with fail
        go_ret
        exact ⟨rfl, hw⟩
      | cons l M =>
        obtain ⟨z1, z2, z3⟩ := q_cons he17 hQa.out
        obtain ⟨y1, y2, y3⟩ := q_cons he17 hQb.out
        have Z1 := Lib.hid z1
        have Z2 := Lib.hid z2
        have Z3 := Lib.hid z3
        have Y1 := Lib.hid y1
        have Y2 := Lib.hid y2
        have Y3 := Lib.hid y3
        clear z1 z2 z3 y1 y2 y3
        have hlm : ((M.length : Int) + 1 > 0) := by omega
        have hlm2 : decide ((0 : Int) < (M.length : Int) + 1) = true := by rw [decide_eq_true_iff]; omega
        go_wp2_with fail
        have cl9 : Calls Try.prog 15 #[.pointer (some ⟨ba5, 0, none⟩), .int .u8 (e : Int)] _ _ := alen_k (t := e) (z := ((M.length + 1 : Nat) : Int)) ha (by rw [hQa.out] <;> rfl)
        (with_reducible refine cl9.mono ?_)
        clear cl9
        rintro e0 w' ⟨rfl, rfl⟩
        have hl5 : decide ((0 : Int) < ((M.length + 1 : Nat) : Int)) = true := by simp
        go_wp2_with fail
        have cc501 := (show Calls Try.prog 17 #[.pointer (some ⟨ba5, 0, none⟩), .int .u8 (e : Int), .int .i64 0] _ _ from take_k (t := e) (i := 0) (z := 0) ha Z2.out rfl Z1.out)
        (with_reducible refine cc501.mono ?_)
        clear cc501
        rintro e w501 ⟨x501, rfl, hx501, rs501, S501, ao501, ou501, nw501, xo501⟩
        have q501_ob := hbo.out ou501 dd2
        have ds501_ob := Ob.far hbo dd2 nw501
        have dt501_ob : ∀ i, S501 i → ¬ Sb i := fun i a b => ds501_ob i b a
        have dx501_ob : ∀ i, InB x501.A i → ¬ Sb i := fun i a b => dd2 i b (xo501 i a).1
        have dy501_ob : ∀ i, Sb i → ¬ InB x501.A i := fun i a b => dx501_ob i b a
        have hi501 : ∀ i, S501 i → w.heap.size ≤ i := fun i e => (nw501 i e).elim (hi i) (fun e => Nat.le_trans (hw).size e)
        have l501 := below_out hw ou501 hi
        have rb501 := rs501.ob
        have xa501 : ∀ i, InB x501.A i → ¬ S501 i := fun i a => (xo501 i a).2
        have xb501 : ∀ i, S501 i → ¬ InB x501.A i := fun i a b => xa501 i b a
        have hx501_ : ∀ i, InB x501.A i → w.heap.size ≤ i := fun i e => hi i (xo501 i e).1
        clear ou501 nw501 rs501 xo501 ha hbo dd2 dd hi hw
        go_wp2_with (first | ((with_reducible refine st_alloc 40 (lA zeroL) ?_ ?_); exact zero_lc))
        refine ⟨fun V502 g502 n502 f502 => ?_⟩
        have nn502_oa := ao501.fresh (Nat.le_of_eq f502.at_)
        have nn502_ob := q501_ob.fresh (Nat.le_of_eq f502.at_)
        have nn502_ta := rb501.fresh (Nat.le_of_eq f502.at_)
        have up502 : w.heap.size ≤ g502 := f502.up l501
        have bl502 := f502.bel
        clear f502
        have r503_oa := ao501.on bl502
        have r503_ob := q501_ob.on bl502
        have r503_ta := rb501.on bl502
        have l505 := le_tr l501 bl502
        clear l501
        clear ao501 q501_ob rb501
        clear bl502
        go_wp2_with (first | ((with_reducible refine st_store 40 _ _ g502 (lA x501) ?_ ?_ n502 ?_ ?_ ?_ ?_); exact rfl; exact rfl; exact Try.zLc; exact rfl; exact lA_one _))
        refine ⟨fun V506 n506 k506 => ?_⟩
        have m506_oa := r503_oa.wr k506 nn502_oa
        have m506_ob := r503_ob.wr k506 nn502_ob
        have m506_ta := r503_ta.wr k506 nn502_ta
        have o506 := k506.bel _ _ l505 up502
        clear k506
        clear n502 r503_oa r503_ob r503_ta l505
        go_wp2_with fail
        have cc507 := (show Calls Try.prog 17 #[.pointer (some ⟨ba9, 0, none⟩), .int .u8 (e : Int), .int .i64 0] _ _ from take_k (t := e) (i := 0) (z := 0) m506_ob Y2.out rfl Y1.out)
        (with_reducible refine cc507.mono ?_)
        clear cc507
        rintro e w507 ⟨x507, rfl, hx507, rs507, S507, ao507, ou507, nw507, xo507⟩
        have q507_x := ou507.box n506 nn502_ob
        have no507_x : ¬ S507 g502 := fun e => (nw507 _ e).elim nn502_ob (fun e => by have := CB.lt n506; omega)
        have nx507_x : ¬ InB x507.A g502 := fun e => nn502_ob (xo507 _ e).1
        have q507_oa := m506_oa.out ou507 dt501_ob
        have ds507_oa := Ob.far m506_oa dt501_ob nw507
        have dt507_oa : ∀ i, S507 i → ¬ S501 i := fun i a b => ds507_oa i b a
        have dx507_oa : ∀ i, InB x507.A i → ¬ S501 i := fun i a b => dt501_ob i b (xo507 i a).1
        have dy507_oa : ∀ i, S501 i → ¬ InB x507.A i := fun i a b => dx507_oa i b a
        have q507_ta := m506_ta.out ou507 dx501_ob
        have ds507_ta := Ob.far m506_ta dx501_ob nw507
        have dt507_ta : ∀ i, S507 i → ¬ (InB x501.A) i := fun i a b => ds507_ta i b a
        have dx507_ta : ∀ i, InB x507.A i → ¬ (InB x501.A) i := fun i a b => dx501_ob i b (xo507 i a).1
        have dy507_ta : ∀ i, (InB x501.A) i → ¬ InB x507.A i := fun i a b => dx507_ta i b a
        have hi507 : ∀ i, S507 i → w.heap.size ≤ i := fun i e => (nw507 i e).elim (hj i) (fun e => Nat.le_trans (o506).size e)
        have l507 := below_out o506 ou507 hj
        have rb507 := rs507.ob
        have xa507 : ∀ i, InB x507.A i → ¬ S507 i := fun i a => (xo507 i a).2
        have xb507 : ∀ i, S507 i → ¬ InB x507.A i := fun i a b => xa507 i b a
        have hx507_ : ∀ i, InB x507.A i → w.heap.size ≤ i := fun i e => hj i (xo507 i e).1
        clear ou507 nw507 rs507 xo507 m506_ob n506 nn502_ob m506_oa dt501_ob ds501_ob m506_ta dx501_ob dy501_ob hj o506
        go_wp2_with (first | ((with_reducible refine st_alloc 40 (lA zeroL) ?_ ?_); exact zero_lc))
        refine ⟨fun V508 g508 n508 f508 => ?_⟩
        have ne508_x := f508.ne q507_x
        have nn508_oa := q507_oa.fresh (Nat.le_of_eq f508.at_)
        have nn508_ob := ao507.fresh (Nat.le_of_eq f508.at_)
        have nn508_ta := q507_ta.fresh (Nat.le_of_eq f508.at_)
        have nn508_tb := rb507.fresh (Nat.le_of_eq f508.at_)
        have up508 : w.heap.size ≤ g508 := f508.up l507
        have bl508 := f508.bel
        clear f508
        have r509_oa := q507_oa.on bl508
        have r509_ob := ao507.on bl508
        have r509_ta := q507_ta.on bl508
        have r509_tb := rb507.on bl508
        have r511_x := le_on q507_x bl508
        have l511 := le_tr l507 bl508
        clear q507_x l507
        clear q507_oa ao507 q507_ta rb507
        clear bl508
        go_wp2_with (first | ((with_reducible refine st_store 40 _ _ g508 (lA x507) ?_ ?_ n508 ?_ ?_ ?_ ?_); exact rfl; exact rfl; exact Try.zLc; exact rfl; exact lA_one _))
        refine ⟨fun V512 n512 k512 => ?_⟩
        have m512_x := k512.on r511_x ne508_x
        have m512_oa := r509_oa.wr k512 nn508_oa
        have m512_ob := r509_ob.wr k512 nn508_ob
        have m512_ta := r509_ta.wr k512 nn508_ta
        have m512_tb := r509_tb.wr k512 nn508_tb
        have o512 := k512.bel _ _ l511 up508
        clear k512
        clear n508 r511_x r509_oa r509_ob r509_ta r509_tb l511
        have hsm : x501.lt = x507.lt := hx501.trans hx507.symm
        have cs := same_c x501 x507 _ m512_ta.ok.rr m512_tb.ok.rr
        simp only [decide_eq_true hsm] at cs
        go_wp2_with (first | (first | ((with_reducible refine st_load 40 _ g502 ?_ m512_x Try.underlying40 ?_ ?_ ?_); exact rfl; exact rfl; exact Try.zLc) | ((with_reducible refine st_loadG 40 _ g502 ?_ m512_x Try.underlying40 ?_ ?_ ?_ ?_); exact rfl; exact rfl; exact Try.zLc; exact rfl)) | (first | ((with_reducible refine st_load 40 _ g508 ?_ n512 Try.underlying40 ?_ ?_ ?_); exact rfl; exact rfl; exact Try.zLc) | ((with_reducible refine st_loadG 40 _ g508 ?_ n512 Try.underlying40 ?_ ?_ ?_ ?_); exact rfl; exact rfl; exact Try.zLc; exact rfl)))
        (with_reducible refine cs.mono ?_)
        clear cs
        rintro e0 w9 ⟨rfl, b9⟩
        have r513_oa := m512_oa.on b9
        have r513_ob := m512_ob.on b9
        have r513_ta := m512_ta.on b9
        have r513_tb := m512_tb.on b9
        have r515_x := le_on m512_x b9
        have r515_y := le_on n512 b9
        have l515 := le_tr o512 b9
        clear m512_x n512 o512
        clear m512_oa m512_ob m512_ta m512_tb
        clear b9
        go_wp2_with fail
        have hML := hM.out
        simp only [List.length_cons] at hML
        go_roundg M.length
        case measure => omega
        case rel => exact ⟨_, _, _, _, M, Lib.hid rfl, Z3, Y3, r513_oa, r513_ob, hi501, hi507, ds507_oa, l515⟩
end Go.Proofs.Ytcfdfimkgehdfaa
