/-
  The document's layer 15: step. Conditions: the deals can be read, no transaction stands twice, all are below a thousand; the bits are a byte.
-/
import Derived.Test.YtjfmahceolhfnaaCxC
set_option linter.unusedVariables false
set_option linter.unusedSimpArgs false
namespace Go.Proofs.Ytjfmahceolhfnaa
open Go.RowKit

set_option linter.unusedSectionVars false
/-- A slice that lies below world w's blocks. -/
structure RL {α : Type} (w W : World) (T : TypeId) (c : α → List Value) (s : Nat) (A : Option Addr) (n q : Nat) (L : List α) : Prop where
  ex : ∃ G, Seg W T s A n q (rc c L) G ∧ ∀ g, G = some g → g < w.heap.size
section
variable {α : Type} {c : α → List Value} {s : Nat} [Nonempty (EncOk c s)] {w W V : World} {T : TypeId} {A : Option Addr} {n q : Nat} {L : List α}
theorem RL.start (h : RS w T c s A n q L) : RL w w T c s A n q L := by obtain ⟨G, h2⟩ := h; exact ⟨⟨G, h2, h2.lt⟩⟩
theorem RL.rs (h : RL w W T c s A n q L) : RS W T c s A n q L := by obtain ⟨G, h1, _⟩ := h.ex; exact ⟨G, h1⟩
theorem RL.on (h : RL w W T c s A n q L) (hb : Below W.heap.size W V) : RL w V T c s A n q L := by obtain ⟨G, h1, h2⟩ := h.ex; exact ⟨⟨G, h1.on hb, h2⟩⟩
theorem RL.wr (h : RL w W T c s A n q L) {g : Nat} (k : Wr W V g) (hg : w.heap.size ≤ g) : RL w V T c s A n q L := by
  obtain ⟨G, h1, h2⟩ := h.ex
  exact ⟨⟨G, h1.keep fun b e => k.far b (by have := h2 b e; omega), h2⟩⟩
theorem RL.drew (h : RL w W T c s A n q L) : RL w W.drew T c s A n q L := by obtain ⟨G, h1, h2⟩ := h.ex; exact ⟨⟨G, h1, h2⟩⟩
end
/-- An element that lies below world w's blocks. -/
structure EL (w W : World) (g o : Nat) (l : List Value) : Prop where
  out : W.rangeAt g o l
  lo : g < w.heap.size
  up : w.heap.size ≤ W.heap.size
section
variable {w W V : World} {g o : Nat} {l : List Value}
theorem EL.keep (h : EL w W g o l) (e : V.heap[g]? = W.heap[g]?) (hu : W.heap.size ≤ V.heap.size) : EL w V g o l := ⟨fun i v hv => (World.cell?_of_block (a := ⟨g, o + i, none⟩) e).trans (h.out i v hv), h.lo, Nat.le_trans h.up hu⟩
theorem EL.on (h : EL w W g o l) (hb : Below W.heap.size W V) : EL w V g o l := h.keep (hb.block g (Nat.lt_of_lt_of_le h.lo h.up)) hb.size
theorem EL.wr (h : EL w W g o l) {g' : Nat} (k : Wr W V g') (hg : w.heap.size ≤ g') : EL w V g o l := h.keep (k.far g (by have := h.lo; omega)) (by rw [k.size]; exact Nat.le_refl _)
theorem EL.drew (h : EL w W g o l) : EL w W.drew g o l := ⟨h.out, h.lo, h.up⟩
end
theorem RL.elem {α : Type} {c : α → List Value} {s : Nat} [Nonempty (EncOk c s)] {w W : World} {T : TypeId} {A : Option Addr} {n q : Nat} {L : List α} (h : RL w W T c s A n q L) (hu : w.heap.size ≤ W.heap.size) {k : Nat} (hk : k < n) : ∃ g off x, L[k]? = some x ∧ A = some ⟨g, off, none⟩ ∧ EL w W g (off + k * s) (c x) := by
  obtain ⟨G, h1, h2⟩ := h.ex
  obtain ⟨g, off, x, e1, e2, e3⟩ := (RR.of_seg h1).elem hk
  obtain ⟨g', off', e4, e5⟩ := seg_some h1 (by omega)
  rw [e2] at e4
  cases e4
  exact ⟨g, off, x, e1, e2, e3, h2 g e5, hu⟩
/-- Behind step. -/
def StPost (w : World) (la : Option Addr) (ln lc : Nat) (C : List Dd) (r : Rd) (e : Ending) (w' : World) : Prop :=
  ∃ A n c C', e = .returned (.tuple #[.agg (yA ⟨A, n, c, la, ln, lc⟩), .int .i64 ((nDoC (fnC C) r : Nat) : Int), .int .i64 ((eDoC (fnC C) r : Nat) : Int)]) ∧ XD w' A n c C' ∧ OkC C' ∧ fnC C' = sDoC (fnC C) r ∧ Below w.heap.size w w'
theorem res_three {fn : Func} {p q s : Tmp} {T : TypeId} (h : fn.results = #[.cell p T, .tmp q, .tmp s]) {P : Program} {tmps : Array Value} {w : World} {g : Nat} {U : TypeId} {cs : Array Value} {d : TypeDesc} {x y : Value}
    (hp : tmps.getD p undef = .pointer (some ⟨g, 0, none⟩)) (hq : tmps.getD q undef = x) (hs : tmps.getD s undef = y) (hg : CB w g U cs) (hu : P.underlying T = some d) (hd : d.isRow = true) (hi : (P.info? T).map (·.size) = some cs.size) :
    (results fn tmps).run P w = .ok (.tuple #[.agg cs, x, y]) w := by
  subst hq hs
  have hp' : tmps[p]?.getD undef = .pointer (some ⟨g, 0, none⟩) := by simpa using hp
  simp [results, h, hp', asAddr, run_loadVar_row w g U T cs (0, 0) d hg hu (by cases d <;> simp_all [TypeDesc.isRow]) hi]
set_option maxRecDepth 100000 in
set_option maxHeartbeats 4000000 in
theorem step_r (xa : Option Addr) (xn xc : Nat) (la : Option Addr) (ln lc : Nat) (C : List Dd) (r : Rd) (w : World) (h : XD w xa xn xc C) (hC : OkC C) (hw : r.who < 256) : Calls Try.prog 26 #[.agg (yA ⟨xa, xn, xc, la, ln, lc⟩), .agg (rA r)] w (StPost w la ln lc C r) := by
  have hlen := h.len
  have hl3 := okC_len hC
  have hn3 : xn ≤ 1000 := by omega
  have xl := RL.start h
  clear h
  by_cases hok : okR r
  · have g1 := hok.1.1
    have g2 := hok.1.2
    have g3 := hok.2.1
    have g4 := hok.2.2
    have d1 : decide (r.kind < 1) = false := by simp; omega
    have d2 : decide (4 < r.kind) = false := by simp; omega
    have d3 : decide (r.tx < 0) = false := by simp; omega
    have d4 : decide (1000 ≤ r.tx) = false := by simp; omega
    clear g1 g2 g4
    by_cases h4 : r.kind = 4
    · have q4 : (r.kind == 4) = true := by simp [h4]
      have HE := Lib.hid (eDoC_t (D := fnC C) hok h4)
      have HN := Lib.hid (show nDoC (fnC C) r = cntL C r.now by rw [nDoC_z HE.out, numC_t h4, cnt_tick hC])
      obtain ⟨f1, f2⟩ := fnC_tick hC r.now
      have HS := Lib.hid (show fnC (tickL C r.now) = sDoC (fnC C) r by rw [f2, sDoC_z HE.out, stC_t h4])
      clear f2
      have T1 := fun (W : World) (h : XD W xa xn xc C) => tick_r xa xn xc la ln lc C r.now W h hC
      clear h4
      go_enter Try.func26, Try.ntmps26
      go_wp2_with (first | ((with_reducible refine st_box 28 _ (yA ⟨xa, xn, xc, la, ln, lc⟩) ?_ ?_); exact rfl))
      refine ⟨fun V1 g1 n1 f1 => ?_⟩
      have up1 : w.heap.size ≤ g1 := Nat.le_of_eq f1.at_
      have bl1 := f1.bel
      clear f1
      have r2_xs := (xl).on bl1
      have l2 := le_tr (Below.refl _ _) bl1
      clear xl
      clear bl1
      go_wp2_with (first | ((with_reducible refine st_box 34 _ (rA r) ?_ ?_); exact rfl))
      refine ⟨fun V3 g3 n3 f3 => ?_⟩
      have ne3_y := f3.ne n1
      have up3 : w.heap.size ≤ g3 := f3.up l2
      have bl3 := f3.bel
      clear f3
      have r4_y := le_on n1 bl3
      have r4_xs := (r2_xs).on bl3
      have l4 := le_tr l2 bl3
      clear n1 r2_xs l2
      clear bl3
      go_wp2_with (first | ((with_reducible refine st_alloc 28 (yA zeroC) ?_ ?_); exact zero_cr))
      refine ⟨fun V5 g5 n5 f5 => ?_⟩
      have ne5_y := f5.ne r4_y
      have ne5_r := f5.ne n3
      have up5 : w.heap.size ≤ g5 := f5.up l4
      have bl5 := f5.bel
      clear f5
      have r6_y := le_on r4_y bl5
      have r6_r := le_on n3 bl5
      have r6_xs := (r4_xs).on bl5
      have l6 := le_tr l4 bl5
      clear r4_y n3 r4_xs l4
      clear bl5
      have c7 : V5.cell? ⟨g3, 0, none⟩ = some (.int .i64 r.kind) := CB.cell r6_r 0
      have c8 : V5.cell? ⟨g3, 1, none⟩ = some (.int .i64 r.tx) := CB.cell r6_r 1
      have c9 : V5.cell? ⟨g3, 5, none⟩ = some (.int .i64 r.now) := CB.cell r6_r 5
      go_wp2_with (first | (first | ((with_reducible refine st_load 28 _ g1 ?_ r6_y Try.underlying28 ?_ ?_ ?_); exact rfl; exact rfl; exact Try.zCr) | ((with_reducible refine st_loadG 28 _ g1 ?_ r6_y Try.underlying28 ?_ ?_ ?_ ?_); exact rfl; exact rfl; exact Try.zCr; exact rfl)))
      refine (T1 _ r6_xs.rs).mono ?_
      rintro e w10 ⟨A5, qn, qc, rfl, s5, b10⟩
      clear c7 c8 c9
      have r11_y := le_on r6_y b10
      have r11_r := le_on r6_r b10
      have r11_z := le_on n5 b10
      have r11_xs := (r6_xs).on b10
      have l11 := le_tr l6 b10
      clear r6_y r6_r n5 r6_xs l6
      clear b10
      clear r11_xs
      go_wp2_with (first | ((with_reducible refine st_alloc 28 (yA zeroC) ?_ ?_); exact zero_cr))
      refine ⟨fun V12 g12 n12 f12 => ?_⟩
      have ne12_y := f12.ne r11_y
      have ne12_r := f12.ne r11_r
      have ne12_z := f12.ne r11_z
      have up12 : w.heap.size ≤ g12 := f12.up l11
      have bl12 := f12.bel
      clear f12
      have r13_y := le_on r11_y bl12
      have r13_r := le_on r11_r bl12
      have r13_z := le_on r11_z bl12
      have r13_s := (s5).on bl12
      have l13 := le_tr l11 bl12
      clear r11_y r11_r r11_z s5 l11
      clear bl12
      go_wp2_with (first | ((with_reducible refine st_store 28 _ _ g12 (yA ⟨A5, qn, qc, la, ln, lc⟩) ?_ ?_ n12 ?_ ?_ ?_ ?_); exact rfl; exact rfl; exact Try.zCr; exact rfl; exact yA_one _))
      refine ⟨fun V14 n14 k14 => ?_⟩
      have m14_y := k14.on r13_y ne12_y
      have m14_r := k14.on r13_r ne12_r
      have m14_z := k14.on r13_z ne12_z
      have m14_s := (r13_s).wr k14 n12 (by decide)
      have o14 := k14.bel _ _ l13 up12
      clear k14
      clear n12 r13_y r13_r r13_z r13_s l13
      go_wp2_with (first | (first | ((with_reducible refine st_load 28 _ g12 ?_ n14 Try.underlying28 ?_ ?_ ?_); exact rfl; exact rfl; exact Try.zCr) | ((with_reducible refine st_loadG 28 _ g12 ?_ n14 Try.underlying28 ?_ ?_ ?_ ?_); exact rfl; exact rfl; exact Try.zCr; exact rfl)) | ((with_reducible refine st_store 28 _ _ g5 (yA ⟨A5, qn, qc, la, ln, lc⟩) ?_ ?_ m14_z ?_ ?_ ?_ ?_); exact rfl; exact rfl; exact Try.zCr; exact rfl; exact yA_one _))
      refine ⟨fun V15 n15 k15 => ?_⟩
      have m15_y := k15.on m14_y ne5_y
      have m15_r := k15.on m14_r ne5_r
      have m15_d := k15.on n14 (Ne.symm ne12_z)
      have m15_s := (m14_s).wr k15 m14_z (by decide)
      have o15 := k15.bel _ _ o14 up5
      clear k15
      clear m14_z m14_y m14_r n14 m14_s o14
      go_wp2_with fail
      refine bodyPost_ret (v := .tuple #[.agg (yA ⟨A5, qn, qc, la, ln, lc⟩), .int .i64 ((cntL C r.now : Nat) : Int), .int .i64 0]) (res_three Try.results26 rfl rfl rfl n15 Try.underlying28 rfl Try.zCr) rfl ⟨A5, qn, qc, tickL C r.now, by rw [HN.out, HE.out] <;> rfl, m15_s, f1, HS.out, o15⟩
    have q4 : (r.kind == 4) = false := by simp [h4]
    by_cases h1 : r.kind = 1
    · have q1 : (r.kind == 1) = true := by simp [h1]
      have HE := Lib.hid (eDoC_b (D := fnC C) hok h1)
      have HB := Lib.hid (show OkC (bgL C r) ∧ fnC (bgL C r) = sDoC (fnC C) r ∧ nDoC (fnC C) r = 0 by
        unfold bgL
        by_cases hz : eBeg (fnC C) r = 0
        · rw [if_pos hz]
          have he0 : eDoC (fnC C) r = 0 := by rw [HE.out]; exact hz
          have hn : fnC C r.tx.toNat = none := by
            unfold eBeg at hz
            split at hz
            · cases hz
            · rename_i hh; simpa using hh
          obtain ⟨b1, b2⟩ := fnC_app hC (e := ⟨r.tx, dBeg r⟩) hok.2 hn
          exact ⟨b1, by rw [b2, sDoC_z he0, stC_b h1], by rw [nDoC_z he0, numC_b h1]⟩
        · rw [if_neg hz]
          have he0 : ¬ eDoC (fnC C) r = 0 := by rw [HE.out]; exact hz
          exact ⟨hC, (sDoC_n he0).symm, nDoC_n he0⟩)
      have HN := Lib.hid HB.out.2.2
      have B1 := fun (W : World) (h : XD W xa xn xc C) => begin_r xa xn xc la ln lc C r W h hC g3 hw
      clear h1 h4
      obtain ⟨E, hE⟩ : ∃ E, eBeg (fnC C) r = E := ⟨_, rfl⟩
      obtain ⟨C2, hC2⟩ : ∃ C2, bgL C r = C2 := ⟨_, rfl⟩
      have B1 : ∀ (W : World), XD W xa xn xc C → Calls Try.prog 34 #[.agg (yA ⟨xa, xn, xc, la, ln, lc⟩), .agg (rA r)] W fun e w' => ∃ A n c, e = .returned (.tuple #[.agg (yA ⟨A, n, c, la, ln, lc⟩), .int .i64 (E : Int)]) ∧ XD w' A n c C2 ∧ Below W.heap.size W w' := fun W h => by have := B1 W h; unfold BgPost at this; rw [hE, hC2] at this; exact this
      rw [hE] at HE
      rw [hC2] at HB
      clear hE hC2
      go_enter Try.func26, Try.ntmps26
      go_wp2_with (first | ((with_reducible refine st_box 28 _ (yA ⟨xa, xn, xc, la, ln, lc⟩) ?_ ?_); exact rfl))
      refine ⟨fun V1 g1 n1 f1 => ?_⟩
      have up1 : w.heap.size ≤ g1 := Nat.le_of_eq f1.at_
      have bl1 := f1.bel
      clear f1
      have r2_xs := (xl).on bl1
      have l2 := le_tr (Below.refl _ _) bl1
      clear xl
      clear bl1
      go_wp2_with (first | ((with_reducible refine st_box 34 _ (rA r) ?_ ?_); exact rfl))
      refine ⟨fun V3 g3 n3 f3 => ?_⟩
      have ne3_y := f3.ne n1
      have up3 : w.heap.size ≤ g3 := f3.up l2
      have bl3 := f3.bel
      clear f3
      have r4_y := le_on n1 bl3
      have r4_xs := (r2_xs).on bl3
      have l4 := le_tr l2 bl3
      clear n1 r2_xs l2
      clear bl3
      go_wp2_with (first | ((with_reducible refine st_alloc 28 (yA zeroC) ?_ ?_); exact zero_cr))
      refine ⟨fun V5 g5 n5 f5 => ?_⟩
      have ne5_y := f5.ne r4_y
      have ne5_r := f5.ne n3
      have up5 : w.heap.size ≤ g5 := f5.up l4
      have bl5 := f5.bel
      clear f5
      have r6_y := le_on r4_y bl5
      have r6_r := le_on n3 bl5
      have r6_xs := (r4_xs).on bl5
      have l6 := le_tr l4 bl5
      clear r4_y n3 r4_xs l4
      clear bl5
      have c7 : V5.cell? ⟨g3, 0, none⟩ = some (.int .i64 r.kind) := CB.cell r6_r 0
      have c8 : V5.cell? ⟨g3, 1, none⟩ = some (.int .i64 r.tx) := CB.cell r6_r 1
      go_wp2_with (first | (first | ((with_reducible refine st_load 28 _ g1 ?_ r6_y Try.underlying28 ?_ ?_ ?_); exact rfl; exact rfl; exact Try.zCr) | ((with_reducible refine st_loadG 28 _ g1 ?_ r6_y Try.underlying28 ?_ ?_ ?_ ?_); exact rfl; exact rfl; exact Try.zCr; exact rfl)) | (first | ((with_reducible refine st_load 34 _ g3 ?_ r6_r Try.underlying34 ?_ ?_ ?_); exact rfl; exact rfl; exact Try.zRr) | ((with_reducible refine st_loadG 34 _ g3 ?_ r6_r Try.underlying34 ?_ ?_ ?_ ?_); exact rfl; exact rfl; exact Try.zRr; exact rfl)))
      refine (B1 _ r6_xs.rs).mono ?_
      rintro e w9 ⟨A5, qn, qc, rfl, s5, b9⟩
      clear c7 c8
      have r10_y := le_on r6_y b9
      have r10_r := le_on r6_r b9
      have r10_z := le_on n5 b9
      have r10_xs := (r6_xs).on b9
      have l10 := le_tr l6 b9
      clear r6_y r6_r n5 r6_xs l6
      clear b9
      clear r10_xs
      go_wp2_with (first | ((with_reducible refine st_alloc 28 (yA zeroC) ?_ ?_); exact zero_cr))
      refine ⟨fun V11 g11 n11 f11 => ?_⟩
      have ne11_y := f11.ne r10_y
      have ne11_r := f11.ne r10_r
      have ne11_z := f11.ne r10_z
      have up11 : w.heap.size ≤ g11 := f11.up l10
      have bl11 := f11.bel
      clear f11
      have r12_y := le_on r10_y bl11
      have r12_r := le_on r10_r bl11
      have r12_z := le_on r10_z bl11
      have r12_s := (s5).on bl11
      have l12 := le_tr l10 bl11
      clear r10_y r10_r r10_z s5 l10
      clear bl11
      go_wp2_with (first | ((with_reducible refine st_store 28 _ _ g11 (yA ⟨A5, qn, qc, la, ln, lc⟩) ?_ ?_ n11 ?_ ?_ ?_ ?_); exact rfl; exact rfl; exact Try.zCr; exact rfl; exact yA_one _))
      refine ⟨fun V13 n13 k13 => ?_⟩
      have m13_y := k13.on r12_y ne11_y
      have m13_r := k13.on r12_r ne11_r
      have m13_z := k13.on r12_z ne11_z
      have m13_s := (r12_s).wr k13 n11 (by decide)
      have o13 := k13.bel _ _ l12 up11
      clear k13
      clear n11 r12_y r12_r r12_z r12_s l12
      go_wp2_with (first | (first | ((with_reducible refine st_load 28 _ g11 ?_ n13 Try.underlying28 ?_ ?_ ?_); exact rfl; exact rfl; exact Try.zCr) | ((with_reducible refine st_loadG 28 _ g11 ?_ n13 Try.underlying28 ?_ ?_ ?_ ?_); exact rfl; exact rfl; exact Try.zCr; exact rfl)) | ((with_reducible refine st_store 28 _ _ g5 (yA ⟨A5, qn, qc, la, ln, lc⟩) ?_ ?_ m13_z ?_ ?_ ?_ ?_); exact rfl; exact rfl; exact Try.zCr; exact rfl; exact yA_one _))
      refine ⟨fun V14 n14 k14 => ?_⟩
      have m14_y := k14.on m13_y ne5_y
      have m14_r := k14.on m13_r ne5_r
      have m14_d := k14.on n13 (Ne.symm ne11_z)
      have m14_s := (m13_s).wr k14 m13_z (by decide)
      have o14 := k14.bel _ _ o13 up5
      clear k14
      clear m13_z m13_y m13_r n13 m13_s o13
      go_wp2_with fail
      refine bodyPost_ret (v := .tuple #[.agg (yA ⟨A5, qn, qc, la, ln, lc⟩), .int .i64 0, .int .i64 (E : Int)]) (res_three Try.results26 rfl rfl rfl n14 Try.underlying28 rfl Try.zCr) rfl ⟨A5, qn, qc, C2, by rw [HN.out, HE.out] <;> rfl, m14_s, HB.out.1, HB.out.2.1, o14⟩
    have q1 : (r.kind == 1) = false := by simp [h1]
    have F1 := fun (W : World) (h : XD W xa xn xc C) => find_r xa xn xc la ln lc C r.tx W h
    rcases findI_cases C r.tx with ⟨hf, hno⟩ | ⟨k, e0, hf, hk, he0⟩
    · rw [hf] at F1
      have HE := Lib.hid (show eDoC (fnC C) r = 7 from eDoC_7 hok h1 h4 (fnC_not g3 hno))
      have hz : ¬ eDoC (fnC C) r = 0 := by rw [HE.out]; decide
      have HN := Lib.hid (nDoC_n hz)
      have HS := Lib.hid (sDoC_n hz)
      clear hz
      have q0 : decide ((-1 : Int) < 0) = true := by decide
      clear hf hno h1 h4
      go_enter Try.func26, Try.ntmps26
      go_wp2_with (first | ((with_reducible refine st_box 28 _ (yA ⟨xa, xn, xc, la, ln, lc⟩) ?_ ?_); exact rfl))
      refine ⟨fun V1 g1 n1 f1 => ?_⟩
      have up1 : w.heap.size ≤ g1 := Nat.le_of_eq f1.at_
      have bl1 := f1.bel
      clear f1
      have r2_xs := (xl).on bl1
      have l2 := le_tr (Below.refl _ _) bl1
      clear xl
      clear bl1
      go_wp2_with (first | ((with_reducible refine st_box 34 _ (rA r) ?_ ?_); exact rfl))
      refine ⟨fun V3 g3 n3 f3 => ?_⟩
      have ne3_y := f3.ne n1
      have up3 : w.heap.size ≤ g3 := f3.up l2
      have bl3 := f3.bel
      clear f3
      have r4_y := le_on n1 bl3
      have r4_xs := (r2_xs).on bl3
      have l4 := le_tr l2 bl3
      clear n1 r2_xs l2
      clear bl3
      go_wp2_with (first | ((with_reducible refine st_alloc 28 (yA zeroC) ?_ ?_); exact zero_cr))
      refine ⟨fun V5 g5 n5 f5 => ?_⟩
      have ne5_y := f5.ne r4_y
      have ne5_r := f5.ne n3
      have up5 : w.heap.size ≤ g5 := f5.up l4
      have bl5 := f5.bel
      clear f5
      have r6_y := le_on r4_y bl5
      have r6_r := le_on n3 bl5
      have r6_xs := (r4_xs).on bl5
      have l6 := le_tr l4 bl5
      clear r4_y n3 r4_xs l4
      clear bl5
      have c7 : V5.cell? ⟨g3, 0, none⟩ = some (.int .i64 r.kind) := CB.cell r6_r 0
      have c8 : V5.cell? ⟨g3, 1, none⟩ = some (.int .i64 r.tx) := CB.cell r6_r 1
      have c9 : V5.cell? ⟨g3, 1, none⟩ = some (.int .i64 r.tx) := CB.cell r6_r 1
      go_wp2_with (first | (first | ((with_reducible refine st_load 28 _ g1 ?_ r6_y Try.underlying28 ?_ ?_ ?_); exact rfl; exact rfl; exact Try.zCr) | ((with_reducible refine st_loadG 28 _ g1 ?_ r6_y Try.underlying28 ?_ ?_ ?_ ?_); exact rfl; exact rfl; exact Try.zCr; exact rfl)))
      refine (F1 _ r6_xs.rs).mono ?_
      rintro e w10 ⟨rfl, b10⟩
      clear c7 c8 c9
      have r11_y := le_on r6_y b10
      have r11_r := le_on r6_r b10
      have r11_z := le_on n5 b10
      have r11_xs := (r6_xs).on b10
      have l11 := le_tr l6 b10
      clear r6_y r6_r n5 r6_xs l6
      clear b10
      go_wp2_with (first | (first | ((with_reducible refine st_load 28 _ g1 ?_ r11_y Try.underlying28 ?_ ?_ ?_); exact rfl; exact rfl; exact Try.zCr) | ((with_reducible refine st_loadG 28 _ g1 ?_ r11_y Try.underlying28 ?_ ?_ ?_ ?_); exact rfl; exact rfl; exact Try.zCr; exact rfl)) | ((with_reducible refine st_store 28 _ _ g5 (yA ⟨xa, xn, xc, la, ln, lc⟩) ?_ ?_ r11_z ?_ ?_ ?_ ?_); exact rfl; exact rfl; exact Try.zCr; exact rfl; exact yA_one _))
      refine ⟨fun V12 n12 k12 => ?_⟩
      have m12_y := k12.on r11_y ne5_y
      have m12_r := k12.on r11_r ne5_r
      have m12_xs := (r11_xs).wr k12 up5
      have o12 := k12.bel _ _ l11 up5
      clear k12
      clear r11_z r11_y r11_r r11_xs l11
      go_wp2_with fail
      refine bodyPost_ret (v := .tuple #[.agg (yA ⟨xa, xn, xc, la, ln, lc⟩), .int .i64 0, .int .i64 7]) (res_three Try.results26 rfl rfl rfl n12 Try.underlying28 rfl Try.zCr) rfl ⟨xa, xn, xc, C, by rw [HN.out, HE.out] <;> rfl, m12_xs.rs, hC, HS.out.symm, o12⟩
    · rw [hf] at F1
      have hD := fnC_of hC hk he0
      have HE0 := Lib.hid (eDoC_d hok h1 h4 hD)
      have hkn : k < xn := by rw [← hlen]; exact (List.getElem?_eq_some_iff.1 hk).1
      have q0 : decide ((k : Int) < 0) = false := by simp
      have q0' : ¬ ((k : Int) < 0) := by omega
      have l1 : (k : Int) < xn := by omega
      have l2 : (0 : Int) ≤ (k : Int) := by omega
      obtain ⟨ga, ofa, e1, he1, hA, hel⟩ := xl.elem (Nat.le_refl _) hkn
      obtain rfl : e0 = e1 := by rw [hk] at he1; cases he1; rfl
      subst hA
      have D1 := fun W => deal_r e0 r W
      obtain ⟨E, hE⟩ : ∃ E, eDeal e0.d r = E := ⟨_, rfl⟩
      have HE := Lib.hid (HE0.out.trans hE)
      clear hf he1 HE0
      by_cases hx : E = 0
      · subst hx
        obtain ⟨f1, f2⟩ := fnC_set hC hk (dDeal e0.d r)
        have HS := Lib.hid (show fnC (C.set k ⟨e0.tx, dDeal e0.d r⟩) = sDoC (fnC C) r by rw [f2, sDoC_z HE.out, stC_d h1 h4 hD, he0])
        have HN0 := Lib.hid (show nDoC (fnC C) r = if (dDeal e0.d r).out = 0 then 0 else 1 by rw [nDoC_z HE.out, numC_d h1 h4 hD])
        obtain ⟨d9, hd9⟩ : ∃ d, dDeal e0.d r = d := ⟨_, rfl⟩
        have D1 : ∀ W, Calls Try.prog 35 #[.agg (xA e0), .agg (rA r)] W fun e w' => e = .returned (.tuple #[.agg (xA ⟨e0.tx, d9⟩), .int .i64 0]) ∧ Below W.heap.size W w' := fun W => by have := D1 W; rw [xDl_z hE, hE, hd9] at this; exact this
        rw [hd9] at HS f1 HN0
        clear hE hd9 hD h1 h4 he0 f2
        go_enter Try.func26, Try.ntmps26
        go_wp2_with (first | ((with_reducible refine st_box 28 _ (yA ⟨some ⟨ga, ofa, none⟩, xn, xc, la, ln, lc⟩) ?_ ?_); exact rfl))
        refine ⟨fun V1 g1 n1 f1 => ?_⟩
        have up1 : w.heap.size ≤ g1 := Nat.le_of_eq f1.at_
        have bl1 := f1.bel
        clear f1
        have r2_xs := (xl).on bl1
        have r2_el := (hel).on bl1
        have l2 := le_tr (Below.refl _ _) bl1
        clear xl hel
        clear bl1
        go_wp2_with (first | ((with_reducible refine st_box 34 _ (rA r) ?_ ?_); exact rfl))
        refine ⟨fun V3 g3 n3 f3 => ?_⟩
        have ne3_y := f3.ne n1
        have up3 : w.heap.size ≤ g3 := f3.up l2
        have bl3 := f3.bel
        clear f3
        have r4_y := le_on n1 bl3
        have r4_xs := (r2_xs).on bl3
        have r4_el := (r2_el).on bl3
        have l4 := le_tr l2 bl3
        clear n1 r2_xs r2_el l2
        clear bl3
        go_wp2_with (first | ((with_reducible refine st_alloc 28 (yA zeroC) ?_ ?_); exact zero_cr))
        refine ⟨fun V5 g5 n5 f5 => ?_⟩
        have ne5_y := f5.ne r4_y
        have ne5_r := f5.ne n3
        have up5 : w.heap.size ≤ g5 := f5.up l4
        have bl5 := f5.bel
        clear f5
        have r6_y := le_on r4_y bl5
        have r6_r := le_on n3 bl5
        have r6_xs := (r4_xs).on bl5
        have r6_el := (r4_el).on bl5
        have l6 := le_tr l4 bl5
        clear r4_y n3 r4_xs r4_el l4
        clear bl5
        have c7 : V5.cell? ⟨g3, 0, none⟩ = some (.int .i64 r.kind) := CB.cell r6_r 0
        have c8 : V5.cell? ⟨g3, 1, none⟩ = some (.int .i64 r.tx) := CB.cell r6_r 1
        have c9 : V5.cell? ⟨g3, 1, none⟩ = some (.int .i64 r.tx) := CB.cell r6_r 1
        go_wp2_with (first | (first | ((with_reducible refine st_load 28 _ g1 ?_ r6_y Try.underlying28 ?_ ?_ ?_); exact rfl; exact rfl; exact Try.zCr) | ((with_reducible refine st_loadG 28 _ g1 ?_ r6_y Try.underlying28 ?_ ?_ ?_ ?_); exact rfl; exact rfl; exact Try.zCr; exact rfl)))
        refine (F1 _ r6_xs.rs).mono ?_
        rintro e w10 ⟨rfl, b10⟩
        clear c7 c8 c9
        have r11_y := le_on r6_y b10
        have r11_r := le_on r6_r b10
        have r11_z := le_on n5 b10
        have r11_xs := (r6_xs).on b10
        have r11_el := (r6_el).on b10
        have l11 := le_tr l6 b10
        clear r6_y r6_r n5 r6_xs r6_el l6
        clear b10
        go_wp2_with fail
        have y12 := Lib.hid (show (fun V : World => CB V g1 28 (yA ⟨some ⟨ga, ofa, none⟩, xn, xc, la, ln, lc⟩) ∧ CB V g3 34 (rA r) ∧ EL w V ga (ofa + k * 30) (xcl e0)) w10.drew from ⟨CB.drew r11_y, CB.drew r11_r, (r11_el).drew⟩)
        refine wp_region_held_drew (S := (fun V : World => CB V g1 28 (yA ⟨some ⟨ga, ofa, none⟩, xn, xc, la, ln, lc⟩) ∧ CB V g3 34 (rA r) ∧ EL w V ga (ofa + k * 30) (xcl e0))) (by kernel_rfl) y12.out (fun hHeld => ?_)
        obtain ⟨D12, hD12⟩ : ∃ V, w10.drew = V := ⟨_, rfl⟩
        have b12 : Below w10.heap.size w10 D12 := by rw [← hD12]; exact le_dr (Below.refl _ _)
        rw [hD12] at hHeld ⊢
        clear hD12
        have r13_y := le_on r11_y b12
        have r13_r := le_on r11_r b12
        have r13_z := le_on r11_z b12
        have r13_xs := (r11_xs).on b12
        have r13_el := (r11_el).on b12
        have l13 := le_tr l11 b12
        clear r11_y r11_r r11_z r11_xs r11_el l11
        clear b12
        refine wpAnyH_takeL (i := 0) (d := some 65) (v := .pointer (some ⟨g1, 0, none⟩)) rfl rfl (by kernel_rfl) (by kernel_rfl) (by kernel_rfl) (fun _ _ _ h => h) (Or.inl ⟨by rfl, ?_⟩) hHeld ?_
        · intro w hSw; (try dsimp only at hSw); go_simp
        try simp only [Act.put, List.setIfInBounds_toArray, List.set_cons_zero, List.set_cons_succ]
        refine wpAnyH_takeL (i := 1) (d := some 66) (v := .slice (some ⟨ga, ofa, none⟩) xn xc) rfl rfl (by kernel_rfl) (by kernel_rfl) (by kernel_rfl) (fun _ _ _ h => h) (Or.inl ⟨by rfl, ?_⟩) hHeld ?_
        · intro w hSw; (try dsimp only at hSw); have hcc : w.cell? ⟨g1, 0, none⟩ = some (.slice (some ⟨ga, ofa, none⟩) xn xc) := CB.cell hSw.1 0; go_simp
        try simp only [Act.put, List.setIfInBounds_toArray, List.set_cons_zero, List.set_cons_succ]
        refine wpAnyH_takeL (i := 2) (d := some 67) (v := .int .i64 (k : Int)) rfl rfl (by kernel_rfl) (by kernel_rfl) (by kernel_rfl) (fun _ _ _ h => h) (Or.inl ⟨by rfl, ?_⟩) hHeld ?_
        · intro w hSw; (try dsimp only at hSw); go_simp
        try simp only [Act.put, List.setIfInBounds_toArray, List.set_cons_zero, List.set_cons_succ]
        refine wpAnyH_takeL (i := 3) (d := some 68) (v := .pointer (some ⟨ga, ofa + k * 30, none⟩)) rfl rfl (by kernel_rfl) (by kernel_rfl) (by kernel_rfl) (fun _ _ _ h => h) (Or.inl ⟨by rfl, ?_⟩) hHeld ?_
        · intro w hSw; (try dsimp only at hSw); go_simp
        try simp only [Act.put, List.setIfInBounds_toArray, List.set_cons_zero, List.set_cons_succ]
        refine wpAnyH_takeL (i := 4) (d := some 69) (v := .agg (xA e0)) rfl rfl (by kernel_rfl) (by kernel_rfl) (by kernel_rfl) (fun _ _ _ h => h) (Or.inl ⟨by rfl, ?_⟩) hHeld ?_
        · intro w hSw; exact yl_elem 76 _ ga (ofa + k * 30) (xA e0) rfl (show w.rangeAt ga (ofa + k * 30) (xA e0).toList from hSw.2.2.out) Try.underlying76 rfl Try.zDr
        try simp only [Act.put, List.setIfInBounds_toArray, List.set_cons_zero, List.set_cons_succ]
        refine wpAnyH_takeL (i := 5) (d := some 70) (v := .agg (rA r)) rfl rfl (by kernel_rfl) (by kernel_rfl) (by kernel_rfl) (fun _ _ _ h => h) (Or.inl ⟨by rfl, ?_⟩) hHeld ?_
        · intro w hSw; exact yl_whole 34 _ g3 rfl hSw.2.1 Try.underlying34 rfl Try.zRr
        try simp only [Act.put, List.setIfInBounds_toArray, List.set_cons_zero, List.set_cons_succ]
        refine wpAnyH_ready (rs := [6, 10]) (by kernel_rfl) (by simp) ?_
        refine AllReadyH.cons rfl (fun K hK => ?_) (AllReadyH.cons rfl (fun K hK => ?_) AllReadyH.nil)
        · skip
          go_simp
          (with_reducible refine (D1 _).mono ?_)
          rintro e u14 ⟨rfl, b14⟩
          have r15_y := le_on r13_y b14
          have r15_r := le_on r13_r b14
          have r15_z := le_on r13_z b14
          have r15_xs := (r13_xs).on b14
          have r15_el := (r13_el).on b14
          have l15 := le_tr l13 b14
          clear r13_y r13_r r13_z r13_xs r13_el l13
          clear b14
          go_wp2_with fail
          have y16 := Lib.hid (show (fun V : World => CB V g1 28 (yA ⟨some ⟨ga, ofa, none⟩, xn, xc, la, ln, lc⟩) ∧ CB V g3 34 (rA r) ∧ EL w V ga (ofa + k * 30) (xcl e0)) u14 from ⟨r15_y, r15_r, r15_el⟩)
          refine hK.out _ _ y16.out (fun hHeld => ?_)
          clear hK K y16
          try simp only [Act.put, List.setIfInBounds_toArray, List.set_cons_zero, List.set_cons_succ]
          refine wpAnyH_takeL (i := 7) (d := some 64) (v := .tuple #[.agg (xA (Dd.mk e0.tx d9)), .int .i64 0]) rfl rfl (by kernel_rfl) (by kernel_rfl) (by kernel_rfl) (fun _ _ _ h => h) (Or.inl ⟨by rfl, ?_⟩) hHeld ?_
          · intro w hSw; (try dsimp only at hSw); go_simp
          try simp only [Act.put, List.setIfInBounds_toArray, List.set_cons_zero, List.set_cons_succ]
          refine wpAnyH_takeL (i := 8) (d := some 72) (v := .agg (xA (Dd.mk e0.tx d9))) rfl rfl (by kernel_rfl) (by kernel_rfl) (by kernel_rfl) (fun _ _ _ h => h) (Or.inl ⟨by rfl, ?_⟩) hHeld ?_
          · intro w hSw; (try dsimp only at hSw); go_simp
          try simp only [Act.put, List.setIfInBounds_toArray, List.set_cons_zero, List.set_cons_succ]
          refine wpAnyH_takeL (i := 9) (d := some 73) (v := .int .i64 0) rfl rfl (by kernel_rfl) (by kernel_rfl) (by kernel_rfl) (fun _ _ _ h => h) (Or.inl ⟨by rfl, ?_⟩) hHeld ?_
          · intro w hSw; (try dsimp only at hSw); go_simp
          try simp only [Act.put, List.setIfInBounds_toArray, List.set_cons_zero, List.set_cons_succ]
          refine wpAnyH_ready (rs := [10]) (by kernel_rfl) (by simp) ?_
          refine AllReadyH.cons rfl (fun K hK => ?_) AllReadyH.nil
          refine rd_alloc rfl 76 rfl (some 12) rfl (xA zeroX) zero_dr ?_
          refine ⟨fun V17 g17 n17 f17 => ?_⟩
          have ne17_y := f17.ne r15_y
          have ne17_r := f17.ne r15_r
          have ne17_z := f17.ne r15_z
          have up17 : w.heap.size ≤ g17 := f17.up l15
          have bl17 := f17.bel
          clear f17
          have r18_y := le_on r15_y bl17
          have r18_r := le_on r15_r bl17
          have r18_z := le_on r15_z bl17
          have r18_xs := (r15_xs).on bl17
          have r18_el := (r15_el).on bl17
          have l18 := le_tr l15 bl17
          clear r15_y r15_r r15_z r15_xs r15_el l15
          clear bl17
          have y19 := Lib.hid (show (fun V : World => CB V g1 28 (yA ⟨some ⟨ga, ofa, none⟩, xn, xc, la, ln, lc⟩) ∧ CB V g3 34 (rA r) ∧ EL w V ga (ofa + k * 30) (xcl e0)) V17 from ⟨r18_y, r18_r, r18_el⟩)
          refine hK.out _ _ y19.out (fun hHeld => ?_)
          clear hK K y19
          try simp only [Act.put, List.setIfInBounds_toArray, List.set_cons_zero, List.set_cons_succ]
          refine wpAnyH_ready (rs := [11]) (by kernel_rfl) (by simp) ?_
          refine AllReadyH.cons rfl (fun K hK => ?_) AllReadyH.nil
          refine rd_store rfl 76 _ _ rfl none rfl g17 (xA (Dd.mk e0.tx d9)) rfl rfl n17 Try.zDr rfl (xA_one _) ?_
          refine ⟨fun V20 n20 k20 => ?_⟩
          have m20_y := k20.on r18_y ne17_y
          have m20_r := k20.on r18_r ne17_r
          have m20_z := k20.on r18_z ne17_z
          have m20_xs := (r18_xs).wr k20 up17
          have m20_el := (r18_el).wr k20 up17
          have o20 := k20.bel _ _ l18 up17
          clear k20
          clear n17 r18_y r18_r r18_z r18_xs r18_el l18
          have y21 := Lib.hid (show (fun V : World => CB V g1 28 (yA ⟨some ⟨ga, ofa, none⟩, xn, xc, la, ln, lc⟩) ∧ CB V g3 34 (rA r) ∧ EL w V ga (ofa + k * 30) (xcl e0)) V20 from ⟨m20_y, m20_r, m20_el⟩)
          refine hK.out _ _ y21.out (fun hHeld => ?_)
          clear hK K y21
          try simp only [Act.put, List.setIfInBounds_toArray, List.set_cons_zero, List.set_cons_succ]
          refine wpAnyH_takeL (i := 12) (d := some 13) (v := .int .i64 0) rfl rfl (by kernel_rfl) (by kernel_rfl) (by kernel_rfl) (fun _ _ _ h => h) (Or.inl ⟨by rfl, ?_⟩) hHeld ?_
          · intro w hSw; (try dsimp only at hSw); go_simp
          try simp only [Act.put, List.setIfInBounds_toArray, List.set_cons_zero, List.set_cons_succ]
          refine wpAnyH_done (by kernel_rfl) ?_ _
          have ltd := CB.lt n20
          have lo22 : w.heap.size ≤ V20.heap.size := o20.size
          go_wp2_with (first | ((with_reducible refine st_lit0 26 76 Try.underlying26 Try.infoX2 ?_)))
          refine ⟨fun V22 g22 n22 f22 => ?_⟩
          have ys22 := le_on m20_y f22.bel
          have xs22 := (m20_xs).on f22.bel
          have bl22 := f22.bel
          have at22 := f22.at_
          clear f22
          have cy22 : V22.cell? ⟨g1, 0, none⟩ = some (.slice (some ⟨ga, ofa, none⟩) xn xc) := CB.cell ys22 0
          obtain ⟨Gx22, sx22⟩ := xs22.rs
          go_wp2_with (first | ((with_reducible refine st_app (.tmp 78) (.tmp 80) 26 76 Try.underlying26 Try.infoX rfl (by decide) (A := some ⟨g22, 0, none⟩) (n := 0) (c := 0) (G := some g22) rfl (Seg.lit0 n22) (k := xc) rfl sx22.src (rc_one 30 C) (by simp only [maxLen]; omega) (by omega) xn (by omega) ?_)))
          refine ⟨fun B22 m22 q22 w22 s22 h22 k22 => ?_⟩
          simp only [List.nil_append] at s22
          have hG22 : ∀ g, q22 = some g → w.heap.size ≤ g := fun g e => by
            rcases k22 with e' | ⟨g', e', hg'⟩
            · rw [e'] at e; cases e; omega
            · rw [e'] at e; cases e; exact Nat.le_trans lo22 (Nat.le_trans bl22.size hg')
          have hGG22 : ∀ g, q22 = some g → V20.heap.size ≤ g := fun g e => by
            rcases k22 with e' | ⟨g', e', hg'⟩
            · rw [e'] at e; cases e; omega
            · rw [e'] at e; cases e; exact Nat.le_trans bl22.size hg'
          have bb22 : Below V20.heap.size V20 w22 := bl22.grown h22 bl22.size (fun g e => by cases e; omega)
          clear h22 k22 n22 ys22 sx22 cy22 bl22
          have r23_y := le_on m20_y bb22
          have r23_r := le_on m20_r bb22
          have r23_z := le_on m20_z bb22
          have r23_d := le_on n20 bb22
          have r23_xs := (m20_xs).on bb22
          have r23_el := (m20_el).on bb22
          have l23 := le_tr o20 bb22
          clear m20_y m20_r m20_z n20 m20_xs m20_el o20
          clear bb22 at22
          obtain ⟨gs, ofs, hBs, hqs⟩ := seg_some s22 (by omega)
          subst hBs hqs
          have hgd : gs ≠ g17 := by have := hGG22 gs rfl; omega
          have hup := hG22 gs rfl
          clear hGG22 hG22 ltd
          go_wp2_with (first | (first | ((with_reducible refine st_load 76 _ g17 ?_ r23_d Try.underlying76 ?_ ?_ ?_); exact rfl; exact rfl; exact Try.zDr) | ((with_reducible refine st_loadG 76 _ g17 ?_ r23_d Try.underlying76 ?_ ?_ ?_ ?_); exact rfl; exact rfl; exact Try.zDr; exact rfl)) | ((with_reducible refine st_slot (c := xcl) (s := 30) 76 _ _ gs ofs k (Dd.mk e0.tx d9) ?_ ?_ s22 hkn ?_ ?_ ?_); exact rfl; exact rfl; exact Try.zDr; exact xA_one _))
          refine ⟨fun V24 s24 k24 => ?_⟩
          have y24_y := k24.on r23_y (fun e => by subst e; exact (s22).ne_ r23_y (by decide) rfl)
          have y24_r := k24.on r23_r (fun e => by subst e; exact (s22).ne_ r23_r (by decide) rfl)
          have y24_z := k24.on r23_z (fun e => by subst e; exact (s22).ne_ r23_z (by decide) rfl)
          have y24_d := k24.on r23_d hgd.symm
          have b24 := k24.bel _ _ l23 hup
          clear k24 hgd hup s22 r23_y r23_r r23_z r23_d l23 r23_xs r23_el
          go_wp2_with (first | ((with_reducible refine st_cell 26 _ _ g1 0 (.slice (some ⟨gs, ofs, none⟩) xn m22) ?_ ?_ y24_y (new := yA ⟨some ⟨gs, ofs, none⟩, xn, m22, la, ln, lc⟩) ?_ ?_ ?_ ?_ ?_ ?_); exact rfl; exact rfl; exact (by rw [yA_size]; decide); exact yA_1 _ _ _ _; exact one_sx; exact rfl; exact rfl))
          refine ⟨fun V25 n25 k25 => ?_⟩
          have m25_r := k25.on y24_r (Ne.symm ne3_y)
          have m25_z := k25.on y24_z (Ne.symm ne5_y)
          have m25_d := k25.on y24_d (Ne.symm ne17_y)
          have m25_s := (s24).keep fun g e => k25.far g (fun e' => (s24).ne_ y24_y (by decide) (by rw [e, e']))
          have o25 := k25.bel _ _ b24 up1
          clear k25
          clear y24_y y24_r y24_z y24_d s24 b24
          by_cases ho : d9.out = 0
          · have q9 : (d9.out != 0) = false := by simp [ho]
            have HN := Lib.hid (show nDoC (fnC C) r = 0 by rw [HN0.out]; rw [if_pos ho])
            clear ho HN0
            have c26 : V25.cell? ⟨g17, 29, none⟩ = some (.int .i64 d9.out) := CB.cell m25_d 29
            go_wp2_with (first | (first | ((with_reducible refine st_load 28 _ g1 ?_ n25 Try.underlying28 ?_ ?_ ?_); exact rfl; exact rfl; exact Try.zCr) | ((with_reducible refine st_loadG 28 _ g1 ?_ n25 Try.underlying28 ?_ ?_ ?_ ?_); exact rfl; exact rfl; exact Try.zCr; exact rfl)) | ((with_reducible refine st_store 28 _ _ g5 (yA ⟨some ⟨gs, ofs, none⟩, xn, m22, la, ln, lc⟩) ?_ ?_ m25_z ?_ ?_ ?_ ?_); exact rfl; exact rfl; exact Try.zCr; exact rfl; exact yA_one _))
            refine ⟨fun V27 n27 k27 => ?_⟩
            clear c26
            have m27_y := k27.on n25 ne5_y
            have m27_r := k27.on m25_r ne5_r
            have m27_d := k27.on m25_d (Ne.symm ne17_z)
            have m27_s := (m25_s).keep fun g e => k27.far g (fun e' => (m25_s).ne_ m25_z (by decide) (by rw [e, e']))
            have o27 := k27.bel _ _ o25 up5
            clear k27
            clear m25_z n25 m25_r m25_d m25_s o25
            go_wp2_with fail
            refine bodyPost_ret (v := .tuple #[.agg (yA ⟨some ⟨gs, ofs, none⟩, xn, m22, la, ln, lc⟩), .int .i64 0, .int .i64 0]) (res_three Try.results26 rfl rfl rfl n27 Try.underlying28 rfl Try.zCr) rfl ⟨some ⟨gs, ofs, none⟩, xn, m22, C.set k ⟨e0.tx, d9⟩, by rw [HN.out, HE.out] <;> rfl, ⟨_, m27_s⟩, f1, HS.out, o27⟩
          · have q9 : (d9.out != 0) = true := by simp [ho]
            have HN := Lib.hid (show nDoC (fnC C) r = 1 by rw [HN0.out]; rw [if_neg ho])
            clear ho HN0
            have c26 : V25.cell? ⟨g17, 29, none⟩ = some (.int .i64 d9.out) := CB.cell m25_d 29
            go_wp2_with (first | (first | ((with_reducible refine st_load 28 _ g1 ?_ n25 Try.underlying28 ?_ ?_ ?_); exact rfl; exact rfl; exact Try.zCr) | ((with_reducible refine st_loadG 28 _ g1 ?_ n25 Try.underlying28 ?_ ?_ ?_ ?_); exact rfl; exact rfl; exact Try.zCr; exact rfl)) | ((with_reducible refine st_store 28 _ _ g5 (yA ⟨some ⟨gs, ofs, none⟩, xn, m22, la, ln, lc⟩) ?_ ?_ m25_z ?_ ?_ ?_ ?_); exact rfl; exact rfl; exact Try.zCr; exact rfl; exact yA_one _))
            refine ⟨fun V27 n27 k27 => ?_⟩
            clear c26
            have m27_y := k27.on n25 ne5_y
            have m27_r := k27.on m25_r ne5_r
            have m27_d := k27.on m25_d (Ne.symm ne17_z)
            have m27_s := (m25_s).keep fun g e => k27.far g (fun e' => (m25_s).ne_ m25_z (by decide) (by rw [e, e']))
            have o27 := k27.bel _ _ o25 up5
            clear k27
            clear m25_z n25 m25_r m25_d m25_s o25
            go_wp2_with fail
            refine bodyPost_ret (v := .tuple #[.agg (yA ⟨some ⟨gs, ofs, none⟩, xn, m22, la, ln, lc⟩), .int .i64 1, .int .i64 0]) (res_three Try.results26 rfl rfl rfl n27 Try.underlying28 rfl Try.zCr) rfl ⟨some ⟨gs, ofs, none⟩, xn, m22, C.set k ⟨e0.tx, d9⟩, by rw [HN.out, HE.out] <;> rfl, ⟨_, m27_s⟩, f1, HS.out, o27⟩
        · skip
          refine rd_alloc rfl 76 rfl (some 12) rfl (xA zeroX) zero_dr ?_
          refine ⟨fun V14 g14 n14 f14 => ?_⟩
          have ne14_y := f14.ne r13_y
          have ne14_r := f14.ne r13_r
          have ne14_z := f14.ne r13_z
          have up14 : w.heap.size ≤ g14 := f14.up l13
          have bl14 := f14.bel
          clear f14
          have r15_y := le_on r13_y bl14
          have r15_r := le_on r13_r bl14
          have r15_z := le_on r13_z bl14
          have r15_xs := (r13_xs).on bl14
          have r15_el := (r13_el).on bl14
          have l15 := le_tr l13 bl14
          clear r13_y r13_r r13_z r13_xs r13_el l13
          clear bl14
          have y16 := Lib.hid (show (fun V : World => CB V g1 28 (yA ⟨some ⟨ga, ofa, none⟩, xn, xc, la, ln, lc⟩) ∧ CB V g3 34 (rA r) ∧ EL w V ga (ofa + k * 30) (xcl e0)) V14 from ⟨r15_y, r15_r, r15_el⟩)
          refine hK.out _ _ y16.out (fun hHeld => ?_)
          clear hK K y16
          try simp only [Act.put, List.setIfInBounds_toArray, List.set_cons_zero, List.set_cons_succ]
          refine wpAnyH_ready (rs := [6]) (by kernel_rfl) (by simp) ?_
          refine AllReadyH.cons rfl (fun K hK => ?_) AllReadyH.nil
          go_simp
          (with_reducible refine (D1 _).mono ?_)
          rintro e u17 ⟨rfl, b17⟩
          have r18_y := le_on r15_y b17
          have r18_r := le_on r15_r b17
          have r18_z := le_on r15_z b17
          have r18_d := le_on n14 b17
          have r18_xs := (r15_xs).on b17
          have r18_el := (r15_el).on b17
          have l18 := le_tr l15 b17
          clear r15_y r15_r r15_z n14 r15_xs r15_el l15
          clear b17
          go_wp2_with fail
          have y19 := Lib.hid (show (fun V : World => CB V g1 28 (yA ⟨some ⟨ga, ofa, none⟩, xn, xc, la, ln, lc⟩) ∧ CB V g3 34 (rA r) ∧ EL w V ga (ofa + k * 30) (xcl e0)) u17 from ⟨r18_y, r18_r, r18_el⟩)
          refine hK.out _ _ y19.out (fun hHeld => ?_)
          clear hK K y19
          try simp only [Act.put, List.setIfInBounds_toArray, List.set_cons_zero, List.set_cons_succ]
          refine wpAnyH_takeL (i := 7) (d := some 64) (v := .tuple #[.agg (xA (Dd.mk e0.tx d9)), .int .i64 0]) rfl rfl (by kernel_rfl) (by kernel_rfl) (by kernel_rfl) (fun _ _ _ h => h) (Or.inl ⟨by rfl, ?_⟩) hHeld ?_
          · intro w hSw; (try dsimp only at hSw); go_simp
          try simp only [Act.put, List.setIfInBounds_toArray, List.set_cons_zero, List.set_cons_succ]
          refine wpAnyH_takeL (i := 8) (d := some 72) (v := .agg (xA (Dd.mk e0.tx d9))) rfl rfl (by kernel_rfl) (by kernel_rfl) (by kernel_rfl) (fun _ _ _ h => h) (Or.inl ⟨by rfl, ?_⟩) hHeld ?_
          · intro w hSw; (try dsimp only at hSw); go_simp
          try simp only [Act.put, List.setIfInBounds_toArray, List.set_cons_zero, List.set_cons_succ]
          refine wpAnyH_takeL (i := 9) (d := some 73) (v := .int .i64 0) rfl rfl (by kernel_rfl) (by kernel_rfl) (by kernel_rfl) (fun _ _ _ h => h) (Or.inl ⟨by rfl, ?_⟩) hHeld ?_
          · intro w hSw; (try dsimp only at hSw); go_simp
          try simp only [Act.put, List.setIfInBounds_toArray, List.set_cons_zero, List.set_cons_succ]
          refine wpAnyH_ready (rs := [11]) (by kernel_rfl) (by simp) ?_
          refine AllReadyH.cons rfl (fun K hK => ?_) AllReadyH.nil
          refine rd_store rfl 76 _ _ rfl none rfl g14 (xA (Dd.mk e0.tx d9)) rfl rfl r18_d Try.zDr rfl (xA_one _) ?_
          refine ⟨fun V20 n20 k20 => ?_⟩
          have m20_y := k20.on r18_y ne14_y
          have m20_r := k20.on r18_r ne14_r
          have m20_z := k20.on r18_z ne14_z
          have m20_xs := (r18_xs).wr k20 up14
          have m20_el := (r18_el).wr k20 up14
          have o20 := k20.bel _ _ l18 up14
          clear k20
          clear r18_d r18_y r18_r r18_z r18_xs r18_el l18
          have y21 := Lib.hid (show (fun V : World => CB V g1 28 (yA ⟨some ⟨ga, ofa, none⟩, xn, xc, la, ln, lc⟩) ∧ CB V g3 34 (rA r) ∧ EL w V ga (ofa + k * 30) (xcl e0)) V20 from ⟨m20_y, m20_r, m20_el⟩)
          refine hK.out _ _ y21.out (fun hHeld => ?_)
          clear hK K y21
          try simp only [Act.put, List.setIfInBounds_toArray, List.set_cons_zero, List.set_cons_succ]
          refine wpAnyH_takeL (i := 12) (d := some 13) (v := .int .i64 0) rfl rfl (by kernel_rfl) (by kernel_rfl) (by kernel_rfl) (fun _ _ _ h => h) (Or.inl ⟨by rfl, ?_⟩) hHeld ?_
          · intro w hSw; (try dsimp only at hSw); go_simp
          try simp only [Act.put, List.setIfInBounds_toArray, List.set_cons_zero, List.set_cons_succ]
          refine wpAnyH_done (by kernel_rfl) ?_ _
          have ltd := CB.lt n20
          have lo22 : w.heap.size ≤ V20.heap.size := o20.size
          go_wp2_with (first | ((with_reducible refine st_lit0 26 76 Try.underlying26 Try.infoX2 ?_)))
          refine ⟨fun V22 g22 n22 f22 => ?_⟩
          have ys22 := le_on m20_y f22.bel
          have xs22 := (m20_xs).on f22.bel
          have bl22 := f22.bel
          have at22 := f22.at_
          clear f22
          have cy22 : V22.cell? ⟨g1, 0, none⟩ = some (.slice (some ⟨ga, ofa, none⟩) xn xc) := CB.cell ys22 0
          obtain ⟨Gx22, sx22⟩ := xs22.rs
          go_wp2_with (first | ((with_reducible refine st_app (.tmp 78) (.tmp 80) 26 76 Try.underlying26 Try.infoX rfl (by decide) (A := some ⟨g22, 0, none⟩) (n := 0) (c := 0) (G := some g22) rfl (Seg.lit0 n22) (k := xc) rfl sx22.src (rc_one 30 C) (by simp only [maxLen]; omega) (by omega) xn (by omega) ?_)))
          refine ⟨fun B22 m22 q22 w22 s22 h22 k22 => ?_⟩
          simp only [List.nil_append] at s22
          have hG22 : ∀ g, q22 = some g → w.heap.size ≤ g := fun g e => by
            rcases k22 with e' | ⟨g', e', hg'⟩
            · rw [e'] at e; cases e; omega
            · rw [e'] at e; cases e; exact Nat.le_trans lo22 (Nat.le_trans bl22.size hg')
          have hGG22 : ∀ g, q22 = some g → V20.heap.size ≤ g := fun g e => by
            rcases k22 with e' | ⟨g', e', hg'⟩
            · rw [e'] at e; cases e; omega
            · rw [e'] at e; cases e; exact Nat.le_trans bl22.size hg'
          have bb22 : Below V20.heap.size V20 w22 := bl22.grown h22 bl22.size (fun g e => by cases e; omega)
          clear h22 k22 n22 ys22 sx22 cy22 bl22
          have r23_y := le_on m20_y bb22
          have r23_r := le_on m20_r bb22
          have r23_z := le_on m20_z bb22
          have r23_d := le_on n20 bb22
          have r23_xs := (m20_xs).on bb22
          have r23_el := (m20_el).on bb22
          have l23 := le_tr o20 bb22
          clear m20_y m20_r m20_z n20 m20_xs m20_el o20
          clear bb22 at22
          obtain ⟨gs, ofs, hBs, hqs⟩ := seg_some s22 (by omega)
          subst hBs hqs
          have hgd : gs ≠ g14 := by have := hGG22 gs rfl; omega
          have hup := hG22 gs rfl
          clear hGG22 hG22 ltd
          go_wp2_with (first | (first | ((with_reducible refine st_load 76 _ g14 ?_ r23_d Try.underlying76 ?_ ?_ ?_); exact rfl; exact rfl; exact Try.zDr) | ((with_reducible refine st_loadG 76 _ g14 ?_ r23_d Try.underlying76 ?_ ?_ ?_ ?_); exact rfl; exact rfl; exact Try.zDr; exact rfl)) | ((with_reducible refine st_slot (c := xcl) (s := 30) 76 _ _ gs ofs k (Dd.mk e0.tx d9) ?_ ?_ s22 hkn ?_ ?_ ?_); exact rfl; exact rfl; exact Try.zDr; exact xA_one _))
          refine ⟨fun V24 s24 k24 => ?_⟩
          have y24_y := k24.on r23_y (fun e => by subst e; exact (s22).ne_ r23_y (by decide) rfl)
          have y24_r := k24.on r23_r (fun e => by subst e; exact (s22).ne_ r23_r (by decide) rfl)
          have y24_z := k24.on r23_z (fun e => by subst e; exact (s22).ne_ r23_z (by decide) rfl)
          have y24_d := k24.on r23_d hgd.symm
          have b24 := k24.bel _ _ l23 hup
          clear k24 hgd hup s22 r23_y r23_r r23_z r23_d l23 r23_xs r23_el
          go_wp2_with (first | ((with_reducible refine st_cell 26 _ _ g1 0 (.slice (some ⟨gs, ofs, none⟩) xn m22) ?_ ?_ y24_y (new := yA ⟨some ⟨gs, ofs, none⟩, xn, m22, la, ln, lc⟩) ?_ ?_ ?_ ?_ ?_ ?_); exact rfl; exact rfl; exact (by rw [yA_size]; decide); exact yA_1 _ _ _ _; exact one_sx; exact rfl; exact rfl))
          refine ⟨fun V25 n25 k25 => ?_⟩
          have m25_r := k25.on y24_r (Ne.symm ne3_y)
          have m25_z := k25.on y24_z (Ne.symm ne5_y)
          have m25_d := k25.on y24_d (Ne.symm ne14_y)
          have m25_s := (s24).keep fun g e => k25.far g (fun e' => (s24).ne_ y24_y (by decide) (by rw [e, e']))
          have o25 := k25.bel _ _ b24 up1
          clear k25
          clear y24_y y24_r y24_z y24_d s24 b24
          by_cases ho : d9.out = 0
          · have q9 : (d9.out != 0) = false := by simp [ho]
            have HN := Lib.hid (show nDoC (fnC C) r = 0 by rw [HN0.out]; rw [if_pos ho])
            clear ho HN0
            have c26 : V25.cell? ⟨g14, 29, none⟩ = some (.int .i64 d9.out) := CB.cell m25_d 29
            go_wp2_with (first | (first | ((with_reducible refine st_load 28 _ g1 ?_ n25 Try.underlying28 ?_ ?_ ?_); exact rfl; exact rfl; exact Try.zCr) | ((with_reducible refine st_loadG 28 _ g1 ?_ n25 Try.underlying28 ?_ ?_ ?_ ?_); exact rfl; exact rfl; exact Try.zCr; exact rfl)) | ((with_reducible refine st_store 28 _ _ g5 (yA ⟨some ⟨gs, ofs, none⟩, xn, m22, la, ln, lc⟩) ?_ ?_ m25_z ?_ ?_ ?_ ?_); exact rfl; exact rfl; exact Try.zCr; exact rfl; exact yA_one _))
            refine ⟨fun V27 n27 k27 => ?_⟩
            clear c26
            have m27_y := k27.on n25 ne5_y
            have m27_r := k27.on m25_r ne5_r
            have m27_d := k27.on m25_d (Ne.symm ne14_z)
            have m27_s := (m25_s).keep fun g e => k27.far g (fun e' => (m25_s).ne_ m25_z (by decide) (by rw [e, e']))
            have o27 := k27.bel _ _ o25 up5
            clear k27
            clear m25_z n25 m25_r m25_d m25_s o25
            go_wp2_with fail
            refine bodyPost_ret (v := .tuple #[.agg (yA ⟨some ⟨gs, ofs, none⟩, xn, m22, la, ln, lc⟩), .int .i64 0, .int .i64 0]) (res_three Try.results26 rfl rfl rfl n27 Try.underlying28 rfl Try.zCr) rfl ⟨some ⟨gs, ofs, none⟩, xn, m22, C.set k ⟨e0.tx, d9⟩, by rw [HN.out, HE.out] <;> rfl, ⟨_, m27_s⟩, f1, HS.out, o27⟩
          · have q9 : (d9.out != 0) = true := by simp [ho]
            have HN := Lib.hid (show nDoC (fnC C) r = 1 by rw [HN0.out]; rw [if_neg ho])
            clear ho HN0
            have c26 : V25.cell? ⟨g14, 29, none⟩ = some (.int .i64 d9.out) := CB.cell m25_d 29
            go_wp2_with (first | (first | ((with_reducible refine st_load 28 _ g1 ?_ n25 Try.underlying28 ?_ ?_ ?_); exact rfl; exact rfl; exact Try.zCr) | ((with_reducible refine st_loadG 28 _ g1 ?_ n25 Try.underlying28 ?_ ?_ ?_ ?_); exact rfl; exact rfl; exact Try.zCr; exact rfl)) | ((with_reducible refine st_store 28 _ _ g5 (yA ⟨some ⟨gs, ofs, none⟩, xn, m22, la, ln, lc⟩) ?_ ?_ m25_z ?_ ?_ ?_ ?_); exact rfl; exact rfl; exact Try.zCr; exact rfl; exact yA_one _))
            refine ⟨fun V27 n27 k27 => ?_⟩
            clear c26
            have m27_y := k27.on n25 ne5_y
            have m27_r := k27.on m25_r ne5_r
            have m27_d := k27.on m25_d (Ne.symm ne14_z)
            have m27_s := (m25_s).keep fun g e => k27.far g (fun e' => (m25_s).ne_ m25_z (by decide) (by rw [e, e']))
            have o27 := k27.bel _ _ o25 up5
            clear k27
            clear m25_z n25 m25_r m25_d m25_s o25
            go_wp2_with fail
            refine bodyPost_ret (v := .tuple #[.agg (yA ⟨some ⟨gs, ofs, none⟩, xn, m22, la, ln, lc⟩), .int .i64 1, .int .i64 0]) (res_three Try.results26 rfl rfl rfl n27 Try.underlying28 rfl Try.zCr) rfl ⟨some ⟨gs, ofs, none⟩, xn, m22, C.set k ⟨e0.tx, d9⟩, by rw [HN.out, HE.out] <;> rfl, ⟨_, m27_s⟩, f1, HS.out, o27⟩
      have hz : ¬ eDoC (fnC C) r = 0 := by rw [HE.out]; exact hx
      have HN := Lib.hid (nDoC_n hz)
      have HS := Lib.hid (sDoC_n hz)
      have D1 : ∀ W, Calls Try.prog 35 #[.agg (xA e0), .agg (rA r)] W fun e w' => e = .returned (.tuple #[.agg (xA e0), .int .i64 (E : Int)]) ∧ Below W.heap.size W w' := fun W => by have := D1 W; rw [xDl_n (by rw [hE]; exact hx), hE] at this; exact this
      have q5 : ((E : Int) != 0) = true := by simp [hx]
      have q6 : (E != 0) = true := by simp [hx]
      clear hz hx hE hD h1 h4 he0
      go_enter Try.func26, Try.ntmps26
      go_wp2_with (first | ((with_reducible refine st_box 28 _ (yA ⟨some ⟨ga, ofa, none⟩, xn, xc, la, ln, lc⟩) ?_ ?_); exact rfl))
      refine ⟨fun V1 g1 n1 f1 => ?_⟩
      have up1 : w.heap.size ≤ g1 := Nat.le_of_eq f1.at_
      have bl1 := f1.bel
      clear f1
      have r2_xs := (xl).on bl1
      have r2_el := (hel).on bl1
      have l2 := le_tr (Below.refl _ _) bl1
      clear xl hel
      clear bl1
      go_wp2_with (first | ((with_reducible refine st_box 34 _ (rA r) ?_ ?_); exact rfl))
      refine ⟨fun V3 g3 n3 f3 => ?_⟩
      have ne3_y := f3.ne n1
      have up3 : w.heap.size ≤ g3 := f3.up l2
      have bl3 := f3.bel
      clear f3
      have r4_y := le_on n1 bl3
      have r4_xs := (r2_xs).on bl3
      have r4_el := (r2_el).on bl3
      have l4 := le_tr l2 bl3
      clear n1 r2_xs r2_el l2
      clear bl3
      go_wp2_with (first | ((with_reducible refine st_alloc 28 (yA zeroC) ?_ ?_); exact zero_cr))
      refine ⟨fun V5 g5 n5 f5 => ?_⟩
      have ne5_y := f5.ne r4_y
      have ne5_r := f5.ne n3
      have up5 : w.heap.size ≤ g5 := f5.up l4
      have bl5 := f5.bel
      clear f5
      have r6_y := le_on r4_y bl5
      have r6_r := le_on n3 bl5
      have r6_xs := (r4_xs).on bl5
      have r6_el := (r4_el).on bl5
      have l6 := le_tr l4 bl5
      clear r4_y n3 r4_xs r4_el l4
      clear bl5
      have c7 : V5.cell? ⟨g3, 0, none⟩ = some (.int .i64 r.kind) := CB.cell r6_r 0
      have c8 : V5.cell? ⟨g3, 1, none⟩ = some (.int .i64 r.tx) := CB.cell r6_r 1
      have c9 : V5.cell? ⟨g3, 1, none⟩ = some (.int .i64 r.tx) := CB.cell r6_r 1
      go_wp2_with (first | (first | ((with_reducible refine st_load 28 _ g1 ?_ r6_y Try.underlying28 ?_ ?_ ?_); exact rfl; exact rfl; exact Try.zCr) | ((with_reducible refine st_loadG 28 _ g1 ?_ r6_y Try.underlying28 ?_ ?_ ?_ ?_); exact rfl; exact rfl; exact Try.zCr; exact rfl)))
      refine (F1 _ r6_xs.rs).mono ?_
      rintro e w10 ⟨rfl, b10⟩
      clear c7 c8 c9
      have r11_y := le_on r6_y b10
      have r11_r := le_on r6_r b10
      have r11_z := le_on n5 b10
      have r11_xs := (r6_xs).on b10
      have r11_el := (r6_el).on b10
      have l11 := le_tr l6 b10
      clear r6_y r6_r n5 r6_xs r6_el l6
      clear b10
      go_wp2_with fail
      have y12 := Lib.hid (show (fun V : World => CB V g1 28 (yA ⟨some ⟨ga, ofa, none⟩, xn, xc, la, ln, lc⟩) ∧ CB V g3 34 (rA r) ∧ EL w V ga (ofa + k * 30) (xcl e0)) w10.drew from ⟨CB.drew r11_y, CB.drew r11_r, (r11_el).drew⟩)
      refine wp_region_held_drew (S := (fun V : World => CB V g1 28 (yA ⟨some ⟨ga, ofa, none⟩, xn, xc, la, ln, lc⟩) ∧ CB V g3 34 (rA r) ∧ EL w V ga (ofa + k * 30) (xcl e0))) (by kernel_rfl) y12.out (fun hHeld => ?_)
      obtain ⟨D12, hD12⟩ : ∃ V, w10.drew = V := ⟨_, rfl⟩
      have b12 : Below w10.heap.size w10 D12 := by rw [← hD12]; exact le_dr (Below.refl _ _)
      rw [hD12] at hHeld ⊢
      clear hD12
      have r13_y := le_on r11_y b12
      have r13_r := le_on r11_r b12
      have r13_z := le_on r11_z b12
      have r13_xs := (r11_xs).on b12
      have r13_el := (r11_el).on b12
      have l13 := le_tr l11 b12
      clear r11_y r11_r r11_z r11_xs r11_el l11
      clear b12
      refine wpAnyH_takeL (i := 0) (d := some 65) (v := .pointer (some ⟨g1, 0, none⟩)) rfl rfl (by kernel_rfl) (by kernel_rfl) (by kernel_rfl) (fun _ _ _ h => h) (Or.inl ⟨by rfl, ?_⟩) hHeld ?_
      · intro w hSw; (try dsimp only at hSw); go_simp
      try simp only [Act.put, List.setIfInBounds_toArray, List.set_cons_zero, List.set_cons_succ]
      refine wpAnyH_takeL (i := 1) (d := some 66) (v := .slice (some ⟨ga, ofa, none⟩) xn xc) rfl rfl (by kernel_rfl) (by kernel_rfl) (by kernel_rfl) (fun _ _ _ h => h) (Or.inl ⟨by rfl, ?_⟩) hHeld ?_
      · intro w hSw; (try dsimp only at hSw); have hcc : w.cell? ⟨g1, 0, none⟩ = some (.slice (some ⟨ga, ofa, none⟩) xn xc) := CB.cell hSw.1 0; go_simp
      try simp only [Act.put, List.setIfInBounds_toArray, List.set_cons_zero, List.set_cons_succ]
      refine wpAnyH_takeL (i := 2) (d := some 67) (v := .int .i64 (k : Int)) rfl rfl (by kernel_rfl) (by kernel_rfl) (by kernel_rfl) (fun _ _ _ h => h) (Or.inl ⟨by rfl, ?_⟩) hHeld ?_
      · intro w hSw; (try dsimp only at hSw); go_simp
      try simp only [Act.put, List.setIfInBounds_toArray, List.set_cons_zero, List.set_cons_succ]
      refine wpAnyH_takeL (i := 3) (d := some 68) (v := .pointer (some ⟨ga, ofa + k * 30, none⟩)) rfl rfl (by kernel_rfl) (by kernel_rfl) (by kernel_rfl) (fun _ _ _ h => h) (Or.inl ⟨by rfl, ?_⟩) hHeld ?_
      · intro w hSw; (try dsimp only at hSw); go_simp
      try simp only [Act.put, List.setIfInBounds_toArray, List.set_cons_zero, List.set_cons_succ]
      refine wpAnyH_takeL (i := 4) (d := some 69) (v := .agg (xA e0)) rfl rfl (by kernel_rfl) (by kernel_rfl) (by kernel_rfl) (fun _ _ _ h => h) (Or.inl ⟨by rfl, ?_⟩) hHeld ?_
      · intro w hSw; exact yl_elem 76 _ ga (ofa + k * 30) (xA e0) rfl (show w.rangeAt ga (ofa + k * 30) (xA e0).toList from hSw.2.2.out) Try.underlying76 rfl Try.zDr
      try simp only [Act.put, List.setIfInBounds_toArray, List.set_cons_zero, List.set_cons_succ]
      refine wpAnyH_takeL (i := 5) (d := some 70) (v := .agg (rA r)) rfl rfl (by kernel_rfl) (by kernel_rfl) (by kernel_rfl) (fun _ _ _ h => h) (Or.inl ⟨by rfl, ?_⟩) hHeld ?_
      · intro w hSw; exact yl_whole 34 _ g3 rfl hSw.2.1 Try.underlying34 rfl Try.zRr
      try simp only [Act.put, List.setIfInBounds_toArray, List.set_cons_zero, List.set_cons_succ]
      refine wpAnyH_ready (rs := [6, 10]) (by kernel_rfl) (by simp) ?_
      refine AllReadyH.cons rfl (fun K hK => ?_) (AllReadyH.cons rfl (fun K hK => ?_) AllReadyH.nil)
      · skip
        go_simp
        (with_reducible refine (D1 _).mono ?_)
        rintro e u14 ⟨rfl, b14⟩
        have r15_y := le_on r13_y b14
        have r15_r := le_on r13_r b14
        have r15_z := le_on r13_z b14
        have r15_xs := (r13_xs).on b14
        have r15_el := (r13_el).on b14
        have l15 := le_tr l13 b14
        clear r13_y r13_r r13_z r13_xs r13_el l13
        clear b14
        go_wp2_with fail
        have y16 := Lib.hid (show (fun V : World => CB V g1 28 (yA ⟨some ⟨ga, ofa, none⟩, xn, xc, la, ln, lc⟩) ∧ CB V g3 34 (rA r) ∧ EL w V ga (ofa + k * 30) (xcl e0)) u14 from ⟨r15_y, r15_r, r15_el⟩)
        refine hK.out _ _ y16.out (fun hHeld => ?_)
        clear hK K y16
        try simp only [Act.put, List.setIfInBounds_toArray, List.set_cons_zero, List.set_cons_succ]
        refine wpAnyH_takeL (i := 7) (d := some 64) (v := .tuple #[.agg (xA e0), .int .i64 (E : Int)]) rfl rfl (by kernel_rfl) (by kernel_rfl) (by kernel_rfl) (fun _ _ _ h => h) (Or.inl ⟨by rfl, ?_⟩) hHeld ?_
        · intro w hSw; (try dsimp only at hSw); go_simp
        try simp only [Act.put, List.setIfInBounds_toArray, List.set_cons_zero, List.set_cons_succ]
        refine wpAnyH_takeL (i := 8) (d := some 72) (v := .agg (xA e0)) rfl rfl (by kernel_rfl) (by kernel_rfl) (by kernel_rfl) (fun _ _ _ h => h) (Or.inl ⟨by rfl, ?_⟩) hHeld ?_
        · intro w hSw; (try dsimp only at hSw); go_simp
        try simp only [Act.put, List.setIfInBounds_toArray, List.set_cons_zero, List.set_cons_succ]
        refine wpAnyH_takeL (i := 9) (d := some 73) (v := .int .i64 (E : Int)) rfl rfl (by kernel_rfl) (by kernel_rfl) (by kernel_rfl) (fun _ _ _ h => h) (Or.inl ⟨by rfl, ?_⟩) hHeld ?_
        · intro w hSw; (try dsimp only at hSw); go_simp
        try simp only [Act.put, List.setIfInBounds_toArray, List.set_cons_zero, List.set_cons_succ]
        refine wpAnyH_ready (rs := [10]) (by kernel_rfl) (by simp) ?_
        refine AllReadyH.cons rfl (fun K hK => ?_) AllReadyH.nil
        refine rd_alloc rfl 76 rfl (some 12) rfl (xA zeroX) zero_dr ?_
        refine ⟨fun V17 g17 n17 f17 => ?_⟩
        have ne17_y := f17.ne r15_y
        have ne17_r := f17.ne r15_r
        have ne17_z := f17.ne r15_z
        have up17 : w.heap.size ≤ g17 := f17.up l15
        have bl17 := f17.bel
        clear f17
        have r18_y := le_on r15_y bl17
        have r18_r := le_on r15_r bl17
        have r18_z := le_on r15_z bl17
        have r18_xs := (r15_xs).on bl17
        have r18_el := (r15_el).on bl17
        have l18 := le_tr l15 bl17
        clear r15_y r15_r r15_z r15_xs r15_el l15
        clear bl17
        have y19 := Lib.hid (show (fun V : World => CB V g1 28 (yA ⟨some ⟨ga, ofa, none⟩, xn, xc, la, ln, lc⟩) ∧ CB V g3 34 (rA r) ∧ EL w V ga (ofa + k * 30) (xcl e0)) V17 from ⟨r18_y, r18_r, r18_el⟩)
        refine hK.out _ _ y19.out (fun hHeld => ?_)
        clear hK K y19
        try simp only [Act.put, List.setIfInBounds_toArray, List.set_cons_zero, List.set_cons_succ]
        refine wpAnyH_ready (rs := [11]) (by kernel_rfl) (by simp) ?_
        refine AllReadyH.cons rfl (fun K hK => ?_) AllReadyH.nil
        refine rd_store rfl 76 _ _ rfl none rfl g17 (xA e0) rfl rfl n17 Try.zDr rfl (xA_one _) ?_
        refine ⟨fun V20 n20 k20 => ?_⟩
        have m20_y := k20.on r18_y ne17_y
        have m20_r := k20.on r18_r ne17_r
        have m20_z := k20.on r18_z ne17_z
        have m20_xs := (r18_xs).wr k20 up17
        have m20_el := (r18_el).wr k20 up17
        have o20 := k20.bel _ _ l18 up17
        clear k20
        clear n17 r18_y r18_r r18_z r18_xs r18_el l18
        have y21 := Lib.hid (show (fun V : World => CB V g1 28 (yA ⟨some ⟨ga, ofa, none⟩, xn, xc, la, ln, lc⟩) ∧ CB V g3 34 (rA r) ∧ EL w V ga (ofa + k * 30) (xcl e0)) V20 from ⟨m20_y, m20_r, m20_el⟩)
        refine hK.out _ _ y21.out (fun hHeld => ?_)
        clear hK K y21
        try simp only [Act.put, List.setIfInBounds_toArray, List.set_cons_zero, List.set_cons_succ]
        refine wpAnyH_takeL (i := 12) (d := some 13) (v := .int .i64 (E : Int)) rfl rfl (by kernel_rfl) (by kernel_rfl) (by kernel_rfl) (fun _ _ _ h => h) (Or.inl ⟨by rfl, ?_⟩) hHeld ?_
        · intro w hSw; (try dsimp only at hSw); go_simp
        try simp only [Act.put, List.setIfInBounds_toArray, List.set_cons_zero, List.set_cons_succ]
        refine wpAnyH_done (by kernel_rfl) ?_ _
        go_wp2_with (first | (first | ((with_reducible refine st_load 28 _ g1 ?_ m20_y Try.underlying28 ?_ ?_ ?_); exact rfl; exact rfl; exact Try.zCr) | ((with_reducible refine st_loadG 28 _ g1 ?_ m20_y Try.underlying28 ?_ ?_ ?_ ?_); exact rfl; exact rfl; exact Try.zCr; exact rfl)) | ((with_reducible refine st_store 28 _ _ g5 (yA ⟨some ⟨ga, ofa, none⟩, xn, xc, la, ln, lc⟩) ?_ ?_ m20_z ?_ ?_ ?_ ?_); exact rfl; exact rfl; exact Try.zCr; exact rfl; exact yA_one _))
        refine ⟨fun V22 n22 k22 => ?_⟩
        have m22_y := k22.on m20_y ne5_y
        have m22_r := k22.on m20_r ne5_r
        have m22_d := k22.on n20 (Ne.symm ne17_z)
        have m22_xs := (m20_xs).wr k22 up5
        have m22_el := (m20_el).wr k22 up5
        have o22 := k22.bel _ _ o20 up5
        clear k22
        clear m20_z m20_y m20_r n20 m20_xs m20_el o20
        go_wp2_with fail
        refine bodyPost_ret (v := .tuple #[.agg (yA ⟨some ⟨ga, ofa, none⟩, xn, xc, la, ln, lc⟩), .int .i64 0, .int .i64 (E : Int)]) (res_three Try.results26 rfl rfl rfl n22 Try.underlying28 rfl Try.zCr) rfl ⟨some ⟨ga, ofa, none⟩, xn, xc, C, by rw [HN.out, HE.out] <;> rfl, m22_xs.rs, hC, HS.out.symm, o22⟩
      · skip
        refine rd_alloc rfl 76 rfl (some 12) rfl (xA zeroX) zero_dr ?_
        refine ⟨fun V14 g14 n14 f14 => ?_⟩
        have ne14_y := f14.ne r13_y
        have ne14_r := f14.ne r13_r
        have ne14_z := f14.ne r13_z
        have up14 : w.heap.size ≤ g14 := f14.up l13
        have bl14 := f14.bel
        clear f14
        have r15_y := le_on r13_y bl14
        have r15_r := le_on r13_r bl14
        have r15_z := le_on r13_z bl14
        have r15_xs := (r13_xs).on bl14
        have r15_el := (r13_el).on bl14
        have l15 := le_tr l13 bl14
        clear r13_y r13_r r13_z r13_xs r13_el l13
        clear bl14
        have y16 := Lib.hid (show (fun V : World => CB V g1 28 (yA ⟨some ⟨ga, ofa, none⟩, xn, xc, la, ln, lc⟩) ∧ CB V g3 34 (rA r) ∧ EL w V ga (ofa + k * 30) (xcl e0)) V14 from ⟨r15_y, r15_r, r15_el⟩)
        refine hK.out _ _ y16.out (fun hHeld => ?_)
        clear hK K y16
        try simp only [Act.put, List.setIfInBounds_toArray, List.set_cons_zero, List.set_cons_succ]
        refine wpAnyH_ready (rs := [6]) (by kernel_rfl) (by simp) ?_
        refine AllReadyH.cons rfl (fun K hK => ?_) AllReadyH.nil
        go_simp
        (with_reducible refine (D1 _).mono ?_)
        rintro e u17 ⟨rfl, b17⟩
        have r18_y := le_on r15_y b17
        have r18_r := le_on r15_r b17
        have r18_z := le_on r15_z b17
        have r18_d := le_on n14 b17
        have r18_xs := (r15_xs).on b17
        have r18_el := (r15_el).on b17
        have l18 := le_tr l15 b17
        clear r15_y r15_r r15_z n14 r15_xs r15_el l15
        clear b17
        go_wp2_with fail
        have y19 := Lib.hid (show (fun V : World => CB V g1 28 (yA ⟨some ⟨ga, ofa, none⟩, xn, xc, la, ln, lc⟩) ∧ CB V g3 34 (rA r) ∧ EL w V ga (ofa + k * 30) (xcl e0)) u17 from ⟨r18_y, r18_r, r18_el⟩)
        refine hK.out _ _ y19.out (fun hHeld => ?_)
        clear hK K y19
        try simp only [Act.put, List.setIfInBounds_toArray, List.set_cons_zero, List.set_cons_succ]
        refine wpAnyH_takeL (i := 7) (d := some 64) (v := .tuple #[.agg (xA e0), .int .i64 (E : Int)]) rfl rfl (by kernel_rfl) (by kernel_rfl) (by kernel_rfl) (fun _ _ _ h => h) (Or.inl ⟨by rfl, ?_⟩) hHeld ?_
        · intro w hSw; (try dsimp only at hSw); go_simp
        try simp only [Act.put, List.setIfInBounds_toArray, List.set_cons_zero, List.set_cons_succ]
        refine wpAnyH_takeL (i := 8) (d := some 72) (v := .agg (xA e0)) rfl rfl (by kernel_rfl) (by kernel_rfl) (by kernel_rfl) (fun _ _ _ h => h) (Or.inl ⟨by rfl, ?_⟩) hHeld ?_
        · intro w hSw; (try dsimp only at hSw); go_simp
        try simp only [Act.put, List.setIfInBounds_toArray, List.set_cons_zero, List.set_cons_succ]
        refine wpAnyH_takeL (i := 9) (d := some 73) (v := .int .i64 (E : Int)) rfl rfl (by kernel_rfl) (by kernel_rfl) (by kernel_rfl) (fun _ _ _ h => h) (Or.inl ⟨by rfl, ?_⟩) hHeld ?_
        · intro w hSw; (try dsimp only at hSw); go_simp
        try simp only [Act.put, List.setIfInBounds_toArray, List.set_cons_zero, List.set_cons_succ]
        refine wpAnyH_ready (rs := [11]) (by kernel_rfl) (by simp) ?_
        refine AllReadyH.cons rfl (fun K hK => ?_) AllReadyH.nil
        refine rd_store rfl 76 _ _ rfl none rfl g14 (xA e0) rfl rfl r18_d Try.zDr rfl (xA_one _) ?_
        refine ⟨fun V20 n20 k20 => ?_⟩
        have m20_y := k20.on r18_y ne14_y
        have m20_r := k20.on r18_r ne14_r
        have m20_z := k20.on r18_z ne14_z
        have m20_xs := (r18_xs).wr k20 up14
        have m20_el := (r18_el).wr k20 up14
        have o20 := k20.bel _ _ l18 up14
        clear k20
        clear r18_d r18_y r18_r r18_z r18_xs r18_el l18
        have y21 := Lib.hid (show (fun V : World => CB V g1 28 (yA ⟨some ⟨ga, ofa, none⟩, xn, xc, la, ln, lc⟩) ∧ CB V g3 34 (rA r) ∧ EL w V ga (ofa + k * 30) (xcl e0)) V20 from ⟨m20_y, m20_r, m20_el⟩)
        refine hK.out _ _ y21.out (fun hHeld => ?_)
        clear hK K y21
        try simp only [Act.put, List.setIfInBounds_toArray, List.set_cons_zero, List.set_cons_succ]
        refine wpAnyH_takeL (i := 12) (d := some 13) (v := .int .i64 (E : Int)) rfl rfl (by kernel_rfl) (by kernel_rfl) (by kernel_rfl) (fun _ _ _ h => h) (Or.inl ⟨by rfl, ?_⟩) hHeld ?_
        · intro w hSw; (try dsimp only at hSw); go_simp
        try simp only [Act.put, List.setIfInBounds_toArray, List.set_cons_zero, List.set_cons_succ]
        refine wpAnyH_done (by kernel_rfl) ?_ _
        go_wp2_with (first | (first | ((with_reducible refine st_load 28 _ g1 ?_ m20_y Try.underlying28 ?_ ?_ ?_); exact rfl; exact rfl; exact Try.zCr) | ((with_reducible refine st_loadG 28 _ g1 ?_ m20_y Try.underlying28 ?_ ?_ ?_ ?_); exact rfl; exact rfl; exact Try.zCr; exact rfl)) | ((with_reducible refine st_store 28 _ _ g5 (yA ⟨some ⟨ga, ofa, none⟩, xn, xc, la, ln, lc⟩) ?_ ?_ m20_z ?_ ?_ ?_ ?_); exact rfl; exact rfl; exact Try.zCr; exact rfl; exact yA_one _))
        refine ⟨fun V22 n22 k22 => ?_⟩
        have m22_y := k22.on m20_y ne5_y
        have m22_r := k22.on m20_r ne5_r
        have m22_d := k22.on n20 (Ne.symm ne14_z)
        have m22_xs := (m20_xs).wr k22 up5
        have m22_el := (m20_el).wr k22 up5
        have o22 := k22.bel _ _ o20 up5
        clear k22
        clear m20_z m20_y m20_r n20 m20_xs m20_el o20
        go_wp2_with fail
        refine bodyPost_ret (v := .tuple #[.agg (yA ⟨some ⟨ga, ofa, none⟩, xn, xc, la, ln, lc⟩), .int .i64 0, .int .i64 (E : Int)]) (res_three Try.results26 rfl rfl rfl n22 Try.underlying28 rfl Try.zCr) rfl ⟨some ⟨ga, ofa, none⟩, xn, xc, C, by rw [HN.out, HE.out] <;> rfl, m22_xs.rs, hC, HS.out.symm, o22⟩
  · have xl := xl
    have HE := Lib.hid (show eDoC (fnC C) r = 2 from eDoC_2 hok)
    have hz : ¬ eDoC (fnC C) r = 0 := by rw [HE.out]; decide
    have HN := Lib.hid (nDoC_n hz)
    have HS := Lib.hid (sDoC_n hz)
    clear hz
    by_cases g1 : r.kind < 1
    · have d1 : decide (r.kind < 1) = true := by simp; omega
      clear hok g1
      go_enter Try.func26, Try.ntmps26
      go_wp2_with (first | ((with_reducible refine st_box 28 _ (yA ⟨xa, xn, xc, la, ln, lc⟩) ?_ ?_); exact rfl))
      refine ⟨fun V1 g1 n1 f1 => ?_⟩
      have up1 : w.heap.size ≤ g1 := Nat.le_of_eq f1.at_
      have bl1 := f1.bel
      clear f1
      have r2_xs := (xl).on bl1
      have l2 := le_tr (Below.refl _ _) bl1
      clear xl
      clear bl1
      go_wp2_with (first | ((with_reducible refine st_box 34 _ (rA r) ?_ ?_); exact rfl))
      refine ⟨fun V3 g3 n3 f3 => ?_⟩
      have ne3_y := f3.ne n1
      have up3 : w.heap.size ≤ g3 := f3.up l2
      have bl3 := f3.bel
      clear f3
      have r4_y := le_on n1 bl3
      have r4_xs := (r2_xs).on bl3
      have l4 := le_tr l2 bl3
      clear n1 r2_xs l2
      clear bl3
      go_wp2_with (first | ((with_reducible refine st_alloc 28 (yA zeroC) ?_ ?_); exact zero_cr))
      refine ⟨fun V5 g5 n5 f5 => ?_⟩
      have ne5_y := f5.ne r4_y
      have ne5_r := f5.ne n3
      have up5 : w.heap.size ≤ g5 := f5.up l4
      have bl5 := f5.bel
      clear f5
      have r6_y := le_on r4_y bl5
      have r6_r := le_on n3 bl5
      have r6_xs := (r4_xs).on bl5
      have l6 := le_tr l4 bl5
      clear r4_y n3 r4_xs l4
      clear bl5
      have c7 : V5.cell? ⟨g3, 0, none⟩ = some (.int .i64 r.kind) := CB.cell r6_r 0
      have c8 : V5.cell? ⟨g3, 1, none⟩ = some (.int .i64 r.tx) := CB.cell r6_r 1
      go_wp2_with (first | (first | ((with_reducible refine st_load 28 _ g1 ?_ r6_y Try.underlying28 ?_ ?_ ?_); exact rfl; exact rfl; exact Try.zCr) | ((with_reducible refine st_loadG 28 _ g1 ?_ r6_y Try.underlying28 ?_ ?_ ?_ ?_); exact rfl; exact rfl; exact Try.zCr; exact rfl)) | ((with_reducible refine st_store 28 _ _ g5 (yA ⟨xa, xn, xc, la, ln, lc⟩) ?_ ?_ n5 ?_ ?_ ?_ ?_); exact rfl; exact rfl; exact Try.zCr; exact rfl; exact yA_one _))
      refine ⟨fun V9 n9 k9 => ?_⟩
      clear c7 c8
      have m9_y := k9.on r6_y ne5_y
      have m9_r := k9.on r6_r ne5_r
      have m9_xs := (r6_xs).wr k9 up5
      have o9 := k9.bel _ _ l6 up5
      clear k9
      clear n5 r6_y r6_r r6_xs l6
      go_wp2_with fail
      refine bodyPost_ret (v := .tuple #[.agg (yA ⟨xa, xn, xc, la, ln, lc⟩), .int .i64 0, .int .i64 2]) (res_three Try.results26 rfl rfl rfl n9 Try.underlying28 rfl Try.zCr) rfl ⟨xa, xn, xc, C, by rw [HN.out, HE.out] <;> rfl, m9_xs.rs, hC, HS.out.symm, o9⟩
    have d1 : decide (r.kind < 1) = false := by simp; omega
    by_cases g2 : 4 < r.kind
    · have d2 : decide (4 < r.kind) = true := by simp; omega
      clear hok g1 g2
      go_enter Try.func26, Try.ntmps26
      go_wp2_with (first | ((with_reducible refine st_box 28 _ (yA ⟨xa, xn, xc, la, ln, lc⟩) ?_ ?_); exact rfl))
      refine ⟨fun V1 g1 n1 f1 => ?_⟩
      have up1 : w.heap.size ≤ g1 := Nat.le_of_eq f1.at_
      have bl1 := f1.bel
      clear f1
      have r2_xs := (xl).on bl1
      have l2 := le_tr (Below.refl _ _) bl1
      clear xl
      clear bl1
      go_wp2_with (first | ((with_reducible refine st_box 34 _ (rA r) ?_ ?_); exact rfl))
      refine ⟨fun V3 g3 n3 f3 => ?_⟩
      have ne3_y := f3.ne n1
      have up3 : w.heap.size ≤ g3 := f3.up l2
      have bl3 := f3.bel
      clear f3
      have r4_y := le_on n1 bl3
      have r4_xs := (r2_xs).on bl3
      have l4 := le_tr l2 bl3
      clear n1 r2_xs l2
      clear bl3
      go_wp2_with (first | ((with_reducible refine st_alloc 28 (yA zeroC) ?_ ?_); exact zero_cr))
      refine ⟨fun V5 g5 n5 f5 => ?_⟩
      have ne5_y := f5.ne r4_y
      have ne5_r := f5.ne n3
      have up5 : w.heap.size ≤ g5 := f5.up l4
      have bl5 := f5.bel
      clear f5
      have r6_y := le_on r4_y bl5
      have r6_r := le_on n3 bl5
      have r6_xs := (r4_xs).on bl5
      have l6 := le_tr l4 bl5
      clear r4_y n3 r4_xs l4
      clear bl5
      have c7 : V5.cell? ⟨g3, 0, none⟩ = some (.int .i64 r.kind) := CB.cell r6_r 0
      have c8 : V5.cell? ⟨g3, 1, none⟩ = some (.int .i64 r.tx) := CB.cell r6_r 1
      go_wp2_with (first | (first | ((with_reducible refine st_load 28 _ g1 ?_ r6_y Try.underlying28 ?_ ?_ ?_); exact rfl; exact rfl; exact Try.zCr) | ((with_reducible refine st_loadG 28 _ g1 ?_ r6_y Try.underlying28 ?_ ?_ ?_ ?_); exact rfl; exact rfl; exact Try.zCr; exact rfl)) | ((with_reducible refine st_store 28 _ _ g5 (yA ⟨xa, xn, xc, la, ln, lc⟩) ?_ ?_ n5 ?_ ?_ ?_ ?_); exact rfl; exact rfl; exact Try.zCr; exact rfl; exact yA_one _))
      refine ⟨fun V9 n9 k9 => ?_⟩
      clear c7 c8
      have m9_y := k9.on r6_y ne5_y
      have m9_r := k9.on r6_r ne5_r
      have m9_xs := (r6_xs).wr k9 up5
      have o9 := k9.bel _ _ l6 up5
      clear k9
      clear n5 r6_y r6_r r6_xs l6
      go_wp2_with fail
      refine bodyPost_ret (v := .tuple #[.agg (yA ⟨xa, xn, xc, la, ln, lc⟩), .int .i64 0, .int .i64 2]) (res_three Try.results26 rfl rfl rfl n9 Try.underlying28 rfl Try.zCr) rfl ⟨xa, xn, xc, C, by rw [HN.out, HE.out] <;> rfl, m9_xs.rs, hC, HS.out.symm, o9⟩
    have d2 : decide (4 < r.kind) = false := by simp; omega
    by_cases g3 : r.tx < 0
    · have d3 : decide (r.tx < 0) = true := by simp; omega
      clear hok g1 g2 g3
      go_enter Try.func26, Try.ntmps26
      go_wp2_with (first | ((with_reducible refine st_box 28 _ (yA ⟨xa, xn, xc, la, ln, lc⟩) ?_ ?_); exact rfl))
      refine ⟨fun V1 g1 n1 f1 => ?_⟩
      have up1 : w.heap.size ≤ g1 := Nat.le_of_eq f1.at_
      have bl1 := f1.bel
      clear f1
      have r2_xs := (xl).on bl1
      have l2 := le_tr (Below.refl _ _) bl1
      clear xl
      clear bl1
      go_wp2_with (first | ((with_reducible refine st_box 34 _ (rA r) ?_ ?_); exact rfl))
      refine ⟨fun V3 g3 n3 f3 => ?_⟩
      have ne3_y := f3.ne n1
      have up3 : w.heap.size ≤ g3 := f3.up l2
      have bl3 := f3.bel
      clear f3
      have r4_y := le_on n1 bl3
      have r4_xs := (r2_xs).on bl3
      have l4 := le_tr l2 bl3
      clear n1 r2_xs l2
      clear bl3
      go_wp2_with (first | ((with_reducible refine st_alloc 28 (yA zeroC) ?_ ?_); exact zero_cr))
      refine ⟨fun V5 g5 n5 f5 => ?_⟩
      have ne5_y := f5.ne r4_y
      have ne5_r := f5.ne n3
      have up5 : w.heap.size ≤ g5 := f5.up l4
      have bl5 := f5.bel
      clear f5
      have r6_y := le_on r4_y bl5
      have r6_r := le_on n3 bl5
      have r6_xs := (r4_xs).on bl5
      have l6 := le_tr l4 bl5
      clear r4_y n3 r4_xs l4
      clear bl5
      have c7 : V5.cell? ⟨g3, 0, none⟩ = some (.int .i64 r.kind) := CB.cell r6_r 0
      have c8 : V5.cell? ⟨g3, 1, none⟩ = some (.int .i64 r.tx) := CB.cell r6_r 1
      go_wp2_with (first | (first | ((with_reducible refine st_load 28 _ g1 ?_ r6_y Try.underlying28 ?_ ?_ ?_); exact rfl; exact rfl; exact Try.zCr) | ((with_reducible refine st_loadG 28 _ g1 ?_ r6_y Try.underlying28 ?_ ?_ ?_ ?_); exact rfl; exact rfl; exact Try.zCr; exact rfl)) | ((with_reducible refine st_store 28 _ _ g5 (yA ⟨xa, xn, xc, la, ln, lc⟩) ?_ ?_ n5 ?_ ?_ ?_ ?_); exact rfl; exact rfl; exact Try.zCr; exact rfl; exact yA_one _))
      refine ⟨fun V9 n9 k9 => ?_⟩
      clear c7 c8
      have m9_y := k9.on r6_y ne5_y
      have m9_r := k9.on r6_r ne5_r
      have m9_xs := (r6_xs).wr k9 up5
      have o9 := k9.bel _ _ l6 up5
      clear k9
      clear n5 r6_y r6_r r6_xs l6
      go_wp2_with fail
      refine bodyPost_ret (v := .tuple #[.agg (yA ⟨xa, xn, xc, la, ln, lc⟩), .int .i64 0, .int .i64 2]) (res_three Try.results26 rfl rfl rfl n9 Try.underlying28 rfl Try.zCr) rfl ⟨xa, xn, xc, C, by rw [HN.out, HE.out] <;> rfl, m9_xs.rs, hC, HS.out.symm, o9⟩
    have d3 : decide (r.tx < 0) = false := by simp; omega
    have d4 : decide (1000 ≤ r.tx) = true := by unfold okR at hok; simp; omega
    clear hok g1 g2 g3
    go_enter Try.func26, Try.ntmps26
    go_wp2_with (first | ((with_reducible refine st_box 28 _ (yA ⟨xa, xn, xc, la, ln, lc⟩) ?_ ?_); exact rfl))
    refine ⟨fun V1 g1 n1 f1 => ?_⟩
    have up1 : w.heap.size ≤ g1 := Nat.le_of_eq f1.at_
    have bl1 := f1.bel
    clear f1
    have r2_xs := (xl).on bl1
    have l2 := le_tr (Below.refl _ _) bl1
    clear xl
    clear bl1
    go_wp2_with (first | ((with_reducible refine st_box 34 _ (rA r) ?_ ?_); exact rfl))
    refine ⟨fun V3 g3 n3 f3 => ?_⟩
    have ne3_y := f3.ne n1
    have up3 : w.heap.size ≤ g3 := f3.up l2
    have bl3 := f3.bel
    clear f3
    have r4_y := le_on n1 bl3
    have r4_xs := (r2_xs).on bl3
    have l4 := le_tr l2 bl3
    clear n1 r2_xs l2
    clear bl3
    go_wp2_with (first | ((with_reducible refine st_alloc 28 (yA zeroC) ?_ ?_); exact zero_cr))
    refine ⟨fun V5 g5 n5 f5 => ?_⟩
    have ne5_y := f5.ne r4_y
    have ne5_r := f5.ne n3
    have up5 : w.heap.size ≤ g5 := f5.up l4
    have bl5 := f5.bel
    clear f5
    have r6_y := le_on r4_y bl5
    have r6_r := le_on n3 bl5
    have r6_xs := (r4_xs).on bl5
    have l6 := le_tr l4 bl5
    clear r4_y n3 r4_xs l4
    clear bl5
    have c7 : V5.cell? ⟨g3, 0, none⟩ = some (.int .i64 r.kind) := CB.cell r6_r 0
    have c8 : V5.cell? ⟨g3, 1, none⟩ = some (.int .i64 r.tx) := CB.cell r6_r 1
    go_wp2_with (first | (first | ((with_reducible refine st_load 28 _ g1 ?_ r6_y Try.underlying28 ?_ ?_ ?_); exact rfl; exact rfl; exact Try.zCr) | ((with_reducible refine st_loadG 28 _ g1 ?_ r6_y Try.underlying28 ?_ ?_ ?_ ?_); exact rfl; exact rfl; exact Try.zCr; exact rfl)) | ((with_reducible refine st_store 28 _ _ g5 (yA ⟨xa, xn, xc, la, ln, lc⟩) ?_ ?_ n5 ?_ ?_ ?_ ?_); exact rfl; exact rfl; exact Try.zCr; exact rfl; exact yA_one _))
    refine ⟨fun V9 n9 k9 => ?_⟩
    clear c7 c8
    have m9_y := k9.on r6_y ne5_y
    have m9_r := k9.on r6_r ne5_r
    have m9_xs := (r6_xs).wr k9 up5
    have o9 := k9.bel _ _ l6 up5
    clear k9
    clear n5 r6_y r6_r r6_xs l6
    go_wp2_with fail
    refine bodyPost_ret (v := .tuple #[.agg (yA ⟨xa, xn, xc, la, ln, lc⟩), .int .i64 0, .int .i64 2]) (res_three Try.results26 rfl rfl rfl n9 Try.underlying28 rfl Try.zCr) rfl ⟨xa, xn, xc, C, by rw [HN.out, HE.out] <;> rfl, m9_xs.rs, hC, HS.out.symm, o9⟩
end Go.Proofs.Ytjfmahceolhfnaa
