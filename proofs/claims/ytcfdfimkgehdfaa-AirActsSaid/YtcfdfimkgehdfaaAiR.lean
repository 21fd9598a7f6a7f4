/-
  The law AirOwn, walked. Conditions: the bytes can be read, the place is a number of its type.
-/
import Derived.Test.YtcfdfimkgehdfaaAiP
import Derived.Test.YtcfdfimkgehdfaaAiMb
set_option linter.unusedVariables false
set_option linter.unusedSimpArgs false
namespace Go.Proofs.Ytcfdfimkgehdfaa
open Go.RowKit

theorem len_of {W : World} {x : Lm} {f t : Nat} {bs : List UInt8} {n : Nat} (h : RR W bcl 1 x.A x.n x.c x.b) (hx : x.lt = ⟨f, t, bs⟩) (hl : bs.length = n) : x.n = n := by
  have hb : x.b = bs := congrArg Lt.b hx
  rw [← h.len, hb, hl]
theorem conv_of {W : World} {x : Lm} {f t : Nat} {bs : List UInt8} (h : RR W bcl 1 x.A x.n x.c x.b) (hx : x.lt = ⟨f, t, bs⟩) : (convert 30 9 (.slice x.A x.n x.c)).run Try.prog W = .ok (.string (Dk.mkS bs)) W := by
  have hb : x.b = bs := congrArg Lt.b hx
  rw [hb] at h
  exact conv_C h
set_option maxRecDepth 100000 in
set_option maxHeartbeats 8000000 in
theorem own_walk (A : Option Addr) (n c : Nat) (bs : List UInt8) (p : Nat) (y : UInt8) (w : World) (h : RR w bcl 1 A n c bs) (hp : p < 65536) : Calls Try.prog 5 #[.slice A n c, .int .u16 (p : Int), .int .u8 (y.toNat : Int)] w fun e w' => e = .returned (.bool true) ∧ Below w.heap.size w w' := by
  have hlen := h.len
  have hb := RL.start h
  clear h
  by_cases h4 : n ≤ 4000
  · skip
    have q1 : decide ((4000 : Int) < (n : Int)) = false := by simp; omega
    have q1' : decide ((n : Int) > (4000 : Int)) = false := by simp; omega
    by_cases h0 : n = 0
    · have q2 : ((n : Int) == 0) = true := by simp [h0]
      go_enter Try.func5, Try.ntmps5
      go_wp2_with fail
      (with_reducible refine (alive_c _).mono ?_)
      rintro e w1 ⟨rfl, b1⟩
      have r4_bb := (hb).on b1
      have l4 := le_tr (Below.refl _ _) b1
      clear hb
      clear b1
      go_wp2_with fail
      go_ret
      exact ⟨rfl, l4⟩
    have q2 : ((n : Int) == 0) = false := by simp; omega
    by_cases hy : y = 0
    · have q3 : ((y.toNat : Int) == 0) = true := by simp [hy]
      have q3' : (y.toNat == 0) = true := by simp [hy]
      have q4 : (y.toNat : Int) = 0 := by simp [hy]
      go_enter Try.func5, Try.ntmps5
      go_wp2_with fail
      (with_reducible refine (alive_c _).mono ?_)
      rintro e w1 ⟨rfl, b1⟩
      have r4_bb := (hb).on b1
      have l4 := le_tr (Below.refl _ _) b1
      clear hb
      clear b1
      go_wp2_with fail
      go_ret
      exact ⟨rfl, l4⟩
    have hy0 : ¬ y.toNat = 0 := fun e => hy (UInt8.toNat_inj.1 (by rw [e]; rfl))
    have q3 : ((y.toNat : Int) == 0) = false := by simp; omega
    obtain ⟨j, hj⟩ : ∃ j, p % n = j := ⟨_, rfl⟩
    have hjn : j < n := by rw [← hj]; exact Nat.mod_lt _ (by omega)
    have tm : Int.tmod (p : Int) (n : Int) = (j : Int) := by rw [tmod_nat, hj]
    have wp : IntKind.i64.wrap (p : Int) = (p : Int) := IntWalk.i64_in _ (by omega)
    have n1 : ¬ (n : Int) = 0 := by omega
    obtain ⟨z1, z2⟩ := ql_snd (t := 2) (room := 9) (f := 1) (L := []) (b := bs) (by decide) (by decide) (by omega) (by decide)
    obtain ⟨z3, z4⟩ := ql_ag (t := 2) (room := 9) (L := [⟨1, 2, bs⟩]) (k := 0) (by decide) rfl (by simp)
    obtain ⟨z5, z6⟩ := ql_tn (t := 2) (L := [⟨1, 2, bs⟩, ⟨1, 2, bs⟩]) (k := 1) (p := p) (y := y) (by decide) rfl (by simp only; omega)
    obtain ⟨z7, z8, z9⟩ := ql_tk (t := 2) (L := [⟨1, 2, bs⟩, tnL ⟨1, 2, bs⟩ p y]) (k := 0) (by decide) rfl
    obtain ⟨y7, y8, y9⟩ := ql_tk (t := 2) (L := [tnL ⟨1, 2, bs⟩ p y]) (k := 0) (by decide) rfl
    have Z1 := Lib.hid z1
    have Z2 := Lib.hid z2
    have Z3 := Lib.hid z3
    have Z4 := Lib.hid z4
    have Z5 := Lib.hid z5
    have Z6 := Lib.hid z6
    have Z7 := Lib.hid z7
    have Z8 := Lib.hid z8
    have Z9 := Lib.hid z9
    have Y7 := Lib.hid y7
    have Y8 := Lib.hid y8
    have Y9 := Lib.hid y9
    have HT := Lib.hid (tnB_twice bs p y)
    have HJ := Lib.hid hj
    have HL := Lib.hid hlen
    clear z1 z2 z3 z4 z5 z6 z7 z8 z9 y7 y8 y9 hy hy0 hj hlen
    go_enter Try.func5, Try.ntmps5
    go_wp2_with fail
    (with_reducible refine (alive_c _).mono ?_)
    rintro e w1 ⟨rfl, b1⟩
    have r4_bb := (hb).on b1
    have l4 := le_tr (Below.refl _ _) b1
    clear hb
    clear b1
    go_wp2_with fail
    have cn5 := anew_c (9 : Int) w1
    (with_reducible refine cn5.mono ?_)
    clear cn5
    intro e w5 hp5
    obtain ⟨ba5, S5, rfl, ao5, h05, bl5⟩ := NPost.yes (r := 9) (by omega) (by omega) hp5
    clear hp5
    have hi5 : ∀ i, S5 i → w.heap.size ≤ i := fun i e => Nat.le_trans (l4).size (h05 i e)
    clear h05
    have r8_bb := (r4_bb).on bl5
    have l8 := le_tr l4 bl5
    clear r4_bb l4
    clear bl5
    have ao0 : AO S5 ba5 9 (QL 2 []) w5 := by rw [ql_nil]; exact ao5
    clear ao5
    go_wp2_with (first | ((with_reducible refine st_app (.const (.slice none 0 0)) (.tmp 29) 30 5 Try.underlying30 Try.infoU rfl (by decide) (A := none) (n := 0) (c := 0) (G := none) rfl (Seg.nil _ _ _) (As := A) (m := n) (k := c) rfl r8_bb.rr.src (rc_one 1 bs) (by simp only [maxLen]; omega) (by omega) (n) (by omega) ?_)))
    refine ⟨fun B9 m9 q9 w9 s9 h9 k9 => ?_⟩
    have s9 : Seg w9 5 1 B9 (n) m9 (rc bcl (bs)) q9 := by simpa using s9
    have so9 : SO w.heap.size w9 5 bcl 1 B9 (n) m9 (bs) q9 := ⟨s9, k9.ge (l8).size (fun g e => by cases e)⟩
    have e9_bb := (r8_bb).grow h9 (fun g e => by cases e)
    have lw9 := (l8).grown h9 (l8).size (fun g e => by cases e)
    have e9_oa := ao0.grow h9 (fun g e => by cases e)
    have nm9_oa := moved_nf k9 ao0 (fun g e => by cases e)
    clear ao0
    clear h9 k9 s9 r8_bb l8
    go_wp2_with (first | ((with_reducible refine st_built3G 40 _ _ _ (.int .u8 1) (.int .u8 2) (.slice B9 n m9) (lA ⟨1, 2, bs, B9, n, m9⟩) ?_ ?_ ?_ ?_ ?_ ?_); exact rfl; exact rfl; exact rfl; exact built_l _ _ _ _ _ _; exact rfl))
    have cc10 := (show Calls Try.prog 19 #[.pointer (some ⟨ba5, 0, none⟩), .agg (lA ⟨1, 2, bs, B9, n, m9⟩)] _ _ from send_k (l := ⟨1, 2, bs⟩) (z := 0) (⟨1, 2, bs, B9, n, m9⟩ : Lm) e9_oa so9.rr rfl Z1.out Z2.out)
    (with_reducible refine cc10.mono ?_)
    clear cc10
    rintro e w10 ⟨rfl, S10, ao10, ou10, nw10⟩
    have q10_bb := (e9_bb).out ou10 hi5
    have q10_xs := SO.outS so9 ou10 nm9_oa
    have ns10_xs := SO.farS so9 nm9_oa nw10
    have hi10 : ∀ i, S10 i → w.heap.size ≤ i := fun i e => (nw10 i e).elim (hi5 i) (fun e => Nat.le_trans (lw9).size e)
    have l10 := below_out lw9 ou10 hi5
    clear ou10 nw10 e9_oa e9_bb so9 nm9_oa hi5 lw9
    go_wp2_with fail
    have cc11 := (show Calls Try.prog 20 #[.pointer (some ⟨ba5, 0, none⟩), .int .u8 2, .int .i64 0] _ _ from again_k (t := 2) (i := 0) (z := 0) ao10 Z3.out Z4.out)
    (with_reducible refine cc11.mono ?_)
    clear cc11
    rintro e w11 ⟨rfl, S11, ao11, ou11, nw11⟩
    have q11_bb := (q10_bb).out ou11 hi10
    have q11_xs := SO.outS q10_xs ou11 ns10_xs
    have ns11_xs := SO.farS q10_xs ns10_xs nw11
    have hi11 : ∀ i, S11 i → w.heap.size ≤ i := fun i e => (nw11 i e).elim (hi10 i) (fun e => Nat.le_trans (l10).size e)
    have l11 := below_out l10 ou11 hi10
    clear ou11 nw11 ao10 q10_bb q10_xs ns10_xs hi10 l10
    go_wp2_with fail
    go_loopw [47] (fun iv wr => ∃ (k : Nat) (L : List UInt8), k ≤ n ∧ iv = .int .i64 k ∧ SO w.heap.size wr 5 bcl 1 B9 n m9 L q9 ∧ AO S11 ba5 9 (QL 2 ([⟨1, 2, bs⟩] ++ [⟨1, 2, bs⟩])) wr ∧ RL w wr bcl 1 A n c bs ∧ Below w.heap.size w wr) (fun iv _ => n - (intOf iv).toNat)
    case atStart => exact ⟨0, bs, by omega, rfl, q11_xs, ao11, q11_bb, l11⟩
    case round =>
      clear q11_xs ao11 q11_bb l11
      obtain ⟨k, L, hk, rfl, hs, ha, hb, hw⟩ := hrel
      by_cases hlt : k < n
      · skip
        obtain ⟨gx, ox, bx, rfl, rfl, hbx, fz, cx, hset⟩ := slot_o hs k hlt
        have l1 : (k : Int) < n := by omega
        have l2 : (0 : Int) ≤ (k : Int) := by omega
        have hxo : bits .xor .u8 (bx.toNat : Int) 255 = ((bx ^^^ 255).toNat : Int) := xor_u bx 255
        go_wp2_with (first | ((with_reducible refine st_slot 5 _ _ gx (ox + k) (.int .u8 ((bx ^^^ 255).toNat : Int)) ?_ ?_ cx fz ?_ ?_ ?_ ?_); exact rfl; exact rfl; exact one_u; exact rfl; exact rfl))
        obtain ⟨hs1, hs2⟩ := hset (bx ^^^ 255)
        clear hset cx fz hxo
        refine ⟨?_⟩
        generalize World.setCell wr ⟨gx, ox + k, none⟩ (.int .u8 ((bx ^^^ 255).toNat : Int)) = V9 at *
        have m201_oa := ha.wr hs2 (ns11_xs _ rfl)
        clear ha
        have up202 := SO.hi hs _ rfl
        have m202_bb := (hb).wr hs2 up202
        have o202 := hs2.bel _ _ hw up202
        clear up202 hs2 hs hb hw
        go_wp2_with fail
        go_roundw
        case rel => exact ⟨k + 1, _, by omega, by go_num, hs1, m201_oa, m202_bb, o202⟩
        case measure => simp [intOf]; omega
      have hkn : k = n := by omega
      clear hlt hk
      clear hs
      go_wp2_with fail
      have cc201 := (show Calls Try.prog 21 #[.pointer (some ⟨ba5, 0, none⟩), .int .u8 2, .int .i64 1, .int .u16 (p : Int), .int .u8 (y.toNat : Int)] _ _ from turn_k (t := 2) (i := 1) (z := 0) hp ha Z5.out Z6.out)
      (with_reducible refine cc201.mono ?_)
      clear cc201
      rintro e w201 ⟨rfl, S201, ao201, ou201, nw201⟩
      have q201_bb := (hb).out ou201 hi11
      have hi201 : ∀ i, S201 i → w.heap.size ≤ i := fun i e => (nw201 i e).elim (hi11 i) (fun e => Nat.le_trans (hw).size e)
      have l201 := below_out hw ou201 hi11
      clear ou201 nw201 ha hb hi11 hw
      go_wp2_with fail
      have cc202 := (show Calls Try.prog 17 #[.pointer (some ⟨ba5, 0, none⟩), .int .u8 2, .int .i64 0] _ _ from take_k (t := 2) (i := 0) (z := 0) ao201 Z8.out Z7.out Z9.out)
      (with_reducible refine cc202.mono ?_)
      clear cc202
      rintro e w202 ⟨x202, rfl, hx202, rs202, S202, ao202, ou202, nw202, xo202⟩
      have q202_bb := (q201_bb).out ou202 hi201
      have hi202 : ∀ i, S202 i → w.heap.size ≤ i := fun i e => (nw202 i e).elim (hi201 i) (fun e => Nat.le_trans (l201).size e)
      have l202 := below_out l201 ou202 hi201
      have rb202 := rs202.ob
      have xa202 : ∀ i, InB x202.A i → ¬ S202 i := fun i a => (xo202 i a).2
      have xb202 : ∀ i, S202 i → ¬ InB x202.A i := fun i a b => xa202 i b a
      have hx202_ : ∀ i, InB x202.A i → w.heap.size ≤ i := fun i e => hi201 i (xo202 i e).1
      clear ou202 nw202 rs202 xo202 ao201 q201_bb hi201 l201
      go_wp2_with (first | ((with_reducible refine st_alloc 40 (lA zeroL) ?_ ?_); exact zero_lc))
      refine ⟨fun V203 g203 n203 f203 => ?_⟩
      have nn203_oa := ao202.fresh (Nat.le_of_eq f203.at_)
      have nn203_tu := rb202.fresh (Nat.le_of_eq f203.at_)
      have up203 : w.heap.size ≤ g203 := f203.up l202
      have bl203 := f203.bel
      clear f203
      have r204_oa := ao202.on bl203
      have r204_tu := rb202.on bl203
      have r206_bb := (q202_bb).on bl203
      have l206 := le_tr l202 bl203
      clear q202_bb l202
      clear ao202 rb202
      clear bl203
      go_wp2_with (first | ((with_reducible refine st_store 40 _ _ g203 (lA x202) ?_ ?_ n203 ?_ ?_ ?_ ?_); exact rfl; exact rfl; exact Try.zLc; exact rfl; exact lA_one _))
      refine ⟨fun V207 n207 k207 => ?_⟩
      have m207_bb := (r206_bb).wr k207 up203
      have m207_oa := r204_oa.wr k207 nn203_oa
      have m207_tu := r204_tu.wr k207 nn203_tu
      have o207 := k207.bel _ _ l206 up203
      clear k207
      clear n203 r206_bb r204_oa r204_tu l206
      go_wp2_with fail
      have cc208 := (show Calls Try.prog 17 #[.pointer (some ⟨ba5, 0, none⟩), .int .u8 2, .int .i64 0] _ _ from take_k (t := 2) (i := 0) (z := 0) m207_oa Y8.out Y7.out Y9.out)
      (with_reducible refine cc208.mono ?_)
      clear cc208
      rintro e w208 ⟨x208, rfl, hx208, rs208, S208, ao208, ou208, nw208, xo208⟩
      have q208_u := ou208.box n207 nn203_oa
      have no208_u : ¬ S208 g203 := fun e => (nw208 _ e).elim nn203_oa (fun e => by have := CB.lt n207; omega)
      have nx208_u : ¬ InB x208.A g203 := fun e => nn203_oa (xo208 _ e).1
      have q208_tu := m207_tu.out ou208 xa202
      have ds208_tu := Ob.far m207_tu xa202 nw208
      have dt208_tu : ∀ i, S208 i → ¬ (InB x202.A) i := fun i a b => ds208_tu i b a
      have dx208_tu : ∀ i, InB x208.A i → ¬ (InB x202.A) i := fun i a b => xa202 i b (xo208 i a).1
      have dy208_tu : ∀ i, (InB x202.A) i → ¬ InB x208.A i := fun i a b => dx208_tu i b a
      have q208_bb := (m207_bb).out ou208 hi202
      have hi208 : ∀ i, S208 i → w.heap.size ≤ i := fun i e => (nw208 i e).elim (hi202 i) (fun e => Nat.le_trans (o207).size e)
      have l208 := below_out o207 ou208 hi202
      have rb208 := rs208.ob
      have xa208 : ∀ i, InB x208.A i → ¬ S208 i := fun i a => (xo208 i a).2
      have xb208 : ∀ i, S208 i → ¬ InB x208.A i := fun i a b => xa208 i b a
      have hx208_ : ∀ i, InB x208.A i → w.heap.size ≤ i := fun i e => hi202 i (xo208 i e).1
      clear ou208 nw208 rs208 xo208 m207_oa n207 nn203_oa m207_tu xa202 xb202 m207_bb hi202 o207
      go_wp2_with (first | ((with_reducible refine st_alloc 40 (lA zeroL) ?_ ?_); exact zero_lc))
      refine ⟨fun V209 g209 n209 f209 => ?_⟩
      have ne209_u := f209.ne q208_u
      have nn209_oa := ao208.fresh (Nat.le_of_eq f209.at_)
      have nn209_tu := q208_tu.fresh (Nat.le_of_eq f209.at_)
      have nn209_tv := rb208.fresh (Nat.le_of_eq f209.at_)
      have up209 : w.heap.size ≤ g209 := f209.up l208
      have bl209 := f209.bel
      clear f209
      have r210_oa := ao208.on bl209
      have r210_tu := q208_tu.on bl209
      have r210_tv := rb208.on bl209
      have r212_u := le_on q208_u bl209
      have r212_bb := (q208_bb).on bl209
      have l212 := le_tr l208 bl209
      clear q208_u q208_bb l208
      clear ao208 q208_tu rb208
      clear bl209
      go_wp2_with (first | ((with_reducible refine st_store 40 _ _ g209 (lA x208) ?_ ?_ n209 ?_ ?_ ?_ ?_); exact rfl; exact rfl; exact Try.zLc; exact rfl; exact lA_one _))
      refine ⟨fun V213 n213 k213 => ?_⟩
      have m213_u := k213.on r212_u ne209_u
      have m213_bb := (r212_bb).wr k213 up209
      have m213_oa := r210_oa.wr k213 nn209_oa
      have m213_tu := r210_tu.wr k213 nn209_tu
      have m213_tv := r210_tv.wr k213 nn209_tv
      have o213 := k213.bel _ _ l212 up209
      clear k213
      clear n209 r212_u r212_bb r210_oa r210_tu r210_tv l212
      have ln2 : x208.n = n := len_of m213_tv.ok.rr (f := 1) (t := 2) (bs := tnB bs p y) hx208 (by rw [tnB_length]; exact HL.out)
      have cu := conv_of m213_tu.ok.rr hx202
      have cb := conv_C m213_bb.rr
      have gt : ((Dk.mkS bs).toList == (Dk.mkS bs).toList) = true := beq_self_eq_true _
      have c88 : V213.cell? ⟨g203, 2, none⟩ = some (.slice x202.A x202.n x202.c) := CB.cell m213_u 2
      have c89 : V213.cell? ⟨g209, 2, none⟩ = some (.slice x208.A n x208.c) := (CB.cell n213 2).trans (by rw [← ln2]; rfl)
      have HLN := Lib.hid ln2
      clear ln2
      go_wp2_with fail
      clear c88 c89 cu cb
      obtain ⟨gx, off, bx, hAx, hbx, _, _, _⟩ := slot_u m213_tv.ok j (by rw [HLN.out]; exact hjn)
      have HAx := Lib.hid hAx
      have HBx := Lib.hid hbx
      clear hAx hbx
      have HXO := Lib.hid (xor_u bx y)
      go_wp2_with fail
      have y214 := Lib.hid (show (fun V : World => CB V g209 40 (lA x208)) V213.drew from CB.drew n213)
      refine wp_region_held_drew (S := (fun V : World => CB V g209 40 (lA x208))) (by kernel_rfl) y214.out (fun hHeld => ?_)
      obtain ⟨D214, hD214⟩ : ∃ V, V213.drew = V := ⟨_, rfl⟩
      have b214 : Below V213.heap.size V213 D214 := by rw [← hD214]; exact le_dr (Below.refl _ _)
      rw [hD214] at hHeld ⊢
      clear hD214
      have r215_tv := m213_tv.on b214
      have r217_u := le_on m213_u b214
      have r217_v := le_on n213 b214
      have r217_bb := (m213_bb).on b214
      have l217 := le_tr o213 b214
      clear m213_u n213 m213_bb o213
      clear m213_tv
      clear b214
      refine wpAnyH_takeL (i := 0) (d := some 94) (v := .pointer (some ⟨g209, 2, none⟩)) rfl rfl (by kernel_rfl) (by kernel_rfl) (by kernel_rfl) (fun _ _ _ h => h) (Or.inl ⟨by rfl, ?_⟩) hHeld ?_
      · intro w hSw; (try dsimp only at hSw); go_simp
      try simp only [Act.put, List.setIfInBounds_toArray, List.set_cons_zero, List.set_cons_succ]
      refine wpAnyH_takeL (i := 1) (d := some 95) (v := .slice x208.A n x208.c) rfl rfl (by kernel_rfl) (by kernel_rfl) (by kernel_rfl) (fun _ _ _ h => h) (Or.inl ⟨by rfl, ?_⟩) hHeld ?_
      · intro w hSw; have hcc : w.cell? ⟨g209, 2, none⟩ = some (.slice x208.A n x208.c) := (CB.cell hSw 2).trans (by rw [← HLN.out]; rfl); go_simp
      try simp only [Act.put, List.setIfInBounds_toArray, List.set_cons_zero, List.set_cons_succ]
      refine wpAnyH_takeL (i := 2) (d := some 96) (v := .int .u16 (p : Int)) rfl rfl (by kernel_rfl) (by kernel_rfl) (by kernel_rfl) (fun _ _ _ h => h) (Or.inl ⟨by rfl, ?_⟩) hHeld ?_
      · intro w hSw; (try dsimp only at hSw); go_simp
      try simp only [Act.put, List.setIfInBounds_toArray, List.set_cons_zero, List.set_cons_succ]
      refine wpAnyH_takeL (i := 3) (d := some 97) (v := .int .i64 (p : Int)) rfl rfl (by kernel_rfl) (by kernel_rfl) (by kernel_rfl) (fun _ _ _ h => h) (Or.inl ⟨by rfl, ?_⟩) hHeld ?_
      · intro w hSw; (try dsimp only at hSw); go_simp
      try simp only [Act.put, List.setIfInBounds_toArray, List.set_cons_zero, List.set_cons_succ]
      refine wpAnyH_takeL (i := 4) (d := some 98) (v := .slice A n c) rfl rfl (by kernel_rfl) (by kernel_rfl) (by kernel_rfl) (fun _ _ _ h => h) (Or.inl ⟨by rfl, ?_⟩) hHeld ?_
      · intro w hSw; (try dsimp only at hSw); go_simp
      try simp only [Act.put, List.setIfInBounds_toArray, List.set_cons_zero, List.set_cons_succ]
      refine wpAnyH_takeL (i := 5) (d := some 99) (v := .int .i64 (n : Int)) rfl rfl (by kernel_rfl) (by kernel_rfl) (by kernel_rfl) (fun _ _ _ h => h) (Or.inl ⟨by rfl, ?_⟩) hHeld ?_
      · intro w hSw; (try dsimp only at hSw); go_simp
      try simp only [Act.put, List.setIfInBounds_toArray, List.set_cons_zero, List.set_cons_succ]
      refine wpAnyH_takeL (i := 6) (d := some 100) (v := .int .i64 (j : Int)) rfl rfl (by kernel_rfl) (by kernel_rfl) (by kernel_rfl) (fun _ _ _ h => h) (Or.inl ⟨by rfl, ?_⟩) hHeld ?_
      · intro w hSw; (try dsimp only at hSw); go_simp
      try simp only [Act.put, List.setIfInBounds_toArray, List.set_cons_zero, List.set_cons_succ]
      refine wpAnyH_takeL (i := 7) (d := some 101) (v := .pointer (some ⟨gx, off + j, none⟩)) rfl rfl (by kernel_rfl) (by kernel_rfl) (by kernel_rfl) (fun _ _ _ h => h) (Or.inl ⟨by rfl, ?_⟩) hHeld ?_
      · intro w hSw; rw [HAx.out]; go_simp
      try simp only [Act.put, List.setIfInBounds_toArray, List.set_cons_zero, List.set_cons_succ]
      refine wpAnyH_takeL (i := 9) (d := some 103) (v := .int .u8 (y.toNat : Int)) rfl rfl (by kernel_rfl) (by kernel_rfl) (by kernel_rfl) (fun _ _ _ h => h) (Or.inl ⟨by rfl, ?_⟩) hHeld ?_
      · intro w hSw; (try dsimp only at hSw); go_simp
      try simp only [Act.put, List.setIfInBounds_toArray, List.set_cons_zero, List.set_cons_succ]
      refine wpAnyH_ready (rs := [8]) (by kernel_rfl) (by simp) ?_
      refine AllReadyH.cons rfl (fun K hK => ?_) AllReadyH.nil
      obtain ⟨g2, o2, b2, e1, e2, fz, cx, hset⟩ := slot_u r215_tv.ok j (by rw [HLN.out]; exact hjn)
      rw [HAx.out] at e1
      cases e1
      rw [HBx.out] at e2
      cases e2
      refine rd_load rfl 5 _ rfl (some 102) rfl (.int .u8 (bx.toNat : Int)) gx ((off + j)) rfl (ld_one 5 (Try.isAgg5 _) (cx)) ?_
      refine ⟨?_⟩
      clear fz cx hset
      have y218 := Lib.hid (show (fun V : World => CB V g209 40 (lA x208)) D214 from r217_v)
      refine hK.out _ _ y218.out (fun hHeld => ?_)
      clear hK K y218
      try simp only [Act.put, List.setIfInBounds_toArray, List.set_cons_zero, List.set_cons_succ]
      refine wpAnyH_takeL (i := 10) (d := some 104) (v := .int .u8 ((bx ^^^ y).toNat : Int)) rfl rfl (by kernel_rfl) (by kernel_rfl) (by kernel_rfl) (fun _ _ _ h => h) (Or.inl ⟨by rfl, ?_⟩) hHeld ?_
      · intro w hSw; have hxo := HXO.out; go_simp
      try simp only [Act.put, List.setIfInBounds_toArray, List.set_cons_zero, List.set_cons_succ]
      refine wpAnyH_takeL (i := 11) (d := some 105) (v := .pointer (some ⟨gx, off + j, none⟩)) rfl rfl (by kernel_rfl) (by kernel_rfl) (by kernel_rfl) (fun _ _ _ h => h) (Or.inl ⟨by rfl, ?_⟩) hHeld ?_
      · intro w hSw; rw [HAx.out]; go_simp
      try simp only [Act.put, List.setIfInBounds_toArray, List.set_cons_zero, List.set_cons_succ]
      refine wpAnyH_ready (rs := [12]) (by kernel_rfl) (by simp) ?_
      refine AllReadyH.cons rfl (fun K hK => ?_) AllReadyH.nil
      obtain ⟨g2, o2, b2, e1, e2, fz, cx, hset⟩ := slot_u r215_tv.ok j (by rw [HLN.out]; exact hjn)
      rw [HAx.out] at e1
      cases e1
      rw [HBx.out] at e2
      cases e2
      refine rd_slot rfl 5 _ _ rfl none rfl gx (off + j) (.int .u8 ((bx ^^^ y).toNat : Int)) rfl rfl cx fz one_u rfl rfl ?_
      refine ⟨?_⟩
      obtain ⟨hs1, hs2⟩ := hset (bx ^^^ y)
      have hne9 : g209 ≠ gx := fun e => nn209_tv ⟨off, by rw [HAx.out, e]⟩
      have m9 := hs2.on r217_v hne9
      have up9 := hx208_ gx ⟨off, HAx.out⟩
      have bb9 := (r217_bb).wr hs2 up9
      have lw9 := hs2.bel _ _ l217 up9
      have hfin : RR (World.setCell D214 ⟨gx, off + j, none⟩ (.int .u8 ((bx ^^^ y).toNat : Int))) bcl 1 x208.A x208.n x208.c bs := by
        have h1 := tnB_at x208.b p y (j := j) (by rw [r215_tv.ok.len, HLN.out]; exact HJ.out)
        rw [HBx.out] at h1
        have h2 : x208.b = tnB bs p y := congrArg Lt.b hx208
        have h3 : tnB x208.b p y = bs := by rw [h2]; exact HT.out
        rw [← h3, h1]
        exact hs1.rr
      clear hs1 hset cx fz hne9 up9 r217_v r217_bb l217 r215_tv
      generalize World.setCell D214 ⟨gx, off + j, none⟩ (.int .u8 ((bx ^^^ y).toNat : Int)) = V9 at *
      clear hs2
      have y219 := Lib.hid (show (fun V : World => CB V g209 40 (lA x208)) V9 from m9)
      refine hK.out _ _ y219.out (fun hHeld => ?_)
      clear hK K y219
      try simp only [Act.put, List.setIfInBounds_toArray, List.set_cons_zero, List.set_cons_succ]
      refine wpAnyH_done (by kernel_rfl) ?_ _
      have cv := conv_C hfin
      have cb := conv_C bb9.rr
      have gt : ((Dk.mkS bs).toList == (Dk.mkS bs).toList) = true := beq_self_eq_true _
      have c220 : V9.cell? ⟨g209, 2, none⟩ = some (.slice (x208.A) (x208.n) (x208.c)) := CB.cell m9 2
      go_wp2_with fail
      go_ret
      exact ⟨rfl, lw9⟩
  have q1 : decide ((4000 : Int) < (n : Int)) = true := by simp; omega
  have q1' : decide ((n : Int) > (4000 : Int)) = true := by simp; omega
  go_enter Try.func5, Try.ntmps5
  go_wp2_with fail
  (with_reducible refine (alive_c _).mono ?_)
  rintro e w1 ⟨rfl, b1⟩
  have r4_bb := (hb).on b1
  have l4 := le_tr (Below.refl _ _) b1
  clear hb
  clear b1
  go_wp2_with fail
  go_ret
  exact ⟨rfl, l4⟩
end Go.Proofs.Ytcfdfimkgehdfaa
