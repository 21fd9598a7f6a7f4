/-
  ChairApart, the walk. Conditions: the records can be read and may be.
-/
import Derived.Test.YtjfmahceolhfnaaChU
set_option linter.unusedVariables false
set_option linter.unusedSimpArgs false
namespace Go.Proofs.Ytjfmahceolhfnaa
open Go.RowKit

theorem ST.down {w W W' : World} {b m : Nat} {G : Option Nat} {D : DM} {log : List Rd} (h : ST W.heap.size W W' b m G D log) (hl : Below w.heap.size w W) : ST w.heap.size w W' b m G D log :=
  ⟨h.cr, fun i hi => Nat.le_trans hl.size (h.hi i hi), le_tr hl h.low⟩
set_option maxRecDepth 100000 in
set_option maxHeartbeats 4000000 in
theorem apart_walk (A : Option Addr) (n c : Nat) (L : List Rd) (r : Rd) (t : Nat) (w : World) (h : RR w kcl 8 A n c L) (hok : OkL L) (hw : r.who < 256) (ht : t < 256) : Calls Try.prog 9 #[.slice A n c, .agg (rA r), .int .u8 (t : Int)] w fun zz w' => zz = .returned (.bool true) ∧ Below w.heap.size w w' := by
  have hpl : (plL (L.take 120)).length ≤ 120 := Nat.le_trans (plL_len _) (by rw [List.length_take]; exact Nat.min_le_left _ _)
  have hti : (Lit.int .i64 (t : Int)).wf = true := wfI (by omega)
  go_enter Try.func9, Try.ntmps9
  go_wp2_with (first | ((with_reducible refine st_box 34 _ (rA r) ?_ ?_); exact rfl))
  refine ⟨fun V1 g1 n1 f1 => ?_⟩
  have up1 : w.heap.size ≤ g1 := Nat.le_of_eq f1.at_
  have bl1 := f1.bel
  clear f1
  have l2 := le_tr (Below.refl _ _) bl1
  clear bl1
  go_wp2_with fail
  refine (alive_c _).mono ?_
  rintro e w3 ⟨rfl, b3⟩
  have r4_r := le_on n1 b3
  have l4 := le_tr l2 b3
  clear n1 l2
  clear b3
  go_wp2_with fail
  (with_reducible refine (played_c A n c L _ (h.on l4) hok).mono ?_)
  rintro e w5 ⟨bc, mc, G5, rfl, sp5⟩
  have np5_r : ¬ Own bc mc G5 g1 := fun e => by have := sp5.hi _ e; have := CB.lt r4_r; omega
  have sd5 := sp5.down l4
  have bl5 := sp5.low
  clear sp5
  have r6_r := le_on r4_r bl5
  have l6 := le_tr l4 bl5
  clear r4_r l4
  clear bl5
  clear h hok
  generalize (plD (L.take 120)) = D at *
  generalize (plL (L.take 120)) = K at *
  by_cases h4 : r.kind = 4
  · have q4 : (r.kind == 4) = true := by simp [h4]
    have c7 : w5.cell? ⟨g1, 0, none⟩ = some (.int .i64 r.kind) := CB.cell r6_r 0
    go_wp2_with fail
    go_ret
    exact ⟨rfl, l6⟩
  have q4 : (r.kind == 4) = false := by simp [h4]
  by_cases htx : r.tx = (t : Int)
  · have q5 : (r.tx == (t : Int)) = true := by simp [htx]
    have c7 : w5.cell? ⟨g1, 0, none⟩ = some (.int .i64 r.kind) := CB.cell r6_r 0
    have c8 : w5.cell? ⟨g1, 1, none⟩ = some (.int .i64 r.tx) := CB.cell r6_r 1
    clear htx
    go_wp2_with fail
    go_ret
    exact ⟨rfl, l6⟩
  have q5 : (r.tx == (t : Int)) = false := by simp [htx]
  have hS : dOf (sDoC D r) (t : Int) = dOf D (t : Int) := by rw [dOf_nat, dOf_nat]; exact do_apart h4 htx
  obtain ⟨d, hd⟩ : ∃ d, dGet D (t : Int) = d := ⟨_, rfl⟩
  obtain ⟨q, hq⟩ : ∃ q, (dOf D (t : Int)).isSome = q := ⟨_, rfl⟩
  have hd2 : dGet (sDoC D r) (t : Int) = d := by unfold dGet; rw [hS]; exact hd
  have hq2 : (dOf (sDoC D r) (t : Int)).isSome = q := by rw [hS]; exact hq
  have E1 := Lib.hid hd
  have E2 := Lib.hid hq
  have E3 := Lib.hid hd2
  have E4 := Lib.hid hq2
  clear hS hd hq hd2 hq2 h4 htx
  have c7 : w5.cell? ⟨g1, 0, none⟩ = some (.int .i64 r.kind) := CB.cell r6_r 0
  have c8 : w5.cell? ⟨g1, 1, none⟩ = some (.int .i64 r.tx) := CB.cell r6_r 1
  have DC9 := deal_c bc mc G5 D K (t : Int) _ sd5.cr.cm hti
  rw [E1.out, E2.out] at DC9
  go_wp2_with fail
  refine (DC9).mono ?_
  rintro e w10 ⟨rfl, b10⟩
  clear c7 c8
  have r11_r := le_on r6_r b10
  have r11_c := sd5.on b10
  have l11 := le_tr l6 b10
  clear r6_r sd5 l6
  clear b10
  clear DC9
  go_wp2_with (first | ((with_reducible refine st_alloc 44 (dA zeroD) ?_ ?_); exact zero_dl))
  refine ⟨fun V12 g12 n12 f12 => ?_⟩
  have ne12_r := f12.ne r11_r
  have no12_c := r11_c.fresh (Nat.le_of_eq f12.at_)
  have up12 : w.heap.size ≤ g12 := f12.up l11
  have bl12 := f12.bel
  clear f12
  have r13_r := le_on r11_r bl12
  have r13_c := r11_c.on bl12
  have l13 := le_tr l11 bl12
  clear r11_r r11_c l11
  clear bl12
  go_wp2_with (first | ((with_reducible refine st_store 44 _ _ g12 (dA d) ?_ ?_ n12 ?_ ?_ ?_ ?_); exact rfl; exact rfl; exact Try.zDl; exact rfl; exact dA_one _))
  refine ⟨fun V14 n14 k14 => ?_⟩
  have m14_r := k14.on r13_r ne12_r
  have m14_c := r13_c.wr k14 no12_c up12
  have o14 := k14.bel _ _ l13 up12
  clear k14
  clear n12 r13_r r13_c l13
  have hdo15 := do_c bc mc G5 D K r V14 m14_c.cr hw (by omega)
  go_wp2_with (first | (first | ((with_reducible refine st_load 34 _ g1 ?_ m14_r Try.underlying34 ?_ ?_ ?_); exact rfl; exact rfl; exact Try.zRr) | ((with_reducible refine st_loadG 34 _ g1 ?_ m14_r Try.underlying34 ?_ ?_ ?_ ?_); exact rfl; exact rfl; exact Try.zRr; exact rfl)))
  (with_reducible refine hdo15.mono ?_)
  intro e w15 hp15
  obtain ⟨rfl, G15, st15, ou15, nw15⟩ := m14_c.done hp15
  clear hp15 hdo15
  have q15_r := ou15.box m14_r np5_r
  have no15_r := nw15 _ (m14_r).lt np5_r
  have q15_d1 := ou15.box n14 no12_c
  have no15_d1 := nw15 _ (n14).lt no12_c
  have l15 := st15.low
  clear ou15 nw15 m14_c m14_r np5_r n14 no12_c o14
  have DC16 := deal_c bc mc G15 (sDoC D r) (lDoC D K r) (t : Int) _ st15.cr.cm hti
  rw [E3.out, E4.out] at DC16
  go_wp2_with fail
  refine (DC16).mono ?_
  rintro e w17 ⟨rfl, b17⟩
  have r18_r := le_on q15_r b17
  have r18_d1 := le_on q15_d1 b17
  have r18_c := st15.on b17
  have l18 := le_tr l15 b17
  clear q15_r q15_d1 st15 l15
  clear b17
  clear DC16
  go_wp2_with (first | ((with_reducible refine st_alloc 44 (dA zeroD) ?_ ?_); exact zero_dl))
  refine ⟨fun V19 g19 n19 f19 => ?_⟩
  have ne19_r := f19.ne r18_r
  have ne19_d1 := f19.ne r18_d1
  have no19_c := r18_c.fresh (Nat.le_of_eq f19.at_)
  have up19 : w.heap.size ≤ g19 := f19.up l18
  have bl19 := f19.bel
  clear f19
  have r20_r := le_on r18_r bl19
  have r20_d1 := le_on r18_d1 bl19
  have r20_c := r18_c.on bl19
  have l20 := le_tr l18 bl19
  clear r18_r r18_d1 r18_c l18
  clear bl19
  go_wp2_with (first | ((with_reducible refine st_store 44 _ _ g19 (dA d) ?_ ?_ n19 ?_ ?_ ?_ ?_); exact rfl; exact rfl; exact Try.zDl; exact rfl; exact dA_one _))
  refine ⟨fun V21 n21 k21 => ?_⟩
  have m21_r := k21.on r20_r ne19_r
  have m21_d1 := k21.on r20_d1 ne19_d1
  have m21_c := r20_c.wr k21 no19_c up19
  have o21 := k21.bel _ _ l20 up19
  clear k21
  clear n19 r20_r r20_d1 r20_c l20
  have heq := eqd_refl d
  have hqq : (q == q) = true := by simp
  go_wp2_with (first | (first | ((with_reducible refine st_load 44 _ g12 ?_ m21_d1 Try.underlying44 ?_ ?_ ?_); exact rfl; exact rfl; exact Try.zDl) | ((with_reducible refine st_loadG 44 _ g12 ?_ m21_d1 Try.underlying44 ?_ ?_ ?_ ?_); exact rfl; exact rfl; exact Try.zDl; exact rfl)) | (first | ((with_reducible refine st_load 44 _ g19 ?_ n21 Try.underlying44 ?_ ?_ ?_); exact rfl; exact rfl; exact Try.zDl) | ((with_reducible refine st_loadG 44 _ g19 ?_ n21 Try.underlying44 ?_ ?_ ?_ ?_); exact rfl; exact rfl; exact Try.zDl; exact rfl)))
  go_ret
  exact ⟨rfl, o21⟩
end Go.Proofs.Ytjfmahceolhfnaa
