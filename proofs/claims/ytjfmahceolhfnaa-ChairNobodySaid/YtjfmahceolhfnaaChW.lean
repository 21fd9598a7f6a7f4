/-
  ChairNobody, the walk. Conditions: the records can be read and may be.
-/
import Derived.Test.YtjfmahceolhfnaaChV
set_option linter.unusedVariables false
set_option linter.unusedSimpArgs false
namespace Go.Proofs.Ytjfmahceolhfnaa
open Go.RowKit

/-- A chair that no call made. -/
def NB (w : World) (p : Value) : Prop := p = .pointer none ∨ ∃ b, p = .pointer (some ⟨b, 0, none⟩) ∧ w.cell? ⟨b, 0, none⟩ = some (.map none)
theorem NB.on {w W : World} {p : Value} (h : NB w p) (hb : Below w.heap.size w W) : NB W p := by
  rcases h with h | ⟨b, h, hc⟩
  · exact .inl h
  · exact .inr ⟨b, h, (hb.cell (World.block_lt_of_cell? w _ hc)).trans hc⟩
theorem created_n (p : Value) (w : World) (h : NB w p) : Calls Try.prog 23 #[p] w fun zz w' => zz = .returned (.bool false) ∧ w' = w := by
  rcases h with rfl | ⟨b, rfl, hc⟩
  · exact created_0 w
  · exact created_e b w hc
set_option maxRecDepth 100000 in
set_option maxHeartbeats 4000000 in
theorem nil_do (p : Value) (r : Rd) (w : World) (h : NB w p) : Calls Try.prog 12 #[p, .agg (rA r)] w fun zz w' => zz = .returned (.tuple #[.int .i64 0, .int .i64 1]) ∧ Below w.heap.size w w' := by
  have hcr := fun (W : World) (h : NB W p) => created_n p W h
  go_enter Try.func12, Try.ntmps12
  go_wp2_with (first | ((with_reducible refine st_box 33 _ (rA r) ?_ ?_); exact rfl))
  refine ⟨fun V1 g1 n1 f1 => ?_⟩
  have up1 : w.heap.size ≤ g1 := Nat.le_of_eq f1.at_
  have bl1 := f1.bel
  clear f1
  have r2_nb := (h).on bl1
  have l2 := le_tr (Below.refl _ _) bl1
  clear h
  clear bl1
  go_wp2_with fail
  (with_reducible refine (hcr _ r2_nb).mono ?_)
  rintro e w9 ⟨rfl, rfl⟩
  go_wp2_with fail
  go_ret2
  exact ⟨rfl, l2⟩
set_option maxRecDepth 100000 in
set_option maxHeartbeats 4000000 in
theorem nil_deal (p : Value) (k : Int) (w : World) (h : NB w p) : Calls Try.prog 14 #[p, .int .i64 k] w fun zz w' => zz = .returned (.tuple #[.agg (dA zeroD), .bool false]) ∧ Below w.heap.size w w' := by
  have hcr := fun (W : World) (h : NB W p) => created_n p W h
  go_enter Try.func14, Try.ntmps14
  go_wp2_with (first | ((with_reducible refine st_alloc 44 (dA zeroD) ?_ ?_); exact zero_dl))
  refine ⟨fun V1 g1 n1 f1 => ?_⟩
  have up1 : w.heap.size ≤ g1 := Nat.le_of_eq f1.at_
  have bl1 := f1.bel
  clear f1
  have r2_nb := (h).on bl1
  have l2 := le_tr (Below.refl _ _) bl1
  clear h
  clear bl1
  go_wp2_with fail
  (with_reducible refine (hcr _ r2_nb).mono ?_)
  rintro e w9 ⟨rfl, rfl⟩
  clear r2_nb
  go_wp2_with (first | ((with_reducible refine st_built0 44 (dA zeroD) ?_ ?_); exact built_d0) | ((with_reducible refine st_store 44 _ _ g1 (dA zeroD) ?_ ?_ n1 ?_ ?_ ?_ ?_); exact rfl; exact rfl; exact Try.zDl; exact rfl; exact dA_one _))
  refine ⟨fun V3 n3 k3 => ?_⟩
  have o3 := k3.bel _ _ l2 up1
  clear k3
  clear n1 l2
  go_wp2_with fail
  exact bodyPost_ret (v := .tuple #[.agg (dA zeroD), .bool false]) (res_two Try.results14 rfl rfl n3 Try.underlying44 rfl Try.zDl) rfl ⟨rfl, o3⟩
set_option maxRecDepth 100000 in
set_option maxHeartbeats 4000000 in
theorem nil_open (p : Value) (w : World) (h : NB w p) : Calls Try.prog 20 #[p] w fun zz w' => zz = .returned (.slice none 0 0) ∧ Below w.heap.size w w' := by
  have hcr := created_n p w h
  go_enter Try.func20, Try.ntmps20
  go_wp2_with fail
  (with_reducible refine hcr.mono ?_)
  rintro e w9 ⟨rfl, rfl⟩
  go_wp2_with fail
  go_ret
  exact ⟨rfl, Below.refl _ _⟩
set_option maxRecDepth 100000 in
set_option maxHeartbeats 4000000 in
theorem nil_log (p : Value) (w : World) (h : NB w p) : Calls Try.prog 19 #[p] w fun zz w' => zz = .returned (.slice none 0 0) ∧ Below w.heap.size w w' := by
  have hcr := created_n p w h
  go_enter Try.func19, Try.ntmps19
  go_wp2_with fail
  (with_reducible refine hcr.mono ?_)
  rintro e w9 ⟨rfl, rfl⟩
  go_wp2_with fail
  go_ret
  exact ⟨rfl, Below.refl _ _⟩
theorem built_c0 : Try.prog.built 65 [] = some #[.map none, .slice none 0 0] := by kernel_rfl
set_option maxRecDepth 100000 in
set_option maxHeartbeats 4000000 in
theorem nobody_walk (A : Option Addr) (n c : Nat) (L : List Rd) (r : Rd) (w : World) (h : RR w kcl 8 A n c L) (hok : OkL L) (hw : r.who < 256) (hti : (Lit.int .i64 r.tx).wf = true) : Calls Try.prog 7 #[.slice A n c, .agg (rA r)] w fun zz w' => zz = .returned (.bool true) ∧ Below w.heap.size w w' := by
  have hpl : (plL (L.take 120)).length ≤ 120 := Nat.le_trans (plL_len _) (by rw [List.length_take]; exact Nat.min_le_left _ _)
  go_enter Try.func7, Try.ntmps7
  go_wp2_with (first | ((with_reducible refine st_box 34 _ (rA r) ?_ ?_); exact rfl))
  refine ⟨fun V1 g1 n1 f1 => ?_⟩
  have up1 : w.heap.size ≤ g1 := Nat.le_of_eq f1.at_
  have bl1 := f1.bel
  clear f1
  have l2 := le_tr (Below.refl _ _) bl1
  clear bl1
  go_wp2_with fail
  refine (alive_c _).mono ?_
  rintro e w3 ⟨rfl, b3⟩
  have r4_r := le_on n1 b3
  have l4 := le_tr l2 b3
  clear n1 l2
  clear b3
  go_wp2_with (first | ((with_reducible refine st_built0 65 (#[.map none, .slice none 0 0]) ?_ ?_); exact built_c0) | ((with_reducible refine st_box 65 _ (#[.map none, .slice none 0 0]) ?_ ?_); exact rfl))
  refine ⟨fun V5 g5 n5 f5 => ?_⟩
  have ne5 := f5.ne r4_r
  have bl5 := f5.bel
  clear f5
  have r6_r := le_on r4_r bl5
  have l6 := le_tr l4 bl5
  clear r4_r l4
  clear bl5
  obtain ⟨V6, hV6⟩ : ∃ V, V5.alloc (.cells #[.pointer none, .pointer (some ⟨g5, 0, none⟩)] 24) = V := ⟨_, rfl⟩
  have bl6 : Below V5.heap.size V5 V6 := by rw [← hV6]; exact le_al _ _
  have n6 : CB V6 V5.heap.size 24 #[.pointer none, .pointer (some ⟨g5, 0, none⟩)] := by rw [← hV6]; exact CB.new _ _ _
  have n7 := le_on n5 bl6
  obtain ⟨gs, hgs⟩ : ∃ gs, V5.heap.size = gs := ⟨_, rfl⟩
  rw [hgs] at n6
  have HV := Lib.hid hV6
  have HG := Lib.hid hgs
  clear hV6 hgs n5
  go_upto_region 5 with fail
  go_wp2_with fail
  rw [HV.out, HG.out]
  clear HV HG
  have r7_r := le_on r6_r bl6
  have l7 := le_tr l6 bl6
  clear r6_r l6
  clear bl6
  go_wp2_with fail
  go_loopw [25] (fun iv wr => ∃ k : Nat, k ≤ 2 ∧ iv = .int .i64 k ∧ CB wr g1 34 (rA r) ∧ CB wr g5 65 #[.map none, .slice none 0 0] ∧ CB wr gs 24 #[.pointer none, .pointer (some ⟨g5, 0, none⟩)] ∧ Below w.heap.size w wr) (fun iv _ => 2 - (intOf iv).toNat)
  case atStart => exact ⟨0, by omega, rfl, r7_r, n7, n6, l7⟩
  case round =>
    clear r7_r n7 n6 l7
    obtain ⟨k, hk, rfl, hr, he, hs, hb⟩ := hrel
    by_cases hlt : k < 2
    · have hp : ∃ p, NB wr p ∧ (#[Value.pointer none, .pointer (some ⟨g5, 0, none⟩)] : Array Value)[k]? = some p := by
          match k, hlt with
          | 0, _ => exact ⟨_, .inl rfl, rfl⟩
          | 1, _ => exact ⟨_, .inr ⟨_, rfl, CB.cell he 0⟩, rfl⟩
      obtain ⟨p, hnb, hp⟩ := hp
      have l1 : (k : Int) < 2 := by omega
      have l2 : (0 : Int) ≤ (k : Int) := by omega
      have cp : wr.cell? ⟨gs, k, none⟩ = some p := (CB.cell hs k).trans hp
      clear hp
      go_wp2_with (first | (first | ((with_reducible refine st_load 34 _ g1 ?_ hr Try.underlying34 ?_ ?_ ?_); exact rfl; exact rfl; exact Try.zRr) | ((with_reducible refine st_loadG 34 _ g1 ?_ hr Try.underlying34 ?_ ?_ ?_ ?_); exact rfl; exact rfl; exact Try.zRr; exact rfl)))
      refine (nil_do p r _ hnb).mono ?_
      rintro e w101 ⟨rfl, b101⟩
      clear cp
      have r102_r := le_on hr b101
      have r102_e := le_on he b101
      have r102_s := le_on hs b101
      have r102_nb := (hnb).on b101
      have l102 := le_tr hb b101
      clear hr he hs hnb hb
      clear b101
      have c103 : w101.cell? ⟨g1, 1, none⟩ = some (.int .i64 r.tx) := CB.cell r102_r 1
      go_wp2_with fail
      refine (nil_deal p r.tx _ r102_nb).mono ?_
      rintro e w104 ⟨rfl, b104⟩
      clear c103
      have r105_r := le_on r102_r b104
      have r105_e := le_on r102_e b104
      have r105_s := le_on r102_s b104
      have r105_nb := (r102_nb).on b104
      have l105 := le_tr l102 b104
      clear r102_r r102_e r102_s r102_nb l102
      clear b104
      go_wp2_with (first | ((with_reducible refine st_alloc 44 (dA zeroD) ?_ ?_); exact zero_dl))
      refine ⟨fun V106 g106 n106 f106 => ?_⟩
      have up106 : w.heap.size ≤ g106 := f106.up l105
      have na := f106.ne r105_r
      have nb1 := f106.ne r105_e
      have nc := f106.ne r105_s
      have bl106 := f106.bel
      clear f106
      have r107_r := le_on r105_r bl106
      have r107_e := le_on r105_e bl106
      have r107_s := le_on r105_s bl106
      have r107_nb := (r105_nb).on bl106
      have l107 := le_tr l105 bl106
      clear r105_r r105_e r105_s r105_nb l105
      clear bl106
      go_wp2_with (first | ((with_reducible refine st_store 44 _ _ g106 (dA zeroD) ?_ ?_ n106 ?_ ?_ ?_ ?_); exact rfl; exact rfl; exact Try.zDl; exact rfl; exact dA_one _))
      refine ⟨fun V9 n9 k9 => ?_⟩
      have r9 := k9.on r107_r na
      have e9 := k9.on r107_e nb1
      have s9 := k9.on r107_s nc
      have b9 := k9.bel _ _ l107 up106
      have hnb9 : NB V9 p := by
        rcases r107_nb with h | ⟨bb, h, hc⟩
        · exact .inl h
        · have hbb : bb ≠ g106 := fun e => by
            subst e
            rw [CB.cell n106 0] at hc
            cases hc
          exact .inr ⟨bb, h, (World.cell?_of_block (a := ⟨bb, 0, none⟩) (k9.far bb hbb)).trans hc⟩
      clear l107 r107_r r107_e r107_s n9 n106 k9 na nb1 nc r107_nb
      go_wp2_with fail
      refine (nil_open p _ hnb9).mono ?_
      rintro e w108 ⟨rfl, b108⟩
      have r109_r := le_on r9 b108
      have r109_e := le_on e9 b108
      have r109_s := le_on s9 b108
      have r109_nb := (hnb9).on b108
      have l109 := le_tr b9 b108
      clear r9 e9 s9 hnb9 b9
      clear b108
      go_wp2_with fail
      refine (nil_log p _ r109_nb).mono ?_
      rintro e w110 ⟨rfl, b110⟩
      have r111_r := le_on r109_r b110
      have r111_e := le_on r109_e b110
      have r111_s := le_on r109_s b110
      have r111_nb := (r109_nb).on b110
      have l111 := le_tr l109 b110
      clear r109_r r109_e r109_s r109_nb l109
      clear b110
      go_wp2_with fail
      go_roundw
      case rel => exact ⟨k + 1, by omega, by go_num, r111_r, r111_e, r111_s, l111⟩
      case measure => simp [intOf]; omega
    obtain rfl : k = 2 := by omega
    clear he hs
    go_wp2_with fail
    (with_reducible refine (played_c A n c L _ (h.on hb) hok).mono ?_)
    rintro e w301 ⟨bc, mc, G301, rfl, sp301⟩
    have np301_r : ¬ Own bc mc G301 g1 := fun e => by have := sp301.hi _ e; have := CB.lt hr; omega
    have sd301 := sp301.down hb
    have bl301 := sp301.low
    clear sp301
    have r302_r := le_on hr bl301
    have l302 := le_tr hb bl301
    clear hr hb
    clear bl301
    clear h hok
    generalize (plD (L.take 120)) = D at *
    generalize (plL (L.take 120)) = K at *
    obtain ⟨d, hd⟩ : ∃ d, dGet D r.tx = d := ⟨_, rfl⟩
    obtain ⟨q, hq⟩ : ∃ q, (dOf D r.tx).isSome = q := ⟨_, rfl⟩
    have E1 := Lib.hid hd
    have E2 := Lib.hid hq
    clear hd hq
    have c303 : w301.cell? ⟨g1, 1, none⟩ = some (.int .i64 r.tx) := CB.cell r302_r 1
    have DC304 := deal_c bc mc G301 D K r.tx _ sd301.cr.cm hti
    rw [E1.out, E2.out] at DC304
    go_wp2_with fail
    refine (DC304).mono ?_
    rintro e w305 ⟨rfl, b305⟩
    clear c303
    have r306_r := le_on r302_r b305
    have r306_c := sd301.on b305
    have l306 := le_tr l302 b305
    clear r302_r sd301 l302
    clear b305
    clear DC304
    go_wp2_with (first | ((with_reducible refine st_alloc 44 (dA zeroD) ?_ ?_); exact zero_dl))
    refine ⟨fun V307 g307 n307 f307 => ?_⟩
    have ne307_r := f307.ne r306_r
    have no307_c := r306_c.fresh (Nat.le_of_eq f307.at_)
    have up307 : w.heap.size ≤ g307 := f307.up l306
    have bl307 := f307.bel
    clear f307
    have r308_r := le_on r306_r bl307
    have r308_c := r306_c.on bl307
    have l308 := le_tr l306 bl307
    clear r306_r r306_c l306
    clear bl307
    go_wp2_with (first | ((with_reducible refine st_store 44 _ _ g307 (dA d) ?_ ?_ n307 ?_ ?_ ?_ ?_); exact rfl; exact rfl; exact Try.zDl; exact rfl; exact dA_one _))
    refine ⟨fun V309 n309 k309 => ?_⟩
    have m309_r := k309.on r308_r ne307_r
    have m309_c := r308_c.wr k309 no307_c up307
    have o309 := k309.bel _ _ l308 up307
    clear k309
    clear n307 r308_r r308_c l308
    obtain ⟨kn, hkn⟩ : ∃ kn, K.length = kn := ⟨_, rfl⟩
    have HLN := Lib.hid hkn
    clear hkn
    have hkn' : kn ≤ 120 := by rw [← HLN.out]; exact hpl
    go_wp2_with fail
    refine (log_c bc mc G301 D K _ m309_c.cr.cm (by omega)).mono ?_
    rintro e w311 ⟨Al310, nl310, cl310, rfl, sl310, b311⟩
    have r312_r := le_on m309_r b311
    have r312_d1 := le_on n309 b311
    have r312_c := m309_c.on b311
    have l312 := le_tr o309 b311
    clear m309_r n309 m309_c o309
    clear b311
    have en310 : nl310 = kn := by rw [← sl310.len]; exact HLN.out
    rw [en310]
    clear sl310 en310
    have hdo313 := do_c bc mc G301 D K r w311 r312_c.cr hw (by omega)
    go_wp2_with (first | (first | ((with_reducible refine st_load 34 _ g1 ?_ r312_r Try.underlying34 ?_ ?_ ?_); exact rfl; exact rfl; exact Try.zRr) | ((with_reducible refine st_loadG 34 _ g1 ?_ r312_r Try.underlying34 ?_ ?_ ?_ ?_); exact rfl; exact rfl; exact Try.zRr; exact rfl)))
    (with_reducible refine hdo313.mono ?_)
    intro e w313 hp313
    obtain ⟨rfl, G313, st313, ou313, nw313⟩ := r312_c.done hp313
    clear hp313 hdo313
    have q313_r := ou313.box r312_r np301_r
    have no313_r := nw313 _ (r312_r).lt np301_r
    have q313_d1 := ou313.box r312_d1 no307_c
    have no313_d1 := nw313 _ (r312_d1).lt no307_c
    have l313 := st313.low
    clear ou313 nw313 r312_c r312_r np301_r r312_d1 no307_c l312
    by_cases he : eDoC D r = 0
    · have HS : dGet (sDoC D r) r.tx = dGet (sDoC D r) r.tx := rfl
      clear HS
      have hl : lDoC D K r = K ++ [r] := lDoC_z K he
      have HLN := Lib.hid (show (K ++ [r]).length = kn + 1 by rw [List.length_append, HLN.out]; rfl)
      rw [he]
      rw [hl] at st313
      clear hl he
      generalize sDoC D r = D1 at *
      generalize K ++ [r] = K1 at *
      obtain ⟨d9, hd9⟩ : ∃ d, dGet D1 r.tx = d := ⟨_, rfl⟩
      obtain ⟨q9, hq9⟩ : ∃ q, (dOf D1 r.tx).isSome = q := ⟨_, rfl⟩
      have E3 := Lib.hid hd9
      have E4 := Lib.hid hq9
      clear hd9 hq9
      have c314 : w313.cell? ⟨g1, 1, none⟩ = some (.int .i64 r.tx) := CB.cell q313_r 1
      have DC315 := deal_c bc mc G313 D1 K1 r.tx _ st313.cr.cm hti
      rw [E3.out, E4.out] at DC315
      go_wp2_with fail
      refine (DC315).mono ?_
      rintro e w316 ⟨rfl, b316⟩
      clear c314
      have r317_r := le_on q313_r b316
      have r317_d1 := le_on q313_d1 b316
      have r317_c := st313.on b316
      have l317 := le_tr l313 b316
      clear q313_r q313_d1 st313 l313
      clear b316
      clear DC315
      go_wp2_with (first | ((with_reducible refine st_alloc 44 (dA zeroD) ?_ ?_); exact zero_dl))
      refine ⟨fun V318 g318 n318 f318 => ?_⟩
      have ne318_r := f318.ne r317_r
      have ne318_d1 := f318.ne r317_d1
      have no318_c := r317_c.fresh (Nat.le_of_eq f318.at_)
      have up318 : w.heap.size ≤ g318 := f318.up l317
      have bl318 := f318.bel
      clear f318
      have r319_r := le_on r317_r bl318
      have r319_d1 := le_on r317_d1 bl318
      have r319_c := r317_c.on bl318
      have l319 := le_tr l317 bl318
      clear r317_r r317_d1 r317_c l317
      clear bl318
      go_wp2_with (first | ((with_reducible refine st_store 44 _ _ g318 (dA d9) ?_ ?_ n318 ?_ ?_ ?_ ?_); exact rfl; exact rfl; exact Try.zDl; exact rfl; exact dA_one _))
      refine ⟨fun V320 n320 k320 => ?_⟩
      have m320_r := k320.on r319_r ne318_r
      have m320_d1 := k320.on r319_d1 ne318_d1
      have m320_c := r319_c.wr k320 no318_c up318
      have o320 := k320.bel _ _ l319 up318
      clear k320
      clear n318 r319_r r319_d1 r319_c l319
      go_wp2_with fail
      refine (log_c bc mc G313 D1 K1 _ m320_c.cr.cm (by rw [HLN.out]; omega)).mono ?_
      rintro e w322 ⟨Al321, nl321, cl321, rfl, sl321, b322⟩
      have r323_r := le_on m320_r b322
      have r323_d1 := le_on m320_d1 b322
      have r323_d2 := le_on n320 b322
      have r323_c := m320_c.on b322
      have l323 := le_tr o320 b322
      clear m320_r m320_d1 n320 m320_c o320
      clear b322
      have en321 : nl321 = kn + 1 := by rw [← sl321.len]; exact HLN.out
      rw [en321]
      clear sl321 en321
      go_wp2_with fail
      go_ret
      exact ⟨rfl, l323⟩
    have hl : lDoC D K r = K := lDoC_n K he
    have hs : sDoC D r = D := sDoC_n he
    obtain ⟨E, hE⟩ : ∃ E, eDoC D r = E := ⟨_, rfl⟩
    rw [hE] at he ⊢
    have q5 : ((E : Int) != 0) = true := by simp [he]
    have q6 : (E != 0) = true := by simp [he]
    rw [hl, hs] at st313
    clear hl hs he hE
    have c314 : w313.cell? ⟨g1, 1, none⟩ = some (.int .i64 r.tx) := CB.cell q313_r 1
    have DC315 := deal_c bc mc G313 D K r.tx _ st313.cr.cm hti
    rw [E1.out, E2.out] at DC315
    go_wp2_with fail
    refine (DC315).mono ?_
    rintro e w316 ⟨rfl, b316⟩
    clear c314
    have r317_r := le_on q313_r b316
    have r317_d1 := le_on q313_d1 b316
    have r317_c := st313.on b316
    have l317 := le_tr l313 b316
    clear q313_r q313_d1 st313 l313
    clear b316
    clear DC315
    go_wp2_with (first | ((with_reducible refine st_alloc 44 (dA zeroD) ?_ ?_); exact zero_dl))
    refine ⟨fun V318 g318 n318 f318 => ?_⟩
    have ne318_r := f318.ne r317_r
    have ne318_d1 := f318.ne r317_d1
    have no318_c := r317_c.fresh (Nat.le_of_eq f318.at_)
    have up318 : w.heap.size ≤ g318 := f318.up l317
    have bl318 := f318.bel
    clear f318
    have r319_r := le_on r317_r bl318
    have r319_d1 := le_on r317_d1 bl318
    have r319_c := r317_c.on bl318
    have l319 := le_tr l317 bl318
    clear r317_r r317_d1 r317_c l317
    clear bl318
    go_wp2_with (first | ((with_reducible refine st_store 44 _ _ g318 (dA d) ?_ ?_ n318 ?_ ?_ ?_ ?_); exact rfl; exact rfl; exact Try.zDl; exact rfl; exact dA_one _))
    refine ⟨fun V320 n320 k320 => ?_⟩
    have m320_r := k320.on r319_r ne318_r
    have m320_d1 := k320.on r319_d1 ne318_d1
    have m320_c := r319_c.wr k320 no318_c up318
    have o320 := k320.bel _ _ l319 up318
    clear k320
    clear n318 r319_r r319_d1 r319_c l319
    have heq := eqd_refl d
    have hqq : (q == q) = true := by simp
    go_wp2_with (first | (first | ((with_reducible refine st_load 44 _ g307 ?_ m320_d1 Try.underlying44 ?_ ?_ ?_); exact rfl; exact rfl; exact Try.zDl) | ((with_reducible refine st_loadG 44 _ g307 ?_ m320_d1 Try.underlying44 ?_ ?_ ?_ ?_); exact rfl; exact rfl; exact Try.zDl; exact rfl)) | (first | ((with_reducible refine st_load 44 _ g318 ?_ n320 Try.underlying44 ?_ ?_ ?_); exact rfl; exact rfl; exact Try.zDl) | ((with_reducible refine st_loadG 44 _ g318 ?_ n320 Try.underlying44 ?_ ?_ ?_ ?_); exact rfl; exact rfl; exact Try.zDl; exact rfl)))
    refine (log_c bc mc G313 D K _ m320_c.cr.cm (by omega)).mono ?_
    rintro e w321 ⟨Al, nl, cl, rfl, sl, b321⟩
    have r322_r := le_on m320_r b321
    have r322_d1 := le_on m320_d1 b321
    have r322_d2 := le_on n320 b321
    have r322_c := m320_c.on b321
    have l322 := le_tr o320 b321
    clear m320_r m320_d1 n320 m320_c o320
    clear b321
    have en : nl = kn := by rw [← sl.len]; exact HLN.out
    rw [en]
    clear sl en
    go_wp2_with fail
    go_ret
    exact ⟨rfl, l322⟩
end Go.Proofs.Ytjfmahceolhfnaa
