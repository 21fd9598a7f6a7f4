/-
  What a call makes of the deal of its transaction, package chair. Conditions: the chair's blocks are as it left them, the call is in range.
-/
import Derived.Test.YtjfmahceolhfnaaChI
import Derived.Test.YtjfmahceolhfnaaChD
set_option linter.unusedVariables false
set_option linter.unusedSimpArgs false
namespace Go.Proofs.Ytjfmahceolhfnaa
open Go.RowKit

theorem Fr.upO {w V : World} {g : Nat} (h : Fr w V g) {a : World} {S : Nat → Prop} (ha : Out a w S) : a.heap.size ≤ g := by have := ha.size; have := h.at_; omega
theorem Mt.on {w V : World} {m : Nat} (h : Mt w V m) {b : Nat} {T : TypeId} {cs : Array Value} (hb : CB w b T cs) {D : DM} (hm : MD w m D) : CB V b T cs := CB.same hb (h.far b (hm.ne hb))
theorem RS.mt {α : Type} {c : α → List Value} {s : Nat} [Nonempty (EncOk c s)] {w V : World} {T : TypeId} {A : Option Addr} {n q m : Nat} {L : List α} (h : RS w T c s A n q L) (k : Mt w V m) {D : DM} (hm : MD w m D) : RS V T c s A n q L := by
  obtain ⟨G, h2⟩ := h
  exact ⟨G, h2.keep fun b hb => k.far b (by
    subst hb
    obtain ⟨cs, hc⟩ := seg_type h2
    exact hm.ne hc)⟩
/-- What after hands back. -/
def eAf (D : DM) (r : Rd) : Nat := if r.kind = 1 then (match D r.tx.toNat with | none => eBg r | some _ => 8) else match D r.tx.toNat with | none => 7 | some d => if ¬ d.out = 0 then 13 else if r.kind = 2 then eVo d r else eEx d r
def xAf (D : DM) (r : Rd) : Dl := if r.kind = 1 then (match D r.tx.toNat with | none => xBg r | some d => d) else match D r.tx.toNat with | none => zeroD | some d => if ¬ d.out = 0 then d else if r.kind = 2 then xVo d r else xEx d r
theorem af_1n {D : DM} {r : Rd} (h : r.kind = 1) (hd : D r.tx.toNat = none) : eAf D r = eBg r ∧ xAf D r = xBg r := by unfold eAf xAf; rw [if_pos h, if_pos h, hd]; exact ⟨rfl, rfl⟩
theorem af_1s {D : DM} {r : Rd} {d : Dl} (h : r.kind = 1) (hd : D r.tx.toNat = some d) : eAf D r = 8 ∧ xAf D r = d := by unfold eAf xAf; rw [if_pos h, if_pos h, hd]; exact ⟨rfl, rfl⟩
theorem af_n {D : DM} {r : Rd} (h : ¬ r.kind = 1) (hd : D r.tx.toNat = none) : eAf D r = 7 ∧ xAf D r = zeroD := by unfold eAf xAf; rw [if_neg h, if_neg h, hd]; exact ⟨rfl, rfl⟩
theorem af_o {D : DM} {r : Rd} {d : Dl} (h : ¬ r.kind = 1) (hd : D r.tx.toNat = some d) (ho : ¬ d.out = 0) : eAf D r = 13 ∧ xAf D r = d := by unfold eAf xAf; rw [if_neg h, if_neg h, hd]; simp only; rw [if_pos ho, if_pos ho]; exact ⟨rfl, rfl⟩
theorem af_2 {D : DM} {r : Rd} {d : Dl} (h : r.kind = 2) (hd : D r.tx.toNat = some d) (ho : d.out = 0) : eAf D r = eVo d r ∧ xAf D r = xVo d r := by unfold eAf xAf; rw [if_neg (by omega), if_neg (by omega), hd]; simp only; rw [if_neg (not_not_intro ho), if_neg (not_not_intro ho), if_pos h, if_pos h]; exact ⟨rfl, rfl⟩
theorem af_3 {D : DM} {r : Rd} {d : Dl} (h : ¬ r.kind = 1) (h2 : ¬ r.kind = 2) (hd : D r.tx.toNat = some d) (ho : d.out = 0) : eAf D r = eEx d r ∧ xAf D r = xEx d r := by unfold eAf xAf; rw [if_neg h, if_neg h, hd]; simp only; rw [if_neg (not_not_intro ho), if_neg (not_not_intro ho), if_neg h2, if_neg h2]; exact ⟨rfl, rfl⟩
theorem eAf_is {D : DM} {r : Rd} (hok : okR r) (h4 : ¬ r.kind = 4) : eDoC D r = eAf D r := by
  by_cases h1 : r.kind = 1
  · rw [eDoC_b hok h1]
    cases hd : D r.tx.toNat with
    | none => rw [(af_1n h1 hd).1]; unfold eBeg eBg; rw [hd]; rfl
    | some d => rw [(af_1s h1 hd).1]; unfold eBeg; rw [hd]; rfl
  · cases hd : D r.tx.toNat with
    | none => rw [(af_n h1 hd).1, eDoC_7 hok h1 h4 hd]
    | some d =>
      rw [eDoC_d hok h1 h4 hd]
      by_cases ho : d.out = 0
      · by_cases h2 : r.kind = 2
        · rw [(af_2 h2 hd ho).1]
          unfold eDeal eVot eVo
          rw [if_neg (by omega), if_neg (not_not_intro ho)]
        · rw [(af_3 h1 h2 hd ho).1]
          unfold eDeal eExD eEx
          rw [if_pos (by have := hok.1; omega), if_neg (not_not_intro ho)]
      · rw [(af_o h1 hd ho).1]
        unfold eDeal eExD eVot
        rw [if_pos ho, if_pos ho]
        split <;> rfl
theorem xAf_is {D : DM} {r : Rd} (hok : okR r) (h4 : ¬ r.kind = 4) (he : eAf D r = 0) : sDoC D r = updD D r.tx.toNat (xAf D r) ∧ nDoC D r = if (xAf D r).out = 0 then 0 else 1 := by
  have hz : eDoC D r = 0 := (eAf_is hok h4).trans he
  rw [sDoC_z hz, nDoC_z hz]
  by_cases h1 : r.kind = 1
  · rw [stC_b h1, numC_b h1]
    cases hd : D r.tx.toNat with
    | none =>
      rw [(af_1n h1 hd).1] at he
      rw [(af_1n h1 hd).2]
      have hw : ¬ r.who = 0 := fun e => by unfold eBg at he; rw [if_pos e] at he; cases he
      have : xBg r = dBeg r := by unfold xBg; rw [if_neg hw]
      rw [this]
      exact ⟨rfl, rfl⟩
    | some d => rw [(af_1s h1 hd).1] at he; cases he
  · cases hd : D r.tx.toNat with
    | none => rw [(af_n h1 hd).1] at he; cases he
    | some d =>
      rw [stC_d h1 h4 hd, numC_d h1 h4 hd]
      by_cases ho : d.out = 0
      · by_cases h2 : r.kind = 2
        · rw [(af_2 h2 hd ho).1] at he
          rw [(af_2 h2 hd ho).2]
          have : xVo d r = dDeal d r := by
            have e : dDeal d r = dVot d r := by unfold dDeal; rw [if_neg (by omega)]
            rw [e]
            unfold eVo at he
            unfold xVo
            split at he
            · cases he
            · rename_i hh; rw [if_neg hh]
          rw [this]
          exact ⟨rfl, rfl⟩
        · rw [(af_3 h1 h2 hd ho).1] at he
          rw [(af_3 h1 h2 hd ho).2]
          have : xEx d r = dDeal d r := by
            have e : dDeal d r = dExD d r := by unfold dDeal; rw [if_pos (by have := hok.1; omega)]
            rw [e]
            unfold eEx at he
            unfold xEx
            split at he
            · rename_i hh; exact absurd he hh
            · rename_i hh; rw [if_neg hh]
          rw [this]
          exact ⟨rfl, rfl⟩
      · rw [(af_o h1 hd ho).1] at he; cases he
set_option maxRecDepth 100000 in
set_option maxHeartbeats 4000000 in
theorem after_c (b m : Nat) (G : Option Nat) (D : DM) (log : List Rd) (r : Rd) (w : World) (h : CM w b m G D log) (hok : okR r) (hw : r.who < 256) : Calls Try.prog 32 #[.pointer (some ⟨b, 0, none⟩), .agg (rA r)] w fun zz w' => zz = .returned (.tuple #[.agg (dA (xAf D r)), .int .i64 ((eAf D r : Nat) : Int)]) ∧ Below w.heap.size w w' := by
  have hk : (Lit.int .i64 r.tx).wf = true := wfI (by have := hok.2; omega)
  have htx : dOf D r.tx = D r.tx.toNat := by unfold dOf; rw [if_pos hok.2.1]
  have hlk := fun (W : World) (h : CM W b m G D log) => (h.md.look hk).trans (by rw [look_is])
  have cu := CU.start h
  clear h hk
  by_cases h1 : r.kind = 1
  · have q1 : (r.kind == 1) = true := by simp [h1]
    cases hd : D r.tx.toNat with
    | none =>
      have HE := Lib.hid (af_1n h1 hd).1
      have HS := Lib.hid (af_1n h1 hd).2
      have B1 := fun W => begun_c r W hw
      obtain ⟨U, hU⟩ : ∃ U, xBg r = U := ⟨_, rfl⟩
      obtain ⟨E, hE⟩ : ∃ E, eBg r = E := ⟨_, rfl⟩
      rw [hU, hE] at B1
      rw [hE] at HE
      rw [hU] at HS
      clear hU hE h1
      have hdd : dGet D r.tx = zeroD := by unfold dGet; rw [htx, hd]; rfl
      have hq : (dOf D r.tx).isSome = false := by rw [htx, hd]; rfl
      rw [hdd, hq] at hlk
      clear hdd hq htx hd
      go_enter Try.func32, Try.ntmps32
      go_wp2_with (first | ((with_reducible refine st_box 33 _ (rA r) ?_ ?_); exact rfl))
      refine ⟨fun V1 g1 n1 f1 => ?_⟩
      have up1 : w.heap.size ≤ g1 := Nat.le_of_eq f1.at_
      have bl1 := f1.bel
      clear f1
      have r2_cu := (cu).on bl1
      have l2 := le_tr (Below.refl _ _) bl1
      clear cu
      clear bl1
      go_wp2_with (first | ((with_reducible refine st_alloc 44 (dA zeroD) ?_ ?_); exact zero_dl))
      refine ⟨fun V3 g3 n3 f3 => ?_⟩
      have ne3_r := f3.ne n1
      have up3 : w.heap.size ≤ g3 := f3.up l2
      have bl3 := f3.bel
      clear f3
      have r4_r := le_on n1 bl3
      have r4_cu := (r2_cu).on bl3
      have l4 := le_tr l2 bl3
      clear n1 r2_cu l2
      clear bl3
      go_wp2_with fail
      have y5 := Lib.hid (show (fun V : World => CB V g1 33 (rA r) ∧ CU w V b m G D log) V3.drew from ⟨CB.drew r4_r, (r4_cu).drew⟩)
      refine wp_region_held_drew (S := (fun V : World => CB V g1 33 (rA r) ∧ CU w V b m G D log)) (by kernel_rfl) y5.out (fun hHeld => ?_)
      obtain ⟨D5, hD5⟩ : ∃ V, V3.drew = V := ⟨_, rfl⟩
      have b5 : Below V3.heap.size V3 D5 := by rw [← hD5]; exact le_dr (Below.refl _ _)
      rw [hD5] at hHeld ⊢
      clear hD5
      have r6_r := le_on r4_r b5
      have r6_z := le_on n3 b5
      have r6_cu := (r4_cu).on b5
      have l6 := le_tr l4 b5
      clear r4_r n3 r4_cu l4
      clear b5
      refine wpAnyH_takeL (i := 0) (d := some 9) (v := .pointer (some ⟨b, 0, none⟩)) rfl rfl (by kernel_rfl) (by kernel_rfl) (by kernel_rfl) (fun _ _ _ h => h) (Or.inl ⟨by rfl, ?_⟩) hHeld ?_
      · intro w hSw; (try dsimp only at hSw); go_simp
      try simp only [Act.put, List.setIfInBounds_toArray, List.set_cons_zero, List.set_cons_succ]
      refine wpAnyH_takeL (i := 1) (d := some 10) (v := .pointer (some ⟨b, 0, none⟩)) rfl rfl (by kernel_rfl) (by kernel_rfl) (by kernel_rfl) (fun _ _ _ h => h) (Or.inl ⟨by rfl, ?_⟩) hHeld ?_
      · intro w hSw; (try dsimp only at hSw); go_simp
      try simp only [Act.put, List.setIfInBounds_toArray, List.set_cons_zero, List.set_cons_succ]
      refine wpAnyH_takeL (i := 2) (d := some 11) (v := .pointer (some ⟨b, 0, none⟩)) rfl rfl (by kernel_rfl) (by kernel_rfl) (by kernel_rfl) (fun _ _ _ h => h) (Or.inl ⟨by rfl, ?_⟩) hHeld ?_
      · intro w hSw; (try dsimp only at hSw); go_simp
      try simp only [Act.put, List.setIfInBounds_toArray, List.set_cons_zero, List.set_cons_succ]
      refine wpAnyH_takeL (i := 3) (d := some 12) (v := .map (some m)) rfl rfl (by kernel_rfl) (by kernel_rfl) (by kernel_rfl) (fun _ _ _ h => h) (Or.inl ⟨by rfl, ?_⟩) hHeld ?_
      · intro w hSw; (obtain ⟨⟨A, n, c, k1, k2⟩, k3⟩ := hSw.2.cm; have hcc : w.cell? ⟨b, 0, none⟩ = some (.map (some m)) := CB.cell k1 0; go_simp)
      try simp only [Act.put, List.setIfInBounds_toArray, List.set_cons_zero, List.set_cons_succ]
      refine wpAnyH_takeL (i := 4) (d := some 13) (v := .pointer (some ⟨g1, 1, none⟩)) rfl rfl (by kernel_rfl) (by kernel_rfl) (by kernel_rfl) (fun _ _ _ h => h) (Or.inl ⟨by rfl, ?_⟩) hHeld ?_
      · intro w hSw; (try dsimp only at hSw); go_simp
      try simp only [Act.put, List.setIfInBounds_toArray, List.set_cons_zero, List.set_cons_succ]
      refine wpAnyH_takeL (i := 5) (d := some 14) (v := .int .i64 r.tx) rfl rfl (by kernel_rfl) (by kernel_rfl) (by kernel_rfl) (fun _ _ _ h => h) (Or.inl ⟨by rfl, ?_⟩) hHeld ?_
      · intro w hSw; (try dsimp only at hSw); have hcc : w.cell? ⟨g1, 1, none⟩ = some (.int .i64 r.tx) := CB.cell hSw.1 1; go_simp
      try simp only [Act.put, List.setIfInBounds_toArray, List.set_cons_zero, List.set_cons_succ]
      refine wpAnyH_takeL (i := 6) (d := some 15) (v := .tuple #[.agg (dA zeroD), .bool false]) rfl rfl (by kernel_rfl) (by kernel_rfl) (by kernel_rfl) (fun _ _ _ h => h) (Or.inl ⟨by rfl, ?_⟩) hHeld ?_
      · intro w hSw; (have hl := hlk w hSw.2.cm; go_simp)
      try simp only [Act.put, List.setIfInBounds_toArray, List.set_cons_zero, List.set_cons_succ]
      refine wpAnyH_takeL (i := 7) (d := some 8) (v := .tuple #[.agg (dA zeroD), .bool false]) rfl rfl (by kernel_rfl) (by kernel_rfl) (by kernel_rfl) (fun _ _ _ h => h) (Or.inl ⟨by rfl, ?_⟩) hHeld ?_
      · intro w hSw; (try dsimp only at hSw); go_simp
      try simp only [Act.put, List.setIfInBounds_toArray, List.set_cons_zero, List.set_cons_succ]
      refine wpAnyH_takeL (i := 8) (d := some 16) (v := .agg (dA zeroD)) rfl rfl (by kernel_rfl) (by kernel_rfl) (by kernel_rfl) (fun _ _ _ h => h) (Or.inl ⟨by rfl, ?_⟩) hHeld ?_
      · intro w hSw; (try dsimp only at hSw); go_simp
      try simp only [Act.put, List.setIfInBounds_toArray, List.set_cons_zero, List.set_cons_succ]
      refine wpAnyH_takeL (i := 9) (d := some 17) (v := .bool false) rfl rfl (by kernel_rfl) (by kernel_rfl) (by kernel_rfl) (fun _ _ _ h => h) (Or.inl ⟨by rfl, ?_⟩) hHeld ?_
      · intro w hSw; (try dsimp only at hSw); go_simp
      try simp only [Act.put, List.setIfInBounds_toArray, List.set_cons_zero, List.set_cons_succ]
      refine wpAnyH_ready (rs := [10]) (by kernel_rfl) (by simp) ?_
      refine AllReadyH.cons rfl (fun K hK => ?_) AllReadyH.nil
      refine rd_alloc rfl 44 rfl (some 6) rfl (dA zeroD) zero_dl ?_
      refine ⟨fun V7 g7 n7 f7 => ?_⟩
      have ne7_r := f7.ne r6_r
      have ne7_z := f7.ne r6_z
      have up7 : w.heap.size ≤ g7 := f7.up l6
      have bl7 := f7.bel
      clear f7
      have r8_r := le_on r6_r bl7
      have r8_z := le_on r6_z bl7
      have r8_cu := (r6_cu).on bl7
      have l8 := le_tr l6 bl7
      clear r6_r r6_z r6_cu l6
      clear bl7
      have y9 := Lib.hid (show (fun V : World => CB V g1 33 (rA r) ∧ CU w V b m G D log) V7 from ⟨r8_r, r8_cu⟩)
      refine hK.out _ _ y9.out (fun hHeld => ?_)
      clear hK K y9
      try simp only [Act.put, List.setIfInBounds_toArray, List.set_cons_zero, List.set_cons_succ]
      refine wpAnyH_ready (rs := [11]) (by kernel_rfl) (by simp) ?_
      refine AllReadyH.cons rfl (fun K hK => ?_) AllReadyH.nil
      refine rd_store rfl 44 _ _ rfl none rfl g7 (dA zeroD) rfl rfl n7 Try.zDl rfl (dA_one _) ?_
      refine ⟨fun V10 n10 k10 => ?_⟩
      have m10_r := k10.on r8_r ne7_r
      have m10_z := k10.on r8_z ne7_z
      have m10_cu := (r8_cu).wr k10 up7
      have o10 := k10.bel _ _ l8 up7
      clear k10
      clear n7 r8_r r8_z r8_cu l8
      have y11 := Lib.hid (show (fun V : World => CB V g1 33 (rA r) ∧ CU w V b m G D log) V10 from ⟨m10_r, m10_cu⟩)
      refine hK.out _ _ y11.out (fun hHeld => ?_)
      clear hK K y11
      try simp only [Act.put, List.setIfInBounds_toArray, List.set_cons_zero, List.set_cons_succ]
      refine wpAnyH_takeL (i := 12) (d := some 7) (v := .bool false) rfl rfl (by kernel_rfl) (by kernel_rfl) (by kernel_rfl) (fun _ _ _ h => h) (Or.inl ⟨by rfl, ?_⟩) hHeld ?_
      · intro w hSw; (try dsimp only at hSw); go_simp
      try simp only [Act.put, List.setIfInBounds_toArray, List.set_cons_zero, List.set_cons_succ]
      refine wpAnyH_done (by kernel_rfl) ?_ _
      have c12 : V10.cell? ⟨g1, 0, none⟩ = some (.int .i64 r.kind) := CB.cell m10_r 0
      go_wp2_with (first | (first | ((with_reducible refine st_load 33 _ g1 ?_ m10_r Try.underlying33 ?_ ?_ ?_); exact rfl; exact rfl; exact Try.zRk) | ((with_reducible refine st_loadG 33 _ g1 ?_ m10_r Try.underlying33 ?_ ?_ ?_ ?_); exact rfl; exact rfl; exact Try.zRk; exact rfl)))
      refine (B1 _).mono ?_
      rintro e w13 ⟨rfl, b13⟩
      clear c12
      have r14_r := le_on m10_r b13
      have r14_z := le_on m10_z b13
      have r14_d := le_on n10 b13
      have r14_cu := (m10_cu).on b13
      have l14 := le_tr o10 b13
      clear m10_r m10_z n10 m10_cu o10
      clear b13
      go_wp2_with (first | ((with_reducible refine st_store 44 _ _ g3 (dA U) ?_ ?_ r14_z ?_ ?_ ?_ ?_); exact rfl; exact rfl; exact Try.zDl; exact rfl; exact dA_one _))
      refine ⟨fun V15 n15 k15 => ?_⟩
      have m15_r := k15.on r14_r ne3_r
      have m15_d := k15.on r14_d (Ne.symm ne7_z)
      have m15_cu := (r14_cu).wr k15 up3
      have o15 := k15.bel _ _ l14 up3
      clear k15
      clear r14_z r14_r r14_d r14_cu l14
      go_wp2_with fail
      exact bodyPost_ret (v := .tuple #[.agg (dA U), .int .i64 (E : Int)]) (res_two Try.results32 rfl rfl n15 Try.underlying44 rfl Try.zDl) rfl ⟨(by rw [HE.out, HS.out] <;> rfl), o15⟩
    | some d =>
      have HE := Lib.hid (af_1s h1 hd).1
      have HS := Lib.hid (af_1s h1 hd).2
      clear h1
      have hdd : dGet D r.tx = d := by unfold dGet; rw [htx, hd]; rfl
      have hq : (dOf D r.tx).isSome = true := by rw [htx, hd]; rfl
      rw [hdd, hq] at hlk
      clear hdd hq htx hd
      go_enter Try.func32, Try.ntmps32
      go_wp2_with (first | ((with_reducible refine st_box 33 _ (rA r) ?_ ?_); exact rfl))
      refine ⟨fun V1 g1 n1 f1 => ?_⟩
      have up1 : w.heap.size ≤ g1 := Nat.le_of_eq f1.at_
      have bl1 := f1.bel
      clear f1
      have r2_cu := (cu).on bl1
      have l2 := le_tr (Below.refl _ _) bl1
      clear cu
      clear bl1
      go_wp2_with (first | ((with_reducible refine st_alloc 44 (dA zeroD) ?_ ?_); exact zero_dl))
      refine ⟨fun V3 g3 n3 f3 => ?_⟩
      have ne3_r := f3.ne n1
      have up3 : w.heap.size ≤ g3 := f3.up l2
      have bl3 := f3.bel
      clear f3
      have r4_r := le_on n1 bl3
      have r4_cu := (r2_cu).on bl3
      have l4 := le_tr l2 bl3
      clear n1 r2_cu l2
      clear bl3
      go_wp2_with fail
      have y5 := Lib.hid (show (fun V : World => CB V g1 33 (rA r) ∧ CU w V b m G D log) V3.drew from ⟨CB.drew r4_r, (r4_cu).drew⟩)
      refine wp_region_held_drew (S := (fun V : World => CB V g1 33 (rA r) ∧ CU w V b m G D log)) (by kernel_rfl) y5.out (fun hHeld => ?_)
      obtain ⟨D5, hD5⟩ : ∃ V, V3.drew = V := ⟨_, rfl⟩
      have b5 : Below V3.heap.size V3 D5 := by rw [← hD5]; exact le_dr (Below.refl _ _)
      rw [hD5] at hHeld ⊢
      clear hD5
      have r6_r := le_on r4_r b5
      have r6_z := le_on n3 b5
      have r6_cu := (r4_cu).on b5
      have l6 := le_tr l4 b5
      clear r4_r n3 r4_cu l4
      clear b5
      refine wpAnyH_takeL (i := 0) (d := some 9) (v := .pointer (some ⟨b, 0, none⟩)) rfl rfl (by kernel_rfl) (by kernel_rfl) (by kernel_rfl) (fun _ _ _ h => h) (Or.inl ⟨by rfl, ?_⟩) hHeld ?_
      · intro w hSw; (try dsimp only at hSw); go_simp
      try simp only [Act.put, List.setIfInBounds_toArray, List.set_cons_zero, List.set_cons_succ]
      refine wpAnyH_takeL (i := 1) (d := some 10) (v := .pointer (some ⟨b, 0, none⟩)) rfl rfl (by kernel_rfl) (by kernel_rfl) (by kernel_rfl) (fun _ _ _ h => h) (Or.inl ⟨by rfl, ?_⟩) hHeld ?_
      · intro w hSw; (try dsimp only at hSw); go_simp
      try simp only [Act.put, List.setIfInBounds_toArray, List.set_cons_zero, List.set_cons_succ]
      refine wpAnyH_takeL (i := 2) (d := some 11) (v := .pointer (some ⟨b, 0, none⟩)) rfl rfl (by kernel_rfl) (by kernel_rfl) (by kernel_rfl) (fun _ _ _ h => h) (Or.inl ⟨by rfl, ?_⟩) hHeld ?_
      · intro w hSw; (try dsimp only at hSw); go_simp
      try simp only [Act.put, List.setIfInBounds_toArray, List.set_cons_zero, List.set_cons_succ]
      refine wpAnyH_takeL (i := 3) (d := some 12) (v := .map (some m)) rfl rfl (by kernel_rfl) (by kernel_rfl) (by kernel_rfl) (fun _ _ _ h => h) (Or.inl ⟨by rfl, ?_⟩) hHeld ?_
      · intro w hSw; (obtain ⟨⟨A, n, c, k1, k2⟩, k3⟩ := hSw.2.cm; have hcc : w.cell? ⟨b, 0, none⟩ = some (.map (some m)) := CB.cell k1 0; go_simp)
      try simp only [Act.put, List.setIfInBounds_toArray, List.set_cons_zero, List.set_cons_succ]
      refine wpAnyH_takeL (i := 4) (d := some 13) (v := .pointer (some ⟨g1, 1, none⟩)) rfl rfl (by kernel_rfl) (by kernel_rfl) (by kernel_rfl) (fun _ _ _ h => h) (Or.inl ⟨by rfl, ?_⟩) hHeld ?_
      · intro w hSw; (try dsimp only at hSw); go_simp
      try simp only [Act.put, List.setIfInBounds_toArray, List.set_cons_zero, List.set_cons_succ]
      refine wpAnyH_takeL (i := 5) (d := some 14) (v := .int .i64 r.tx) rfl rfl (by kernel_rfl) (by kernel_rfl) (by kernel_rfl) (fun _ _ _ h => h) (Or.inl ⟨by rfl, ?_⟩) hHeld ?_
      · intro w hSw; (try dsimp only at hSw); have hcc : w.cell? ⟨g1, 1, none⟩ = some (.int .i64 r.tx) := CB.cell hSw.1 1; go_simp
      try simp only [Act.put, List.setIfInBounds_toArray, List.set_cons_zero, List.set_cons_succ]
      refine wpAnyH_takeL (i := 6) (d := some 15) (v := .tuple #[.agg (dA d), .bool true]) rfl rfl (by kernel_rfl) (by kernel_rfl) (by kernel_rfl) (fun _ _ _ h => h) (Or.inl ⟨by rfl, ?_⟩) hHeld ?_
      · intro w hSw; (have hl := hlk w hSw.2.cm; go_simp)
      try simp only [Act.put, List.setIfInBounds_toArray, List.set_cons_zero, List.set_cons_succ]
      refine wpAnyH_takeL (i := 7) (d := some 8) (v := .tuple #[.agg (dA d), .bool true]) rfl rfl (by kernel_rfl) (by kernel_rfl) (by kernel_rfl) (fun _ _ _ h => h) (Or.inl ⟨by rfl, ?_⟩) hHeld ?_
      · intro w hSw; (try dsimp only at hSw); go_simp
      try simp only [Act.put, List.setIfInBounds_toArray, List.set_cons_zero, List.set_cons_succ]
      refine wpAnyH_takeL (i := 8) (d := some 16) (v := .agg (dA d)) rfl rfl (by kernel_rfl) (by kernel_rfl) (by kernel_rfl) (fun _ _ _ h => h) (Or.inl ⟨by rfl, ?_⟩) hHeld ?_
      · intro w hSw; (try dsimp only at hSw); go_simp
      try simp only [Act.put, List.setIfInBounds_toArray, List.set_cons_zero, List.set_cons_succ]
      refine wpAnyH_takeL (i := 9) (d := some 17) (v := .bool true) rfl rfl (by kernel_rfl) (by kernel_rfl) (by kernel_rfl) (fun _ _ _ h => h) (Or.inl ⟨by rfl, ?_⟩) hHeld ?_
      · intro w hSw; (try dsimp only at hSw); go_simp
      try simp only [Act.put, List.setIfInBounds_toArray, List.set_cons_zero, List.set_cons_succ]
      refine wpAnyH_ready (rs := [10]) (by kernel_rfl) (by simp) ?_
      refine AllReadyH.cons rfl (fun K hK => ?_) AllReadyH.nil
      refine rd_alloc rfl 44 rfl (some 6) rfl (dA zeroD) zero_dl ?_
      refine ⟨fun V7 g7 n7 f7 => ?_⟩
      have ne7_r := f7.ne r6_r
      have ne7_z := f7.ne r6_z
      have up7 : w.heap.size ≤ g7 := f7.up l6
      have bl7 := f7.bel
      clear f7
      have r8_r := le_on r6_r bl7
      have r8_z := le_on r6_z bl7
      have r8_cu := (r6_cu).on bl7
      have l8 := le_tr l6 bl7
      clear r6_r r6_z r6_cu l6
      clear bl7
      have y9 := Lib.hid (show (fun V : World => CB V g1 33 (rA r) ∧ CU w V b m G D log) V7 from ⟨r8_r, r8_cu⟩)
      refine hK.out _ _ y9.out (fun hHeld => ?_)
      clear hK K y9
      try simp only [Act.put, List.setIfInBounds_toArray, List.set_cons_zero, List.set_cons_succ]
      refine wpAnyH_ready (rs := [11]) (by kernel_rfl) (by simp) ?_
      refine AllReadyH.cons rfl (fun K hK => ?_) AllReadyH.nil
      refine rd_store rfl 44 _ _ rfl none rfl g7 (dA d) rfl rfl n7 Try.zDl rfl (dA_one _) ?_
      refine ⟨fun V10 n10 k10 => ?_⟩
      have m10_r := k10.on r8_r ne7_r
      have m10_z := k10.on r8_z ne7_z
      have m10_cu := (r8_cu).wr k10 up7
      have o10 := k10.bel _ _ l8 up7
      clear k10
      clear n7 r8_r r8_z r8_cu l8
      have y11 := Lib.hid (show (fun V : World => CB V g1 33 (rA r) ∧ CU w V b m G D log) V10 from ⟨m10_r, m10_cu⟩)
      refine hK.out _ _ y11.out (fun hHeld => ?_)
      clear hK K y11
      try simp only [Act.put, List.setIfInBounds_toArray, List.set_cons_zero, List.set_cons_succ]
      refine wpAnyH_takeL (i := 12) (d := some 7) (v := .bool true) rfl rfl (by kernel_rfl) (by kernel_rfl) (by kernel_rfl) (fun _ _ _ h => h) (Or.inl ⟨by rfl, ?_⟩) hHeld ?_
      · intro w hSw; (try dsimp only at hSw); go_simp
      try simp only [Act.put, List.setIfInBounds_toArray, List.set_cons_zero, List.set_cons_succ]
      refine wpAnyH_done (by kernel_rfl) ?_ _
      have c12 : V10.cell? ⟨g1, 0, none⟩ = some (.int .i64 r.kind) := CB.cell m10_r 0
      go_wp2_with (first | (first | ((with_reducible refine st_load 44 _ g7 ?_ n10 Try.underlying44 ?_ ?_ ?_); exact rfl; exact rfl; exact Try.zDl) | ((with_reducible refine st_loadG 44 _ g7 ?_ n10 Try.underlying44 ?_ ?_ ?_ ?_); exact rfl; exact rfl; exact Try.zDl; exact rfl)) | ((with_reducible refine st_store 44 _ _ g3 (dA d) ?_ ?_ m10_z ?_ ?_ ?_ ?_); exact rfl; exact rfl; exact Try.zDl; exact rfl; exact dA_one _))
      refine ⟨fun V13 n13 k13 => ?_⟩
      clear c12
      have m13_r := k13.on m10_r ne3_r
      have m13_d := k13.on n10 (Ne.symm ne7_z)
      have m13_cu := (m10_cu).wr k13 up3
      have o13 := k13.bel _ _ o10 up3
      clear k13
      clear m10_z m10_r n10 m10_cu o10
      go_wp2_with fail
      exact bodyPost_ret (v := .tuple #[.agg (dA d), .int .i64 8]) (res_two Try.results32 rfl rfl n13 Try.underlying44 rfl Try.zDl) rfl ⟨(by rw [HE.out, HS.out] <;> rfl), o13⟩
  have q1 : (r.kind == 1) = false := by simp [h1]
  cases hd : D r.tx.toNat with
  | none =>
    have HE := Lib.hid (af_n h1 hd).1
    have HS := Lib.hid (af_n h1 hd).2
    clear h1
    have hdd : dGet D r.tx = zeroD := by unfold dGet; rw [htx, hd]; rfl
    have hq : (dOf D r.tx).isSome = false := by rw [htx, hd]; rfl
    rw [hdd, hq] at hlk
    clear hdd hq htx hd
    go_enter Try.func32, Try.ntmps32
    go_wp2_with (first | ((with_reducible refine st_box 33 _ (rA r) ?_ ?_); exact rfl))
    refine ⟨fun V1 g1 n1 f1 => ?_⟩
    have up1 : w.heap.size ≤ g1 := Nat.le_of_eq f1.at_
    have bl1 := f1.bel
    clear f1
    have r2_cu := (cu).on bl1
    have l2 := le_tr (Below.refl _ _) bl1
    clear cu
    clear bl1
    go_wp2_with (first | ((with_reducible refine st_alloc 44 (dA zeroD) ?_ ?_); exact zero_dl))
    refine ⟨fun V3 g3 n3 f3 => ?_⟩
    have ne3_r := f3.ne n1
    have up3 : w.heap.size ≤ g3 := f3.up l2
    have bl3 := f3.bel
    clear f3
    have r4_r := le_on n1 bl3
    have r4_cu := (r2_cu).on bl3
    have l4 := le_tr l2 bl3
    clear n1 r2_cu l2
    clear bl3
    go_wp2_with fail
    have y5 := Lib.hid (show (fun V : World => CB V g1 33 (rA r) ∧ CU w V b m G D log) V3.drew from ⟨CB.drew r4_r, (r4_cu).drew⟩)
    refine wp_region_held_drew (S := (fun V : World => CB V g1 33 (rA r) ∧ CU w V b m G D log)) (by kernel_rfl) y5.out (fun hHeld => ?_)
    obtain ⟨D5, hD5⟩ : ∃ V, V3.drew = V := ⟨_, rfl⟩
    have b5 : Below V3.heap.size V3 D5 := by rw [← hD5]; exact le_dr (Below.refl _ _)
    rw [hD5] at hHeld ⊢
    clear hD5
    have r6_r := le_on r4_r b5
    have r6_z := le_on n3 b5
    have r6_cu := (r4_cu).on b5
    have l6 := le_tr l4 b5
    clear r4_r n3 r4_cu l4
    clear b5
    refine wpAnyH_takeL (i := 0) (d := some 9) (v := .pointer (some ⟨b, 0, none⟩)) rfl rfl (by kernel_rfl) (by kernel_rfl) (by kernel_rfl) (fun _ _ _ h => h) (Or.inl ⟨by rfl, ?_⟩) hHeld ?_
    · intro w hSw; (try dsimp only at hSw); go_simp
    try simp only [Act.put, List.setIfInBounds_toArray, List.set_cons_zero, List.set_cons_succ]
    refine wpAnyH_takeL (i := 1) (d := some 10) (v := .pointer (some ⟨b, 0, none⟩)) rfl rfl (by kernel_rfl) (by kernel_rfl) (by kernel_rfl) (fun _ _ _ h => h) (Or.inl ⟨by rfl, ?_⟩) hHeld ?_
    · intro w hSw; (try dsimp only at hSw); go_simp
    try simp only [Act.put, List.setIfInBounds_toArray, List.set_cons_zero, List.set_cons_succ]
    refine wpAnyH_takeL (i := 2) (d := some 11) (v := .pointer (some ⟨b, 0, none⟩)) rfl rfl (by kernel_rfl) (by kernel_rfl) (by kernel_rfl) (fun _ _ _ h => h) (Or.inl ⟨by rfl, ?_⟩) hHeld ?_
    · intro w hSw; (try dsimp only at hSw); go_simp
    try simp only [Act.put, List.setIfInBounds_toArray, List.set_cons_zero, List.set_cons_succ]
    refine wpAnyH_takeL (i := 3) (d := some 12) (v := .map (some m)) rfl rfl (by kernel_rfl) (by kernel_rfl) (by kernel_rfl) (fun _ _ _ h => h) (Or.inl ⟨by rfl, ?_⟩) hHeld ?_
    · intro w hSw; (obtain ⟨⟨A, n, c, k1, k2⟩, k3⟩ := hSw.2.cm; have hcc : w.cell? ⟨b, 0, none⟩ = some (.map (some m)) := CB.cell k1 0; go_simp)
    try simp only [Act.put, List.setIfInBounds_toArray, List.set_cons_zero, List.set_cons_succ]
    refine wpAnyH_takeL (i := 4) (d := some 13) (v := .pointer (some ⟨g1, 1, none⟩)) rfl rfl (by kernel_rfl) (by kernel_rfl) (by kernel_rfl) (fun _ _ _ h => h) (Or.inl ⟨by rfl, ?_⟩) hHeld ?_
    · intro w hSw; (try dsimp only at hSw); go_simp
    try simp only [Act.put, List.setIfInBounds_toArray, List.set_cons_zero, List.set_cons_succ]
    refine wpAnyH_takeL (i := 5) (d := some 14) (v := .int .i64 r.tx) rfl rfl (by kernel_rfl) (by kernel_rfl) (by kernel_rfl) (fun _ _ _ h => h) (Or.inl ⟨by rfl, ?_⟩) hHeld ?_
    · intro w hSw; (try dsimp only at hSw); have hcc : w.cell? ⟨g1, 1, none⟩ = some (.int .i64 r.tx) := CB.cell hSw.1 1; go_simp
    try simp only [Act.put, List.setIfInBounds_toArray, List.set_cons_zero, List.set_cons_succ]
    refine wpAnyH_takeL (i := 6) (d := some 15) (v := .tuple #[.agg (dA zeroD), .bool false]) rfl rfl (by kernel_rfl) (by kernel_rfl) (by kernel_rfl) (fun _ _ _ h => h) (Or.inl ⟨by rfl, ?_⟩) hHeld ?_
    · intro w hSw; (have hl := hlk w hSw.2.cm; go_simp)
    try simp only [Act.put, List.setIfInBounds_toArray, List.set_cons_zero, List.set_cons_succ]
    refine wpAnyH_takeL (i := 7) (d := some 8) (v := .tuple #[.agg (dA zeroD), .bool false]) rfl rfl (by kernel_rfl) (by kernel_rfl) (by kernel_rfl) (fun _ _ _ h => h) (Or.inl ⟨by rfl, ?_⟩) hHeld ?_
    · intro w hSw; (try dsimp only at hSw); go_simp
    try simp only [Act.put, List.setIfInBounds_toArray, List.set_cons_zero, List.set_cons_succ]
    refine wpAnyH_takeL (i := 8) (d := some 16) (v := .agg (dA zeroD)) rfl rfl (by kernel_rfl) (by kernel_rfl) (by kernel_rfl) (fun _ _ _ h => h) (Or.inl ⟨by rfl, ?_⟩) hHeld ?_
    · intro w hSw; (try dsimp only at hSw); go_simp
    try simp only [Act.put, List.setIfInBounds_toArray, List.set_cons_zero, List.set_cons_succ]
    refine wpAnyH_takeL (i := 9) (d := some 17) (v := .bool false) rfl rfl (by kernel_rfl) (by kernel_rfl) (by kernel_rfl) (fun _ _ _ h => h) (Or.inl ⟨by rfl, ?_⟩) hHeld ?_
    · intro w hSw; (try dsimp only at hSw); go_simp
    try simp only [Act.put, List.setIfInBounds_toArray, List.set_cons_zero, List.set_cons_succ]
    refine wpAnyH_ready (rs := [10]) (by kernel_rfl) (by simp) ?_
    refine AllReadyH.cons rfl (fun K hK => ?_) AllReadyH.nil
    refine rd_alloc rfl 44 rfl (some 6) rfl (dA zeroD) zero_dl ?_
    refine ⟨fun V7 g7 n7 f7 => ?_⟩
    have ne7_r := f7.ne r6_r
    have ne7_z := f7.ne r6_z
    have up7 : w.heap.size ≤ g7 := f7.up l6
    have bl7 := f7.bel
    clear f7
    have r8_r := le_on r6_r bl7
    have r8_z := le_on r6_z bl7
    have r8_cu := (r6_cu).on bl7
    have l8 := le_tr l6 bl7
    clear r6_r r6_z r6_cu l6
    clear bl7
    have y9 := Lib.hid (show (fun V : World => CB V g1 33 (rA r) ∧ CU w V b m G D log) V7 from ⟨r8_r, r8_cu⟩)
    refine hK.out _ _ y9.out (fun hHeld => ?_)
    clear hK K y9
    try simp only [Act.put, List.setIfInBounds_toArray, List.set_cons_zero, List.set_cons_succ]
    refine wpAnyH_ready (rs := [11]) (by kernel_rfl) (by simp) ?_
    refine AllReadyH.cons rfl (fun K hK => ?_) AllReadyH.nil
    refine rd_store rfl 44 _ _ rfl none rfl g7 (dA zeroD) rfl rfl n7 Try.zDl rfl (dA_one _) ?_
    refine ⟨fun V10 n10 k10 => ?_⟩
    have m10_r := k10.on r8_r ne7_r
    have m10_z := k10.on r8_z ne7_z
    have m10_cu := (r8_cu).wr k10 up7
    have o10 := k10.bel _ _ l8 up7
    clear k10
    clear n7 r8_r r8_z r8_cu l8
    have y11 := Lib.hid (show (fun V : World => CB V g1 33 (rA r) ∧ CU w V b m G D log) V10 from ⟨m10_r, m10_cu⟩)
    refine hK.out _ _ y11.out (fun hHeld => ?_)
    clear hK K y11
    try simp only [Act.put, List.setIfInBounds_toArray, List.set_cons_zero, List.set_cons_succ]
    refine wpAnyH_takeL (i := 12) (d := some 7) (v := .bool false) rfl rfl (by kernel_rfl) (by kernel_rfl) (by kernel_rfl) (fun _ _ _ h => h) (Or.inl ⟨by rfl, ?_⟩) hHeld ?_
    · intro w hSw; (try dsimp only at hSw); go_simp
    try simp only [Act.put, List.setIfInBounds_toArray, List.set_cons_zero, List.set_cons_succ]
    refine wpAnyH_done (by kernel_rfl) ?_ _
    have c12 : V10.cell? ⟨g1, 0, none⟩ = some (.int .i64 r.kind) := CB.cell m10_r 0
    go_wp2_with (first | (first | ((with_reducible refine st_load 44 _ g7 ?_ n10 Try.underlying44 ?_ ?_ ?_); exact rfl; exact rfl; exact Try.zDl) | ((with_reducible refine st_loadG 44 _ g7 ?_ n10 Try.underlying44 ?_ ?_ ?_ ?_); exact rfl; exact rfl; exact Try.zDl; exact rfl)) | ((with_reducible refine st_store 44 _ _ g3 (dA zeroD) ?_ ?_ m10_z ?_ ?_ ?_ ?_); exact rfl; exact rfl; exact Try.zDl; exact rfl; exact dA_one _))
    refine ⟨fun V13 n13 k13 => ?_⟩
    clear c12
    have m13_r := k13.on m10_r ne3_r
    have m13_d := k13.on n10 (Ne.symm ne7_z)
    have m13_cu := (m10_cu).wr k13 up3
    have o13 := k13.bel _ _ o10 up3
    clear k13
    clear m10_z m10_r n10 m10_cu o10
    go_wp2_with fail
    exact bodyPost_ret (v := .tuple #[.agg (dA zeroD), .int .i64 7]) (res_two Try.results32 rfl rfl n13 Try.underlying44 rfl Try.zDl) rfl ⟨(by rw [HE.out, HS.out] <;> rfl), o13⟩
  | some d =>
    have I1 := fun W => isopen_c d W
    by_cases ho : d.out = 0
    · have q2 : (d.out == 0) = true := by simp [ho]
      rw [q2] at I1
      by_cases h2 : r.kind = 2
      · have q3 : (r.kind == 2) = true := by simp [h2]
        have HE := Lib.hid (af_2 h2 hd ho).1
        have HS := Lib.hid (af_2 h2 hd ho).2
        have VC := fun W => voted_c d r W
        obtain ⟨U, hU⟩ : ∃ U, xVo d r = U := ⟨_, rfl⟩
        obtain ⟨E, hE⟩ : ∃ E, eVo d r = E := ⟨_, rfl⟩
        rw [hU, hE] at VC
        rw [hE] at HE
        rw [hU] at HS
        clear hU hE h1 h2 ho q2
        have hdd : dGet D r.tx = d := by unfold dGet; rw [htx, hd]; rfl
        have hq : (dOf D r.tx).isSome = true := by rw [htx, hd]; rfl
        rw [hdd, hq] at hlk
        clear hdd hq htx hd
        go_enter Try.func32, Try.ntmps32
        go_wp2_with (first | ((with_reducible refine st_box 33 _ (rA r) ?_ ?_); exact rfl))
        refine ⟨fun V1 g1 n1 f1 => ?_⟩
        have up1 : w.heap.size ≤ g1 := Nat.le_of_eq f1.at_
        have bl1 := f1.bel
        clear f1
        have r2_cu := (cu).on bl1
        have l2 := le_tr (Below.refl _ _) bl1
        clear cu
        clear bl1
        go_wp2_with (first | ((with_reducible refine st_alloc 44 (dA zeroD) ?_ ?_); exact zero_dl))
        refine ⟨fun V3 g3 n3 f3 => ?_⟩
        have ne3_r := f3.ne n1
        have up3 : w.heap.size ≤ g3 := f3.up l2
        have bl3 := f3.bel
        clear f3
        have r4_r := le_on n1 bl3
        have r4_cu := (r2_cu).on bl3
        have l4 := le_tr l2 bl3
        clear n1 r2_cu l2
        clear bl3
        go_wp2_with fail
        have y5 := Lib.hid (show (fun V : World => CB V g1 33 (rA r) ∧ CU w V b m G D log) V3.drew from ⟨CB.drew r4_r, (r4_cu).drew⟩)
        refine wp_region_held_drew (S := (fun V : World => CB V g1 33 (rA r) ∧ CU w V b m G D log)) (by kernel_rfl) y5.out (fun hHeld => ?_)
        obtain ⟨D5, hD5⟩ : ∃ V, V3.drew = V := ⟨_, rfl⟩
        have b5 : Below V3.heap.size V3 D5 := by rw [← hD5]; exact le_dr (Below.refl _ _)
        rw [hD5] at hHeld ⊢
        clear hD5
        have r6_r := le_on r4_r b5
        have r6_z := le_on n3 b5
        have r6_cu := (r4_cu).on b5
        have l6 := le_tr l4 b5
        clear r4_r n3 r4_cu l4
        clear b5
        refine wpAnyH_takeL (i := 0) (d := some 9) (v := .pointer (some ⟨b, 0, none⟩)) rfl rfl (by kernel_rfl) (by kernel_rfl) (by kernel_rfl) (fun _ _ _ h => h) (Or.inl ⟨by rfl, ?_⟩) hHeld ?_
        · intro w hSw; (try dsimp only at hSw); go_simp
        try simp only [Act.put, List.setIfInBounds_toArray, List.set_cons_zero, List.set_cons_succ]
        refine wpAnyH_takeL (i := 1) (d := some 10) (v := .pointer (some ⟨b, 0, none⟩)) rfl rfl (by kernel_rfl) (by kernel_rfl) (by kernel_rfl) (fun _ _ _ h => h) (Or.inl ⟨by rfl, ?_⟩) hHeld ?_
        · intro w hSw; (try dsimp only at hSw); go_simp
        try simp only [Act.put, List.setIfInBounds_toArray, List.set_cons_zero, List.set_cons_succ]
        refine wpAnyH_takeL (i := 2) (d := some 11) (v := .pointer (some ⟨b, 0, none⟩)) rfl rfl (by kernel_rfl) (by kernel_rfl) (by kernel_rfl) (fun _ _ _ h => h) (Or.inl ⟨by rfl, ?_⟩) hHeld ?_
        · intro w hSw; (try dsimp only at hSw); go_simp
        try simp only [Act.put, List.setIfInBounds_toArray, List.set_cons_zero, List.set_cons_succ]
        refine wpAnyH_takeL (i := 3) (d := some 12) (v := .map (some m)) rfl rfl (by kernel_rfl) (by kernel_rfl) (by kernel_rfl) (fun _ _ _ h => h) (Or.inl ⟨by rfl, ?_⟩) hHeld ?_
        · intro w hSw; (obtain ⟨⟨A, n, c, k1, k2⟩, k3⟩ := hSw.2.cm; have hcc : w.cell? ⟨b, 0, none⟩ = some (.map (some m)) := CB.cell k1 0; go_simp)
        try simp only [Act.put, List.setIfInBounds_toArray, List.set_cons_zero, List.set_cons_succ]
        refine wpAnyH_takeL (i := 4) (d := some 13) (v := .pointer (some ⟨g1, 1, none⟩)) rfl rfl (by kernel_rfl) (by kernel_rfl) (by kernel_rfl) (fun _ _ _ h => h) (Or.inl ⟨by rfl, ?_⟩) hHeld ?_
        · intro w hSw; (try dsimp only at hSw); go_simp
        try simp only [Act.put, List.setIfInBounds_toArray, List.set_cons_zero, List.set_cons_succ]
        refine wpAnyH_takeL (i := 5) (d := some 14) (v := .int .i64 r.tx) rfl rfl (by kernel_rfl) (by kernel_rfl) (by kernel_rfl) (fun _ _ _ h => h) (Or.inl ⟨by rfl, ?_⟩) hHeld ?_
        · intro w hSw; (try dsimp only at hSw); have hcc : w.cell? ⟨g1, 1, none⟩ = some (.int .i64 r.tx) := CB.cell hSw.1 1; go_simp
        try simp only [Act.put, List.setIfInBounds_toArray, List.set_cons_zero, List.set_cons_succ]
        refine wpAnyH_takeL (i := 6) (d := some 15) (v := .tuple #[.agg (dA d), .bool true]) rfl rfl (by kernel_rfl) (by kernel_rfl) (by kernel_rfl) (fun _ _ _ h => h) (Or.inl ⟨by rfl, ?_⟩) hHeld ?_
        · intro w hSw; (have hl := hlk w hSw.2.cm; go_simp)
        try simp only [Act.put, List.setIfInBounds_toArray, List.set_cons_zero, List.set_cons_succ]
        refine wpAnyH_takeL (i := 7) (d := some 8) (v := .tuple #[.agg (dA d), .bool true]) rfl rfl (by kernel_rfl) (by kernel_rfl) (by kernel_rfl) (fun _ _ _ h => h) (Or.inl ⟨by rfl, ?_⟩) hHeld ?_
        · intro w hSw; (try dsimp only at hSw); go_simp
        try simp only [Act.put, List.setIfInBounds_toArray, List.set_cons_zero, List.set_cons_succ]
        refine wpAnyH_takeL (i := 8) (d := some 16) (v := .agg (dA d)) rfl rfl (by kernel_rfl) (by kernel_rfl) (by kernel_rfl) (fun _ _ _ h => h) (Or.inl ⟨by rfl, ?_⟩) hHeld ?_
        · intro w hSw; (try dsimp only at hSw); go_simp
        try simp only [Act.put, List.setIfInBounds_toArray, List.set_cons_zero, List.set_cons_succ]
        refine wpAnyH_takeL (i := 9) (d := some 17) (v := .bool true) rfl rfl (by kernel_rfl) (by kernel_rfl) (by kernel_rfl) (fun _ _ _ h => h) (Or.inl ⟨by rfl, ?_⟩) hHeld ?_
        · intro w hSw; (try dsimp only at hSw); go_simp
        try simp only [Act.put, List.setIfInBounds_toArray, List.set_cons_zero, List.set_cons_succ]
        refine wpAnyH_ready (rs := [10]) (by kernel_rfl) (by simp) ?_
        refine AllReadyH.cons rfl (fun K hK => ?_) AllReadyH.nil
        refine rd_alloc rfl 44 rfl (some 6) rfl (dA zeroD) zero_dl ?_
        refine ⟨fun V7 g7 n7 f7 => ?_⟩
        have ne7_r := f7.ne r6_r
        have ne7_z := f7.ne r6_z
        have up7 : w.heap.size ≤ g7 := f7.up l6
        have bl7 := f7.bel
        clear f7
        have r8_r := le_on r6_r bl7
        have r8_z := le_on r6_z bl7
        have r8_cu := (r6_cu).on bl7
        have l8 := le_tr l6 bl7
        clear r6_r r6_z r6_cu l6
        clear bl7
        have y9 := Lib.hid (show (fun V : World => CB V g1 33 (rA r) ∧ CU w V b m G D log) V7 from ⟨r8_r, r8_cu⟩)
        refine hK.out _ _ y9.out (fun hHeld => ?_)
        clear hK K y9
        try simp only [Act.put, List.setIfInBounds_toArray, List.set_cons_zero, List.set_cons_succ]
        refine wpAnyH_ready (rs := [11]) (by kernel_rfl) (by simp) ?_
        refine AllReadyH.cons rfl (fun K hK => ?_) AllReadyH.nil
        refine rd_store rfl 44 _ _ rfl none rfl g7 (dA d) rfl rfl n7 Try.zDl rfl (dA_one _) ?_
        refine ⟨fun V10 n10 k10 => ?_⟩
        have m10_r := k10.on r8_r ne7_r
        have m10_z := k10.on r8_z ne7_z
        have m10_cu := (r8_cu).wr k10 up7
        have o10 := k10.bel _ _ l8 up7
        clear k10
        clear n7 r8_r r8_z r8_cu l8
        have y11 := Lib.hid (show (fun V : World => CB V g1 33 (rA r) ∧ CU w V b m G D log) V10 from ⟨m10_r, m10_cu⟩)
        refine hK.out _ _ y11.out (fun hHeld => ?_)
        clear hK K y11
        try simp only [Act.put, List.setIfInBounds_toArray, List.set_cons_zero, List.set_cons_succ]
        refine wpAnyH_takeL (i := 12) (d := some 7) (v := .bool true) rfl rfl (by kernel_rfl) (by kernel_rfl) (by kernel_rfl) (fun _ _ _ h => h) (Or.inl ⟨by rfl, ?_⟩) hHeld ?_
        · intro w hSw; (try dsimp only at hSw); go_simp
        try simp only [Act.put, List.setIfInBounds_toArray, List.set_cons_zero, List.set_cons_succ]
        refine wpAnyH_done (by kernel_rfl) ?_ _
        have c12 : V10.cell? ⟨g1, 0, none⟩ = some (.int .i64 r.kind) := CB.cell m10_r 0
        go_wp2_with (first | (first | ((with_reducible refine st_load 44 _ g7 ?_ n10 Try.underlying44 ?_ ?_ ?_); exact rfl; exact rfl; exact Try.zDl) | ((with_reducible refine st_loadG 44 _ g7 ?_ n10 Try.underlying44 ?_ ?_ ?_ ?_); exact rfl; exact rfl; exact Try.zDl; exact rfl)))
        refine (I1 _).mono ?_
        rintro e w13 ⟨rfl, b13⟩
        clear c12
        have r14_r := le_on m10_r b13
        have r14_z := le_on m10_z b13
        have r14_d := le_on n10 b13
        have r14_cu := (m10_cu).on b13
        have l14 := le_tr o10 b13
        clear m10_r m10_z n10 m10_cu o10
        clear b13
        have c15 : w13.cell? ⟨g1, 0, none⟩ = some (.int .i64 r.kind) := CB.cell r14_r 0
        go_wp2_with (first | (first | ((with_reducible refine st_load 44 _ g7 ?_ r14_d Try.underlying44 ?_ ?_ ?_); exact rfl; exact rfl; exact Try.zDl) | ((with_reducible refine st_loadG 44 _ g7 ?_ r14_d Try.underlying44 ?_ ?_ ?_ ?_); exact rfl; exact rfl; exact Try.zDl; exact rfl)) | (first | ((with_reducible refine st_load 33 _ g1 ?_ r14_r Try.underlying33 ?_ ?_ ?_); exact rfl; exact rfl; exact Try.zRk) | ((with_reducible refine st_loadG 33 _ g1 ?_ r14_r Try.underlying33 ?_ ?_ ?_ ?_); exact rfl; exact rfl; exact Try.zRk; exact rfl)))
        refine (VC _).mono ?_
        rintro e w16 ⟨rfl, b16⟩
        clear c15
        have r17_r := le_on r14_r b16
        have r17_z := le_on r14_z b16
        have r17_d := le_on r14_d b16
        have r17_cu := (r14_cu).on b16
        have l17 := le_tr l14 b16
        clear r14_r r14_z r14_d r14_cu l14
        clear b16
        go_wp2_with (first | ((with_reducible refine st_store 44 _ _ g3 (dA U) ?_ ?_ r17_z ?_ ?_ ?_ ?_); exact rfl; exact rfl; exact Try.zDl; exact rfl; exact dA_one _))
        refine ⟨fun V18 n18 k18 => ?_⟩
        have m18_r := k18.on r17_r ne3_r
        have m18_d := k18.on r17_d (Ne.symm ne7_z)
        have m18_cu := (r17_cu).wr k18 up3
        have o18 := k18.bel _ _ l17 up3
        clear k18
        clear r17_z r17_r r17_d r17_cu l17
        go_wp2_with fail
        exact bodyPost_ret (v := .tuple #[.agg (dA U), .int .i64 (E : Int)]) (res_two Try.results32 rfl rfl n18 Try.underlying44 rfl Try.zDl) rfl ⟨(by rw [HE.out, HS.out] <;> rfl), o18⟩
      · have q3 : (r.kind == 2) = false := by simp [h2]
        have HE := Lib.hid (af_3 h1 h2 hd ho).1
        have HS := Lib.hid (af_3 h1 h2 hd ho).2
        have VC := fun W => extended_c d r W
        obtain ⟨U, hU⟩ : ∃ U, xEx d r = U := ⟨_, rfl⟩
        obtain ⟨E, hE⟩ : ∃ E, eEx d r = E := ⟨_, rfl⟩
        rw [hU, hE] at VC
        rw [hE] at HE
        rw [hU] at HS
        clear hU hE h1 h2 ho q2
        have hdd : dGet D r.tx = d := by unfold dGet; rw [htx, hd]; rfl
        have hq : (dOf D r.tx).isSome = true := by rw [htx, hd]; rfl
        rw [hdd, hq] at hlk
        clear hdd hq htx hd
        go_enter Try.func32, Try.ntmps32
        go_wp2_with (first | ((with_reducible refine st_box 33 _ (rA r) ?_ ?_); exact rfl))
        refine ⟨fun V1 g1 n1 f1 => ?_⟩
        have up1 : w.heap.size ≤ g1 := Nat.le_of_eq f1.at_
        have bl1 := f1.bel
        clear f1
        have r2_cu := (cu).on bl1
        have l2 := le_tr (Below.refl _ _) bl1
        clear cu
        clear bl1
        go_wp2_with (first | ((with_reducible refine st_alloc 44 (dA zeroD) ?_ ?_); exact zero_dl))
        refine ⟨fun V3 g3 n3 f3 => ?_⟩
        have ne3_r := f3.ne n1
        have up3 : w.heap.size ≤ g3 := f3.up l2
        have bl3 := f3.bel
        clear f3
        have r4_r := le_on n1 bl3
        have r4_cu := (r2_cu).on bl3
        have l4 := le_tr l2 bl3
        clear n1 r2_cu l2
        clear bl3
        go_wp2_with fail
        have y5 := Lib.hid (show (fun V : World => CB V g1 33 (rA r) ∧ CU w V b m G D log) V3.drew from ⟨CB.drew r4_r, (r4_cu).drew⟩)
        refine wp_region_held_drew (S := (fun V : World => CB V g1 33 (rA r) ∧ CU w V b m G D log)) (by kernel_rfl) y5.out (fun hHeld => ?_)
        obtain ⟨D5, hD5⟩ : ∃ V, V3.drew = V := ⟨_, rfl⟩
        have b5 : Below V3.heap.size V3 D5 := by rw [← hD5]; exact le_dr (Below.refl _ _)
        rw [hD5] at hHeld ⊢
        clear hD5
        have r6_r := le_on r4_r b5
        have r6_z := le_on n3 b5
        have r6_cu := (r4_cu).on b5
        have l6 := le_tr l4 b5
        clear r4_r n3 r4_cu l4
        clear b5
        refine wpAnyH_takeL (i := 0) (d := some 9) (v := .pointer (some ⟨b, 0, none⟩)) rfl rfl (by kernel_rfl) (by kernel_rfl) (by kernel_rfl) (fun _ _ _ h => h) (Or.inl ⟨by rfl, ?_⟩) hHeld ?_
        · intro w hSw; (try dsimp only at hSw); go_simp
        try simp only [Act.put, List.setIfInBounds_toArray, List.set_cons_zero, List.set_cons_succ]
        refine wpAnyH_takeL (i := 1) (d := some 10) (v := .pointer (some ⟨b, 0, none⟩)) rfl rfl (by kernel_rfl) (by kernel_rfl) (by kernel_rfl) (fun _ _ _ h => h) (Or.inl ⟨by rfl, ?_⟩) hHeld ?_
        · intro w hSw; (try dsimp only at hSw); go_simp
        try simp only [Act.put, List.setIfInBounds_toArray, List.set_cons_zero, List.set_cons_succ]
        refine wpAnyH_takeL (i := 2) (d := some 11) (v := .pointer (some ⟨b, 0, none⟩)) rfl rfl (by kernel_rfl) (by kernel_rfl) (by kernel_rfl) (fun _ _ _ h => h) (Or.inl ⟨by rfl, ?_⟩) hHeld ?_
        · intro w hSw; (try dsimp only at hSw); go_simp
        try simp only [Act.put, List.setIfInBounds_toArray, List.set_cons_zero, List.set_cons_succ]
        refine wpAnyH_takeL (i := 3) (d := some 12) (v := .map (some m)) rfl rfl (by kernel_rfl) (by kernel_rfl) (by kernel_rfl) (fun _ _ _ h => h) (Or.inl ⟨by rfl, ?_⟩) hHeld ?_
        · intro w hSw; (obtain ⟨⟨A, n, c, k1, k2⟩, k3⟩ := hSw.2.cm; have hcc : w.cell? ⟨b, 0, none⟩ = some (.map (some m)) := CB.cell k1 0; go_simp)
        try simp only [Act.put, List.setIfInBounds_toArray, List.set_cons_zero, List.set_cons_succ]
        refine wpAnyH_takeL (i := 4) (d := some 13) (v := .pointer (some ⟨g1, 1, none⟩)) rfl rfl (by kernel_rfl) (by kernel_rfl) (by kernel_rfl) (fun _ _ _ h => h) (Or.inl ⟨by rfl, ?_⟩) hHeld ?_
        · intro w hSw; (try dsimp only at hSw); go_simp
        try simp only [Act.put, List.setIfInBounds_toArray, List.set_cons_zero, List.set_cons_succ]
        refine wpAnyH_takeL (i := 5) (d := some 14) (v := .int .i64 r.tx) rfl rfl (by kernel_rfl) (by kernel_rfl) (by kernel_rfl) (fun _ _ _ h => h) (Or.inl ⟨by rfl, ?_⟩) hHeld ?_
        · intro w hSw; (try dsimp only at hSw); have hcc : w.cell? ⟨g1, 1, none⟩ = some (.int .i64 r.tx) := CB.cell hSw.1 1; go_simp
        try simp only [Act.put, List.setIfInBounds_toArray, List.set_cons_zero, List.set_cons_succ]
        refine wpAnyH_takeL (i := 6) (d := some 15) (v := .tuple #[.agg (dA d), .bool true]) rfl rfl (by kernel_rfl) (by kernel_rfl) (by kernel_rfl) (fun _ _ _ h => h) (Or.inl ⟨by rfl, ?_⟩) hHeld ?_
        · intro w hSw; (have hl := hlk w hSw.2.cm; go_simp)
        try simp only [Act.put, List.setIfInBounds_toArray, List.set_cons_zero, List.set_cons_succ]
        refine wpAnyH_takeL (i := 7) (d := some 8) (v := .tuple #[.agg (dA d), .bool true]) rfl rfl (by kernel_rfl) (by kernel_rfl) (by kernel_rfl) (fun _ _ _ h => h) (Or.inl ⟨by rfl, ?_⟩) hHeld ?_
        · intro w hSw; (try dsimp only at hSw); go_simp
        try simp only [Act.put, List.setIfInBounds_toArray, List.set_cons_zero, List.set_cons_succ]
        refine wpAnyH_takeL (i := 8) (d := some 16) (v := .agg (dA d)) rfl rfl (by kernel_rfl) (by kernel_rfl) (by kernel_rfl) (fun _ _ _ h => h) (Or.inl ⟨by rfl, ?_⟩) hHeld ?_
        · intro w hSw; (try dsimp only at hSw); go_simp
        try simp only [Act.put, List.setIfInBounds_toArray, List.set_cons_zero, List.set_cons_succ]
        refine wpAnyH_takeL (i := 9) (d := some 17) (v := .bool true) rfl rfl (by kernel_rfl) (by kernel_rfl) (by kernel_rfl) (fun _ _ _ h => h) (Or.inl ⟨by rfl, ?_⟩) hHeld ?_
        · intro w hSw; (try dsimp only at hSw); go_simp
        try simp only [Act.put, List.setIfInBounds_toArray, List.set_cons_zero, List.set_cons_succ]
        refine wpAnyH_ready (rs := [10]) (by kernel_rfl) (by simp) ?_
        refine AllReadyH.cons rfl (fun K hK => ?_) AllReadyH.nil
        refine rd_alloc rfl 44 rfl (some 6) rfl (dA zeroD) zero_dl ?_
        refine ⟨fun V7 g7 n7 f7 => ?_⟩
        have ne7_r := f7.ne r6_r
        have ne7_z := f7.ne r6_z
        have up7 : w.heap.size ≤ g7 := f7.up l6
        have bl7 := f7.bel
        clear f7
        have r8_r := le_on r6_r bl7
        have r8_z := le_on r6_z bl7
        have r8_cu := (r6_cu).on bl7
        have l8 := le_tr l6 bl7
        clear r6_r r6_z r6_cu l6
        clear bl7
        have y9 := Lib.hid (show (fun V : World => CB V g1 33 (rA r) ∧ CU w V b m G D log) V7 from ⟨r8_r, r8_cu⟩)
        refine hK.out _ _ y9.out (fun hHeld => ?_)
        clear hK K y9
        try simp only [Act.put, List.setIfInBounds_toArray, List.set_cons_zero, List.set_cons_succ]
        refine wpAnyH_ready (rs := [11]) (by kernel_rfl) (by simp) ?_
        refine AllReadyH.cons rfl (fun K hK => ?_) AllReadyH.nil
        refine rd_store rfl 44 _ _ rfl none rfl g7 (dA d) rfl rfl n7 Try.zDl rfl (dA_one _) ?_
        refine ⟨fun V10 n10 k10 => ?_⟩
        have m10_r := k10.on r8_r ne7_r
        have m10_z := k10.on r8_z ne7_z
        have m10_cu := (r8_cu).wr k10 up7
        have o10 := k10.bel _ _ l8 up7
        clear k10
        clear n7 r8_r r8_z r8_cu l8
        have y11 := Lib.hid (show (fun V : World => CB V g1 33 (rA r) ∧ CU w V b m G D log) V10 from ⟨m10_r, m10_cu⟩)
        refine hK.out _ _ y11.out (fun hHeld => ?_)
        clear hK K y11
        try simp only [Act.put, List.setIfInBounds_toArray, List.set_cons_zero, List.set_cons_succ]
        refine wpAnyH_takeL (i := 12) (d := some 7) (v := .bool true) rfl rfl (by kernel_rfl) (by kernel_rfl) (by kernel_rfl) (fun _ _ _ h => h) (Or.inl ⟨by rfl, ?_⟩) hHeld ?_
        · intro w hSw; (try dsimp only at hSw); go_simp
        try simp only [Act.put, List.setIfInBounds_toArray, List.set_cons_zero, List.set_cons_succ]
        refine wpAnyH_done (by kernel_rfl) ?_ _
        have c12 : V10.cell? ⟨g1, 0, none⟩ = some (.int .i64 r.kind) := CB.cell m10_r 0
        go_wp2_with (first | (first | ((with_reducible refine st_load 44 _ g7 ?_ n10 Try.underlying44 ?_ ?_ ?_); exact rfl; exact rfl; exact Try.zDl) | ((with_reducible refine st_loadG 44 _ g7 ?_ n10 Try.underlying44 ?_ ?_ ?_ ?_); exact rfl; exact rfl; exact Try.zDl; exact rfl)))
        refine (I1 _).mono ?_
        rintro e w13 ⟨rfl, b13⟩
        clear c12
        have r14_r := le_on m10_r b13
        have r14_z := le_on m10_z b13
        have r14_d := le_on n10 b13
        have r14_cu := (m10_cu).on b13
        have l14 := le_tr o10 b13
        clear m10_r m10_z n10 m10_cu o10
        clear b13
        have c15 : w13.cell? ⟨g1, 0, none⟩ = some (.int .i64 r.kind) := CB.cell r14_r 0
        go_wp2_with (first | (first | ((with_reducible refine st_load 44 _ g7 ?_ r14_d Try.underlying44 ?_ ?_ ?_); exact rfl; exact rfl; exact Try.zDl) | ((with_reducible refine st_loadG 44 _ g7 ?_ r14_d Try.underlying44 ?_ ?_ ?_ ?_); exact rfl; exact rfl; exact Try.zDl; exact rfl)) | (first | ((with_reducible refine st_load 33 _ g1 ?_ r14_r Try.underlying33 ?_ ?_ ?_); exact rfl; exact rfl; exact Try.zRk) | ((with_reducible refine st_loadG 33 _ g1 ?_ r14_r Try.underlying33 ?_ ?_ ?_ ?_); exact rfl; exact rfl; exact Try.zRk; exact rfl)))
        refine (VC _).mono ?_
        rintro e w16 ⟨rfl, b16⟩
        clear c15
        have r17_r := le_on r14_r b16
        have r17_z := le_on r14_z b16
        have r17_d := le_on r14_d b16
        have r17_cu := (r14_cu).on b16
        have l17 := le_tr l14 b16
        clear r14_r r14_z r14_d r14_cu l14
        clear b16
        go_wp2_with (first | ((with_reducible refine st_store 44 _ _ g3 (dA U) ?_ ?_ r17_z ?_ ?_ ?_ ?_); exact rfl; exact rfl; exact Try.zDl; exact rfl; exact dA_one _))
        refine ⟨fun V18 n18 k18 => ?_⟩
        have m18_r := k18.on r17_r ne3_r
        have m18_d := k18.on r17_d (Ne.symm ne7_z)
        have m18_cu := (r17_cu).wr k18 up3
        have o18 := k18.bel _ _ l17 up3
        clear k18
        clear r17_z r17_r r17_d r17_cu l17
        go_wp2_with fail
        exact bodyPost_ret (v := .tuple #[.agg (dA U), .int .i64 (E : Int)]) (res_two Try.results32 rfl rfl n18 Try.underlying44 rfl Try.zDl) rfl ⟨(by rw [HE.out, HS.out] <;> rfl), o18⟩
    have q2 : (d.out == 0) = false := by simp [ho]
    rw [q2] at I1
    have HE := Lib.hid (af_o h1 hd ho).1
    have HS := Lib.hid (af_o h1 hd ho).2
    clear h1 ho q2
    have hdd : dGet D r.tx = d := by unfold dGet; rw [htx, hd]; rfl
    have hq : (dOf D r.tx).isSome = true := by rw [htx, hd]; rfl
    rw [hdd, hq] at hlk
    clear hdd hq htx hd
    go_enter Try.func32, Try.ntmps32
    go_wp2_with (first | ((with_reducible refine st_box 33 _ (rA r) ?_ ?_); exact rfl))
    refine ⟨fun V1 g1 n1 f1 => ?_⟩
    have up1 : w.heap.size ≤ g1 := Nat.le_of_eq f1.at_
    have bl1 := f1.bel
    clear f1
    have r2_cu := (cu).on bl1
    have l2 := le_tr (Below.refl _ _) bl1
    clear cu
    clear bl1
    go_wp2_with (first | ((with_reducible refine st_alloc 44 (dA zeroD) ?_ ?_); exact zero_dl))
    refine ⟨fun V3 g3 n3 f3 => ?_⟩
    have ne3_r := f3.ne n1
    have up3 : w.heap.size ≤ g3 := f3.up l2
    have bl3 := f3.bel
    clear f3
    have r4_r := le_on n1 bl3
    have r4_cu := (r2_cu).on bl3
    have l4 := le_tr l2 bl3
    clear n1 r2_cu l2
    clear bl3
    go_wp2_with fail
    have y5 := Lib.hid (show (fun V : World => CB V g1 33 (rA r) ∧ CU w V b m G D log) V3.drew from ⟨CB.drew r4_r, (r4_cu).drew⟩)
    refine wp_region_held_drew (S := (fun V : World => CB V g1 33 (rA r) ∧ CU w V b m G D log)) (by kernel_rfl) y5.out (fun hHeld => ?_)
    obtain ⟨D5, hD5⟩ : ∃ V, V3.drew = V := ⟨_, rfl⟩
    have b5 : Below V3.heap.size V3 D5 := by rw [← hD5]; exact le_dr (Below.refl _ _)
    rw [hD5] at hHeld ⊢
    clear hD5
    have r6_r := le_on r4_r b5
    have r6_z := le_on n3 b5
    have r6_cu := (r4_cu).on b5
    have l6 := le_tr l4 b5
    clear r4_r n3 r4_cu l4
    clear b5
    refine wpAnyH_takeL (i := 0) (d := some 9) (v := .pointer (some ⟨b, 0, none⟩)) rfl rfl (by kernel_rfl) (by kernel_rfl) (by kernel_rfl) (fun _ _ _ h => h) (Or.inl ⟨by rfl, ?_⟩) hHeld ?_
    · intro w hSw; (try dsimp only at hSw); go_simp
    try simp only [Act.put, List.setIfInBounds_toArray, List.set_cons_zero, List.set_cons_succ]
    refine wpAnyH_takeL (i := 1) (d := some 10) (v := .pointer (some ⟨b, 0, none⟩)) rfl rfl (by kernel_rfl) (by kernel_rfl) (by kernel_rfl) (fun _ _ _ h => h) (Or.inl ⟨by rfl, ?_⟩) hHeld ?_
    · intro w hSw; (try dsimp only at hSw); go_simp
    try simp only [Act.put, List.setIfInBounds_toArray, List.set_cons_zero, List.set_cons_succ]
    refine wpAnyH_takeL (i := 2) (d := some 11) (v := .pointer (some ⟨b, 0, none⟩)) rfl rfl (by kernel_rfl) (by kernel_rfl) (by kernel_rfl) (fun _ _ _ h => h) (Or.inl ⟨by rfl, ?_⟩) hHeld ?_
    · intro w hSw; (try dsimp only at hSw); go_simp
    try simp only [Act.put, List.setIfInBounds_toArray, List.set_cons_zero, List.set_cons_succ]
    refine wpAnyH_takeL (i := 3) (d := some 12) (v := .map (some m)) rfl rfl (by kernel_rfl) (by kernel_rfl) (by kernel_rfl) (fun _ _ _ h => h) (Or.inl ⟨by rfl, ?_⟩) hHeld ?_
    · intro w hSw; (obtain ⟨⟨A, n, c, k1, k2⟩, k3⟩ := hSw.2.cm; have hcc : w.cell? ⟨b, 0, none⟩ = some (.map (some m)) := CB.cell k1 0; go_simp)
    try simp only [Act.put, List.setIfInBounds_toArray, List.set_cons_zero, List.set_cons_succ]
    refine wpAnyH_takeL (i := 4) (d := some 13) (v := .pointer (some ⟨g1, 1, none⟩)) rfl rfl (by kernel_rfl) (by kernel_rfl) (by kernel_rfl) (fun _ _ _ h => h) (Or.inl ⟨by rfl, ?_⟩) hHeld ?_
    · intro w hSw; (try dsimp only at hSw); go_simp
    try simp only [Act.put, List.setIfInBounds_toArray, List.set_cons_zero, List.set_cons_succ]
    refine wpAnyH_takeL (i := 5) (d := some 14) (v := .int .i64 r.tx) rfl rfl (by kernel_rfl) (by kernel_rfl) (by kernel_rfl) (fun _ _ _ h => h) (Or.inl ⟨by rfl, ?_⟩) hHeld ?_
    · intro w hSw; (try dsimp only at hSw); have hcc : w.cell? ⟨g1, 1, none⟩ = some (.int .i64 r.tx) := CB.cell hSw.1 1; go_simp
    try simp only [Act.put, List.setIfInBounds_toArray, List.set_cons_zero, List.set_cons_succ]
    refine wpAnyH_takeL (i := 6) (d := some 15) (v := .tuple #[.agg (dA d), .bool true]) rfl rfl (by kernel_rfl) (by kernel_rfl) (by kernel_rfl) (fun _ _ _ h => h) (Or.inl ⟨by rfl, ?_⟩) hHeld ?_
    · intro w hSw; (have hl := hlk w hSw.2.cm; go_simp)
    try simp only [Act.put, List.setIfInBounds_toArray, List.set_cons_zero, List.set_cons_succ]
    refine wpAnyH_takeL (i := 7) (d := some 8) (v := .tuple #[.agg (dA d), .bool true]) rfl rfl (by kernel_rfl) (by kernel_rfl) (by kernel_rfl) (fun _ _ _ h => h) (Or.inl ⟨by rfl, ?_⟩) hHeld ?_
    · intro w hSw; (try dsimp only at hSw); go_simp
    try simp only [Act.put, List.setIfInBounds_toArray, List.set_cons_zero, List.set_cons_succ]
    refine wpAnyH_takeL (i := 8) (d := some 16) (v := .agg (dA d)) rfl rfl (by kernel_rfl) (by kernel_rfl) (by kernel_rfl) (fun _ _ _ h => h) (Or.inl ⟨by rfl, ?_⟩) hHeld ?_
    · intro w hSw; (try dsimp only at hSw); go_simp
    try simp only [Act.put, List.setIfInBounds_toArray, List.set_cons_zero, List.set_cons_succ]
    refine wpAnyH_takeL (i := 9) (d := some 17) (v := .bool true) rfl rfl (by kernel_rfl) (by kernel_rfl) (by kernel_rfl) (fun _ _ _ h => h) (Or.inl ⟨by rfl, ?_⟩) hHeld ?_
    · intro w hSw; (try dsimp only at hSw); go_simp
    try simp only [Act.put, List.setIfInBounds_toArray, List.set_cons_zero, List.set_cons_succ]
    refine wpAnyH_ready (rs := [10]) (by kernel_rfl) (by simp) ?_
    refine AllReadyH.cons rfl (fun K hK => ?_) AllReadyH.nil
    refine rd_alloc rfl 44 rfl (some 6) rfl (dA zeroD) zero_dl ?_
    refine ⟨fun V7 g7 n7 f7 => ?_⟩
    have ne7_r := f7.ne r6_r
    have ne7_z := f7.ne r6_z
    have up7 : w.heap.size ≤ g7 := f7.up l6
    have bl7 := f7.bel
    clear f7
    have r8_r := le_on r6_r bl7
    have r8_z := le_on r6_z bl7
    have r8_cu := (r6_cu).on bl7
    have l8 := le_tr l6 bl7
    clear r6_r r6_z r6_cu l6
    clear bl7
    have y9 := Lib.hid (show (fun V : World => CB V g1 33 (rA r) ∧ CU w V b m G D log) V7 from ⟨r8_r, r8_cu⟩)
    refine hK.out _ _ y9.out (fun hHeld => ?_)
    clear hK K y9
    try simp only [Act.put, List.setIfInBounds_toArray, List.set_cons_zero, List.set_cons_succ]
    refine wpAnyH_ready (rs := [11]) (by kernel_rfl) (by simp) ?_
    refine AllReadyH.cons rfl (fun K hK => ?_) AllReadyH.nil
    refine rd_store rfl 44 _ _ rfl none rfl g7 (dA d) rfl rfl n7 Try.zDl rfl (dA_one _) ?_
    refine ⟨fun V10 n10 k10 => ?_⟩
    have m10_r := k10.on r8_r ne7_r
    have m10_z := k10.on r8_z ne7_z
    have m10_cu := (r8_cu).wr k10 up7
    have o10 := k10.bel _ _ l8 up7
    clear k10
    clear n7 r8_r r8_z r8_cu l8
    have y11 := Lib.hid (show (fun V : World => CB V g1 33 (rA r) ∧ CU w V b m G D log) V10 from ⟨m10_r, m10_cu⟩)
    refine hK.out _ _ y11.out (fun hHeld => ?_)
    clear hK K y11
    try simp only [Act.put, List.setIfInBounds_toArray, List.set_cons_zero, List.set_cons_succ]
    refine wpAnyH_takeL (i := 12) (d := some 7) (v := .bool true) rfl rfl (by kernel_rfl) (by kernel_rfl) (by kernel_rfl) (fun _ _ _ h => h) (Or.inl ⟨by rfl, ?_⟩) hHeld ?_
    · intro w hSw; (try dsimp only at hSw); go_simp
    try simp only [Act.put, List.setIfInBounds_toArray, List.set_cons_zero, List.set_cons_succ]
    refine wpAnyH_done (by kernel_rfl) ?_ _
    have c12 : V10.cell? ⟨g1, 0, none⟩ = some (.int .i64 r.kind) := CB.cell m10_r 0
    go_wp2_with (first | (first | ((with_reducible refine st_load 44 _ g7 ?_ n10 Try.underlying44 ?_ ?_ ?_); exact rfl; exact rfl; exact Try.zDl) | ((with_reducible refine st_loadG 44 _ g7 ?_ n10 Try.underlying44 ?_ ?_ ?_ ?_); exact rfl; exact rfl; exact Try.zDl; exact rfl)))
    refine (I1 _).mono ?_
    rintro e w13 ⟨rfl, b13⟩
    clear c12
    have r14_r := le_on m10_r b13
    have r14_z := le_on m10_z b13
    have r14_d := le_on n10 b13
    have r14_cu := (m10_cu).on b13
    have l14 := le_tr o10 b13
    clear m10_r m10_z n10 m10_cu o10
    clear b13
    go_wp2_with (first | (first | ((with_reducible refine st_load 44 _ g7 ?_ r14_d Try.underlying44 ?_ ?_ ?_); exact rfl; exact rfl; exact Try.zDl) | ((with_reducible refine st_loadG 44 _ g7 ?_ r14_d Try.underlying44 ?_ ?_ ?_ ?_); exact rfl; exact rfl; exact Try.zDl; exact rfl)) | ((with_reducible refine st_store 44 _ _ g3 (dA d) ?_ ?_ r14_z ?_ ?_ ?_ ?_); exact rfl; exact rfl; exact Try.zDl; exact rfl; exact dA_one _))
    refine ⟨fun V15 n15 k15 => ?_⟩
    have m15_r := k15.on r14_r ne3_r
    have m15_d := k15.on r14_d (Ne.symm ne7_z)
    have m15_cu := (r14_cu).wr k15 up3
    have o15 := k15.bel _ _ l14 up3
    clear k15
    clear r14_z r14_r r14_d r14_cu l14
    go_wp2_with fail
    exact bodyPost_ret (v := .tuple #[.agg (dA d), .int .i64 13]) (res_two Try.results32 rfl rfl n15 Try.underlying44 rfl Try.zDl) rfl ⟨(by rw [HE.out, HS.out] <;> rfl), o15⟩
end Go.Proofs.Ytjfmahceolhfnaa
