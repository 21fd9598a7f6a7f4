/-
  ChairEnds, the walk. Conditions: the records can be read and may be.
-/
import Derived.Test.YtjfmahceolhfnaaChV
set_option linter.unusedVariables false
set_option linter.unusedSimpArgs false
namespace Go.Proofs.Ytjfmahceolhfnaa
open Go.RowKit

theorem st_built2 {P : Program} {ops : Array Oper} {rest : List Oper} {dst : Option Tmp} {ty : TypeId} {pos : String} {aft : Array Edge} {a : Act} {w : World} {Q : Exit → Act → World → Prop} (T : TypeId) (i0 i1 : Nat) (x0 x1 : Operand) (v0 v1 : Value) (cs : Array Value) (h0 : a.eval x0 = v0) (h1 : a.eval x1 = v1) (hb : P.built T [(i0, v0), (i1, v1)] = some cs)
    (k : wpList P ops Q rest (a.put dst (.agg cs)) w) : wpList P ops Q (⟨dst, .build T #[(i0, x0), (i1, x1)], ty, pos, aft, none⟩ :: rest) a w := by
  have h : P.built T ((#[(i0, x0), (i1, x1)] : Array (Nat × Operand)).map fun (i, x) => (i, a.eval x)).toList = some cs := by simpa [h0, h1] using hb
  exact wpList_build rfl T #[(i0, x0), (i1, x1)] rfl (by rw [h]; rfl) (by rw [h]; exact k)
def tickR (x : Int) : Rd := ⟨4, 0, 0, 0, 0, x, 0, 0⟩
theorem built_tick (x : Int) : Try.prog.built 33 [(0, .int .i64 4), (5, .int .i64 x)] = some (rA (tickR x)) := by kernel_rfl
theorem tick_e (D : DM) (x : Int) : eDoC D (tickR x) = 0 ∧ nDoC D (tickR x) = cntB (ooF D x) 1000 ∧ sDoC D (tickR x) = tickD D x := by
  have he : eDoC D (tickR x) = 0 := eDoC_t ⟨⟨(by decide : (1 : Int) ≤ 4), (by decide : (4 : Int) ≤ 4)⟩, (by decide : (0 : Int) ≤ 0), (by decide : (0 : Int) < 1000)⟩ rfl
  exact ⟨he, by rw [nDoC_z he, numC_t rfl]; rfl, by rw [sDoC_z he, stC_t rfl]; rfl⟩
theorem opens_cnt (D : DM) : (opensF D).length = cntB (opF D) 1000 := by unfold opensF; rw [keysF_cnt]; rfl
theorem opens_none {D : DM} (h : ∀ t, opF D t = false) : opensF D = [] := by
  unfold opensF keysF
  rw [List.filter_eq_nil_iff]
  intro t _
  have := h t
  unfold opF at this
  unfold wantB
  split
  · rename_i d hd; rw [hd] at this; simpa using this
  · simp
theorem opens_at {D : DM} {k t : Nat} (h : (opensF D)[k]? = some t) : ∃ d, D t = some d ∧ d.out = 0 ∧ t < 1000 := by
  obtain ⟨h1, h2⟩ := keysF_mem.1 (List.mem_of_getElem? h)
  obtain ⟨d, hd, ho⟩ := wantB_some h2
  exact ⟨d, hd, by simpa using ho, h1⟩
theorem opens_in {D : DM} (hf : Few D) {t : Nat} {d : Dl} (hd : D t = some d) (ho : d.out = 0) : ∃ k : Nat, (opensF D)[k]? = some t := by
  have : t ∈ opensF D := keysF_mem.2 ⟨hf t d hd, by unfold wantB; rw [hd]; simpa using ho⟩
  exact List.mem_iff_getElem?.1 this
theorem last_bnd {m : Te.Tm} (h : Te.RightT m) : 0 ≤ Te.lastR m ∧ Te.lastR m ≤ 1099511627776 := by
  have hr := Te.right_iff.2 h
  unfold Te.lastR
  rw [if_pos hr]
  have := Te.dl_last h
  have h1 := h.1
  have h2 := h.2
  unfold Te.FT at h1
  omega
/-- The greatest last moment of some that are open. -/
def mxL (D : DM) (O : List Nat) (k : Nat) (z : Int) : Prop := (0 ≤ z ∧ z ≤ 1099511627776) ∧ ∀ t ∈ O.take k, ∀ d, D t = some d → Te.lastR d.tm ≤ z
theorem mxL_0 (D : DM) (O : List Nat) : mxL D O 0 0 := ⟨by omega, fun t ht => by simp at ht⟩
theorem mxL_next {D : DM} {O : List Nat} {k t : Nat} {z : Int} {d : Dl} (h : mxL D O k z) (ht : O[k]? = some t) (hd : D t = some d) (hb : 0 ≤ Te.lastR d.tm ∧ Te.lastR d.tm ≤ 1099511627776) {z' : Int} (hz : (z < Te.lastR d.tm ∧ z' = Te.lastR d.tm) ∨ (¬ z < Te.lastR d.tm ∧ z' = z)) : mxL D O (k + 1) z' := by
  obtain ⟨⟨h1, h2⟩, h3⟩ := h
  refine ⟨by omega, fun u hu e he => ?_⟩
  rw [take_next ht] at hu
  rcases List.mem_append.1 hu with hu | hu
  · have := h3 u hu e he
    omega
  · simp at hu
    subst hu
    rw [hd] at he
    cases he
    omega
theorem mxL_end {D : DM} (hg : GoodC D) {n : Nat} (hn : (opensF D).length = n) {z y : Int} (h : mxL D (opensF D) n z) (hy : z ≤ y) : opensF (tickD D y) = [] ∧ cntB (ooF D y) 1000 = n := by
  have := tick_ends (x := y) hg (fun t d hd ho => by
    obtain ⟨k, hk⟩ := opens_in hg.few hd ho
    have hm : t ∈ (opensF D).take n := by rw [List.take_of_length_le (by omega)]; exact List.mem_of_getElem? hk
    have := h.2 t hm d hd
    omega)
  exact ⟨opens_none this.1, by rw [this.2, ← opens_cnt, hn]⟩
set_option maxRecDepth 100000 in
set_option maxHeartbeats 4000000 in
theorem ends_walk (A : Option Addr) (n c : Nat) (L : List Rd) (lt : Nat) (w : World) (h : RR w kcl 8 A n c L) (hok : OkL L) (hlt : lt < 65536) : Calls Try.prog 6 #[.slice A n c, .int .u16 (lt : Int)] w fun zz w' => zz = .returned (.bool true) ∧ Below w.heap.size w w' := by
  have hpl : (plL (L.take 120)).length ≤ 120 := Nat.le_trans (plL_len _) (by rw [List.length_take]; exact Nat.min_le_left _ _)
  go_enter Try.func6, Try.ntmps6
  go_wp2_with fail
  refine (alive_c _).mono ?_
  rintro e w1 ⟨rfl, b1⟩
  have l2 := le_tr (Below.refl _ _) b1
  clear b1
  go_wp2_with fail
  (with_reducible refine (played_c A n c L _ (h.on l2) hok).mono ?_)
  rintro e w3 ⟨bc, mc, G3, rfl, sp3⟩
  have sd3 := sp3.down l2
  have bl3 := sp3.low
  clear sp3
  have l4 := le_tr l2 bl3
  clear l2
  clear bl3
  clear h hok
  generalize (plD (L.take 120)) = D at *
  generalize (plL (L.take 120)) = K at *
  have hg := sd3.cr.good
  have hend := fun n (hn : (opensF D).length = n) z y (h : mxL D (opensF D) n z) (hy : z ≤ y) => mxL_end hg hn h hy
  have hat := fun k t (ht : (opensF D)[k]? = some t) => opens_at ht
  go_wp2_with fail
  refine (open_c bc mc G3 D K _ sd3.cr.cm hg.few).mono ?_
  rintro e w5 ⟨Ao, no, co, rfl, so, b5⟩
  have r6_c := sd3.on b5
  have l6 := le_tr l4 b5
  clear sd3 l4
  clear b5
  have hno : (opensF D).length = no := so.len
  have Hend := Lib.hid (hend no hno)
  have hmx0 := mxL_0 D (opensF D)
  have hno3 : no ≤ 1000 := by rw [← hno]; exact keysF_len _ _
  generalize opensF D = O at so hat hmx0 Hend hno
  have HG := Lib.hid hg
  clear hend hg
  go_wp2_with fail
  go_loopw [6, 24] (fun zv iv wr => ∃ (k : Nat) (z : Int), k ≤ no ∧ iv = .int .i64 k ∧ zv = .int .i64 z ∧ Hid (mxL D O k z) ∧ ST w.heap.size w wr bc mc G3 D K ∧ ZS wr Ao no co O) (fun _ iv _ => no - (intOf iv).toNat)
  case atStart => exact ⟨0, 0, by omega, rfl, rfl, Lib.hid hmx0, r6_c, so⟩
  case round =>
    clear r6_c so hmx0 l6
    obtain ⟨k, z, hk, rfl, rfl, HM, hst, hzs⟩ := hrel
    by_cases hlt : k < no
    · have l1 : (k : Int) < no := by omega
      have l2 : (0 : Int) ≤ (k : Int) := by omega
      obtain ⟨ga, ofa, t, ht, rfl, cx⟩ := hzs.rr.num hlt
      obtain ⟨d, hd, ho, ht3⟩ := hat k t ht
      have hti : (Lit.int .i64 (t : Int)).wf = true := wfI (by omega)
      have hb := last_bnd (HG.out t d hd).2.rt
      have hnx := Lib.hid (fun z' hz => mxL_next (z' := z') HM.out ht hd hb hz)
      have E1 := Lib.hid (show dGet D (t : Int) = d by unfold dGet; rw [dOf_nat, hd]; rfl)
      have E2 := Lib.hid (show (dOf D (t : Int)).isSome = true by rw [dOf_nat, hd]; rfl)
      have T1 := fun W => last_m d.tm W
      obtain ⟨y, hy⟩ : ∃ y, Te.lastR d.tm = y := ⟨_, rfl⟩
      rw [hy] at T1 hnx hb
      clear hd ho ht hy HM
      have l9 := hst.low
      have DC101 := deal_c bc mc G3 D K (t : Int) _ hst.cr.cm hti
      rw [E1.out, E2.out] at DC101
      go_wp2_with fail
      refine (DC101).mono ?_
      rintro e w102 ⟨rfl, b102⟩
      clear cx
      have r103_zs := (hzs).on b102
      have r103_c := hst.on b102
      have l103 := le_tr l9 b102
      clear hzs hst l9
      clear b102
      clear DC101
      go_wp2_with (first | ((with_reducible refine st_alloc 44 (dA zeroD) ?_ ?_); exact zero_dl))
      refine ⟨fun V104 g104 n104 f104 => ?_⟩
      have no104_c := r103_c.fresh (Nat.le_of_eq f104.at_)
      have up104 : w.heap.size ≤ g104 := f104.up l103
      have bl104 := f104.bel
      clear f104
      have r105_zs := (r103_zs).on bl104
      have r105_c := r103_c.on bl104
      have l105 := le_tr l103 bl104
      clear r103_zs r103_c l103
      clear bl104
      go_wp2_with (first | ((with_reducible refine st_store 44 _ _ g104 (dA d) ?_ ?_ n104 ?_ ?_ ?_ ?_); exact rfl; exact rfl; exact Try.zDl; exact rfl; exact dA_one _))
      refine ⟨fun V106 n106 k106 => ?_⟩
      have m106_zs := (r105_zs).wr k106 n104 (by decide)
      have m106_c := r105_c.wr k106 no104_c up104
      have o106 := k106.bel _ _ l105 up104
      clear k106
      clear n104 r105_zs r105_c l105
      by_cases hzy : z < y
      · have hz2 := Lib.hid (hnx.out y (.inl ⟨(by omega), rfl⟩))
        clear hnx
        go_wp2_with (first | (first | ((with_reducible refine st_part 42 _ g104 24 ?_ (pt := mA d.tm) n106 ?_ Try.underlying42 ?_ ?_ ?_); exact rfl; exact dA_ptm _; exact rfl; exact Try.zTm) | ((with_reducible refine st_partG 42 _ g104 24 ?_ (pt := mA d.tm) n106 ?_ Try.underlying42 ?_ ?_ ?_ ?_); exact rfl; exact dA_ptm _; exact rfl; exact Try.zTm; exact rfl)))
        refine (T1 _).mono ?_
        rintro e w107 ⟨rfl, b107⟩
        have r108_d1 := le_on n106 b107
        have r108_zs := (m106_zs).on b107
        have r108_c := m106_c.on b107
        have l108 := le_tr o106 b107
        clear n106 m106_zs m106_c o106
        clear b107
        go_wp2_with fail
        go_roundw
        case rel => exact ⟨k + 1, y, by omega, by go_num, (by rw [show max z y = y by omega]), hz2, r108_c, r108_zs⟩
        case measure => simp [intOf]; omega
      · have hz2 := Lib.hid (hnx.out z (.inr ⟨(by omega), rfl⟩))
        clear hnx
        go_wp2_with (first | (first | ((with_reducible refine st_part 42 _ g104 24 ?_ (pt := mA d.tm) n106 ?_ Try.underlying42 ?_ ?_ ?_); exact rfl; exact dA_ptm _; exact rfl; exact Try.zTm) | ((with_reducible refine st_partG 42 _ g104 24 ?_ (pt := mA d.tm) n106 ?_ Try.underlying42 ?_ ?_ ?_ ?_); exact rfl; exact dA_ptm _; exact rfl; exact Try.zTm; exact rfl)))
        refine (T1 _).mono ?_
        rintro e w107 ⟨rfl, b107⟩
        have r108_d1 := le_on n106 b107
        have r108_zs := (m106_zs).on b107
        have r108_c := m106_c.on b107
        have l108 := le_tr o106 b107
        clear n106 m106_zs m106_c o106
        clear b107
        go_wp2_with fail
        go_roundw
        case rel => exact ⟨k + 1, z, by omega, by go_num, (by rw [show max z y = z by omega]), hz2, r108_c, r108_zs⟩
        case measure => simp [intOf]; omega
    · obtain rfl : k = no := by omega
      have hz := HM.out.1
      obtain ⟨e1, e2⟩ := Hend.out z (z + (lt : Int)) HM.out (by omega)
      obtain ⟨e3, e4, e5⟩ := tick_e D (z + (lt : Int))
      rw [e2] at e4
      clear HM Hend hzs hat HG
      have l9 := hst.low
      have z1 : 0 ≤ z := hz.1
      have z2 : z ≤ 1099511627776 := hz.2
      have z3 : (0 : Int) ≤ (lt : Int) := by omega
      have z4 : (lt : Int) ≤ 65535 := by omega
      clear hz
      have hdo301 := do_c bc mc G3 D K (tickR (z + (lt : Int))) wr hst.cr (by show 0 < 256; omega) (by omega)
      go_wp2_with (first | ((with_reducible refine st_built2 33 0 5 _ _ (.int .i64 4) (.int .i64 (z + (lt : Int))) (rA (tickR (z + (lt : Int)))) ?_ ?_ ?_ ?_); exact rfl; exact rfl; exact built_tick _))
      (with_reducible refine hdo301.mono ?_)
      intro e w301 hp301
      obtain ⟨rfl, G301, st301, ou301, nw301⟩ := hst.done hp301
      clear hp301 hdo301
      have l301 := st301.low
      clear ou301 nw301 hst l9
      rw [e5] at st301
      rw [e3, e4]
      have hf2 := st301.cr.good.few
      have OC := fun (W : World) (D' : DM) (K' : List Rd) (h : CM W bc mc G301 D' K') (hf : Few D') => open_c bc mc G301 D' K' W h hf
      clear OC
      have O2 := open_c bc mc G301 _ _ _ st301.cr.cm hf2
      rw [e1] at O2
      go_wp2_with fail
      refine (O2).mono ?_
      rintro e w302 ⟨A2, n2, c2, rfl, s2, b302⟩
      have r303_c := st301.on b302
      have l303 := le_tr l301 b302
      clear st301 l301
      clear b302
      obtain rfl : n2 = 0 := s2.len.symm
      clear s2
      go_wp2_with fail
      go_ret
      exact ⟨rfl, l303⟩
end Go.Proofs.Ytjfmahceolhfnaa
