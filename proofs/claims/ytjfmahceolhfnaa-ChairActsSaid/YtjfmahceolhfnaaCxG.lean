/-
  ChairActs, the walk. Conditions: the records can be read and may be.
-/
import Derived.Test.YtjfmahceolhfnaaCxF
import Derived.Test.YtjfmahceolhfnaaChY
set_option linter.unusedVariables false
set_option linter.unusedSimpArgs false
namespace Go.Proofs.Ytjfmahceolhfnaa
open Go.RowKit

set_option linter.unusedSectionVars false
theorem RS.st_out {α : Type} {c : α → List Value} {s : Nat} [Nonempty (EncOk c s)] {w W V : World} {T : TypeId} {A : Option Addr} {n q : Nat} {L : List α} {B b m : Nat} {G : Option Nat} {D : DM} {log : List Rd} (hs : RS W T c s A n q L) (h : ST B w W b m G D log) (h1 : 65 ≠ T) (h2 : 33 ≠ T) (ou : Out W V (Own b m G)) : RS V T c s A n q L := by
  obtain ⟨G', h'⟩ := hs
  refine ⟨G', h'.keep fun g e => ou.block g (h'.lt g e) (fun hi => ?_)⟩
  subst e
  obtain ⟨cs, hc⟩ := seg_typeS h'
  obtain ⟨A2, n2, c2, k1, k2, _⟩ := h.cr.cm.len
  rcases hi with e | e | e
  · exact h'.ne_ k1 (fun e2 => h1 e2.symm) (by rw [e])
  · exact h.cr.cm.md.ne hc e
  · subst e
    obtain ⟨cs2, hc2⟩ := seg_typeS k2
    exact h'.ne_ hc2 (fun e2 => h2 e2.symm) rfl
theorem find_is {C : List Dd} (h : OkC C) (x : Int) : decide (findI C x ≥ 0) = (dOf (fnC C) x).isSome := by
  rcases findI_cases C x with ⟨hf, hno⟩ | ⟨k, e0, hf, hk, he⟩
  · rw [hf]
    unfold dOf
    by_cases h0 : 0 ≤ x
    · rw [if_pos h0, fnC_not h0 hno]; rfl
    · rw [if_neg h0]; rfl
  · rw [hf]
    have hr := h.rng e0 (List.mem_of_getElem? hk)
    have h0 : 0 ≤ x := by omega
    unfold dOf
    rw [if_pos h0, fnC_of h hk he]
    simp
set_option maxRecDepth 100000 in
set_option maxHeartbeats 4000000 in
theorem acts_walk (A : Option Addr) (n c : Nat) (Q : List Rd) (w : World) (h : RR w kcl 8 A n c Q) (hok : OkL Q) : Calls Try.prog 3 #[.slice A n c] w fun zz w' => zz = .returned (.bool true) ∧ Below w.heap.size w w' := by
  have hlen := Lib.hid h.len
  have hmx : n ≤ maxLen := Nat.le_trans h.cap h.max
  simp only [maxLen] at hmx
  go_enter Try.func3, Try.ntmps3
  go_wp2_with fail
  refine (alive_c _).mono ?_
  rintro e w1 ⟨rfl, b1⟩
  have l2 := le_tr (Below.refl _ _) b1
  clear b1
  go_wp2_with fail
  (with_reducible refine (chair_new _).mono ?_)
  rintro e w3 ⟨b, m, rfl, q1, q2, q3, q4, q5⟩
  have st3 : ST w.heap.size w w3 b m none (fnC []) [] := ⟨q1, (by rintro i (rfl | rfl | e) <;> first | (exact Nat.le_trans l2.size q2) | (exact Nat.le_trans l2.size q3) | cases e), le_tr l2 q5⟩
  clear q1 q2 q3 q4 q5 l2
  have l3 := st3.low
  go_wp2_with (first | ((with_reducible refine st_alloc 28 (yA zeroC) ?_ ?_); exact zero_cr))
  refine ⟨fun V3 g3 n3 f3 => ?_⟩
  have no3_c := st3.fresh (Nat.le_of_eq f3.at_)
  have up3 : w.heap.size ≤ g3 := f3.up l3
  have bl3 := f3.bel
  clear f3
  have r4_c := st3.on bl3
  have l4 := le_tr l3 bl3
  clear st3 l3
  clear bl3
  go_wp2_with fail
  go_loopw [5] (fun iv wr => ∃ (k : Nat) (G1 : Option Nat) (C : List Dd) (L : List Rd) (xa : Option Addr) (xn xc : Nat) (la : Option Addr) (ln lc : Nat), k ≤ n ∧ k ≤ 120 ∧ iv = .int .i64 k ∧ ST w.heap.size w wr b m G1 (fnC C) L ∧ CB wr g3 28 (yA ⟨xa, xn, xc, la, ln, lc⟩) ∧ (¬ Own b m G1 g3) ∧ XD wr xa xn xc C ∧ KD wr la ln lc L ∧ OkC C ∧ L.length ≤ k) (fun iv _ => n - (intOf iv).toNat)
  case atStart => exact ⟨0, none, [], [], none, 0, 0, none, 0, 0, by omega, by omega, rfl, r4_c, n3, no3_c, ⟨none, Seg.nil _ _ _⟩, ⟨none, Seg.nil _ _ _⟩, okC_nil, Nat.le_refl _⟩
  case round =>
    clear r4_c n3 no3_c l4
    obtain ⟨k, G1, C, L, xa, xn, xc, la, ln, lc, hk, hk2, rfl, hsc, hm, hno, hxs, hks, hC, hll⟩ := hrel
    have l9 := hsc.low
    by_cases hlt : k < n
    · have l1 : decide ((k : Int) < n) = true := by simp; omega
      have l1' : (k : Int) < n := by omega
      have l2 : (0 : Int) ≤ (k : Int) := by omega
      by_cases hl2 : k < 120
      · have l3 : decide ((k : Int) < 120) = true := by simp; omega
        obtain ⟨ga, ofa, x, hx, rfl, hr⟩ := (h.on hsc.low).elem hlt
        have hga : ga < w.heap.size := h.lt rfl (by omega)
        have hxo := hok x (List.mem_of_getElem? hx)
        have rl : rangeL w.heap.size wr ga (ofa + k * 8) x := ⟨hr, hga⟩
        have hxk := Lib.hid hx
        clear hr hx
        have hlk := Lib.hid (lDoC_len (fnC C) L x)
        have hr : wr.rangeAt ga (ofa + k * 8) (rA x).toList := rl.out
        have hdo101 := do_c b m G1 (fnC C) L x wr hsc.cr hxo.1 (by omega)
        go_wp2_with (first | ((with_reducible refine st_elem 34 _ ga (ofa + k * 8) (rA x) ?_ hr Try.underlying34 ?_ ?_ ?_); exact rfl; exact rfl; exact Try.zRr))
        (with_reducible refine hdo101.mono ?_)
        intro e w101 hp101
        obtain ⟨rfl, G101, st101, ou101, nw101⟩ := hsc.done hp101
        clear hp101 hdo101
        have q101_m := ou101.box hm hno
        have no101_m := nw101 _ (hm).lt hno
        have q101_rl := (rl).out_ ou101 hsc.hi
        have q101_xs := RS.st_out (hxs) hsc (by decide) (by decide) ou101
        have q101_ks := RS.st_out (hks) hsc (by decide) (by decide) ou101
        have l101 := st101.low
        clear ou101 nw101 hsc hm hno rl hxs hks l9
        clear hr
        have hDR := fun (W : World) (h : XD W xa xn xc C) (hk : KD W la ln lc L) => do_r xa xn xc la ln lc C L x W h hk hC hxo.1 (by omega)
        obtain ⟨D5, hD5⟩ : ∃ D5, sDoC (fnC C) x = D5 := ⟨_, rfl⟩
        obtain ⟨L5, hL5⟩ : ∃ L5, lDoC (fnC C) L x = L5 := ⟨_, rfl⟩
        obtain ⟨E, hE⟩ : ∃ E, eDoC (fnC C) x = E := ⟨_, rfl⟩
        obtain ⟨N, hN⟩ : ∃ N, nDoC (fnC C) x = N := ⟨_, rfl⟩
        rw [hD5, hL5] at st101
        rw [hE, hN]
        rw [hL5] at hlk
        have hDR : ∀ (W : World), XD W xa xn xc C → KD W la ln lc L → Calls Try.prog 13 #[.agg (yA ⟨xa, xn, xc, la, ln, lc⟩), .agg (rA x)] W fun e w' => ∃ A n c A2 n2 c2 C', e = .returned (.tuple #[.agg (yA ⟨A, n, c, A2, n2, c2⟩), .int .i64 (N : Int), .int .i64 (E : Int)]) ∧ XD w' A n c C' ∧ KD w' A2 n2 c2 L5 ∧ OkC C' ∧ fnC C' = D5 ∧ Below W.heap.size W w' := fun W h hk => by have := hDR W h hk; unfold DrPost at this; rw [hD5, hL5, hE, hN] at this; exact this
        clear hD5 hL5 hE hN
        have hlk2 : L5.length ≤ k + 1 := by have := hlk.out; omega
        have qn0 : ((N : Int) != (N : Int)) = false := by simp
        have qe0 : ((E : Int) != (E : Int)) = false := by simp
        clear hlk hll
        go_wp2_with fail
        have y102 := Lib.hid (show (fun V : World => CB V g3 28 (yA ⟨xa, xn, xc, la, ln, lc⟩) ∧ rangeL w.heap.size V ga (ofa + k * 8) x) w101.drew from ⟨CB.drew q101_m, (q101_rl).drew⟩)
        refine wp_region_held_drew (S := (fun V : World => CB V g3 28 (yA ⟨xa, xn, xc, la, ln, lc⟩) ∧ rangeL w.heap.size V ga (ofa + k * 8) x)) (by kernel_rfl) y102.out (fun hHeld => ?_)
        obtain ⟨D102, hD102⟩ : ∃ V, w101.drew = V := ⟨_, rfl⟩
        have b102 : Below w101.heap.size w101 D102 := by rw [← hD102]; exact le_dr (Below.refl _ _)
        rw [hD102] at hHeld ⊢
        clear hD102
        have r103_m := le_on q101_m b102
        have r103_rl := (q101_rl).on b102
        have r103_xs := (q101_xs).on b102
        have r103_ks := (q101_ks).on b102
        have r103_c := st101.on b102
        have l103 := le_tr l101 b102
        clear q101_m q101_rl q101_xs q101_ks st101 l101
        clear b102
        refine wpAnyH_takeL (i := 0) (d := some 38) (v := .agg (yA ⟨xa, xn, xc, la, ln, lc⟩)) rfl rfl (by kernel_rfl) (by kernel_rfl) (by kernel_rfl) (fun _ _ _ h => h) (Or.inl ⟨by rfl, ?_⟩) hHeld ?_
        · intro w hSw; exact yl_whole 28 _ g3 rfl hSw.1 Try.underlying28 rfl Try.zCr
        try simp only [Act.put, List.setIfInBounds_toArray, List.set_cons_zero, List.set_cons_succ]
        refine wpAnyH_takeL (i := 1) (d := some 39) (v := .slice (some ⟨ga, ofa, none⟩) n c) rfl rfl (by kernel_rfl) (by kernel_rfl) (by kernel_rfl) (fun _ _ _ h => h) (Or.inl ⟨by rfl, ?_⟩) hHeld ?_
        · intro w hSw; (try dsimp only at hSw); go_simp
        try simp only [Act.put, List.setIfInBounds_toArray, List.set_cons_zero, List.set_cons_succ]
        refine wpAnyH_takeL (i := 2) (d := some 40) (v := .int .i64 (k : Int)) rfl rfl (by kernel_rfl) (by kernel_rfl) (by kernel_rfl) (fun _ _ _ h => h) (Or.inl ⟨by rfl, ?_⟩) hHeld ?_
        · intro w hSw; (try dsimp only at hSw); go_simp
        try simp only [Act.put, List.setIfInBounds_toArray, List.set_cons_zero, List.set_cons_succ]
        refine wpAnyH_takeL (i := 3) (d := some 41) (v := .pointer (some ⟨ga, ofa + k * 8, none⟩)) rfl rfl (by kernel_rfl) (by kernel_rfl) (by kernel_rfl) (fun _ _ _ h => h) (Or.inl ⟨by rfl, ?_⟩) hHeld ?_
        · intro w hSw; (try dsimp only at hSw); go_simp
        try simp only [Act.put, List.setIfInBounds_toArray, List.set_cons_zero, List.set_cons_succ]
        refine wpAnyH_takeL (i := 4) (d := some 42) (v := .agg (rA x)) rfl rfl (by kernel_rfl) (by kernel_rfl) (by kernel_rfl) (fun _ _ _ h => h) (Or.inl ⟨by rfl, ?_⟩) hHeld ?_
        · intro w hSw; exact yl_elem 34 _ ga (ofa + k * 8) (rA x) rfl (show w.rangeAt ga (ofa + k * 8) (rA x).toList from hSw.2.out) Try.underlying34 rfl Try.zRr
        try simp only [Act.put, List.setIfInBounds_toArray, List.set_cons_zero, List.set_cons_succ]
        refine wpAnyH_ready (rs := [5, 10]) (by kernel_rfl) (by simp) ?_
        refine AllReadyH.cons rfl (fun K hK => ?_) (AllReadyH.cons rfl (fun K hK => ?_) AllReadyH.nil)
        · skip
          go_simp
          (with_reducible refine (hDR _ r103_xs r103_ks).mono ?_)
          rintro e u104 ⟨A5, qn, qc, A6, rn, rc5, C5, rfl, s5, s6, ok5, fq5, b104⟩
          have r105_m := le_on r103_m b104
          have r105_rl := (r103_rl).on b104
          have r105_xs := (r103_xs).on b104
          have r105_ks := (r103_ks).on b104
          have r105_c := r103_c.on b104
          have l105 := le_tr l103 b104
          clear r103_m r103_rl r103_xs r103_ks r103_c l103
          clear b104
          subst fq5
          clear r105_xs r105_ks hDR hC
          go_wp2_with fail
          have y106 := Lib.hid (show (fun V : World => CB V g3 28 (yA ⟨xa, xn, xc, la, ln, lc⟩) ∧ rangeL w.heap.size V ga (ofa + k * 8) x) u104 from ⟨r105_m, r105_rl⟩)
          refine hK.out _ _ y106.out (fun hHeld => ?_)
          clear hK K y106
          try simp only [Act.put, List.setIfInBounds_toArray, List.set_cons_zero, List.set_cons_succ]
          refine wpAnyH_takeL (i := 6) (d := some 37) (v := .tuple #[.agg (yA ⟨A5, qn, qc, A6, rn, rc5⟩), .int .i64 (N : Int), .int .i64 (E : Int)]) rfl rfl (by kernel_rfl) (by kernel_rfl) (by kernel_rfl) (fun _ _ _ h => h) (Or.inl ⟨by rfl, ?_⟩) hHeld ?_
          · intro w hSw; (try dsimp only at hSw); go_simp
          try simp only [Act.put, List.setIfInBounds_toArray, List.set_cons_zero, List.set_cons_succ]
          refine wpAnyH_takeL (i := 7) (d := some 44) (v := .agg (yA ⟨A5, qn, qc, A6, rn, rc5⟩)) rfl rfl (by kernel_rfl) (by kernel_rfl) (by kernel_rfl) (fun _ _ _ h => h) (Or.inl ⟨by rfl, ?_⟩) hHeld ?_
          · intro w hSw; (try dsimp only at hSw); go_simp
          try simp only [Act.put, List.setIfInBounds_toArray, List.set_cons_zero, List.set_cons_succ]
          refine wpAnyH_takeL (i := 8) (d := some 45) (v := .int .i64 (N : Int)) rfl rfl (by kernel_rfl) (by kernel_rfl) (by kernel_rfl) (fun _ _ _ h => h) (Or.inl ⟨by rfl, ?_⟩) hHeld ?_
          · intro w hSw; (try dsimp only at hSw); go_simp
          try simp only [Act.put, List.setIfInBounds_toArray, List.set_cons_zero, List.set_cons_succ]
          refine wpAnyH_takeL (i := 9) (d := some 46) (v := .int .i64 (E : Int)) rfl rfl (by kernel_rfl) (by kernel_rfl) (by kernel_rfl) (fun _ _ _ h => h) (Or.inl ⟨by rfl, ?_⟩) hHeld ?_
          · intro w hSw; (try dsimp only at hSw); go_simp
          try simp only [Act.put, List.setIfInBounds_toArray, List.set_cons_zero, List.set_cons_succ]
          refine wpAnyH_ready (rs := [10]) (by kernel_rfl) (by simp) ?_
          refine AllReadyH.cons rfl (fun K hK => ?_) AllReadyH.nil
          refine rd_alloc rfl 28 rfl (some 8) rfl (yA zeroC) zero_cr ?_
          refine ⟨fun V107 g107 n107 f107 => ?_⟩
          have ne107_m := f107.ne r105_m
          have no107_c := r105_c.fresh (Nat.le_of_eq f107.at_)
          have up107 : w.heap.size ≤ g107 := f107.up l105
          have bl107 := f107.bel
          clear f107
          have r108_m := le_on r105_m bl107
          have r108_rl := (r105_rl).on bl107
          have r108_s5 := (s5).on bl107
          have r108_s6 := (s6).on bl107
          have r108_c := r105_c.on bl107
          have l108 := le_tr l105 bl107
          clear r105_m r105_rl s5 s6 r105_c l105
          clear bl107
          have y109 := Lib.hid (show (fun V : World => CB V g3 28 (yA ⟨xa, xn, xc, la, ln, lc⟩) ∧ rangeL w.heap.size V ga (ofa + k * 8) x) V107 from ⟨r108_m, r108_rl⟩)
          refine hK.out _ _ y109.out (fun hHeld => ?_)
          clear hK K y109
          try simp only [Act.put, List.setIfInBounds_toArray, List.set_cons_zero, List.set_cons_succ]
          refine wpAnyH_ready (rs := [11]) (by kernel_rfl) (by simp) ?_
          refine AllReadyH.cons rfl (fun K hK => ?_) AllReadyH.nil
          refine rd_store rfl 28 _ _ rfl none rfl g107 (yA ⟨A5, qn, qc, A6, rn, rc5⟩) rfl rfl n107 Try.zCr rfl (yA_one _) ?_
          refine ⟨fun V110 n110 k110 => ?_⟩
          have m110_m := k110.on r108_m ne107_m
          have m110_rl := (r108_rl).wr k110 up107
          have m110_s5 := (r108_s5).wr k110 n107 (by decide)
          have m110_s6 := (r108_s6).wr k110 n107 (by decide)
          have m110_c := r108_c.wr k110 no107_c up107
          have o110 := k110.bel _ _ l108 up107
          clear k110
          clear n107 r108_m r108_rl r108_s5 r108_s6 r108_c l108
          have y111 := Lib.hid (show (fun V : World => CB V g3 28 (yA ⟨xa, xn, xc, la, ln, lc⟩) ∧ rangeL w.heap.size V ga (ofa + k * 8) x) V110 from ⟨m110_m, m110_rl⟩)
          refine hK.out _ _ y111.out (fun hHeld => ?_)
          clear hK K y111
          try simp only [Act.put, List.setIfInBounds_toArray, List.set_cons_zero, List.set_cons_succ]
          refine wpAnyH_takeL (i := 12) (d := some 9) (v := .int .i64 (N : Int)) rfl rfl (by kernel_rfl) (by kernel_rfl) (by kernel_rfl) (fun _ _ _ h => h) (Or.inl ⟨by rfl, ?_⟩) hHeld ?_
          · intro w hSw; (try dsimp only at hSw); go_simp
          try simp only [Act.put, List.setIfInBounds_toArray, List.set_cons_zero, List.set_cons_succ]
          refine wpAnyH_takeL (i := 13) (d := some 10) (v := .int .i64 (E : Int)) rfl rfl (by kernel_rfl) (by kernel_rfl) (by kernel_rfl) (fun _ _ _ h => h) (Or.inl ⟨by rfl, ?_⟩) hHeld ?_
          · intro w hSw; (try dsimp only at hSw); go_simp
          try simp only [Act.put, List.setIfInBounds_toArray, List.set_cons_zero, List.set_cons_succ]
          refine wpAnyH_done (by kernel_rfl) ?_ _
          go_wp2_with (first | (first | ((with_reducible refine st_load 28 _ g107 ?_ n110 Try.underlying28 ?_ ?_ ?_); exact rfl; exact rfl; exact Try.zCr) | ((with_reducible refine st_loadG 28 _ g107 ?_ n110 Try.underlying28 ?_ ?_ ?_ ?_); exact rfl; exact rfl; exact Try.zCr; exact rfl)) | ((with_reducible refine st_store 28 _ _ g3 (yA ⟨A5, qn, qc, A6, rn, rc5⟩) ?_ ?_ m110_m ?_ ?_ ?_ ?_); exact rfl; exact rfl; exact Try.zCr; exact rfl; exact yA_one _))
          refine ⟨fun V112 n112 k112 => ?_⟩
          have m112_nx := k112.on n110 (Ne.symm ne107_m)
          have m112_rl := (m110_rl).wr k112 up3
          have m112_s5 := (m110_s5).wr k112 m110_m (by decide)
          have m112_s6 := (m110_s6).wr k112 m110_m (by decide)
          have m112_c := m110_c.wr k112 no101_m up3
          have o112 := k112.bel _ _ o110 up3
          clear k112
          clear m110_m n110 m110_rl m110_s5 m110_s6 m110_c o110
          have ct : V112.cell? ⟨ga, ofa + k * 8 + 1, none⟩ = some (.int .i64 x.tx) := m112_rl.tx
          obtain ⟨d9, hd9⟩ : ∃ d, dGet (fnC C5) x.tx = d := ⟨_, rfl⟩
          obtain ⟨q, hq⟩ : ∃ q, (dOf (fnC C5) x.tx).isSome = q := ⟨_, rfl⟩
          obtain ⟨f, hf⟩ : ∃ f, findI C5 x.tx = f := ⟨_, rfl⟩
          have hfq : decide (f ≥ 0) = q := by rw [← hf, ← hq]; exact find_is ok5 x.tx
          have F1 := fun (W : World) (h : XD W A5 qn qc C5) => find_r A5 qn qc A6 rn rc5 C5 x.tx W h
          rw [hf] at F1
          have DC := deal_c b m G101 (fnC C5) L5 x.tx _ m112_c.cr.cm hxo.2
          rw [hd9, hq] at DC
          have hqq : (q != q) = false := by simp
          have hqq2 : (q == q) = true := by simp
          have SM := fun (W : World) (hm : CM W b m G101 (fnC C5) L5) (h : XD W A5 qn qc C5) (hk : KD W A6 rn rc5 L5) => same_c b m G101 A5 qn qc A6 rn rc5 C5 L5 W hm m112_c.cr.good.few h hk ok5 (by omega)
          clear hd9 hq hf
          go_wp2_with fail
          refine (DC).mono ?_
          rintro e w113 ⟨rfl, b113⟩
          clear ct
          have r114_m := le_on n112 b113
          have r114_nx := le_on m112_nx b113
          have r114_rl := (m112_rl).on b113
          have r114_s5 := (m112_s5).on b113
          have r114_s6 := (m112_s6).on b113
          have r114_c := m112_c.on b113
          have l114 := le_tr o112 b113
          clear n112 m112_nx m112_rl m112_s5 m112_s6 m112_c o112
          clear b113
          clear DC
          go_wp2_with (first | ((with_reducible refine st_alloc 44 (dA zeroD) ?_ ?_); exact zero_dl))
          refine ⟨fun V115 g115 n115 f115 => ?_⟩
          have ne115_m := f115.ne r114_m
          have ne115_nx := f115.ne r114_nx
          have no115_c := r114_c.fresh (Nat.le_of_eq f115.at_)
          have up115 : w.heap.size ≤ g115 := f115.up l114
          have bl115 := f115.bel
          clear f115
          have r116_m := le_on r114_m bl115
          have r116_nx := le_on r114_nx bl115
          have r116_rl := (r114_rl).on bl115
          have r116_s5 := (r114_s5).on bl115
          have r116_s6 := (r114_s6).on bl115
          have r116_c := r114_c.on bl115
          have l116 := le_tr l114 bl115
          clear r114_m r114_nx r114_rl r114_s5 r114_s6 r114_c l114
          clear bl115
          go_wp2_with (first | ((with_reducible refine st_store 44 _ _ g115 (dA d9) ?_ ?_ n115 ?_ ?_ ?_ ?_); exact rfl; exact rfl; exact Try.zDl; exact rfl; exact dA_one _))
          refine ⟨fun V117 n117 k117 => ?_⟩
          have m117_m := k117.on r116_m ne115_m
          have m117_nx := k117.on r116_nx ne115_nx
          have m117_rl := (r116_rl).wr k117 up115
          have m117_s5 := (r116_s5).wr k117 n115 (by decide)
          have m117_s6 := (r116_s6).wr k117 n115 (by decide)
          have m117_c := r116_c.wr k117 no115_c up115
          have o117 := k117.bel _ _ l116 up115
          clear k117
          clear n115 r116_m r116_nx r116_rl r116_s5 r116_s6 r116_c l116
          go_wp2_with fail
          have y118 := Lib.hid (show (fun V : World => CB V g3 28 (yA ⟨A5, qn, qc, A6, rn, rc5⟩) ∧ rangeL w.heap.size V ga (ofa + k * 8) x) V117.drew from ⟨CB.drew m117_m, (m117_rl).drew⟩)
          refine wp_region_held_drew (S := (fun V : World => CB V g3 28 (yA ⟨A5, qn, qc, A6, rn, rc5⟩) ∧ rangeL w.heap.size V ga (ofa + k * 8) x)) (by kernel_rfl) y118.out (fun hHeld => ?_)
          obtain ⟨D118, hD118⟩ : ∃ V, V117.drew = V := ⟨_, rfl⟩
          have b118 : Below V117.heap.size V117 D118 := by rw [← hD118]; exact le_dr (Below.refl _ _)
          rw [hD118] at hHeld ⊢
          clear hD118
          have r119_m := le_on m117_m b118
          have r119_nx := le_on m117_nx b118
          have r119_d := le_on n117 b118
          have r119_rl := (m117_rl).on b118
          have r119_s5 := (m117_s5).on b118
          have r119_s6 := (m117_s6).on b118
          have r119_c := m117_c.on b118
          have l119 := le_tr o117 b118
          clear m117_m m117_nx n117 m117_rl m117_s5 m117_s6 m117_c o117
          clear b118
          refine wpAnyH_takeL (i := 0) (d := some 58) (v := .int .i64 (N : Int)) rfl rfl (by kernel_rfl) (by kernel_rfl) (by kernel_rfl) (fun _ _ _ h => h) (Or.inl ⟨by rfl, ?_⟩) hHeld ?_
          · intro w hSw; (try dsimp only at hSw); go_simp
          try simp only [Act.put, List.setIfInBounds_toArray, List.set_cons_zero, List.set_cons_succ]
          refine wpAnyH_takeL (i := 1) (d := some 59) (v := .int .i64 (N : Int)) rfl rfl (by kernel_rfl) (by kernel_rfl) (by kernel_rfl) (fun _ _ _ h => h) (Or.inl ⟨by rfl, ?_⟩) hHeld ?_
          · intro w hSw; (try dsimp only at hSw); go_simp
          try simp only [Act.put, List.setIfInBounds_toArray, List.set_cons_zero, List.set_cons_succ]
          refine wpAnyH_takeL (i := 2) (d := some 60) (v := .bool false) rfl rfl (by kernel_rfl) (by kernel_rfl) (by kernel_rfl) (fun _ _ _ h => h) (Or.inl ⟨by rfl, ?_⟩) hHeld ?_
          · intro w hSw; (try dsimp only at hSw); go_simp
          try simp only [Act.put, List.setIfInBounds_toArray, List.set_cons_zero, List.set_cons_succ]
          refine wpAnyH_takeL (i := 3) (d := some 61) (v := .bool false) rfl rfl (by kernel_rfl) (by kernel_rfl) (by kernel_rfl) (fun _ _ _ h => h) (Or.inl ⟨by rfl, ?_⟩) hHeld ?_
          · intro w hSw; (try dsimp only at hSw); go_simp
          try simp only [Act.put, List.setIfInBounds_toArray, List.set_cons_zero, List.set_cons_succ]
          refine wpAnyH_takeL (i := 4) (d := some 62) (v := .int .i64 (E : Int)) rfl rfl (by kernel_rfl) (by kernel_rfl) (by kernel_rfl) (fun _ _ _ h => h) (Or.inl ⟨by rfl, ?_⟩) hHeld ?_
          · intro w hSw; (try dsimp only at hSw); go_simp
          try simp only [Act.put, List.setIfInBounds_toArray, List.set_cons_zero, List.set_cons_succ]
          refine wpAnyH_takeL (i := 5) (d := some 63) (v := .int .i64 (E : Int)) rfl rfl (by kernel_rfl) (by kernel_rfl) (by kernel_rfl) (fun _ _ _ h => h) (Or.inl ⟨by rfl, ?_⟩) hHeld ?_
          · intro w hSw; (try dsimp only at hSw); go_simp
          try simp only [Act.put, List.setIfInBounds_toArray, List.set_cons_zero, List.set_cons_succ]
          refine wpAnyH_takeL (i := 6) (d := some 64) (v := .bool false) rfl rfl (by kernel_rfl) (by kernel_rfl) (by kernel_rfl) (fun _ _ _ h => h) (Or.inl ⟨by rfl, ?_⟩) hHeld ?_
          · intro w hSw; (try dsimp only at hSw); go_simp
          try simp only [Act.put, List.setIfInBounds_toArray, List.set_cons_zero, List.set_cons_succ]
          refine wpAnyH_takeL (i := 7) (d := some 65) (v := .bool false) rfl rfl (by kernel_rfl) (by kernel_rfl) (by kernel_rfl) (fun _ _ _ h => h) (Or.inl ⟨by rfl, ?_⟩) hHeld ?_
          · intro w hSw; (try dsimp only at hSw); go_simp
          try simp only [Act.put, List.setIfInBounds_toArray, List.set_cons_zero, List.set_cons_succ]
          refine wpAnyH_takeL (i := 8) (d := some 66) (v := .bool false) rfl rfl (by kernel_rfl) (by kernel_rfl) (by kernel_rfl) (fun _ _ _ h => h) (Or.inl ⟨by rfl, ?_⟩) hHeld ?_
          · intro w hSw; (try dsimp only at hSw); go_simp
          try simp only [Act.put, List.setIfInBounds_toArray, List.set_cons_zero, List.set_cons_succ]
          refine wpAnyH_takeL (i := 9) (d := some 67) (v := .bool q) rfl rfl (by kernel_rfl) (by kernel_rfl) (by kernel_rfl) (fun _ _ _ h => h) (Or.inl ⟨by rfl, ?_⟩) hHeld ?_
          · intro w hSw; (try dsimp only at hSw); go_simp
          try simp only [Act.put, List.setIfInBounds_toArray, List.set_cons_zero, List.set_cons_succ]
          refine wpAnyH_takeL (i := 10) (d := some 68) (v := .agg (yA ⟨A5, qn, qc, A6, rn, rc5⟩)) rfl rfl (by kernel_rfl) (by kernel_rfl) (by kernel_rfl) (fun _ _ _ h => h) (Or.inl ⟨by rfl, ?_⟩) hHeld ?_
          · intro w hSw; exact yl_whole 28 _ g3 rfl hSw.1 Try.underlying28 rfl Try.zCr
          try simp only [Act.put, List.setIfInBounds_toArray, List.set_cons_zero, List.set_cons_succ]
          refine wpAnyH_takeL (i := 11) (d := some 69) (v := .slice (some ⟨ga, ofa, none⟩) n c) rfl rfl (by kernel_rfl) (by kernel_rfl) (by kernel_rfl) (fun _ _ _ h => h) (Or.inl ⟨by rfl, ?_⟩) hHeld ?_
          · intro w hSw; (try dsimp only at hSw); go_simp
          try simp only [Act.put, List.setIfInBounds_toArray, List.set_cons_zero, List.set_cons_succ]
          refine wpAnyH_takeL (i := 12) (d := some 70) (v := .int .i64 (k : Int)) rfl rfl (by kernel_rfl) (by kernel_rfl) (by kernel_rfl) (fun _ _ _ h => h) (Or.inl ⟨by rfl, ?_⟩) hHeld ?_
          · intro w hSw; (try dsimp only at hSw); go_simp
          try simp only [Act.put, List.setIfInBounds_toArray, List.set_cons_zero, List.set_cons_succ]
          refine wpAnyH_takeL (i := 13) (d := some 71) (v := .pointer (some ⟨ga, ofa + k * 8, none⟩)) rfl rfl (by kernel_rfl) (by kernel_rfl) (by kernel_rfl) (fun _ _ _ h => h) (Or.inl ⟨by rfl, ?_⟩) hHeld ?_
          · intro w hSw; (try dsimp only at hSw); go_simp
          try simp only [Act.put, List.setIfInBounds_toArray, List.set_cons_zero, List.set_cons_succ]
          refine wpAnyH_takeL (i := 14) (d := some 72) (v := .pointer (some ⟨ga, ofa + k * 8 + 1, none⟩)) rfl rfl (by kernel_rfl) (by kernel_rfl) (by kernel_rfl) (fun _ _ _ h => h) (Or.inl ⟨by rfl, ?_⟩) hHeld ?_
          · intro w hSw; (try dsimp only at hSw); go_simp
          try simp only [Act.put, List.setIfInBounds_toArray, List.set_cons_zero, List.set_cons_succ]
          refine wpAnyH_takeL (i := 15) (d := some 73) (v := .int .i64 x.tx) rfl rfl (by kernel_rfl) (by kernel_rfl) (by kernel_rfl) (fun _ _ _ h => h) (Or.inl ⟨by rfl, ?_⟩) hHeld ?_
          · intro w hSw; have hcc : w.cell? ⟨ga, ofa + k * 8 + 1, none⟩ = some (.int .i64 x.tx) := hSw.2.tx; go_simp
          try simp only [Act.put, List.setIfInBounds_toArray, List.set_cons_zero, List.set_cons_succ]
          refine wpAnyH_ready (rs := [16]) (by kernel_rfl) (by simp) ?_
          refine AllReadyH.cons rfl (fun K hK => ?_) AllReadyH.nil
          go_simp
          (with_reducible refine (F1 _ r119_s5).mono ?_)
          rintro e u120 ⟨rfl, b120⟩
          have r121_m := le_on r119_m b120
          have r121_nx := le_on r119_nx b120
          have r121_d := le_on r119_d b120
          have r121_rl := (r119_rl).on b120
          have r121_s5 := (r119_s5).on b120
          have r121_s6 := (r119_s6).on b120
          have r121_c := r119_c.on b120
          have l121 := le_tr l119 b120
          clear r119_m r119_nx r119_d r119_rl r119_s5 r119_s6 r119_c l119
          clear b120
          go_wp2_with fail
          have y122 := Lib.hid (show (fun V : World => CB V g3 28 (yA ⟨A5, qn, qc, A6, rn, rc5⟩) ∧ rangeL w.heap.size V ga (ofa + k * 8) x) u120 from ⟨r121_m, r121_rl⟩)
          refine hK.out _ _ y122.out (fun hHeld => ?_)
          clear hK K y122
          try simp only [Act.put, List.setIfInBounds_toArray, List.set_cons_zero, List.set_cons_succ]
          refine wpAnyH_takeL (i := 17) (d := some 75) (v := .bool q) rfl rfl (by kernel_rfl) (by kernel_rfl) (by kernel_rfl) (fun _ _ _ h => h) (Or.inl ⟨by rfl, ?_⟩) hHeld ?_
          · intro w hSw; (try dsimp only at hSw); go_simp
          try simp only [Act.put, List.setIfInBounds_toArray, List.set_cons_zero, List.set_cons_succ]
          refine wpAnyH_takeL (i := 18) (d := some 76) (v := .bool false) rfl rfl (by kernel_rfl) (by kernel_rfl) (by kernel_rfl) (fun _ _ _ h => h) (Or.inl ⟨by rfl, ?_⟩) hHeld ?_
          · intro w hSw; (try dsimp only at hSw); go_simp
          try simp only [Act.put, List.setIfInBounds_toArray, List.set_cons_zero, List.set_cons_succ]
          refine wpAnyH_takeL (i := 19) (d := some 77) (v := .bool false) rfl rfl (by kernel_rfl) (by kernel_rfl) (by kernel_rfl) (fun _ _ _ h => h) (Or.inl ⟨by rfl, ?_⟩) hHeld ?_
          · intro w hSw; (try dsimp only at hSw); go_simp
          try simp only [Act.put, List.setIfInBounds_toArray, List.set_cons_zero, List.set_cons_succ]
          refine wpAnyH_takeL (i := 20) (d := some 78) (v := .bool false) rfl rfl (by kernel_rfl) (by kernel_rfl) (by kernel_rfl) (fun _ _ _ h => h) (Or.inl ⟨by rfl, ?_⟩) hHeld ?_
          · intro w hSw; (try dsimp only at hSw); go_simp
          try simp only [Act.put, List.setIfInBounds_toArray, List.set_cons_zero, List.set_cons_succ]
          refine wpAnyH_takeL (i := 21) (d := some 79) (v := .pointer (some ⟨b, 0, none⟩)) rfl rfl (by kernel_rfl) (by kernel_rfl) (by kernel_rfl) (fun _ _ _ h => h) (Or.inl ⟨by rfl, ?_⟩) hHeld ?_
          · intro w hSw; (try dsimp only at hSw); go_simp
          try simp only [Act.put, List.setIfInBounds_toArray, List.set_cons_zero, List.set_cons_succ]
          refine wpAnyH_takeL (i := 22) (d := some 80) (v := .agg (yA ⟨A5, qn, qc, A6, rn, rc5⟩)) rfl rfl (by kernel_rfl) (by kernel_rfl) (by kernel_rfl) (fun _ _ _ h => h) (Or.inl ⟨by rfl, ?_⟩) hHeld ?_
          · intro w hSw; exact yl_whole 28 _ g3 rfl hSw.1 Try.underlying28 rfl Try.zCr
          try simp only [Act.put, List.setIfInBounds_toArray, List.set_cons_zero, List.set_cons_succ]
          refine wpAnyH_ready (rs := [23]) (by kernel_rfl) (by simp) ?_
          refine AllReadyH.cons rfl (fun K hK => ?_) AllReadyH.nil
          go_simp
          (with_reducible refine (SM _ r121_c.cr.cm r121_s5 r121_s6).mono ?_)
          rintro e u123 ⟨rfl, b123⟩
          have r124_m := le_on r121_m b123
          have r124_nx := le_on r121_nx b123
          have r124_d := le_on r121_d b123
          have r124_rl := (r121_rl).on b123
          have r124_s5 := (r121_s5).on b123
          have r124_s6 := (r121_s6).on b123
          have r124_c := r121_c.on b123
          have l124 := le_tr l121 b123
          clear r121_m r121_nx r121_d r121_rl r121_s5 r121_s6 r121_c l121
          clear b123
          go_wp2_with fail
          have y125 := Lib.hid (show (fun V : World => CB V g3 28 (yA ⟨A5, qn, qc, A6, rn, rc5⟩) ∧ rangeL w.heap.size V ga (ofa + k * 8) x) u123 from ⟨r124_m, r124_rl⟩)
          refine hK.out _ _ y125.out (fun hHeld => ?_)
          clear hK K y125
          try simp only [Act.put, List.setIfInBounds_toArray, List.set_cons_zero, List.set_cons_succ]
          refine wpAnyH_takeL (i := 24) (d := some 82) (v := .bool false) rfl rfl (by kernel_rfl) (by kernel_rfl) (by kernel_rfl) (fun _ _ _ h => h) (Or.inl ⟨by rfl, ?_⟩) hHeld ?_
          · intro w hSw; (try dsimp only at hSw); go_simp
          try simp only [Act.put, List.setIfInBounds_toArray, List.set_cons_zero, List.set_cons_succ]
          refine wpAnyH_takeL (i := 25) (d := some 83) (v := .bool false) rfl rfl (by kernel_rfl) (by kernel_rfl) (by kernel_rfl) (fun _ _ _ h => h) (Or.inl ⟨by rfl, ?_⟩) hHeld ?_
          · intro w hSw; (try dsimp only at hSw); go_simp
          try simp only [Act.put, List.setIfInBounds_toArray, List.set_cons_zero, List.set_cons_succ]
          refine wpAnyH_done (by kernel_rfl) ?_ _
          go_wp2_with fail
          go_roundw
          case rel => exact ⟨k + 1, _, C5, L5, A5, qn, qc, A6, rn, rc5, by omega, by omega, by go_num, r124_c, r124_m, no101_m, r124_s5, r124_s6, ok5, hlk2⟩
          case measure => simp [intOf]; omega
        · skip
          refine rd_alloc rfl 28 rfl (some 8) rfl (yA zeroC) zero_cr ?_
          refine ⟨fun V104 g104 n104 f104 => ?_⟩
          have ne104_m := f104.ne r103_m
          have no104_c := r103_c.fresh (Nat.le_of_eq f104.at_)
          have up104 : w.heap.size ≤ g104 := f104.up l103
          have bl104 := f104.bel
          clear f104
          have r105_m := le_on r103_m bl104
          have r105_rl := (r103_rl).on bl104
          have r105_xs := (r103_xs).on bl104
          have r105_ks := (r103_ks).on bl104
          have r105_c := r103_c.on bl104
          have l105 := le_tr l103 bl104
          clear r103_m r103_rl r103_xs r103_ks r103_c l103
          clear bl104
          have y106 := Lib.hid (show (fun V : World => CB V g3 28 (yA ⟨xa, xn, xc, la, ln, lc⟩) ∧ rangeL w.heap.size V ga (ofa + k * 8) x) V104 from ⟨r105_m, r105_rl⟩)
          refine hK.out _ _ y106.out (fun hHeld => ?_)
          clear hK K y106
          try simp only [Act.put, List.setIfInBounds_toArray, List.set_cons_zero, List.set_cons_succ]
          refine wpAnyH_ready (rs := [5]) (by kernel_rfl) (by simp) ?_
          refine AllReadyH.cons rfl (fun K hK => ?_) AllReadyH.nil
          go_simp
          (with_reducible refine (hDR _ r105_xs r105_ks).mono ?_)
          rintro e u107 ⟨A5, qn, qc, A6, rn, rc5, C5, rfl, s5, s6, ok5, fq5, b107⟩
          have r108_m := le_on r105_m b107
          have r108_nx := le_on n104 b107
          have r108_rl := (r105_rl).on b107
          have r108_xs := (r105_xs).on b107
          have r108_ks := (r105_ks).on b107
          have r108_c := r105_c.on b107
          have l108 := le_tr l105 b107
          clear r105_m n104 r105_rl r105_xs r105_ks r105_c l105
          clear b107
          subst fq5
          clear r108_xs r108_ks hDR hC
          go_wp2_with fail
          have y109 := Lib.hid (show (fun V : World => CB V g3 28 (yA ⟨xa, xn, xc, la, ln, lc⟩) ∧ rangeL w.heap.size V ga (ofa + k * 8) x) u107 from ⟨r108_m, r108_rl⟩)
          refine hK.out _ _ y109.out (fun hHeld => ?_)
          clear hK K y109
          try simp only [Act.put, List.setIfInBounds_toArray, List.set_cons_zero, List.set_cons_succ]
          refine wpAnyH_takeL (i := 6) (d := some 37) (v := .tuple #[.agg (yA ⟨A5, qn, qc, A6, rn, rc5⟩), .int .i64 (N : Int), .int .i64 (E : Int)]) rfl rfl (by kernel_rfl) (by kernel_rfl) (by kernel_rfl) (fun _ _ _ h => h) (Or.inl ⟨by rfl, ?_⟩) hHeld ?_
          · intro w hSw; (try dsimp only at hSw); go_simp
          try simp only [Act.put, List.setIfInBounds_toArray, List.set_cons_zero, List.set_cons_succ]
          refine wpAnyH_takeL (i := 7) (d := some 44) (v := .agg (yA ⟨A5, qn, qc, A6, rn, rc5⟩)) rfl rfl (by kernel_rfl) (by kernel_rfl) (by kernel_rfl) (fun _ _ _ h => h) (Or.inl ⟨by rfl, ?_⟩) hHeld ?_
          · intro w hSw; (try dsimp only at hSw); go_simp
          try simp only [Act.put, List.setIfInBounds_toArray, List.set_cons_zero, List.set_cons_succ]
          refine wpAnyH_takeL (i := 8) (d := some 45) (v := .int .i64 (N : Int)) rfl rfl (by kernel_rfl) (by kernel_rfl) (by kernel_rfl) (fun _ _ _ h => h) (Or.inl ⟨by rfl, ?_⟩) hHeld ?_
          · intro w hSw; (try dsimp only at hSw); go_simp
          try simp only [Act.put, List.setIfInBounds_toArray, List.set_cons_zero, List.set_cons_succ]
          refine wpAnyH_takeL (i := 9) (d := some 46) (v := .int .i64 (E : Int)) rfl rfl (by kernel_rfl) (by kernel_rfl) (by kernel_rfl) (fun _ _ _ h => h) (Or.inl ⟨by rfl, ?_⟩) hHeld ?_
          · intro w hSw; (try dsimp only at hSw); go_simp
          try simp only [Act.put, List.setIfInBounds_toArray, List.set_cons_zero, List.set_cons_succ]
          refine wpAnyH_ready (rs := [11]) (by kernel_rfl) (by simp) ?_
          refine AllReadyH.cons rfl (fun K hK => ?_) AllReadyH.nil
          refine rd_store rfl 28 _ _ rfl none rfl g104 (yA ⟨A5, qn, qc, A6, rn, rc5⟩) rfl rfl r108_nx Try.zCr rfl (yA_one _) ?_
          refine ⟨fun V110 n110 k110 => ?_⟩
          have m110_m := k110.on r108_m ne104_m
          have m110_rl := (r108_rl).wr k110 up104
          have m110_s5 := (s5).wr k110 r108_nx (by decide)
          have m110_s6 := (s6).wr k110 r108_nx (by decide)
          have m110_c := r108_c.wr k110 no104_c up104
          have o110 := k110.bel _ _ l108 up104
          clear k110
          clear r108_nx r108_m r108_rl s5 s6 r108_c l108
          have y111 := Lib.hid (show (fun V : World => CB V g3 28 (yA ⟨xa, xn, xc, la, ln, lc⟩) ∧ rangeL w.heap.size V ga (ofa + k * 8) x) V110 from ⟨m110_m, m110_rl⟩)
          refine hK.out _ _ y111.out (fun hHeld => ?_)
          clear hK K y111
          try simp only [Act.put, List.setIfInBounds_toArray, List.set_cons_zero, List.set_cons_succ]
          refine wpAnyH_takeL (i := 12) (d := some 9) (v := .int .i64 (N : Int)) rfl rfl (by kernel_rfl) (by kernel_rfl) (by kernel_rfl) (fun _ _ _ h => h) (Or.inl ⟨by rfl, ?_⟩) hHeld ?_
          · intro w hSw; (try dsimp only at hSw); go_simp
          try simp only [Act.put, List.setIfInBounds_toArray, List.set_cons_zero, List.set_cons_succ]
          refine wpAnyH_takeL (i := 13) (d := some 10) (v := .int .i64 (E : Int)) rfl rfl (by kernel_rfl) (by kernel_rfl) (by kernel_rfl) (fun _ _ _ h => h) (Or.inl ⟨by rfl, ?_⟩) hHeld ?_
          · intro w hSw; (try dsimp only at hSw); go_simp
          try simp only [Act.put, List.setIfInBounds_toArray, List.set_cons_zero, List.set_cons_succ]
          refine wpAnyH_done (by kernel_rfl) ?_ _
          go_wp2_with (first | (first | ((with_reducible refine st_load 28 _ g104 ?_ n110 Try.underlying28 ?_ ?_ ?_); exact rfl; exact rfl; exact Try.zCr) | ((with_reducible refine st_loadG 28 _ g104 ?_ n110 Try.underlying28 ?_ ?_ ?_ ?_); exact rfl; exact rfl; exact Try.zCr; exact rfl)) | ((with_reducible refine st_store 28 _ _ g3 (yA ⟨A5, qn, qc, A6, rn, rc5⟩) ?_ ?_ m110_m ?_ ?_ ?_ ?_); exact rfl; exact rfl; exact Try.zCr; exact rfl; exact yA_one _))
          refine ⟨fun V112 n112 k112 => ?_⟩
          have m112_nx := k112.on n110 (Ne.symm ne104_m)
          have m112_rl := (m110_rl).wr k112 up3
          have m112_s5 := (m110_s5).wr k112 m110_m (by decide)
          have m112_s6 := (m110_s6).wr k112 m110_m (by decide)
          have m112_c := m110_c.wr k112 no101_m up3
          have o112 := k112.bel _ _ o110 up3
          clear k112
          clear m110_m n110 m110_rl m110_s5 m110_s6 m110_c o110
          have ct : V112.cell? ⟨ga, ofa + k * 8 + 1, none⟩ = some (.int .i64 x.tx) := m112_rl.tx
          obtain ⟨d9, hd9⟩ : ∃ d, dGet (fnC C5) x.tx = d := ⟨_, rfl⟩
          obtain ⟨q, hq⟩ : ∃ q, (dOf (fnC C5) x.tx).isSome = q := ⟨_, rfl⟩
          obtain ⟨f, hf⟩ : ∃ f, findI C5 x.tx = f := ⟨_, rfl⟩
          have hfq : decide (f ≥ 0) = q := by rw [← hf, ← hq]; exact find_is ok5 x.tx
          have F1 := fun (W : World) (h : XD W A5 qn qc C5) => find_r A5 qn qc A6 rn rc5 C5 x.tx W h
          rw [hf] at F1
          have DC := deal_c b m G101 (fnC C5) L5 x.tx _ m112_c.cr.cm hxo.2
          rw [hd9, hq] at DC
          have hqq : (q != q) = false := by simp
          have hqq2 : (q == q) = true := by simp
          have SM := fun (W : World) (hm : CM W b m G101 (fnC C5) L5) (h : XD W A5 qn qc C5) (hk : KD W A6 rn rc5 L5) => same_c b m G101 A5 qn qc A6 rn rc5 C5 L5 W hm m112_c.cr.good.few h hk ok5 (by omega)
          clear hd9 hq hf
          go_wp2_with fail
          refine (DC).mono ?_
          rintro e w113 ⟨rfl, b113⟩
          clear ct
          have r114_m := le_on n112 b113
          have r114_nx := le_on m112_nx b113
          have r114_rl := (m112_rl).on b113
          have r114_s5 := (m112_s5).on b113
          have r114_s6 := (m112_s6).on b113
          have r114_c := m112_c.on b113
          have l114 := le_tr o112 b113
          clear n112 m112_nx m112_rl m112_s5 m112_s6 m112_c o112
          clear b113
          clear DC
          go_wp2_with (first | ((with_reducible refine st_alloc 44 (dA zeroD) ?_ ?_); exact zero_dl))
          refine ⟨fun V115 g115 n115 f115 => ?_⟩
          have ne115_m := f115.ne r114_m
          have ne115_nx := f115.ne r114_nx
          have no115_c := r114_c.fresh (Nat.le_of_eq f115.at_)
          have up115 : w.heap.size ≤ g115 := f115.up l114
          have bl115 := f115.bel
          clear f115
          have r116_m := le_on r114_m bl115
          have r116_nx := le_on r114_nx bl115
          have r116_rl := (r114_rl).on bl115
          have r116_s5 := (r114_s5).on bl115
          have r116_s6 := (r114_s6).on bl115
          have r116_c := r114_c.on bl115
          have l116 := le_tr l114 bl115
          clear r114_m r114_nx r114_rl r114_s5 r114_s6 r114_c l114
          clear bl115
          go_wp2_with (first | ((with_reducible refine st_store 44 _ _ g115 (dA d9) ?_ ?_ n115 ?_ ?_ ?_ ?_); exact rfl; exact rfl; exact Try.zDl; exact rfl; exact dA_one _))
          refine ⟨fun V117 n117 k117 => ?_⟩
          have m117_m := k117.on r116_m ne115_m
          have m117_nx := k117.on r116_nx ne115_nx
          have m117_rl := (r116_rl).wr k117 up115
          have m117_s5 := (r116_s5).wr k117 n115 (by decide)
          have m117_s6 := (r116_s6).wr k117 n115 (by decide)
          have m117_c := r116_c.wr k117 no115_c up115
          have o117 := k117.bel _ _ l116 up115
          clear k117
          clear n115 r116_m r116_nx r116_rl r116_s5 r116_s6 r116_c l116
          go_wp2_with fail
          have y118 := Lib.hid (show (fun V : World => CB V g3 28 (yA ⟨A5, qn, qc, A6, rn, rc5⟩) ∧ rangeL w.heap.size V ga (ofa + k * 8) x) V117.drew from ⟨CB.drew m117_m, (m117_rl).drew⟩)
          refine wp_region_held_drew (S := (fun V : World => CB V g3 28 (yA ⟨A5, qn, qc, A6, rn, rc5⟩) ∧ rangeL w.heap.size V ga (ofa + k * 8) x)) (by kernel_rfl) y118.out (fun hHeld => ?_)
          obtain ⟨D118, hD118⟩ : ∃ V, V117.drew = V := ⟨_, rfl⟩
          have b118 : Below V117.heap.size V117 D118 := by rw [← hD118]; exact le_dr (Below.refl _ _)
          rw [hD118] at hHeld ⊢
          clear hD118
          have r119_m := le_on m117_m b118
          have r119_nx := le_on m117_nx b118
          have r119_d := le_on n117 b118
          have r119_rl := (m117_rl).on b118
          have r119_s5 := (m117_s5).on b118
          have r119_s6 := (m117_s6).on b118
          have r119_c := m117_c.on b118
          have l119 := le_tr o117 b118
          clear m117_m m117_nx n117 m117_rl m117_s5 m117_s6 m117_c o117
          clear b118
          refine wpAnyH_takeL (i := 0) (d := some 58) (v := .int .i64 (N : Int)) rfl rfl (by kernel_rfl) (by kernel_rfl) (by kernel_rfl) (fun _ _ _ h => h) (Or.inl ⟨by rfl, ?_⟩) hHeld ?_
          · intro w hSw; (try dsimp only at hSw); go_simp
          try simp only [Act.put, List.setIfInBounds_toArray, List.set_cons_zero, List.set_cons_succ]
          refine wpAnyH_takeL (i := 1) (d := some 59) (v := .int .i64 (N : Int)) rfl rfl (by kernel_rfl) (by kernel_rfl) (by kernel_rfl) (fun _ _ _ h => h) (Or.inl ⟨by rfl, ?_⟩) hHeld ?_
          · intro w hSw; (try dsimp only at hSw); go_simp
          try simp only [Act.put, List.setIfInBounds_toArray, List.set_cons_zero, List.set_cons_succ]
          refine wpAnyH_takeL (i := 2) (d := some 60) (v := .bool false) rfl rfl (by kernel_rfl) (by kernel_rfl) (by kernel_rfl) (fun _ _ _ h => h) (Or.inl ⟨by rfl, ?_⟩) hHeld ?_
          · intro w hSw; (try dsimp only at hSw); go_simp
          try simp only [Act.put, List.setIfInBounds_toArray, List.set_cons_zero, List.set_cons_succ]
          refine wpAnyH_takeL (i := 3) (d := some 61) (v := .bool false) rfl rfl (by kernel_rfl) (by kernel_rfl) (by kernel_rfl) (fun _ _ _ h => h) (Or.inl ⟨by rfl, ?_⟩) hHeld ?_
          · intro w hSw; (try dsimp only at hSw); go_simp
          try simp only [Act.put, List.setIfInBounds_toArray, List.set_cons_zero, List.set_cons_succ]
          refine wpAnyH_takeL (i := 4) (d := some 62) (v := .int .i64 (E : Int)) rfl rfl (by kernel_rfl) (by kernel_rfl) (by kernel_rfl) (fun _ _ _ h => h) (Or.inl ⟨by rfl, ?_⟩) hHeld ?_
          · intro w hSw; (try dsimp only at hSw); go_simp
          try simp only [Act.put, List.setIfInBounds_toArray, List.set_cons_zero, List.set_cons_succ]
          refine wpAnyH_takeL (i := 5) (d := some 63) (v := .int .i64 (E : Int)) rfl rfl (by kernel_rfl) (by kernel_rfl) (by kernel_rfl) (fun _ _ _ h => h) (Or.inl ⟨by rfl, ?_⟩) hHeld ?_
          · intro w hSw; (try dsimp only at hSw); go_simp
          try simp only [Act.put, List.setIfInBounds_toArray, List.set_cons_zero, List.set_cons_succ]
          refine wpAnyH_takeL (i := 6) (d := some 64) (v := .bool false) rfl rfl (by kernel_rfl) (by kernel_rfl) (by kernel_rfl) (fun _ _ _ h => h) (Or.inl ⟨by rfl, ?_⟩) hHeld ?_
          · intro w hSw; (try dsimp only at hSw); go_simp
          try simp only [Act.put, List.setIfInBounds_toArray, List.set_cons_zero, List.set_cons_succ]
          refine wpAnyH_takeL (i := 7) (d := some 65) (v := .bool false) rfl rfl (by kernel_rfl) (by kernel_rfl) (by kernel_rfl) (fun _ _ _ h => h) (Or.inl ⟨by rfl, ?_⟩) hHeld ?_
          · intro w hSw; (try dsimp only at hSw); go_simp
          try simp only [Act.put, List.setIfInBounds_toArray, List.set_cons_zero, List.set_cons_succ]
          refine wpAnyH_takeL (i := 8) (d := some 66) (v := .bool false) rfl rfl (by kernel_rfl) (by kernel_rfl) (by kernel_rfl) (fun _ _ _ h => h) (Or.inl ⟨by rfl, ?_⟩) hHeld ?_
          · intro w hSw; (try dsimp only at hSw); go_simp
          try simp only [Act.put, List.setIfInBounds_toArray, List.set_cons_zero, List.set_cons_succ]
          refine wpAnyH_takeL (i := 9) (d := some 67) (v := .bool q) rfl rfl (by kernel_rfl) (by kernel_rfl) (by kernel_rfl) (fun _ _ _ h => h) (Or.inl ⟨by rfl, ?_⟩) hHeld ?_
          · intro w hSw; (try dsimp only at hSw); go_simp
          try simp only [Act.put, List.setIfInBounds_toArray, List.set_cons_zero, List.set_cons_succ]
          refine wpAnyH_takeL (i := 10) (d := some 68) (v := .agg (yA ⟨A5, qn, qc, A6, rn, rc5⟩)) rfl rfl (by kernel_rfl) (by kernel_rfl) (by kernel_rfl) (fun _ _ _ h => h) (Or.inl ⟨by rfl, ?_⟩) hHeld ?_
          · intro w hSw; exact yl_whole 28 _ g3 rfl hSw.1 Try.underlying28 rfl Try.zCr
          try simp only [Act.put, List.setIfInBounds_toArray, List.set_cons_zero, List.set_cons_succ]
          refine wpAnyH_takeL (i := 11) (d := some 69) (v := .slice (some ⟨ga, ofa, none⟩) n c) rfl rfl (by kernel_rfl) (by kernel_rfl) (by kernel_rfl) (fun _ _ _ h => h) (Or.inl ⟨by rfl, ?_⟩) hHeld ?_
          · intro w hSw; (try dsimp only at hSw); go_simp
          try simp only [Act.put, List.setIfInBounds_toArray, List.set_cons_zero, List.set_cons_succ]
          refine wpAnyH_takeL (i := 12) (d := some 70) (v := .int .i64 (k : Int)) rfl rfl (by kernel_rfl) (by kernel_rfl) (by kernel_rfl) (fun _ _ _ h => h) (Or.inl ⟨by rfl, ?_⟩) hHeld ?_
          · intro w hSw; (try dsimp only at hSw); go_simp
          try simp only [Act.put, List.setIfInBounds_toArray, List.set_cons_zero, List.set_cons_succ]
          refine wpAnyH_takeL (i := 13) (d := some 71) (v := .pointer (some ⟨ga, ofa + k * 8, none⟩)) rfl rfl (by kernel_rfl) (by kernel_rfl) (by kernel_rfl) (fun _ _ _ h => h) (Or.inl ⟨by rfl, ?_⟩) hHeld ?_
          · intro w hSw; (try dsimp only at hSw); go_simp
          try simp only [Act.put, List.setIfInBounds_toArray, List.set_cons_zero, List.set_cons_succ]
          refine wpAnyH_takeL (i := 14) (d := some 72) (v := .pointer (some ⟨ga, ofa + k * 8 + 1, none⟩)) rfl rfl (by kernel_rfl) (by kernel_rfl) (by kernel_rfl) (fun _ _ _ h => h) (Or.inl ⟨by rfl, ?_⟩) hHeld ?_
          · intro w hSw; (try dsimp only at hSw); go_simp
          try simp only [Act.put, List.setIfInBounds_toArray, List.set_cons_zero, List.set_cons_succ]
          refine wpAnyH_takeL (i := 15) (d := some 73) (v := .int .i64 x.tx) rfl rfl (by kernel_rfl) (by kernel_rfl) (by kernel_rfl) (fun _ _ _ h => h) (Or.inl ⟨by rfl, ?_⟩) hHeld ?_
          · intro w hSw; have hcc : w.cell? ⟨ga, ofa + k * 8 + 1, none⟩ = some (.int .i64 x.tx) := hSw.2.tx; go_simp
          try simp only [Act.put, List.setIfInBounds_toArray, List.set_cons_zero, List.set_cons_succ]
          refine wpAnyH_ready (rs := [16]) (by kernel_rfl) (by simp) ?_
          refine AllReadyH.cons rfl (fun K hK => ?_) AllReadyH.nil
          go_simp
          (with_reducible refine (F1 _ r119_s5).mono ?_)
          rintro e u120 ⟨rfl, b120⟩
          have r121_m := le_on r119_m b120
          have r121_nx := le_on r119_nx b120
          have r121_d := le_on r119_d b120
          have r121_rl := (r119_rl).on b120
          have r121_s5 := (r119_s5).on b120
          have r121_s6 := (r119_s6).on b120
          have r121_c := r119_c.on b120
          have l121 := le_tr l119 b120
          clear r119_m r119_nx r119_d r119_rl r119_s5 r119_s6 r119_c l119
          clear b120
          go_wp2_with fail
          have y122 := Lib.hid (show (fun V : World => CB V g3 28 (yA ⟨A5, qn, qc, A6, rn, rc5⟩) ∧ rangeL w.heap.size V ga (ofa + k * 8) x) u120 from ⟨r121_m, r121_rl⟩)
          refine hK.out _ _ y122.out (fun hHeld => ?_)
          clear hK K y122
          try simp only [Act.put, List.setIfInBounds_toArray, List.set_cons_zero, List.set_cons_succ]
          refine wpAnyH_takeL (i := 17) (d := some 75) (v := .bool q) rfl rfl (by kernel_rfl) (by kernel_rfl) (by kernel_rfl) (fun _ _ _ h => h) (Or.inl ⟨by rfl, ?_⟩) hHeld ?_
          · intro w hSw; (try dsimp only at hSw); go_simp
          try simp only [Act.put, List.setIfInBounds_toArray, List.set_cons_zero, List.set_cons_succ]
          refine wpAnyH_takeL (i := 18) (d := some 76) (v := .bool false) rfl rfl (by kernel_rfl) (by kernel_rfl) (by kernel_rfl) (fun _ _ _ h => h) (Or.inl ⟨by rfl, ?_⟩) hHeld ?_
          · intro w hSw; (try dsimp only at hSw); go_simp
          try simp only [Act.put, List.setIfInBounds_toArray, List.set_cons_zero, List.set_cons_succ]
          refine wpAnyH_takeL (i := 19) (d := some 77) (v := .bool false) rfl rfl (by kernel_rfl) (by kernel_rfl) (by kernel_rfl) (fun _ _ _ h => h) (Or.inl ⟨by rfl, ?_⟩) hHeld ?_
          · intro w hSw; (try dsimp only at hSw); go_simp
          try simp only [Act.put, List.setIfInBounds_toArray, List.set_cons_zero, List.set_cons_succ]
          refine wpAnyH_takeL (i := 20) (d := some 78) (v := .bool false) rfl rfl (by kernel_rfl) (by kernel_rfl) (by kernel_rfl) (fun _ _ _ h => h) (Or.inl ⟨by rfl, ?_⟩) hHeld ?_
          · intro w hSw; (try dsimp only at hSw); go_simp
          try simp only [Act.put, List.setIfInBounds_toArray, List.set_cons_zero, List.set_cons_succ]
          refine wpAnyH_takeL (i := 21) (d := some 79) (v := .pointer (some ⟨b, 0, none⟩)) rfl rfl (by kernel_rfl) (by kernel_rfl) (by kernel_rfl) (fun _ _ _ h => h) (Or.inl ⟨by rfl, ?_⟩) hHeld ?_
          · intro w hSw; (try dsimp only at hSw); go_simp
          try simp only [Act.put, List.setIfInBounds_toArray, List.set_cons_zero, List.set_cons_succ]
          refine wpAnyH_takeL (i := 22) (d := some 80) (v := .agg (yA ⟨A5, qn, qc, A6, rn, rc5⟩)) rfl rfl (by kernel_rfl) (by kernel_rfl) (by kernel_rfl) (fun _ _ _ h => h) (Or.inl ⟨by rfl, ?_⟩) hHeld ?_
          · intro w hSw; exact yl_whole 28 _ g3 rfl hSw.1 Try.underlying28 rfl Try.zCr
          try simp only [Act.put, List.setIfInBounds_toArray, List.set_cons_zero, List.set_cons_succ]
          refine wpAnyH_ready (rs := [23]) (by kernel_rfl) (by simp) ?_
          refine AllReadyH.cons rfl (fun K hK => ?_) AllReadyH.nil
          go_simp
          (with_reducible refine (SM _ r121_c.cr.cm r121_s5 r121_s6).mono ?_)
          rintro e u123 ⟨rfl, b123⟩
          have r124_m := le_on r121_m b123
          have r124_nx := le_on r121_nx b123
          have r124_d := le_on r121_d b123
          have r124_rl := (r121_rl).on b123
          have r124_s5 := (r121_s5).on b123
          have r124_s6 := (r121_s6).on b123
          have r124_c := r121_c.on b123
          have l124 := le_tr l121 b123
          clear r121_m r121_nx r121_d r121_rl r121_s5 r121_s6 r121_c l121
          clear b123
          go_wp2_with fail
          have y125 := Lib.hid (show (fun V : World => CB V g3 28 (yA ⟨A5, qn, qc, A6, rn, rc5⟩) ∧ rangeL w.heap.size V ga (ofa + k * 8) x) u123 from ⟨r124_m, r124_rl⟩)
          refine hK.out _ _ y125.out (fun hHeld => ?_)
          clear hK K y125
          try simp only [Act.put, List.setIfInBounds_toArray, List.set_cons_zero, List.set_cons_succ]
          refine wpAnyH_takeL (i := 24) (d := some 82) (v := .bool false) rfl rfl (by kernel_rfl) (by kernel_rfl) (by kernel_rfl) (fun _ _ _ h => h) (Or.inl ⟨by rfl, ?_⟩) hHeld ?_
          · intro w hSw; (try dsimp only at hSw); go_simp
          try simp only [Act.put, List.setIfInBounds_toArray, List.set_cons_zero, List.set_cons_succ]
          refine wpAnyH_takeL (i := 25) (d := some 83) (v := .bool false) rfl rfl (by kernel_rfl) (by kernel_rfl) (by kernel_rfl) (fun _ _ _ h => h) (Or.inl ⟨by rfl, ?_⟩) hHeld ?_
          · intro w hSw; (try dsimp only at hSw); go_simp
          try simp only [Act.put, List.setIfInBounds_toArray, List.set_cons_zero, List.set_cons_succ]
          refine wpAnyH_done (by kernel_rfl) ?_ _
          go_wp2_with fail
          go_roundw
          case rel => exact ⟨k + 1, _, C5, L5, A5, qn, qc, A6, rn, rc5, by omega, by omega, by go_num, r124_c, r124_m, no101_m, r124_s5, r124_s6, ok5, hlk2⟩
          case measure => simp [intOf]; omega
      have l3 : decide ((k : Int) < 120) = false := by simp; omega
      clear hno hxs hks hC hll hm
      go_wp2_with fail
      go_ret
      exact ⟨rfl, l9⟩
    · have l1 : decide ((k : Int) < n) = false := by simp; omega
      clear hno hxs hks hC hll hm
      go_wp2_with fail
      go_ret
      exact ⟨rfl, l9⟩
end Go.Proofs.Ytjfmahceolhfnaa
