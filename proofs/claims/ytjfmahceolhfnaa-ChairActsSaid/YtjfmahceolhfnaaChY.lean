/-
  ChairTicks, the walk. Conditions: the records can be read and may be.
-/
import Derived.Test.YtjfmahceolhfnaaChX
set_option linter.unusedVariables false
set_option linter.unusedSimpArgs false
namespace Go.Proofs.Ytjfmahceolhfnaa
open Go.RowKit Go.Maps

/-- A map of deals that the walk has made. -/
structure MB (B0 : Nat) (W : World) (m2 : Nat) (B : DM) : Prop where
  md : MD W m2 B
  hi : B0 ≤ m2
section
variable {B0 : Nat} {W V : World} {m2 : Nat} {B : DM}
theorem MB.on (h : MB B0 W m2 B) (hb : Below W.heap.size W V) : MB B0 V m2 B := ⟨h.md.on hb, h.hi⟩
theorem MB.wr (h : MB B0 W m2 B) {g : Nat} (k : Wr W V g) {t : TypeId} {cs : Array Value} (hc : CB W g t cs) : MB B0 V m2 B := ⟨h.md.wr k hc, h.hi⟩
theorem MB.out (h : MB B0 W m2 B) {S : Nat → Prop} (ou : Out W V S) (hn : ¬ S m2) : MB B0 V m2 B := ⟨h.md.same (ou.block m2 h.md.lt hn), h.hi⟩
end
/-- A record of an argument. -/
structure rangeL (B0 : Nat) (W : World) (g o : Nat) (x : Rd) : Prop where
  out : W.rangeAt g o (kcl x)
  lo : g < B0
section
variable {B0 : Nat} {W V : World} {g o : Nat} {x : Rd}
theorem rangeL.keep (h : rangeL B0 W g o x) (e : V.heap[g]? = W.heap[g]?) : rangeL B0 V g o x := ⟨fun i v hv => (World.cell?_of_block (a := ⟨g, o + i, none⟩) e).trans (h.out i v hv), h.lo⟩
theorem rangeL.on (h : rangeL B0 W g o x) (hb : Below W.heap.size W V) : rangeL B0 V g o x := h.keep (hb.block g (World.block_lt_of_cell? W _ (h.out 0 _ rfl)))
theorem rangeL.wr (h : rangeL B0 W g o x) {g' : Nat} (k : Wr W V g') (hg : B0 ≤ g') : rangeL B0 V g o x := h.keep (k.far g (by have := h.lo; omega))
theorem rangeL.mt (h : rangeL B0 W g o x) {m2 : Nat} (k : Mt W V m2) (hm : B0 ≤ m2) : rangeL B0 V g o x := h.keep (k.far g (by have := h.lo; omega))
theorem rangeL.out_ (h : rangeL B0 W g o x) {S : Nat → Prop} (ou : Out W V S) (hS : ∀ i, S i → B0 ≤ i) : rangeL B0 V g o x := h.keep (ou.block g (World.block_lt_of_cell? W _ (h.out 0 _ rfl)) (fun e => by have := hS g e; have := h.lo; omega))
theorem rangeL.drew (h : rangeL B0 W g o x) : rangeL B0 W.drew g o x := ⟨h.out, h.lo⟩
theorem rangeL.tx (h : rangeL B0 W g o x) : W.cell? ⟨g, o + 1, none⟩ = some (.int .i64 x.tx) := h.out 1 _ rfl
end
theorem ST.mt {B : Nat} {w W V : World} {b m : Nat} {G : Option Nat} {D : DM} {log : List Rd} (h : ST B w W b m G D log) {m2 : Nat} (k : Mt W V m2) (hn : ¬ Own b m G m2) (hB : B ≤ m2) : ST B w V b m G D log :=
  ⟨⟨h.cr.cm.keep fun i hi => k.far i (fun e => hn (e ▸ hi)), h.cr.good, h.cr.lo⟩, h.hi, k.bel _ _ h.low hB⟩
theorem ST.turn {B : Nat} {w W V : World} {b m : Nat} {G : Option Nat} {D : DM} {log : List Rd} (h : ST B w W b m G D log) {r : Nat} (k : W.grownBy V (some r)) (hn : ¬ Own b m G r) (hB : B ≤ r) : ST B w V b m G D log :=
  ⟨⟨h.cr.cm.keep fun i hi => k.block i (h.cr.cm.own_lt hi) (fun e => by cases e; exact hn hi), h.cr.good, h.cr.lo⟩, h.hi, h.low.grown k h.le (fun j e => by cases e; exact hB)⟩
theorem run_mk (w : World) : (Instr.makeMap 63 none).run Try.prog w = .ok (.map (some w.heap.size)) (w.alloc (.map #[] 0)) := run_makeMap _ w
/-- The deals of the transactions that some records name. -/
def bfD (D : DM) (L : List Rd) (k : Nat) : DM := fun t => if (L.take k).any (fun r => r.tx == (t : Int)) then D t else none
theorem bfD_0 (D : DM) (L : List Rd) : bfD D L 0 = fun _ => none := by funext t; simp [bfD]
theorem bfD_few {D : DM} (h : Few D) (L : List Rd) (k : Nat) : Few (bfD D L k) := fun t d hd => by
  unfold bfD at hd
  split at hd
  · exact h t d hd
  · cases hd
theorem bfD_no {D : DM} {L : List Rd} {k : Nat} {x : Rd} (hx : L[k]? = some x) (h : dOf D x.tx = none) : bfD D L (k + 1) = bfD D L k := by
  funext t
  unfold bfD
  rw [takeR hx, List.any_append]
  by_cases e : x.tx = (t : Int)
  · have : D t = none := by have h1 := dOf_nat D t; rw [← h1, ← e]; exact h
    rw [this]
    split <;> split <;> rfl
  · simp [e]
theorem bfD_yes {D : DM} {L : List Rd} {k : Nat} {x : Rd} {d : Dl} (hf : Few D) (hx : L[k]? = some x) (h : dOf D x.tx = some d) : ∃ t : Nat, x.tx = (t : Int) ∧ t < 1000 ∧ bfD D L (k + 1) = updD (bfD D L k) t d := by
  unfold dOf at h
  split at h
  · rename_i h0
    refine ⟨x.tx.toNat, by omega, hf _ _ h, ?_⟩
    funext u
    unfold bfD updD
    rw [takeR hx, List.any_append]
    by_cases e : u = x.tx.toNat
    · subst e
      rw [if_pos rfl]
      have : x.tx = ((x.tx.toNat : Nat) : Int) := by omega
      simp [← this, h]
    · rw [if_neg e]
      have : ¬ x.tx = (u : Int) := by omega
      simp [this]
  · cases h
/-- All transactions of a chair are named by its calls. -/
theorem pl_dom : ∀ (l : List Rd) (t : Nat) (d : Dl), plD l t = some d → (l.any fun r => r.tx == (t : Int)) = true := by
  intro l
  generalize hn : l.length = n
  induction n generalizing l with
  | zero =>
    intro t d h
    obtain rfl := List.eq_nil_of_length_eq_zero hn
    cases h
  | succ n ih =>
    intro t d h
    obtain ⟨l0, r, rfl⟩ : ∃ l0 r, l = l0 ++ [r] := by
      rcases List.eq_nil_or_concat l with h0 | ⟨L, b, h0⟩
      · subst h0; simp at hn
      · exact ⟨L, b, by simpa using h0⟩
    have ih := ih l0 (by simpa using hn) t
    rw [plD_snoc] at h
    rw [List.any_append]
    by_cases e : r.tx = (t : Int)
    · simp [e]
    · have hD : ∃ d0, plD l0 t = some d0 := by
        by_cases h4 : r.kind = 4
        · by_cases he : eDoC (plD l0) r = 0
          · rw [sDoC_z he, stC_t h4] at h
            unfold tickD at h
            cases h0 : plD l0 t with
            | none => rw [h0] at h; cases h
            | some d0 => exact ⟨d0, rfl⟩
          · rw [sDoC_n he] at h; exact ⟨d, h⟩
        · rw [do_apart h4 e] at h; exact ⟨d, h⟩
      obtain ⟨d0, h0⟩ := hD
      rw [ih d0 h0]
      rfl
theorem bfD_all {L : List Rd} {k : Nat} (hk : L.take k = L.take 120) : bfD (plD (L.take 120)) L k = plD (L.take 120) := by
  funext t
  unfold bfD
  rw [hk]
  split
  · rfl
  · rename_i h
    cases hd : plD (L.take 120) t with
    | none => rfl
    | some d => exact absurd (pl_dom _ t d hd) h
theorem tick_at (D : DM) (x : Int) {t : Nat} {d : Dl} (h : D t = some d) : dOf (tickD D x) (t : Int) = some (dTick x d) := by rw [dOf_nat]; unfold tickD; rw [h]; rfl
theorem reads_at {Dt : DataW Value} {D : DM} (hRd : Reads Dt D) {x : Int} {c : Value} {yd : DataW Value} {yp : List MemPlace} (hat : ∀ zd, Dt.atKey (.int .i64 x) zd = yd) (hv : RV c = some (yd, yp)) : ∃ (t : Nat) (d : Dl), x = (t : Int) ∧ D t = some d ∧ c = .agg (dA d) := by
  obtain ⟨r1, r2⟩ := hRd x
  have hhas : has Dt (.int .i64 x) = true := has_true_of_atKey hat
  rw [r1] at hhas
  unfold fnV at hhas r2
  by_cases h0 : 0 ≤ x
  · rw [if_pos h0] at hhas r2
    cases hd : D x.toNat with
    | none => rw [hd] at hhas; cases hhas
    | some d =>
      rw [hd] at r2
      have e1 := r2 _ rfl (.held c)
      rw [hat] at e1
      unfold RV at hv
      cases hv
      cases e1
      exact ⟨x.toNat, d, by omega, hd, rfl⟩
  · rw [if_neg h0] at hhas; cases hhas
set_option maxRecDepth 100000 in
set_option maxHeartbeats 4000000 in
theorem ticks_walk (A : Option Addr) (n c : Nat) (L : List Rd) (now : Nat) (w : World) (h : RR w kcl 8 A n c L) (hok : OkL L) (hnow : now < 256) : Calls Try.prog 8 #[.slice A n c, .int .u8 (now : Int)] w fun zz w' => zz = .returned (.bool true) ∧ Below w.heap.size w w' := by
  have hpl : (plL (L.take 120)).length ≤ 120 := Nat.le_trans (plL_len _) (by rw [List.length_take]; exact Nat.min_le_left _ _)
  have hlen := Lib.hid h.len
  have hmx : n ≤ maxLen := Nat.le_trans h.cap h.max
  simp only [maxLen] at hmx
  go_enter Try.func8, Try.ntmps8
  go_wp2_with fail
  refine (alive_c _).mono ?_
  rintro e w1 ⟨rfl, b1⟩
  have l2 := le_tr (Below.refl _ _) b1
  clear b1
  go_wp2_with fail
  (with_reducible refine (played_c A n c L _ (h.on l2) hok).mono ?_)
  rintro e w3 ⟨bc, mc, G3, rfl, sp3⟩
  have sd3 := sp3.down l2
  have bl3 := sp3.low
  clear sp3
  have l4 := le_tr l2 bl3
  clear l2
  clear bl3
  have hall := fun k (hk : L.take k = L.take 120) => bfD_all hk
  generalize (plD (L.take 120)) = D at *
  generalize (plL (L.take 120)) = K at *
  have hmk := run_mk w3
  obtain ⟨V5, hV5⟩ : ∃ V, w3.alloc (.map #[] 0) = V := ⟨_, rfl⟩
  obtain ⟨m2, hm2⟩ : ∃ m2, w3.heap.size = m2 := ⟨_, rfl⟩
  have mb0 : MB w.heap.size V5 m2 (fun _ => none) := ⟨by rw [← hV5, ← hm2]; exact MD.made _, by rw [← hm2]; exact l4.size⟩
  have no2 := sd3.fresh (Nat.le_of_eq hm2)
  have bl5 : Below w3.heap.size w3 V5 := by rw [← hV5]; exact le_al _ _
  rw [hm2, hV5] at hmk
  clear hm2 hV5
  go_wp2_with fail
  clear hmk
  have r5_c := sd3.on bl5
  have l5 := le_tr l4 bl5
  clear sd3 l4
  clear bl5
  rw [← bfD_0 D L] at mb0
  have hfew := r5_c.cr.good.few
  go_loopw [7] (fun iv wr => ∃ k : Nat, k ≤ n ∧ k ≤ 120 ∧ iv = .int .i64 k ∧ ST w.heap.size w wr bc mc G3 D K ∧ MB w.heap.size wr m2 (bfD D L k)) (fun iv _ => n - (intOf iv).toNat)
  case atStart => exact ⟨0, by omega, by omega, rfl, r5_c, mb0⟩
  case round =>
    clear r5_c mb0 l5
    obtain ⟨k, hk, hk2, rfl, hst, hmb⟩ := hrel
    have hmbl := hmb.md.lt
    by_cases hlt : k < n
    · have l1 : decide ((k : Int) < n) = true := by simp; omega
      have l1' : (k : Int) < n := by omega
      have l2 : (0 : Int) ≤ (k : Int) := by omega
      by_cases hl2 : k < 120
      · have l3 : decide ((k : Int) < 120) = true := by simp; omega
        clear hmbl
        obtain ⟨ga, ofa, x, hx, rfl, hr⟩ := (h.on hst.low).elem hlt
        have hga : ga < w.heap.size := h.lt rfl (by omega)
        have hti := hok.wf hx
        have rl : rangeL w.heap.size wr ga (ofa + k * 8) x := ⟨hr, hga⟩
        clear hr
        have htx := rl.tx
        have l9 := hst.low
        cases hd : dOf D x.tx with
        | none =>
          have E1 := Lib.hid (show dGet D x.tx = zeroD by unfold dGet; rw [hd]; rfl)
          have E2 := Lib.hid (show (dOf D x.tx).isSome = false by rw [hd]; rfl)
          have hB := Lib.hid (bfD_no hx hd)
          clear hd hx
          have DC101 := deal_c bc mc G3 D K x.tx _ hst.cr.cm hti
          rw [E1.out, E2.out] at DC101
          go_wp2_with fail
          refine (DC101).mono ?_
          rintro e w102 ⟨rfl, b102⟩
          clear htx
          have r103_mb := (hmb).on b102
          have r103_rl := (rl).on b102
          have r103_c := hst.on b102
          have l103 := le_tr l9 b102
          clear hmb rl hst l9
          clear b102
          clear DC101
          go_wp2_with (first | ((with_reducible refine st_alloc 44 (dA zeroD) ?_ ?_); exact zero_dl))
          refine ⟨fun V104 g104 n104 f104 => ?_⟩
          have no104_c := r103_c.fresh (Nat.le_of_eq f104.at_)
          have up104 : w.heap.size ≤ g104 := f104.up l103
          have bl104 := f104.bel
          clear f104
          have r105_mb := (r103_mb).on bl104
          have r105_rl := (r103_rl).on bl104
          have r105_c := r103_c.on bl104
          have l105 := le_tr l103 bl104
          clear r103_mb r103_rl r103_c l103
          clear bl104
          go_wp2_with (first | ((with_reducible refine st_store 44 _ _ g104 (dA zeroD) ?_ ?_ n104 ?_ ?_ ?_ ?_); exact rfl; exact rfl; exact Try.zDl; exact rfl; exact dA_one _))
          refine ⟨fun V106 n106 k106 => ?_⟩
          have m106_mb := (r105_mb).wr k106 n104
          have m106_rl := (r105_rl).wr k106 up104
          have m106_c := r105_c.wr k106 no104_c up104
          have o106 := k106.bel _ _ l105 up104
          clear k106
          clear n104 r105_mb r105_rl r105_c l105
          have mb9 := m106_mb
          rw [← hB.out] at mb9
          go_wp2_with fail
          go_roundw
          case rel => exact ⟨k + 1, by omega, by omega, by go_num, m106_c, mb9⟩
          case measure => simp [intOf]; omega
        | some d =>
          have E1 := Lib.hid (show dGet D x.tx = d by unfold dGet; rw [hd]; rfl)
          have E2 := Lib.hid (show (dOf D x.tx).isSome = true by rw [hd]; rfl)
          obtain ⟨t, ht, ht3, hB⟩ := bfD_yes hfew hx hd
          have hB := Lib.hid hB
          have Ht := Lib.hid ht
          have hfb := bfD_few hfew L k
          clear hd hx ht
          have DC101 := deal_c bc mc G3 D K x.tx _ hst.cr.cm hti
          rw [E1.out, E2.out] at DC101
          go_wp2_with fail
          refine (DC101).mono ?_
          rintro e w102 ⟨rfl, b102⟩
          clear htx
          have r103_mb := (hmb).on b102
          have r103_rl := (rl).on b102
          have r103_c := hst.on b102
          have l103 := le_tr l9 b102
          clear hmb rl hst l9
          clear b102
          clear DC101
          go_wp2_with (first | ((with_reducible refine st_alloc 44 (dA zeroD) ?_ ?_); exact zero_dl))
          refine ⟨fun V104 g104 n104 f104 => ?_⟩
          have no104_c := r103_c.fresh (Nat.le_of_eq f104.at_)
          have up104 : w.heap.size ≤ g104 := f104.up l103
          have bl104 := f104.bel
          clear f104
          have r105_mb := (r103_mb).on bl104
          have r105_rl := (r103_rl).on bl104
          have r105_c := r103_c.on bl104
          have l105 := le_tr l103 bl104
          clear r103_mb r103_rl r103_c l103
          clear bl104
          go_wp2_with (first | ((with_reducible refine st_store 44 _ _ g104 (dA d) ?_ ?_ n104 ?_ ?_ ?_ ?_); exact rfl; exact rfl; exact Try.zDl; exact rfl; exact dA_one _))
          refine ⟨fun V106 n106 k106 => ?_⟩
          have m106_mb := (r105_mb).wr k106 n104
          have m106_rl := (r105_rl).wr k106 up104
          have m106_c := r105_c.wr k106 no104_c up104
          have o106 := k106.bel _ _ l105 up104
          clear k106
          clear n104 r105_mb r105_rl r105_c l105
          go_wp2_with fail
          have y107 := Lib.hid (show (fun V : World => CB V g104 44 (dA d) ∧ rangeL w.heap.size V ga (ofa + k * 8) x) V106.drew from ⟨CB.drew n106, (m106_rl).drew⟩)
          refine wp_region_held_drew (S := (fun V : World => CB V g104 44 (dA d) ∧ rangeL w.heap.size V ga (ofa + k * 8) x)) (by kernel_rfl) y107.out (fun hHeld => ?_)
          obtain ⟨D107, hD107⟩ : ∃ V, V106.drew = V := ⟨_, rfl⟩
          have b107 : Below V106.heap.size V106 D107 := by rw [← hD107]; exact le_dr (Below.refl _ _)
          rw [hD107] at hHeld ⊢
          clear hD107
          have r108_d1 := le_on n106 b107
          have r108_mb := (m106_mb).on b107
          have r108_rl := (m106_rl).on b107
          have r108_c := m106_c.on b107
          have l108 := le_tr o106 b107
          clear n106 m106_mb m106_rl m106_c o106
          clear b107
          refine wpAnyH_takeL (i := 0) (d := some 46) (v := .map (some m2)) rfl rfl (by kernel_rfl) (by kernel_rfl) (by kernel_rfl) (fun _ _ _ h => h) (Or.inl ⟨by rfl, ?_⟩) hHeld ?_
          · intro w hSw; (try dsimp only at hSw); go_simp
          try simp only [Act.put, List.setIfInBounds_toArray, List.set_cons_zero, List.set_cons_succ]
          refine wpAnyH_takeL (i := 1) (d := some 47) (v := .slice (some ⟨ga, ofa, none⟩) n c) rfl rfl (by kernel_rfl) (by kernel_rfl) (by kernel_rfl) (fun _ _ _ h => h) (Or.inl ⟨by rfl, ?_⟩) hHeld ?_
          · intro w hSw; (try dsimp only at hSw); go_simp
          try simp only [Act.put, List.setIfInBounds_toArray, List.set_cons_zero, List.set_cons_succ]
          refine wpAnyH_takeL (i := 2) (d := some 48) (v := .int .i64 (k : Int)) rfl rfl (by kernel_rfl) (by kernel_rfl) (by kernel_rfl) (fun _ _ _ h => h) (Or.inl ⟨by rfl, ?_⟩) hHeld ?_
          · intro w hSw; (try dsimp only at hSw); go_simp
          try simp only [Act.put, List.setIfInBounds_toArray, List.set_cons_zero, List.set_cons_succ]
          refine wpAnyH_takeL (i := 3) (d := some 49) (v := .pointer (some ⟨ga, ofa + k * 8, none⟩)) rfl rfl (by kernel_rfl) (by kernel_rfl) (by kernel_rfl) (fun _ _ _ h => h) (Or.inl ⟨by rfl, ?_⟩) hHeld ?_
          · intro w hSw; (try dsimp only at hSw); go_simp
          try simp only [Act.put, List.setIfInBounds_toArray, List.set_cons_zero, List.set_cons_succ]
          refine wpAnyH_takeL (i := 4) (d := some 50) (v := .pointer (some ⟨ga, ofa + k * 8 + 1, none⟩)) rfl rfl (by kernel_rfl) (by kernel_rfl) (by kernel_rfl) (fun _ _ _ h => h) (Or.inl ⟨by rfl, ?_⟩) hHeld ?_
          · intro w hSw; (try dsimp only at hSw); go_simp
          try simp only [Act.put, List.setIfInBounds_toArray, List.set_cons_zero, List.set_cons_succ]
          refine wpAnyH_takeL (i := 5) (d := some 51) (v := .int .i64 x.tx) rfl rfl (by kernel_rfl) (by kernel_rfl) (by kernel_rfl) (fun _ _ _ h => h) (Or.inl ⟨by rfl, ?_⟩) hHeld ?_
          · intro w hSw; (have hcc := hSw.2.tx; go_simp)
          try simp only [Act.put, List.setIfInBounds_toArray, List.set_cons_zero, List.set_cons_succ]
          refine wpAnyH_takeL (i := 6) (d := some 52) (v := .agg (dA d)) rfl rfl (by kernel_rfl) (by kernel_rfl) (by kernel_rfl) (fun _ _ _ h => h) (Or.inl ⟨by rfl, ?_⟩) hHeld ?_
          · intro w hSw; exact yl_whole 44 _ g104 rfl hSw.1 Try.underlying44 rfl Try.zDl
          try simp only [Act.put, List.setIfInBounds_toArray, List.set_cons_zero, List.set_cons_succ]
          refine wpAnyH_ready (rs := [7]) (by kernel_rfl) (by simp) ?_
          refine AllReadyH.cons rfl (fun K hK => ?_) AllReadyH.nil
          obtain ⟨V7, q1, q2, q3⟩ := r108_mb.md.store hfb ht3 d
          have Q3 := Mt.of q3
          clear q3
          rw [← Ht.out] at q1
          refine rd_mapu rfl 63 _ _ _ rfl none rfl q1 ?_
          refine ⟨?_⟩
          clear q1
          have mb7 : MB w.heap.size V7 m2 _ := ⟨q2, r108_mb.hi⟩
          rw [← hB.out] at mb7
          have st7 := r108_c.mt Q3 no2 r108_mb.hi
          have d7 := Q3.on r108_d1 r108_mb.md
          have rl7 := r108_rl.mt Q3 r108_mb.hi
          have l7 := st7.low
          clear Q3 q2 r108_mb r108_c r108_d1 r108_rl l108
          have y109 := Lib.hid (show (fun V : World => CB V g104 44 (dA d) ∧ rangeL w.heap.size V ga (ofa + k * 8) x) V7 from ⟨d7, rl7⟩)
          refine hK.out _ _ y109.out (fun hHeld => ?_)
          clear hK K y109
          try simp only [Act.put, List.setIfInBounds_toArray, List.set_cons_zero, List.set_cons_succ]
          refine wpAnyH_done (by kernel_rfl) ?_ _
          go_wp2_with fail
          go_roundw
          case rel => exact ⟨k + 1, by omega, by omega, by go_num, st7, mb7⟩
          case measure => simp [intOf]; omega
      obtain rfl : k = 120 := by omega
      have l3 : decide (((120 : Nat) : Int) < 120) = false := by simp
      have e := hall 120 rfl
      have hmb := hmb
      rw [e] at hmb
      clear e hall hfew h hok
      obtain ⟨e3, e4, e5⟩ := tick_e D (now : Int)
      have hg := hst.cr.good
      have HG := Lib.hid hg
      clear hg
      have l9 := hst.low
      have hdo301 := do_c bc mc G3 D K (tickR (now : Int)) wr hst.cr (by show 0 < 256; omega) (by omega)
      go_wp2_with (first | ((with_reducible refine st_built2 33 0 5 _ _ (.int .i64 4) (.int .i64 (now : Int)) (rA (tickR (now : Int))) ?_ ?_ ?_ ?_); exact rfl; exact rfl; exact built_tick _))
      (with_reducible refine hdo301.mono ?_)
      intro e w301 hp301
      obtain ⟨rfl, G301, st301, ou301, nw301⟩ := hst.done hp301
      clear hp301 hdo301
      have q301_mb := (hmb).out ou301 no2
      have l301 := st301.low
      clear ou301 hst hmb l9
      rw [e5] at st301
      rw [e3, e4]
      generalize lDoC D K (tickR (now : Int)) = K2 at *
      clear e3 e4 e5
      have no3 := nw301 m2 hmbl no2
      clear nw301 no2 hmbl
      obtain ⟨Dt, hown, hRd⟩ := q301_mb.md
      have hmhi := q301_mb.hi
      have hC0 := Coll.start (p := fun d => isOO d (now : Int)) hRd
      have nor := st301.fresh (Nat.le_refl _)
      have hrl : w.heap.size ≤ w301.heap.size := l301.size
      go_wp2_with (at_range; refine wpList_range_own _ rfl _ 63 rfl 3 44 lawI Try.underlying63 _ m2 1000 _ rfl hown ?_; intro w0 hrg0 hg0 hs0; refine Stay.mk ?_)
      refine Stay.open_ ?_
      have k0 : Below w301.heap.size w301 w0 := grown_below hg0 (Nat.le_refl _) (fun g e => by cases e)
      have st0 := st301.on k0
      clear hg0 hs0 hown k0 st301 q301_mb l301
      go_wp2_with fail
      go_loopw [12] (fun cv wi => ∃ (ss : List Nat) (left : Lit → Bool) (cnt : Nat), cv = .int .i64 (ss.length : Int) ∧ Hid (Coll D (fun d => isOO d (now : Int)) left ss) ∧ wi.ranges Try.prog 3 RV m2 w301.heap.size 1000 Dt left cnt ∧ ST w.heap.size w wi bc mc G301 (tickD D (now : Int)) K2) (fun _ wi => wi.rangeLeft m2 w301.heap.size)
      case atStart => exact ⟨[], _, _, rfl, Lib.hid hC0, hrg0, st0⟩
      case round =>
        clear hrg0 st0 hC0
        obtain ⟨ss, left, cnt, rfl, HC, hrg, hst⟩ := hrel
        go_wp2_with (at_next; refine wpList_next_ranges _ rfl _ rfl 3 lawI RV (Value.int .i64) (fun v : Value => v) (fun key kl hk => by obtain ⟨x, hx, _⟩ := Maps.keyOf_int_inv Try.underlying3 hk; exact ⟨x, hx⟩) (fun v y hv => ⟨v, rfl⟩) m2 w301.heap.size 1000 _ _ _ rfl hrg ?_ ?_)
        · intro hc0 hl0
          have hp := (HC.out.perm HG.out.few hl0).length_eq
          have hc := over_len D (now : Int)
          unfold overF at hc
          rw [hc] at hp
          have l9 := hst.low
          rw [hp]
          clear HC hrg hl0 hc0 hc hp
          go_wp2_with fail
          go_ret
          exact ⟨rfl, l9⟩
        · intro x c kl yd yp w2 cnt2 hkey hlk hv hat hrg2 hlt hg2 hs2 hen
          obtain ⟨x', ex, rfl, hwx⟩ := Maps.keyOf_int_inv Try.underlying3 hkey
          obtain rfl : x = x' := by cases ex; rfl
          obtain ⟨t, d, rfl, hd, rfl⟩ := reads_at hRd hat hv
          have ht3 := HG.out.few t d hd
          have HC2 := Lib.hid (HC.out.step hd hlk)
          have Hle := Lib.hid hrg.left_eq
          have Hlt := Lib.hid hlt
          have hst2 := hst.turn hg2 nor hrl
          have hti : (Lit.int .i64 (t : Int)).wf = true := wfI (by omega)
          have E1 := Lib.hid (show dGet (tickD D (now : Int)) (t : Int) = dTick (now : Int) d by unfold dGet; rw [tick_at D _ hd]; rfl)
          have E2 := Lib.hid (show (dOf (tickD D (now : Int)) (t : Int)).isSome = true by rw [tick_at D _ hd]; rfl)
          have l9 := hst2.low
          have hlen2 := HC.out.len HG.out.few
          clear HC hst hrg hg2 hs2 hkey hlk hv hat ex hwx hd hlt
          go_wp2_with (first | ((with_reducible refine st_alloc 44 (dA zeroD) ?_ ?_); exact zero_dl))
          refine ⟨fun V501 g501 n501 f501 => ?_⟩
          clear hen
          have no501_c := hst2.fresh (Nat.le_of_eq f501.at_)
          have up501 : w.heap.size ≤ g501 := f501.up l9
          have bl501 := f501.bel
          clear f501
          have rg502 := rg_on hrg2 bl501
          have r503_c := hst2.on bl501
          have l503 := le_tr l9 bl501
          clear hst2 l9
          clear hrg2
          clear bl501
          go_wp2_with (first | ((with_reducible refine st_store 44 _ _ g501 (dA d) ?_ ?_ n501 ?_ ?_ ?_ ?_); exact rfl; exact rfl; exact Try.zDl; exact rfl; exact dA_one _))
          refine ⟨fun V504 n504 k504 => ?_⟩
          have m504_rg := rg_wr rg502 k504 n501
          have m504_c := r503_c.wr k504 no501_c up501
          have o504 := k504.bel _ _ l503 up501
          clear k504
          clear n501 rg502 r503_c l503
          have DC505 := deal_c bc mc G301 (tickD D (now : Int)) K2 (t : Int) _ m504_c.cr.cm hti
          rw [E1.out, E2.out] at DC505
          go_wp2_with fail
          refine (DC505).mono ?_
          rintro e w506 ⟨rfl, b506⟩
          have rg507 := rg_on m504_rg b506
          have r508_d := le_on n504 b506
          have r508_c := m504_c.on b506
          have l508 := le_tr o504 b506
          clear n504 m504_c o504
          clear m504_rg
          clear b506
          clear DC505
          go_wp2_with (first | ((with_reducible refine st_alloc 44 (dA zeroD) ?_ ?_); exact zero_dl))
          refine ⟨fun V509 g509 n509 f509 => ?_⟩
          have ne509_d := f509.ne r508_d
          have no509_c := r508_c.fresh (Nat.le_of_eq f509.at_)
          have up509 : w.heap.size ≤ g509 := f509.up l508
          have bl509 := f509.bel
          clear f509
          have rg510 := rg_on rg507 bl509
          have r511_d := le_on r508_d bl509
          have r511_c := r508_c.on bl509
          have l511 := le_tr l508 bl509
          clear r508_d r508_c l508
          clear rg507
          clear bl509
          go_wp2_with (first | ((with_reducible refine st_store 44 _ _ g509 (dA (dTick (now : Int) d)) ?_ ?_ n509 ?_ ?_ ?_ ?_); exact rfl; exact rfl; exact Try.zDl; exact rfl; exact dA_one _))
          refine ⟨fun V512 n512 k512 => ?_⟩
          have m512_d := k512.on r511_d ne509_d
          have m512_rg := rg_wr rg510 k512 n509
          have m512_c := r511_c.wr k512 no509_c up509
          have o512 := k512.bel _ _ l511 up509
          clear k512
          clear n509 r511_d rg510 r511_c l511
          have O1 := fun W => over_m d.tm (now : Int) W
          have heq := eqd_refl (dTick (now : Int) d)
          cases h0 : (d.out == 0) with
          | false =>
            have hoo : isOO d (now : Int) = false := by unfold isOO; rw [h0]; rfl
            have HC3 := Lib.hid (show Coll D (fun d => isOO d (now : Int)) _ ss by have := HC2.out; simp only [hoo] at this; exact this)
            have hT : dTick (now : Int) d = d := by unfold dTick; rw [if_neg (by simp [hoo])]
            rw [hT] at heq
            rw [hT] at n512
            clear hoo HC2 hT
            have xo : V512.cell? ⟨g501, 28, none⟩ = some (.int .i64 d.out) := CB.cell m512_d 28
            have h0 := h0
            go_wp2_with (first | (first | ((with_reducible refine st_load 44 _ g509 ?_ n512 Try.underlying44 ?_ ?_ ?_); exact rfl; exact rfl; exact Try.zDl) | ((with_reducible refine st_loadG 44 _ g509 ?_ n512 Try.underlying44 ?_ ?_ ?_ ?_); exact rfl; exact rfl; exact Try.zDl; exact rfl)) | (first | ((with_reducible refine st_load 44 _ g501 ?_ m512_d Try.underlying44 ?_ ?_ ?_); exact rfl; exact rfl; exact Try.zDl) | ((with_reducible refine st_loadG 44 _ g501 ?_ m512_d Try.underlying44 ?_ ?_ ?_ ?_); exact rfl; exact rfl; exact Try.zDl; exact rfl)))
            go_roundw
            case rel => exact ⟨ss, _, cnt2, by go_num, HC3, m512_rg, m512_c⟩
            case measure => rw [(m512_rg).left_eq, Hle.out]; exact Hlt.out
          | true =>
            cases ho : Te.overT d.tm (now : Int) with
            | false =>
              rw [ho] at O1
              have hoo : isOO d (now : Int) = false := by unfold isOO; rw [h0, ho]; rfl
              have HC3 := Lib.hid (show Coll D (fun d => isOO d (now : Int)) _ ss by have := HC2.out; simp only [hoo] at this; exact this)
              have hT : dTick (now : Int) d = d := by unfold dTick; rw [if_neg (by simp [hoo])]
              rw [hT] at heq
              rw [hT] at n512
              clear hoo HC2 hT ho
              have xo : V512.cell? ⟨g501, 28, none⟩ = some (.int .i64 d.out) := CB.cell m512_d 28
              go_wp2_with (first | (first | ((with_reducible refine st_part 42 _ g501 24 ?_ (pt := mA d.tm) m512_d ?_ Try.underlying42 ?_ ?_ ?_); exact rfl; exact dA_ptm _; exact rfl; exact Try.zTm) | ((with_reducible refine st_partG 42 _ g501 24 ?_ (pt := mA d.tm) m512_d ?_ Try.underlying42 ?_ ?_ ?_ ?_); exact rfl; exact dA_ptm _; exact rfl; exact Try.zTm; exact rfl)))
              refine (O1 _).mono ?_
              rintro e w513 ⟨rfl, b513⟩
              clear xo
              have rg514 := rg_on m512_rg b513
              have r515_d := le_on m512_d b513
              have r515_a := le_on n512 b513
              have r515_c := m512_c.on b513
              have l515 := le_tr o512 b513
              clear m512_d n512 m512_c o512
              clear m512_rg
              clear b513
              go_wp2_with (first | (first | ((with_reducible refine st_load 44 _ g509 ?_ r515_a Try.underlying44 ?_ ?_ ?_); exact rfl; exact rfl; exact Try.zDl) | ((with_reducible refine st_loadG 44 _ g509 ?_ r515_a Try.underlying44 ?_ ?_ ?_ ?_); exact rfl; exact rfl; exact Try.zDl; exact rfl)) | (first | ((with_reducible refine st_load 44 _ g501 ?_ r515_d Try.underlying44 ?_ ?_ ?_); exact rfl; exact rfl; exact Try.zDl) | ((with_reducible refine st_loadG 44 _ g501 ?_ r515_d Try.underlying44 ?_ ?_ ?_ ?_); exact rfl; exact rfl; exact Try.zDl; exact rfl)))
              go_roundw
              case rel => exact ⟨ss, _, cnt2, by go_num, HC3, rg514, r515_c⟩
              case measure => rw [(rg514).left_eq, Hle.out]; exact Hlt.out
            | true =>
              rw [ho] at O1
              have hoo : isOO d (now : Int) = true := by unfold isOO; rw [h0, ho]; rfl
              have HC3 := Lib.hid (show Coll D (fun d => isOO d (now : Int)) _ (ss ++ [t]) by have := HC2.out; simp only [hoo] at this; exact this)
              have hT : dTick (now : Int) d = Dl.mk d.ty d.tm 2 := by unfold dTick; rw [if_pos hoo]
              rw [hT] at heq
              rw [hT] at n512
              clear hoo HC2 hT ho
              have xo : V512.cell? ⟨g501, 28, none⟩ = some (.int .i64 d.out) := CB.cell m512_d 28
              go_wp2_with (first | (first | ((with_reducible refine st_part 42 _ g501 24 ?_ (pt := mA d.tm) m512_d ?_ Try.underlying42 ?_ ?_ ?_); exact rfl; exact dA_ptm _; exact rfl; exact Try.zTm) | ((with_reducible refine st_partG 42 _ g501 24 ?_ (pt := mA d.tm) m512_d ?_ Try.underlying42 ?_ ?_ ?_ ?_); exact rfl; exact dA_ptm _; exact rfl; exact Try.zTm; exact rfl)))
              refine (O1 _).mono ?_
              rintro e w513 ⟨rfl, b513⟩
              clear xo
              have rg514 := rg_on m512_rg b513
              have r515_d := le_on m512_d b513
              have r515_a := le_on n512 b513
              have r515_c := m512_c.on b513
              have l515 := le_tr o512 b513
              clear m512_d n512 m512_c o512
              clear m512_rg
              clear b513
              go_wp2_with (first | ((with_reducible refine st_cell 3 _ _ g501 28 (.int .i64 2) ?_ ?_ r515_d (new := dA (Dl.mk d.ty d.tm 2)) ?_ ?_ ?_ ?_ ?_ ?_); exact rfl; exact rfl; exact (by rw [dA_size]; decide); exact dA_out _ _; exact one_i; exact rfl; exact rfl))
              refine ⟨fun V516 n516 k516 => ?_⟩
              have m516_a := k516.on r515_a (Ne.symm ne509_d)
              have m516_rg := rg_wr rg514 k516 r515_d
              have m516_c := r515_c.wr k516 no501_c up501
              have o516 := k516.bel _ _ l515 up501
              clear k516
              clear r515_d r515_a rg514 r515_c l515
              go_wp2_with (first | (first | ((with_reducible refine st_load 44 _ g509 ?_ m516_a Try.underlying44 ?_ ?_ ?_); exact rfl; exact rfl; exact Try.zDl) | ((with_reducible refine st_loadG 44 _ g509 ?_ m516_a Try.underlying44 ?_ ?_ ?_ ?_); exact rfl; exact rfl; exact Try.zDl; exact rfl)) | (first | ((with_reducible refine st_load 44 _ g501 ?_ n516 Try.underlying44 ?_ ?_ ?_); exact rfl; exact rfl; exact Try.zDl) | ((with_reducible refine st_loadG 44 _ g501 ?_ n516 Try.underlying44 ?_ ?_ ?_ ?_); exact rfl; exact rfl; exact Try.zDl; exact rfl)))
              go_roundw
              case rel => exact ⟨(ss ++ [t]), _, cnt2, by simp, HC3, m516_rg, m516_c⟩
              case measure => rw [(m516_rg).left_eq, Hle.out]; exact Hlt.out
    have l1 : decide ((k : Int) < n) = false := by simp; omega
    have e := hall k (by rw [List.take_of_length_le (by rw [hlen.out]; omega), List.take_of_length_le (by rw [hlen.out]; omega)])
    have hmb := hmb
    rw [e] at hmb
    clear e hall hfew h hok
    obtain ⟨e3, e4, e5⟩ := tick_e D (now : Int)
    have hg := hst.cr.good
    have HG := Lib.hid hg
    clear hg
    have l9 := hst.low
    have hdo301 := do_c bc mc G3 D K (tickR (now : Int)) wr hst.cr (by show 0 < 256; omega) (by omega)
    go_wp2_with (first | ((with_reducible refine st_built2 33 0 5 _ _ (.int .i64 4) (.int .i64 (now : Int)) (rA (tickR (now : Int))) ?_ ?_ ?_ ?_); exact rfl; exact rfl; exact built_tick _))
    (with_reducible refine hdo301.mono ?_)
    intro e w301 hp301
    obtain ⟨rfl, G301, st301, ou301, nw301⟩ := hst.done hp301
    clear hp301 hdo301
    have q301_mb := (hmb).out ou301 no2
    have l301 := st301.low
    clear ou301 hst hmb l9
    rw [e5] at st301
    rw [e3, e4]
    generalize lDoC D K (tickR (now : Int)) = K2 at *
    clear e3 e4 e5
    have no3 := nw301 m2 hmbl no2
    clear nw301 no2 hmbl
    obtain ⟨Dt, hown, hRd⟩ := q301_mb.md
    have hmhi := q301_mb.hi
    have hC0 := Coll.start (p := fun d => isOO d (now : Int)) hRd
    have nor := st301.fresh (Nat.le_refl _)
    have hrl : w.heap.size ≤ w301.heap.size := l301.size
    go_wp2_with (at_range; refine wpList_range_own _ rfl _ 63 rfl 3 44 lawI Try.underlying63 _ m2 1000 _ rfl hown ?_; intro w0 hrg0 hg0 hs0; refine Stay.mk ?_)
    refine Stay.open_ ?_
    have k0 : Below w301.heap.size w301 w0 := grown_below hg0 (Nat.le_refl _) (fun g e => by cases e)
    have st0 := st301.on k0
    clear hg0 hs0 hown k0 st301 q301_mb l301
    go_wp2_with fail
    go_loopw [12] (fun cv wi => ∃ (ss : List Nat) (left : Lit → Bool) (cnt : Nat), cv = .int .i64 (ss.length : Int) ∧ Hid (Coll D (fun d => isOO d (now : Int)) left ss) ∧ wi.ranges Try.prog 3 RV m2 w301.heap.size 1000 Dt left cnt ∧ ST w.heap.size w wi bc mc G301 (tickD D (now : Int)) K2) (fun _ wi => wi.rangeLeft m2 w301.heap.size)
    case atStart => exact ⟨[], _, _, rfl, Lib.hid hC0, hrg0, st0⟩
    case round =>
      clear hrg0 st0 hC0
      obtain ⟨ss, left, cnt, rfl, HC, hrg, hst⟩ := hrel
      go_wp2_with (at_next; refine wpList_next_ranges _ rfl _ rfl 3 lawI RV (Value.int .i64) (fun v : Value => v) (fun key kl hk => by obtain ⟨x, hx, _⟩ := Maps.keyOf_int_inv Try.underlying3 hk; exact ⟨x, hx⟩) (fun v y hv => ⟨v, rfl⟩) m2 w301.heap.size 1000 _ _ _ rfl hrg ?_ ?_)
      · intro hc0 hl0
        have hp := (HC.out.perm HG.out.few hl0).length_eq
        have hc := over_len D (now : Int)
        unfold overF at hc
        rw [hc] at hp
        have l9 := hst.low
        rw [hp]
        clear HC hrg hl0 hc0 hc hp
        go_wp2_with fail
        go_ret
        exact ⟨rfl, l9⟩
      · intro x c kl yd yp w2 cnt2 hkey hlk hv hat hrg2 hlt hg2 hs2 hen
        obtain ⟨x', ex, rfl, hwx⟩ := Maps.keyOf_int_inv Try.underlying3 hkey
        obtain rfl : x = x' := by cases ex; rfl
        obtain ⟨t, d, rfl, hd, rfl⟩ := reads_at hRd hat hv
        have ht3 := HG.out.few t d hd
        have HC2 := Lib.hid (HC.out.step hd hlk)
        have Hle := Lib.hid hrg.left_eq
        have Hlt := Lib.hid hlt
        have hst2 := hst.turn hg2 nor hrl
        have hti : (Lit.int .i64 (t : Int)).wf = true := wfI (by omega)
        have E1 := Lib.hid (show dGet (tickD D (now : Int)) (t : Int) = dTick (now : Int) d by unfold dGet; rw [tick_at D _ hd]; rfl)
        have E2 := Lib.hid (show (dOf (tickD D (now : Int)) (t : Int)).isSome = true by rw [tick_at D _ hd]; rfl)
        have l9 := hst2.low
        have hlen2 := HC.out.len HG.out.few
        clear HC hst hrg hg2 hs2 hkey hlk hv hat ex hwx hd hlt
        go_wp2_with (first | ((with_reducible refine st_alloc 44 (dA zeroD) ?_ ?_); exact zero_dl))
        refine ⟨fun V501 g501 n501 f501 => ?_⟩
        clear hen
        have no501_c := hst2.fresh (Nat.le_of_eq f501.at_)
        have up501 : w.heap.size ≤ g501 := f501.up l9
        have bl501 := f501.bel
        clear f501
        have rg502 := rg_on hrg2 bl501
        have r503_c := hst2.on bl501
        have l503 := le_tr l9 bl501
        clear hst2 l9
        clear hrg2
        clear bl501
        go_wp2_with (first | ((with_reducible refine st_store 44 _ _ g501 (dA d) ?_ ?_ n501 ?_ ?_ ?_ ?_); exact rfl; exact rfl; exact Try.zDl; exact rfl; exact dA_one _))
        refine ⟨fun V504 n504 k504 => ?_⟩
        have m504_rg := rg_wr rg502 k504 n501
        have m504_c := r503_c.wr k504 no501_c up501
        have o504 := k504.bel _ _ l503 up501
        clear k504
        clear n501 rg502 r503_c l503
        have DC505 := deal_c bc mc G301 (tickD D (now : Int)) K2 (t : Int) _ m504_c.cr.cm hti
        rw [E1.out, E2.out] at DC505
        go_wp2_with fail
        refine (DC505).mono ?_
        rintro e w506 ⟨rfl, b506⟩
        have rg507 := rg_on m504_rg b506
        have r508_d := le_on n504 b506
        have r508_c := m504_c.on b506
        have l508 := le_tr o504 b506
        clear n504 m504_c o504
        clear m504_rg
        clear b506
        clear DC505
        go_wp2_with (first | ((with_reducible refine st_alloc 44 (dA zeroD) ?_ ?_); exact zero_dl))
        refine ⟨fun V509 g509 n509 f509 => ?_⟩
        have ne509_d := f509.ne r508_d
        have no509_c := r508_c.fresh (Nat.le_of_eq f509.at_)
        have up509 : w.heap.size ≤ g509 := f509.up l508
        have bl509 := f509.bel
        clear f509
        have rg510 := rg_on rg507 bl509
        have r511_d := le_on r508_d bl509
        have r511_c := r508_c.on bl509
        have l511 := le_tr l508 bl509
        clear r508_d r508_c l508
        clear rg507
        clear bl509
        go_wp2_with (first | ((with_reducible refine st_store 44 _ _ g509 (dA (dTick (now : Int) d)) ?_ ?_ n509 ?_ ?_ ?_ ?_); exact rfl; exact rfl; exact Try.zDl; exact rfl; exact dA_one _))
        refine ⟨fun V512 n512 k512 => ?_⟩
        have m512_d := k512.on r511_d ne509_d
        have m512_rg := rg_wr rg510 k512 n509
        have m512_c := r511_c.wr k512 no509_c up509
        have o512 := k512.bel _ _ l511 up509
        clear k512
        clear n509 r511_d rg510 r511_c l511
        have O1 := fun W => over_m d.tm (now : Int) W
        have heq := eqd_refl (dTick (now : Int) d)
        cases h0 : (d.out == 0) with
        | false =>
          have hoo : isOO d (now : Int) = false := by unfold isOO; rw [h0]; rfl
          have HC3 := Lib.hid (show Coll D (fun d => isOO d (now : Int)) _ ss by have := HC2.out; simp only [hoo] at this; exact this)
          have hT : dTick (now : Int) d = d := by unfold dTick; rw [if_neg (by simp [hoo])]
          rw [hT] at heq
          rw [hT] at n512
          clear hoo HC2 hT
          have xo : V512.cell? ⟨g501, 28, none⟩ = some (.int .i64 d.out) := CB.cell m512_d 28
          have h0 := h0
          go_wp2_with (first | (first | ((with_reducible refine st_load 44 _ g509 ?_ n512 Try.underlying44 ?_ ?_ ?_); exact rfl; exact rfl; exact Try.zDl) | ((with_reducible refine st_loadG 44 _ g509 ?_ n512 Try.underlying44 ?_ ?_ ?_ ?_); exact rfl; exact rfl; exact Try.zDl; exact rfl)) | (first | ((with_reducible refine st_load 44 _ g501 ?_ m512_d Try.underlying44 ?_ ?_ ?_); exact rfl; exact rfl; exact Try.zDl) | ((with_reducible refine st_loadG 44 _ g501 ?_ m512_d Try.underlying44 ?_ ?_ ?_ ?_); exact rfl; exact rfl; exact Try.zDl; exact rfl)))
          go_roundw
          case rel => exact ⟨ss, _, cnt2, by go_num, HC3, m512_rg, m512_c⟩
          case measure => rw [(m512_rg).left_eq, Hle.out]; exact Hlt.out
        | true =>
          cases ho : Te.overT d.tm (now : Int) with
          | false =>
            rw [ho] at O1
            have hoo : isOO d (now : Int) = false := by unfold isOO; rw [h0, ho]; rfl
            have HC3 := Lib.hid (show Coll D (fun d => isOO d (now : Int)) _ ss by have := HC2.out; simp only [hoo] at this; exact this)
            have hT : dTick (now : Int) d = d := by unfold dTick; rw [if_neg (by simp [hoo])]
            rw [hT] at heq
            rw [hT] at n512
            clear hoo HC2 hT ho
            have xo : V512.cell? ⟨g501, 28, none⟩ = some (.int .i64 d.out) := CB.cell m512_d 28
            go_wp2_with (first | (first | ((with_reducible refine st_part 42 _ g501 24 ?_ (pt := mA d.tm) m512_d ?_ Try.underlying42 ?_ ?_ ?_); exact rfl; exact dA_ptm _; exact rfl; exact Try.zTm) | ((with_reducible refine st_partG 42 _ g501 24 ?_ (pt := mA d.tm) m512_d ?_ Try.underlying42 ?_ ?_ ?_ ?_); exact rfl; exact dA_ptm _; exact rfl; exact Try.zTm; exact rfl)))
            refine (O1 _).mono ?_
            rintro e w513 ⟨rfl, b513⟩
            clear xo
            have rg514 := rg_on m512_rg b513
            have r515_d := le_on m512_d b513
            have r515_a := le_on n512 b513
            have r515_c := m512_c.on b513
            have l515 := le_tr o512 b513
            clear m512_d n512 m512_c o512
            clear m512_rg
            clear b513
            go_wp2_with (first | (first | ((with_reducible refine st_load 44 _ g509 ?_ r515_a Try.underlying44 ?_ ?_ ?_); exact rfl; exact rfl; exact Try.zDl) | ((with_reducible refine st_loadG 44 _ g509 ?_ r515_a Try.underlying44 ?_ ?_ ?_ ?_); exact rfl; exact rfl; exact Try.zDl; exact rfl)) | (first | ((with_reducible refine st_load 44 _ g501 ?_ r515_d Try.underlying44 ?_ ?_ ?_); exact rfl; exact rfl; exact Try.zDl) | ((with_reducible refine st_loadG 44 _ g501 ?_ r515_d Try.underlying44 ?_ ?_ ?_ ?_); exact rfl; exact rfl; exact Try.zDl; exact rfl)))
            go_roundw
            case rel => exact ⟨ss, _, cnt2, by go_num, HC3, rg514, r515_c⟩
            case measure => rw [(rg514).left_eq, Hle.out]; exact Hlt.out
          | true =>
            rw [ho] at O1
            have hoo : isOO d (now : Int) = true := by unfold isOO; rw [h0, ho]; rfl
            have HC3 := Lib.hid (show Coll D (fun d => isOO d (now : Int)) _ (ss ++ [t]) by have := HC2.out; simp only [hoo] at this; exact this)
            have hT : dTick (now : Int) d = Dl.mk d.ty d.tm 2 := by unfold dTick; rw [if_pos hoo]
            rw [hT] at heq
            rw [hT] at n512
            clear hoo HC2 hT ho
            have xo : V512.cell? ⟨g501, 28, none⟩ = some (.int .i64 d.out) := CB.cell m512_d 28
            go_wp2_with (first | (first | ((with_reducible refine st_part 42 _ g501 24 ?_ (pt := mA d.tm) m512_d ?_ Try.underlying42 ?_ ?_ ?_); exact rfl; exact dA_ptm _; exact rfl; exact Try.zTm) | ((with_reducible refine st_partG 42 _ g501 24 ?_ (pt := mA d.tm) m512_d ?_ Try.underlying42 ?_ ?_ ?_ ?_); exact rfl; exact dA_ptm _; exact rfl; exact Try.zTm; exact rfl)))
            refine (O1 _).mono ?_
            rintro e w513 ⟨rfl, b513⟩
            clear xo
            have rg514 := rg_on m512_rg b513
            have r515_d := le_on m512_d b513
            have r515_a := le_on n512 b513
            have r515_c := m512_c.on b513
            have l515 := le_tr o512 b513
            clear m512_d n512 m512_c o512
            clear m512_rg
            clear b513
            go_wp2_with (first | ((with_reducible refine st_cell 3 _ _ g501 28 (.int .i64 2) ?_ ?_ r515_d (new := dA (Dl.mk d.ty d.tm 2)) ?_ ?_ ?_ ?_ ?_ ?_); exact rfl; exact rfl; exact (by rw [dA_size]; decide); exact dA_out _ _; exact one_i; exact rfl; exact rfl))
            refine ⟨fun V516 n516 k516 => ?_⟩
            have m516_a := k516.on r515_a (Ne.symm ne509_d)
            have m516_rg := rg_wr rg514 k516 r515_d
            have m516_c := r515_c.wr k516 no501_c up501
            have o516 := k516.bel _ _ l515 up501
            clear k516
            clear r515_d r515_a rg514 r515_c l515
            go_wp2_with (first | (first | ((with_reducible refine st_load 44 _ g509 ?_ m516_a Try.underlying44 ?_ ?_ ?_); exact rfl; exact rfl; exact Try.zDl) | ((with_reducible refine st_loadG 44 _ g509 ?_ m516_a Try.underlying44 ?_ ?_ ?_ ?_); exact rfl; exact rfl; exact Try.zDl; exact rfl)) | (first | ((with_reducible refine st_load 44 _ g501 ?_ n516 Try.underlying44 ?_ ?_ ?_); exact rfl; exact rfl; exact Try.zDl) | ((with_reducible refine st_loadG 44 _ g501 ?_ n516 Try.underlying44 ?_ ?_ ?_ ?_); exact rfl; exact rfl; exact Try.zDl; exact rfl)))
            go_roundw
            case rel => exact ⟨(ss ++ [t]), _, cnt2, by simp, HC3, m516_rg, m516_c⟩
            case measure => rw [(m516_rg).left_eq, Hle.out]; exact Hlt.out
end Go.Proofs.Ytjfmahceolhfnaa
