/-
  tick of package chair. Conditions: the chair's blocks are as it left them, its transactions are below a thousand.
-/
import Derived.Test.YtjfmahceolhfnaaChJ
set_option linter.unusedVariables false
set_option linter.unusedSimpArgs false
namespace Go.Proofs.Ytjfmahceolhfnaa
open Go.RowKit

section
variable {P : Program} {ops : Array Oper} {rest : List Oper} {dst : Option Tmp} {ty : TypeId} {pos : String} {aft : Array Edge} {a : Act} {w : World} {Q : Exit → Act → World → Prop}
theorem st_boxI (T : TypeId) (x : Operand) (n : Int) (hx : a.eval x = .int .i64 n)
    (k : Sh (∀ V g, CB V g T (nA n) → Fr w V g → wpList P ops Q rest (a.put dst (.pointer (some ⟨g, 0, none⟩))) V)) : wpList P ops Q (⟨dst, .box T x, ty, pos, aft, none⟩ :: rest) a w :=
  wpList_plain rfl fun K hK => by
    unfold Oper.wp execOp
    simp only [hx, Sem.run_bind, Instr.box, newVar, newRow, run_newObj_alloc, Sem.run_pure, Result.andThen_ok]
    exact hK _ _ (k.out _ _ (CB.new w T (nA n)) ⟨rfl, le_al _ _⟩)
end
theorem rd_mapu {P : Program} {ops : Array Oper} {o : Oper} {a : Act} {w w' : World} {K : Act → World → Prop} {Q : Exit → Act → World → Prop} (hgd : o.guard = none) (T : TypeId) (x y z : Operand) (ho : o.op = .mapUpdate T x y z) (d : Option Tmp) (hd : o.dst = d)
    (hrun : (Instr.mapUpdate T (a.eval x) (a.eval y) (a.eval z)).run P w = .ok () w') (k : Sh (K (a.put d undef) w')) : if Region.wanted o (yielded ops a.tmps) = true then Oper.wp P o a w K Q else K (a.put o.dst undef) w := by
  subst hd
  rw [if_pos (by simp [Region.wanted, hgd])]
  unfold Oper.wp execOp
  simp only [ho, Sem.run_bind, Sem.run_pure, Result.andThen_ok, hrun]
  exact k.out
theorem CM.mt {w V : World} {b m : Nat} {G : Option Nat} {D D' : DM} {log : List Rd} (h : CM w b m G D log) (k : Mt w V m) (hm : MD V m D') : CM V b m G D' log := by
  obtain ⟨⟨A, n, c, h1, h2⟩, h3⟩ := h
  refine ⟨⟨A, n, c, h1.same (k.far b (h3.ne h1)), h2.keep fun g e => k.far g ?_⟩, hm⟩
  subst e
  obtain ⟨cs, hc⟩ := seg_type h2
  exact h3.ne hc
theorem CU.mt {w W V : World} {b m : Nat} {G : Option Nat} {D D' : DM} {log : List Rd} (h : CU w W b m G D log) (k : Mt W V m) (hm : MD V m D') : CU w V b m G D' log := ⟨h.cm.mt k hm, h.lo⟩
/-- The chair's struct leads to the map. -/
structure CF (w W : World) (b m : Nat) : Prop where
  c : W.cell? ⟨b, 0, none⟩ = some (.map (some m))
  lo : b < w.heap.size
  ne : b ≠ m
theorem CU.cf {w W : World} {b m : Nat} {G : Option Nat} {D : DM} {log : List Rd} (h : CU w W b m G D log) : CF w W b m := by
  obtain ⟨⟨A, n, c, k1, k2⟩, k3⟩ := h.cm
  exact ⟨CB.cell k1 0, h.lo b (.inl rfl), k3.ne k1⟩
section
variable {w W V : World} {b m : Nat}
theorem CF.same (h : CF w W b m) (e : V.heap[b]? = W.heap[b]?) : CF w V b m := ⟨(World.cell?_of_block (a := ⟨b, 0, none⟩) e).trans h.c, h.lo, h.ne⟩
theorem CF.on (h : CF w W b m) (hb : Below W.heap.size W V) : CF w V b m := h.same (hb.block b (World.block_lt_of_cell? W _ h.c))
theorem CF.wr (h : CF w W b m) {g : Nat} (k : Wr W V g) (hg : w.heap.size ≤ g) : CF w V b m := h.same (k.far b (by have := h.lo; omega))
theorem CF.mt (h : CF w W b m) (k : Mt W V m) {D : DM} (hm : MD W m D) : CF w V b m := h.same (k.far b h.ne)
theorem CF.drew (h : CF w W b m) : CF w W.drew b m := ⟨h.c, h.lo, h.ne⟩
end
/-- The deals behind some of those that a tick ends. -/
def tkD (D : DM) (x : Int) (L : List Nat) (k : Nat) : DM := fun t => if t ∈ L.take k then (D t).map (dTick x) else D t
def overF (D : DM) (x : Int) : List Nat := keysF D (fun d => isOO d x)
theorem tkD_0 (D : DM) (x : Int) (L : List Nat) : tkD D x L 0 = D := by funext t; simp [tkD]
theorem tkD_few {D : DM} (h : Few D) (x : Int) (L : List Nat) (k : Nat) : Few (tkD D x L k) := fun t d hd => by
  unfold tkD at hd
  split at hd
  · cases hD : D t with
    | none => rw [hD] at hd; cases hd
    | some e => exact h t e hD
  · exact h t d hd
theorem tkD_at {D : DM} {x : Int} {k t : Nat} (ht : (overF D x)[k]? = some t) : ∃ d, D t = some d ∧ isOO d x = true ∧ t < 1000 ∧ tkD D x (overF D x) k t = some d ∧ tkD D x (overF D x) (k + 1) = updD (tkD D x (overF D x) k) t ⟨d.ty, d.tm, 2⟩ := by
  obtain ⟨h1, h2⟩ := keysF_mem.1 (List.mem_of_getElem? ht)
  obtain ⟨d, hd, ho⟩ := wantB_some h2
  have hn : t ∉ (overF D x).take k := take_not (keysF_nodup _ _) ht
  refine ⟨d, hd, ho, h1, by unfold tkD; rw [if_neg hn]; exact hd, ?_⟩
  funext u
  unfold tkD updD
  rw [take_next ht]
  by_cases e : u = t
  · subst e
    rw [if_pos (by simp), if_pos rfl, hd]
    simp only [Option.map_some, dTick]
    rw [if_pos ho]
  · rw [if_neg e]
    have : (u ∈ (overF D x).take k ++ [t]) ↔ u ∈ (overF D x).take k := by simp [e]
    simp only [this]
theorem tkD_end {D : DM} (h : Few D) (x : Int) : tkD D x (overF D x) (overF D x).length = tickD D x := by
  funext t
  unfold tkD tickD
  rw [List.take_length]
  split
  · rfl
  · rename_i hn
    cases hd : D t with
    | none => rfl
    | some d =>
      simp only [Option.map_some, dTick]
      rw [if_neg]
      intro ho
      exact hn (keysF_mem.2 ⟨h t d hd, by unfold wantB; rw [hd]; exact ho⟩)
theorem over_len (D : DM) (x : Int) : (overF D x).length = cntB (ooF D x) 1000 := by
  unfold overF
  rw [keysF_cnt]
  rfl
/-- Behind tick. -/
def TkPost (w : World) (b m : Nat) (G : Option Nat) (D : DM) (log : List Rd) (x : Int) (e : Ending) (w' : World) : Prop :=
  e = .returned (.int .i64 ((cntB (ooF D x) 1000 : Nat) : Int)) ∧ CM w' b m G (tickD D x) log ∧ Out w w' (fun i => i = m)
set_option maxRecDepth 100000 in
set_option maxHeartbeats 4000000 in
theorem tick_c (b m : Nat) (G : Option Nat) (D : DM) (log : List Rd) (x : Int) (w : World) (h : CM w b m G D log) (hf : Few D) : Calls Try.prog 31 #[.pointer (some ⟨b, 0, none⟩), .int .i64 x] w (TkPost w b m G D log x) := by
  have cu := CU.start h
  clear h
  have hmf : ∀ (fn : Fn) (first cap : Array Value) (w : World), (Instr.makeFunc fn first cap).run Try.prog w = .ok (.func fn first cap) w := fun _ _ _ _ => rfl
  go_enter Try.func31, Try.ntmps31
  go_wp2_with (first | ((with_reducible refine st_boxI 2 _ x ?_ ?_); exact rfl))
  refine ⟨fun V1 g1 n1 f1 => ?_⟩
  have up1 : w.heap.size ≤ g1 := Nat.le_of_eq f1.at_
  have bl1 := f1.bel
  clear f1
  have r2_cu := (cu).on bl1
  have l2 := Out.tr (Out.refl _ (fun i => i = m)) bl1
  clear cu
  clear bl1
  have hE : Enters Try.prog 39 := enters_of Try.func39 (by kernel_rfl) rfl
  have hk := keysOf_c m 39 #[.pointer (some ⟨g1, 0, none⟩)] (fun d => isOO d x) D _ r2_cu.cm.md hf hE (fun V d hV => over_f d g1 x V (le_on n1 hV))
  have hk : Calls _ _ _ _ (RPost V1 3 zc 1 (overF D x)) := hk
  clear hE
  obtain ⟨⟨A0, n0, c0', k1, k2⟩, k3⟩ := r2_cu.cm
  have c0 : V1.cell? ⟨b, 0, none⟩ = some (.map (some m)) := CB.cell k1 0
  clear k1 k2 k3
  go_wp2_with fail
  refine (hk).mono ?_
  rintro e w3 ⟨A, n, c, rfl, hs, b3⟩
  clear c0
  have r4_n := le_on n1 b3
  have r4_cu := (r2_cu).on b3
  have l4 := Out.tr l2 b3
  clear n1 r2_cu l2
  clear b3
  clear hk hmf
  have hn : (overF D x).length = n := hs.len
  have hn3 : n ≤ 1000 := by rw [← hn]; exact keysF_len _ _
  have hcnt := over_len D x
  rw [hn] at hcnt
  have H := Lib.hid hcnt
  have Hend := Lib.hid (tkD_end hf x)
  rw [hn] at Hend
  have hat := fun k t (ht : (overF D x)[k]? = some t) => tkD_at ht
  have hfew := fun k => tkD_few hf x (overF D x) k
  clear hcnt hf
  have cu0 := r4_cu
  rw [← tkD_0 D x (overF D x)] at cu0
  obtain ⟨L, hL⟩ : ∃ L, overF D x = L := ⟨_, rfl⟩
  rw [hL] at cu0 hn Hend hat hfew hs
  clear hL r4_cu
  go_wp2_with fail
  go_loopw [17] (fun iv wr => ∃ k : Nat, k ≤ n ∧ iv = .int .i64 k ∧ CU w wr b m G (tkD D x L k) log ∧ ZS wr A n c L ∧ Out w wr (fun i => i = m)) (fun iv _ => n - (intOf iv).toNat)
  case atStart => exact ⟨0, by omega, rfl, cu0, hs, l4⟩
  case round =>
    clear cu0 hs l4 r4_n
    obtain ⟨k, hk, rfl, hcu, hzs, hout⟩ := hrel
    by_cases hlt : k < n
    · have l1 : (k : Int) < n := by omega
      have l2 : (0 : Int) ≤ (k : Int) := by omega
      obtain ⟨ga, ofa, t, ht, rfl, cx⟩ := hzs.rr.num hlt
      obtain ⟨d, hd, ho, ht3, hdk, hnx⟩ := hat k t ht
      have hget := hcu.cm.md.get ht3 hdk
      have Hnx := Lib.hid hnx
      clear hd ho hnx ht
      obtain ⟨⟨A0, n0, c0', k1, k2⟩, k3⟩ := hcu.cm
      have c0 : wr.cell? ⟨b, 0, none⟩ = some (.map (some m)) := CB.cell k1 0
      clear k1 k2 k3
      go_wp2_with (first | ((with_reducible refine st_alloc 44 (dA zeroD) ?_ ?_); exact zero_dl))
      refine ⟨fun V101 g101 n101 f101 => ?_⟩
      clear c0 hget cx
      have up101 : w.heap.size ≤ g101 := f101.upO hout
      have bl101 := f101.bel
      clear f101
      have r102_cu := (hcu).on bl101
      have r102_zs := (hzs).on bl101
      have l102 := Out.tr hout bl101
      clear hcu hzs hout
      clear bl101
      go_wp2_with (first | ((with_reducible refine st_store 44 _ _ g101 (dA d) ?_ ?_ n101 ?_ ?_ ?_ ?_); exact rfl; exact rfl; exact Try.zDl; exact rfl; exact dA_one _))
      refine ⟨fun V103 n103 k103 => ?_⟩
      have m103_cu := (r102_cu).wr k103 up101
      have m103_zs := (r102_zs).wr k103 n101 (by decide)
      have o103 := Out.wr l102 k103 up101
      clear k103
      clear n101 r102_cu r102_zs l102
      go_wp2_with (first | ((with_reducible refine st_cell 3 _ _ g101 28 (.int .i64 2) ?_ ?_ n103 (new := dA (Dl.mk d.ty d.tm 2)) ?_ ?_ ?_ ?_ ?_ ?_); exact rfl; exact rfl; exact (by rw [dA_size]; decide); exact dA_out _ _; exact one_i; exact rfl; exact rfl))
      refine ⟨fun V104 n104 k104 => ?_⟩
      have m104_cu := (m103_cu).wr k104 up101
      have m104_zs := (m103_zs).wr k104 n103 (by decide)
      have o104 := Out.wr o103 k104 up101
      clear k104
      clear n103 m103_cu m103_zs o103
      have cf := m104_cu.cf
      go_wp2_with fail
      have y105 := Lib.hid (show (fun V : World => CB V g101 44 (dA (Dl.mk d.ty d.tm 2)) ∧ CF w V b m) V104.drew from ⟨CB.drew n104, (cf).drew⟩)
      refine wp_region_held_drew (S := (fun V : World => CB V g101 44 (dA (Dl.mk d.ty d.tm 2)) ∧ CF w V b m)) (by kernel_rfl) y105.out (fun hHeld => ?_)
      obtain ⟨D105, hD105⟩ : ∃ V, V104.drew = V := ⟨_, rfl⟩
      have b105 : Below V104.heap.size V104 D105 := by rw [← hD105]; exact le_dr (Below.refl _ _)
      rw [hD105] at hHeld ⊢
      clear hD105
      have r106_d := le_on n104 b105
      have r106_cu := (m104_cu).on b105
      have r106_zs := (m104_zs).on b105
      have r106_cf := (cf).on b105
      have l106 := Out.tr o104 b105
      clear n104 m104_cu m104_zs cf o104
      clear b105
      refine wpAnyH_takeL (i := 0) (d := some 28) (v := .pointer (some ⟨b, 0, none⟩)) rfl rfl (by kernel_rfl) (by kernel_rfl) (by kernel_rfl) (fun _ _ _ h => h) (Or.inl ⟨by rfl, ?_⟩) hHeld ?_
      · intro w hSw; (try dsimp only at hSw); go_simp
      try simp only [Act.put, List.setIfInBounds_toArray, List.set_cons_zero, List.set_cons_succ]
      refine wpAnyH_takeL (i := 1) (d := some 29) (v := .pointer (some ⟨b, 0, none⟩)) rfl rfl (by kernel_rfl) (by kernel_rfl) (by kernel_rfl) (fun _ _ _ h => h) (Or.inl ⟨by rfl, ?_⟩) hHeld ?_
      · intro w hSw; (try dsimp only at hSw); go_simp
      try simp only [Act.put, List.setIfInBounds_toArray, List.set_cons_zero, List.set_cons_succ]
      refine wpAnyH_takeL (i := 2) (d := some 30) (v := .pointer (some ⟨b, 0, none⟩)) rfl rfl (by kernel_rfl) (by kernel_rfl) (by kernel_rfl) (fun _ _ _ h => h) (Or.inl ⟨by rfl, ?_⟩) hHeld ?_
      · intro w hSw; (try dsimp only at hSw); go_simp
      try simp only [Act.put, List.setIfInBounds_toArray, List.set_cons_zero, List.set_cons_succ]
      refine wpAnyH_takeL (i := 3) (d := some 31) (v := .map (some m)) rfl rfl (by kernel_rfl) (by kernel_rfl) (by kernel_rfl) (fun _ _ _ h => h) (Or.inl ⟨by rfl, ?_⟩) hHeld ?_
      · intro w hSw; (have hcc := hSw.2.c; go_simp)
      try simp only [Act.put, List.setIfInBounds_toArray, List.set_cons_zero, List.set_cons_succ]
      refine wpAnyH_takeL (i := 4) (d := some 32) (v := .int .i64 (t : Int)) rfl rfl (by kernel_rfl) (by kernel_rfl) (by kernel_rfl) (fun _ _ _ h => h) (Or.inl ⟨by rfl, ?_⟩) hHeld ?_
      · intro w hSw; (try dsimp only at hSw); go_simp
      try simp only [Act.put, List.setIfInBounds_toArray, List.set_cons_zero, List.set_cons_succ]
      refine wpAnyH_takeL (i := 5) (d := some 33) (v := .agg (dA (Dl.mk d.ty d.tm 2))) rfl rfl (by kernel_rfl) (by kernel_rfl) (by kernel_rfl) (fun _ _ _ h => h) (Or.inl ⟨by rfl, ?_⟩) hHeld ?_
      · intro w hSw; exact yl_whole 44 _ g101 rfl hSw.1 Try.underlying44 rfl Try.zDl
      try simp only [Act.put, List.setIfInBounds_toArray, List.set_cons_zero, List.set_cons_succ]
      refine wpAnyH_ready (rs := [6]) (by kernel_rfl) (by simp) ?_
      refine AllReadyH.cons rfl (fun K hK => ?_) AllReadyH.nil
      obtain ⟨V7, q1, q2, q3⟩ := r106_cu.cm.md.store (hfew k) ht3 (Dl.mk d.ty d.tm 2)
      have Q3 := Mt.of q3
      clear q3
      refine rd_mapu rfl 63 _ _ _ rfl none rfl q1 ?_
      refine ⟨?_⟩
      clear q1
      have cu7 := r106_cu.mt Q3 q2
      have md7 := r106_cu.cm.md
      rw [← Hnx.out] at cu7
      have r107_d := Q3.on r106_d md7
      have r107_zs := (r106_zs).mt Q3 md7
      have r107_cf := (r106_cf).mt Q3 md7
      have l107 := Out.mt l106 Q3 rfl
      clear r106_d r106_zs r106_cf l106
      clear Q3 q2 md7 r106_cu
      have y108 := Lib.hid (show (fun V : World => CB V g101 44 (dA (Dl.mk d.ty d.tm 2)) ∧ CF w V b m) V7 from ⟨r107_d, r107_cf⟩)
      refine hK.out _ _ y108.out (fun hHeld => ?_)
      clear hK K y108
      try simp only [Act.put, List.setIfInBounds_toArray, List.set_cons_zero, List.set_cons_succ]
      refine wpAnyH_done (by kernel_rfl) ?_ _
      go_wp2_with fail
      go_roundw
      case rel => exact ⟨k + 1, by omega, by go_num, cu7, r107_zs, l107⟩
      case measure => simp [intOf]; omega
    obtain rfl : k = n := by omega
    rw [Hend.out] at hcu
    clear Hend hzs hat hfew
    go_wp2_with fail
    go_ret
    exact ⟨by rw [← H.out]; rfl, hcu.cm, hout⟩
end Go.Proofs.Ytjfmahceolhfnaa
