/-
  The law AirActs, walked. Conditions: the calls can be read, their places are numbers of their type.
-/
import Derived.Test.YtcfdfimkgehdfaaAiU
set_option linter.unusedVariables false
set_option linter.unusedSimpArgs false
namespace Go.Proofs.Ytcfdfimkgehdfaa
open Go.RowKit

theorem snd_len (room : Nat) (L : List Lt) (l : Lt) : (sSnR room L l).length ≤ L.length + 1 := by unfold sSnR; split <;> simp
theorem tk_len (L : List Lt) (t : Nat) (k : Int) : (sTkR L t k).length ≤ L.length := by
  unfold sTkR
  split
  · rw [List.length_eraseIdx]; split <;> omega
  · exact Nat.le_refl _
theorem ac_len (room : Nat) (L : List Lt) (x : Ax) : (sAcR room L x).length ≤ L.length + 1 := by
  unfold sAcR
  split
  · have := tk_len L x.to x.at_; omega
  · split
    · unfold sAgR; split <;> simp
    · split
      · unfold sTnR; split <;> simp
      · exact snd_len _ _ _
theorem lt_len {L : List Lm} {M : List Lt} {n n1 : Nat} (h : LT L = M) (hl : L.length = n) (hm : M.length ≤ n1) : n ≤ n1 := by
  subst h
  unfold LT at hm
  simp at hm
  omega
/-- The document's letters beside an air: what a walk of both carries. -/
structure Both (w W : World) (gm ba r : Nat) (S : Nat → Prop) (A : Option Addr) (n c : Nat) (L : List Lm) : Prop where
  ao : AO S ba r (toR (LT L)) W
  hi : ∀ i, S i → w.heap.size ≤ i
  od : Ob (FD A n L) (DL A n c L) W
  ds : ∀ i, FD A n L i → ¬ S i
  nf : ¬ FD A n L gm
  ns : ¬ S gm
  m : CB W gm 28 (cA ⟨A, n, c, (r : Int)⟩)
  low : Below w.heap.size w W
theorem built_cr (r : Int) : Try.prog.built 28 [(1, .int .i64 r)] = some (cA ⟨none, 0, 0, r⟩) := by kernel_rfl
theorem built_x3 (t : Nat) : Try.prog.built 33 [(0, .int .u8 3), (2, .int .u8 (t : Int))] = some (xA ⟨3, 0, t, [], none, 0, 0, 0, 0, 0⟩) := by kernel_rfl
theorem st_built2n {P : Program} {ops : Array Oper} {rest : List Oper} {dst : Option Tmp} {ty : TypeId} {pos : String} {aft : Array Edge} {a : Act} {w : World} {Q : Exit → Act → World → Prop} (T : TypeId) (i j : Nat) (x0 x1 : Operand) (v0 v1 : Value) (cs : Array Value) (h0 : a.eval x0 = v0) (h1 : a.eval x1 = v1) (hb : P.built T [(i, v0), (j, v1)] = some cs)
    (k : wpList P ops Q rest (a.put dst (.agg cs)) w) : wpList P ops Q (⟨dst, .build T #[(i, x0), (j, x1)], ty, pos, aft, none⟩ :: rest) a w := by
  have h : P.built T ((#[(i, x0), (j, x1)] : Array (Nat × Operand)).map fun (i, x) => (i, a.eval x)).toList = some cs := by simpa [h0, h1] using hb
  exact wpList_build rfl T #[(i, x0), (j, x1)] rfl (by rw [h]; rfl) (by rw [h]; exact k)
/-- A letter is taken: there is one less. -/
theorem less_one {L : List Lt} {t : Nat} (ht : t < 17) {r : Nat} {N : Nat} (hN : (toR L t).length = N + 1) : (toR (sAcR r L ⟨3, 0, t, [], 0, 0, 0⟩) t).length = N := by
  rw [toR_ac]
  have : sAc r (toR L) ⟨3, 0, t, [], 0, 0, 0⟩ = sTk (toR L) t 0 := if_pos (by show 3 % 6 = 3; rfl)
  rw [this]
  have he : eAt (toR L) t 0 = 0 := by unfold eAt; rw [if_neg (by omega), if_pos]; rw [hN]; omega
  unfold sTk
  rw [if_pos he, updQ_same, List.length_eraseIdx, if_pos (by rw [hN]; simp), hN]
  rfl
theorem less_len {L : List Lt} {t r : Nat} : (sAcR r L ⟨3, 0, t, [], 0, 0, 0⟩).length ≤ L.length := by
  have : sAcR r L ⟨3, 0, t, [], 0, 0, 0⟩ = sTkR L t 0 := if_pos (by show 3 % 6 = 3; rfl)
  rw [this]
  exact tk_len _ _ _
set_option maxRecDepth 100000 in
set_option maxHeartbeats 8000000 in
theorem acts_walk (room : Int) (A : Option Addr) (n c : Nat) (L : List Xm) (w : World) (h : RR w xcl 7 A n c L) (hk : ∀ x ∈ L, x.pl < 65536 ∧ RR w bcl 1 x.A x.n x.c x.b) : Calls Try.prog 3 #[.int .i64 room, .slice A n c] w fun e w' => e = .returned (.bool true) ∧ Below w.heap.size w w' := by
  have hlen := Lib.hid h.len
  have hx := XR.start h (fun x hx => (hk x hx).2)
  have hpl : ∀ x ∈ L, x.pl < 65536 := fun x hx => (hk x hx).1
  clear h hk
  rcases (show (∃ r : Nat, room = (r : Int) ∧ 1 ≤ r ∧ r ≤ 1000) ∨ (room < 1 ∨ 1000 < room) by
    by_cases h : room < 1 ∨ 1000 < room
    · exact .inr h
    · exact .inl ⟨room.toNat, by omega, by omega, by omega⟩) with ⟨r, rfl, hr1, hr2⟩ | hno
  · skip
    have q1 : decide ((1 : Int) ≤ (r : Int)) = true := by simp; omega
    have q1' : decide ((r : Int) ≥ 1) = true := by simp; omega
    have q2 : decide ((r : Int) ≤ (1000 : Int)) = true := by simp; omega
    have q2' : decide ((1000 : Int) ≥ (r : Int)) = true := by simp; omega
    go_enter Try.func3, Try.ntmps3
    go_wp2_with fail
    (with_reducible refine (alive_c _).mono ?_)
    rintro e w1 ⟨rfl, b1⟩
    have r4_xx := (hx).on b1
    have l4 := le_tr (Below.refl _ _) b1
    clear hx
    clear b1
    go_wp2_with fail
    have cn5 := anew_c (r : Int) w1
    (with_reducible refine cn5.mono ?_)
    clear cn5
    intro e w5 hp5
    obtain ⟨ba5, S5, rfl, ao5, h05, bl5⟩ := NPost.yes (r := r) (by omega) (by omega) hp5
    clear hp5
    have hi5 : ∀ i, S5 i → w.heap.size ≤ i := fun i e => Nat.le_trans (l4).size (h05 i e)
    clear h05
    have r8_xx := (r4_xx).on bl5
    have l8 := le_tr l4 bl5
    clear r4_xx l4
    clear bl5
    go_wp2_with (first | ((with_reducible refine st_builtn 28 1 _ (.int .i64 (r : Int)) (cA ⟨none, 0, 0, (r : Int)⟩) ?_ ?_ ?_); exact rfl; exact built_cr _) | ((with_reducible refine st_alloc 28 (cA zeroC) ?_ ?_); exact zero_cr))
    refine ⟨fun V9 g9 n9 f9 => ?_⟩
    have nn9_oa := ao5.fresh (Nat.le_of_eq f9.at_)
    have up9 : w.heap.size ≤ g9 := f9.up l8
    have bl9 := f9.bel
    clear f9
    have r10_oa := ao5.on bl9
    have r12_xx := (r8_xx).on bl9
    have l12 := le_tr l8 bl9
    clear r8_xx l8
    clear ao5
    clear bl9
    go_wp2_with (first | ((with_reducible refine st_store 28 _ _ g9 (cA ⟨none, 0, 0, (r : Int)⟩) ?_ ?_ n9 ?_ ?_ ?_ ?_); exact rfl; exact rfl; exact Try.zCr; exact rfl; exact cA_one _))
    refine ⟨fun V13 n13 k13 => ?_⟩
    have m13_xx := (r12_xx).wr k13 up9
    have m13_oa := r10_oa.wr k13 nn9_oa
    have o13 := k13.bel _ _ l12 up9
    clear k13
    clear n9 r12_xx r10_oa l12
    have upm := up9
    have hB0 : Both w V13 g9 ba5 r S5 none 0 0 [] := ⟨m13_oa, hi5, (dl_none _).ob, fun i e => absurd e fd_none, fd_none, nn9_oa, n13, o13⟩
    clear m13_oa hi5 nn9_oa n13 o13 q1 q2 q1' q2'
    go_wp2_with fail
    go_loopw [7] (fun iv wr => ∃ k : Nat, k ≤ n ∧ k ≤ 80 ∧ iv = .int .i64 k ∧ XR w wr A n c L ∧ ∃ (S : Nat → Prop) (A1 : Option Addr) (n1 c1 : Nat) (L1 : List Lm), n1 ≤ k ∧ Both w wr g9 ba5 r S A1 n1 c1 L1) (fun iv _ => n - (intOf iv).toNat)
    case atStart => exact ⟨0, by omega, by omega, rfl, m13_xx, _, _, _, _, _, by omega, hB0⟩
    case round =>
      clear hB0 m13_xx
      obtain ⟨k, hkn, hk80, rfl, hx, S, A1, n1, c1, L1, hnk, hB⟩ := hrel
      by_cases hlt : k < n ∧ k < 80
      · skip
        obtain ⟨ha, hi, hod, ds, nf, ns, hm, hw⟩ := hB
        have ds2 : ∀ i, S i → ¬ FD A1 n1 L1 i := fun i a b => ds i b a
        obtain ⟨hlt1, hlt2⟩ := hlt
        have l1 : (k : Int) < n := by omega
        have l2 : (0 : Int) ≤ (k : Int) := by omega
        have l3 : (k : Int) < 80 := by omega
        obtain ⟨ga, oa, x, hxk, hAx, _⟩ := hx.rr.rr.elem hlt1
        have hxm := List.mem_of_getElem? hxk
        have hxp := hpl x hxm
        have hr2 := hx.elem hxk hAx
        subst hAx
        go_wp2_with (first | ((with_reducible refine st_elem 33 _ ga (oa + k * 7) (xA x) ?_ hr2 Try.underlying33 ?_ ?_ ?_); exact rfl; exact rfl; exact Try.zAx))
        (with_reducible refine (few_c x _).mono ?_)
        rintro e0 w9 ⟨rfl, b9⟩
        clear hr2
        have r301_oa := ha.on b9
        have r301_od := hod.on b9
        have r303_m := le_on hm b9
        have r303_xx := (hx).on b9
        have l303 := le_tr hw b9
        clear hm hx hw
        clear ha hod
        clear b9
        by_cases h4 : x.n ≤ 4100
        rotate_left
        · simp only [decide_eq_false h4]
          go_wp2_with fail
          go_roundw
          case rel => exact ⟨k + 1, by omega, by omega, by go_num, r303_xx, S, A1, n1, c1, L1, by omega, r301_oa, hi, r301_od, ds, nf, ns, r303_m, l303⟩
          case measure => simp [intOf]; omega
        simp only [decide_eq_true h4]
        have xn1 := r303_xx.no hxm hi
        have xlo := (r303_xx.el x hxm).lo
        have hRy := r301_oa.ok.ok
        have hlm : (LT L1).length = n1 := by have := r301_od.ok.rr.len; unfold LT; simp; exact this
        go_wp2_with fail
        have y304 := Lib.hid (show (fun V : World => CB V g9 28 (cA ⟨A1, n1, c1, (r : Int)⟩) ∧ XR w V (some ⟨ga, oa, none⟩) n c L) w9.drew from ⟨CB.drew r303_m, (r303_xx).drew⟩)
        refine wp_region_held_drew (S := (fun V : World => CB V g9 28 (cA ⟨A1, n1, c1, (r : Int)⟩) ∧ XR w V (some ⟨ga, oa, none⟩) n c L)) (by kernel_rfl) y304.out (fun hHeld => ?_)
        obtain ⟨D304, hD304⟩ : ∃ V, w9.drew = V := ⟨_, rfl⟩
        have b304 : Below w9.heap.size w9 D304 := by rw [← hD304]; exact le_dr (Below.refl _ _)
        rw [hD304] at hHeld ⊢
        clear hD304
        have r305_oa := r301_oa.on b304
        have r305_od := r301_od.on b304
        have r307_m := le_on r303_m b304
        have r307_xx := (r303_xx).on b304
        have l307 := le_tr l303 b304
        clear r303_m r303_xx l303
        clear r301_oa r301_od
        clear b304
        refine wpAnyH_takeL (i := 0) (d := some 49) (v := .pointer (some ⟨ba5, 0, none⟩)) rfl rfl (by kernel_rfl) (by kernel_rfl) (by kernel_rfl) (fun _ _ _ h => h) (Or.inl ⟨by rfl, ?_⟩) hHeld ?_
        · intro w hSw; (try dsimp only at hSw); go_simp
        try simp only [Act.put, List.setIfInBounds_toArray, List.set_cons_zero, List.set_cons_succ]
        refine wpAnyH_takeL (i := 1) (d := some 50) (v := .agg (cA ⟨A1, n1, c1, (r : Int)⟩)) rfl rfl (by kernel_rfl) (by kernel_rfl) (by kernel_rfl) (fun _ _ _ h => h) (Or.inl ⟨by rfl, ?_⟩) hHeld ?_
        · intro w hSw; exact yl_whole 28 _ g9 rfl hSw.1 Try.underlying28 rfl Try.zCr
        try simp only [Act.put, List.setIfInBounds_toArray, List.set_cons_zero, List.set_cons_succ]
        refine wpAnyH_takeL (i := 2) (d := some 51) (v := .slice (some ⟨ga, oa, none⟩) n c) rfl rfl (by kernel_rfl) (by kernel_rfl) (by kernel_rfl) (fun _ _ _ h => h) (Or.inl ⟨by rfl, ?_⟩) hHeld ?_
        · intro w hSw; (try dsimp only at hSw); go_simp
        try simp only [Act.put, List.setIfInBounds_toArray, List.set_cons_zero, List.set_cons_succ]
        refine wpAnyH_takeL (i := 3) (d := some 52) (v := .int .i64 (k : Int)) rfl rfl (by kernel_rfl) (by kernel_rfl) (by kernel_rfl) (fun _ _ _ h => h) (Or.inl ⟨by rfl, ?_⟩) hHeld ?_
        · intro w hSw; (try dsimp only at hSw); go_simp
        try simp only [Act.put, List.setIfInBounds_toArray, List.set_cons_zero, List.set_cons_succ]
        refine wpAnyH_takeL (i := 4) (d := some 53) (v := .pointer (some ⟨ga, oa + k * 7, none⟩)) rfl rfl (by kernel_rfl) (by kernel_rfl) (by kernel_rfl) (fun _ _ _ h => h) (Or.inl ⟨by rfl, ?_⟩) hHeld ?_
        · intro w hSw; (try dsimp only at hSw); go_simp
        try simp only [Act.put, List.setIfInBounds_toArray, List.set_cons_zero, List.set_cons_succ]
        refine wpAnyH_takeL (i := 5) (d := some 54) (v := .agg (xA x)) rfl rfl (by kernel_rfl) (by kernel_rfl) (by kernel_rfl) (fun _ _ _ h => h) (Or.inl ⟨by rfl, ?_⟩) hHeld ?_
        · intro w hSw; exact yl_elem 33 _ ga (oa + k * 7) (xA x) rfl (hSw.2.elem hxk rfl) Try.underlying33 rfl Try.zAx
        try simp only [Act.put, List.setIfInBounds_toArray, List.set_cons_zero, List.set_cons_succ]
        refine wpAnyH_ready (rs := [6, 10]) (by kernel_rfl) (by simp) ?_
        refine AllReadyH.cons rfl (fun K hK => ?_) (AllReadyH.cons rfl (fun K hK => ?_) AllReadyH.nil)
        · skip
          go_simp
          have lt308_m := CB.lt r307_m
          have cc309 := does_c S ba5 r (toR (LT L1)) A1 n1 c1 L1 r x _ r305_oa r305_od.ok hRy (by omega) (r307_xx.el x hxm).rr hxp ds xn1
          (with_reducible refine cc309.mono ?_)
          clear cc309
          rintro e w309 ⟨Ad309, nd309, cd309, Ld309, bd309, S309, rfl, hbd309, ao309, dd309, ed309, nw309, sd309, fd309, ou309⟩
          have q309_m := ou309.box r307_m ns
          have no309_m : ¬ S309 g9 := fun e => (nw309 _ e).elim ns (fun e => by have := CB.lt r307_m; omega)
          have q309_xx := (r307_xx).out ou309 hi
          have hi309 : ∀ i, S309 i → w.heap.size ≤ i := fun i e => (nw309 i e).elim (hi i) (fun e => Nat.le_trans (l307).size e)
          have l309 := below_out l307 ou309 hi
          clear ou309 nw309 r305_oa r307_m ns r307_xx hi l307
          have nf309_m : ¬ (FD Ad309 nd309 Ld309) g9 := fun e => by
            rcases fd309 _ e with e | e | e
            · exact nf e
            · obtain ⟨⟨off, e1⟩, e2⟩ := e; have := xlo _ off e1 e2; have := upm; omega
            · omega
          have sw309 : ∀ j, S309 j → ¬ (FD Ad309 nd309 Ld309) j := fun j a b => sd309 j b a
          have ob309 := dd309.ob
          have aq309 : AO S309 ba5 r (toR (LT Ld309)) w309 := by rw [ed309, toR_ac]; exact ao309
          have bt309 := hbd309 rfl rfl
          subst bt309
          clear ao309 fd309 hbd309 r305_od ds ds2 lt308_m
          go_wp2_with fail
          have y310 := Lib.hid (show (fun V : World => CB V g9 28 (cA ⟨A1, n1, c1, (r : Int)⟩) ∧ XR w V (some ⟨ga, oa, none⟩) n c L) w309 from ⟨q309_m, q309_xx⟩)
          refine hK.out _ _ y310.out (fun hHeld => ?_)
          clear hK K y310
          try simp only [Act.put, List.setIfInBounds_toArray, List.set_cons_zero, List.set_cons_succ]
          refine wpAnyH_takeL (i := 7) (d := some 48) (v := .tuple #[.agg (cA ⟨Ad309, nd309, cd309, (r : Int)⟩), .bool true]) rfl rfl (by kernel_rfl) (by kernel_rfl) (by kernel_rfl) (fun _ _ _ h => h) (Or.inl ⟨by rfl, ?_⟩) hHeld ?_
          · intro w hSw; (try dsimp only at hSw); go_simp
          try simp only [Act.put, List.setIfInBounds_toArray, List.set_cons_zero, List.set_cons_succ]
          refine wpAnyH_takeL (i := 8) (d := some 56) (v := .agg (cA ⟨Ad309, nd309, cd309, (r : Int)⟩)) rfl rfl (by kernel_rfl) (by kernel_rfl) (by kernel_rfl) (fun _ _ _ h => h) (Or.inl ⟨by rfl, ?_⟩) hHeld ?_
          · intro w hSw; (try dsimp only at hSw); go_simp
          try simp only [Act.put, List.setIfInBounds_toArray, List.set_cons_zero, List.set_cons_succ]
          refine wpAnyH_takeL (i := 9) (d := some 57) (v := .bool true) rfl rfl (by kernel_rfl) (by kernel_rfl) (by kernel_rfl) (fun _ _ _ h => h) (Or.inl ⟨by rfl, ?_⟩) hHeld ?_
          · intro w hSw; (try dsimp only at hSw); go_simp
          try simp only [Act.put, List.setIfInBounds_toArray, List.set_cons_zero, List.set_cons_succ]
          refine wpAnyH_ready (rs := [10]) (by kernel_rfl) (by simp) ?_
          refine AllReadyH.cons rfl (fun K hK => ?_) AllReadyH.nil
          refine rd_alloc rfl 28 rfl (some 8) rfl (cA zeroC) zero_cr ?_
          refine ⟨fun V311 g311 n311 f311 => ?_⟩
          have ne311_m := f311.ne q309_m
          have nn311_oa := aq309.fresh (Nat.le_of_eq f311.at_)
          have nn311_o1 := ob309.fresh (Nat.le_of_eq f311.at_)
          have up311 : w.heap.size ≤ g311 := f311.up l309
          have bl311 := f311.bel
          clear f311
          have r312_oa := aq309.on bl311
          have r312_o1 := ob309.on bl311
          have r314_m := le_on q309_m bl311
          have r314_xx := (q309_xx).on bl311
          have l314 := le_tr l309 bl311
          clear q309_m q309_xx l309
          clear aq309 ob309
          clear bl311
          have y315 := Lib.hid (show (fun V : World => CB V g9 28 (cA ⟨A1, n1, c1, (r : Int)⟩) ∧ XR w V (some ⟨ga, oa, none⟩) n c L) V311 from ⟨r314_m, r314_xx⟩)
          refine hK.out _ _ y315.out (fun hHeld => ?_)
          clear hK K y315
          try simp only [Act.put, List.setIfInBounds_toArray, List.set_cons_zero, List.set_cons_succ]
          refine wpAnyH_ready (rs := [11]) (by kernel_rfl) (by simp) ?_
          refine AllReadyH.cons rfl (fun K hK => ?_) AllReadyH.nil
          refine rd_store rfl 28 _ _ rfl none rfl g311 (cA ⟨Ad309, nd309, cd309, (r : Int)⟩) rfl rfl n311 Try.zCr rfl (cA_one _) ?_
          refine ⟨fun V316 n316 k316 => ?_⟩
          have m316_m := k316.on r314_m ne311_m
          have m316_xx := (r314_xx).wr k316 up311
          have m316_oa := r312_oa.wr k316 nn311_oa
          have m316_o1 := r312_o1.wr k316 nn311_o1
          have o316 := k316.bel _ _ l314 up311
          clear k316
          clear n311 r314_m r314_xx r312_oa r312_o1 l314
          have y317 := Lib.hid (show (fun V : World => CB V g9 28 (cA ⟨A1, n1, c1, (r : Int)⟩) ∧ XR w V (some ⟨ga, oa, none⟩) n c L) V316 from ⟨m316_m, m316_xx⟩)
          refine hK.out _ _ y317.out (fun hHeld => ?_)
          clear hK K y317
          try simp only [Act.put, List.setIfInBounds_toArray, List.set_cons_zero, List.set_cons_succ]
          refine wpAnyH_takeL (i := 12) (d := some 9) (v := .bool true) rfl rfl (by kernel_rfl) (by kernel_rfl) (by kernel_rfl) (fun _ _ _ h => h) (Or.inl ⟨by rfl, ?_⟩) hHeld ?_
          · intro w hSw; (try dsimp only at hSw); go_simp
          try simp only [Act.put, List.setIfInBounds_toArray, List.set_cons_zero, List.set_cons_succ]
          refine wpAnyH_done (by kernel_rfl) ?_ _
          go_wp2_with (first | (first | ((with_reducible refine st_load 28 _ g311 ?_ n316 Try.underlying28 ?_ ?_ ?_); exact rfl; exact rfl; exact Try.zCr) | ((with_reducible refine st_loadG 28 _ g311 ?_ n316 Try.underlying28 ?_ ?_ ?_ ?_); exact rfl; exact rfl; exact Try.zCr; exact rfl)) | ((with_reducible refine st_store 28 _ _ g9 (cA ⟨Ad309, nd309, cd309, (r : Int)⟩) ?_ ?_ m316_m ?_ ?_ ?_ ?_); exact rfl; exact rfl; exact Try.zCr; exact rfl; exact cA_one _))
          refine ⟨fun V318 n318 k318 => ?_⟩
          have m318_b := k318.on n316 (Ne.symm ne311_m)
          have m318_xx := (m316_xx).wr k318 upm
          have m318_oa := m316_oa.wr k318 no309_m
          have m318_o1 := m316_o1.wr k318 nf309_m
          have o318 := k318.bel _ _ o316 upm
          clear k318
          clear m316_m n316 m316_xx m316_oa m316_o1 o316
          go_wp2_with fail
          have y319 := Lib.hid (show (fun V : World => CB V g9 28 (cA ⟨Ad309, nd309, cd309, (r : Int)⟩) ∧ XR w V (some ⟨ga, oa, none⟩) n c L) V318.drew from ⟨CB.drew n318, (m318_xx).drew⟩)
          refine wp_region_held_drew (S := (fun V : World => CB V g9 28 (cA ⟨Ad309, nd309, cd309, (r : Int)⟩) ∧ XR w V (some ⟨ga, oa, none⟩) n c L)) (by kernel_rfl) y319.out (fun hHeld => ?_)
          obtain ⟨D319, hD319⟩ : ∃ V, V318.drew = V := ⟨_, rfl⟩
          have b319 : Below V318.heap.size V318 D319 := by rw [← hD319]; exact le_dr (Below.refl _ _)
          rw [hD319] at hHeld ⊢
          clear hD319
          have r320_oa := m318_oa.on b319
          have r320_o1 := m318_o1.on b319
          have r322_m := le_on n318 b319
          have r322_b := le_on m318_b b319
          have r322_xx := (m318_xx).on b319
          have l322 := le_tr o318 b319
          clear n318 m318_b m318_xx o318
          clear m318_oa m318_o1
          clear b319
          refine wpAnyH_takeL (i := 0) (d := some 59) (v := .bool true) rfl rfl (by kernel_rfl) (by kernel_rfl) (by kernel_rfl) (fun _ _ _ h => h) (Or.inl ⟨by rfl, ?_⟩) hHeld ?_
          · intro w hSw; (try dsimp only at hSw); go_simp
          try simp only [Act.put, List.setIfInBounds_toArray, List.set_cons_zero, List.set_cons_succ]
          refine wpAnyH_takeL (i := 1) (d := some 60) (v := .bool false) rfl rfl (by kernel_rfl) (by kernel_rfl) (by kernel_rfl) (fun _ _ _ h => h) (Or.inl ⟨by rfl, ?_⟩) hHeld ?_
          · intro w hSw; (try dsimp only at hSw); go_simp
          try simp only [Act.put, List.setIfInBounds_toArray, List.set_cons_zero, List.set_cons_succ]
          refine wpAnyH_takeL (i := 2) (d := some 61) (v := .bool false) rfl rfl (by kernel_rfl) (by kernel_rfl) (by kernel_rfl) (fun _ _ _ h => h) (Or.inl ⟨by rfl, ?_⟩) hHeld ?_
          · intro w hSw; (try dsimp only at hSw); go_simp
          try simp only [Act.put, List.setIfInBounds_toArray, List.set_cons_zero, List.set_cons_succ]
          refine wpAnyH_takeL (i := 3) (d := some 62) (v := .pointer (some ⟨ba5, 0, none⟩)) rfl rfl (by kernel_rfl) (by kernel_rfl) (by kernel_rfl) (fun _ _ _ h => h) (Or.inl ⟨by rfl, ?_⟩) hHeld ?_
          · intro w hSw; (try dsimp only at hSw); go_simp
          try simp only [Act.put, List.setIfInBounds_toArray, List.set_cons_zero, List.set_cons_succ]
          refine wpAnyH_takeL (i := 4) (d := some 63) (v := .slice (some ⟨ga, oa, none⟩) n c) rfl rfl (by kernel_rfl) (by kernel_rfl) (by kernel_rfl) (fun _ _ _ h => h) (Or.inl ⟨by rfl, ?_⟩) hHeld ?_
          · intro w hSw; (try dsimp only at hSw); go_simp
          try simp only [Act.put, List.setIfInBounds_toArray, List.set_cons_zero, List.set_cons_succ]
          refine wpAnyH_takeL (i := 5) (d := some 64) (v := .int .i64 (k : Int)) rfl rfl (by kernel_rfl) (by kernel_rfl) (by kernel_rfl) (fun _ _ _ h => h) (Or.inl ⟨by rfl, ?_⟩) hHeld ?_
          · intro w hSw; (try dsimp only at hSw); go_simp
          try simp only [Act.put, List.setIfInBounds_toArray, List.set_cons_zero, List.set_cons_succ]
          refine wpAnyH_takeL (i := 6) (d := some 65) (v := .pointer (some ⟨ga, oa + k * 7, none⟩)) rfl rfl (by kernel_rfl) (by kernel_rfl) (by kernel_rfl) (fun _ _ _ h => h) (Or.inl ⟨by rfl, ?_⟩) hHeld ?_
          · intro w hSw; (try dsimp only at hSw); go_simp
          try simp only [Act.put, List.setIfInBounds_toArray, List.set_cons_zero, List.set_cons_succ]
          refine wpAnyH_takeL (i := 7) (d := some 66) (v := .pointer (some ⟨ga, oa + k * 7 + 2, none⟩)) rfl rfl (by kernel_rfl) (by kernel_rfl) (by kernel_rfl) (fun _ _ _ h => h) (Or.inl ⟨by rfl, ?_⟩) hHeld ?_
          · intro w hSw; (try dsimp only at hSw); go_simp
          try simp only [Act.put, List.setIfInBounds_toArray, List.set_cons_zero, List.set_cons_succ]
          refine wpAnyH_takeL (i := 8) (d := some 67) (v := .int .u8 (x.to : Int)) rfl rfl (by kernel_rfl) (by kernel_rfl) (by kernel_rfl) (fun _ _ _ h => h) (Or.inl ⟨by rfl, ?_⟩) hHeld ?_
          · intro w hSw; have hcc := hSw.2.to_ hxk rfl; go_simp
          try simp only [Act.put, List.setIfInBounds_toArray, List.set_cons_zero, List.set_cons_succ]
          refine wpAnyH_takeL (i := 10) (d := some 69) (v := .agg (cA ⟨Ad309, nd309, cd309, (r : Int)⟩)) rfl rfl (by kernel_rfl) (by kernel_rfl) (by kernel_rfl) (fun _ _ _ h => h) (Or.inl ⟨by rfl, ?_⟩) hHeld ?_
          · intro w hSw; exact yl_whole 28 _ g9 rfl hSw.1 Try.underlying28 rfl Try.zCr
          try simp only [Act.put, List.setIfInBounds_toArray, List.set_cons_zero, List.set_cons_succ]
          refine wpAnyH_takeL (i := 11) (d := some 70) (v := .slice (some ⟨ga, oa, none⟩) n c) rfl rfl (by kernel_rfl) (by kernel_rfl) (by kernel_rfl) (fun _ _ _ h => h) (Or.inl ⟨by rfl, ?_⟩) hHeld ?_
          · intro w hSw; (try dsimp only at hSw); go_simp
          try simp only [Act.put, List.setIfInBounds_toArray, List.set_cons_zero, List.set_cons_succ]
          refine wpAnyH_takeL (i := 12) (d := some 71) (v := .int .i64 (k : Int)) rfl rfl (by kernel_rfl) (by kernel_rfl) (by kernel_rfl) (fun _ _ _ h => h) (Or.inl ⟨by rfl, ?_⟩) hHeld ?_
          · intro w hSw; (try dsimp only at hSw); go_simp
          try simp only [Act.put, List.setIfInBounds_toArray, List.set_cons_zero, List.set_cons_succ]
          refine wpAnyH_takeL (i := 13) (d := some 72) (v := .pointer (some ⟨ga, oa + k * 7, none⟩)) rfl rfl (by kernel_rfl) (by kernel_rfl) (by kernel_rfl) (fun _ _ _ h => h) (Or.inl ⟨by rfl, ?_⟩) hHeld ?_
          · intro w hSw; (try dsimp only at hSw); go_simp
          try simp only [Act.put, List.setIfInBounds_toArray, List.set_cons_zero, List.set_cons_succ]
          refine wpAnyH_takeL (i := 14) (d := some 73) (v := .pointer (some ⟨ga, oa + k * 7 + 2, none⟩)) rfl rfl (by kernel_rfl) (by kernel_rfl) (by kernel_rfl) (fun _ _ _ h => h) (Or.inl ⟨by rfl, ?_⟩) hHeld ?_
          · intro w hSw; (try dsimp only at hSw); go_simp
          try simp only [Act.put, List.setIfInBounds_toArray, List.set_cons_zero, List.set_cons_succ]
          refine wpAnyH_takeL (i := 15) (d := some 74) (v := .int .u8 (x.to : Int)) rfl rfl (by kernel_rfl) (by kernel_rfl) (by kernel_rfl) (fun _ _ _ h => h) (Or.inl ⟨by rfl, ?_⟩) hHeld ?_
          · intro w hSw; have hcc := hSw.2.to_ hxk rfl; go_simp
          try simp only [Act.put, List.setIfInBounds_toArray, List.set_cons_zero, List.set_cons_succ]
          refine wpAnyH_ready (rs := [9]) (by kernel_rfl) (by simp) ?_
          refine AllReadyH.cons rfl (fun K hK => ?_) AllReadyH.nil
          go_simp
          (with_reducible refine (alen_c S309 ba5 r (toR (LT Ld309)) x.to _ r320_oa).mono ?_)
          rintro e0 w' ⟨rfl, rfl⟩
          go_wp2_with fail
          have y323 := Lib.hid (show (fun V : World => CB V g9 28 (cA ⟨Ad309, nd309, cd309, (r : Int)⟩) ∧ XR w V (some ⟨ga, oa, none⟩) n c L) D319 from ⟨r322_m, r322_xx⟩)
          refine hK.out _ _ y323.out (fun hHeld => ?_)
          clear hK K y323
          try simp only [Act.put, List.setIfInBounds_toArray, List.set_cons_zero, List.set_cons_succ]
          refine wpAnyH_ready (rs := [16]) (by kernel_rfl) (by simp) ?_
          refine AllReadyH.cons rfl (fun K hK => ?_) AllReadyH.nil
          go_simp
          (with_reducible refine (len_r Ad309 nd309 cd309 Ld309 (r : Int) x.to _ r320_o1.ok).mono ?_)
          rintro e0 w8 ⟨rfl, b8⟩
          have r324_oa := r320_oa.on b8
          have r324_o1 := r320_o1.on b8
          have r326_m := le_on r322_m b8
          have r326_b := le_on r322_b b8
          have r326_xx := (r322_xx).on b8
          have l326 := le_tr l322 b8
          clear r322_m r322_b r322_xx l322
          clear r320_oa r320_o1
          clear b8
          go_wp2_with fail
          have y327 := Lib.hid (show (fun V : World => CB V g9 28 (cA ⟨Ad309, nd309, cd309, (r : Int)⟩) ∧ XR w V (some ⟨ga, oa, none⟩) n c L) w8 from ⟨r326_m, r326_xx⟩)
          refine hK.out _ _ y327.out (fun hHeld => ?_)
          clear hK K y327
          try simp only [Act.put, List.setIfInBounds_toArray, List.set_cons_zero, List.set_cons_succ]
          refine wpAnyH_takeL (i := 17) (d := some 76) (v := .bool false) rfl rfl (by kernel_rfl) (by kernel_rfl) (by kernel_rfl) (fun _ _ _ h => h) (Or.inl ⟨by rfl, ?_⟩) hHeld ?_
          · intro w hSw; (try dsimp only at hSw); go_simp
          try simp only [Act.put, List.setIfInBounds_toArray, List.set_cons_zero, List.set_cons_succ]
          refine wpAnyH_takeL (i := 18) (d := some 77) (v := .bool false) rfl rfl (by kernel_rfl) (by kernel_rfl) (by kernel_rfl) (fun _ _ _ h => h) (Or.inl ⟨by rfl, ?_⟩) hHeld ?_
          · intro w hSw; (try dsimp only at hSw); go_simp
          try simp only [Act.put, List.setIfInBounds_toArray, List.set_cons_zero, List.set_cons_succ]
          refine wpAnyH_done (by kernel_rfl) ?_ _
          go_wp2_with fail
          go_roundw
          case rel => exact ⟨k + 1, by omega, by omega, by go_num, r326_xx, _, _, _, _, _, lt_len ed309 dd309.rr.len (Nat.le_trans (ac_len _ _ _) (by have := lt_len (n1 := n1) rfl rfl (Nat.le_of_eq hlm); simp only [LT] at this ⊢; simp; omega)), r324_oa, hi309, r324_o1, sd309, nf309_m, no309_m, r326_m, l326⟩
          case measure => simp [intOf]; omega
        · skip
          refine rd_alloc rfl 28 rfl (some 8) rfl (cA zeroC) zero_cr ?_
          refine ⟨fun V308 g308 n308 f308 => ?_⟩
          have ne308_m := f308.ne r307_m
          have nn308_oa := r305_oa.fresh (Nat.le_of_eq f308.at_)
          have nn308_od := r305_od.fresh (Nat.le_of_eq f308.at_)
          have up308 : w.heap.size ≤ g308 := f308.up l307
          have bl308 := f308.bel
          clear f308
          have r309_oa := r305_oa.on bl308
          have r309_od := r305_od.on bl308
          have r311_m := le_on r307_m bl308
          have r311_xx := (r307_xx).on bl308
          have l311 := le_tr l307 bl308
          clear r307_m r307_xx l307
          clear r305_oa r305_od
          clear bl308
          have y312 := Lib.hid (show (fun V : World => CB V g9 28 (cA ⟨A1, n1, c1, (r : Int)⟩) ∧ XR w V (some ⟨ga, oa, none⟩) n c L) V308 from ⟨r311_m, r311_xx⟩)
          refine hK.out _ _ y312.out (fun hHeld => ?_)
          clear hK K y312
          try simp only [Act.put, List.setIfInBounds_toArray, List.set_cons_zero, List.set_cons_succ]
          refine wpAnyH_ready (rs := [6]) (by kernel_rfl) (by simp) ?_
          refine AllReadyH.cons rfl (fun K hK => ?_) AllReadyH.nil
          go_simp
          have lt313_m := CB.lt r311_m
          have lt313_b := CB.lt n308
          have cc314 := does_c S ba5 r (toR (LT L1)) A1 n1 c1 L1 r x _ r309_oa r309_od.ok hRy (by omega) (r311_xx.el x hxm).rr hxp ds xn1
          (with_reducible refine cc314.mono ?_)
          clear cc314
          rintro e w314 ⟨Ad314, nd314, cd314, Ld314, bd314, S314, rfl, hbd314, ao314, dd314, ed314, nw314, sd314, fd314, ou314⟩
          have q314_m := ou314.box r311_m ns
          have no314_m : ¬ S314 g9 := fun e => (nw314 _ e).elim ns (fun e => by have := CB.lt r311_m; omega)
          have q314_b := ou314.box n308 nn308_oa
          have no314_b : ¬ S314 g308 := fun e => (nw314 _ e).elim nn308_oa (fun e => by have := CB.lt n308; omega)
          have q314_xx := (r311_xx).out ou314 hi
          have hi314 : ∀ i, S314 i → w.heap.size ≤ i := fun i e => (nw314 i e).elim (hi i) (fun e => Nat.le_trans (l311).size e)
          have l314 := below_out l311 ou314 hi
          clear ou314 nw314 r309_oa r311_m ns n308 nn308_oa r311_xx hi l311
          have nf314_m : ¬ (FD Ad314 nd314 Ld314) g9 := fun e => by
            rcases fd314 _ e with e | e | e
            · exact nf e
            · obtain ⟨⟨off, e1⟩, e2⟩ := e; have := xlo _ off e1 e2; have := upm; omega
            · omega
          have nf314_b : ¬ (FD Ad314 nd314 Ld314) g308 := fun e => by
            rcases fd314 _ e with e | e | e
            · exact nn308_od e
            · obtain ⟨⟨off, e1⟩, e2⟩ := e; have := xlo _ off e1 e2; have := up308; omega
            · omega
          have sw314 : ∀ j, S314 j → ¬ (FD Ad314 nd314 Ld314) j := fun j a b => sd314 j b a
          have ob314 := dd314.ob
          have aq314 : AO S314 ba5 r (toR (LT Ld314)) w314 := by rw [ed314, toR_ac]; exact ao314
          have bt314 := hbd314 rfl rfl
          subst bt314
          clear ao314 fd314 hbd314 r309_od ds ds2 lt313_m lt313_b
          go_wp2_with fail
          have y315 := Lib.hid (show (fun V : World => CB V g9 28 (cA ⟨A1, n1, c1, (r : Int)⟩) ∧ XR w V (some ⟨ga, oa, none⟩) n c L) w314 from ⟨q314_m, q314_xx⟩)
          refine hK.out _ _ y315.out (fun hHeld => ?_)
          clear hK K y315
          try simp only [Act.put, List.setIfInBounds_toArray, List.set_cons_zero, List.set_cons_succ]
          refine wpAnyH_takeL (i := 7) (d := some 48) (v := .tuple #[.agg (cA ⟨Ad314, nd314, cd314, (r : Int)⟩), .bool true]) rfl rfl (by kernel_rfl) (by kernel_rfl) (by kernel_rfl) (fun _ _ _ h => h) (Or.inl ⟨by rfl, ?_⟩) hHeld ?_
          · intro w hSw; (try dsimp only at hSw); go_simp
          try simp only [Act.put, List.setIfInBounds_toArray, List.set_cons_zero, List.set_cons_succ]
          refine wpAnyH_takeL (i := 8) (d := some 56) (v := .agg (cA ⟨Ad314, nd314, cd314, (r : Int)⟩)) rfl rfl (by kernel_rfl) (by kernel_rfl) (by kernel_rfl) (fun _ _ _ h => h) (Or.inl ⟨by rfl, ?_⟩) hHeld ?_
          · intro w hSw; (try dsimp only at hSw); go_simp
          try simp only [Act.put, List.setIfInBounds_toArray, List.set_cons_zero, List.set_cons_succ]
          refine wpAnyH_takeL (i := 9) (d := some 57) (v := .bool true) rfl rfl (by kernel_rfl) (by kernel_rfl) (by kernel_rfl) (fun _ _ _ h => h) (Or.inl ⟨by rfl, ?_⟩) hHeld ?_
          · intro w hSw; (try dsimp only at hSw); go_simp
          try simp only [Act.put, List.setIfInBounds_toArray, List.set_cons_zero, List.set_cons_succ]
          refine wpAnyH_ready (rs := [11]) (by kernel_rfl) (by simp) ?_
          refine AllReadyH.cons rfl (fun K hK => ?_) AllReadyH.nil
          refine rd_store rfl 28 _ _ rfl none rfl g308 (cA ⟨Ad314, nd314, cd314, (r : Int)⟩) rfl rfl q314_b Try.zCr rfl (cA_one _) ?_
          refine ⟨fun V316 n316 k316 => ?_⟩
          have m316_m := k316.on q314_m ne308_m
          have m316_xx := (q314_xx).wr k316 up308
          have m316_oa := aq314.wr k316 no314_b
          have m316_o1 := ob314.wr k316 nf314_b
          have o316 := k316.bel _ _ l314 up308
          clear k316
          clear q314_b q314_m q314_xx aq314 ob314 l314
          have y317 := Lib.hid (show (fun V : World => CB V g9 28 (cA ⟨A1, n1, c1, (r : Int)⟩) ∧ XR w V (some ⟨ga, oa, none⟩) n c L) V316 from ⟨m316_m, m316_xx⟩)
          refine hK.out _ _ y317.out (fun hHeld => ?_)
          clear hK K y317
          try simp only [Act.put, List.setIfInBounds_toArray, List.set_cons_zero, List.set_cons_succ]
          refine wpAnyH_takeL (i := 12) (d := some 9) (v := .bool true) rfl rfl (by kernel_rfl) (by kernel_rfl) (by kernel_rfl) (fun _ _ _ h => h) (Or.inl ⟨by rfl, ?_⟩) hHeld ?_
          · intro w hSw; (try dsimp only at hSw); go_simp
          try simp only [Act.put, List.setIfInBounds_toArray, List.set_cons_zero, List.set_cons_succ]
          refine wpAnyH_done (by kernel_rfl) ?_ _
          go_wp2_with (first | (first | ((with_reducible refine st_load 28 _ g308 ?_ n316 Try.underlying28 ?_ ?_ ?_); exact rfl; exact rfl; exact Try.zCr) | ((with_reducible refine st_loadG 28 _ g308 ?_ n316 Try.underlying28 ?_ ?_ ?_ ?_); exact rfl; exact rfl; exact Try.zCr; exact rfl)) | ((with_reducible refine st_store 28 _ _ g9 (cA ⟨Ad314, nd314, cd314, (r : Int)⟩) ?_ ?_ m316_m ?_ ?_ ?_ ?_); exact rfl; exact rfl; exact Try.zCr; exact rfl; exact cA_one _))
          refine ⟨fun V318 n318 k318 => ?_⟩
          have m318_b := k318.on n316 (Ne.symm ne308_m)
          have m318_xx := (m316_xx).wr k318 upm
          have m318_oa := m316_oa.wr k318 no314_m
          have m318_o1 := m316_o1.wr k318 nf314_m
          have o318 := k318.bel _ _ o316 upm
          clear k318
          clear m316_m n316 m316_xx m316_oa m316_o1 o316
          go_wp2_with fail
          have y319 := Lib.hid (show (fun V : World => CB V g9 28 (cA ⟨Ad314, nd314, cd314, (r : Int)⟩) ∧ XR w V (some ⟨ga, oa, none⟩) n c L) V318.drew from ⟨CB.drew n318, (m318_xx).drew⟩)
          refine wp_region_held_drew (S := (fun V : World => CB V g9 28 (cA ⟨Ad314, nd314, cd314, (r : Int)⟩) ∧ XR w V (some ⟨ga, oa, none⟩) n c L)) (by kernel_rfl) y319.out (fun hHeld => ?_)
          obtain ⟨D319, hD319⟩ : ∃ V, V318.drew = V := ⟨_, rfl⟩
          have b319 : Below V318.heap.size V318 D319 := by rw [← hD319]; exact le_dr (Below.refl _ _)
          rw [hD319] at hHeld ⊢
          clear hD319
          have r320_oa := m318_oa.on b319
          have r320_o1 := m318_o1.on b319
          have r322_m := le_on n318 b319
          have r322_b := le_on m318_b b319
          have r322_xx := (m318_xx).on b319
          have l322 := le_tr o318 b319
          clear n318 m318_b m318_xx o318
          clear m318_oa m318_o1
          clear b319
          refine wpAnyH_takeL (i := 0) (d := some 59) (v := .bool true) rfl rfl (by kernel_rfl) (by kernel_rfl) (by kernel_rfl) (fun _ _ _ h => h) (Or.inl ⟨by rfl, ?_⟩) hHeld ?_
          · intro w hSw; (try dsimp only at hSw); go_simp
          try simp only [Act.put, List.setIfInBounds_toArray, List.set_cons_zero, List.set_cons_succ]
          refine wpAnyH_takeL (i := 1) (d := some 60) (v := .bool false) rfl rfl (by kernel_rfl) (by kernel_rfl) (by kernel_rfl) (fun _ _ _ h => h) (Or.inl ⟨by rfl, ?_⟩) hHeld ?_
          · intro w hSw; (try dsimp only at hSw); go_simp
          try simp only [Act.put, List.setIfInBounds_toArray, List.set_cons_zero, List.set_cons_succ]
          refine wpAnyH_takeL (i := 2) (d := some 61) (v := .bool false) rfl rfl (by kernel_rfl) (by kernel_rfl) (by kernel_rfl) (fun _ _ _ h => h) (Or.inl ⟨by rfl, ?_⟩) hHeld ?_
          · intro w hSw; (try dsimp only at hSw); go_simp
          try simp only [Act.put, List.setIfInBounds_toArray, List.set_cons_zero, List.set_cons_succ]
          refine wpAnyH_takeL (i := 3) (d := some 62) (v := .pointer (some ⟨ba5, 0, none⟩)) rfl rfl (by kernel_rfl) (by kernel_rfl) (by kernel_rfl) (fun _ _ _ h => h) (Or.inl ⟨by rfl, ?_⟩) hHeld ?_
          · intro w hSw; (try dsimp only at hSw); go_simp
          try simp only [Act.put, List.setIfInBounds_toArray, List.set_cons_zero, List.set_cons_succ]
          refine wpAnyH_takeL (i := 4) (d := some 63) (v := .slice (some ⟨ga, oa, none⟩) n c) rfl rfl (by kernel_rfl) (by kernel_rfl) (by kernel_rfl) (fun _ _ _ h => h) (Or.inl ⟨by rfl, ?_⟩) hHeld ?_
          · intro w hSw; (try dsimp only at hSw); go_simp
          try simp only [Act.put, List.setIfInBounds_toArray, List.set_cons_zero, List.set_cons_succ]
          refine wpAnyH_takeL (i := 5) (d := some 64) (v := .int .i64 (k : Int)) rfl rfl (by kernel_rfl) (by kernel_rfl) (by kernel_rfl) (fun _ _ _ h => h) (Or.inl ⟨by rfl, ?_⟩) hHeld ?_
          · intro w hSw; (try dsimp only at hSw); go_simp
          try simp only [Act.put, List.setIfInBounds_toArray, List.set_cons_zero, List.set_cons_succ]
          refine wpAnyH_takeL (i := 6) (d := some 65) (v := .pointer (some ⟨ga, oa + k * 7, none⟩)) rfl rfl (by kernel_rfl) (by kernel_rfl) (by kernel_rfl) (fun _ _ _ h => h) (Or.inl ⟨by rfl, ?_⟩) hHeld ?_
          · intro w hSw; (try dsimp only at hSw); go_simp
          try simp only [Act.put, List.setIfInBounds_toArray, List.set_cons_zero, List.set_cons_succ]
          refine wpAnyH_takeL (i := 7) (d := some 66) (v := .pointer (some ⟨ga, oa + k * 7 + 2, none⟩)) rfl rfl (by kernel_rfl) (by kernel_rfl) (by kernel_rfl) (fun _ _ _ h => h) (Or.inl ⟨by rfl, ?_⟩) hHeld ?_
          · intro w hSw; (try dsimp only at hSw); go_simp
          try simp only [Act.put, List.setIfInBounds_toArray, List.set_cons_zero, List.set_cons_succ]
          refine wpAnyH_takeL (i := 8) (d := some 67) (v := .int .u8 (x.to : Int)) rfl rfl (by kernel_rfl) (by kernel_rfl) (by kernel_rfl) (fun _ _ _ h => h) (Or.inl ⟨by rfl, ?_⟩) hHeld ?_
          · intro w hSw; have hcc := hSw.2.to_ hxk rfl; go_simp
          try simp only [Act.put, List.setIfInBounds_toArray, List.set_cons_zero, List.set_cons_succ]
          refine wpAnyH_takeL (i := 10) (d := some 69) (v := .agg (cA ⟨Ad314, nd314, cd314, (r : Int)⟩)) rfl rfl (by kernel_rfl) (by kernel_rfl) (by kernel_rfl) (fun _ _ _ h => h) (Or.inl ⟨by rfl, ?_⟩) hHeld ?_
          · intro w hSw; exact yl_whole 28 _ g9 rfl hSw.1 Try.underlying28 rfl Try.zCr
          try simp only [Act.put, List.setIfInBounds_toArray, List.set_cons_zero, List.set_cons_succ]
          refine wpAnyH_takeL (i := 11) (d := some 70) (v := .slice (some ⟨ga, oa, none⟩) n c) rfl rfl (by kernel_rfl) (by kernel_rfl) (by kernel_rfl) (fun _ _ _ h => h) (Or.inl ⟨by rfl, ?_⟩) hHeld ?_
          · intro w hSw; (try dsimp only at hSw); go_simp
          try simp only [Act.put, List.setIfInBounds_toArray, List.set_cons_zero, List.set_cons_succ]
          refine wpAnyH_takeL (i := 12) (d := some 71) (v := .int .i64 (k : Int)) rfl rfl (by kernel_rfl) (by kernel_rfl) (by kernel_rfl) (fun _ _ _ h => h) (Or.inl ⟨by rfl, ?_⟩) hHeld ?_
          · intro w hSw; (try dsimp only at hSw); go_simp
          try simp only [Act.put, List.setIfInBounds_toArray, List.set_cons_zero, List.set_cons_succ]
          refine wpAnyH_takeL (i := 13) (d := some 72) (v := .pointer (some ⟨ga, oa + k * 7, none⟩)) rfl rfl (by kernel_rfl) (by kernel_rfl) (by kernel_rfl) (fun _ _ _ h => h) (Or.inl ⟨by rfl, ?_⟩) hHeld ?_
          · intro w hSw; (try dsimp only at hSw); go_simp
          try simp only [Act.put, List.setIfInBounds_toArray, List.set_cons_zero, List.set_cons_succ]
          refine wpAnyH_takeL (i := 14) (d := some 73) (v := .pointer (some ⟨ga, oa + k * 7 + 2, none⟩)) rfl rfl (by kernel_rfl) (by kernel_rfl) (by kernel_rfl) (fun _ _ _ h => h) (Or.inl ⟨by rfl, ?_⟩) hHeld ?_
          · intro w hSw; (try dsimp only at hSw); go_simp
          try simp only [Act.put, List.setIfInBounds_toArray, List.set_cons_zero, List.set_cons_succ]
          refine wpAnyH_takeL (i := 15) (d := some 74) (v := .int .u8 (x.to : Int)) rfl rfl (by kernel_rfl) (by kernel_rfl) (by kernel_rfl) (fun _ _ _ h => h) (Or.inl ⟨by rfl, ?_⟩) hHeld ?_
          · intro w hSw; have hcc := hSw.2.to_ hxk rfl; go_simp
          try simp only [Act.put, List.setIfInBounds_toArray, List.set_cons_zero, List.set_cons_succ]
          refine wpAnyH_ready (rs := [9]) (by kernel_rfl) (by simp) ?_
          refine AllReadyH.cons rfl (fun K hK => ?_) AllReadyH.nil
          go_simp
          (with_reducible refine (alen_c S314 ba5 r (toR (LT Ld314)) x.to _ r320_oa).mono ?_)
          rintro e0 w' ⟨rfl, rfl⟩
          go_wp2_with fail
          have y323 := Lib.hid (show (fun V : World => CB V g9 28 (cA ⟨Ad314, nd314, cd314, (r : Int)⟩) ∧ XR w V (some ⟨ga, oa, none⟩) n c L) D319 from ⟨r322_m, r322_xx⟩)
          refine hK.out _ _ y323.out (fun hHeld => ?_)
          clear hK K y323
          try simp only [Act.put, List.setIfInBounds_toArray, List.set_cons_zero, List.set_cons_succ]
          refine wpAnyH_ready (rs := [16]) (by kernel_rfl) (by simp) ?_
          refine AllReadyH.cons rfl (fun K hK => ?_) AllReadyH.nil
          go_simp
          (with_reducible refine (len_r Ad314 nd314 cd314 Ld314 (r : Int) x.to _ r320_o1.ok).mono ?_)
          rintro e0 w8 ⟨rfl, b8⟩
          have r324_oa := r320_oa.on b8
          have r324_o1 := r320_o1.on b8
          have r326_m := le_on r322_m b8
          have r326_b := le_on r322_b b8
          have r326_xx := (r322_xx).on b8
          have l326 := le_tr l322 b8
          clear r322_m r322_b r322_xx l322
          clear r320_oa r320_o1
          clear b8
          go_wp2_with fail
          have y327 := Lib.hid (show (fun V : World => CB V g9 28 (cA ⟨Ad314, nd314, cd314, (r : Int)⟩) ∧ XR w V (some ⟨ga, oa, none⟩) n c L) w8 from ⟨r326_m, r326_xx⟩)
          refine hK.out _ _ y327.out (fun hHeld => ?_)
          clear hK K y327
          try simp only [Act.put, List.setIfInBounds_toArray, List.set_cons_zero, List.set_cons_succ]
          refine wpAnyH_takeL (i := 17) (d := some 76) (v := .bool false) rfl rfl (by kernel_rfl) (by kernel_rfl) (by kernel_rfl) (fun _ _ _ h => h) (Or.inl ⟨by rfl, ?_⟩) hHeld ?_
          · intro w hSw; (try dsimp only at hSw); go_simp
          try simp only [Act.put, List.setIfInBounds_toArray, List.set_cons_zero, List.set_cons_succ]
          refine wpAnyH_takeL (i := 18) (d := some 77) (v := .bool false) rfl rfl (by kernel_rfl) (by kernel_rfl) (by kernel_rfl) (fun _ _ _ h => h) (Or.inl ⟨by rfl, ?_⟩) hHeld ?_
          · intro w hSw; (try dsimp only at hSw); go_simp
          try simp only [Act.put, List.setIfInBounds_toArray, List.set_cons_zero, List.set_cons_succ]
          refine wpAnyH_done (by kernel_rfl) ?_ _
          go_wp2_with fail
          go_roundw
          case rel => exact ⟨k + 1, by omega, by omega, by go_num, r326_xx, _, _, _, _, _, lt_len ed314 dd314.rr.len (Nat.le_trans (ac_len _ _ _) (by have := lt_len (n1 := n1) rfl rfl (Nat.le_of_eq hlm); simp only [LT] at this ⊢; simp; omega)), r324_oa, hi314, r324_o1, sd314, nf314_m, no314_m, r326_m, l326⟩
          case measure => simp [intOf]; omega
      have hend : ¬ (k < n) ∨ ¬ (k < 80) := by omega
      have hn80 : n1 ≤ 80 := by omega
      by_cases hkn2 : k < n
      · skip
        have g1 : (k : Int) < n := by omega
        obtain rfl : k = 80 := by omega
        have g2 : ¬ ((80 : Nat) : Int) < 80 := by omega
        clear hlt hend hkn hk80 hkn2 hlen hnk hx hpl
        go_wp2_with fail
        go_loopw [78] (fun iv wr => ∃ t : Nat, t ≤ 17 ∧ iv = .int .u8 t ∧ ∃ (S : Nat → Prop) (A1 : Option Addr) (n1 c1 : Nat) (L1 : List Lm), n1 ≤ 80 ∧ Both w wr g9 ba5 r S A1 n1 c1 L1) (fun iv _ => 17 - (intOf iv).toNat)
        case atStart => exact ⟨0, by omega, rfl, S, A1, n1, c1, L1, hn80, hB⟩
        case round =>
          clear hB hn80
          obtain ⟨t, ht17, rfl, S, A1, n1, c1, L1, hn80, hB⟩ := hrel
          obtain ⟨wz, hwz⟩ : ∃ z, z = wr := ⟨_, rfl⟩
          subst hwz
          by_cases ht : t < 17
          rotate_left
          · skip
            have t1 : ¬ (t : Int) < 17 := by omega
            go_wp2_with fail
            go_ret
            exact ⟨rfl, hB.low⟩
          have t1 : (t : Int) < 17 := by omega
          have l7 : IntKind.u8.wrap ((t : Int) + 1) = (t : Int) + 1 := by rw [IntKind.wrap_u8]; omega
          obtain ⟨N0, hN0⟩ : ∃ N0, (toR (LT L1) t).length = N0 := ⟨_, rfl⟩
          go_wp2_with fail
          go_loopg [] N0 (fun N wr => ∃ (S : Nat → Prop) (A1 : Option Addr) (n1 c1 : Nat) (L1 : List Lm), Hid ((toR (LT L1) t).length = N) ∧ n1 ≤ 80 ∧ Both w wr g9 ba5 r S A1 n1 c1 L1)
          case atStart => exact ⟨S, A1, n1, c1, L1, Lib.hid hN0, hn80, hB⟩
          case round =>
            clear hB hn80 hN0
            obtain ⟨S, A1, n1, c1, L1, hN, hn80, hB⟩ := hrel
            obtain ⟨ha, hi, hod, ds, nf, ns, hm, hw⟩ := hB
            have ds2 : ∀ i, S i → ¬ FD A1 n1 L1 i := fun i a b => ds i b a
            have LR := len_r A1 n1 c1 L1 (r : Int) t _ hod.ok
            rw [hN.out] at LR
            have hRy := ha.ok.ok
            have hlq : (LT L1).length ≤ 80 := by have := hod.ok.rr.len; unfold LT; simp; omega
            rcases Nat.eq_zero_or_pos gk with h0 | h0
            · subst h0
              go_wp2_with (first | (first | ((with_reducible refine st_load 28 _ g9 ?_ hm Try.underlying28 ?_ ?_ ?_); exact rfl; exact rfl; exact Try.zCr) | ((with_reducible refine st_loadG 28 _ g9 ?_ hm Try.underlying28 ?_ ?_ ?_ ?_); exact rfl; exact rfl; exact Try.zCr; exact rfl)))
              (with_reducible refine LR.mono ?_)
              rintro e0 w8 ⟨rfl, b8⟩
              clear LR
              have r701_oa := ha.on b8
              have r701_od := hod.on b8
              have r703_m := le_on hm b8
              have l703 := le_tr hw b8
              clear hm hw
              clear ha hod
              clear b8
              go_wp2_with fail
              go_roundw
              case rel => exact ⟨t + 1, by omega, by go_num, S, A1, n1, c1, L1, hn80, r701_oa, hi, r701_od, ds, nf, ns, r703_m, l703⟩
              case measure => simp [intOf]; omega
            obtain ⟨N, rfl⟩ : ∃ N, gk = N + 1 := ⟨gk - 1, by omega⟩
            have hpos : decide ((0 : Int) < ((N + 1 : Nat) : Int)) = true := by rw [decide_eq_true_iff]; omega
            have hp2 : (0 : Int) < (N : Int) + 1 := by omega
            go_wp2_with (first | (first | ((with_reducible refine st_load 28 _ g9 ?_ hm Try.underlying28 ?_ ?_ ?_); exact rfl; exact rfl; exact Try.zCr) | ((with_reducible refine st_loadG 28 _ g9 ?_ hm Try.underlying28 ?_ ?_ ?_ ?_); exact rfl; exact rfl; exact Try.zCr; exact rfl)))
            (with_reducible refine LR.mono ?_)
            rintro e0 w8 ⟨rfl, b8⟩
            clear LR
            have r701_oa := ha.on b8
            have r701_od := hod.on b8
            have r703_m := le_on hm b8
            have l703 := le_tr hw b8
            clear hm hw
            clear ha hod
            clear b8
            have lt704_m := CB.lt r703_m
            go_wp2_with (first | (first | ((with_reducible refine st_load 28 _ g9 ?_ r703_m Try.underlying28 ?_ ?_ ?_); exact rfl; exact rfl; exact Try.zCr) | ((with_reducible refine st_loadG 28 _ g9 ?_ r703_m Try.underlying28 ?_ ?_ ?_ ?_); exact rfl; exact rfl; exact Try.zCr; exact rfl)) | ((with_reducible refine st_built2n 33 0 2 _ _ (.int .u8 3) (.int .u8 (t : Int)) (xA ⟨3, 0, t, [], none, 0, 0, 0, 0, 0⟩) ?_ ?_ ?_ ?_); exact rfl; exact rfl; exact built_x3 t))
            have cc705 := does_c S ba5 r (toR (LT L1)) A1 n1 c1 L1 r ⟨3, 0, t, [], none, 0, 0, 0, 0, 0⟩ _ r701_oa r701_od.ok hRy (by omega) (RR.nil _ _ _) (by show 0 < 65536; decide) ds (fun g e => by obtain ⟨⟨_, e⟩, _⟩ := e; cases e)
            (with_reducible refine cc705.mono ?_)
            clear cc705
            rintro e w705 ⟨Ad705, nd705, cd705, Ld705, bd705, S705, rfl, hbd705, ao705, dd705, ed705, nw705, sd705, fd705, ou705⟩
            have q705_m := ou705.box r703_m ns
            have no705_m : ¬ S705 g9 := fun e => (nw705 _ e).elim ns (fun e => by have := CB.lt r703_m; omega)
            have hi705 : ∀ i, S705 i → w.heap.size ≤ i := fun i e => (nw705 i e).elim (hi i) (fun e => Nat.le_trans (l703).size e)
            have l705 := below_out l703 ou705 hi
            clear ou705 nw705 r701_oa r703_m ns hi l703
            have nf705_m : ¬ (FD Ad705 nd705 Ld705) g9 := fun e => by
              rcases fd705 _ e with e | e | e
              · exact nf e
              · obtain ⟨⟨off, e1⟩, e2⟩ := e; cases e1
              · omega
            have sw705 : ∀ j, S705 j → ¬ (FD Ad705 nd705 Ld705) j := fun j a b => sd705 j b a
            have ob705 := dd705.ob
            have aq705 : AO S705 ba5 r (toR (LT Ld705)) w705 := by rw [ed705, toR_ac]; exact ao705
            have bt705 := hbd705 rfl rfl
            subst bt705
            clear ao705 fd705 hbd705 r701_od ds ds2 lt704_m
            go_wp2_with (first | ((with_reducible refine st_alloc 28 (cA zeroC) ?_ ?_); exact zero_cr))
            refine ⟨fun V706 g706 n706 f706 => ?_⟩
            have ne706_m := f706.ne q705_m
            have nn706_oa := aq705.fresh (Nat.le_of_eq f706.at_)
            have nn706_o1 := ob705.fresh (Nat.le_of_eq f706.at_)
            have up706 : w.heap.size ≤ g706 := f706.up l705
            have bl706 := f706.bel
            clear f706
            have r707_oa := aq705.on bl706
            have r707_o1 := ob705.on bl706
            have r709_m := le_on q705_m bl706
            have l709 := le_tr l705 bl706
            clear q705_m l705
            clear aq705 ob705
            clear bl706
            go_wp2_with (first | ((with_reducible refine st_store 28 _ _ g706 (cA ⟨Ad705, nd705, cd705, (r : Int)⟩) ?_ ?_ n706 ?_ ?_ ?_ ?_); exact rfl; exact rfl; exact Try.zCr; exact rfl; exact cA_one _))
            refine ⟨fun V710 n710 k710 => ?_⟩
            have m710_m := k710.on r709_m ne706_m
            have m710_oa := r707_oa.wr k710 nn706_oa
            have m710_o1 := r707_o1.wr k710 nn706_o1
            have o710 := k710.bel _ _ l709 up706
            clear k710
            clear n706 r709_m r707_oa r707_o1 l709
            go_wp2_with (first | (first | ((with_reducible refine st_load 28 _ g706 ?_ n710 Try.underlying28 ?_ ?_ ?_); exact rfl; exact rfl; exact Try.zCr) | ((with_reducible refine st_loadG 28 _ g706 ?_ n710 Try.underlying28 ?_ ?_ ?_ ?_); exact rfl; exact rfl; exact Try.zCr; exact rfl)) | ((with_reducible refine st_store 28 _ _ g9 (cA ⟨Ad705, nd705, cd705, (r : Int)⟩) ?_ ?_ m710_m ?_ ?_ ?_ ?_); exact rfl; exact rfl; exact Try.zCr; exact rfl; exact cA_one _))
            refine ⟨fun V711 n711 k711 => ?_⟩
            have m711_b := k711.on n710 (Ne.symm ne706_m)
            have m711_oa := m710_oa.wr k711 no705_m
            have m711_o1 := m710_o1.wr k711 nf705_m
            have o711 := k711.bel _ _ o710 upm
            clear k711
            clear m710_m n710 m710_oa m710_o1 o710
            go_wp2_with fail
            have hlm : (LT L1).length ≤ 80 := hlq
            have hN2 : (toR (LT Ld705) t).length = N := by rw [ed705]; exact less_one ht hN.out
            go_roundg N
            case measure => omega
            case rel => exact ⟨_, _, _, _, _, Lib.hid hN2, lt_len ed705 dd705.rr.len (Nat.le_trans less_len hlm), m711_oa, hi705, m711_o1, sd705, nf705_m, no705_m, n711, o711⟩
      have g1 : ¬ (k : Int) < n := by omega
      clear hlt hend hkn hk80 hkn2 hlen hnk hx hpl
      go_wp2_with fail
      go_loopw [78] (fun iv wr => ∃ t : Nat, t ≤ 17 ∧ iv = .int .u8 t ∧ ∃ (S : Nat → Prop) (A1 : Option Addr) (n1 c1 : Nat) (L1 : List Lm), n1 ≤ 80 ∧ Both w wr g9 ba5 r S A1 n1 c1 L1) (fun iv _ => 17 - (intOf iv).toNat)
      case atStart => exact ⟨0, by omega, rfl, S, A1, n1, c1, L1, hn80, hB⟩
      case round =>
        clear hB hn80
        obtain ⟨t, ht17, rfl, S, A1, n1, c1, L1, hn80, hB⟩ := hrel
        obtain ⟨wz, hwz⟩ : ∃ z, z = wr := ⟨_, rfl⟩
        subst hwz
        by_cases ht : t < 17
        rotate_left
        · skip
          have t1 : ¬ (t : Int) < 17 := by omega
          go_wp2_with fail
          go_ret
          exact ⟨rfl, hB.low⟩
        have t1 : (t : Int) < 17 := by omega
        have l7 : IntKind.u8.wrap ((t : Int) + 1) = (t : Int) + 1 := by rw [IntKind.wrap_u8]; omega
        obtain ⟨N0, hN0⟩ : ∃ N0, (toR (LT L1) t).length = N0 := ⟨_, rfl⟩
        go_wp2_with fail
        go_loopg [] N0 (fun N wr => ∃ (S : Nat → Prop) (A1 : Option Addr) (n1 c1 : Nat) (L1 : List Lm), Hid ((toR (LT L1) t).length = N) ∧ n1 ≤ 80 ∧ Both w wr g9 ba5 r S A1 n1 c1 L1)
        case atStart => exact ⟨S, A1, n1, c1, L1, Lib.hid hN0, hn80, hB⟩
        case round =>
          clear hB hn80 hN0
          obtain ⟨S, A1, n1, c1, L1, hN, hn80, hB⟩ := hrel
          obtain ⟨ha, hi, hod, ds, nf, ns, hm, hw⟩ := hB
          have ds2 : ∀ i, S i → ¬ FD A1 n1 L1 i := fun i a b => ds i b a
          have LR := len_r A1 n1 c1 L1 (r : Int) t _ hod.ok
          rw [hN.out] at LR
          have hRy := ha.ok.ok
          have hlq : (LT L1).length ≤ 80 := by have := hod.ok.rr.len; unfold LT; simp; omega
          rcases Nat.eq_zero_or_pos gk with h0 | h0
          · subst h0
            go_wp2_with (first | (first | ((with_reducible refine st_load 28 _ g9 ?_ hm Try.underlying28 ?_ ?_ ?_); exact rfl; exact rfl; exact Try.zCr) | ((with_reducible refine st_loadG 28 _ g9 ?_ hm Try.underlying28 ?_ ?_ ?_ ?_); exact rfl; exact rfl; exact Try.zCr; exact rfl)))
            (with_reducible refine LR.mono ?_)
            rintro e0 w8 ⟨rfl, b8⟩
            clear LR
            have r701_oa := ha.on b8
            have r701_od := hod.on b8
            have r703_m := le_on hm b8
            have l703 := le_tr hw b8
            clear hm hw
            clear ha hod
            clear b8
            go_wp2_with fail
            go_roundw
            case rel => exact ⟨t + 1, by omega, by go_num, S, A1, n1, c1, L1, hn80, r701_oa, hi, r701_od, ds, nf, ns, r703_m, l703⟩
            case measure => simp [intOf]; omega
          obtain ⟨N, rfl⟩ : ∃ N, gk = N + 1 := ⟨gk - 1, by omega⟩
          have hpos : decide ((0 : Int) < ((N + 1 : Nat) : Int)) = true := by rw [decide_eq_true_iff]; omega
          have hp2 : (0 : Int) < (N : Int) + 1 := by omega
          go_wp2_with (first | (first | ((with_reducible refine st_load 28 _ g9 ?_ hm Try.underlying28 ?_ ?_ ?_); exact rfl; exact rfl; exact Try.zCr) | ((with_reducible refine st_loadG 28 _ g9 ?_ hm Try.underlying28 ?_ ?_ ?_ ?_); exact rfl; exact rfl; exact Try.zCr; exact rfl)))
          (with_reducible refine LR.mono ?_)
          rintro e0 w8 ⟨rfl, b8⟩
          clear LR
          have r701_oa := ha.on b8
          have r701_od := hod.on b8
          have r703_m := le_on hm b8
          have l703 := le_tr hw b8
          clear hm hw
          clear ha hod
          clear b8
          have lt704_m := CB.lt r703_m
          go_wp2_with (first | (first | ((with_reducible refine st_load 28 _ g9 ?_ r703_m Try.underlying28 ?_ ?_ ?_); exact rfl; exact rfl; exact Try.zCr) | ((with_reducible refine st_loadG 28 _ g9 ?_ r703_m Try.underlying28 ?_ ?_ ?_ ?_); exact rfl; exact rfl; exact Try.zCr; exact rfl)) | ((with_reducible refine st_built2n 33 0 2 _ _ (.int .u8 3) (.int .u8 (t : Int)) (xA ⟨3, 0, t, [], none, 0, 0, 0, 0, 0⟩) ?_ ?_ ?_ ?_); exact rfl; exact rfl; exact built_x3 t))
          have cc705 := does_c S ba5 r (toR (LT L1)) A1 n1 c1 L1 r ⟨3, 0, t, [], none, 0, 0, 0, 0, 0⟩ _ r701_oa r701_od.ok hRy (by omega) (RR.nil _ _ _) (by show 0 < 65536; decide) ds (fun g e => by obtain ⟨⟨_, e⟩, _⟩ := e; cases e)
          (with_reducible refine cc705.mono ?_)
          clear cc705
          rintro e w705 ⟨Ad705, nd705, cd705, Ld705, bd705, S705, rfl, hbd705, ao705, dd705, ed705, nw705, sd705, fd705, ou705⟩
          have q705_m := ou705.box r703_m ns
          have no705_m : ¬ S705 g9 := fun e => (nw705 _ e).elim ns (fun e => by have := CB.lt r703_m; omega)
          have hi705 : ∀ i, S705 i → w.heap.size ≤ i := fun i e => (nw705 i e).elim (hi i) (fun e => Nat.le_trans (l703).size e)
          have l705 := below_out l703 ou705 hi
          clear ou705 nw705 r701_oa r703_m ns hi l703
          have nf705_m : ¬ (FD Ad705 nd705 Ld705) g9 := fun e => by
            rcases fd705 _ e with e | e | e
            · exact nf e
            · obtain ⟨⟨off, e1⟩, e2⟩ := e; cases e1
            · omega
          have sw705 : ∀ j, S705 j → ¬ (FD Ad705 nd705 Ld705) j := fun j a b => sd705 j b a
          have ob705 := dd705.ob
          have aq705 : AO S705 ba5 r (toR (LT Ld705)) w705 := by rw [ed705, toR_ac]; exact ao705
          have bt705 := hbd705 rfl rfl
          subst bt705
          clear ao705 fd705 hbd705 r701_od ds ds2 lt704_m
          go_wp2_with (first | ((with_reducible refine st_alloc 28 (cA zeroC) ?_ ?_); exact zero_cr))
          refine ⟨fun V706 g706 n706 f706 => ?_⟩
          have ne706_m := f706.ne q705_m
          have nn706_oa := aq705.fresh (Nat.le_of_eq f706.at_)
          have nn706_o1 := ob705.fresh (Nat.le_of_eq f706.at_)
          have up706 : w.heap.size ≤ g706 := f706.up l705
          have bl706 := f706.bel
          clear f706
          have r707_oa := aq705.on bl706
          have r707_o1 := ob705.on bl706
          have r709_m := le_on q705_m bl706
          have l709 := le_tr l705 bl706
          clear q705_m l705
          clear aq705 ob705
          clear bl706
          go_wp2_with (first | ((with_reducible refine st_store 28 _ _ g706 (cA ⟨Ad705, nd705, cd705, (r : Int)⟩) ?_ ?_ n706 ?_ ?_ ?_ ?_); exact rfl; exact rfl; exact Try.zCr; exact rfl; exact cA_one _))
          refine ⟨fun V710 n710 k710 => ?_⟩
          have m710_m := k710.on r709_m ne706_m
          have m710_oa := r707_oa.wr k710 nn706_oa
          have m710_o1 := r707_o1.wr k710 nn706_o1
          have o710 := k710.bel _ _ l709 up706
          clear k710
          clear n706 r709_m r707_oa r707_o1 l709
          go_wp2_with (first | (first | ((with_reducible refine st_load 28 _ g706 ?_ n710 Try.underlying28 ?_ ?_ ?_); exact rfl; exact rfl; exact Try.zCr) | ((with_reducible refine st_loadG 28 _ g706 ?_ n710 Try.underlying28 ?_ ?_ ?_ ?_); exact rfl; exact rfl; exact Try.zCr; exact rfl)) | ((with_reducible refine st_store 28 _ _ g9 (cA ⟨Ad705, nd705, cd705, (r : Int)⟩) ?_ ?_ m710_m ?_ ?_ ?_ ?_); exact rfl; exact rfl; exact Try.zCr; exact rfl; exact cA_one _))
          refine ⟨fun V711 n711 k711 => ?_⟩
          have m711_b := k711.on n710 (Ne.symm ne706_m)
          have m711_oa := m710_oa.wr k711 no705_m
          have m711_o1 := m710_o1.wr k711 nf705_m
          have o711 := k711.bel _ _ o710 upm
          clear k711
          clear m710_m n710 m710_oa m710_o1 o710
          go_wp2_with fail
          have hlm : (LT L1).length ≤ 80 := hlq
          have hN2 : (toR (LT Ld705) t).length = N := by rw [ed705]; exact less_one ht hN.out
          go_roundg N
          case measure => omega
          case rel => exact ⟨_, _, _, _, _, Lib.hid hN2, lt_len ed705 dd705.rr.len (Nat.le_trans less_len hlm), m711_oa, hi705, m711_o1, sd705, nf705_m, no705_m, n711, o711⟩
  have hn9 : (decide ((1 : Int) ≤ room) && decide (room ≤ 1000)) = false := by rcases hno with h | h <;> simp <;> omega
  by_cases h1 : 1 ≤ room
  · skip
    have q1 : decide ((1 : Int) ≤ room) = true := by simp [h1]
    have q1' : decide (room ≥ (1 : Int)) = true := by simp [h1]
    have q2 : decide (room ≤ 1000) = false := by simp; omega
    go_enter Try.func3, Try.ntmps3
    go_wp2_with fail
    (with_reducible refine (alive_c _).mono ?_)
    rintro e w1 ⟨rfl, b1⟩
    have r4_xx := (hx).on b1
    have l4 := le_tr (Below.refl _ _) b1
    clear hx
    clear b1
    go_wp2_with fail
    have cn := anew_c room w1
    (with_reducible refine cn.mono ?_)
    clear cn
    intro e w9 hp9
    obtain ⟨rfl, b9⟩ : e = .returned (.pointer none) ∧ Below w1.heap.size w1 w9 := by
      rcases hp9 with ⟨r, h, _⟩ | ⟨_, h, h2⟩
      · omega
      · exact ⟨h, h2⟩
    clear hp9
    have l8 := le_tr l4 b9
    clear l4
    clear b9
    go_wp2_with (first | ((with_reducible refine st_builtn 28 1 _ (.int .i64 room) (cA ⟨none, 0, 0, room⟩) ?_ ?_ ?_); exact rfl; exact built_cr _) | ((with_reducible refine st_alloc 28 (cA zeroC) ?_ ?_); exact zero_cr))
    refine ⟨fun V9 g9 n9 f9 => ?_⟩
    have up9 : w.heap.size ≤ g9 := f9.up l8
    have bl9 := f9.bel
    clear f9
    have l12 := le_tr l8 bl9
    clear l8
    clear bl9
    go_wp2_with (first | ((with_reducible refine st_store 28 _ _ g9 (cA ⟨none, 0, 0, room⟩) ?_ ?_ n9 ?_ ?_ ?_ ?_); exact rfl; exact rfl; exact Try.zCr; exact rfl; exact cA_one _))
    refine ⟨fun V13 n13 k13 => ?_⟩
    have o13 := k13.bel _ _ l12 up9
    clear k13
    clear n9 l12
    go_wp2_with fail
    have hlw := o13
    clear o13
    go_loopg [] 0 (fun N wr => Below w.heap.size w wr)
    case atStart => exact hlw
    case round =>
      clear hlw
      go_wp2_with fail
      go_loopw [78] (fun iv wr => ∃ t : Nat, t ≤ 17 ∧ iv = .int .u8 t ∧ Below w.heap.size w wr) (fun iv _ => 17 - (intOf iv).toNat)
      case atStart => exact ⟨0, by omega, rfl, hrel⟩
      case round =>
        obtain ⟨t, ht17, rfl, hw⟩ := hrel
        obtain ⟨wz, hwz⟩ : ∃ z, z = wr := ⟨_, rfl⟩
        subst hwz
        by_cases ht : t < 17
        rotate_left
        · skip
          have t1 : ¬ (t : Int) < 17 := by omega
          go_wp2_with fail
          go_ret
          exact ⟨rfl, hw⟩
        have t1 : (t : Int) < 17 := by omega
        have l7 : IntKind.u8.wrap ((t : Int) + 1) = (t : Int) + 1 := by rw [IntKind.wrap_u8]; omega
        go_wp2_with fail
        go_loopg [] 0 (fun N wr => Below w.heap.size w wr)
        case atStart => exact hw
        case round =>
          go_wp2_with fail
          go_roundw
          case rel => exact ⟨t + 1, by omega, by go_num, hrel⟩
          case measure => simp [intOf]; omega
  have q1 : decide ((1 : Int) ≤ room) = false := by simp; omega
  have q1' : decide (room ≥ (1 : Int)) = false := by simp; omega
  go_enter Try.func3, Try.ntmps3
  go_wp2_with fail
  (with_reducible refine (alive_c _).mono ?_)
  rintro e w1 ⟨rfl, b1⟩
  have r4_xx := (hx).on b1
  have l4 := le_tr (Below.refl _ _) b1
  clear hx
  clear b1
  go_wp2_with fail
  have cn := anew_c room w1
  (with_reducible refine cn.mono ?_)
  clear cn
  intro e w9 hp9
  obtain ⟨rfl, b9⟩ : e = .returned (.pointer none) ∧ Below w1.heap.size w1 w9 := by
    rcases hp9 with ⟨r, h, _⟩ | ⟨_, h, h2⟩
    · omega
    · exact ⟨h, h2⟩
  clear hp9
  have l8 := le_tr l4 b9
  clear l4
  clear b9
  go_wp2_with (first | ((with_reducible refine st_builtn 28 1 _ (.int .i64 room) (cA ⟨none, 0, 0, room⟩) ?_ ?_ ?_); exact rfl; exact built_cr _) | ((with_reducible refine st_alloc 28 (cA zeroC) ?_ ?_); exact zero_cr))
  refine ⟨fun V9 g9 n9 f9 => ?_⟩
  have up9 : w.heap.size ≤ g9 := f9.up l8
  have bl9 := f9.bel
  clear f9
  have l12 := le_tr l8 bl9
  clear l8
  clear bl9
  go_wp2_with (first | ((with_reducible refine st_store 28 _ _ g9 (cA ⟨none, 0, 0, room⟩) ?_ ?_ n9 ?_ ?_ ?_ ?_); exact rfl; exact rfl; exact Try.zCr; exact rfl; exact cA_one _))
  refine ⟨fun V13 n13 k13 => ?_⟩
  have o13 := k13.bel _ _ l12 up9
  clear k13
  clear n9 l12
  go_wp2_with fail
  have hlw := o13
  clear o13
  go_loopg [] 0 (fun N wr => Below w.heap.size w wr)
  case atStart => exact hlw
  case round =>
    clear hlw
    go_wp2_with fail
    go_loopw [78] (fun iv wr => ∃ t : Nat, t ≤ 17 ∧ iv = .int .u8 t ∧ Below w.heap.size w wr) (fun iv _ => 17 - (intOf iv).toNat)
    case atStart => exact ⟨0, by omega, rfl, hrel⟩
    case round =>
      obtain ⟨t, ht17, rfl, hw⟩ := hrel
      obtain ⟨wz, hwz⟩ : ∃ z, z = wr := ⟨_, rfl⟩
      subst hwz
      by_cases ht : t < 17
      rotate_left
      · skip
        have t1 : ¬ (t : Int) < 17 := by omega
        go_wp2_with fail
        go_ret
        exact ⟨rfl, hw⟩
      have t1 : (t : Int) < 17 := by omega
      have l7 : IntKind.u8.wrap ((t : Int) + 1) = (t : Int) + 1 := by rw [IntKind.wrap_u8]; omega
      go_wp2_with fail
      go_loopg [] 0 (fun N wr => Below w.heap.size w wr)
      case atStart => exact hw
      case round =>
        go_wp2_with fail
        go_roundw
        case rel => exact ⟨t + 1, by omega, by go_num, hrel⟩
        case measure => simp [intOf]; omega
end Go.Proofs.Ytcfdfimkgehdfaa
