/-
  The document's Unpack. Condition: the text is no longer than the laws let it be.
-/
import Derived.Test.YtfdboahcaiolgaaAgJ
set_option linter.unusedVariables false
set_option linter.unusedSimpArgs false
namespace Go.Proofs.Ytfdboahcaiolgaa
open Go.RowKit
open Dk (Nt InN RightN BoundN MsgN NoMsg KindN EpN bound_n)


theorem LPostB.un_no {w w' : World} {T : TypeId} {bs : List UInt8} (h : dG bs = none) (hb : Below w.heap.size w w') : LPostB w T (gL bs) (gE bs) (.returned (.tuple #[.slice none 0 0, .int .i64 4])) w' := by
  obtain ⟨h1, h2⟩ := g_none h
  rw [h1, h2]
  exact ⟨none, 0, 0, rfl, RS.nil _ _ _ _, hb⟩
theorem LPostB.un_yes {w w' : World} {T : TypeId} {bs : List UInt8} {L : List Bl} {A : Option Addr} {n q : Nat} (h : dG bs = some L) (hr : RS w' T dcl 2 A n q L) (hb : Below w.heap.size w w') : LPostB w T (gL bs) (gE bs) (.returned (.tuple #[.slice A n q, .int .i64 0])) w' := by
  obtain ⟨h1, h2⟩ := g_some h
  rw [h1, h2]
  exact ⟨A, n, q, rfl, hr, hb⟩
theorem yl_built2 {P : Program} {ev : Operand → Value} {dst : Option Tmp} {ty : TypeId} {pos : String} {aft : Array Edge} {gd : Option (Nat × Bool)} {w : World} (T : TypeId) (x0 x1 : Operand) (v0 v1 : Value) (cs : Array Value) (h0 : ev x0 = v0) (h1 : ev x1 = v1) (hb : P.built T [(0, v0), (1, v1)] = some cs) :
    (execOp ev ⟨dst, .build T #[(0, x0), (1, x1)], ty, pos, aft, gd⟩).run P w = .ok (.value (.agg cs)) w := by
  have h := run_build (P := P) w T #[(0, v0), (1, v1)] cs hb
  unfold execOp
  simp [Sem.run_bind, h0, h1, h]
set_option maxRecDepth 100000 in
set_option maxHeartbeats 4000000 in
theorem gunp_r (s : ByteArray) (w : World) (hs : s.size ≤ 600) : Calls Try.prog 14 #[.string s] w (LPostB w 42 (gL (Dk.bl s)) (gE (Dk.bl s))) := by
  have hbl := Dk.bl_length s
  obtain ⟨d, hd⟩ : ∃ d, s.size / 3 = d := ⟨_, rfl⟩
  obtain ⟨d1, d2⟩ := q3 _ _ hd
  have hd50 : d ≤ 200 := by omega
  have w3 : IntKind.i64.wrap (d : Int) = (d : Int) := IntWalk.i64_in _ (by omega)
  have hbd : (Dk.bl s).length / 3 = d := by rw [hbl]; exact hd
  have CS := fun V => shape_r d V (by omega)
  obtain ⟨bs, hbs⟩ : ∃ bs, Dk.bl s = bs := ⟨_, rfl⟩
  rw [hbs] at hbd hbl
  have CD : ∀ V A c, RR V bcl 1 A s.size c bs → Calls Try.prog 37 #[.string (Dk.mkS (shG d)), .slice A s.size c] V (ValPost V (Dk.lD (shG d) bs) (Dk.eD (shG d) bs)) := fun V A c hV => by
    have := dec_R A s.size c bs V (Dk.mkS (shG d)) (shS_max (by omega)) hV (by omega)
    rwa [Dk.bl_mkS] at this
  have CB_ : ∀ V : World, ∃ c V', (convert 9 77 (.string s)).run Try.prog V = .ok (.slice (some ⟨V.heap.size, 0, none⟩) s.size c) V' ∧ RR V' bcl 1 (some ⟨V.heap.size, 0, none⟩) s.size c bs ∧ Below V.heap.size V V' := fun V => by rw [← hbs]; exact conv_B V s (by simp only [maxLen]; omega)
  obtain ⟨S, hS⟩ : ∃ S, Dk.mkS (shG d) = S := ⟨_, rfl⟩
  simp only [hS] at CS CD
  clear hS
  by_cases h51 : 50 < d
  · skip
    have hpn : Dk.properB (shG d) = false := by rw [← Bool.not_eq_true, shG_proper]; omega
    obtain ⟨e1, e2⟩ := Dk.eD_bad (b := bs) hpn
    rw [e1, e2] at CD
    have HN := Lib.hid (dG_long (bs := Dk.bl s) (by rw [hbs]; omega))
    clear e1 e2 hpn hbd hbl hbs hd h51
    go_enter Try.func14, Try.ntmps14
    go_wp2_with fail
    (with_reducible refine (CS _).mono ?_)
    rintro e w1 ⟨rfl, b1⟩
    have l3 := le_tr (Below.refl _ _) b1
    clear b1
    obtain ⟨c9, V9, hrun9, h9, b9⟩ := CB_ w1
    clear CB_
    go_wp2_with fail
    clear hrun9
    have l5 := le_tr l3 b9
    clear l3
    clear b9
    go_wp2_with fail
    (with_reducible refine (CD _ _ _ h9).mono ?_)
    rintro e w6 ⟨A4, c4, rfl, h4, b6⟩
    have l8 := le_tr l5 b6
    clear l5
    clear b6
    clear h9 CD CS
    go_wp2_with fail
    exact bodyPost_ret (v := .tuple #[.slice none 0 0, .int .i64 4]) (by simp [results, Try.results14, go_sem]) rfl (LPostB.un_no HN.out l8)
  have hpr : Dk.properB (shG d) = true := shG_proper.2 (by omega)
  cases ho : Dk.okD (shG d) bs with
  | none =>
    obtain ⟨e1, e2⟩ := Dk.eD_no hpr ho
    rw [e1, e2] at CD
    have HN := Lib.hid (show dG (Dk.bl s) = none by rw [hbs]; exact dG_no (by rw [hbd]; exact ho))
    clear e1 e2 ho hpr hbd hbl hbs hd h51
    go_enter Try.func14, Try.ntmps14
    go_wp2_with fail
    (with_reducible refine (CS _).mono ?_)
    rintro e w1 ⟨rfl, b1⟩
    have l3 := le_tr (Below.refl _ _) b1
    clear b1
    obtain ⟨c9, V9, hrun9, h9, b9⟩ := CB_ w1
    clear CB_
    go_wp2_with fail
    clear hrun9
    have l5 := le_tr l3 b9
    clear l3
    clear b9
    go_wp2_with fail
    (with_reducible refine (CD _ _ _ h9).mono ?_)
    rintro e w6 ⟨A4, c4, rfl, h4, b6⟩
    have l8 := le_tr l5 b6
    clear l5
    clear b6
    clear h9 CD CS
    go_wp2_with fail
    exact bodyPost_ret (v := .tuple #[.slice none 0 0, .int .i64 4]) (by simp [results, Try.results14, go_sem]) rfl (LPostB.un_no HN.out l8)
  | some l =>
    obtain ⟨e1, e2⟩ := Dk.eD_yes hpr ho
    obtain ⟨o1, o2, o3, o4⟩ := Dk.okD_some.1 ho
    rw [shG_length] at o1
    rw [e1, e2] at CD
    have hbl2 := blG_len d o1
    have HG := Lib.hid (show dG (Dk.bl s) = if RightB (blG l) then some (blG l) else none by rw [hbs]; exact dG_of (by rw [hbd]; exact ho))
    obtain ⟨M, hM⟩ : ∃ M, l.length = M := ⟨_, rfl⟩
    have hM2 : M = 2 * d := by omega
    have HF := Lib.hid o2
    have HL := Lib.hid hM
    have HM := Lib.hid hM2
    have HBL := Lib.hid hbl2
    have hMb : M ≤ 100 := by omega
    clear e1 e2 o1 o2 o3 o4 hM hM2 hbl2 ho hpr hbd hbl hbs hd
    have CD' : ∀ V A c, RR V bcl 1 A s.size c bs → Calls Try.prog 37 #[.string S, .slice A s.size c] V (fun e w' => ∃ A c, e = .returned (.tuple #[.slice A M c, .int .i64 0]) ∧ Dk.VR w' A l ∧ Below V.heap.size V w') := fun V A c hV => by have := CD V A c hV; unfold ValPost at this; rw [HL.out] at this; exact this
    clear CD
    go_enter Try.func14, Try.ntmps14
    go_wp2_with fail
    (with_reducible refine (CS _).mono ?_)
    rintro e w1 ⟨rfl, b1⟩
    have l3 := le_tr (Below.refl _ _) b1
    clear b1
    obtain ⟨c9, V9, hrun9, h9, b9⟩ := CB_ w1
    clear CB_
    go_wp2_with fail
    clear hrun9
    have l5 := le_tr l3 b9
    clear l3
    clear b9
    go_wp2_with fail
    (with_reducible refine (CD' _ _ _ h9).mono ?_)
    rintro e w6 ⟨A4, c4, rfl, h4, b6⟩
    have l8 := le_tr l5 b6
    clear l5
    clear b6
    clear h9 CD' CS
    have hr4 := RL.start (rr_of_vr h4 (by rw [HL.out]; simp only [maxLen]; omega))
    rw [HL.out] at hr4
    clear h4
    go_wp2_with fail
    go_loopw [6, 7] (fun sv iv wr => ∃ (k j : Nat) (B : Option Addr) (c : Nat) (G : Option Nat), Hid (j = 2 * k) ∧ k ≤ d ∧ j ≤ 100 ∧ iv = .int .i64 j ∧ sv = .slice B k c ∧ RL w6 wr vcl 2 A4 M M l ∧ SO w6.heap.size wr 42 dcl 2 B k c ((blG l).take k) G ∧ Below w6.heap.size w6 wr) (fun _ iv _ => 102 - (intOf iv).toNat)
    case atStart => exact ⟨0, 0, none, 0, none, Lib.hid rfl, by omega, by omega, rfl, rfl, hr4, SO.nil _ _ _ _ _, Below.refl _ _⟩
    case round =>
      clear hr4
      obtain ⟨k, j, B, c, G, hjk, hk, hjb, rfl, rfl, hx, hs, hw⟩ := hrel
      by_cases hlt : k < d
      · skip
        have hj1 : j + 1 < M := by have := hjk.out; have := HM.out; omega
        have hj0 : j < M := by omega
        obtain ⟨g, off, a, ha, hA, _⟩ := hx.rr.elem hj0
        subst hA
        obtain ⟨e, he⟩ : ∃ e, l[j + 1]? = some e := ⟨_, List.getElem?_eq_getElem (by rw [HL.out]; exact hj1)⟩
        obtain ⟨ba, bc⟩ := lo_val d (by rw [HL.out]; exact HM.out) HF.out k hlt
        have ea : vAt l (2 * k) = a := by unfold vAt; rw [← hjk.out, ha]; rfl
        have ee : vAt l (2 * k + 1) = e := by unfold vAt; rw [← hjk.out, he]; rfl
        rw [ea] at ba
        rw [ee] at bc
        have hxk : (blG l)[k]? = some ⟨(a.n : Int), (e.n : Int)⟩ := blG_at (by rw [← hjk.out]; exact ha) (by rw [← hjk.out]; exact he)
        have HX := Lib.hid hxk
        have HA := Lib.hid ha
        have HE := Lib.hid he
        have wa : IntKind.i64.wrap (a.n : Int) = (a.n : Int) := IntWalk.i64_in _ (by omega)
        have we : IntKind.i64.wrap (e.n : Int) = (e.n : Int) := IntWalk.i64_in _ (by omega)
        have l1 : (j : Int) < (M : Int) := by omega
        have nj : ¬ ((j : Int) + 1 < 0) := by omega
        have l2 : (j : Int) + 1 < (M : Int) := by omega
        have w1 : IntKind.i64.wrap ((j : Int) + 1) = (j : Int) + 1 := IntWalk.i64_in _ (by omega)
        clear ea ee ha he hxk ba bc
        go_wp2_with fail
        have y101 := Lib.hid (show (fun V : World => RL w6 V vcl 2 (some ⟨g, off, none⟩) M M l) wr.drew from (hx).drew)
        refine wp_region_held_drew (S := (fun V : World => RL w6 V vcl 2 (some ⟨g, off, none⟩) M M l)) (by kernel_rfl) y101.out (fun hHeld => ?_)
        obtain ⟨D101, hD101⟩ : ∃ V, wr.drew = V := ⟨_, rfl⟩
        have b101 : Below wr.heap.size wr D101 := by rw [← hD101]; exact le_dr (Below.refl _ _)
        rw [hD101] at hHeld ⊢
        clear hD101
        have r102_s := SO.on hs b101
        have r103_v := (hx).on b101
        have l103 := le_tr hw b101
        clear hx hw
        clear hs
        clear b101
        refine wpAnyH_takeL (i := 0) (d := some 26) (v := .slice B k c) rfl rfl (by kernel_rfl) (by kernel_rfl) (by kernel_rfl) (fun _ _ _ h => h) (Or.inl ⟨by rfl, ?_⟩) hHeld ?_
        · intro w hSw; (try dsimp only at hSw); go_simp
        try simp only [Act.put, List.setIfInBounds_toArray, List.set_cons_zero, List.set_cons_succ]
        refine wpAnyH_takeL (i := 1) (d := some 27) (v := .slice (some ⟨g, off, none⟩) M c4) rfl rfl (by kernel_rfl) (by kernel_rfl) (by kernel_rfl) (fun _ _ _ h => h) (Or.inl ⟨by rfl, ?_⟩) hHeld ?_
        · intro w hSw; (try dsimp only at hSw); go_simp
        try simp only [Act.put, List.setIfInBounds_toArray, List.set_cons_zero, List.set_cons_succ]
        refine wpAnyH_takeL (i := 2) (d := some 28) (v := .int .i64 (j : Int)) rfl rfl (by kernel_rfl) (by kernel_rfl) (by kernel_rfl) (fun _ _ _ h => h) (Or.inl ⟨by rfl, ?_⟩) hHeld ?_
        · intro w hSw; (try dsimp only at hSw); go_simp
        try simp only [Act.put, List.setIfInBounds_toArray, List.set_cons_zero, List.set_cons_succ]
        refine wpAnyH_takeL (i := 3) (d := some 29) (v := .pointer (some ⟨g, off + j * 2, none⟩)) rfl rfl (by kernel_rfl) (by kernel_rfl) (by kernel_rfl) (fun _ _ _ h => h) (Or.inl ⟨by rfl, ?_⟩) hHeld ?_
        · intro w hSw; (try dsimp only at hSw); go_simp
        try simp only [Act.put, List.setIfInBounds_toArray, List.set_cons_zero, List.set_cons_succ]
        refine wpAnyH_takeL (i := 4) (d := some 30) (v := .pointer (some ⟨g, off + j * 2, none⟩)) rfl rfl (by kernel_rfl) (by kernel_rfl) (by kernel_rfl) (fun _ _ _ h => h) (Or.inl ⟨by rfl, ?_⟩) hHeld ?_
        · intro w hSw; (try dsimp only at hSw); go_simp
        try simp only [Act.put, List.setIfInBounds_toArray, List.set_cons_zero, List.set_cons_succ]
        refine wpAnyH_takeL (i := 5) (d := some 31) (v := .int .u64 (a.n : Int)) rfl rfl (by kernel_rfl) (by kernel_rfl) (by kernel_rfl) (fun _ _ _ h => h) (Or.inl ⟨by rfl, ?_⟩) hHeld ?_
        · intro w hSw; have hcc : w.cell? ⟨g, off + j * 2, none⟩ = some (.int .u64 (a.n : Int)) := RR.elemAt hSw.rr HA.out rfl 0 _ rfl; go_simp
        try simp only [Act.put, List.setIfInBounds_toArray, List.set_cons_zero, List.set_cons_succ]
        refine wpAnyH_takeL (i := 6) (d := some 32) (v := .int .i64 (a.n : Int)) rfl rfl (by kernel_rfl) (by kernel_rfl) (by kernel_rfl) (fun _ _ _ h => h) (Or.inl ⟨by rfl, ?_⟩) hHeld ?_
        · intro w hSw; (try dsimp only at hSw); go_simp
        try simp only [Act.put, List.setIfInBounds_toArray, List.set_cons_zero, List.set_cons_succ]
        refine wpAnyH_takeL (i := 7) (d := some 33) (v := .slice (some ⟨g, off, none⟩) M c4) rfl rfl (by kernel_rfl) (by kernel_rfl) (by kernel_rfl) (fun _ _ _ h => h) (Or.inl ⟨by rfl, ?_⟩) hHeld ?_
        · intro w hSw; (try dsimp only at hSw); go_simp
        try simp only [Act.put, List.setIfInBounds_toArray, List.set_cons_zero, List.set_cons_succ]
        refine wpAnyH_takeL (i := 8) (d := some 34) (v := .int .i64 (j : Int)) rfl rfl (by kernel_rfl) (by kernel_rfl) (by kernel_rfl) (fun _ _ _ h => h) (Or.inl ⟨by rfl, ?_⟩) hHeld ?_
        · intro w hSw; (try dsimp only at hSw); go_simp
        try simp only [Act.put, List.setIfInBounds_toArray, List.set_cons_zero, List.set_cons_succ]
        refine wpAnyH_takeL (i := 9) (d := some 35) (v := .int .i64 ((j : Int) + 1)) rfl rfl (by kernel_rfl) (by kernel_rfl) (by kernel_rfl) (fun _ _ _ h => h) (Or.inl ⟨by rfl, ?_⟩) hHeld ?_
        · intro w hSw; (try dsimp only at hSw); go_simp
        try simp only [Act.put, List.setIfInBounds_toArray, List.set_cons_zero, List.set_cons_succ]
        refine wpAnyH_takeL (i := 10) (d := some 36) (v := .pointer (some ⟨g, off + (j + 1) * 2, none⟩)) rfl rfl (by kernel_rfl) (by kernel_rfl) (by kernel_rfl) (fun _ _ _ h => h) (Or.inl ⟨by rfl, ?_⟩) hHeld ?_
        · intro w hSw; (try dsimp only at hSw); go_simp
        try simp only [Act.put, List.setIfInBounds_toArray, List.set_cons_zero, List.set_cons_succ]
        refine wpAnyH_takeL (i := 11) (d := some 37) (v := .pointer (some ⟨g, off + (j + 1) * 2, none⟩)) rfl rfl (by kernel_rfl) (by kernel_rfl) (by kernel_rfl) (fun _ _ _ h => h) (Or.inl ⟨by rfl, ?_⟩) hHeld ?_
        · intro w hSw; (try dsimp only at hSw); go_simp
        try simp only [Act.put, List.setIfInBounds_toArray, List.set_cons_zero, List.set_cons_succ]
        refine wpAnyH_takeL (i := 12) (d := some 38) (v := .int .u64 (e.n : Int)) rfl rfl (by kernel_rfl) (by kernel_rfl) (by kernel_rfl) (fun _ _ _ h => h) (Or.inl ⟨by rfl, ?_⟩) hHeld ?_
        · intro w hSw; have hcc : w.cell? ⟨g, off + (j + 1) * 2, none⟩ = some (.int .u64 (e.n : Int)) := RR.elemAt hSw.rr HE.out rfl 0 _ rfl; go_simp
        try simp only [Act.put, List.setIfInBounds_toArray, List.set_cons_zero, List.set_cons_succ]
        refine wpAnyH_takeL (i := 13) (d := some 39) (v := .int .i64 (e.n : Int)) rfl rfl (by kernel_rfl) (by kernel_rfl) (by kernel_rfl) (fun _ _ _ h => h) (Or.inl ⟨by rfl, ?_⟩) hHeld ?_
        · intro w hSw; (try dsimp only at hSw); go_simp
        try simp only [Act.put, List.setIfInBounds_toArray, List.set_cons_zero, List.set_cons_succ]
        refine wpAnyH_takeL (i := 14) (d := some 40) (v := .agg (btA ⟨(a.n : Int), (e.n : Int)⟩)) rfl rfl (by kernel_rfl) (by kernel_rfl) (by kernel_rfl) (fun _ _ _ h => h) (Or.inl ⟨by rfl, ?_⟩) hHeld ?_
        · intro w hSw; exact yl_built2 42 _ _ _ _ _ rfl rfl (built_d2 _ _)
        try simp only [Act.put, List.setIfInBounds_toArray, List.set_cons_zero, List.set_cons_succ]
        refine wpAnyH_ready (rs := [15]) (by kernel_rfl) (by simp) ?_
        refine AllReadyH.cons rfl (fun K hK => ?_) AllReadyH.nil
        refine rd_lit1 rfl 22 42 _ rfl (some 41) rfl (btA ⟨(a.n : Int), (e.n : Int)⟩) rfl Try.underlying22 Try.lit_br rfl (by decide) (by decide) ?_
        refine ⟨fun V104 g104 n104 f104 => ?_⟩
        have no104_s := SO.fresh r102_s (Nat.le_of_eq f104.at_)
        have up104 : w6.heap.size ≤ g104 := f104.up l103
        have bl104 := f104.bel
        clear f104
        have r105_s := SO.on r102_s bl104
        have r106_v := (r103_v).on bl104
        have l106 := le_tr l103 bl104
        clear r103_v l103
        clear r102_s
        clear bl104
        have y107 := Lib.hid (show (fun V : World => RL w6 V vcl 2 (some ⟨g, off, none⟩) M M l) V104 from r106_v)
        refine hK.out _ _ y107.out (fun hHeld => ?_)
        clear hK K y107
        try simp only [Act.put, List.setIfInBounds_toArray, List.set_cons_zero, List.set_cons_succ]
        refine wpAnyH_ready (rs := [16]) (by kernel_rfl) (by simp) ?_
        refine AllReadyH.cons rfl (fun K hK => ?_) AllReadyH.nil
        refine rd_app rfl (.tmp 26) (.tmp 41) 22 rfl (some 42) rfl 42 Try.underlying22 Try.infoBr rfl (by decide) (A := B) (n := k) (c := c) (G := G) rfl r105_s.seg (As := (some ⟨g104, 0, none⟩)) (m := 1) (k := 1) rfl (Src.box n104 rfl) (all_list (btA_one _)) (by simp only [maxLen]; omega) (by omega) (k + 1) (by omega) ?_
        refine ⟨fun B108 m108 q108 w108 s108 h108 k108 => ?_⟩
        have s108 : Seg w108 42 2 B108 (k + 1) m108 (rc dcl ((blG l).take k ++ [⟨(a.n : Int), (e.n : Int)⟩])) q108 := by rw [← rc_snoc]; exact s108
        have hg108 : ∀ g, G = some g → w6.heap.size ≤ g := fun g e => r105_s.hi g e
        have so108 : SO w6.heap.size w108 42 dcl 2 B108 (k + 1) m108 ((blG l).take k ++ [⟨(a.n : Int), (e.n : Int)⟩]) q108 := ⟨s108, k108.ge (l106).size hg108⟩
        have e108_q := CB.same n104 (h108.block _ (CB.lt n104) (fun e => no104_s _ e.symm rfl))
        have na108_q := moved_ne k108 (CB.lt n104) no104_s
        have e108_v := (r106_v).grow h108 hg108
        have lw108 := (l106).grown h108 (l106).size hg108
        clear h108 k108 s108 hg108 r105_s n104 no104_s r106_v l106
        have y109 := Lib.hid (show (fun V : World => RL w6 V vcl 2 (some ⟨g, off, none⟩) M M l) w108 from e108_v)
        refine hK.out _ _ y109.out (fun hHeld => ?_)
        clear hK K y109
        try simp only [Act.put, List.setIfInBounds_toArray, List.set_cons_zero, List.set_cons_succ]
        refine wpAnyH_takeL (i := 17) (d := some 6) (v := .slice B108 (k + 1) m108) rfl rfl (by kernel_rfl) (by kernel_rfl) (by kernel_rfl) (fun _ _ _ h => h) (Or.inl ⟨by rfl, ?_⟩) hHeld ?_
        · intro w hSw; (try dsimp only at hSw); go_simp
        try simp only [Act.put, List.setIfInBounds_toArray, List.set_cons_zero, List.set_cons_succ]
        refine wpAnyH_done (by kernel_rfl) ?_ _
        go_wp2_with fail
        go_roundw
        case rel => exact ⟨k + 1, j + 2, B108, m108, q108, Lib.hid (by have := hjk.out; omega), by omega, by have := hjk.out; omega, by go_num, rfl, e108_v, by rw [take_snoc HX.out]; exact so108, lw108⟩
        case measure => simp [intOf]; omega
      · skip
        obtain rfl : k = d := by omega
        have gz0 : ¬ ((j : Int) < (M : Int)) := by have := hjk.out; have := HM.out; omega
        have hs2 : SO w6.heap.size wr 42 dcl 2 B k c (blG l) G := by rw [List.take_of_length_le (by rw [HBL.out]; exact Nat.le_refl _)] at hs; exact hs
        clear hs hlt
        have CR : ∀ V A n q, RR V dcl 2 A n q (blG l) → Calls Try.prog 30 #[.slice A n q] V fun zz w' => zz = .returned (.bool (decide (RightB (blG l)))) ∧ Below V.heap.size V w' := fun V A n q hV => gright_r A n q (blG l) V hV
        by_cases hr : RightB (blG l)
        · skip
          have HN := Lib.hid (show dG (Dk.bl s) = some (blG l) by rw [HG.out, if_pos hr])
          simp only [decide_eq_true hr] at CR
          clear hr
          go_wp2_with fail
          (with_reducible refine (CR _ _ _ _ (SO.rr hs2)).mono ?_)
          rintro e w101 ⟨rfl, b101⟩
          have r102_s := SO.on hs2 b101
          have r103_v := (hx).on b101
          have l103 := le_tr hw b101
          clear hx hw
          clear hs2
          clear b101
          go_wp2_with fail
          exact bodyPost_ret (v := .tuple #[.slice B k c, .int .i64 0]) (by simp [results, Try.results14, go_sem]) rfl (LPostB.un_yes HN.out (SO.rs r102_s) (le_tr l8 l103))
        · skip
          have HN := Lib.hid (show dG (Dk.bl s) = none by rw [HG.out, if_neg hr])
          simp only [decide_eq_false hr] at CR
          clear hr
          go_wp2_with fail
          (with_reducible refine (CR _ _ _ _ (SO.rr hs2)).mono ?_)
          rintro e w101 ⟨rfl, b101⟩
          have r102_s := SO.on hs2 b101
          have r103_v := (hx).on b101
          have l103 := le_tr hw b101
          clear hx hw
          clear hs2
          clear b101
          go_wp2_with fail
          exact bodyPost_ret (v := .tuple #[.slice none 0 0, .int .i64 4]) (by simp [results, Try.results14, go_sem]) rfl (LPostB.un_no HN.out (le_tr l8 l103))
end Go.Proofs.Ytfdboahcaiolgaa
