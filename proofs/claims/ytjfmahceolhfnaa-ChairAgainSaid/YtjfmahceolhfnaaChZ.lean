/-
  ChairAgain, the walk. Conditions: the records can be read and may be.
-/
import Derived.Test.YtjfmahceolhfnaaChY
set_option linter.unusedVariables false
set_option linter.unusedSimpArgs false
namespace Go.Proofs.Ytjfmahceolhfnaa
open Go.RowKit Go.Maps

theorem ST.out {B : Nat} {w W V : World} {b m b2 m2 : Nat} {G G2 : Option Nat} {D D2 : DM} {log log2 : List Rd} (h2 : ST B w W b2 m2 G2 D2 log2) (h1 : ST B w W b m G D log) (ou : Out W V (Own b m G)) (ap : ∀ i, Own b2 m2 G2 i → ¬ Own b m G i) : ST B w V b2 m2 G2 D2 log2 :=
  ⟨⟨h2.cr.cm.keep fun i hi => ou.block i (h2.cr.cm.own_lt hi) (ap i hi), h2.cr.good, h2.cr.lo⟩, h2.hi, h2.low.trans (ou.below h1.le h1.hi)⟩
theorem ST.grown {B : Nat} {w W V : World} {b m : Nat} {G G2 : Option Nat} {D : DM} {log : List Rd} (h : ST B w W b m G D log) (k : W.grownBy V G2) (hn : ∀ g, G2 = some g → ¬ Own b m G g ∧ B ≤ g) : ST B w V b m G D log :=
  ⟨⟨h.cr.cm.keep fun i hi => k.block i (h.cr.cm.own_lt hi) (fun e => (hn i e.symm).1 hi), h.cr.good, h.cr.lo⟩, h.hi, h.low.grown k h.le (fun g e => (hn g e).2)⟩
/-- Behind Log: a slice of the call's own. -/
def KPost (w : World) (L : List Rd) (e : Ending) (w' : World) : Prop := ∃ A n c G, e = .returned (.slice A n c) ∧ Seg w' 33 8 A n c (rc kcl L) G ∧ (∀ g, G = some g → w.heap.size ≤ g) ∧ Below w.heap.size w w'
set_option maxRecDepth 100000 in
set_option maxHeartbeats 1000000 in
theorem log_k (b m : Nat) (G : Option Nat) (D : DM) (log : List Rd) (w : World) (h : CM w b m G D log) (hl : log.length ≤ 100000) : Calls Try.prog 19 #[.pointer (some ⟨b, 0, none⟩)] w (KPost w log) := by
  obtain ⟨i0, hi0, hz0, hz1, hz2⟩ := parts_of Try.infoK
  have hc := created_c b m G D log w h
  obtain ⟨A, n, c, h1, h2, hn⟩ := h.len
  have c1 : w.cell? ⟨b, 1, none⟩ = some (.slice A n c) := CB.cell h1 1
  have p0 : 0 < 8 := by omega
  have p3 : 0 + n ≤ maxLen := by simp only [maxLen]; omega
  have p4 : (0 + n) * 64 ≤ 140737488355328 := by omega
  have hz3 : (Value.agg (rA zeroR)).cells.size = 8 := rfl
  clear h1 h
  go_enter Try.func19, Try.ntmps19
  go_wp2_with fail
  (with_reducible refine hc.mono ?_)
  rintro e w1 ⟨rfl, rfl⟩
  go_wp2_with (at_builtin; refine wpList_append_src _ rfl (.const (.slice none 0 0)) (.tmp 9) _ rfl 33 i0 _ 8 64 Try.underlying53 hi0 hz0 hz1 hz2 hz3 p0 rfl (Seg.nil _ _ _) rfl h2.src (rc_one 8 log) p3 p4 n (by omega) ?_; intro A1 c1' G1 w2 n1 m1 r1)
  have H := Lib.hid (show KPost w1 log (.returned (.slice A1 n c1')) w2 from ⟨A1, n, c1', G1, rfl, n1, (fun g e => by
    rcases r1 with e' | ⟨g', e', hg'⟩
    · rw [e'] at e; cases e
    · rw [e'] at e; cases e; exact hg'), (Below.refl _ _).grown m1 (Nat.le_refl _) (fun g e => by cases e)⟩)
  clear n1 m1 r1 h2
  go_wp2_with fail
  go_ret
  exact H.out
theorem replay_no (A : Option Addr) (n c : Nat) (L : List Rd) (w : World) (h : RR w kcl 8 A n c L) (hn : n ≤ 90000) (hok : OkL L) (hno : repl L (fun _ => none) = none) : Calls Try.prog 18 #[.slice A n c] w fun e w' => e = .returned (.tuple #[.pointer none, .int .i64 4]) ∧ Below w.heap.size w w' :=
  (replay_c A n c L w h hn hok).mono fun e w' hp => by unfold RpPost at hp; rw [hno] at hp; exact hp
theorem replay_yes (A : Option Addr) (n c : Nat) (L : List Rd) (w : World) (D : DM) (h : RR w kcl 8 A n c L) (hn : n ≤ 90000) (hok : OkL L) (hl : LogOf D L) : Calls Try.prog 18 #[.slice A n c] w fun e w' => ∃ b m G, e = .returned (.tuple #[.pointer (some ⟨b, 0, none⟩), .int .i64 0]) ∧ ST w.heap.size w w' b m G D L :=
  (replay_c A n c L w h hn hok).mono fun e w' hp => by unfold RpPost at hp; unfold LogOf at hl; rw [hl] at hp; exact hp
theorem okL_do {D : DM} {Kg : List Rd} {r : Rd} (h : OkL Kg) (hr : r.who < 256 ∧ (Lit.int .i64 r.tx).wf = true) : OkL (lDoC D Kg r) := by
  unfold lDoC
  split
  · intro x hx
    rcases List.mem_append.1 hx with hx | hx
    · exact h x hx
    · simp at hx; subst hx; exact hr
  · exact h
theorem okL_snoc {Kg : List Rd} {r : Rd} (h : OkL Kg) (hr : r.who < 256 ∧ (Lit.int .i64 r.tx).wf = true) : OkL (Kg ++ [r]) := fun x hx => by
  rcases List.mem_append.1 hx with hx | hx
  · exact h x hx
  · simp at hx; subst hx; exact hr
theorem okL_pl : ∀ (l : List Rd), OkL l → OkL (plL l) := by
  intro l
  generalize hn : l.length = n
  induction n generalizing l with
  | zero => intro _; obtain rfl := List.eq_nil_of_length_eq_zero hn; exact fun x hx => by cases hx
  | succ n ih =>
    intro h
    obtain ⟨l0, r, rfl⟩ : ∃ l0 r, l = l0 ++ [r] := by
      rcases List.eq_nil_or_concat l with h0 | ⟨L, b, h0⟩
      · subst h0; simp at hn
      · exact ⟨L, b, by simpa using h0⟩
    rw [plL_snoc]
    exact okL_do (ih l0 (by simpa using hn) (fun x hx => h x (by simp [hx]))) (h r (by simp))
/-- A number in memory. -/
structure CL (W : World) (g i : Nat) (v : Value) : Prop where
  out : W.cell? ⟨g, i, none⟩ = some v
theorem CL.on {W V : World} {g i : Nat} {v : Value} (h : CL W g i v) (hb : Below W.heap.size W V) : CL V g i v := ⟨(hb.cell (World.block_lt_of_cell? W _ h.out)).trans h.out⟩
theorem CL.drew {W : World} {g i : Nat} {v : Value} (h : CL W g i v) : CL W.drew g i v := ⟨h.out⟩
set_option maxRecDepth 100000 in
set_option maxHeartbeats 4000000 in
theorem again_walk (A A2 : Option Addr) (n c n2 c2 : Nat) (L L2 : List Rd) (w : World) (h : RR w kcl 8 A n c L) (hok : OkL L) (h2 : RR w kcl 8 A2 n2 c2 L2) (hok2 : OkL L2) : Calls Try.prog 4 #[.slice A n c, .slice A2 n2 c2] w fun zz w' => zz = .returned (.bool true) ∧ Below w.heap.size w w' := by
  have hpl : (plL (L.take 120)).length ≤ 120 := Nat.le_trans (plL_len _) (by rw [List.length_take]; exact Nat.min_le_left _ _)
  have hokp := okL_pl _ (show OkL (L.take 120) from fun x hx => hok x (List.mem_of_mem_take hx))
  have hlen2 := Lib.hid h2.len
  have hmx : n2 ≤ maxLen := Nat.le_trans h2.cap h2.max
  simp only [maxLen] at hmx
  have hmx1 : n ≤ maxLen := Nat.le_trans h.cap h.max
  simp only [maxLen] at hmx1
  go_enter Try.func4, Try.ntmps4
  go_wp2_with fail
  refine (alive_c _).mono ?_
  rintro e w1 ⟨rfl, b1⟩
  have l2 := le_tr (Below.refl _ _) b1
  clear b1
  go_wp2_with fail
  (with_reducible refine (played_c A n c L _ (h.on l2) hok).mono ?_)
  rintro e w3 ⟨bc, mc, G3, rfl, sp3⟩
  have sd3 := sp3.down l2
  have bl3 := sp3.low
  clear sp3
  have l4 := le_tr l2 bl3
  clear l2
  clear bl3
  clear h hok
  generalize (plD (L.take 120)) = D at *
  generalize (plL (L.take 120)) = Kg at *
  go_wp2_with fail
  refine (log_k bc mc G3 D Kg _ sd3.cr.cm (by omega)).mono ?_
  rintro e w6 ⟨Al, nl, cl, Gl, rfl, sl, hGl, b6⟩
  have r7_c := sd3.on b6
  have l7 := le_tr l4 b6
  clear sd3 l4
  clear b6
  have hrr := RR.of_seg sl
  clear sl hGl
  go_wp2_with fail
  (with_reducible refine (replay_yes Al nl cl Kg _ D hrr (by rw [← hrr.len]; omega) hokp r7_c.cr.lo).mono ?_)
  rintro e w9 ⟨bd, md, Gd, rfl, sd⟩
  have ap : ∀ i, Own bc mc G3 i → ¬ Own bd md Gd i := fun i hi h2 => by have := r7_c.cr.cm.own_lt hi; have := sd.hi i h2; omega
  have st2 := sd.down l7
  have bl9 := sd.low
  clear sd hrr
  have r8_c := r7_c.on bl9
  have l8 := le_tr l7 bl9
  clear r7_c l7
  clear bl9
  go_wp2_with fail
  go_loopw [8] (fun iv wr => ∃ (k : Nat) (G1 G2 : Option Nat) (D : DM) (Kg : List Rd), k ≤ n2 ∧ k ≤ 120 ∧ iv = .int .i64 k ∧ ST w.heap.size w wr bc mc G1 D Kg ∧ ST w.heap.size w wr bd md G2 D Kg ∧ (∀ i, Own bc mc G1 i → ¬ Own bd md G2 i) ∧ Kg.length ≤ 120 + k ∧ OkL Kg) (fun iv _ => n2 - (intOf iv).toNat)
  case atStart => exact ⟨0, G3, Gd, D, Kg, by omega, by omega, rfl, r8_c, st2, ap, by omega, hokp⟩
  case round =>
    clear r8_c st2 ap hpl hokp l8
    obtain ⟨k, G1, G2, D, Kg, hk, hk2, rfl, hsc, hsd, hap, hkl, hoK⟩ := hrel
    have l9 := hsc.low
    by_cases hlt : k < n2
    · have l1 : decide ((k : Int) < n2) = true := by simp; omega
      have l1' : (k : Int) < n2 := by omega
      have l2 : (0 : Int) ≤ (k : Int) := by omega
      by_cases hl2 : k < 120
      · have l3 : decide ((k : Int) < 120) = true := by simp; omega
        obtain ⟨ga, ofa, x, hx, rfl, hr⟩ := (h2.on hsc.low).elem hlt
        have hga : ga < w.heap.size := h2.lt rfl (by omega)
        have hxo := hok2 x (List.mem_of_getElem? hx)
        have rl : rangeL w.heap.size wr ga (ofa + k * 8) x := ⟨hr, hga⟩
        clear hr hx
        have hap2 : ∀ i, Own bd md G2 i → ¬ Own bc mc G1 i := fun i h2 h1 => hap i h1 h2
        clear hap
        have hnd := Lib.hid (okL_do (D := D) hoK hxo)
        have hlk := Lib.hid (lDoC_len D Kg x)
        have hr : wr.rangeAt ga (ofa + k * 8) (rA x).toList := rl.out
        have hdo101 := do_c bc mc G1 D Kg x wr hsc.cr hxo.1 (by omega)
        go_wp2_with (first | ((with_reducible refine st_elem 34 _ ga (ofa + k * 8) (rA x) ?_ hr Try.underlying34 ?_ ?_ ?_); exact rfl; exact rfl; exact Try.zRr))
        (with_reducible refine hdo101.mono ?_)
        intro e w101 hp101
        obtain ⟨rfl, G101, st101, ou101, nw101⟩ := hsc.done hp101
        clear hp101 hdo101
        have q101_rl := (rl).out_ ou101 hsc.hi
        have q101_d := hsd.out hsc ou101 hap2
        have ap101_d : ∀ i, Own bd md G2 i → ¬ Own bc mc G101 i := fun i hi => nw101 i (hsd.cr.cm.own_lt hi) (hap2 i hi)
        have l101 := st101.low
        clear ou101 nw101 hsc rl hsd hap2 l9
        clear hr
        have hap3 : ∀ i, Own bc mc G101 i → ¬ Own bd md G2 i := fun i h1 h2 => ap101_d i h2 h1
        clear ap101_d
        have hr : w101.rangeAt ga (ofa + k * 8) (rA x).toList := q101_rl.out
        have hdo102 := do_c bd md G2 D Kg x w101 q101_d.cr hxo.1 (by omega)
        go_wp2_with (first | ((with_reducible refine st_elem 34 _ ga (ofa + k * 8) (rA x) ?_ hr Try.underlying34 ?_ ?_ ?_); exact rfl; exact rfl; exact Try.zRr))
        (with_reducible refine hdo102.mono ?_)
        intro e w102 hp102
        obtain ⟨rfl, G102, st102, ou102, nw102⟩ := q101_d.done hp102
        clear hp102 hdo102
        have q102_rl := (q101_rl).out_ ou102 q101_d.hi
        have q102_c := st101.out q101_d ou102 hap3
        have ap102_c : ∀ i, Own bc mc G101 i → ¬ Own bd md G102 i := fun i hi => nw102 i (st101.cr.cm.own_lt hi) (hap3 i hi)
        have l102 := st102.low
        clear ou102 nw102 q101_d q101_rl st101 hap3 l101
        clear hr
        obtain ⟨E, hE⟩ : ∃ E, eDoC D x = E := ⟨_, rfl⟩
        obtain ⟨N, hN⟩ : ∃ N, nDoC D x = N := ⟨_, rfl⟩
        rw [hE, hN]
        have qn : ((N : Int) != (N : Int)) = false := by simp
        have qe : ((E : Int) != (E : Int)) = false := by simp
        have HE := Lib.hid hE
        clear hE hN
        by_cases he : E = 0
        · subst he
          go_wp2_with fail
          go_roundw
          case rel => exact ⟨k + 1, _, _, _, _, by omega, by omega, by go_num, q102_c, st102, ap102_c, by have := hlk.out; omega, hnd.out⟩
          case measure => simp [intOf]; omega
        have q5 : ((E : Int) != 0) = true := by simp [he]
        have q6 : (E != 0) = true := by simp [he]
        have hz : ¬ eDoC D x = 0 := by rw [HE.out]; exact he
        rw [sDoC_n hz, lDoC_n Kg hz] at q102_c st102
        have hbad := log_bad q102_c.cr.lo hz
        clear hz he hnd hlk HE
        have hbl := hbad
        clear hbad
        go_wp2_with fail
        have y103 := Lib.hid (show (fun V : World => rangeL w.heap.size V ga (ofa + k * 8) x) w102.drew from (q102_rl).drew)
        refine wp_region_held_drew (S := (fun V : World => rangeL w.heap.size V ga (ofa + k * 8) x)) (by kernel_rfl) y103.out (fun hHeld => ?_)
        obtain ⟨D103, hD103⟩ : ∃ V, w102.drew = V := ⟨_, rfl⟩
        have b103 : Below w102.heap.size w102 D103 := by rw [← hD103]; exact le_dr (Below.refl _ _)
        rw [hD103] at hHeld ⊢
        clear hD103
        have r104_rl := (q102_rl).on b103
        have r104_c := q102_c.on b103
        have r104_d := st102.on b103
        have l104 := le_tr l102 b103
        clear q102_rl q102_c st102 l102
        clear b103
        refine wpAnyH_takeL (i := 0) (d := some 75) (v := .pointer (some ⟨bc, 0, none⟩)) rfl rfl (by kernel_rfl) (by kernel_rfl) (by kernel_rfl) (fun _ _ _ h => h) (Or.inl ⟨by rfl, ?_⟩) hHeld ?_
        · intro w hSw; (try dsimp only at hSw); go_simp
        try simp only [Act.put, List.setIfInBounds_toArray, List.set_cons_zero, List.set_cons_succ]
        refine wpAnyH_takeL (i := 2) (d := some 77) (v := .slice (some ⟨ga, ofa, none⟩) n2 c2) rfl rfl (by kernel_rfl) (by kernel_rfl) (by kernel_rfl) (fun _ _ _ h => h) (Or.inl ⟨by rfl, ?_⟩) hHeld ?_
        · intro w hSw; (try dsimp only at hSw); go_simp
        try simp only [Act.put, List.setIfInBounds_toArray, List.set_cons_zero, List.set_cons_succ]
        refine wpAnyH_takeL (i := 3) (d := some 78) (v := .int .i64 (k : Int)) rfl rfl (by kernel_rfl) (by kernel_rfl) (by kernel_rfl) (fun _ _ _ h => h) (Or.inl ⟨by rfl, ?_⟩) hHeld ?_
        · intro w hSw; (try dsimp only at hSw); go_simp
        try simp only [Act.put, List.setIfInBounds_toArray, List.set_cons_zero, List.set_cons_succ]
        refine wpAnyH_takeL (i := 4) (d := some 79) (v := .pointer (some ⟨ga, ofa + k * 8, none⟩)) rfl rfl (by kernel_rfl) (by kernel_rfl) (by kernel_rfl) (fun _ _ _ h => h) (Or.inl ⟨by rfl, ?_⟩) hHeld ?_
        · intro w hSw; (try dsimp only at hSw); go_simp
        try simp only [Act.put, List.setIfInBounds_toArray, List.set_cons_zero, List.set_cons_succ]
        refine wpAnyH_takeL (i := 5) (d := some 80) (v := .agg (rA x)) rfl rfl (by kernel_rfl) (by kernel_rfl) (by kernel_rfl) (fun _ _ _ h => h) (Or.inl ⟨by rfl, ?_⟩) hHeld ?_
        · intro w hSw; exact yl_elem 34 _ ga (ofa + k * 8) (rA x) rfl (show w.rangeAt ga (ofa + k * 8) (rA x).toList from hSw.out) Try.underlying34 rfl Try.zRr
        try simp only [Act.put, List.setIfInBounds_toArray, List.set_cons_zero, List.set_cons_succ]
        refine wpAnyH_ready (rs := [1, 6]) (by kernel_rfl) (by simp) ?_
        refine AllReadyH.cons rfl (fun K hK => ?_) (AllReadyH.cons rfl (fun K hK => ?_) AllReadyH.nil)
        · skip
          go_simp
          (with_reducible refine (log_k bc mc G101 D Kg _ r104_c.cr.cm (by omega)).mono ?_)
          rintro e u105 ⟨Al, nl, cl, Gl, rfl, sl, hGl, b105⟩
          have hGn : ∀ g, Gl = some g → (¬ Own bc mc G101 g ∧ w.heap.size ≤ g) ∧ ¬ Own bd md G102 g := fun g e => ⟨⟨fun hi => by have := r104_c.cr.cm.own_lt hi; have := hGl g e; omega, Nat.le_trans l104.size (hGl g e)⟩, fun hi => by have := r104_d.cr.cm.own_lt hi; have := hGl g e; omega⟩
          clear hGl
          have r106_rl := (r104_rl).on b105
          have r106_c := r104_c.on b105
          have r106_d := r104_d.on b105
          have l106 := le_tr l104 b105
          clear r104_rl r104_c r104_d l104
          clear b105
          have hlk2 : nl ≤ 300 := by have := rc_len sl; omega
          go_wp2_with fail
          have y107 := Lib.hid (show (fun V : World => rangeL w.heap.size V ga (ofa + k * 8) x) u105 from r106_rl)
          refine hK.out _ _ y107.out (fun hHeld => ?_)
          clear hK K y107
          try simp only [Act.put, List.setIfInBounds_toArray, List.set_cons_zero, List.set_cons_succ]
          refine wpAnyH_ready (rs := [6]) (by kernel_rfl) (by simp) ?_
          refine AllReadyH.cons rfl (fun K hK => ?_) AllReadyH.nil
          refine rd_lit1 rfl 53 33 _ rfl (some 81) rfl (rA x) rfl Try.underlying53 Try.infoK2 rfl (by decide) (by decide) ?_
          refine ⟨fun V108 g108 n108 f108 => ?_⟩
          have bl108 := f108.bel
          clear f108
          have r109_rl := (r106_rl).on bl108
          have r109_lg := (sl).on bl108
          have r109_c := r106_c.on bl108
          have r109_d := r106_d.on bl108
          have l109 := le_tr l106 bl108
          clear r106_rl sl r106_c r106_d l106
          clear bl108
          have y110 := Lib.hid (show (fun V : World => rangeL w.heap.size V ga (ofa + k * 8) x) V108 from r109_rl)
          refine hK.out _ _ y110.out (fun hHeld => ?_)
          clear hK K y110
          try simp only [Act.put, List.setIfInBounds_toArray, List.set_cons_zero, List.set_cons_succ]
          refine wpAnyH_ready (rs := [7]) (by kernel_rfl) (by simp) ?_
          refine AllReadyH.cons rfl (fun K hK => ?_) AllReadyH.nil
          refine rd_app rfl (.tmp 76) (.tmp 81) 53 rfl (some 82) rfl 33 Try.underlying53 Try.infoK rfl (by decide) rfl r109_lg rfl (Src.box n108 rfl) (all_list (rA_one x)) (by simp only [maxLen]; omega) (by omega) (nl + 1) rfl ?_
          refine ⟨fun A5 c5 G5 w111 s5 s6 s7 => ?_⟩
          have s5 : RR w111 kcl 8 A5 (nl + 1) c5 (Kg ++ [x]) := RR.of_seg (by rw [← rc_snoc]; exact s5)
          have t1 := r109_c.grown s6 (fun g e => (hGn g e).1)
          have t2 := r109_d.grown s6 (fun g e => ⟨(hGn g e).2, (hGn g e).1.2⟩)
          have t3 := r109_rl.keep (s6.block ga (World.block_lt_of_cell? _ _ (r109_rl.out 0 _ rfl)) (fun e => by have := (hGn ga e.symm).1.2; omega))
          have t4 := t1.low
          clear s6 s7 r109_c r109_d r109_rl l109 n108 r109_lg
          have y112 := Lib.hid (show (fun V : World => rangeL w.heap.size V ga (ofa + k * 8) x) w111 from t3)
          refine hK.out _ _ y112.out (fun hHeld => ?_)
          clear hK K y112
          try simp only [Act.put, List.setIfInBounds_toArray, List.set_cons_zero, List.set_cons_succ]
          refine wpAnyH_ready (rs := [8]) (by kernel_rfl) (by simp) ?_
          refine AllReadyH.cons rfl (fun K hK => ?_) AllReadyH.nil
          go_simp
          (with_reducible refine (replay_no A5 (nl + 1) c5 (Kg ++ [x]) _ s5 (by omega) (okL_snoc hoK hxo) hbl).mono ?_)
          rintro e u113 ⟨rfl, b113⟩
          have r114_rl := (t3).on b113
          have r114_rr := (s5).on b113
          have r114_c := t1.on b113
          have r114_d := t2.on b113
          have l114 := le_tr t4 b113
          clear t3 s5 t1 t2 t4
          clear b113
          go_wp2_with fail
          have y115 := Lib.hid (show (fun V : World => rangeL w.heap.size V ga (ofa + k * 8) x) u113 from r114_rl)
          refine hK.out _ _ y115.out (fun hHeld => ?_)
          clear hK K y115
          try simp only [Act.put, List.setIfInBounds_toArray, List.set_cons_zero, List.set_cons_succ]
          refine wpAnyH_takeL (i := 9) (d := some 74) (v := .tuple #[.pointer none, .int .i64 4]) rfl rfl (by kernel_rfl) (by kernel_rfl) (by kernel_rfl) (fun _ _ _ h => h) (Or.inl ⟨by rfl, ?_⟩) hHeld ?_
          · intro w hSw; (try dsimp only at hSw); go_simp
          try simp only [Act.put, List.setIfInBounds_toArray, List.set_cons_zero, List.set_cons_succ]
          refine wpAnyH_takeL (i := 10) (d := some 84) (v := .pointer none) rfl rfl (by kernel_rfl) (by kernel_rfl) (by kernel_rfl) (fun _ _ _ h => h) (Or.inl ⟨by rfl, ?_⟩) hHeld ?_
          · intro w hSw; (try dsimp only at hSw); go_simp
          try simp only [Act.put, List.setIfInBounds_toArray, List.set_cons_zero, List.set_cons_succ]
          refine wpAnyH_takeL (i := 11) (d := some 85) (v := .int .i64 4) rfl rfl (by kernel_rfl) (by kernel_rfl) (by kernel_rfl) (fun _ _ _ h => h) (Or.inl ⟨by rfl, ?_⟩) hHeld ?_
          · intro w hSw; (try dsimp only at hSw); go_simp
          try simp only [Act.put, List.setIfInBounds_toArray, List.set_cons_zero, List.set_cons_succ]
          refine wpAnyH_takeL (i := 12) (d := some 13) (v := .pointer none) rfl rfl (by kernel_rfl) (by kernel_rfl) (by kernel_rfl) (fun _ _ _ h => h) (Or.inl ⟨by rfl, ?_⟩) hHeld ?_
          · intro w hSw; (try dsimp only at hSw); go_simp
          try simp only [Act.put, List.setIfInBounds_toArray, List.set_cons_zero, List.set_cons_succ]
          refine wpAnyH_takeL (i := 13) (d := some 14) (v := .int .i64 4) rfl rfl (by kernel_rfl) (by kernel_rfl) (by kernel_rfl) (fun _ _ _ h => h) (Or.inl ⟨by rfl, ?_⟩) hHeld ?_
          · intro w hSw; (try dsimp only at hSw); go_simp
          try simp only [Act.put, List.setIfInBounds_toArray, List.set_cons_zero, List.set_cons_succ]
          refine wpAnyH_done (by kernel_rfl) ?_ _
          go_wp2_with fail
          go_roundw
          case rel => exact ⟨k + 1, _, _, D, Kg, by omega, by omega, by go_num, r114_c, r114_d, ap102_c, by omega, hoK⟩
          case measure => simp [intOf]; omega
        · skip
          refine rd_lit1 rfl 53 33 _ rfl (some 81) rfl (rA x) rfl Try.underlying53 Try.infoK2 rfl (by decide) (by decide) ?_
          refine ⟨fun V105 g105 n105 f105 => ?_⟩
          have bl105 := f105.bel
          clear f105
          have r106_rl := (r104_rl).on bl105
          have r106_c := r104_c.on bl105
          have r106_d := r104_d.on bl105
          have l106 := le_tr l104 bl105
          clear r104_rl r104_c r104_d l104
          clear bl105
          have y107 := Lib.hid (show (fun V : World => rangeL w.heap.size V ga (ofa + k * 8) x) V105 from r106_rl)
          refine hK.out _ _ y107.out (fun hHeld => ?_)
          clear hK K y107
          try simp only [Act.put, List.setIfInBounds_toArray, List.set_cons_zero, List.set_cons_succ]
          refine wpAnyH_ready (rs := [1]) (by kernel_rfl) (by simp) ?_
          refine AllReadyH.cons rfl (fun K hK => ?_) AllReadyH.nil
          go_simp
          (with_reducible refine (log_k bc mc G101 D Kg _ r106_c.cr.cm (by omega)).mono ?_)
          rintro e u108 ⟨Al, nl, cl, Gl, rfl, sl, hGl, b108⟩
          have hGn : ∀ g, Gl = some g → (¬ Own bc mc G101 g ∧ w.heap.size ≤ g) ∧ ¬ Own bd md G102 g := fun g e => ⟨⟨fun hi => by have := r106_c.cr.cm.own_lt hi; have := hGl g e; omega, Nat.le_trans l106.size (hGl g e)⟩, fun hi => by have := r106_d.cr.cm.own_lt hi; have := hGl g e; omega⟩
          clear hGl
          have r109_l := le_on n105 b108
          have r109_rl := (r106_rl).on b108
          have r109_c := r106_c.on b108
          have r109_d := r106_d.on b108
          have l109 := le_tr l106 b108
          clear n105 r106_rl r106_c r106_d l106
          clear b108
          have hlk2 : nl ≤ 300 := by have := rc_len sl; omega
          go_wp2_with fail
          have y110 := Lib.hid (show (fun V : World => rangeL w.heap.size V ga (ofa + k * 8) x) u108 from r109_rl)
          refine hK.out _ _ y110.out (fun hHeld => ?_)
          clear hK K y110
          try simp only [Act.put, List.setIfInBounds_toArray, List.set_cons_zero, List.set_cons_succ]
          refine wpAnyH_ready (rs := [7]) (by kernel_rfl) (by simp) ?_
          refine AllReadyH.cons rfl (fun K hK => ?_) AllReadyH.nil
          refine rd_app rfl (.tmp 76) (.tmp 81) 53 rfl (some 82) rfl 33 Try.underlying53 Try.infoK rfl (by decide) rfl sl rfl (Src.box r109_l rfl) (all_list (rA_one x)) (by simp only [maxLen]; omega) (by omega) (nl + 1) rfl ?_
          refine ⟨fun A5 c5 G5 w111 s5 s6 s7 => ?_⟩
          have s5 : RR w111 kcl 8 A5 (nl + 1) c5 (Kg ++ [x]) := RR.of_seg (by rw [← rc_snoc]; exact s5)
          have t1 := r109_c.grown s6 (fun g e => (hGn g e).1)
          have t2 := r109_d.grown s6 (fun g e => ⟨(hGn g e).2, (hGn g e).1.2⟩)
          have t3 := r109_rl.keep (s6.block ga (World.block_lt_of_cell? _ _ (r109_rl.out 0 _ rfl)) (fun e => by have := (hGn ga e.symm).1.2; omega))
          have t4 := t1.low
          clear s6 s7 r109_c r109_d r109_rl l109 r109_l sl
          have y112 := Lib.hid (show (fun V : World => rangeL w.heap.size V ga (ofa + k * 8) x) w111 from t3)
          refine hK.out _ _ y112.out (fun hHeld => ?_)
          clear hK K y112
          try simp only [Act.put, List.setIfInBounds_toArray, List.set_cons_zero, List.set_cons_succ]
          refine wpAnyH_ready (rs := [8]) (by kernel_rfl) (by simp) ?_
          refine AllReadyH.cons rfl (fun K hK => ?_) AllReadyH.nil
          go_simp
          (with_reducible refine (replay_no A5 (nl + 1) c5 (Kg ++ [x]) _ s5 (by omega) (okL_snoc hoK hxo) hbl).mono ?_)
          rintro e u113 ⟨rfl, b113⟩
          have r114_rl := (t3).on b113
          have r114_rr := (s5).on b113
          have r114_c := t1.on b113
          have r114_d := t2.on b113
          have l114 := le_tr t4 b113
          clear t3 s5 t1 t2 t4
          clear b113
          go_wp2_with fail
          have y115 := Lib.hid (show (fun V : World => rangeL w.heap.size V ga (ofa + k * 8) x) u113 from r114_rl)
          refine hK.out _ _ y115.out (fun hHeld => ?_)
          clear hK K y115
          try simp only [Act.put, List.setIfInBounds_toArray, List.set_cons_zero, List.set_cons_succ]
          refine wpAnyH_takeL (i := 9) (d := some 74) (v := .tuple #[.pointer none, .int .i64 4]) rfl rfl (by kernel_rfl) (by kernel_rfl) (by kernel_rfl) (fun _ _ _ h => h) (Or.inl ⟨by rfl, ?_⟩) hHeld ?_
          · intro w hSw; (try dsimp only at hSw); go_simp
          try simp only [Act.put, List.setIfInBounds_toArray, List.set_cons_zero, List.set_cons_succ]
          refine wpAnyH_takeL (i := 10) (d := some 84) (v := .pointer none) rfl rfl (by kernel_rfl) (by kernel_rfl) (by kernel_rfl) (fun _ _ _ h => h) (Or.inl ⟨by rfl, ?_⟩) hHeld ?_
          · intro w hSw; (try dsimp only at hSw); go_simp
          try simp only [Act.put, List.setIfInBounds_toArray, List.set_cons_zero, List.set_cons_succ]
          refine wpAnyH_takeL (i := 11) (d := some 85) (v := .int .i64 4) rfl rfl (by kernel_rfl) (by kernel_rfl) (by kernel_rfl) (fun _ _ _ h => h) (Or.inl ⟨by rfl, ?_⟩) hHeld ?_
          · intro w hSw; (try dsimp only at hSw); go_simp
          try simp only [Act.put, List.setIfInBounds_toArray, List.set_cons_zero, List.set_cons_succ]
          refine wpAnyH_takeL (i := 12) (d := some 13) (v := .pointer none) rfl rfl (by kernel_rfl) (by kernel_rfl) (by kernel_rfl) (fun _ _ _ h => h) (Or.inl ⟨by rfl, ?_⟩) hHeld ?_
          · intro w hSw; (try dsimp only at hSw); go_simp
          try simp only [Act.put, List.setIfInBounds_toArray, List.set_cons_zero, List.set_cons_succ]
          refine wpAnyH_takeL (i := 13) (d := some 14) (v := .int .i64 4) rfl rfl (by kernel_rfl) (by kernel_rfl) (by kernel_rfl) (fun _ _ _ h => h) (Or.inl ⟨by rfl, ?_⟩) hHeld ?_
          · intro w hSw; (try dsimp only at hSw); go_simp
          try simp only [Act.put, List.setIfInBounds_toArray, List.set_cons_zero, List.set_cons_succ]
          refine wpAnyH_done (by kernel_rfl) ?_ _
          go_wp2_with fail
          go_roundw
          case rel => exact ⟨k + 1, _, _, D, Kg, by omega, by omega, by go_num, r114_c, r114_d, ap102_c, by omega, hoK⟩
          case measure => simp [intOf]; omega
      obtain rfl : k = 120 := by omega
      have l3 : decide (((120 : Nat) : Int) < 120) = false := by simp
      have hf := hsc.cr.good.few
      clear hap
      go_wp2_with fail
      refine (open_c bc mc G1 D Kg _ hsc.cr.cm hf).mono ?_
      rintro e w701 ⟨A1, n1, c1, rfl, s1, b701⟩
      have r702_c := hsc.on b701
      have r702_d := hsd.on b701
      have l702 := le_tr l9 b701
      clear hsc hsd l9
      clear b701
      go_wp2_with fail
      refine (open_c bd md G2 D Kg _ r702_d.cr.cm hf).mono ?_
      rintro e w703 ⟨A3, n3, c3, rfl, s3, b703⟩
      have r704_s1 := (s1).on b703
      have r704_c := r702_c.on b703
      have r704_d := r702_d.on b703
      have l704 := le_tr l702 b703
      clear s1 r702_c r702_d l702
      clear b703
      have hn1 := r704_s1.len
      have en : n3 = n1 := by rw [← s3.len]; exact hn1
      have hn13 : n1 ≤ 1000 := by rw [← hn1]; exact keysF_len _ _
      rw [en] at s3 ⊢
      clear en hn1 hf
      go_wp2_with fail
      refine (log_k bc mc G1 D Kg _ r704_c.cr.cm (by omega)).mono ?_
      rintro e w705 ⟨Al, nl, cl, Gl, rfl, sl, hGl, b705⟩
      have r706_s1 := (r704_s1).on b705
      have r706_s3 := (s3).on b705
      have r706_c := r704_c.on b705
      have r706_d := r704_d.on b705
      have l706 := le_tr l704 b705
      clear r704_s1 s3 r704_c r704_d l704
      clear b705
      have en : nl = Kg.length := (rc_len sl).symm
      rw [en]
      clear en sl hGl
      go_wp2_with fail
      refine (log_k bd md G2 D Kg _ r706_d.cr.cm (by omega)).mono ?_
      rintro e w707 ⟨Am, nm, cm, Gm, rfl, sm, hGm, b707⟩
      have r708_s1 := (r706_s1).on b707
      have r708_s3 := (r706_s3).on b707
      have r708_c := r706_c.on b707
      have r708_d := r706_d.on b707
      have l708 := le_tr l706 b707
      clear r706_s1 r706_s3 r706_c r706_d l706
      clear b707
      have en : nm = Kg.length := (rc_len sm).symm
      rw [en]
      clear en sm hGm
      go_wp2_with fail
      go_loopw [112] (fun iv wi => ∃ j : Nat, j ≤ n1 ∧ iv = .int .i64 j ∧ ZS wi A1 n1 c1 (opensF D) ∧ ZS wi A3 n1 c3 (opensF D) ∧ Below w.heap.size w wi) (fun iv _ => n1 - (intOf iv).toNat)
      case atStart => exact ⟨0, by omega, rfl, r708_s1, r708_s3, l708⟩
      case round =>
        clear r708_s1 r708_s3 r708_c r708_d l708
        obtain ⟨j, hj, rfl, z1, z3, hl⟩ := hrel
        by_cases hlt2 : j < n1
        · have l4 : (j : Int) < n1 := by omega
          have l5 : (0 : Int) ≤ (j : Int) := by omega
          obtain ⟨gx, ox, t, ht, rfl, cx⟩ := z1.rr.num hlt2
          obtain ⟨gy, oy, t2, ht2, rfl, cy⟩ := z3.rr.num hlt2
          obtain rfl : t = t2 := by rw [ht] at ht2; cases ht2; rfl
          have hq : ((t : Int) != (t : Int)) = false := by simp
          have hl2 := belowN hl
          clear ht ht2
          go_wp2_with fail
          go_quiet (fail)
          go_wp2_with fail
          go_roundw
          case rel => exact ⟨j + 1, by omega, by go_num, z1, z3, le_dN hl⟩
          case measure => simp [intOf]; omega
        · obtain rfl : j = n1 := by omega
          go_wp2_with fail
          go_ret
          exact ⟨rfl, hl⟩
    have l1 : decide ((k : Int) < n2) = false := by simp; omega
    have hf := hsc.cr.good.few
    clear hap
    go_wp2_with fail
    refine (open_c bc mc G1 D Kg _ hsc.cr.cm hf).mono ?_
    rintro e w701 ⟨A1, n1, c1, rfl, s1, b701⟩
    have r702_c := hsc.on b701
    have r702_d := hsd.on b701
    have l702 := le_tr l9 b701
    clear hsc hsd l9
    clear b701
    go_wp2_with fail
    refine (open_c bd md G2 D Kg _ r702_d.cr.cm hf).mono ?_
    rintro e w703 ⟨A3, n3, c3, rfl, s3, b703⟩
    have r704_s1 := (s1).on b703
    have r704_c := r702_c.on b703
    have r704_d := r702_d.on b703
    have l704 := le_tr l702 b703
    clear s1 r702_c r702_d l702
    clear b703
    have hn1 := r704_s1.len
    have en : n3 = n1 := by rw [← s3.len]; exact hn1
    have hn13 : n1 ≤ 1000 := by rw [← hn1]; exact keysF_len _ _
    rw [en] at s3 ⊢
    clear en hn1 hf
    go_wp2_with fail
    refine (log_k bc mc G1 D Kg _ r704_c.cr.cm (by omega)).mono ?_
    rintro e w705 ⟨Al, nl, cl, Gl, rfl, sl, hGl, b705⟩
    have r706_s1 := (r704_s1).on b705
    have r706_s3 := (s3).on b705
    have r706_c := r704_c.on b705
    have r706_d := r704_d.on b705
    have l706 := le_tr l704 b705
    clear r704_s1 s3 r704_c r704_d l704
    clear b705
    have en : nl = Kg.length := (rc_len sl).symm
    rw [en]
    clear en sl hGl
    go_wp2_with fail
    refine (log_k bd md G2 D Kg _ r706_d.cr.cm (by omega)).mono ?_
    rintro e w707 ⟨Am, nm, cm, Gm, rfl, sm, hGm, b707⟩
    have r708_s1 := (r706_s1).on b707
    have r708_s3 := (r706_s3).on b707
    have r708_c := r706_c.on b707
    have r708_d := r706_d.on b707
    have l708 := le_tr l706 b707
    clear r706_s1 r706_s3 r706_c r706_d l706
    clear b707
    have en : nm = Kg.length := (rc_len sm).symm
    rw [en]
    clear en sm hGm
    go_wp2_with fail
    go_loopw [112] (fun iv wi => ∃ j : Nat, j ≤ n1 ∧ iv = .int .i64 j ∧ ZS wi A1 n1 c1 (opensF D) ∧ ZS wi A3 n1 c3 (opensF D) ∧ Below w.heap.size w wi) (fun iv _ => n1 - (intOf iv).toNat)
    case atStart => exact ⟨0, by omega, rfl, r708_s1, r708_s3, l708⟩
    case round =>
      clear r708_s1 r708_s3 r708_c r708_d l708
      obtain ⟨j, hj, rfl, z1, z3, hl⟩ := hrel
      by_cases hlt2 : j < n1
      · have l4 : (j : Int) < n1 := by omega
        have l5 : (0 : Int) ≤ (j : Int) := by omega
        obtain ⟨gx, ox, t, ht, rfl, cx⟩ := z1.rr.num hlt2
        obtain ⟨gy, oy, t2, ht2, rfl, cy⟩ := z3.rr.num hlt2
        obtain rfl : t = t2 := by rw [ht] at ht2; cases ht2; rfl
        have hq : ((t : Int) != (t : Int)) = false := by simp
        have hl2 := belowN hl
        clear ht ht2
        go_wp2_with fail
        go_quiet (fail)
        go_wp2_with fail
        go_roundw
        case rel => exact ⟨j + 1, by omega, by go_num, z1, z3, le_dN hl⟩
        case measure => simp [intOf]; omega
      · obtain rfl : j = n1 := by omega
        go_wp2_with fail
        go_ret
        exact ⟨rfl, hl⟩
end Go.Proofs.Ytjfmahceolhfnaa
