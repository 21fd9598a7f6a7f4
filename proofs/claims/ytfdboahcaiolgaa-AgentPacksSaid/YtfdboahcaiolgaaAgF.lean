/-
  The document's Pack. Condition: the ballots can be read.
-/
import Derived.Test.YtfdboahcaiolgaaAgE
set_option linter.unusedVariables false
set_option linter.unusedSimpArgs false
namespace Go.Proofs.Ytfdboahcaiolgaa
open Go.RowKit
open Dk (Nt InN RightN BoundN MsgN NoMsg KindN EpN bound_n)


set_option maxRecDepth 100000 in
set_option maxHeartbeats 4000000 in
theorem gpack_r (A : Option Addr) (n q : Nat) (L : List Bl) (w : World) (h : RR w dcl 2 A n q L) : Calls Try.prog 12 #[.slice A n q] w fun zz w' => zz = .returned (.tuple #[.string (bPk L), .int .i64 ((ePk L : Nat) : Int)]) ∧ Below w.heap.size w w' := by
  have hlen := h.len
  have hmx := (RL.start h).max
  have hx := RL.start h
  have CR := fun V (hV : RL w V dcl 2 A n q L) => gright_r A n q L V hV.rr
  by_cases hr : RightB L
  rotate_left
  · skip
    obtain ⟨b1, b2⟩ := bPk_no hr
    have B1 := Lib.hid b1
    have B2 := Lib.hid b2
    simp only [decide_eq_false hr] at CR
    clear b1 b2 hr
    go_enter Try.func12, Try.ntmps12
    go_wp2_with fail
    (with_reducible refine (CR _ hx).mono ?_)
    rintro e w1 ⟨rfl, b1⟩
    have r3_l := (hx).on b1
    have l3 := le_tr (Below.refl _ _) b1
    clear hx
    clear b1
    go_wp2_with fail
    exact bodyPost_ret (v := .tuple #[.string ⟨#[]⟩, .int .i64 2]) (by simp [results, Try.results12, go_sem]) rfl ⟨by rw [B1.out, B2.out] <;> rfl, l3⟩
  obtain ⟨b1, b2⟩ := bPk_yes hr
  obtain ⟨e1, e2⟩ := encG_ok hr
  have B1 := Lib.hid b1
  have B2 := Lib.hid b2
  have hn : n ≤ 50 := by have := hr.1; omega
  have hmy := hr.2.1
  have ho := okV_cvG hmy
  have CS := fun V => shape_r n V (by omega)
  have hsm := shS_max (n := n) (by omega)
  have CE : ∀ V B c, RR V vcl 2 B (cvG L).length c (cvG L) → Calls Try.prog 32 #[.string (Dk.mkS (shG n)), .slice B (cvG L).length c] V (YPost V (encG L) 0) := fun V B c hV => by
    have := enc_R B c (cvG L) V (Dk.mkS (shG n)) hsm hV ho
    rw [Dk.bl_mkS, ← hlen, e1, e2] at this
    rw [← hlen]
    exact this
  simp only [decide_eq_true hr] at CR
  obtain ⟨S, hS⟩ : ∃ S, Dk.mkS (shG n) = S := ⟨_, rfl⟩
  simp only [hS] at CS CE hsm
  have HL := Lib.hid hlen
  obtain ⟨l, hl⟩ : ∃ l, cvG L = l := ⟨_, rfl⟩
  clear b1 b2 e1 e2 hr hS hlen
  have el : (cvG L).length = 2 * n := by rw [cvG_length, HL.out]
  have CQ : ∀ V B c, RR V vcl 2 B (2 * n) c (cvG L) → Calls Try.prog 32 #[.string S, .slice B (2 * n) c] V (YPost V (encG L) 0) := fun V B c hV => by have := CE V B c (by rw [el]; exact hV); rwa [el] at this
  clear hl CE el
  go_enter Try.func12, Try.ntmps12
  go_wp2_with fail
  (with_reducible refine (CR _ hx).mono ?_)
  rintro e w1 ⟨rfl, b1⟩
  have r3_l := (hx).on b1
  have l3 := le_tr (Below.refl _ _) b1
  clear hx
  clear b1
  go_wp2_with fail
  go_loopw [4, 5] (fun sv iv wr => ∃ (k : Nat) (B : Option Addr) (c : Nat) (G : Option Nat), k ≤ n ∧ iv = .int .i64 k ∧ sv = .slice B (2 * k) c ∧ RL w wr dcl 2 A n q L ∧ SO w.heap.size wr 87 vcl 2 B (2 * k) c (cvG (L.take k)) G ∧ Below w.heap.size w wr) (fun _ iv _ => n - (intOf iv).toNat)
  case atStart => exact ⟨0, none, 0, none, by omega, rfl, rfl, r3_l, SO.nil _ _ _ _ _, l3⟩
  case round =>
    have hm := hmy
    have hlen := HL
    obtain ⟨k, B, c, G, hk, rfl, rfl, hx, hs, hw⟩ := hrel
    by_cases hlt : k < n
    · skip
      obtain ⟨g, off, x, hxk, hA, _⟩ := hx.rr.elem hlt
      subst hA
      obtain ⟨t, u, rfl, ht, hu⟩ := nat_b (hm x (List.mem_of_getElem? hxk))
      have l1 : (k : Int) < n := by omega
      have HN := Lib.hid (cvG_next hxk)
      have zt : IntKind.u64.wrap (t : Int) = (t : Int) := IntWalk.u64_in _ (by omega)
      have zu : IntKind.u64.wrap (u : Int) = (u : Int) := IntWalk.u64_in _ (by omega)
      have C1 := fun V => gn_r t V
      have C2 := fun V => gn_r u V
      have HC := Lib.hid hxk
      go_wp2_with fail
      have y101 := Lib.hid (show (fun V : World => RL w V dcl 2 (some ⟨g, off, none⟩) n q L) wr.drew from (hx).drew)
      refine wp_region_held_drew (S := (fun V : World => RL w V dcl 2 (some ⟨g, off, none⟩) n q L)) (by kernel_rfl) y101.out (fun hHeld => ?_)
      obtain ⟨D101, hD101⟩ : ∃ V, wr.drew = V := ⟨_, rfl⟩
      have b101 : Below wr.heap.size wr D101 := by rw [← hD101]; exact le_dr (Below.refl _ _)
      rw [hD101] at hHeld ⊢
      clear hD101
      have r102_s := SO.on hs b101
      have r103_l := (hx).on b101
      have l103 := le_tr hw b101
      clear hx hw
      clear hs
      clear b101
      refine wpAnyH_takeL (i := 0) (d := some 17) (v := .slice B (2 * k) c) rfl rfl (by kernel_rfl) (by kernel_rfl) (by kernel_rfl) (fun _ _ _ h => h) (Or.inl ⟨by rfl, ?_⟩) hHeld ?_
      · intro w hSw; (try dsimp only at hSw); go_simp
      try simp only [Act.put, List.setIfInBounds_toArray, List.set_cons_zero, List.set_cons_succ]
      refine wpAnyH_takeL (i := 1) (d := some 18) (v := .slice (some ⟨g, off, none⟩) n q) rfl rfl (by kernel_rfl) (by kernel_rfl) (by kernel_rfl) (fun _ _ _ h => h) (Or.inl ⟨by rfl, ?_⟩) hHeld ?_
      · intro w hSw; (try dsimp only at hSw); go_simp
      try simp only [Act.put, List.setIfInBounds_toArray, List.set_cons_zero, List.set_cons_succ]
      refine wpAnyH_takeL (i := 2) (d := some 19) (v := .int .i64 (k : Int)) rfl rfl (by kernel_rfl) (by kernel_rfl) (by kernel_rfl) (fun _ _ _ h => h) (Or.inl ⟨by rfl, ?_⟩) hHeld ?_
      · intro w hSw; (try dsimp only at hSw); go_simp
      try simp only [Act.put, List.setIfInBounds_toArray, List.set_cons_zero, List.set_cons_succ]
      refine wpAnyH_takeL (i := 3) (d := some 20) (v := .pointer (some ⟨g, off + k * 2, none⟩)) rfl rfl (by kernel_rfl) (by kernel_rfl) (by kernel_rfl) (fun _ _ _ h => h) (Or.inl ⟨by rfl, ?_⟩) hHeld ?_
      · intro w hSw; (try dsimp only at hSw); go_simp
      try simp only [Act.put, List.setIfInBounds_toArray, List.set_cons_zero, List.set_cons_succ]
      refine wpAnyH_takeL (i := 4) (d := some 21) (v := .pointer (some ⟨g, off + k * 2, none⟩)) rfl rfl (by kernel_rfl) (by kernel_rfl) (by kernel_rfl) (fun _ _ _ h => h) (Or.inl ⟨by rfl, ?_⟩) hHeld ?_
      · intro w hSw; (try dsimp only at hSw); go_simp
      try simp only [Act.put, List.setIfInBounds_toArray, List.set_cons_zero, List.set_cons_succ]
      refine wpAnyH_takeL (i := 5) (d := some 22) (v := .int .i64 (t : Int)) rfl rfl (by kernel_rfl) (by kernel_rfl) (by kernel_rfl) (fun _ _ _ h => h) (Or.inl ⟨by rfl, ?_⟩) hHeld ?_
      · intro w hSw; have hcc : w.cell? ⟨g, off + k * 2, none⟩ = some (.int .i64 (t : Int)) := RR.elemAt hSw.rr HC.out rfl 0 _ rfl; go_simp
      try simp only [Act.put, List.setIfInBounds_toArray, List.set_cons_zero, List.set_cons_succ]
      refine wpAnyH_takeL (i := 6) (d := some 23) (v := .int .u64 (t : Int)) rfl rfl (by kernel_rfl) (by kernel_rfl) (by kernel_rfl) (fun _ _ _ h => h) (Or.inl ⟨by rfl, ?_⟩) hHeld ?_
      · intro w hSw; (try dsimp only at hSw); go_simp
      try simp only [Act.put, List.setIfInBounds_toArray, List.set_cons_zero, List.set_cons_succ]
      refine wpAnyH_takeL (i := 8) (d := some 25) (v := .slice (some ⟨g, off, none⟩) n q) rfl rfl (by kernel_rfl) (by kernel_rfl) (by kernel_rfl) (fun _ _ _ h => h) (Or.inl ⟨by rfl, ?_⟩) hHeld ?_
      · intro w hSw; (try dsimp only at hSw); go_simp
      try simp only [Act.put, List.setIfInBounds_toArray, List.set_cons_zero, List.set_cons_succ]
      refine wpAnyH_takeL (i := 9) (d := some 26) (v := .int .i64 (k : Int)) rfl rfl (by kernel_rfl) (by kernel_rfl) (by kernel_rfl) (fun _ _ _ h => h) (Or.inl ⟨by rfl, ?_⟩) hHeld ?_
      · intro w hSw; (try dsimp only at hSw); go_simp
      try simp only [Act.put, List.setIfInBounds_toArray, List.set_cons_zero, List.set_cons_succ]
      refine wpAnyH_takeL (i := 10) (d := some 27) (v := .pointer (some ⟨g, off + k * 2, none⟩)) rfl rfl (by kernel_rfl) (by kernel_rfl) (by kernel_rfl) (fun _ _ _ h => h) (Or.inl ⟨by rfl, ?_⟩) hHeld ?_
      · intro w hSw; (try dsimp only at hSw); go_simp
      try simp only [Act.put, List.setIfInBounds_toArray, List.set_cons_zero, List.set_cons_succ]
      refine wpAnyH_takeL (i := 11) (d := some 28) (v := .pointer (some ⟨g, off + k * 2 + 1, none⟩)) rfl rfl (by kernel_rfl) (by kernel_rfl) (by kernel_rfl) (fun _ _ _ h => h) (Or.inl ⟨by rfl, ?_⟩) hHeld ?_
      · intro w hSw; (try dsimp only at hSw); go_simp
      try simp only [Act.put, List.setIfInBounds_toArray, List.set_cons_zero, List.set_cons_succ]
      refine wpAnyH_takeL (i := 12) (d := some 29) (v := .int .i64 (u : Int)) rfl rfl (by kernel_rfl) (by kernel_rfl) (by kernel_rfl) (fun _ _ _ h => h) (Or.inl ⟨by rfl, ?_⟩) hHeld ?_
      · intro w hSw; have hcc : w.cell? ⟨g, off + k * 2 + 1, none⟩ = some (.int .i64 (u : Int)) := RR.elemAt hSw.rr HC.out rfl 1 _ rfl; go_simp
      try simp only [Act.put, List.setIfInBounds_toArray, List.set_cons_zero, List.set_cons_succ]
      refine wpAnyH_takeL (i := 13) (d := some 30) (v := .int .u64 (u : Int)) rfl rfl (by kernel_rfl) (by kernel_rfl) (by kernel_rfl) (fun _ _ _ h => h) (Or.inl ⟨by rfl, ?_⟩) hHeld ?_
      · intro w hSw; (try dsimp only at hSw); go_simp
      try simp only [Act.put, List.setIfInBounds_toArray, List.set_cons_zero, List.set_cons_succ]
      refine wpAnyH_ready (rs := [7]) (by kernel_rfl) (by simp) ?_
      refine AllReadyH.cons rfl (fun K hK => ?_) AllReadyH.nil
      go_simp
      (with_reducible refine (C1 _).mono ?_)
      rintro e u104 ⟨rfl, b104⟩
      have r105_s := SO.on r102_s b104
      have r106_l := (r103_l).on b104
      have l106 := le_tr l103 b104
      clear r103_l l103
      clear r102_s
      clear b104
      go_wp2_with fail
      have y107 := Lib.hid (show (fun V : World => RL w V dcl 2 (some ⟨g, off, none⟩) n q L) u104 from r106_l)
      refine hK.out _ _ y107.out (fun hHeld => ?_)
      clear hK K y107
      try simp only [Act.put, List.setIfInBounds_toArray, List.set_cons_zero, List.set_cons_succ]
      refine wpAnyH_ready (rs := [14]) (by kernel_rfl) (by simp) ?_
      refine AllReadyH.cons rfl (fun K hK => ?_) AllReadyH.nil
      go_simp
      (with_reducible refine (C2 _).mono ?_)
      rintro e u108 ⟨rfl, b108⟩
      have r109_s := SO.on r105_s b108
      have r110_l := (r106_l).on b108
      have l110 := le_tr l106 b108
      clear r106_l l106
      clear r105_s
      clear b108
      go_wp2_with fail
      have y111 := Lib.hid (show (fun V : World => RL w V dcl 2 (some ⟨g, off, none⟩) n q L) u108 from r110_l)
      refine hK.out _ _ y111.out (fun hHeld => ?_)
      clear hK K y111
      try simp only [Act.put, List.setIfInBounds_toArray, List.set_cons_zero, List.set_cons_succ]
      refine wpAnyH_ready (rs := [15]) (by kernel_rfl) (by simp) ?_
      refine AllReadyH.cons rfl (fun K hK => ?_) AllReadyH.nil
      refine rd_lits2 rfl 84 87 rfl (some 32) rfl (v0 := .agg (vA ⟨t, ByteArray.empty⟩)) (v1 := .agg (vA ⟨u, ByteArray.empty⟩)) (v2A (⟨t, ByteArray.empty⟩, ⟨u, ByteArray.empty⟩)) rfl rfl Try.underlying84 Try.lit_vr (by decide) (by decide) (fill_2v ⟨t, ByteArray.empty⟩ ⟨u, ByteArray.empty⟩) ?_
      refine ⟨fun V112 g112 n112 f112 => ?_⟩
      have no112_s := SO.fresh r109_s (Nat.le_of_eq f112.at_)
      have up112 : w.heap.size ≤ g112 := f112.up l110
      have bl112 := f112.bel
      clear f112
      have r113_s := SO.on r109_s bl112
      have r114_l := (r110_l).on bl112
      have l114 := le_tr l110 bl112
      clear r110_l l110
      clear r109_s
      clear bl112
      have y115 := Lib.hid (show (fun V : World => RL w V dcl 2 (some ⟨g, off, none⟩) n q L) V112 from r114_l)
      refine hK.out _ _ y115.out (fun hHeld => ?_)
      clear hK K y115
      try simp only [Act.put, List.setIfInBounds_toArray, List.set_cons_zero, List.set_cons_succ]
      refine wpAnyH_ready (rs := [16]) (by kernel_rfl) (by simp) ?_
      refine AllReadyH.cons rfl (fun K hK => ?_) AllReadyH.nil
      refine rd_app rfl (.tmp 17) (.tmp 32) 84 rfl (some 33) rfl 87 Try.underlying84 Try.infoVr rfl (by decide) (A := B) (n := (2 * k)) (c := c) (G := G) rfl r113_s.seg (As := (some ⟨g112, 0, none⟩)) (m := 2) (k := 2) rfl (Src.box2 n112 rfl) (all_list (v2A_one _)) (by simp only [maxLen]; omega) (by omega) (2 * k + 2) (by omega) ?_
      refine ⟨fun B116 m116 q116 w116 s116 h116 k116 => ?_⟩
      have s116 : Seg w116 87 2 B116 (2 * k + 2) m116 (rc vcl (cvG (L.take k) ++ [⟨t, ByteArray.empty⟩, ⟨u, ByteArray.empty⟩])) q116 := by rw [rc_append, ← rc_v2A]; exact s116
      have hg116 : ∀ g, G = some g → w.heap.size ≤ g := fun g e => r113_s.hi g e
      have so116 : SO w.heap.size w116 87 vcl 2 B116 (2 * k + 2) m116 (cvG (L.take k) ++ [⟨t, ByteArray.empty⟩, ⟨u, ByteArray.empty⟩]) q116 := ⟨s116, k116.ge (l114).size hg116⟩
      have e116_q := CB.same n112 (h116.block _ (CB.lt n112) (fun e => no112_s _ e.symm rfl))
      have na116_q := moved_ne k116 (CB.lt n112) no112_s
      have e116_l := (r114_l).grow h116 hg116
      have lw116 := (l114).grown h116 (l114).size hg116
      clear h116 k116 s116 hg116 r113_s n112 no112_s r114_l l114
      have y117 := Lib.hid (show (fun V : World => RL w V dcl 2 (some ⟨g, off, none⟩) n q L) w116 from e116_l)
      refine hK.out _ _ y117.out (fun hHeld => ?_)
      clear hK K y117
      try simp only [Act.put, List.setIfInBounds_toArray, List.set_cons_zero, List.set_cons_succ]
      refine wpAnyH_takeL (i := 17) (d := some 4) (v := .slice B116 (2 * k + 2) m116) rfl rfl (by kernel_rfl) (by kernel_rfl) (by kernel_rfl) (fun _ _ _ h => h) (Or.inl ⟨by rfl, ?_⟩) hHeld ?_
      · intro w hSw; (try dsimp only at hSw); go_simp
      try simp only [Act.put, List.setIfInBounds_toArray, List.set_cons_zero, List.set_cons_succ]
      refine wpAnyH_done (by kernel_rfl) ?_ _
      go_wp2_with fail
      go_roundw
      case rel => exact ⟨k + 1, B116, m116, q116, by omega, by go_num, by rw [show 2 * (k + 1) = 2 * k + 2 by omega], e116_l, by rw [HN.out, show 2 * (k + 1) = 2 * k + 2 by omega]; exact so116, lw116⟩
      case measure => simp [intOf]; omega
    · skip
      obtain rfl : k = n := by omega
      have g1 : ¬ ((k : Int) < k) := by omega
      have hs2 : SO w.heap.size wr 87 vcl 2 B (2 * k) c (cvG L) G := by rw [List.take_of_length_le (by rw [hlen.out]; exact Nat.le_refl _)] at hs; exact hs
      clear hs hlt
      go_wp2_with fail
      (with_reducible refine (CS _).mono ?_)
      rintro e w101 ⟨rfl, b101⟩
      have r102_s := SO.on hs2 b101
      have r103_l := (hx).on b101
      have l103 := le_tr hw b101
      clear hx hw
      clear hs2
      clear b101
      go_wp2_with fail
      (with_reducible refine (CQ _ _ _ (SO.rr r102_s)).mono ?_)
      rintro e w104 ⟨A4, n4, q4, rfl, h4, b104⟩
      have r105_s := SO.on r102_s b104
      have r106_l := (r103_l).on b104
      have l106 := le_tr l103 b104
      clear r103_l l103
      clear r102_s
      clear b104
      have cv := conv_C h4
      go_wp2_with fail
      exact bodyPost_ret (v := .tuple #[.string (Dk.mkS (encG L)), .int .i64 0]) (by simp [results, Try.results12, go_sem]) rfl ⟨by rw [B1.out, B2.out] <;> rfl, l106⟩
end Go.Proofs.Ytfdboahcaiolgaa
