/-
  WholeTalk's function literal that hears. Conditions: the letter can be read; it is of a text that was said.
-/
import Derived.Test.YtcfdfimkgehdfaaTkA
set_option linter.unusedVariables false
set_option linter.unusedSimpArgs false
namespace Go.Proofs.Ytcfdfimkgehdfaa
open Go.RowKit

theorem one_ss2 : (Try.prog.info? 61).map (·.size) = some 1 := by kernel_rfl
set_option maxRecDepth 100000 in
set_option maxHeartbeats 4000000 in
theorem hear_i (F : Nat → Prop) (N gi gt h k : Nat) (S : List ByteArray) (s : ByteArray) (fr to gb ob n c : Nat) (w : World) (ho : TO F N gi gt h (S.take h) w) (hN : N ≤ w.heap.size) (hx : RR w bcl 1 (some ⟨gb, ob, none⟩) n c (UInt8.ofNat k :: Dk.bl s)) (hk : S[k]? = some s) (hS : S.length ≤ 60) (hh : h ≤ S.length) (hs : s.size ≤ 100) : Calls Try.prog 23 #[.agg (lA ⟨fr, to, UInt8.ofNat k :: Dk.bl s, some ⟨gb, ob, none⟩, n, c⟩), .pointer (some ⟨gi, 0, none⟩), .pointer (some ⟨gt, 0, none⟩)] w fun e w' => e = .returned (.tuple #[]) ∧ ∃ F', TO F' N gi gt (nH h k) (S.take (nH h k)) w' ∧ Out w w' F ∧ ∀ i, F' i → F i ∨ w.heap.size ≤ i := by
  obtain ⟨A0, n0, c0, G, ht, hF⟩ := ho.ok
  obtain ⟨hci, hct, hso⟩ := ht
  have hlen := hx.len
  simp only [List.length_cons, Dk.bl_length] at hlen
  have hkl := (List.getElem?_eq_some_iff.1 hk).1
  have hn0 : n0 = h := by rw [← hso.len, List.length_take]; omega
  have hxl := RL.start hx
  have q0 : ((n : Int) == 0) = false := by simp; omega
  have q5 : ¬ n = 0 := by omega
  have wk : IntKind.i64.wrap (k : Int) = (k : Int) := IntWalk.i64_in _ (by omega)
  have hnoi := SO.noT hso hci (by decide)
  have hnot := SO.noT hso hct (by decide)
  have hneq : gi ≠ gt := hci.ne_ hct (by decide)
  have hcut := cut_f (some ⟨gb, ob, none⟩) n c 1 (by omega)
  have hFi : F gi := hF _ (.inl rfl)
  have hFt : F gt := hF _ (.inr (.inl rfl))
  have hFg : ∀ g, G = some g → F g := fun g e => hF g (.inr (.inr e))
  have hcv : ∀ V, RL w V bcl 1 (some ⟨gb, ob, none⟩) n c (UInt8.ofNat k :: Dk.bl s) → (convert 30 9 (.slice (if c = 1 then some ⟨gb, ob, none⟩ else (some (⟨gb, ob, none⟩ : Addr)).map (·.add (1 * 1))) (n - 1) (c - 1))).run Try.prog V = .ok (.string s) V := fun V hV => by
    have := conv_C (RR.cut hV.rr (k := 1) (by omega))
    simpa [Dk.mkS_bl] using this
  have hc0 : ∀ V, RL w V bcl 1 (some ⟨gb, ob, none⟩) n c (UInt8.ofNat k :: Dk.bl s) → V.cell? ⟨gb, ob, none⟩ = some (.int .u8 (k : Int)) := fun V hV => by
    have := RR.oneAt (f := fun b : UInt8 => Value.int .u8 (b.toNat : Int)) hV.rr (fun _ => rfl) (show (UInt8.ofNat k :: Dk.bl s)[0]? = some (UInt8.ofNat k) from rfl) rfl
    rw [ofNat_u8 (by omega)] at this
    exact this
  obtain ⟨A1, hA1⟩ : ∃ A1, (if c = 1 then some ⟨gb, ob, none⟩ else (some (⟨gb, ob, none⟩ : Addr)).map (·.add (1 * 1))) = A1 := ⟨_, rfl⟩
  rw [hA1] at hcut hcv
  have hcut2 : ∀ V : World, (Instr.slice 30 (.slice (some ⟨gb, ob, none⟩) n c) (some (.int .i64 1)) none none).run Try.prog V = .ok (.slice A1 (n - 1) (c - 1)) V := hcut
  subst hn0
  clear hlen hx ho hF hA1 hcut
  by_cases hkh : k = n0
  · subst hkh
    have he := hea_ok (h := (k : Int)) (p := ⟨(k : Int), s⟩) (by omega) (by omega) rfl (by show s.size ≤ 500; omega)
    have q1 : ((0 : Int) == 0) = true := rfl
    have C1 := fun W => hear_y (k : Int) ⟨(k : Int), s⟩ W he
    clear he
    go_enter Try.func23, Try.ntmps23
    go_wp2_with (first | ((with_reducible refine st_box 40 _ (lA ⟨fr, to, UInt8.ofNat k :: Dk.bl s, some ⟨gb, ob, none⟩, n, c⟩) ?_ ?_); exact rfl))
    refine ⟨fun V1 g1 n1 f1 => ?_⟩
    have ne1_i := f1.ne hci
    have ne1_t := f1.ne hct
    have no1_td := SO.fresh hso (Nat.le_of_eq f1.at_)
    have up1 : w.heap.size ≤ g1 := Nat.le_of_eq f1.at_
    have bl1 := f1.bel
    clear f1
    have r3_td := SO.on hso bl1
    have r4_i := le_on hci bl1
    have r4_t := le_on hct bl1
    have r4_xr := (hxl).on bl1
    have l4 := le_tr (Below.refl _ _) bl1
    clear hci hct hxl
    clear hso
    clear bl1
    have c5 : V1.cell? ⟨g1, 2, none⟩ = some (.slice (some ⟨gb, ob, none⟩) n c) := CB.cell n1 2
    go_wp2_with fail
    clear c5
    have y6 := Lib.hid (show (fun V : World => CB V gi 66 (hA (k : Int)) ∧ CB V g1 40 (lA ⟨fr, to, UInt8.ofNat k :: Dk.bl s, some ⟨gb, ob, none⟩, n, c⟩) ∧ RL w V bcl 1 (some ⟨gb, ob, none⟩) n c (UInt8.ofNat k :: Dk.bl s)) V1.drew from ⟨CB.drew r4_i, CB.drew n1, (r4_xr).drew⟩)
    refine wp_region_held_drew (S := (fun V : World => CB V gi 66 (hA (k : Int)) ∧ CB V g1 40 (lA ⟨fr, to, UInt8.ofNat k :: Dk.bl s, some ⟨gb, ob, none⟩, n, c⟩) ∧ RL w V bcl 1 (some ⟨gb, ob, none⟩) n c (UInt8.ofNat k :: Dk.bl s))) (by kernel_rfl) y6.out (fun hHeld => ?_)
    obtain ⟨D6, hD6⟩ : ∃ V, V1.drew = V := ⟨_, rfl⟩
    have b6 : Below V1.heap.size V1 D6 := by rw [← hD6]; exact le_dr (Below.refl _ _)
    rw [hD6] at hHeld ⊢
    clear hD6
    have r8_td := SO.on r3_td b6
    have r9_i := le_on r4_i b6
    have r9_t := le_on r4_t b6
    have r9_x := le_on n1 b6
    have r9_xr := (r4_xr).on b6
    have l9 := le_tr l4 b6
    clear r4_i r4_t n1 r4_xr l4
    clear r3_td
    clear b6
    refine wpAnyH_takeL (i := 0) (d := some 12) (v := .agg (hA (k : Int))) rfl rfl (by kernel_rfl) (by kernel_rfl) (by kernel_rfl) (fun _ _ _ h => h) (Or.inl ⟨by rfl, ?_⟩) hHeld ?_
    · intro w hSw; exact yl_whole 66 _ gi rfl hSw.1 Try.underlying66 rfl Try.zIn
    try simp only [Act.put, List.setIfInBounds_toArray, List.set_cons_zero, List.set_cons_succ]
    refine wpAnyH_takeL (i := 1) (d := some 13) (v := .pointer (some ⟨g1, 2, none⟩)) rfl rfl (by kernel_rfl) (by kernel_rfl) (by kernel_rfl) (fun _ _ _ h => h) (Or.inl ⟨by rfl, ?_⟩) hHeld ?_
    · intro w hSw; (try dsimp only at hSw); go_simp
    try simp only [Act.put, List.setIfInBounds_toArray, List.set_cons_zero, List.set_cons_succ]
    refine wpAnyH_takeL (i := 2) (d := some 14) (v := .slice (some ⟨gb, ob, none⟩) n c) rfl rfl (by kernel_rfl) (by kernel_rfl) (by kernel_rfl) (fun _ _ _ h => h) (Or.inl ⟨by rfl, ?_⟩) hHeld ?_
    · intro w hSw; (try dsimp only at hSw); have hcc : w.cell? ⟨g1, 2, none⟩ = some (.slice (some ⟨gb, ob, none⟩) n c) := CB.cell hSw.2.1 2; go_simp
    try simp only [Act.put, List.setIfInBounds_toArray, List.set_cons_zero, List.set_cons_succ]
    refine wpAnyH_takeL (i := 3) (d := some 15) (v := .pointer (some ⟨gb, ob, none⟩)) rfl rfl (by kernel_rfl) (by kernel_rfl) (by kernel_rfl) (fun _ _ _ h => h) (Or.inl ⟨by rfl, ?_⟩) hHeld ?_
    · intro w hSw; (try dsimp only at hSw); go_simp
    try simp only [Act.put, List.setIfInBounds_toArray, List.set_cons_zero, List.set_cons_succ]
    refine wpAnyH_takeL (i := 4) (d := some 16) (v := .int .u8 (k : Int)) rfl rfl (by kernel_rfl) (by kernel_rfl) (by kernel_rfl) (fun _ _ _ h => h) (Or.inl ⟨by rfl, ?_⟩) hHeld ?_
    · intro w hSw; have hcc := hc0 _ hSw.2.2; go_simp
    try simp only [Act.put, List.setIfInBounds_toArray, List.set_cons_zero, List.set_cons_succ]
    refine wpAnyH_takeL (i := 5) (d := some 17) (v := .int .i64 (k : Int)) rfl rfl (by kernel_rfl) (by kernel_rfl) (by kernel_rfl) (fun _ _ _ h => h) (Or.inl ⟨by rfl, ?_⟩) hHeld ?_
    · intro w hSw; (try dsimp only at hSw); go_simp
    try simp only [Act.put, List.setIfInBounds_toArray, List.set_cons_zero, List.set_cons_succ]
    refine wpAnyH_takeL (i := 6) (d := some 18) (v := .pointer (some ⟨g1, 2, none⟩)) rfl rfl (by kernel_rfl) (by kernel_rfl) (by kernel_rfl) (fun _ _ _ h => h) (Or.inl ⟨by rfl, ?_⟩) hHeld ?_
    · intro w hSw; (try dsimp only at hSw); go_simp
    try simp only [Act.put, List.setIfInBounds_toArray, List.set_cons_zero, List.set_cons_succ]
    refine wpAnyH_takeL (i := 7) (d := some 19) (v := .slice (some ⟨gb, ob, none⟩) n c) rfl rfl (by kernel_rfl) (by kernel_rfl) (by kernel_rfl) (fun _ _ _ h => h) (Or.inl ⟨by rfl, ?_⟩) hHeld ?_
    · intro w hSw; (try dsimp only at hSw); have hcc : w.cell? ⟨g1, 2, none⟩ = some (.slice (some ⟨gb, ob, none⟩) n c) := CB.cell hSw.2.1 2; go_simp
    try simp only [Act.put, List.setIfInBounds_toArray, List.set_cons_zero, List.set_cons_succ]
    refine wpAnyH_takeL (i := 8) (d := some 20) (v := .slice A1 (n - 1) (c - 1)) rfl rfl (by kernel_rfl) (by kernel_rfl) (by kernel_rfl) (fun _ _ _ h => h) (Or.inl ⟨by rfl, ?_⟩) hHeld ?_
    · intro w hSw; (try dsimp only at hSw); go_simp
    try simp only [Act.put, List.setIfInBounds_toArray, List.set_cons_zero, List.set_cons_succ]
    refine wpAnyH_takeL (i := 9) (d := some 21) (v := .string s) rfl rfl (by kernel_rfl) (by kernel_rfl) (by kernel_rfl) (fun _ _ _ h => h) (Or.inl ⟨by rfl, ?_⟩) hHeld ?_
    · intro w hSw; have hcc := hcv _ hSw.2.2; go_simp
    try simp only [Act.put, List.setIfInBounds_toArray, List.set_cons_zero, List.set_cons_succ]
    refine wpAnyH_takeL (i := 10) (d := some 22) (v := .agg (pA ⟨(k : Int), s⟩)) rfl rfl (by kernel_rfl) (by kernel_rfl) (by kernel_rfl) (fun _ _ _ h => h) (Or.inl ⟨by rfl, ?_⟩) hHeld ?_
    · intro w hSw; exact yl_build2 70 _ _ _ _ _ _ _ rfl rfl (built_p _ _)
    try simp only [Act.put, List.setIfInBounds_toArray, List.set_cons_zero, List.set_cons_succ]
    refine wpAnyH_ready (rs := [11, 16]) (by kernel_rfl) (by simp) ?_
    refine AllReadyH.cons rfl (fun K hK => ?_) (AllReadyH.cons rfl (fun K hK => ?_) AllReadyH.nil)
    · skip
      go_simp
      (with_reducible refine (C1 _).mono ?_)
      rintro e u10 ⟨rfl, b10⟩
      have r12_td := SO.on r8_td b10
      have r13_i := le_on r9_i b10
      have r13_t := le_on r9_t b10
      have r13_x := le_on r9_x b10
      have r13_xr := (r9_xr).on b10
      have l13 := le_tr l9 b10
      clear r9_i r9_t r9_x r9_xr l9
      clear r8_td
      clear b10
      go_wp2_with fail
      have y14 := Lib.hid (show (fun V : World => CB V gi 66 (hA (k : Int)) ∧ CB V g1 40 (lA ⟨fr, to, UInt8.ofNat k :: Dk.bl s, some ⟨gb, ob, none⟩, n, c⟩) ∧ RL w V bcl 1 (some ⟨gb, ob, none⟩) n c (UInt8.ofNat k :: Dk.bl s)) u10 from ⟨r13_i, r13_x, r13_xr⟩)
      refine hK.out _ _ y14.out (fun hHeld => ?_)
      clear hK K y14
      try simp only [Act.put, List.setIfInBounds_toArray, List.set_cons_zero, List.set_cons_succ]
      refine wpAnyH_takeL (i := 12) (d := some 11) (v := .tuple #[.agg (hA ((k : Int) + 1)), .string s, .int .i64 0]) rfl rfl (by kernel_rfl) (by kernel_rfl) (by kernel_rfl) (fun _ _ _ h => h) (Or.inl ⟨by rfl, ?_⟩) hHeld ?_
      · intro w hSw; (try dsimp only at hSw); go_simp
      try simp only [Act.put, List.setIfInBounds_toArray, List.set_cons_zero, List.set_cons_succ]
      refine wpAnyH_takeL (i := 13) (d := some 24) (v := .agg (hA ((k : Int) + 1))) rfl rfl (by kernel_rfl) (by kernel_rfl) (by kernel_rfl) (fun _ _ _ h => h) (Or.inl ⟨by rfl, ?_⟩) hHeld ?_
      · intro w hSw; (try dsimp only at hSw); go_simp
      try simp only [Act.put, List.setIfInBounds_toArray, List.set_cons_zero, List.set_cons_succ]
      refine wpAnyH_takeL (i := 14) (d := some 25) (v := .string s) rfl rfl (by kernel_rfl) (by kernel_rfl) (by kernel_rfl) (fun _ _ _ h => h) (Or.inl ⟨by rfl, ?_⟩) hHeld ?_
      · intro w hSw; (try dsimp only at hSw); go_simp
      try simp only [Act.put, List.setIfInBounds_toArray, List.set_cons_zero, List.set_cons_succ]
      refine wpAnyH_takeL (i := 15) (d := some 26) (v := .int .i64 0) rfl rfl (by kernel_rfl) (by kernel_rfl) (by kernel_rfl) (fun _ _ _ h => h) (Or.inl ⟨by rfl, ?_⟩) hHeld ?_
      · intro w hSw; (try dsimp only at hSw); go_simp
      try simp only [Act.put, List.setIfInBounds_toArray, List.set_cons_zero, List.set_cons_succ]
      refine wpAnyH_ready (rs := [16]) (by kernel_rfl) (by simp) ?_
      refine AllReadyH.cons rfl (fun K hK => ?_) AllReadyH.nil
      refine rd_alloc rfl 66 rfl (some 4) rfl (hA (0)) zero_in ?_
      refine ⟨fun V15 g15 n15 f15 => ?_⟩
      have ne15_i := f15.ne r13_i
      have ne15_t := f15.ne r13_t
      have ne15_x := f15.ne r13_x
      have no15_td := SO.fresh r12_td (Nat.le_of_eq f15.at_)
      have up15 : w.heap.size ≤ g15 := f15.up l13
      have bl15 := f15.bel
      clear f15
      have r17_td := SO.on r12_td bl15
      have r18_i := le_on r13_i bl15
      have r18_t := le_on r13_t bl15
      have r18_x := le_on r13_x bl15
      have r18_xr := (r13_xr).on bl15
      have l18 := le_tr l13 bl15
      clear r13_i r13_t r13_x r13_xr l13
      clear r12_td
      clear bl15
      have y19 := Lib.hid (show (fun V : World => CB V gi 66 (hA (k : Int)) ∧ CB V g1 40 (lA ⟨fr, to, UInt8.ofNat k :: Dk.bl s, some ⟨gb, ob, none⟩, n, c⟩) ∧ RL w V bcl 1 (some ⟨gb, ob, none⟩) n c (UInt8.ofNat k :: Dk.bl s)) V15 from ⟨r18_i, r18_x, r18_xr⟩)
      refine hK.out _ _ y19.out (fun hHeld => ?_)
      clear hK K y19
      try simp only [Act.put, List.setIfInBounds_toArray, List.set_cons_zero, List.set_cons_succ]
      refine wpAnyH_ready (rs := [17]) (by kernel_rfl) (by simp) ?_
      refine AllReadyH.cons rfl (fun K hK => ?_) AllReadyH.nil
      refine rd_store rfl 66 _ _ rfl none rfl g15 (hA ((k : Int) + 1)) rfl rfl n15 Try.zIn rfl (hA_one _) ?_
      refine ⟨fun V20 n20 k20 => ?_⟩
      have m20_i := k20.on r18_i ne15_i
      have m20_t := k20.on r18_t ne15_t
      have m20_x := k20.on r18_x ne15_x
      have m20_xr := (r18_xr).wr k20 up15
      have m20_td := SO.wr r17_td k20 no15_td
      have o20 := k20.bel _ _ l18 up15
      clear k20
      clear n15 r18_i r18_t r18_x r18_xr r17_td l18
      have y21 := Lib.hid (show (fun V : World => CB V gi 66 (hA (k : Int)) ∧ CB V g1 40 (lA ⟨fr, to, UInt8.ofNat k :: Dk.bl s, some ⟨gb, ob, none⟩, n, c⟩) ∧ RL w V bcl 1 (some ⟨gb, ob, none⟩) n c (UInt8.ofNat k :: Dk.bl s)) V20 from ⟨m20_i, m20_x, m20_xr⟩)
      refine hK.out _ _ y21.out (fun hHeld => ?_)
      clear hK K y21
      try simp only [Act.put, List.setIfInBounds_toArray, List.set_cons_zero, List.set_cons_succ]
      refine wpAnyH_takeL (i := 18) (d := some 5) (v := .string s) rfl rfl (by kernel_rfl) (by kernel_rfl) (by kernel_rfl) (fun _ _ _ h => h) (Or.inl ⟨by rfl, ?_⟩) hHeld ?_
      · intro w hSw; (try dsimp only at hSw); go_simp
      try simp only [Act.put, List.setIfInBounds_toArray, List.set_cons_zero, List.set_cons_succ]
      refine wpAnyH_takeL (i := 19) (d := some 6) (v := .int .i64 0) rfl rfl (by kernel_rfl) (by kernel_rfl) (by kernel_rfl) (fun _ _ _ h => h) (Or.inl ⟨by rfl, ?_⟩) hHeld ?_
      · intro w hSw; (try dsimp only at hSw); go_simp
      try simp only [Act.put, List.setIfInBounds_toArray, List.set_cons_zero, List.set_cons_succ]
      refine wpAnyH_done (by kernel_rfl) ?_ _
      have ch1 : V20.cell? ⟨gt, 0, none⟩ = some (.slice A0 k c0) := CB.cell m20_t 0
      go_wp2_with (first | ((with_reducible refine st_litv 61 9 _ (.string s) (zsA s) ?_ rfl Try.underlying61 Try.infoS2 rfl (by decide) (by decide) ?_); exact rfl))
      refine ⟨fun V22 g22 n22 f22 => ?_⟩
      clear ch1
      have ne22_i := f22.ne m20_i
      have ne22_t := f22.ne m20_t
      have ne22_nx := f22.ne n20
      have no22_td := SO.fresh m20_td (Nat.le_of_eq f22.at_)
      have up22 : w.heap.size ≤ g22 := f22.up o20
      have bl22 := f22.bel
      clear f22
      have r24_td := SO.on m20_td bl22
      have r25_i := le_on m20_i bl22
      have r25_t := le_on m20_t bl22
      have r25_nx := le_on n20 bl22
      have l25 := le_tr o20 bl22
      clear m20_i m20_t n20 o20
      clear m20_td
      clear bl22
      go_wp2_with (first | ((with_reducible refine st_app (.tmp 29) (.tmp 31) 61 9 Try.underlying61 Try.infoS rfl (by decide) (A := A0) (n := k) (c := c0) (G := G) rfl r24_td.seg (As := some ⟨g22, 0, none⟩) (m := 1) (k := 1) rfl (Src.box n22 rfl) (all_list (zsA_one _)) (by simp only [maxLen]; omega) (by omega) (k + 1) (by omega) ?_)))
      refine ⟨fun B9 m9 q9 w9 s9 h9 k9 => ?_⟩
      have s9 : Seg w9 9 1 B9 (k + 1) m9 (rc scl (S.take (k + 1))) q9 := by
        have e : S.take (k + 1) = S.take k ++ [s] := by rw [List.take_add_one, hk]; rfl
        rw [e, ← rc_snoc]; exact s9
      have i9 := CB.same r25_i (h9.block _ (CB.lt r25_i) (fun e => hnoi _ e.symm rfl))
      have t9 := CB.same r25_t (h9.block _ (CB.lt r25_t) (fun e => hnot _ e.symm rfl))
      have x9 := CB.same r25_nx (h9.block _ (CB.lt r25_nx) (fun e => no15_td _ e.symm rfl))
      have so9 : SO N w9 9 scl 1 B9 (k + 1) m9 (S.take (k + 1)) q9 := ⟨s9, k9.ge (Nat.le_trans hN (l25).size) (r24_td).hi⟩
      have ni9 := moved_ne k9 (CB.lt r25_i) hnoi
      have nt9 := moved_ne k9 (CB.lt r25_t) hnot
      have O9 : Out w w9 F := (Out.of F l25).grown h9 (fun g e _ => hFg g e)
      have N9 : ∀ g, q9 = some g → F g ∨ w.heap.size ≤ g := fun g e => by
        rcases k9 with rfl | ⟨g', e', hg'⟩
        · exact .inl (hFg g e)
        · rw [e] at e'; cases e'; exact .inr (Nat.le_trans (l25).size hg')
      have nx1 : gt ≠ g15 := ne15_t
      have nx2 : gi ≠ g15 := ne15_i
      clear s9 h9 k9 r25_i r25_t r25_nx r24_td n22 l25 hFg
      go_wp2_with (first | ((with_reducible refine st_cell 61 _ _ gt 0 (.slice B9 (k + 1) m9) ?_ ?_ t9 (new := hdA B9 (k + 1) m9) ?_ ?_ ?_ ?_ ?_ ?_); exact rfl; exact rfl; exact (by show 0 < 1; decide); exact rfl; exact one_ss2; exact rfl; exact rfl))
      refine ⟨fun V10 n10 k10 => ?_⟩
      have i10 := k10.on i9 hneq
      have x10 := k10.on x9 (Ne.symm nx1)
      have so10 := SO.wr so9 k10 nt9
      have O10 := O9.wrS k10 hFt
      clear k10 t9 i9 x9 so9 O9
      go_wp2_with (first | ((with_reducible refine st_load 66 _ g15 ?_ x10 Try.underlying66 ?_ ?_ ?_); exact rfl; exact rfl; exact Try.zIn) | ((with_reducible refine st_store 66 _ _ gi (hA ((k : Int) + 1)) ?_ ?_ i10 ?_ ?_ ?_ ?_); exact rfl; exact rfl; exact Try.zIn; exact rfl; exact hA_one _))
      refine ⟨fun V11 n11 k11 => ?_⟩
      have t11 := k11.on n10 (Ne.symm hneq)
      have so11 := SO.wr so10 k11 ni9
      have O11 := O10.wrS k11 hFi
      clear k11
      have enh : nH k k = (k + 1) := by unfold nH; rw [if_pos rfl]
      go_wp2_with fail
      have n12 : CB V11 gi 66 (hA (((k + 1) : Nat) : Int)) := n11
      have TT : TDs N gi gt (k + 1) (S.take (k + 1)) B9 (k + 1) m9 q9 V11 := ⟨n12, t11, so11⟩
      exact bodyPost_end (v := .tuple #[]) (by simp [results, Try.results23, go_sem]) rfl ⟨rfl, by rw [enh]; exact ⟨_, TO.of TT, O11, fun i e => by
        rcases e with rfl | rfl | e
        · exact .inl hFi
        · exact .inl hFt
        · exact N9 i e⟩⟩
    · skip
      refine rd_alloc rfl 66 rfl (some 4) rfl (hA (0)) zero_in ?_
      refine ⟨fun V10 g10 n10 f10 => ?_⟩
      have ne10_i := f10.ne r9_i
      have ne10_t := f10.ne r9_t
      have ne10_x := f10.ne r9_x
      have no10_td := SO.fresh r8_td (Nat.le_of_eq f10.at_)
      have up10 : w.heap.size ≤ g10 := f10.up l9
      have bl10 := f10.bel
      clear f10
      have r12_td := SO.on r8_td bl10
      have r13_i := le_on r9_i bl10
      have r13_t := le_on r9_t bl10
      have r13_x := le_on r9_x bl10
      have r13_xr := (r9_xr).on bl10
      have l13 := le_tr l9 bl10
      clear r9_i r9_t r9_x r9_xr l9
      clear r8_td
      clear bl10
      have y14 := Lib.hid (show (fun V : World => CB V gi 66 (hA (k : Int)) ∧ CB V g1 40 (lA ⟨fr, to, UInt8.ofNat k :: Dk.bl s, some ⟨gb, ob, none⟩, n, c⟩) ∧ RL w V bcl 1 (some ⟨gb, ob, none⟩) n c (UInt8.ofNat k :: Dk.bl s)) V10 from ⟨r13_i, r13_x, r13_xr⟩)
      refine hK.out _ _ y14.out (fun hHeld => ?_)
      clear hK K y14
      try simp only [Act.put, List.setIfInBounds_toArray, List.set_cons_zero, List.set_cons_succ]
      refine wpAnyH_ready (rs := [11]) (by kernel_rfl) (by simp) ?_
      refine AllReadyH.cons rfl (fun K hK => ?_) AllReadyH.nil
      go_simp
      (with_reducible refine (C1 _).mono ?_)
      rintro e u15 ⟨rfl, b15⟩
      have r17_td := SO.on r12_td b15
      have r18_i := le_on r13_i b15
      have r18_t := le_on r13_t b15
      have r18_x := le_on r13_x b15
      have r18_nx := le_on n10 b15
      have r18_xr := (r13_xr).on b15
      have l18 := le_tr l13 b15
      clear r13_i r13_t r13_x n10 r13_xr l13
      clear r12_td
      clear b15
      go_wp2_with fail
      have y19 := Lib.hid (show (fun V : World => CB V gi 66 (hA (k : Int)) ∧ CB V g1 40 (lA ⟨fr, to, UInt8.ofNat k :: Dk.bl s, some ⟨gb, ob, none⟩, n, c⟩) ∧ RL w V bcl 1 (some ⟨gb, ob, none⟩) n c (UInt8.ofNat k :: Dk.bl s)) u15 from ⟨r18_i, r18_x, r18_xr⟩)
      refine hK.out _ _ y19.out (fun hHeld => ?_)
      clear hK K y19
      try simp only [Act.put, List.setIfInBounds_toArray, List.set_cons_zero, List.set_cons_succ]
      refine wpAnyH_takeL (i := 12) (d := some 11) (v := .tuple #[.agg (hA ((k : Int) + 1)), .string s, .int .i64 0]) rfl rfl (by kernel_rfl) (by kernel_rfl) (by kernel_rfl) (fun _ _ _ h => h) (Or.inl ⟨by rfl, ?_⟩) hHeld ?_
      · intro w hSw; (try dsimp only at hSw); go_simp
      try simp only [Act.put, List.setIfInBounds_toArray, List.set_cons_zero, List.set_cons_succ]
      refine wpAnyH_takeL (i := 13) (d := some 24) (v := .agg (hA ((k : Int) + 1))) rfl rfl (by kernel_rfl) (by kernel_rfl) (by kernel_rfl) (fun _ _ _ h => h) (Or.inl ⟨by rfl, ?_⟩) hHeld ?_
      · intro w hSw; (try dsimp only at hSw); go_simp
      try simp only [Act.put, List.setIfInBounds_toArray, List.set_cons_zero, List.set_cons_succ]
      refine wpAnyH_takeL (i := 14) (d := some 25) (v := .string s) rfl rfl (by kernel_rfl) (by kernel_rfl) (by kernel_rfl) (fun _ _ _ h => h) (Or.inl ⟨by rfl, ?_⟩) hHeld ?_
      · intro w hSw; (try dsimp only at hSw); go_simp
      try simp only [Act.put, List.setIfInBounds_toArray, List.set_cons_zero, List.set_cons_succ]
      refine wpAnyH_takeL (i := 15) (d := some 26) (v := .int .i64 0) rfl rfl (by kernel_rfl) (by kernel_rfl) (by kernel_rfl) (fun _ _ _ h => h) (Or.inl ⟨by rfl, ?_⟩) hHeld ?_
      · intro w hSw; (try dsimp only at hSw); go_simp
      try simp only [Act.put, List.setIfInBounds_toArray, List.set_cons_zero, List.set_cons_succ]
      refine wpAnyH_ready (rs := [17]) (by kernel_rfl) (by simp) ?_
      refine AllReadyH.cons rfl (fun K hK => ?_) AllReadyH.nil
      refine rd_store rfl 66 _ _ rfl none rfl g10 (hA ((k : Int) + 1)) rfl rfl r18_nx Try.zIn rfl (hA_one _) ?_
      refine ⟨fun V20 n20 k20 => ?_⟩
      have m20_i := k20.on r18_i ne10_i
      have m20_t := k20.on r18_t ne10_t
      have m20_x := k20.on r18_x ne10_x
      have m20_xr := (r18_xr).wr k20 up10
      have m20_td := SO.wr r17_td k20 no10_td
      have o20 := k20.bel _ _ l18 up10
      clear k20
      clear r18_nx r18_i r18_t r18_x r18_xr r17_td l18
      have y21 := Lib.hid (show (fun V : World => CB V gi 66 (hA (k : Int)) ∧ CB V g1 40 (lA ⟨fr, to, UInt8.ofNat k :: Dk.bl s, some ⟨gb, ob, none⟩, n, c⟩) ∧ RL w V bcl 1 (some ⟨gb, ob, none⟩) n c (UInt8.ofNat k :: Dk.bl s)) V20 from ⟨m20_i, m20_x, m20_xr⟩)
      refine hK.out _ _ y21.out (fun hHeld => ?_)
      clear hK K y21
      try simp only [Act.put, List.setIfInBounds_toArray, List.set_cons_zero, List.set_cons_succ]
      refine wpAnyH_takeL (i := 18) (d := some 5) (v := .string s) rfl rfl (by kernel_rfl) (by kernel_rfl) (by kernel_rfl) (fun _ _ _ h => h) (Or.inl ⟨by rfl, ?_⟩) hHeld ?_
      · intro w hSw; (try dsimp only at hSw); go_simp
      try simp only [Act.put, List.setIfInBounds_toArray, List.set_cons_zero, List.set_cons_succ]
      refine wpAnyH_takeL (i := 19) (d := some 6) (v := .int .i64 0) rfl rfl (by kernel_rfl) (by kernel_rfl) (by kernel_rfl) (fun _ _ _ h => h) (Or.inl ⟨by rfl, ?_⟩) hHeld ?_
      · intro w hSw; (try dsimp only at hSw); go_simp
      try simp only [Act.put, List.setIfInBounds_toArray, List.set_cons_zero, List.set_cons_succ]
      refine wpAnyH_done (by kernel_rfl) ?_ _
      have ch1 : V20.cell? ⟨gt, 0, none⟩ = some (.slice A0 k c0) := CB.cell m20_t 0
      go_wp2_with (first | ((with_reducible refine st_litv 61 9 _ (.string s) (zsA s) ?_ rfl Try.underlying61 Try.infoS2 rfl (by decide) (by decide) ?_); exact rfl))
      refine ⟨fun V22 g22 n22 f22 => ?_⟩
      clear ch1
      have ne22_i := f22.ne m20_i
      have ne22_t := f22.ne m20_t
      have ne22_nx := f22.ne n20
      have no22_td := SO.fresh m20_td (Nat.le_of_eq f22.at_)
      have up22 : w.heap.size ≤ g22 := f22.up o20
      have bl22 := f22.bel
      clear f22
      have r24_td := SO.on m20_td bl22
      have r25_i := le_on m20_i bl22
      have r25_t := le_on m20_t bl22
      have r25_nx := le_on n20 bl22
      have l25 := le_tr o20 bl22
      clear m20_i m20_t n20 o20
      clear m20_td
      clear bl22
      go_wp2_with (first | ((with_reducible refine st_app (.tmp 29) (.tmp 31) 61 9 Try.underlying61 Try.infoS rfl (by decide) (A := A0) (n := k) (c := c0) (G := G) rfl r24_td.seg (As := some ⟨g22, 0, none⟩) (m := 1) (k := 1) rfl (Src.box n22 rfl) (all_list (zsA_one _)) (by simp only [maxLen]; omega) (by omega) (k + 1) (by omega) ?_)))
      refine ⟨fun B9 m9 q9 w9 s9 h9 k9 => ?_⟩
      have s9 : Seg w9 9 1 B9 (k + 1) m9 (rc scl (S.take (k + 1))) q9 := by
        have e : S.take (k + 1) = S.take k ++ [s] := by rw [List.take_add_one, hk]; rfl
        rw [e, ← rc_snoc]; exact s9
      have i9 := CB.same r25_i (h9.block _ (CB.lt r25_i) (fun e => hnoi _ e.symm rfl))
      have t9 := CB.same r25_t (h9.block _ (CB.lt r25_t) (fun e => hnot _ e.symm rfl))
      have x9 := CB.same r25_nx (h9.block _ (CB.lt r25_nx) (fun e => no10_td _ e.symm rfl))
      have so9 : SO N w9 9 scl 1 B9 (k + 1) m9 (S.take (k + 1)) q9 := ⟨s9, k9.ge (Nat.le_trans hN (l25).size) (r24_td).hi⟩
      have ni9 := moved_ne k9 (CB.lt r25_i) hnoi
      have nt9 := moved_ne k9 (CB.lt r25_t) hnot
      have O9 : Out w w9 F := (Out.of F l25).grown h9 (fun g e _ => hFg g e)
      have N9 : ∀ g, q9 = some g → F g ∨ w.heap.size ≤ g := fun g e => by
        rcases k9 with rfl | ⟨g', e', hg'⟩
        · exact .inl (hFg g e)
        · rw [e] at e'; cases e'; exact .inr (Nat.le_trans (l25).size hg')
      have nx1 : gt ≠ g10 := ne10_t
      have nx2 : gi ≠ g10 := ne10_i
      clear s9 h9 k9 r25_i r25_t r25_nx r24_td n22 l25 hFg
      go_wp2_with (first | ((with_reducible refine st_cell 61 _ _ gt 0 (.slice B9 (k + 1) m9) ?_ ?_ t9 (new := hdA B9 (k + 1) m9) ?_ ?_ ?_ ?_ ?_ ?_); exact rfl; exact rfl; exact (by show 0 < 1; decide); exact rfl; exact one_ss2; exact rfl; exact rfl))
      refine ⟨fun V10 n10 k10 => ?_⟩
      have i10 := k10.on i9 hneq
      have x10 := k10.on x9 (Ne.symm nx1)
      have so10 := SO.wr so9 k10 nt9
      have O10 := O9.wrS k10 hFt
      clear k10 t9 i9 x9 so9 O9
      go_wp2_with (first | ((with_reducible refine st_load 66 _ g10 ?_ x10 Try.underlying66 ?_ ?_ ?_); exact rfl; exact rfl; exact Try.zIn) | ((with_reducible refine st_store 66 _ _ gi (hA ((k : Int) + 1)) ?_ ?_ i10 ?_ ?_ ?_ ?_); exact rfl; exact rfl; exact Try.zIn; exact rfl; exact hA_one _))
      refine ⟨fun V11 n11 k11 => ?_⟩
      have t11 := k11.on n10 (Ne.symm hneq)
      have so11 := SO.wr so10 k11 ni9
      have O11 := O10.wrS k11 hFi
      clear k11
      have enh : nH k k = (k + 1) := by unfold nH; rw [if_pos rfl]
      go_wp2_with fail
      have n12 : CB V11 gi 66 (hA (((k + 1) : Nat) : Int)) := n11
      have TT : TDs N gi gt (k + 1) (S.take (k + 1)) B9 (k + 1) m9 q9 V11 := ⟨n12, t11, so11⟩
      exact bodyPost_end (v := .tuple #[]) (by simp [results, Try.results23, go_sem]) rfl ⟨rfl, by rw [enh]; exact ⟨_, TO.of TT, O11, fun i e => by
        rcases e with rfl | rfl | e
        · exact .inl hFi
        · exact .inl hFt
        · exact N9 i e⟩⟩
  obtain ⟨z, hz⟩ : ∃ z, eHea (n0 : Int) ⟨(k : Int), s⟩ = z := ⟨_, rfl⟩
  have hz0 : z ≠ 0 := fun e => hea_no (h := (n0 : Int)) (p := ⟨(k : Int), s⟩) (by simp only; omega) (hz.trans e)
  have q1 : ((z : Int) == 0) = false := by simp [hz0]
  have C1 := fun W => hear_n (n0 : Int) ⟨(k : Int), s⟩ z W hz hz0
  clear hz hz0
  go_enter Try.func23, Try.ntmps23
  go_wp2_with (first | ((with_reducible refine st_box 40 _ (lA ⟨fr, to, UInt8.ofNat k :: Dk.bl s, some ⟨gb, ob, none⟩, n, c⟩) ?_ ?_); exact rfl))
  refine ⟨fun V1 g1 n1 f1 => ?_⟩
  have ne1_i := f1.ne hci
  have ne1_t := f1.ne hct
  have no1_td := SO.fresh hso (Nat.le_of_eq f1.at_)
  have up1 : w.heap.size ≤ g1 := Nat.le_of_eq f1.at_
  have bl1 := f1.bel
  clear f1
  have r3_td := SO.on hso bl1
  have r4_i := le_on hci bl1
  have r4_t := le_on hct bl1
  have r4_xr := (hxl).on bl1
  have l4 := le_tr (Below.refl _ _) bl1
  clear hci hct hxl
  clear hso
  clear bl1
  have c5 : V1.cell? ⟨g1, 2, none⟩ = some (.slice (some ⟨gb, ob, none⟩) n c) := CB.cell n1 2
  go_wp2_with fail
  clear c5
  have y6 := Lib.hid (show (fun V : World => CB V gi 66 (hA (n0 : Int)) ∧ CB V g1 40 (lA ⟨fr, to, UInt8.ofNat k :: Dk.bl s, some ⟨gb, ob, none⟩, n, c⟩) ∧ RL w V bcl 1 (some ⟨gb, ob, none⟩) n c (UInt8.ofNat k :: Dk.bl s)) V1.drew from ⟨CB.drew r4_i, CB.drew n1, (r4_xr).drew⟩)
  refine wp_region_held_drew (S := (fun V : World => CB V gi 66 (hA (n0 : Int)) ∧ CB V g1 40 (lA ⟨fr, to, UInt8.ofNat k :: Dk.bl s, some ⟨gb, ob, none⟩, n, c⟩) ∧ RL w V bcl 1 (some ⟨gb, ob, none⟩) n c (UInt8.ofNat k :: Dk.bl s))) (by kernel_rfl) y6.out (fun hHeld => ?_)
  obtain ⟨D6, hD6⟩ : ∃ V, V1.drew = V := ⟨_, rfl⟩
  have b6 : Below V1.heap.size V1 D6 := by rw [← hD6]; exact le_dr (Below.refl _ _)
  rw [hD6] at hHeld ⊢
  clear hD6
  have r8_td := SO.on r3_td b6
  have r9_i := le_on r4_i b6
  have r9_t := le_on r4_t b6
  have r9_x := le_on n1 b6
  have r9_xr := (r4_xr).on b6
  have l9 := le_tr l4 b6
  clear r4_i r4_t n1 r4_xr l4
  clear r3_td
  clear b6
  refine wpAnyH_takeL (i := 0) (d := some 12) (v := .agg (hA (n0 : Int))) rfl rfl (by kernel_rfl) (by kernel_rfl) (by kernel_rfl) (fun _ _ _ h => h) (Or.inl ⟨by rfl, ?_⟩) hHeld ?_
  · intro w hSw; exact yl_whole 66 _ gi rfl hSw.1 Try.underlying66 rfl Try.zIn
  try simp only [Act.put, List.setIfInBounds_toArray, List.set_cons_zero, List.set_cons_succ]
  refine wpAnyH_takeL (i := 1) (d := some 13) (v := .pointer (some ⟨g1, 2, none⟩)) rfl rfl (by kernel_rfl) (by kernel_rfl) (by kernel_rfl) (fun _ _ _ h => h) (Or.inl ⟨by rfl, ?_⟩) hHeld ?_
  · intro w hSw; (try dsimp only at hSw); go_simp
  try simp only [Act.put, List.setIfInBounds_toArray, List.set_cons_zero, List.set_cons_succ]
  refine wpAnyH_takeL (i := 2) (d := some 14) (v := .slice (some ⟨gb, ob, none⟩) n c) rfl rfl (by kernel_rfl) (by kernel_rfl) (by kernel_rfl) (fun _ _ _ h => h) (Or.inl ⟨by rfl, ?_⟩) hHeld ?_
  · intro w hSw; (try dsimp only at hSw); have hcc : w.cell? ⟨g1, 2, none⟩ = some (.slice (some ⟨gb, ob, none⟩) n c) := CB.cell hSw.2.1 2; go_simp
  try simp only [Act.put, List.setIfInBounds_toArray, List.set_cons_zero, List.set_cons_succ]
  refine wpAnyH_takeL (i := 3) (d := some 15) (v := .pointer (some ⟨gb, ob, none⟩)) rfl rfl (by kernel_rfl) (by kernel_rfl) (by kernel_rfl) (fun _ _ _ h => h) (Or.inl ⟨by rfl, ?_⟩) hHeld ?_
  · intro w hSw; (try dsimp only at hSw); go_simp
  try simp only [Act.put, List.setIfInBounds_toArray, List.set_cons_zero, List.set_cons_succ]
  refine wpAnyH_takeL (i := 4) (d := some 16) (v := .int .u8 (k : Int)) rfl rfl (by kernel_rfl) (by kernel_rfl) (by kernel_rfl) (fun _ _ _ h => h) (Or.inl ⟨by rfl, ?_⟩) hHeld ?_
  · intro w hSw; have hcc := hc0 _ hSw.2.2; go_simp
  try simp only [Act.put, List.setIfInBounds_toArray, List.set_cons_zero, List.set_cons_succ]
  refine wpAnyH_takeL (i := 5) (d := some 17) (v := .int .i64 (k : Int)) rfl rfl (by kernel_rfl) (by kernel_rfl) (by kernel_rfl) (fun _ _ _ h => h) (Or.inl ⟨by rfl, ?_⟩) hHeld ?_
  · intro w hSw; (try dsimp only at hSw); go_simp
  try simp only [Act.put, List.setIfInBounds_toArray, List.set_cons_zero, List.set_cons_succ]
  refine wpAnyH_takeL (i := 6) (d := some 18) (v := .pointer (some ⟨g1, 2, none⟩)) rfl rfl (by kernel_rfl) (by kernel_rfl) (by kernel_rfl) (fun _ _ _ h => h) (Or.inl ⟨by rfl, ?_⟩) hHeld ?_
  · intro w hSw; (try dsimp only at hSw); go_simp
  try simp only [Act.put, List.setIfInBounds_toArray, List.set_cons_zero, List.set_cons_succ]
  refine wpAnyH_takeL (i := 7) (d := some 19) (v := .slice (some ⟨gb, ob, none⟩) n c) rfl rfl (by kernel_rfl) (by kernel_rfl) (by kernel_rfl) (fun _ _ _ h => h) (Or.inl ⟨by rfl, ?_⟩) hHeld ?_
  · intro w hSw; (try dsimp only at hSw); have hcc : w.cell? ⟨g1, 2, none⟩ = some (.slice (some ⟨gb, ob, none⟩) n c) := CB.cell hSw.2.1 2; go_simp
  try simp only [Act.put, List.setIfInBounds_toArray, List.set_cons_zero, List.set_cons_succ]
  refine wpAnyH_takeL (i := 8) (d := some 20) (v := .slice A1 (n - 1) (c - 1)) rfl rfl (by kernel_rfl) (by kernel_rfl) (by kernel_rfl) (fun _ _ _ h => h) (Or.inl ⟨by rfl, ?_⟩) hHeld ?_
  · intro w hSw; (try dsimp only at hSw); go_simp
  try simp only [Act.put, List.setIfInBounds_toArray, List.set_cons_zero, List.set_cons_succ]
  refine wpAnyH_takeL (i := 9) (d := some 21) (v := .string s) rfl rfl (by kernel_rfl) (by kernel_rfl) (by kernel_rfl) (fun _ _ _ h => h) (Or.inl ⟨by rfl, ?_⟩) hHeld ?_
  · intro w hSw; have hcc := hcv _ hSw.2.2; go_simp
  try simp only [Act.put, List.setIfInBounds_toArray, List.set_cons_zero, List.set_cons_succ]
  refine wpAnyH_takeL (i := 10) (d := some 22) (v := .agg (pA ⟨(k : Int), s⟩)) rfl rfl (by kernel_rfl) (by kernel_rfl) (by kernel_rfl) (fun _ _ _ h => h) (Or.inl ⟨by rfl, ?_⟩) hHeld ?_
  · intro w hSw; exact yl_build2 70 _ _ _ _ _ _ _ rfl rfl (built_p _ _)
  try simp only [Act.put, List.setIfInBounds_toArray, List.set_cons_zero, List.set_cons_succ]
  refine wpAnyH_ready (rs := [11, 16]) (by kernel_rfl) (by simp) ?_
  refine AllReadyH.cons rfl (fun K hK => ?_) (AllReadyH.cons rfl (fun K hK => ?_) AllReadyH.nil)
  · skip
    go_simp
    (with_reducible refine (C1 _).mono ?_)
    rintro e u10 ⟨rfl, b10⟩
    have r12_td := SO.on r8_td b10
    have r13_i := le_on r9_i b10
    have r13_t := le_on r9_t b10
    have r13_x := le_on r9_x b10
    have r13_xr := (r9_xr).on b10
    have l13 := le_tr l9 b10
    clear r9_i r9_t r9_x r9_xr l9
    clear r8_td
    clear b10
    go_wp2_with fail
    have y14 := Lib.hid (show (fun V : World => CB V gi 66 (hA (n0 : Int)) ∧ CB V g1 40 (lA ⟨fr, to, UInt8.ofNat k :: Dk.bl s, some ⟨gb, ob, none⟩, n, c⟩) ∧ RL w V bcl 1 (some ⟨gb, ob, none⟩) n c (UInt8.ofNat k :: Dk.bl s)) u10 from ⟨r13_i, r13_x, r13_xr⟩)
    refine hK.out _ _ y14.out (fun hHeld => ?_)
    clear hK K y14
    try simp only [Act.put, List.setIfInBounds_toArray, List.set_cons_zero, List.set_cons_succ]
    refine wpAnyH_takeL (i := 12) (d := some 11) (v := .tuple #[.agg (hA (n0 : Int)), .string ByteArray.empty, .int .i64 (z : Int)]) rfl rfl (by kernel_rfl) (by kernel_rfl) (by kernel_rfl) (fun _ _ _ h => h) (Or.inl ⟨by rfl, ?_⟩) hHeld ?_
    · intro w hSw; (try dsimp only at hSw); go_simp
    try simp only [Act.put, List.setIfInBounds_toArray, List.set_cons_zero, List.set_cons_succ]
    refine wpAnyH_takeL (i := 13) (d := some 24) (v := .agg (hA (n0 : Int))) rfl rfl (by kernel_rfl) (by kernel_rfl) (by kernel_rfl) (fun _ _ _ h => h) (Or.inl ⟨by rfl, ?_⟩) hHeld ?_
    · intro w hSw; (try dsimp only at hSw); go_simp
    try simp only [Act.put, List.setIfInBounds_toArray, List.set_cons_zero, List.set_cons_succ]
    refine wpAnyH_takeL (i := 14) (d := some 25) (v := .string ByteArray.empty) rfl rfl (by kernel_rfl) (by kernel_rfl) (by kernel_rfl) (fun _ _ _ h => h) (Or.inl ⟨by rfl, ?_⟩) hHeld ?_
    · intro w hSw; (try dsimp only at hSw); go_simp
    try simp only [Act.put, List.setIfInBounds_toArray, List.set_cons_zero, List.set_cons_succ]
    refine wpAnyH_takeL (i := 15) (d := some 26) (v := .int .i64 (z : Int)) rfl rfl (by kernel_rfl) (by kernel_rfl) (by kernel_rfl) (fun _ _ _ h => h) (Or.inl ⟨by rfl, ?_⟩) hHeld ?_
    · intro w hSw; (try dsimp only at hSw); go_simp
    try simp only [Act.put, List.setIfInBounds_toArray, List.set_cons_zero, List.set_cons_succ]
    refine wpAnyH_ready (rs := [16]) (by kernel_rfl) (by simp) ?_
    refine AllReadyH.cons rfl (fun K hK => ?_) AllReadyH.nil
    refine rd_alloc rfl 66 rfl (some 4) rfl (hA (0)) zero_in ?_
    refine ⟨fun V15 g15 n15 f15 => ?_⟩
    have ne15_i := f15.ne r13_i
    have ne15_t := f15.ne r13_t
    have ne15_x := f15.ne r13_x
    have no15_td := SO.fresh r12_td (Nat.le_of_eq f15.at_)
    have up15 : w.heap.size ≤ g15 := f15.up l13
    have bl15 := f15.bel
    clear f15
    have r17_td := SO.on r12_td bl15
    have r18_i := le_on r13_i bl15
    have r18_t := le_on r13_t bl15
    have r18_x := le_on r13_x bl15
    have r18_xr := (r13_xr).on bl15
    have l18 := le_tr l13 bl15
    clear r13_i r13_t r13_x r13_xr l13
    clear r12_td
    clear bl15
    have y19 := Lib.hid (show (fun V : World => CB V gi 66 (hA (n0 : Int)) ∧ CB V g1 40 (lA ⟨fr, to, UInt8.ofNat k :: Dk.bl s, some ⟨gb, ob, none⟩, n, c⟩) ∧ RL w V bcl 1 (some ⟨gb, ob, none⟩) n c (UInt8.ofNat k :: Dk.bl s)) V15 from ⟨r18_i, r18_x, r18_xr⟩)
    refine hK.out _ _ y19.out (fun hHeld => ?_)
    clear hK K y19
    try simp only [Act.put, List.setIfInBounds_toArray, List.set_cons_zero, List.set_cons_succ]
    refine wpAnyH_ready (rs := [17]) (by kernel_rfl) (by simp) ?_
    refine AllReadyH.cons rfl (fun K hK => ?_) AllReadyH.nil
    refine rd_store rfl 66 _ _ rfl none rfl g15 (hA (n0 : Int)) rfl rfl n15 Try.zIn rfl (hA_one _) ?_
    refine ⟨fun V20 n20 k20 => ?_⟩
    have m20_i := k20.on r18_i ne15_i
    have m20_t := k20.on r18_t ne15_t
    have m20_x := k20.on r18_x ne15_x
    have m20_xr := (r18_xr).wr k20 up15
    have m20_td := SO.wr r17_td k20 no15_td
    have o20 := k20.bel _ _ l18 up15
    clear k20
    clear n15 r18_i r18_t r18_x r18_xr r17_td l18
    have y21 := Lib.hid (show (fun V : World => CB V gi 66 (hA (n0 : Int)) ∧ CB V g1 40 (lA ⟨fr, to, UInt8.ofNat k :: Dk.bl s, some ⟨gb, ob, none⟩, n, c⟩) ∧ RL w V bcl 1 (some ⟨gb, ob, none⟩) n c (UInt8.ofNat k :: Dk.bl s)) V20 from ⟨m20_i, m20_x, m20_xr⟩)
    refine hK.out _ _ y21.out (fun hHeld => ?_)
    clear hK K y21
    try simp only [Act.put, List.setIfInBounds_toArray, List.set_cons_zero, List.set_cons_succ]
    refine wpAnyH_takeL (i := 18) (d := some 5) (v := .string ByteArray.empty) rfl rfl (by kernel_rfl) (by kernel_rfl) (by kernel_rfl) (fun _ _ _ h => h) (Or.inl ⟨by rfl, ?_⟩) hHeld ?_
    · intro w hSw; (try dsimp only at hSw); go_simp
    try simp only [Act.put, List.setIfInBounds_toArray, List.set_cons_zero, List.set_cons_succ]
    refine wpAnyH_takeL (i := 19) (d := some 6) (v := .int .i64 (z : Int)) rfl rfl (by kernel_rfl) (by kernel_rfl) (by kernel_rfl) (fun _ _ _ h => h) (Or.inl ⟨by rfl, ?_⟩) hHeld ?_
    · intro w hSw; (try dsimp only at hSw); go_simp
    try simp only [Act.put, List.setIfInBounds_toArray, List.set_cons_zero, List.set_cons_succ]
    refine wpAnyH_done (by kernel_rfl) ?_ _
    have O10 : Out w V20 F := Out.of F o20
    have ni9 := hnoi
    have nt9 := hnot
    have N9 : ∀ g, G = some g → F g ∨ w.heap.size ≤ g := fun g e => .inl (hFg g e)
    go_wp2_with (first | ((with_reducible refine st_load 66 _ g15 ?_ n20 Try.underlying66 ?_ ?_ ?_); exact rfl; exact rfl; exact Try.zIn) | ((with_reducible refine st_store 66 _ _ gi (hA (n0 : Int)) ?_ ?_ m20_i ?_ ?_ ?_ ?_); exact rfl; exact rfl; exact Try.zIn; exact rfl; exact hA_one _))
    refine ⟨fun V11 n11 k11 => ?_⟩
    have t11 := k11.on m20_t (Ne.symm hneq)
    have so11 := SO.wr m20_td k11 ni9
    have O11 := O10.wrS k11 hFi
    clear k11
    have enh : nH n0 k = n0 := by unfold nH; rw [if_neg hkh]
    go_wp2_with fail
    have n12 : CB V11 gi 66 (hA ((n0 : Nat) : Int)) := n11
    have TT : TDs N gi gt n0 (S.take n0) A0 n0 c0 G V11 := ⟨n12, t11, so11⟩
    exact bodyPost_end (v := .tuple #[]) (by simp [results, Try.results23, go_sem]) rfl ⟨rfl, by rw [enh]; exact ⟨_, TO.of TT, O11, fun i e => by
      rcases e with rfl | rfl | e
      · exact .inl hFi
      · exact .inl hFt
      · exact N9 i e⟩⟩
  · skip
    refine rd_alloc rfl 66 rfl (some 4) rfl (hA (0)) zero_in ?_
    refine ⟨fun V10 g10 n10 f10 => ?_⟩
    have ne10_i := f10.ne r9_i
    have ne10_t := f10.ne r9_t
    have ne10_x := f10.ne r9_x
    have no10_td := SO.fresh r8_td (Nat.le_of_eq f10.at_)
    have up10 : w.heap.size ≤ g10 := f10.up l9
    have bl10 := f10.bel
    clear f10
    have r12_td := SO.on r8_td bl10
    have r13_i := le_on r9_i bl10
    have r13_t := le_on r9_t bl10
    have r13_x := le_on r9_x bl10
    have r13_xr := (r9_xr).on bl10
    have l13 := le_tr l9 bl10
    clear r9_i r9_t r9_x r9_xr l9
    clear r8_td
    clear bl10
    have y14 := Lib.hid (show (fun V : World => CB V gi 66 (hA (n0 : Int)) ∧ CB V g1 40 (lA ⟨fr, to, UInt8.ofNat k :: Dk.bl s, some ⟨gb, ob, none⟩, n, c⟩) ∧ RL w V bcl 1 (some ⟨gb, ob, none⟩) n c (UInt8.ofNat k :: Dk.bl s)) V10 from ⟨r13_i, r13_x, r13_xr⟩)
    refine hK.out _ _ y14.out (fun hHeld => ?_)
    clear hK K y14
    try simp only [Act.put, List.setIfInBounds_toArray, List.set_cons_zero, List.set_cons_succ]
    refine wpAnyH_ready (rs := [11]) (by kernel_rfl) (by simp) ?_
    refine AllReadyH.cons rfl (fun K hK => ?_) AllReadyH.nil
    go_simp
    (with_reducible refine (C1 _).mono ?_)
    rintro e u15 ⟨rfl, b15⟩
    have r17_td := SO.on r12_td b15
    have r18_i := le_on r13_i b15
    have r18_t := le_on r13_t b15
    have r18_x := le_on r13_x b15
    have r18_nx := le_on n10 b15
    have r18_xr := (r13_xr).on b15
    have l18 := le_tr l13 b15
    clear r13_i r13_t r13_x n10 r13_xr l13
    clear r12_td
    clear b15
    go_wp2_with fail
    have y19 := Lib.hid (show (fun V : World => CB V gi 66 (hA (n0 : Int)) ∧ CB V g1 40 (lA ⟨fr, to, UInt8.ofNat k :: Dk.bl s, some ⟨gb, ob, none⟩, n, c⟩) ∧ RL w V bcl 1 (some ⟨gb, ob, none⟩) n c (UInt8.ofNat k :: Dk.bl s)) u15 from ⟨r18_i, r18_x, r18_xr⟩)
    refine hK.out _ _ y19.out (fun hHeld => ?_)
    clear hK K y19
    try simp only [Act.put, List.setIfInBounds_toArray, List.set_cons_zero, List.set_cons_succ]
    refine wpAnyH_takeL (i := 12) (d := some 11) (v := .tuple #[.agg (hA (n0 : Int)), .string ByteArray.empty, .int .i64 (z : Int)]) rfl rfl (by kernel_rfl) (by kernel_rfl) (by kernel_rfl) (fun _ _ _ h => h) (Or.inl ⟨by rfl, ?_⟩) hHeld ?_
    · intro w hSw; (try dsimp only at hSw); go_simp
    try simp only [Act.put, List.setIfInBounds_toArray, List.set_cons_zero, List.set_cons_succ]
    refine wpAnyH_takeL (i := 13) (d := some 24) (v := .agg (hA (n0 : Int))) rfl rfl (by kernel_rfl) (by kernel_rfl) (by kernel_rfl) (fun _ _ _ h => h) (Or.inl ⟨by rfl, ?_⟩) hHeld ?_
    · intro w hSw; (try dsimp only at hSw); go_simp
    try simp only [Act.put, List.setIfInBounds_toArray, List.set_cons_zero, List.set_cons_succ]
    refine wpAnyH_takeL (i := 14) (d := some 25) (v := .string ByteArray.empty) rfl rfl (by kernel_rfl) (by kernel_rfl) (by kernel_rfl) (fun _ _ _ h => h) (Or.inl ⟨by rfl, ?_⟩) hHeld ?_
    · intro w hSw; (try dsimp only at hSw); go_simp
    try simp only [Act.put, List.setIfInBounds_toArray, List.set_cons_zero, List.set_cons_succ]
    refine wpAnyH_takeL (i := 15) (d := some 26) (v := .int .i64 (z : Int)) rfl rfl (by kernel_rfl) (by kernel_rfl) (by kernel_rfl) (fun _ _ _ h => h) (Or.inl ⟨by rfl, ?_⟩) hHeld ?_
    · intro w hSw; (try dsimp only at hSw); go_simp
    try simp only [Act.put, List.setIfInBounds_toArray, List.set_cons_zero, List.set_cons_succ]
    refine wpAnyH_ready (rs := [17]) (by kernel_rfl) (by simp) ?_
    refine AllReadyH.cons rfl (fun K hK => ?_) AllReadyH.nil
    refine rd_store rfl 66 _ _ rfl none rfl g10 (hA (n0 : Int)) rfl rfl r18_nx Try.zIn rfl (hA_one _) ?_
    refine ⟨fun V20 n20 k20 => ?_⟩
    have m20_i := k20.on r18_i ne10_i
    have m20_t := k20.on r18_t ne10_t
    have m20_x := k20.on r18_x ne10_x
    have m20_xr := (r18_xr).wr k20 up10
    have m20_td := SO.wr r17_td k20 no10_td
    have o20 := k20.bel _ _ l18 up10
    clear k20
    clear r18_nx r18_i r18_t r18_x r18_xr r17_td l18
    have y21 := Lib.hid (show (fun V : World => CB V gi 66 (hA (n0 : Int)) ∧ CB V g1 40 (lA ⟨fr, to, UInt8.ofNat k :: Dk.bl s, some ⟨gb, ob, none⟩, n, c⟩) ∧ RL w V bcl 1 (some ⟨gb, ob, none⟩) n c (UInt8.ofNat k :: Dk.bl s)) V20 from ⟨m20_i, m20_x, m20_xr⟩)
    refine hK.out _ _ y21.out (fun hHeld => ?_)
    clear hK K y21
    try simp only [Act.put, List.setIfInBounds_toArray, List.set_cons_zero, List.set_cons_succ]
    refine wpAnyH_takeL (i := 18) (d := some 5) (v := .string ByteArray.empty) rfl rfl (by kernel_rfl) (by kernel_rfl) (by kernel_rfl) (fun _ _ _ h => h) (Or.inl ⟨by rfl, ?_⟩) hHeld ?_
    · intro w hSw; (try dsimp only at hSw); go_simp
    try simp only [Act.put, List.setIfInBounds_toArray, List.set_cons_zero, List.set_cons_succ]
    refine wpAnyH_takeL (i := 19) (d := some 6) (v := .int .i64 (z : Int)) rfl rfl (by kernel_rfl) (by kernel_rfl) (by kernel_rfl) (fun _ _ _ h => h) (Or.inl ⟨by rfl, ?_⟩) hHeld ?_
    · intro w hSw; (try dsimp only at hSw); go_simp
    try simp only [Act.put, List.setIfInBounds_toArray, List.set_cons_zero, List.set_cons_succ]
    refine wpAnyH_done (by kernel_rfl) ?_ _
    have O10 : Out w V20 F := Out.of F o20
    have ni9 := hnoi
    have nt9 := hnot
    have N9 : ∀ g, G = some g → F g ∨ w.heap.size ≤ g := fun g e => .inl (hFg g e)
    go_wp2_with (first | ((with_reducible refine st_load 66 _ g10 ?_ n20 Try.underlying66 ?_ ?_ ?_); exact rfl; exact rfl; exact Try.zIn) | ((with_reducible refine st_store 66 _ _ gi (hA (n0 : Int)) ?_ ?_ m20_i ?_ ?_ ?_ ?_); exact rfl; exact rfl; exact Try.zIn; exact rfl; exact hA_one _))
    refine ⟨fun V11 n11 k11 => ?_⟩
    have t11 := k11.on m20_t (Ne.symm hneq)
    have so11 := SO.wr m20_td k11 ni9
    have O11 := O10.wrS k11 hFi
    clear k11
    have enh : nH n0 k = n0 := by unfold nH; rw [if_neg hkh]
    go_wp2_with fail
    have n12 : CB V11 gi 66 (hA ((n0 : Nat) : Int)) := n11
    have TT : TDs N gi gt n0 (S.take n0) A0 n0 c0 G V11 := ⟨n12, t11, so11⟩
    exact bodyPost_end (v := .tuple #[]) (by simp [results, Try.results23, go_sem]) rfl ⟨rfl, by rw [enh]; exact ⟨_, TO.of TT, O11, fun i e => by
      rcases e with rfl | rfl | e
      · exact .inl hFi
      · exact .inl hFt
      · exact N9 i e⟩⟩
end Go.Proofs.Ytcfdfimkgehdfaa
