/-
  The law PartyWaits, walked. Conditions: the texts and the numbers can be read, the numbers are bytes.
-/
import Derived.Test.YtemhfaodgofcpaaPaQ0
set_option linter.unusedVariables false
set_option linter.unusedSimpArgs false
namespace Go.Proofs.Ytemhfaodgofcpaa
open Go.RowKit

theorem RR.ubAt {w : World} {A : Option Addr} {n q : Nat} {L : List Nat} (h : RR w ucl 1 A n q L) {k u : Nat} (hx : L[k]? = some u) {g off : Nat} (hA : A = some ⟨g, off, none⟩) : w.cell? ⟨g, off + k, none⟩ = some (.int .u8 (u : Int)) := by
  have := RR.elemAt h hx hA 0 _ rfl
  rwa [Nat.mul_one] at this
theorem RR.stAt {w : World} {A : Option Addr} {n q : Nat} {L : List ByteArray} (h : RR w scl 1 A n q L) {k : Nat} {x : ByteArray} (hx : L[k]? = some x) {g off : Nat} (hA : A = some ⟨g, off, none⟩) : w.cell? ⟨g, off + k, none⟩ = some (.string x) := by
  have := RR.elemAt h hx hA 0 _ rfl
  rwa [Nat.mul_one] at this
/-- What holds of who says, in the law's loop. -/
structure WP (S : List ByteArray) (a N m k : Nat) : Prop where
  len : S.length = N
  small : SmallT S
  few : m ≤ 100
  sum : m + a = N
  up : N ≤ k
theorem WP.right {S : List ByteArray} {a N m k : Nat} (h : WP S a N m k) (hk : k ≤ 1000) : RightO ⟨(N : Int), pkF S a, 100⟩ := by
  have h1 := h.len
  have h2 := h.sum
  have h3 := h.few
  have h4 := h.up
  have := pkF_right (S := S) (a := a) (r := 100) (by omega) h.small (by omega) (by omega) (by omega)
  rw [h1] at this
  exact this
theorem WP.say {S : List ByteArray} {a N m k : Nat} (h : WP S a N m k) {x : ByteArray} (hx : x.size ≤ 500) (hm : m < 100) : WP (S ++ [x]) a (N + 1) (m + 1) (k + 1) := by
  obtain ⟨h1, h2, h3, h4, h5⟩ := h
  refine ⟨by simp [h1], fun t ht => ?_, by omega, by omega, by omega⟩
  rcases List.mem_append.1 ht with ht | ht
  · exact h2 t ht
  · simp at ht; subst ht; exact hx
theorem WP.next {S : List ByteArray} {a N m k : Nat} (h : WP S a N m k) : WP S a N m (k + 1) := ⟨h.len, h.small, h.few, h.sum, by have := h.up; omega⟩
theorem WP.ack {S : List ByteArray} {a N m k r m' : Nat} (h : WP S a N m k) (hr : r ≤ N) (hm : (pkF S (max a r)).length = m') : WP S (max a r) N m' k := by
  obtain ⟨h1, h2, h3, h4, h5⟩ := h
  rw [pkF_len, h1] at hm
  exact ⟨h1, h2, by omega, by omega, h5⟩
set_option maxRecDepth 100000 in
set_option maxHeartbeats 8000000 in
theorem waits_walk (A : Option Addr) (n c : Nat) (L : List ByteArray) (Ah : Option Addr) (nh ch : Nat) (M : List Nat) (w : World) (h : RR w scl 1 A n c L) (h2 : RR w ucl 1 Ah nh ch M) (hbd : ∀ x ∈ M, x < 256) : Calls Try.prog 6 #[.slice A n c, .slice Ah nh ch] w fun r w' => r = .returned (.bool true) ∧ Below w.heap.size w w' := by
  have hl := RL.start h
  have hm := RL.start h2
  have hmx := hl.max
  have hmy := hm.max
  have HB := Lib.hid hbd
  clear h h2 hbd
  by_cases hn : n ≤ 110
  · by_cases hn2 : nh ≤ 110
    · skip
      have q1 : decide ((110 : Int) < (n : Int)) = false := by simp; omega
      have q1' : decide ((n : Int) > 110) = false := by simp; omega
      have q2 : decide ((110 : Int) < (nh : Int)) = false := by simp; omega
      have q2' : decide ((nh : Int) > 110) = false := by simp; omega
      go_enter Try.func6, Try.ntmps6
      go_wp2_with fail
      (with_reducible refine (alive_c _).mono ?_)
      rintro e w1 ⟨rfl, b1⟩
      have r3_l := (hl).on b1
      have r3_hd := (hm).on b1
      have l3 := le_tr (Below.refl _ _) b1
      clear hl hm
      clear b1
      go_wp2_with (first | ((with_reducible refine st_builtn 39 2 _ (.int .i64 100) (oA ⟨0, none, 0, 0, 100⟩) ?_ ?_ ?_); exact rfl; exact built_or _) | ((with_reducible refine st_alloc 39 (oA zeroO) ?_ ?_); exact zero_ou))
      refine ⟨fun V4 g4 n4 f4 => ?_⟩
      have up4 : w.heap.size ≤ g4 := f4.up l3
      have bl4 := f4.bel
      clear f4
      have r6_l := (r3_l).on bl4
      have r6_hd := (r3_hd).on bl4
      have l6 := le_tr l3 bl4
      clear r3_l r3_hd l3
      clear bl4
      go_wp2_with (first | ((with_reducible refine st_store 39 _ _ g4 (oA ⟨0, none, 0, 0, 100⟩) ?_ ?_ n4 ?_ ?_ ?_ ?_); exact rfl; exact rfl; exact Try.zOu; exact rfl; exact oA_one _))
      refine ⟨fun V7 n7 k7 => ?_⟩
      have m7_l := (r6_l).wr k7 up4
      have m7_hd := (r6_hd).wr k7 up4
      have o7 := k7.bel _ _ l6 up4
      clear k7
      clear n4 r6_l r6_hd l6
      go_wp2_with fail
      obtain ⟨go, hgo⟩ : ∃ b, g4 = b := ⟨_, rfl⟩
      have hcb0 := n7
      have hup := up4
      rw [hgo] at hcb0 hup ⊢
      clear n7 hgo
      go_loopw [6, 31] (fun sv iv wr => ∃ (k a N n0 : Nat) (S : List ByteArray) (A0 : Option Addr) (c0 : Nat) (G0 : Option Nat) (B : Option Addr) (q : Nat) (G1 : Option Nat), k ≤ n ∧ iv = .int .i64 k ∧ sv = .slice B N q ∧ CB wr go 39 (oA ⟨(N : Int), A0, n0, c0, 100⟩) ∧ SO w.heap.size wr 30 pcl 2 A0 n0 c0 (pkF S a) G0 ∧ SO w.heap.size wr 9 scl 1 B N q S G1 ∧ RL w wr scl 1 A n c L ∧ RL w wr ucl 1 Ah nh ch M ∧ Below w.heap.size w wr ∧ Hid (WP S a N n0 k)) (fun _ iv _ => n - (intOf iv).toNat)
      case atStart => exact ⟨0, 0, 0, 0, [], none, 0, none, none, 0, none, by omega, rfl, rfl, hcb0, SO.nil _ _ _ _ _, SO.nil _ _ _ _ _, m7_l, m7_hd, o7, Lib.hid ⟨rfl, fun t h => by simp at h, by omega, by omega, by omega⟩⟩
      case round =>
        clear hcb0 m7_l m7_hd o7
        obtain ⟨k, a, N, n0, S, A0, c0, G0, B, q, G1, hk, rfl, rfl, hcb, s0, s1, hl, hm, hb, HP⟩ := hrel
        by_cases hlt : k < n
        · obtain ⟨ga, ofa, x, hx, rfl, cx⟩ := hl.rr.st hlt
          have no0 := SO.noT s0 hcb (by decide)
          have no1 := SO.noT s1 hcb (by decide)
          have l1 : (k : Int) < (n : Int) := by omega
          have l2 : (0 : Int) ≤ (k : Int) := by omega
          by_cases h6 : x.size ≤ 600
          · skip
            have q3 : decide ((600 : Int) < (x.size : Int)) = false := by simp; omega
            have q3' : decide ((x.size : Int) > 600) = false := by simp; omega
            have HR := Lib.hid (HP.out.right (by omega))
            have HU := Lib.hid HP.out.up
            have hN := HP.out.up
            have hm0 := HP.out.few
            have hsum := HP.out.sum
            by_cases hok : x.size ≤ 500 ∧ n0 < 100
            · obtain ⟨h5, h9⟩ := hok
              have S1 := fun V (h : RR V pcl 2 A0 n0 c0 (pkF S a)) => say_y (N : Int) A0 n0 c0 (pkF S a) 100 x V h HR.out h5 (by omega) (by omega)
              have HQ0 := Lib.hid (HP.out.say h5 h9)
              have HL := Lib.hid HP.out.len
              go_wp2_with (first | ((with_reducible refine st_load 39 _ go ?_ hcb Try.underlying39 ?_ ?_ ?_); exact rfl; exact rfl; exact Try.zOu))
              have lt101_o := CB.lt hcb
              have lb101 : w.heap.size ≤ wr.heap.size := Below.size (B := w.heap.size) hb
              (with_reducible refine (S1 _ (s0).rr).mono ?_)
              rintro e w101 ⟨A9, c9, G9, rfl, so9, b101⟩
              clear cx
              have r102_s0 := SO.on s0 b101
              have r102_s1 := SO.on s1 b101
              have r103_o := le_on hcb b101
              have r103_l := (hl).on b101
              have r103_hd := (hm).on b101
              have l103 := le_tr hb b101
              clear hcb hl hm hb
              clear s0 s1
              clear b101
              have na104 := SO.above so9 lt101_o
              have sm101_s9 := SO.mono so9 lb101
              clear so9
              clear lb101 lt101_o
              go_wp2_with (first | ((with_reducible refine st_alloc 39 (oA zeroO) ?_ ?_); exact zero_ou))
              refine ⟨fun V105 g105 n105 f105 => ?_⟩
              have ne105_o := f105.ne r103_o
              have no105_s0 := SO.fresh r102_s0 (Nat.le_of_eq f105.at_)
              have no105_s1 := SO.fresh r102_s1 (Nat.le_of_eq f105.at_)
              have no105_s9 := SO.fresh sm101_s9 (Nat.le_of_eq f105.at_)
              have up105 : w.heap.size ≤ g105 := f105.up l103
              have bl105 := f105.bel
              clear f105
              have r106_s0 := SO.on r102_s0 bl105
              have r106_s1 := SO.on r102_s1 bl105
              have r106_s9 := SO.on sm101_s9 bl105
              have r107_o := le_on r103_o bl105
              have r107_l := (r103_l).on bl105
              have r107_hd := (r103_hd).on bl105
              have l107 := le_tr l103 bl105
              clear r103_o r103_l r103_hd l103
              clear r102_s0 r102_s1 sm101_s9
              clear bl105
              go_wp2_with (first | ((with_reducible refine st_alloc 30 (pA zeroP) ?_ ?_); exact zero_pk))
              refine ⟨fun V108 g108 n108 f108 => ?_⟩
              have ne108_o := f108.ne r107_o
              have ne108_x := f108.ne n105
              have no108_s0 := SO.fresh r106_s0 (Nat.le_of_eq f108.at_)
              have no108_s1 := SO.fresh r106_s1 (Nat.le_of_eq f108.at_)
              have no108_s9 := SO.fresh r106_s9 (Nat.le_of_eq f108.at_)
              have up108 : w.heap.size ≤ g108 := f108.up l107
              have bl108 := f108.bel
              clear f108
              have r109_s0 := SO.on r106_s0 bl108
              have r109_s1 := SO.on r106_s1 bl108
              have r109_s9 := SO.on r106_s9 bl108
              have r110_o := le_on r107_o bl108
              have r110_x := le_on n105 bl108
              have r110_l := (r107_l).on bl108
              have r110_hd := (r107_hd).on bl108
              have l110 := le_tr l107 bl108
              clear r107_o n105 r107_l r107_hd l107
              clear r106_s0 r106_s1 r106_s9
              clear bl108
              go_wp2_with (first | ((with_reducible refine st_store 39 _ _ g105 (oA ⟨(N : Int) + 1, A9, n0 + 1, c9, 100⟩) ?_ ?_ r110_x ?_ ?_ ?_ ?_); exact rfl; exact rfl; exact Try.zOu; exact rfl; exact oA_one _))
              refine ⟨fun V111 n111 k111 => ?_⟩
              have m111_o := k111.on r110_o ne105_o
              have m111_p := k111.on n108 (Ne.symm ne108_x)
              have m111_l := (r110_l).wr k111 up105
              have m111_hd := (r110_hd).wr k111 up105
              have m111_s0 := SO.wr r109_s0 k111 no105_s0
              have m111_s1 := SO.wr r109_s1 k111 no105_s1
              have m111_s9 := SO.wr r109_s9 k111 no105_s9
              have o111 := k111.bel _ _ l110 up105
              clear k111
              clear r110_x r110_o n108 r110_l r110_hd r109_s0 r109_s1 r109_s9 l110
              go_wp2_with (first | ((with_reducible refine st_store 30 _ _ g108 (pA ⟨(N : Int), x⟩) ?_ ?_ m111_p ?_ ?_ ?_ ?_); exact rfl; exact rfl; exact Try.zPk; exact rfl; exact pA_one _))
              refine ⟨fun V112 n112 k112 => ?_⟩
              have m112_o := k112.on m111_o ne108_o
              have m112_x := k112.on n111 ne108_x
              have m112_l := (m111_l).wr k112 up108
              have m112_hd := (m111_hd).wr k112 up108
              have m112_s0 := SO.wr m111_s0 k112 no108_s0
              have m112_s1 := SO.wr m111_s1 k112 no108_s1
              have m112_s9 := SO.wr m111_s9 k112 no108_s9
              have o112 := k112.bel _ _ o111 up108
              clear k112
              clear m111_p m111_o n111 m111_l m111_hd m111_s0 m111_s1 m111_s9 o111
              go_wp2_with (first | ((with_reducible refine st_litv 40 9 _ (.string x) (zA x) ?_ rfl Try.underlying40 Try.infoS2 rfl (by decide) (by decide) ?_); exact rfl))
              refine ⟨fun V113 g113 n113 f113 => ?_⟩
              have ne113_o := f113.ne m112_o
              have ne113_x := f113.ne m112_x
              have ne113_p := f113.ne n112
              have no113_s0 := SO.fresh m112_s0 (Nat.le_of_eq f113.at_)
              have no113_s1 := SO.fresh m112_s1 (Nat.le_of_eq f113.at_)
              have no113_s9 := SO.fresh m112_s9 (Nat.le_of_eq f113.at_)
              have up113 : w.heap.size ≤ g113 := f113.up o112
              have bl113 := f113.bel
              clear f113
              have r114_s0 := SO.on m112_s0 bl113
              have r114_s1 := SO.on m112_s1 bl113
              have r114_s9 := SO.on m112_s9 bl113
              have r115_o := le_on m112_o bl113
              have r115_x := le_on m112_x bl113
              have r115_p := le_on n112 bl113
              have r115_l := (m112_l).on bl113
              have r115_hd := (m112_hd).on bl113
              have l115 := le_tr o112 bl113
              clear m112_o m112_x n112 m112_l m112_hd o112
              clear m112_s0 m112_s1 m112_s9
              clear bl113
              go_wp2_with (first | ((with_reducible refine st_app (.tmp 48) (.tmp 50) 40 9 Try.underlying40 Try.infoS rfl (by decide) (A := B) (n := N) (c := q) (G := G1) rfl r114_s1.seg (As := (some ⟨g113, 0, none⟩)) (m := 1) (k := 1) rfl (Src.box n113 rfl) (all_list (zA_one _)) (by simp only [maxLen]; omega) (by omega) (N + 1) (by omega) ?_)))
              refine ⟨fun B116 m116 q116 w116 s116 h116 k116 => ?_⟩
              have s116 : Seg w116 9 1 B116 (N + 1) m116 (rc scl (S ++ [x])) q116 := by rw [← rc_snoc]; exact s116
              have hg116 : ∀ g, G1 = some g → w.heap.size ≤ g := fun g e => r114_s1.hi g e
              have so116 : SO w.heap.size w116 9 scl 1 B116 (N + 1) m116 (S ++ [x]) q116 := ⟨s116, k116.ge (l115).size hg116⟩
              have e116_o := CB.same r115_o (h116.block _ (CB.lt r115_o) (fun e => no1 _ e.symm rfl))
              have na116_o := moved_ne k116 (CB.lt r115_o) no1
              have e116_x := CB.same r115_x (h116.block _ (CB.lt r115_x) (fun e => no105_s1 _ e.symm rfl))
              have na116_x := moved_ne k116 (CB.lt r115_x) no105_s1
              have e116_p := CB.same r115_p (h116.block _ (CB.lt r115_p) (fun e => no108_s1 _ e.symm rfl))
              have na116_p := moved_ne k116 (CB.lt r115_p) no108_s1
              have e116_z := CB.same n113 (h116.block _ (CB.lt n113) (fun e => no113_s1 _ e.symm rfl))
              have na116_z := moved_ne k116 (CB.lt n113) no113_s1
              have e116_l := (r115_l).grow h116 hg116
              have e116_hd := (r115_hd).grow h116 hg116
              have e116_s0 := SO.grow r114_s0 h116 (SO.apT r114_s0 r114_s1 (by decide))
              have e116_s9 := SO.grow r114_s9 h116 (SO.apT r114_s9 r114_s1 (by decide))
              have lw116 := (l115).grown h116 (l115).size hg116
              clear h116 k116 s116 hg116 r114_s1 r115_o no1 r115_x no105_s1 r115_p no108_s1 n113 no113_s1 r115_l r115_hd r114_s0 r114_s9 l115
              go_wp2_with (first | ((with_reducible refine st_load 39 _ g105 ?_ e116_x Try.underlying39 ?_ ?_ ?_); exact rfl; exact rfl; exact Try.zOu) | ((with_reducible refine st_store 39 _ _ go (oA ⟨(N : Int) + 1, A9, n0 + 1, c9, 100⟩) ?_ ?_ e116_o ?_ ?_ ?_ ?_); exact rfl; exact rfl; exact Try.zOu; exact rfl; exact oA_one _))
              refine ⟨fun V117 n117 k117 => ?_⟩
              have m117_x := k117.on e116_x (Ne.symm ne105_o)
              have m117_p := k117.on e116_p (Ne.symm ne108_o)
              have m117_z := k117.on e116_z (Ne.symm ne113_o)
              have m117_l := (e116_l).wr k117 hup
              have m117_hd := (e116_hd).wr k117 hup
              have m117_s0 := SO.wr e116_s0 k117 no0
              have m117_s9 := SO.wr e116_s9 k117 na104
              have m117_s1 := SO.wr so116 k117 na116_o
              have o117 := k117.bel _ _ lw116 hup
              clear k117
              clear e116_o e116_x e116_p e116_z e116_l e116_hd e116_s0 e116_s9 so116 lw116
              obtain ⟨N2, hN2⟩ : ∃ N2, N + 1 = N2 := ⟨_, rfl⟩
              obtain ⟨m2, hm2⟩ : ∃ m2, n0 + 1 = m2 := ⟨_, rfl⟩
              obtain ⟨S2, hS2⟩ : ∃ S2, S ++ [x] = S2 := ⟨_, rfl⟩
              have cbo : CB V117 go 39 (oA ⟨(N2 : Int), A9, m2, c9, 100⟩) := by rw [← hN2, ← hm2]; exact n117
              have z0 : SO w.heap.size V117 30 pcl 2 A9 m2 c9 (pkF S2 a) G9 := by
                have := pkF_snoc (S := S) (a := a) (by have := HL.out; omega) x
                rw [HL.out] at this
                rw [← hS2, ← this, ← hm2]; exact m117_s9
              have z1 : SO w.heap.size V117 9 scl 1 B116 N2 m116 S2 q116 := by rw [← hS2, ← hN2]; exact m117_s1
              rw [hN2, hm2, hS2] at HQ0
              have HQ1 := HQ0
              rw [hN2]
              have HR2 := Lib.hid (HQ1.out.right (by omega))
              have hN3 : N2 ≤ 111 := by omega
              have hm3 : m2 ≤ 100 := by omega
              clear hN2 hm2 hS2 HQ0 n117 m117_s9 m117_s1
              clear m117_s0 no0 no105_s0 no108_s0 no113_s0
              by_cases hkh : k < nh
              · have q4 : decide ((k : Int) < (nh : Int)) = true := by simp; omega
                obtain ⟨gh, oh, u, hu, hAh, _⟩ := m117_hd.rr.ub hkh
                obtain ⟨r, hr⟩ : ∃ r, u % (N2 + 1) = r := ⟨_, rfl⟩
                have hr1 : r ≤ N2 := by have := Nat.mod_lt u (show 0 < N2 + 1 by omega); omega
                have qr : (u : Int).tmod ((N2 : Int) + 1) = (r : Int) := (tmod_nat u (N2 + 1)).trans (by rw [hr])
                have hu8 : u < 256 := HB.out u (List.mem_of_getElem? hu)
                have qu : IntKind.i64.wrap (u : Int) = (u : Int) := IntWalk.i64_in _ (by omega)
                have qN : IntKind.i64.wrap ((N2 : Int) + 1) = (N2 : Int) + 1 := IntWalk.i64_in _ (by omega)
                have qz : ¬ ((N2 : Int) + 1 = 0) := by omega
                have l3 : (k : Int) < (nh : Int) := by omega
                subst hAh
                clear hr
                go_wp2_with fail
                have y118 := Lib.hid (show (fun V : World => CB V go 39 (oA ⟨(N2 : Int), A9, m2, c9, 100⟩) ∧ RL w V ucl 1 (some ⟨gh, oh, none⟩) nh ch M) V117.drew from ⟨CB.drew cbo, (m117_hd).drew⟩)
                refine wp_region_held_drew (S := (fun V : World => CB V go 39 (oA ⟨(N2 : Int), A9, m2, c9, 100⟩) ∧ RL w V ucl 1 (some ⟨gh, oh, none⟩) nh ch M)) (by kernel_rfl) y118.out (fun hHeld => ?_)
                obtain ⟨D118, hD118⟩ : ∃ V, V117.drew = V := ⟨_, rfl⟩
                have b118 : Below V117.heap.size V117 D118 := by rw [← hD118]; exact le_dr (Below.refl _ _)
                rw [hD118] at hHeld ⊢
                clear hD118
                have r119_s9 := SO.on z0 b118
                have r119_s1 := SO.on z1 b118
                have r120_o := le_on cbo b118
                have r120_x := le_on m117_x b118
                have r120_p := le_on m117_p b118
                have r120_z := le_on m117_z b118
                have r120_l := (m117_l).on b118
                have r120_hd := (m117_hd).on b118
                have l120 := le_tr o117 b118
                clear cbo m117_x m117_p m117_z m117_l m117_hd o117
                clear z0 z1
                clear b118
                refine wpAnyH_takeL (i := 0) (d := some 57) (v := .slice (some ⟨gh, oh, none⟩) nh ch) rfl rfl (by kernel_rfl) (by kernel_rfl) (by kernel_rfl) (fun _ _ _ h => h) (Or.inl ⟨by rfl, ?_⟩) hHeld ?_
                · intro w hSw; (try dsimp only at hSw); go_simp
                try simp only [Act.put, List.setIfInBounds_toArray, List.set_cons_zero, List.set_cons_succ]
                refine wpAnyH_takeL (i := 1) (d := some 58) (v := .int .i64 (k : Int)) rfl rfl (by kernel_rfl) (by kernel_rfl) (by kernel_rfl) (fun _ _ _ h => h) (Or.inl ⟨by rfl, ?_⟩) hHeld ?_
                · intro w hSw; (try dsimp only at hSw); go_simp
                try simp only [Act.put, List.setIfInBounds_toArray, List.set_cons_zero, List.set_cons_succ]
                refine wpAnyH_takeL (i := 2) (d := some 59) (v := .pointer (some ⟨gh, oh + k, none⟩)) rfl rfl (by kernel_rfl) (by kernel_rfl) (by kernel_rfl) (fun _ _ _ h => h) (Or.inl ⟨by rfl, ?_⟩) hHeld ?_
                · intro w hSw; (try dsimp only at hSw); go_simp
                try simp only [Act.put, List.setIfInBounds_toArray, List.set_cons_zero, List.set_cons_succ]
                refine wpAnyH_takeL (i := 3) (d := some 60) (v := .int .u8 (u : Int)) rfl rfl (by kernel_rfl) (by kernel_rfl) (by kernel_rfl) (fun _ _ _ h => h) (Or.inl ⟨by rfl, ?_⟩) hHeld ?_
                · intro w hSw; have hcc := RR.ubAt hSw.2.rr hu rfl; go_simp
                try simp only [Act.put, List.setIfInBounds_toArray, List.set_cons_zero, List.set_cons_succ]
                refine wpAnyH_takeL (i := 4) (d := some 61) (v := .int .i64 (u : Int)) rfl rfl (by kernel_rfl) (by kernel_rfl) (by kernel_rfl) (fun _ _ _ h => h) (Or.inl ⟨by rfl, ?_⟩) hHeld ?_
                · intro w hSw; (try dsimp only at hSw); go_simp
                try simp only [Act.put, List.setIfInBounds_toArray, List.set_cons_zero, List.set_cons_succ]
                refine wpAnyH_takeL (i := 5) (d := some 62) (v := .pointer (some ⟨go, 0, none⟩)) rfl rfl (by kernel_rfl) (by kernel_rfl) (by kernel_rfl) (fun _ _ _ h => h) (Or.inl ⟨by rfl, ?_⟩) hHeld ?_
                · intro w hSw; (try dsimp only at hSw); go_simp
                try simp only [Act.put, List.setIfInBounds_toArray, List.set_cons_zero, List.set_cons_succ]
                refine wpAnyH_takeL (i := 6) (d := some 63) (v := .int .i64 (N2 : Int)) rfl rfl (by kernel_rfl) (by kernel_rfl) (by kernel_rfl) (fun _ _ _ h => h) (Or.inl ⟨by rfl, ?_⟩) hHeld ?_
                · intro w hSw; (try dsimp only at hSw); have hcc : w.cell? ⟨go, 0, none⟩ = some (.int .i64 (N2 : Int)) := CB.cell hSw.1 0; go_simp
                try simp only [Act.put, List.setIfInBounds_toArray, List.set_cons_zero, List.set_cons_succ]
                refine wpAnyH_takeL (i := 7) (d := some 64) (v := .int .i64 ((N2 : Int) + 1)) rfl rfl (by kernel_rfl) (by kernel_rfl) (by kernel_rfl) (fun _ _ _ h => h) (Or.inl ⟨by rfl, ?_⟩) hHeld ?_
                · intro w hSw; (try dsimp only at hSw); go_simp
                try simp only [Act.put, List.setIfInBounds_toArray, List.set_cons_zero, List.set_cons_succ]
                refine wpAnyH_takeL (i := 8) (d := some 65) (v := .int .i64 (r : Int)) rfl rfl (by kernel_rfl) (by kernel_rfl) (by kernel_rfl) (fun _ _ _ h => h) (Or.inl ⟨by rfl, ?_⟩) hHeld ?_
                · intro w hSw; (try dsimp only at hSw); go_simp
                try simp only [Act.put, List.setIfInBounds_toArray, List.set_cons_zero, List.set_cons_succ]
                refine wpAnyH_takeL (i := 9) (d := some 12) (v := .int .i64 (r : Int)) rfl rfl (by kernel_rfl) (by kernel_rfl) (by kernel_rfl) (fun _ _ _ h => h) (Or.inl ⟨by rfl, ?_⟩) hHeld ?_
                · intro w hSw; (try dsimp only at hSw); go_simp
                try simp only [Act.put, List.setIfInBounds_toArray, List.set_cons_zero, List.set_cons_succ]
                refine wpAnyH_done (by kernel_rfl) ?_ _
                have hM : (pkF S2 a).filter (fun p => decide ((r : Int) ≤ p.seq)) = pkF S2 (max a r) := pkF_ack (by have := HQ1.out.len; have := HQ1.out.sum; omega)
                have K1 := fun V (z : RR V pcl 2 A9 m2 c9 (pkF S2 a)) => ack_y (N2 : Int) A9 m2 c9 (pkF S2 a) 100 (r : Int) V z HR2.out (by omega) (by omega) (pkF S2 (max a r)) hM
                obtain ⟨ny, hny⟩ : ∃ ny, (pkF S2 (max a r)).length = ny := ⟨_, rfl⟩
                rw [hny] at K1
                have HQ := Lib.hid (HQ1.out.ack hr1 hny)
                have hq1 := HQ.out.sum
                have hq0 := HQ1.out.sum
                have q5 : decide ((m2 : Int) < (ny : Int)) = false := by simp; omega
                have q5' : decide ((ny : Int) > (m2 : Int)) = false := by simp; omega
                have q6 : IntKind.i64.wrap ((N2 : Int) - (r : Int)) = (N2 : Int) - (r : Int) := IntWalk.i64_in _ (by omega)
                have q7 : decide ((N2 : Int) - (r : Int) < (ny : Int)) = false := by simp; omega
                have q7' : decide ((ny : Int) > (N2 : Int) - (r : Int)) = false := by simp; omega
                clear hM hny
                go_wp2_with (first | ((with_reducible refine st_load 39 _ go ?_ r120_o Try.underlying39 ?_ ?_ ?_); exact rfl; exact rfl; exact Try.zOu))
                have lt121_o := CB.lt r120_o
                have lt121_x := CB.lt r120_x
                have lt121_p := CB.lt r120_p
                have lt121_z := CB.lt r120_z
                have lb121 : w.heap.size ≤ D118.heap.size := Below.size (B := w.heap.size) l120
                (with_reducible refine (K1 _ (r119_s9).rr).mono ?_)
                rintro e w121 ⟨A8, c8, G8, rfl, so8, b121⟩
                have r122_s9 := SO.on r119_s9 b121
                have r122_s1 := SO.on r119_s1 b121
                have r123_o := le_on r120_o b121
                have r123_x := le_on r120_x b121
                have r123_p := le_on r120_p b121
                have r123_z := le_on r120_z b121
                have r123_l := (r120_l).on b121
                have r123_hd := (r120_hd).on b121
                have l123 := le_tr l120 b121
                clear r120_o r120_x r120_p r120_z r120_l r120_hd l120
                clear r119_s9 r119_s1
                clear b121
                have na124 := SO.above so8 lt121_o
                have na125 := SO.above so8 lt121_x
                have na126 := SO.above so8 lt121_p
                have na127 := SO.above so8 lt121_z
                have sm121_s8 := SO.mono so8 lb121
                clear so8
                clear lb121 lt121_o lt121_x lt121_p lt121_z
                go_wp2_with (first | ((with_reducible refine st_alloc 39 (oA zeroO) ?_ ?_); exact zero_ou))
                refine ⟨fun V128 g128 n128 f128 => ?_⟩
                have ne128_o := f128.ne r123_o
                have ne128_x := f128.ne r123_x
                have ne128_p := f128.ne r123_p
                have ne128_z := f128.ne r123_z
                have no128_s9 := SO.fresh r122_s9 (Nat.le_of_eq f128.at_)
                have no128_s1 := SO.fresh r122_s1 (Nat.le_of_eq f128.at_)
                have no128_s8 := SO.fresh sm121_s8 (Nat.le_of_eq f128.at_)
                have up128 : w.heap.size ≤ g128 := f128.up l123
                have bl128 := f128.bel
                clear f128
                have r129_s9 := SO.on r122_s9 bl128
                have r129_s1 := SO.on r122_s1 bl128
                have r129_s8 := SO.on sm121_s8 bl128
                have r130_o := le_on r123_o bl128
                have r130_x := le_on r123_x bl128
                have r130_p := le_on r123_p bl128
                have r130_z := le_on r123_z bl128
                have r130_l := (r123_l).on bl128
                have r130_hd := (r123_hd).on bl128
                have l130 := le_tr l123 bl128
                clear r123_o r123_x r123_p r123_z r123_l r123_hd l123
                clear r122_s9 r122_s1 sm121_s8
                clear bl128
                go_wp2_with (first | ((with_reducible refine st_store 39 _ _ g128 (oA ⟨(N2 : Int), A8, ny, c8, 100⟩) ?_ ?_ n128 ?_ ?_ ?_ ?_); exact rfl; exact rfl; exact Try.zOu; exact rfl; exact oA_one _))
                refine ⟨fun V131 n131 k131 => ?_⟩
                have m131_o := k131.on r130_o ne128_o
                have m131_x := k131.on r130_x ne128_x
                have m131_p := k131.on r130_p ne128_p
                have m131_z := k131.on r130_z ne128_z
                have m131_l := (r130_l).wr k131 up128
                have m131_hd := (r130_hd).wr k131 up128
                have m131_s9 := SO.wr r129_s9 k131 no128_s9
                have m131_s1 := SO.wr r129_s1 k131 no128_s1
                have m131_s8 := SO.wr r129_s8 k131 no128_s8
                have o131 := k131.bel _ _ l130 up128
                clear k131
                clear n128 r130_o r130_x r130_p r130_z r130_l r130_hd r129_s9 r129_s1 r129_s8 l130
                have c132 : V131.cell? ⟨g128, 1, none⟩ = some (.slice A8 ny c8) := CB.cell n131 1
                have c133 : V131.cell? ⟨go, 1, none⟩ = some (.slice A9 m2 c9) := CB.cell m131_o 1
                have c134 : V131.cell? ⟨go, 0, none⟩ = some (.int .i64 (N2 : Int)) := CB.cell m131_o 0
                go_wp2_with (first | ((with_reducible refine st_load 39 _ g128 ?_ n131 Try.underlying39 ?_ ?_ ?_); exact rfl; exact rfl; exact Try.zOu) | ((with_reducible refine st_store 39 _ _ go (oA ⟨(N2 : Int), A8, ny, c8, 100⟩) ?_ ?_ m131_o ?_ ?_ ?_ ?_); exact rfl; exact rfl; exact Try.zOu; exact rfl; exact oA_one _))
                refine ⟨fun V135 n135 k135 => ?_⟩
                clear c132 c133 c134
                have m135_x := k135.on m131_x (Ne.symm ne105_o)
                have m135_p := k135.on m131_p (Ne.symm ne108_o)
                have m135_z := k135.on m131_z (Ne.symm ne113_o)
                have m135_y := k135.on n131 (Ne.symm ne128_o)
                have m135_l := (m131_l).wr k135 hup
                have m135_hd := (m131_hd).wr k135 hup
                have m135_s9 := SO.wr m131_s9 k135 na104
                have m135_s1 := SO.wr m131_s1 k135 na116_o
                have m135_s8 := SO.wr m131_s8 k135 na124
                have o135 := k135.bel _ _ o131 hup
                clear k135
                clear m131_o m131_x m131_p m131_z n131 m131_l m131_hd m131_s9 m131_s1 m131_s8 o131
                clear m135_s9 na104 no105_s9 no108_s9 no113_s9 no128_s9
                obtain ⟨f, hf⟩ : ∃ f : Nat, (max a r) = f := ⟨_, rfl⟩
                have HF := Lib.hid hf
                have hq9 := HQ.out.sum
                have hq8 := HQ.out.few
                have hq7 := HQ.out.up
                rw [hf] at hq9
                have q8 : IntKind.i64.wrap ((N2 : Int) - (ny : Int)) = (f : Int) := by rw [show (N2 : Int) - (ny : Int) = (f : Int) by omega]; exact IntWalk.i64_in _ (by omega)
                have q9 : (N2 : Int) - (ny : Int) = (f : Int) := by omega
                clear hf
                clear m135_x
                clear m135_p
                clear m135_z
                clear m135_y
                have c136 : V135.cell? ⟨go, 0, none⟩ = some (.int .i64 (N2 : Int)) := CB.cell n135 0
                have c137 : V135.cell? ⟨go, 1, none⟩ = some (.slice A8 ny c8) := CB.cell n135 1
                go_wp2_with fail
                clear c136 c137
                go_loopw [103] (fun iv wi => ∃ i : Nat, i ≤ ny ∧ iv = .int .i64 i ∧ CB wi go 39 (oA ⟨(N2 : Int), A8, ny, c8, 100⟩) ∧ SO w.heap.size wi 30 pcl 2 A8 ny c8 (pkF S2 (max a r)) G8 ∧ SO w.heap.size wi 9 scl 1 B116 N2 m116 S2 q116 ∧ RL w wi scl 1 (some ⟨ga, ofa, none⟩) n c L ∧ RL w wi ucl 1 (some ⟨gh, oh, none⟩) nh ch M ∧ Below w.heap.size w wi) (fun iv _ => ny - (intOf iv).toNat)
                case atStart => exact ⟨0, by omega, rfl, n135, m135_s8, m135_s1, m135_l, m135_hd, o135⟩
                case round =>
                  clear n135 m135_s8 m135_s1 m135_l m135_hd o135
                  obtain ⟨i, hi, rfl, hcb, s0, s1, hl, hm, hb⟩ := hrel
                  by_cases hlt2 : i < ny
                  · have l5 : (i : Int) < (ny : Int) := by omega
                    have no0 := SO.noT s0 hcb (by decide)
                    have no1 := SO.noT s1 hcb (by decide)
                    have l6 : (0 : Int) ≤ (i : Int) := by omega
                    obtain ⟨e, he⟩ : ∃ e, f + i = e := ⟨_, rfl⟩
                    have heN : e < N2 := by omega
                    have heS : e < S2.length := by rw [HQ.out.len]; exact heN
                    obtain ⟨y, hy⟩ : ∃ y, S2[e]? = some y := ⟨S2[e], List.getElem?_eq_getElem heS⟩
                    have hel : (pkF S2 (max a r))[i]? = some ⟨(e : Int), y⟩ := by rw [HF.out, pkF_at, he, hy]; rfl
                    obtain ⟨gw, ow, p0, _, hA9, _⟩ := s0.rr.elem hlt2
                    obtain ⟨gs, os, y0, _, hB9, _⟩ := s1.rr.st heN
                    have qe : IntKind.i64.wrap ((f : Int) + (i : Int)) = (e : Int) := by rw [show (f : Int) + (i : Int) = (e : Int) by omega]; exact IntWalk.i64_in _ (by omega)
                    have qe2 : (f : Int) + (i : Int) = (e : Int) := by omega
                    have l7 : (e : Int) < (N2 : Int) := by omega
                    have l8 : (0 : Int) ≤ (e : Int) := by omega
                    have q10 : decide ((e : Int) ≥ (N2 : Int)) = false := by simp; omega
                    have q11 : decide ((N2 : Int) ≤ (e : Int)) = false := by simp; omega
                    have qy : (y.toList == y.toList) = true := beq_self_eq_true _
                    have qy' : (y.toList != y.toList) = false := by simp
                    subst hA9 hB9
                    have hr2 : wr.rangeAt gw (ow + i * 2) (pA ⟨(e : Int), y⟩).toList := RR.elemAt s0.rr hel rfl
                    clear he qe2 hel heS
                    go_wp2_with (first | ((with_reducible refine st_elem 30 _ gw (ow + i * 2) (pA ⟨(e : Int), y⟩) ?_ hr2 Try.underlying30 ?_ ?_ ?_); exact rfl; exact rfl; exact Try.zPk) | ((with_reducible refine st_alloc 30 (pA zeroP) ?_ ?_); exact zero_pk))
                    refine ⟨fun V501 g501 n501 f501 => ?_⟩
                    have ne501_o := f501.ne hcb
                    have no501_s0 := SO.fresh s0 (Nat.le_of_eq f501.at_)
                    have no501_s1 := SO.fresh s1 (Nat.le_of_eq f501.at_)
                    have up501 : w.heap.size ≤ g501 := f501.up hb
                    have bl501 := f501.bel
                    clear f501
                    have r502_s0 := SO.on s0 bl501
                    have r502_s1 := SO.on s1 bl501
                    have r503_o := le_on hcb bl501
                    have r503_l := (hl).on bl501
                    have r503_hd := (hm).on bl501
                    have l503 := le_tr hb bl501
                    clear hcb hl hm hb
                    clear s0 s1
                    clear bl501
                    go_wp2_with (first | ((with_reducible refine st_store 30 _ _ g501 (pA ⟨(e : Int), y⟩) ?_ ?_ n501 ?_ ?_ ?_ ?_); exact rfl; exact rfl; exact Try.zPk; exact rfl; exact pA_one _))
                    refine ⟨fun V504 n504 k504 => ?_⟩
                    have m504_o := k504.on r503_o ne501_o
                    have m504_l := (r503_l).wr k504 up501
                    have m504_hd := (r503_hd).wr k504 up501
                    have m504_s0 := SO.wr r502_s0 k504 no501_s0
                    have m504_s1 := SO.wr r502_s1 k504 no501_s1
                    have o504 := k504.bel _ _ l503 up501
                    clear k504
                    clear n501 r503_o r503_l r503_hd r502_s0 r502_s1 l503
                    go_wp2_with fail
                    have rr505 := (m504_s1).rr
                    have y506 := Lib.hid (show (fun V : World => CB V g501 30 (pA ⟨(e : Int), y⟩) ∧ RR V scl 1 (some ⟨gs, os, none⟩) N2 m116 S2) V504.drew from ⟨CB.drew n504, (rr505).drew⟩)
                    refine wp_region_held_drew (S := (fun V : World => CB V g501 30 (pA ⟨(e : Int), y⟩) ∧ RR V scl 1 (some ⟨gs, os, none⟩) N2 m116 S2)) (by kernel_rfl) y506.out (fun hHeld => ?_)
                    obtain ⟨D506, hD506⟩ : ∃ V, V504.drew = V := ⟨_, rfl⟩
                    have b506 : Below V504.heap.size V504 D506 := by rw [← hD506]; exact le_dr (Below.refl _ _)
                    rw [hD506] at hHeld ⊢
                    clear hD506
                    have r507_s0 := SO.on m504_s0 b506
                    have r507_s1 := SO.on m504_s1 b506
                    have r508_o := le_on m504_o b506
                    have r508_p := le_on n504 b506
                    have r508_l := (m504_l).on b506
                    have r508_hd := (m504_hd).on b506
                    have r508_sd := (rr505).on b506
                    have l508 := le_tr o504 b506
                    clear m504_o n504 m504_l m504_hd rr505 o504
                    clear m504_s0 m504_s1
                    clear b506
                    refine wpAnyH_takeL (i := 0) (d := some 108) (v := .int .i64 (f : Int)) rfl rfl (by kernel_rfl) (by kernel_rfl) (by kernel_rfl) (fun _ _ _ h => h) (Or.inl ⟨by rfl, ?_⟩) hHeld ?_
                    · intro w hSw; (try dsimp only at hSw); go_simp
                    try simp only [Act.put, List.setIfInBounds_toArray, List.set_cons_zero, List.set_cons_succ]
                    refine wpAnyH_takeL (i := 1) (d := some 109) (v := .int .i64 (i : Int)) rfl rfl (by kernel_rfl) (by kernel_rfl) (by kernel_rfl) (fun _ _ _ h => h) (Or.inl ⟨by rfl, ?_⟩) hHeld ?_
                    · intro w hSw; (try dsimp only at hSw); go_simp
                    try simp only [Act.put, List.setIfInBounds_toArray, List.set_cons_zero, List.set_cons_succ]
                    refine wpAnyH_takeL (i := 2) (d := some 110) (v := .int .i64 (e : Int)) rfl rfl (by kernel_rfl) (by kernel_rfl) (by kernel_rfl) (fun _ _ _ h => h) (Or.inl ⟨by rfl, ?_⟩) hHeld ?_
                    · intro w hSw; (try dsimp only at hSw); go_simp
                    try simp only [Act.put, List.setIfInBounds_toArray, List.set_cons_zero, List.set_cons_succ]
                    refine wpAnyH_takeL (i := 3) (d := some 111) (v := .slice (some ⟨gs, os, none⟩) N2 m116) rfl rfl (by kernel_rfl) (by kernel_rfl) (by kernel_rfl) (fun _ _ _ h => h) (Or.inl ⟨by rfl, ?_⟩) hHeld ?_
                    · intro w hSw; (try dsimp only at hSw); go_simp
                    try simp only [Act.put, List.setIfInBounds_toArray, List.set_cons_zero, List.set_cons_succ]
                    refine wpAnyH_takeL (i := 4) (d := some 112) (v := .int .i64 (N2 : Int)) rfl rfl (by kernel_rfl) (by kernel_rfl) (by kernel_rfl) (fun _ _ _ h => h) (Or.inl ⟨by rfl, ?_⟩) hHeld ?_
                    · intro w hSw; (try dsimp only at hSw); go_simp
                    try simp only [Act.put, List.setIfInBounds_toArray, List.set_cons_zero, List.set_cons_succ]
                    refine wpAnyH_takeL (i := 5) (d := some 113) (v := .bool false) rfl rfl (by kernel_rfl) (by kernel_rfl) (by kernel_rfl) (fun _ _ _ h => h) (Or.inl ⟨by rfl, ?_⟩) hHeld ?_
                    · intro w hSw; (try dsimp only at hSw); go_simp
                    try simp only [Act.put, List.setIfInBounds_toArray, List.set_cons_zero, List.set_cons_succ]
                    refine wpAnyH_takeL (i := 6) (d := some 114) (v := .bool false) rfl rfl (by kernel_rfl) (by kernel_rfl) (by kernel_rfl) (fun _ _ _ h => h) (Or.inl ⟨by rfl, ?_⟩) hHeld ?_
                    · intro w hSw; (try dsimp only at hSw); go_simp
                    try simp only [Act.put, List.setIfInBounds_toArray, List.set_cons_zero, List.set_cons_succ]
                    refine wpAnyH_takeL (i := 7) (d := some 115) (v := .pointer (some ⟨g501, 1, none⟩)) rfl rfl (by kernel_rfl) (by kernel_rfl) (by kernel_rfl) (fun _ _ _ h => h) (Or.inl ⟨by rfl, ?_⟩) hHeld ?_
                    · intro w hSw; (try dsimp only at hSw); go_simp
                    try simp only [Act.put, List.setIfInBounds_toArray, List.set_cons_zero, List.set_cons_succ]
                    refine wpAnyH_takeL (i := 8) (d := some 116) (v := .string y) rfl rfl (by kernel_rfl) (by kernel_rfl) (by kernel_rfl) (fun _ _ _ h => h) (Or.inl ⟨by rfl, ?_⟩) hHeld ?_
                    · intro w hSw; (try dsimp only at hSw); have hcc : w.cell? ⟨g501, 1, none⟩ = some (.string y) := CB.cell hSw.1 1; go_simp
                    try simp only [Act.put, List.setIfInBounds_toArray, List.set_cons_zero, List.set_cons_succ]
                    refine wpAnyH_takeL (i := 9) (d := some 117) (v := .slice (some ⟨gs, os, none⟩) N2 m116) rfl rfl (by kernel_rfl) (by kernel_rfl) (by kernel_rfl) (fun _ _ _ h => h) (Or.inl ⟨by rfl, ?_⟩) hHeld ?_
                    · intro w hSw; (try dsimp only at hSw); go_simp
                    try simp only [Act.put, List.setIfInBounds_toArray, List.set_cons_zero, List.set_cons_succ]
                    refine wpAnyH_takeL (i := 10) (d := some 118) (v := .int .i64 (f : Int)) rfl rfl (by kernel_rfl) (by kernel_rfl) (by kernel_rfl) (fun _ _ _ h => h) (Or.inl ⟨by rfl, ?_⟩) hHeld ?_
                    · intro w hSw; (try dsimp only at hSw); go_simp
                    try simp only [Act.put, List.setIfInBounds_toArray, List.set_cons_zero, List.set_cons_succ]
                    refine wpAnyH_takeL (i := 11) (d := some 119) (v := .int .i64 (i : Int)) rfl rfl (by kernel_rfl) (by kernel_rfl) (by kernel_rfl) (fun _ _ _ h => h) (Or.inl ⟨by rfl, ?_⟩) hHeld ?_
                    · intro w hSw; (try dsimp only at hSw); go_simp
                    try simp only [Act.put, List.setIfInBounds_toArray, List.set_cons_zero, List.set_cons_succ]
                    refine wpAnyH_takeL (i := 12) (d := some 120) (v := .int .i64 (e : Int)) rfl rfl (by kernel_rfl) (by kernel_rfl) (by kernel_rfl) (fun _ _ _ h => h) (Or.inl ⟨by rfl, ?_⟩) hHeld ?_
                    · intro w hSw; (try dsimp only at hSw); go_simp
                    try simp only [Act.put, List.setIfInBounds_toArray, List.set_cons_zero, List.set_cons_succ]
                    refine wpAnyH_takeL (i := 13) (d := some 121) (v := .pointer (some ⟨gs, os + e, none⟩)) rfl rfl (by kernel_rfl) (by kernel_rfl) (by kernel_rfl) (fun _ _ _ h => h) (Or.inl ⟨by rfl, ?_⟩) hHeld ?_
                    · intro w hSw; (try dsimp only at hSw); go_simp
                    try simp only [Act.put, List.setIfInBounds_toArray, List.set_cons_zero, List.set_cons_succ]
                    refine wpAnyH_takeL (i := 14) (d := some 122) (v := .string y) rfl rfl (by kernel_rfl) (by kernel_rfl) (by kernel_rfl) (fun _ _ _ h => h) (Or.inl ⟨by rfl, ?_⟩) hHeld ?_
                    · intro w hSw; have hcc := RR.stAt hSw.2 hy rfl; go_simp
                    try simp only [Act.put, List.setIfInBounds_toArray, List.set_cons_zero, List.set_cons_succ]
                    refine wpAnyH_takeL (i := 15) (d := some 123) (v := .bool false) rfl rfl (by kernel_rfl) (by kernel_rfl) (by kernel_rfl) (fun _ _ _ h => h) (Or.inl ⟨by rfl, ?_⟩) hHeld ?_
                    · intro w hSw; (try dsimp only at hSw); go_simp
                    try simp only [Act.put, List.setIfInBounds_toArray, List.set_cons_zero, List.set_cons_succ]
                    refine wpAnyH_takeL (i := 16) (d := some 124) (v := .bool false) rfl rfl (by kernel_rfl) (by kernel_rfl) (by kernel_rfl) (fun _ _ _ h => h) (Or.inl ⟨by rfl, ?_⟩) hHeld ?_
                    · intro w hSw; (try dsimp only at hSw); go_simp
                    try simp only [Act.put, List.setIfInBounds_toArray, List.set_cons_zero, List.set_cons_succ]
                    refine wpAnyH_done (by kernel_rfl) ?_ _
                    go_wp2_with fail
                    go_roundw
                    case rel => exact ⟨i + 1, by omega, by go_num, r508_o, r507_s0, r507_s1, r508_l, r508_hd, l508⟩
                    case measure => simp [intOf]; omega
                  obtain rfl : i = ny := by omega
                  clear hlt2
                  go_wp2_with fail
                  go_roundw
                  case rel => exact ⟨k + 1, (max a r), N2, i, S2, A8, c8, G8, B116, m116, q116, by omega, by go_num, rfl, hcb, s0, s1, hl, hm, hb, HQ⟩
                  case measure => simp [intOf]; omega
              have q4 : decide ((k : Int) < (nh : Int)) = false := by simp; omega
              have q4n : decide (k < nh) = false := by simp; omega
              have l3 : ¬ (k : Int) < (nh : Int) := by omega
              obtain ⟨f, hf⟩ : ∃ f : Nat, a = f := ⟨_, rfl⟩
              have HF := Lib.hid hf
              have hq9 := HQ1.out.sum
              have hq8 := HQ1.out.few
              have hq7 := HQ1.out.up
              rw [hf] at hq9
              have q8 : IntKind.i64.wrap ((N2 : Int) - (m2 : Int)) = (f : Int) := by rw [show (N2 : Int) - (m2 : Int) = (f : Int) by omega]; exact IntWalk.i64_in _ (by omega)
              have q9 : (N2 : Int) - (m2 : Int) = (f : Int) := by omega
              clear hf
              clear m117_x
              clear m117_p
              clear m117_z
              have c118 : V117.cell? ⟨go, 0, none⟩ = some (.int .i64 (N2 : Int)) := CB.cell cbo 0
              have c119 : V117.cell? ⟨go, 1, none⟩ = some (.slice A9 m2 c9) := CB.cell cbo 1
              go_wp2_with fail
              clear c118 c119
              go_loopw [103] (fun iv wi => ∃ i : Nat, i ≤ m2 ∧ iv = .int .i64 i ∧ CB wi go 39 (oA ⟨(N2 : Int), A9, m2, c9, 100⟩) ∧ SO w.heap.size wi 30 pcl 2 A9 m2 c9 (pkF S2 a) G9 ∧ SO w.heap.size wi 9 scl 1 B116 N2 m116 S2 q116 ∧ RL w wi scl 1 (some ⟨ga, ofa, none⟩) n c L ∧ RL w wi ucl 1 Ah nh ch M ∧ Below w.heap.size w wi) (fun iv _ => m2 - (intOf iv).toNat)
              case atStart => exact ⟨0, by omega, rfl, cbo, z0, z1, m117_l, m117_hd, o117⟩
              case round =>
                clear cbo z0 z1 m117_l m117_hd o117
                obtain ⟨i, hi, rfl, hcb, s0, s1, hl, hm, hb⟩ := hrel
                by_cases hlt2 : i < m2
                · have l5 : (i : Int) < (m2 : Int) := by omega
                  have no0 := SO.noT s0 hcb (by decide)
                  have no1 := SO.noT s1 hcb (by decide)
                  have l6 : (0 : Int) ≤ (i : Int) := by omega
                  obtain ⟨e, he⟩ : ∃ e, f + i = e := ⟨_, rfl⟩
                  have heN : e < N2 := by omega
                  have heS : e < S2.length := by rw [HQ1.out.len]; exact heN
                  obtain ⟨y, hy⟩ : ∃ y, S2[e]? = some y := ⟨S2[e], List.getElem?_eq_getElem heS⟩
                  have hel : (pkF S2 a)[i]? = some ⟨(e : Int), y⟩ := by rw [HF.out, pkF_at, he, hy]; rfl
                  obtain ⟨gw, ow, p0, _, hA9, _⟩ := s0.rr.elem hlt2
                  obtain ⟨gs, os, y0, _, hB9, _⟩ := s1.rr.st heN
                  have qe : IntKind.i64.wrap ((f : Int) + (i : Int)) = (e : Int) := by rw [show (f : Int) + (i : Int) = (e : Int) by omega]; exact IntWalk.i64_in _ (by omega)
                  have qe2 : (f : Int) + (i : Int) = (e : Int) := by omega
                  have l7 : (e : Int) < (N2 : Int) := by omega
                  have l8 : (0 : Int) ≤ (e : Int) := by omega
                  have q10 : decide ((e : Int) ≥ (N2 : Int)) = false := by simp; omega
                  have q11 : decide ((N2 : Int) ≤ (e : Int)) = false := by simp; omega
                  have qy : (y.toList == y.toList) = true := beq_self_eq_true _
                  have qy' : (y.toList != y.toList) = false := by simp
                  subst hA9 hB9
                  have hr2 : wr.rangeAt gw (ow + i * 2) (pA ⟨(e : Int), y⟩).toList := RR.elemAt s0.rr hel rfl
                  clear he qe2 hel heS
                  go_wp2_with (first | ((with_reducible refine st_elem 30 _ gw (ow + i * 2) (pA ⟨(e : Int), y⟩) ?_ hr2 Try.underlying30 ?_ ?_ ?_); exact rfl; exact rfl; exact Try.zPk) | ((with_reducible refine st_alloc 30 (pA zeroP) ?_ ?_); exact zero_pk))
                  refine ⟨fun V501 g501 n501 f501 => ?_⟩
                  have ne501_o := f501.ne hcb
                  have no501_s0 := SO.fresh s0 (Nat.le_of_eq f501.at_)
                  have no501_s1 := SO.fresh s1 (Nat.le_of_eq f501.at_)
                  have up501 : w.heap.size ≤ g501 := f501.up hb
                  have bl501 := f501.bel
                  clear f501
                  have r502_s0 := SO.on s0 bl501
                  have r502_s1 := SO.on s1 bl501
                  have r503_o := le_on hcb bl501
                  have r503_l := (hl).on bl501
                  have r503_hd := (hm).on bl501
                  have l503 := le_tr hb bl501
                  clear hcb hl hm hb
                  clear s0 s1
                  clear bl501
                  go_wp2_with (first | ((with_reducible refine st_store 30 _ _ g501 (pA ⟨(e : Int), y⟩) ?_ ?_ n501 ?_ ?_ ?_ ?_); exact rfl; exact rfl; exact Try.zPk; exact rfl; exact pA_one _))
                  refine ⟨fun V504 n504 k504 => ?_⟩
                  have m504_o := k504.on r503_o ne501_o
                  have m504_l := (r503_l).wr k504 up501
                  have m504_hd := (r503_hd).wr k504 up501
                  have m504_s0 := SO.wr r502_s0 k504 no501_s0
                  have m504_s1 := SO.wr r502_s1 k504 no501_s1
                  have o504 := k504.bel _ _ l503 up501
                  clear k504
                  clear n501 r503_o r503_l r503_hd r502_s0 r502_s1 l503
                  go_wp2_with fail
                  have rr505 := (m504_s1).rr
                  have y506 := Lib.hid (show (fun V : World => CB V g501 30 (pA ⟨(e : Int), y⟩) ∧ RR V scl 1 (some ⟨gs, os, none⟩) N2 m116 S2) V504.drew from ⟨CB.drew n504, (rr505).drew⟩)
                  refine wp_region_held_drew (S := (fun V : World => CB V g501 30 (pA ⟨(e : Int), y⟩) ∧ RR V scl 1 (some ⟨gs, os, none⟩) N2 m116 S2)) (by kernel_rfl) y506.out (fun hHeld => ?_)
                  obtain ⟨D506, hD506⟩ : ∃ V, V504.drew = V := ⟨_, rfl⟩
                  have b506 : Below V504.heap.size V504 D506 := by rw [← hD506]; exact le_dr (Below.refl _ _)
                  rw [hD506] at hHeld ⊢
                  clear hD506
                  have r507_s0 := SO.on m504_s0 b506
                  have r507_s1 := SO.on m504_s1 b506
                  have r508_o := le_on m504_o b506
                  have r508_p := le_on n504 b506
                  have r508_l := (m504_l).on b506
                  have r508_hd := (m504_hd).on b506
                  have r508_sd := (rr505).on b506
                  have l508 := le_tr o504 b506
                  clear m504_o n504 m504_l m504_hd rr505 o504
                  clear m504_s0 m504_s1
                  clear b506
                  refine wpAnyH_takeL (i := 0) (d := some 108) (v := .int .i64 (f : Int)) rfl rfl (by kernel_rfl) (by kernel_rfl) (by kernel_rfl) (fun _ _ _ h => h) (Or.inl ⟨by rfl, ?_⟩) hHeld ?_
                  · intro w hSw; (try dsimp only at hSw); go_simp
                  try simp only [Act.put, List.setIfInBounds_toArray, List.set_cons_zero, List.set_cons_succ]
                  refine wpAnyH_takeL (i := 1) (d := some 109) (v := .int .i64 (i : Int)) rfl rfl (by kernel_rfl) (by kernel_rfl) (by kernel_rfl) (fun _ _ _ h => h) (Or.inl ⟨by rfl, ?_⟩) hHeld ?_
                  · intro w hSw; (try dsimp only at hSw); go_simp
                  try simp only [Act.put, List.setIfInBounds_toArray, List.set_cons_zero, List.set_cons_succ]
                  refine wpAnyH_takeL (i := 2) (d := some 110) (v := .int .i64 (e : Int)) rfl rfl (by kernel_rfl) (by kernel_rfl) (by kernel_rfl) (fun _ _ _ h => h) (Or.inl ⟨by rfl, ?_⟩) hHeld ?_
                  · intro w hSw; (try dsimp only at hSw); go_simp
                  try simp only [Act.put, List.setIfInBounds_toArray, List.set_cons_zero, List.set_cons_succ]
                  refine wpAnyH_takeL (i := 3) (d := some 111) (v := .slice (some ⟨gs, os, none⟩) N2 m116) rfl rfl (by kernel_rfl) (by kernel_rfl) (by kernel_rfl) (fun _ _ _ h => h) (Or.inl ⟨by rfl, ?_⟩) hHeld ?_
                  · intro w hSw; (try dsimp only at hSw); go_simp
                  try simp only [Act.put, List.setIfInBounds_toArray, List.set_cons_zero, List.set_cons_succ]
                  refine wpAnyH_takeL (i := 4) (d := some 112) (v := .int .i64 (N2 : Int)) rfl rfl (by kernel_rfl) (by kernel_rfl) (by kernel_rfl) (fun _ _ _ h => h) (Or.inl ⟨by rfl, ?_⟩) hHeld ?_
                  · intro w hSw; (try dsimp only at hSw); go_simp
                  try simp only [Act.put, List.setIfInBounds_toArray, List.set_cons_zero, List.set_cons_succ]
                  refine wpAnyH_takeL (i := 5) (d := some 113) (v := .bool false) rfl rfl (by kernel_rfl) (by kernel_rfl) (by kernel_rfl) (fun _ _ _ h => h) (Or.inl ⟨by rfl, ?_⟩) hHeld ?_
                  · intro w hSw; (try dsimp only at hSw); go_simp
                  try simp only [Act.put, List.setIfInBounds_toArray, List.set_cons_zero, List.set_cons_succ]
                  refine wpAnyH_takeL (i := 6) (d := some 114) (v := .bool false) rfl rfl (by kernel_rfl) (by kernel_rfl) (by kernel_rfl) (fun _ _ _ h => h) (Or.inl ⟨by rfl, ?_⟩) hHeld ?_
                  · intro w hSw; (try dsimp only at hSw); go_simp
                  try simp only [Act.put, List.setIfInBounds_toArray, List.set_cons_zero, List.set_cons_succ]
                  refine wpAnyH_takeL (i := 7) (d := some 115) (v := .pointer (some ⟨g501, 1, none⟩)) rfl rfl (by kernel_rfl) (by kernel_rfl) (by kernel_rfl) (fun _ _ _ h => h) (Or.inl ⟨by rfl, ?_⟩) hHeld ?_
                  · intro w hSw; (try dsimp only at hSw); go_simp
                  try simp only [Act.put, List.setIfInBounds_toArray, List.set_cons_zero, List.set_cons_succ]
                  refine wpAnyH_takeL (i := 8) (d := some 116) (v := .string y) rfl rfl (by kernel_rfl) (by kernel_rfl) (by kernel_rfl) (fun _ _ _ h => h) (Or.inl ⟨by rfl, ?_⟩) hHeld ?_
                  · intro w hSw; (try dsimp only at hSw); have hcc : w.cell? ⟨g501, 1, none⟩ = some (.string y) := CB.cell hSw.1 1; go_simp
                  try simp only [Act.put, List.setIfInBounds_toArray, List.set_cons_zero, List.set_cons_succ]
                  refine wpAnyH_takeL (i := 9) (d := some 117) (v := .slice (some ⟨gs, os, none⟩) N2 m116) rfl rfl (by kernel_rfl) (by kernel_rfl) (by kernel_rfl) (fun _ _ _ h => h) (Or.inl ⟨by rfl, ?_⟩) hHeld ?_
                  · intro w hSw; (try dsimp only at hSw); go_simp
                  try simp only [Act.put, List.setIfInBounds_toArray, List.set_cons_zero, List.set_cons_succ]
                  refine wpAnyH_takeL (i := 10) (d := some 118) (v := .int .i64 (f : Int)) rfl rfl (by kernel_rfl) (by kernel_rfl) (by kernel_rfl) (fun _ _ _ h => h) (Or.inl ⟨by rfl, ?_⟩) hHeld ?_
                  · intro w hSw; (try dsimp only at hSw); go_simp
                  try simp only [Act.put, List.setIfInBounds_toArray, List.set_cons_zero, List.set_cons_succ]
                  refine wpAnyH_takeL (i := 11) (d := some 119) (v := .int .i64 (i : Int)) rfl rfl (by kernel_rfl) (by kernel_rfl) (by kernel_rfl) (fun _ _ _ h => h) (Or.inl ⟨by rfl, ?_⟩) hHeld ?_
                  · intro w hSw; (try dsimp only at hSw); go_simp
                  try simp only [Act.put, List.setIfInBounds_toArray, List.set_cons_zero, List.set_cons_succ]
                  refine wpAnyH_takeL (i := 12) (d := some 120) (v := .int .i64 (e : Int)) rfl rfl (by kernel_rfl) (by kernel_rfl) (by kernel_rfl) (fun _ _ _ h => h) (Or.inl ⟨by rfl, ?_⟩) hHeld ?_
                  · intro w hSw; (try dsimp only at hSw); go_simp
                  try simp only [Act.put, List.setIfInBounds_toArray, List.set_cons_zero, List.set_cons_succ]
                  refine wpAnyH_takeL (i := 13) (d := some 121) (v := .pointer (some ⟨gs, os + e, none⟩)) rfl rfl (by kernel_rfl) (by kernel_rfl) (by kernel_rfl) (fun _ _ _ h => h) (Or.inl ⟨by rfl, ?_⟩) hHeld ?_
                  · intro w hSw; (try dsimp only at hSw); go_simp
                  try simp only [Act.put, List.setIfInBounds_toArray, List.set_cons_zero, List.set_cons_succ]
                  refine wpAnyH_takeL (i := 14) (d := some 122) (v := .string y) rfl rfl (by kernel_rfl) (by kernel_rfl) (by kernel_rfl) (fun _ _ _ h => h) (Or.inl ⟨by rfl, ?_⟩) hHeld ?_
                  · intro w hSw; have hcc := RR.stAt hSw.2 hy rfl; go_simp
                  try simp only [Act.put, List.setIfInBounds_toArray, List.set_cons_zero, List.set_cons_succ]
                  refine wpAnyH_takeL (i := 15) (d := some 123) (v := .bool false) rfl rfl (by kernel_rfl) (by kernel_rfl) (by kernel_rfl) (fun _ _ _ h => h) (Or.inl ⟨by rfl, ?_⟩) hHeld ?_
                  · intro w hSw; (try dsimp only at hSw); go_simp
                  try simp only [Act.put, List.setIfInBounds_toArray, List.set_cons_zero, List.set_cons_succ]
                  refine wpAnyH_takeL (i := 16) (d := some 124) (v := .bool false) rfl rfl (by kernel_rfl) (by kernel_rfl) (by kernel_rfl) (fun _ _ _ h => h) (Or.inl ⟨by rfl, ?_⟩) hHeld ?_
                  · intro w hSw; (try dsimp only at hSw); go_simp
                  try simp only [Act.put, List.setIfInBounds_toArray, List.set_cons_zero, List.set_cons_succ]
                  refine wpAnyH_done (by kernel_rfl) ?_ _
                  go_wp2_with fail
                  go_roundw
                  case rel => exact ⟨i + 1, by omega, by go_num, r508_o, r507_s0, r507_s1, r508_l, r508_hd, l508⟩
                  case measure => simp [intOf]; omega
                obtain rfl : i = m2 := by omega
                clear hlt2
                go_wp2_with fail
                go_roundw
                case rel => exact ⟨k + 1, a, N2, i, S2, A9, c9, G9, B116, m116, q116, by omega, by go_num, rfl, hcb, s0, s1, hl, hm, hb, HQ1⟩
                case measure => simp [intOf]; omega
            obtain ⟨kk, hkk⟩ : ∃ kk, eSay ⟨(N : Int), pkF S a, 100⟩ x = kk := ⟨_, rfl⟩
            have hl0 : ((pkF S a).length : Int) = (n0 : Int) := by rw [s0.len]
            have hk0 : ¬ kk = 0 := by
              by_cases h5 : 500 < x.size
              · rw [← hkk, say_3 HR.out (.inl h5)]; decide
              · rw [← hkk, say_6 HR.out (by simp only; omega) (by simp only; omega)]; decide
            have S1 := fun V (h : RR V pcl 2 A0 n0 c0 (pkF S a)) => say_n (N : Int) A0 n0 c0 (pkF S a) 100 x V h HR.out kk hkk hk0
            have q12 : ((kk : Int) == 0) = false := by simp [hk0]
            have HQ1 := Lib.hid HP.out.next
            have HR2 := HR
            clear hkk hk0 hok hl0
            go_wp2_with (first | ((with_reducible refine st_load 39 _ go ?_ hcb Try.underlying39 ?_ ?_ ?_); exact rfl; exact rfl; exact Try.zOu))
            have lt101_o := CB.lt hcb
            have lb101 : w.heap.size ≤ wr.heap.size := Below.size (B := w.heap.size) hb
            (with_reducible refine (S1 _ (s0).rr).mono ?_)
            rintro e w101 ⟨A9, c9, G9, rfl, so9, b101⟩
            clear cx
            have r102_s0 := SO.on s0 b101
            have r102_s1 := SO.on s1 b101
            have r103_o := le_on hcb b101
            have r103_l := (hl).on b101
            have r103_hd := (hm).on b101
            have l103 := le_tr hb b101
            clear hcb hl hm hb
            clear s0 s1
            clear b101
            have na104 := SO.above so9 lt101_o
            have sm101_s9 := SO.mono so9 lb101
            clear so9
            clear lb101 lt101_o
            go_wp2_with (first | ((with_reducible refine st_alloc 39 (oA zeroO) ?_ ?_); exact zero_ou))
            refine ⟨fun V105 g105 n105 f105 => ?_⟩
            have ne105_o := f105.ne r103_o
            have no105_s0 := SO.fresh r102_s0 (Nat.le_of_eq f105.at_)
            have no105_s1 := SO.fresh r102_s1 (Nat.le_of_eq f105.at_)
            have no105_s9 := SO.fresh sm101_s9 (Nat.le_of_eq f105.at_)
            have up105 : w.heap.size ≤ g105 := f105.up l103
            have bl105 := f105.bel
            clear f105
            have r106_s0 := SO.on r102_s0 bl105
            have r106_s1 := SO.on r102_s1 bl105
            have r106_s9 := SO.on sm101_s9 bl105
            have r107_o := le_on r103_o bl105
            have r107_l := (r103_l).on bl105
            have r107_hd := (r103_hd).on bl105
            have l107 := le_tr l103 bl105
            clear r103_o r103_l r103_hd l103
            clear r102_s0 r102_s1 sm101_s9
            clear bl105
            go_wp2_with (first | ((with_reducible refine st_alloc 30 (pA zeroP) ?_ ?_); exact zero_pk))
            refine ⟨fun V108 g108 n108 f108 => ?_⟩
            have ne108_o := f108.ne r107_o
            have ne108_x := f108.ne n105
            have no108_s0 := SO.fresh r106_s0 (Nat.le_of_eq f108.at_)
            have no108_s1 := SO.fresh r106_s1 (Nat.le_of_eq f108.at_)
            have no108_s9 := SO.fresh r106_s9 (Nat.le_of_eq f108.at_)
            have up108 : w.heap.size ≤ g108 := f108.up l107
            have bl108 := f108.bel
            clear f108
            have r109_s0 := SO.on r106_s0 bl108
            have r109_s1 := SO.on r106_s1 bl108
            have r109_s9 := SO.on r106_s9 bl108
            have r110_o := le_on r107_o bl108
            have r110_x := le_on n105 bl108
            have r110_l := (r107_l).on bl108
            have r110_hd := (r107_hd).on bl108
            have l110 := le_tr l107 bl108
            clear r107_o n105 r107_l r107_hd l107
            clear r106_s0 r106_s1 r106_s9
            clear bl108
            go_wp2_with (first | ((with_reducible refine st_store 39 _ _ g105 (oA ⟨(N : Int), A9, n0, c9, 100⟩) ?_ ?_ r110_x ?_ ?_ ?_ ?_); exact rfl; exact rfl; exact Try.zOu; exact rfl; exact oA_one _))
            refine ⟨fun V111 n111 k111 => ?_⟩
            have m111_o := k111.on r110_o ne105_o
            have m111_p := k111.on n108 (Ne.symm ne108_x)
            have m111_l := (r110_l).wr k111 up105
            have m111_hd := (r110_hd).wr k111 up105
            have m111_s0 := SO.wr r109_s0 k111 no105_s0
            have m111_s1 := SO.wr r109_s1 k111 no105_s1
            have m111_s9 := SO.wr r109_s9 k111 no105_s9
            have o111 := k111.bel _ _ l110 up105
            clear k111
            clear r110_x r110_o n108 r110_l r110_hd r109_s0 r109_s1 r109_s9 l110
            go_wp2_with (first | ((with_reducible refine st_store 30 _ _ g108 (pA zeroP) ?_ ?_ m111_p ?_ ?_ ?_ ?_); exact rfl; exact rfl; exact Try.zPk; exact rfl; exact pA_one _))
            refine ⟨fun V112 n112 k112 => ?_⟩
            have m112_o := k112.on m111_o ne108_o
            have m112_x := k112.on n111 ne108_x
            have m112_l := (m111_l).wr k112 up108
            have m112_hd := (m111_hd).wr k112 up108
            have m112_s0 := SO.wr m111_s0 k112 no108_s0
            have m112_s1 := SO.wr m111_s1 k112 no108_s1
            have m112_s9 := SO.wr m111_s9 k112 no108_s9
            have o112 := k112.bel _ _ o111 up108
            clear k112
            clear m111_p m111_o n111 m111_l m111_hd m111_s0 m111_s1 m111_s9 o111
            go_wp2_with (first | ((with_reducible refine st_load 39 _ g105 ?_ m112_x Try.underlying39 ?_ ?_ ?_); exact rfl; exact rfl; exact Try.zOu) | ((with_reducible refine st_store 39 _ _ go (oA ⟨(N : Int), A9, n0, c9, 100⟩) ?_ ?_ m112_o ?_ ?_ ?_ ?_); exact rfl; exact rfl; exact Try.zOu; exact rfl; exact oA_one _))
            refine ⟨fun V113 n113 k113 => ?_⟩
            have m113_x := k113.on m112_x (Ne.symm ne105_o)
            have m113_p := k113.on n112 (Ne.symm ne108_o)
            have m113_l := (m112_l).wr k113 hup
            have m113_hd := (m112_hd).wr k113 hup
            have m113_s0 := SO.wr m112_s0 k113 no0
            have m113_s1 := SO.wr m112_s1 k113 no1
            have m113_s9 := SO.wr m112_s9 k113 na104
            have o113 := k113.bel _ _ o112 hup
            clear k113
            clear m112_o m112_x n112 m112_l m112_hd m112_s0 m112_s1 m112_s9 o112
            clear m113_s0 no0 no105_s0 no108_s0
            by_cases hkh : k < nh
            · have q4 : decide ((k : Int) < (nh : Int)) = true := by simp; omega
              obtain ⟨gh, oh, u, hu, hAh, _⟩ := m113_hd.rr.ub hkh
              obtain ⟨r, hr⟩ : ∃ r, u % (N + 1) = r := ⟨_, rfl⟩
              have hr1 : r ≤ N := by have := Nat.mod_lt u (show 0 < N + 1 by omega); omega
              have qr : (u : Int).tmod ((N : Int) + 1) = (r : Int) := (tmod_nat u (N + 1)).trans (by rw [hr])
              have hu8 : u < 256 := HB.out u (List.mem_of_getElem? hu)
              have qu : IntKind.i64.wrap (u : Int) = (u : Int) := IntWalk.i64_in _ (by omega)
              have qN : IntKind.i64.wrap ((N : Int) + 1) = (N : Int) + 1 := IntWalk.i64_in _ (by omega)
              have qz : ¬ ((N : Int) + 1 = 0) := by omega
              have l3 : (k : Int) < (nh : Int) := by omega
              subst hAh
              clear hr
              go_wp2_with fail
              have y114 := Lib.hid (show (fun V : World => CB V go 39 (oA ⟨(N : Int), A9, n0, c9, 100⟩) ∧ RL w V ucl 1 (some ⟨gh, oh, none⟩) nh ch M) V113.drew from ⟨CB.drew n113, (m113_hd).drew⟩)
              refine wp_region_held_drew (S := (fun V : World => CB V go 39 (oA ⟨(N : Int), A9, n0, c9, 100⟩) ∧ RL w V ucl 1 (some ⟨gh, oh, none⟩) nh ch M)) (by kernel_rfl) y114.out (fun hHeld => ?_)
              obtain ⟨D114, hD114⟩ : ∃ V, V113.drew = V := ⟨_, rfl⟩
              have b114 : Below V113.heap.size V113 D114 := by rw [← hD114]; exact le_dr (Below.refl _ _)
              rw [hD114] at hHeld ⊢
              clear hD114
              have r115_s1 := SO.on m113_s1 b114
              have r115_s9 := SO.on m113_s9 b114
              have r116_o := le_on n113 b114
              have r116_x := le_on m113_x b114
              have r116_p := le_on m113_p b114
              have r116_l := (m113_l).on b114
              have r116_hd := (m113_hd).on b114
              have l116 := le_tr o113 b114
              clear n113 m113_x m113_p m113_l m113_hd o113
              clear m113_s1 m113_s9
              clear b114
              refine wpAnyH_takeL (i := 0) (d := some 57) (v := .slice (some ⟨gh, oh, none⟩) nh ch) rfl rfl (by kernel_rfl) (by kernel_rfl) (by kernel_rfl) (fun _ _ _ h => h) (Or.inl ⟨by rfl, ?_⟩) hHeld ?_
              · intro w hSw; (try dsimp only at hSw); go_simp
              try simp only [Act.put, List.setIfInBounds_toArray, List.set_cons_zero, List.set_cons_succ]
              refine wpAnyH_takeL (i := 1) (d := some 58) (v := .int .i64 (k : Int)) rfl rfl (by kernel_rfl) (by kernel_rfl) (by kernel_rfl) (fun _ _ _ h => h) (Or.inl ⟨by rfl, ?_⟩) hHeld ?_
              · intro w hSw; (try dsimp only at hSw); go_simp
              try simp only [Act.put, List.setIfInBounds_toArray, List.set_cons_zero, List.set_cons_succ]
              refine wpAnyH_takeL (i := 2) (d := some 59) (v := .pointer (some ⟨gh, oh + k, none⟩)) rfl rfl (by kernel_rfl) (by kernel_rfl) (by kernel_rfl) (fun _ _ _ h => h) (Or.inl ⟨by rfl, ?_⟩) hHeld ?_
              · intro w hSw; (try dsimp only at hSw); go_simp
              try simp only [Act.put, List.setIfInBounds_toArray, List.set_cons_zero, List.set_cons_succ]
              refine wpAnyH_takeL (i := 3) (d := some 60) (v := .int .u8 (u : Int)) rfl rfl (by kernel_rfl) (by kernel_rfl) (by kernel_rfl) (fun _ _ _ h => h) (Or.inl ⟨by rfl, ?_⟩) hHeld ?_
              · intro w hSw; have hcc := RR.ubAt hSw.2.rr hu rfl; go_simp
              try simp only [Act.put, List.setIfInBounds_toArray, List.set_cons_zero, List.set_cons_succ]
              refine wpAnyH_takeL (i := 4) (d := some 61) (v := .int .i64 (u : Int)) rfl rfl (by kernel_rfl) (by kernel_rfl) (by kernel_rfl) (fun _ _ _ h => h) (Or.inl ⟨by rfl, ?_⟩) hHeld ?_
              · intro w hSw; (try dsimp only at hSw); go_simp
              try simp only [Act.put, List.setIfInBounds_toArray, List.set_cons_zero, List.set_cons_succ]
              refine wpAnyH_takeL (i := 5) (d := some 62) (v := .pointer (some ⟨go, 0, none⟩)) rfl rfl (by kernel_rfl) (by kernel_rfl) (by kernel_rfl) (fun _ _ _ h => h) (Or.inl ⟨by rfl, ?_⟩) hHeld ?_
              · intro w hSw; (try dsimp only at hSw); go_simp
              try simp only [Act.put, List.setIfInBounds_toArray, List.set_cons_zero, List.set_cons_succ]
              refine wpAnyH_takeL (i := 6) (d := some 63) (v := .int .i64 (N : Int)) rfl rfl (by kernel_rfl) (by kernel_rfl) (by kernel_rfl) (fun _ _ _ h => h) (Or.inl ⟨by rfl, ?_⟩) hHeld ?_
              · intro w hSw; (try dsimp only at hSw); have hcc : w.cell? ⟨go, 0, none⟩ = some (.int .i64 (N : Int)) := CB.cell hSw.1 0; go_simp
              try simp only [Act.put, List.setIfInBounds_toArray, List.set_cons_zero, List.set_cons_succ]
              refine wpAnyH_takeL (i := 7) (d := some 64) (v := .int .i64 ((N : Int) + 1)) rfl rfl (by kernel_rfl) (by kernel_rfl) (by kernel_rfl) (fun _ _ _ h => h) (Or.inl ⟨by rfl, ?_⟩) hHeld ?_
              · intro w hSw; (try dsimp only at hSw); go_simp
              try simp only [Act.put, List.setIfInBounds_toArray, List.set_cons_zero, List.set_cons_succ]
              refine wpAnyH_takeL (i := 8) (d := some 65) (v := .int .i64 (r : Int)) rfl rfl (by kernel_rfl) (by kernel_rfl) (by kernel_rfl) (fun _ _ _ h => h) (Or.inl ⟨by rfl, ?_⟩) hHeld ?_
              · intro w hSw; (try dsimp only at hSw); go_simp
              try simp only [Act.put, List.setIfInBounds_toArray, List.set_cons_zero, List.set_cons_succ]
              refine wpAnyH_takeL (i := 9) (d := some 12) (v := .int .i64 (r : Int)) rfl rfl (by kernel_rfl) (by kernel_rfl) (by kernel_rfl) (fun _ _ _ h => h) (Or.inl ⟨by rfl, ?_⟩) hHeld ?_
              · intro w hSw; (try dsimp only at hSw); go_simp
              try simp only [Act.put, List.setIfInBounds_toArray, List.set_cons_zero, List.set_cons_succ]
              refine wpAnyH_done (by kernel_rfl) ?_ _
              have hM : (pkF S a).filter (fun p => decide ((r : Int) ≤ p.seq)) = pkF S (max a r) := pkF_ack (by have := HQ1.out.len; have := HQ1.out.sum; omega)
              have K1 := fun V (z : RR V pcl 2 A9 n0 c9 (pkF S a)) => ack_y (N : Int) A9 n0 c9 (pkF S a) 100 (r : Int) V z HR2.out (by omega) (by omega) (pkF S (max a r)) hM
              obtain ⟨ny, hny⟩ : ∃ ny, (pkF S (max a r)).length = ny := ⟨_, rfl⟩
              rw [hny] at K1
              have HQ := Lib.hid (HQ1.out.ack hr1 hny)
              have hq1 := HQ.out.sum
              have hq0 := HQ1.out.sum
              have q5 : decide ((n0 : Int) < (ny : Int)) = false := by simp; omega
              have q5' : decide ((ny : Int) > (n0 : Int)) = false := by simp; omega
              have q6 : IntKind.i64.wrap ((N : Int) - (r : Int)) = (N : Int) - (r : Int) := IntWalk.i64_in _ (by omega)
              have q7 : decide ((N : Int) - (r : Int) < (ny : Int)) = false := by simp; omega
              have q7' : decide ((ny : Int) > (N : Int) - (r : Int)) = false := by simp; omega
              clear hM hny
              go_wp2_with (first | ((with_reducible refine st_load 39 _ go ?_ r116_o Try.underlying39 ?_ ?_ ?_); exact rfl; exact rfl; exact Try.zOu))
              have lt117_o := CB.lt r116_o
              have lt117_x := CB.lt r116_x
              have lt117_p := CB.lt r116_p
              have lb117 : w.heap.size ≤ D114.heap.size := Below.size (B := w.heap.size) l116
              (with_reducible refine (K1 _ (r115_s9).rr).mono ?_)
              rintro e w117 ⟨A8, c8, G8, rfl, so8, b117⟩
              have r118_s1 := SO.on r115_s1 b117
              have r118_s9 := SO.on r115_s9 b117
              have r119_o := le_on r116_o b117
              have r119_x := le_on r116_x b117
              have r119_p := le_on r116_p b117
              have r119_l := (r116_l).on b117
              have r119_hd := (r116_hd).on b117
              have l119 := le_tr l116 b117
              clear r116_o r116_x r116_p r116_l r116_hd l116
              clear r115_s1 r115_s9
              clear b117
              have na120 := SO.above so8 lt117_o
              have na121 := SO.above so8 lt117_x
              have na122 := SO.above so8 lt117_p
              have sm117_s8 := SO.mono so8 lb117
              clear so8
              clear lb117 lt117_o lt117_x lt117_p
              go_wp2_with (first | ((with_reducible refine st_alloc 39 (oA zeroO) ?_ ?_); exact zero_ou))
              refine ⟨fun V123 g123 n123 f123 => ?_⟩
              have ne123_o := f123.ne r119_o
              have ne123_x := f123.ne r119_x
              have ne123_p := f123.ne r119_p
              have no123_s1 := SO.fresh r118_s1 (Nat.le_of_eq f123.at_)
              have no123_s9 := SO.fresh r118_s9 (Nat.le_of_eq f123.at_)
              have no123_s8 := SO.fresh sm117_s8 (Nat.le_of_eq f123.at_)
              have up123 : w.heap.size ≤ g123 := f123.up l119
              have bl123 := f123.bel
              clear f123
              have r124_s1 := SO.on r118_s1 bl123
              have r124_s9 := SO.on r118_s9 bl123
              have r124_s8 := SO.on sm117_s8 bl123
              have r125_o := le_on r119_o bl123
              have r125_x := le_on r119_x bl123
              have r125_p := le_on r119_p bl123
              have r125_l := (r119_l).on bl123
              have r125_hd := (r119_hd).on bl123
              have l125 := le_tr l119 bl123
              clear r119_o r119_x r119_p r119_l r119_hd l119
              clear r118_s1 r118_s9 sm117_s8
              clear bl123
              go_wp2_with (first | ((with_reducible refine st_store 39 _ _ g123 (oA ⟨(N : Int), A8, ny, c8, 100⟩) ?_ ?_ n123 ?_ ?_ ?_ ?_); exact rfl; exact rfl; exact Try.zOu; exact rfl; exact oA_one _))
              refine ⟨fun V126 n126 k126 => ?_⟩
              have m126_o := k126.on r125_o ne123_o
              have m126_x := k126.on r125_x ne123_x
              have m126_p := k126.on r125_p ne123_p
              have m126_l := (r125_l).wr k126 up123
              have m126_hd := (r125_hd).wr k126 up123
              have m126_s1 := SO.wr r124_s1 k126 no123_s1
              have m126_s9 := SO.wr r124_s9 k126 no123_s9
              have m126_s8 := SO.wr r124_s8 k126 no123_s8
              have o126 := k126.bel _ _ l125 up123
              clear k126
              clear n123 r125_o r125_x r125_p r125_l r125_hd r124_s1 r124_s9 r124_s8 l125
              have c127 : V126.cell? ⟨g123, 1, none⟩ = some (.slice A8 ny c8) := CB.cell n126 1
              have c128 : V126.cell? ⟨go, 1, none⟩ = some (.slice A9 n0 c9) := CB.cell m126_o 1
              have c129 : V126.cell? ⟨go, 0, none⟩ = some (.int .i64 (N : Int)) := CB.cell m126_o 0
              go_wp2_with (first | ((with_reducible refine st_load 39 _ g123 ?_ n126 Try.underlying39 ?_ ?_ ?_); exact rfl; exact rfl; exact Try.zOu) | ((with_reducible refine st_store 39 _ _ go (oA ⟨(N : Int), A8, ny, c8, 100⟩) ?_ ?_ m126_o ?_ ?_ ?_ ?_); exact rfl; exact rfl; exact Try.zOu; exact rfl; exact oA_one _))
              refine ⟨fun V130 n130 k130 => ?_⟩
              clear c127 c128 c129
              have m130_x := k130.on m126_x (Ne.symm ne105_o)
              have m130_p := k130.on m126_p (Ne.symm ne108_o)
              have m130_y := k130.on n126 (Ne.symm ne123_o)
              have m130_l := (m126_l).wr k130 hup
              have m130_hd := (m126_hd).wr k130 hup
              have m130_s1 := SO.wr m126_s1 k130 no1
              have m130_s9 := SO.wr m126_s9 k130 na104
              have m130_s8 := SO.wr m126_s8 k130 na120
              have o130 := k130.bel _ _ o126 hup
              clear k130
              clear m126_o m126_x m126_p n126 m126_l m126_hd m126_s1 m126_s9 m126_s8 o126
              clear m130_s9 na104 no105_s9 no108_s9 no123_s9
              obtain ⟨f, hf⟩ : ∃ f : Nat, (max a r) = f := ⟨_, rfl⟩
              have HF := Lib.hid hf
              have hq9 := HQ.out.sum
              have hq8 := HQ.out.few
              have hq7 := HQ.out.up
              rw [hf] at hq9
              have q8 : IntKind.i64.wrap ((N : Int) - (ny : Int)) = (f : Int) := by rw [show (N : Int) - (ny : Int) = (f : Int) by omega]; exact IntWalk.i64_in _ (by omega)
              have q9 : (N : Int) - (ny : Int) = (f : Int) := by omega
              clear hf
              clear m130_x
              clear m130_p
              clear m130_y
              have c131 : V130.cell? ⟨go, 0, none⟩ = some (.int .i64 (N : Int)) := CB.cell n130 0
              have c132 : V130.cell? ⟨go, 1, none⟩ = some (.slice A8 ny c8) := CB.cell n130 1
              go_wp2_with fail
              clear c131 c132
              go_loopw [103] (fun iv wi => ∃ i : Nat, i ≤ ny ∧ iv = .int .i64 i ∧ CB wi go 39 (oA ⟨(N : Int), A8, ny, c8, 100⟩) ∧ SO w.heap.size wi 30 pcl 2 A8 ny c8 (pkF S (max a r)) G8 ∧ SO w.heap.size wi 9 scl 1 B N q S G1 ∧ RL w wi scl 1 (some ⟨ga, ofa, none⟩) n c L ∧ RL w wi ucl 1 (some ⟨gh, oh, none⟩) nh ch M ∧ Below w.heap.size w wi) (fun iv _ => ny - (intOf iv).toNat)
              case atStart => exact ⟨0, by omega, rfl, n130, m130_s8, m130_s1, m130_l, m130_hd, o130⟩
              case round =>
                clear n130 m130_s8 m130_s1 m130_l m130_hd o130
                obtain ⟨i, hi, rfl, hcb, s0, s1, hl, hm, hb⟩ := hrel
                by_cases hlt2 : i < ny
                · have l5 : (i : Int) < (ny : Int) := by omega
                  have no0 := SO.noT s0 hcb (by decide)
                  have no1 := SO.noT s1 hcb (by decide)
                  have l6 : (0 : Int) ≤ (i : Int) := by omega
                  obtain ⟨e, he⟩ : ∃ e, f + i = e := ⟨_, rfl⟩
                  have heN : e < N := by omega
                  have heS : e < S.length := by rw [HQ.out.len]; exact heN
                  obtain ⟨y, hy⟩ : ∃ y, S[e]? = some y := ⟨S[e], List.getElem?_eq_getElem heS⟩
                  have hel : (pkF S (max a r))[i]? = some ⟨(e : Int), y⟩ := by rw [HF.out, pkF_at, he, hy]; rfl
                  obtain ⟨gw, ow, p0, _, hA9, _⟩ := s0.rr.elem hlt2
                  obtain ⟨gs, os, y0, _, hB9, _⟩ := s1.rr.st heN
                  have qe : IntKind.i64.wrap ((f : Int) + (i : Int)) = (e : Int) := by rw [show (f : Int) + (i : Int) = (e : Int) by omega]; exact IntWalk.i64_in _ (by omega)
                  have qe2 : (f : Int) + (i : Int) = (e : Int) := by omega
                  have l7 : (e : Int) < (N : Int) := by omega
                  have l8 : (0 : Int) ≤ (e : Int) := by omega
                  have q10 : decide ((e : Int) ≥ (N : Int)) = false := by simp; omega
                  have q11 : decide ((N : Int) ≤ (e : Int)) = false := by simp; omega
                  have qy : (y.toList == y.toList) = true := beq_self_eq_true _
                  have qy' : (y.toList != y.toList) = false := by simp
                  subst hA9 hB9
                  have hr2 : wr.rangeAt gw (ow + i * 2) (pA ⟨(e : Int), y⟩).toList := RR.elemAt s0.rr hel rfl
                  clear he qe2 hel heS
                  go_wp2_with (first | ((with_reducible refine st_elem 30 _ gw (ow + i * 2) (pA ⟨(e : Int), y⟩) ?_ hr2 Try.underlying30 ?_ ?_ ?_); exact rfl; exact rfl; exact Try.zPk) | ((with_reducible refine st_alloc 30 (pA zeroP) ?_ ?_); exact zero_pk))
                  refine ⟨fun V501 g501 n501 f501 => ?_⟩
                  have ne501_o := f501.ne hcb
                  have no501_s0 := SO.fresh s0 (Nat.le_of_eq f501.at_)
                  have no501_s1 := SO.fresh s1 (Nat.le_of_eq f501.at_)
                  have up501 : w.heap.size ≤ g501 := f501.up hb
                  have bl501 := f501.bel
                  clear f501
                  have r502_s0 := SO.on s0 bl501
                  have r502_s1 := SO.on s1 bl501
                  have r503_o := le_on hcb bl501
                  have r503_l := (hl).on bl501
                  have r503_hd := (hm).on bl501
                  have l503 := le_tr hb bl501
                  clear hcb hl hm hb
                  clear s0 s1
                  clear bl501
                  go_wp2_with (first | ((with_reducible refine st_store 30 _ _ g501 (pA ⟨(e : Int), y⟩) ?_ ?_ n501 ?_ ?_ ?_ ?_); exact rfl; exact rfl; exact Try.zPk; exact rfl; exact pA_one _))
                  refine ⟨fun V504 n504 k504 => ?_⟩
                  have m504_o := k504.on r503_o ne501_o
                  have m504_l := (r503_l).wr k504 up501
                  have m504_hd := (r503_hd).wr k504 up501
                  have m504_s0 := SO.wr r502_s0 k504 no501_s0
                  have m504_s1 := SO.wr r502_s1 k504 no501_s1
                  have o504 := k504.bel _ _ l503 up501
                  clear k504
                  clear n501 r503_o r503_l r503_hd r502_s0 r502_s1 l503
                  go_wp2_with fail
                  have rr505 := (m504_s1).rr
                  have y506 := Lib.hid (show (fun V : World => CB V g501 30 (pA ⟨(e : Int), y⟩) ∧ RR V scl 1 (some ⟨gs, os, none⟩) N q S) V504.drew from ⟨CB.drew n504, (rr505).drew⟩)
                  refine wp_region_held_drew (S := (fun V : World => CB V g501 30 (pA ⟨(e : Int), y⟩) ∧ RR V scl 1 (some ⟨gs, os, none⟩) N q S)) (by kernel_rfl) y506.out (fun hHeld => ?_)
                  obtain ⟨D506, hD506⟩ : ∃ V, V504.drew = V := ⟨_, rfl⟩
                  have b506 : Below V504.heap.size V504 D506 := by rw [← hD506]; exact le_dr (Below.refl _ _)
                  rw [hD506] at hHeld ⊢
                  clear hD506
                  have r507_s0 := SO.on m504_s0 b506
                  have r507_s1 := SO.on m504_s1 b506
                  have r508_o := le_on m504_o b506
                  have r508_p := le_on n504 b506
                  have r508_l := (m504_l).on b506
                  have r508_hd := (m504_hd).on b506
                  have r508_sd := (rr505).on b506
                  have l508 := le_tr o504 b506
                  clear m504_o n504 m504_l m504_hd rr505 o504
                  clear m504_s0 m504_s1
                  clear b506
                  refine wpAnyH_takeL (i := 0) (d := some 108) (v := .int .i64 (f : Int)) rfl rfl (by kernel_rfl) (by kernel_rfl) (by kernel_rfl) (fun _ _ _ h => h) (Or.inl ⟨by rfl, ?_⟩) hHeld ?_
                  · intro w hSw; (try dsimp only at hSw); go_simp
                  try simp only [Act.put, List.setIfInBounds_toArray, List.set_cons_zero, List.set_cons_succ]
                  refine wpAnyH_takeL (i := 1) (d := some 109) (v := .int .i64 (i : Int)) rfl rfl (by kernel_rfl) (by kernel_rfl) (by kernel_rfl) (fun _ _ _ h => h) (Or.inl ⟨by rfl, ?_⟩) hHeld ?_
                  · intro w hSw; (try dsimp only at hSw); go_simp
                  try simp only [Act.put, List.setIfInBounds_toArray, List.set_cons_zero, List.set_cons_succ]
                  refine wpAnyH_takeL (i := 2) (d := some 110) (v := .int .i64 (e : Int)) rfl rfl (by kernel_rfl) (by kernel_rfl) (by kernel_rfl) (fun _ _ _ h => h) (Or.inl ⟨by rfl, ?_⟩) hHeld ?_
                  · intro w hSw; (try dsimp only at hSw); go_simp
                  try simp only [Act.put, List.setIfInBounds_toArray, List.set_cons_zero, List.set_cons_succ]
                  refine wpAnyH_takeL (i := 3) (d := some 111) (v := .slice (some ⟨gs, os, none⟩) N q) rfl rfl (by kernel_rfl) (by kernel_rfl) (by kernel_rfl) (fun _ _ _ h => h) (Or.inl ⟨by rfl, ?_⟩) hHeld ?_
                  · intro w hSw; (try dsimp only at hSw); go_simp
                  try simp only [Act.put, List.setIfInBounds_toArray, List.set_cons_zero, List.set_cons_succ]
                  refine wpAnyH_takeL (i := 4) (d := some 112) (v := .int .i64 (N : Int)) rfl rfl (by kernel_rfl) (by kernel_rfl) (by kernel_rfl) (fun _ _ _ h => h) (Or.inl ⟨by rfl, ?_⟩) hHeld ?_
                  · intro w hSw; (try dsimp only at hSw); go_simp
                  try simp only [Act.put, List.setIfInBounds_toArray, List.set_cons_zero, List.set_cons_succ]
                  refine wpAnyH_takeL (i := 5) (d := some 113) (v := .bool false) rfl rfl (by kernel_rfl) (by kernel_rfl) (by kernel_rfl) (fun _ _ _ h => h) (Or.inl ⟨by rfl, ?_⟩) hHeld ?_
                  · intro w hSw; (try dsimp only at hSw); go_simp
                  try simp only [Act.put, List.setIfInBounds_toArray, List.set_cons_zero, List.set_cons_succ]
                  refine wpAnyH_takeL (i := 6) (d := some 114) (v := .bool false) rfl rfl (by kernel_rfl) (by kernel_rfl) (by kernel_rfl) (fun _ _ _ h => h) (Or.inl ⟨by rfl, ?_⟩) hHeld ?_
                  · intro w hSw; (try dsimp only at hSw); go_simp
                  try simp only [Act.put, List.setIfInBounds_toArray, List.set_cons_zero, List.set_cons_succ]
                  refine wpAnyH_takeL (i := 7) (d := some 115) (v := .pointer (some ⟨g501, 1, none⟩)) rfl rfl (by kernel_rfl) (by kernel_rfl) (by kernel_rfl) (fun _ _ _ h => h) (Or.inl ⟨by rfl, ?_⟩) hHeld ?_
                  · intro w hSw; (try dsimp only at hSw); go_simp
                  try simp only [Act.put, List.setIfInBounds_toArray, List.set_cons_zero, List.set_cons_succ]
                  refine wpAnyH_takeL (i := 8) (d := some 116) (v := .string y) rfl rfl (by kernel_rfl) (by kernel_rfl) (by kernel_rfl) (fun _ _ _ h => h) (Or.inl ⟨by rfl, ?_⟩) hHeld ?_
                  · intro w hSw; (try dsimp only at hSw); have hcc : w.cell? ⟨g501, 1, none⟩ = some (.string y) := CB.cell hSw.1 1; go_simp
                  try simp only [Act.put, List.setIfInBounds_toArray, List.set_cons_zero, List.set_cons_succ]
                  refine wpAnyH_takeL (i := 9) (d := some 117) (v := .slice (some ⟨gs, os, none⟩) N q) rfl rfl (by kernel_rfl) (by kernel_rfl) (by kernel_rfl) (fun _ _ _ h => h) (Or.inl ⟨by rfl, ?_⟩) hHeld ?_
                  · intro w hSw; (try dsimp only at hSw); go_simp
                  try simp only [Act.put, List.setIfInBounds_toArray, List.set_cons_zero, List.set_cons_succ]
                  refine wpAnyH_takeL (i := 10) (d := some 118) (v := .int .i64 (f : Int)) rfl rfl (by kernel_rfl) (by kernel_rfl) (by kernel_rfl) (fun _ _ _ h => h) (Or.inl ⟨by rfl, ?_⟩) hHeld ?_
                  · intro w hSw; (try dsimp only at hSw); go_simp
                  try simp only [Act.put, List.setIfInBounds_toArray, List.set_cons_zero, List.set_cons_succ]
                  refine wpAnyH_takeL (i := 11) (d := some 119) (v := .int .i64 (i : Int)) rfl rfl (by kernel_rfl) (by kernel_rfl) (by kernel_rfl) (fun _ _ _ h => h) (Or.inl ⟨by rfl, ?_⟩) hHeld ?_
                  · intro w hSw; (try dsimp only at hSw); go_simp
                  try simp only [Act.put, List.setIfInBounds_toArray, List.set_cons_zero, List.set_cons_succ]
                  refine wpAnyH_takeL (i := 12) (d := some 120) (v := .int .i64 (e : Int)) rfl rfl (by kernel_rfl) (by kernel_rfl) (by kernel_rfl) (fun _ _ _ h => h) (Or.inl ⟨by rfl, ?_⟩) hHeld ?_
                  · intro w hSw; (try dsimp only at hSw); go_simp
                  try simp only [Act.put, List.setIfInBounds_toArray, List.set_cons_zero, List.set_cons_succ]
                  refine wpAnyH_takeL (i := 13) (d := some 121) (v := .pointer (some ⟨gs, os + e, none⟩)) rfl rfl (by kernel_rfl) (by kernel_rfl) (by kernel_rfl) (fun _ _ _ h => h) (Or.inl ⟨by rfl, ?_⟩) hHeld ?_
                  · intro w hSw; (try dsimp only at hSw); go_simp
                  try simp only [Act.put, List.setIfInBounds_toArray, List.set_cons_zero, List.set_cons_succ]
                  refine wpAnyH_takeL (i := 14) (d := some 122) (v := .string y) rfl rfl (by kernel_rfl) (by kernel_rfl) (by kernel_rfl) (fun _ _ _ h => h) (Or.inl ⟨by rfl, ?_⟩) hHeld ?_
                  · intro w hSw; have hcc := RR.stAt hSw.2 hy rfl; go_simp
                  try simp only [Act.put, List.setIfInBounds_toArray, List.set_cons_zero, List.set_cons_succ]
                  refine wpAnyH_takeL (i := 15) (d := some 123) (v := .bool false) rfl rfl (by kernel_rfl) (by kernel_rfl) (by kernel_rfl) (fun _ _ _ h => h) (Or.inl ⟨by rfl, ?_⟩) hHeld ?_
                  · intro w hSw; (try dsimp only at hSw); go_simp
                  try simp only [Act.put, List.setIfInBounds_toArray, List.set_cons_zero, List.set_cons_succ]
                  refine wpAnyH_takeL (i := 16) (d := some 124) (v := .bool false) rfl rfl (by kernel_rfl) (by kernel_rfl) (by kernel_rfl) (fun _ _ _ h => h) (Or.inl ⟨by rfl, ?_⟩) hHeld ?_
                  · intro w hSw; (try dsimp only at hSw); go_simp
                  try simp only [Act.put, List.setIfInBounds_toArray, List.set_cons_zero, List.set_cons_succ]
                  refine wpAnyH_done (by kernel_rfl) ?_ _
                  go_wp2_with fail
                  go_roundw
                  case rel => exact ⟨i + 1, by omega, by go_num, r508_o, r507_s0, r507_s1, r508_l, r508_hd, l508⟩
                  case measure => simp [intOf]; omega
                obtain rfl : i = ny := by omega
                clear hlt2
                go_wp2_with fail
                go_roundw
                case rel => exact ⟨k + 1, (max a r), N, i, S, A8, c8, G8, B, q, G1, by omega, by go_num, rfl, hcb, s0, s1, hl, hm, hb, HQ⟩
                case measure => simp [intOf]; omega
            have q4 : decide ((k : Int) < (nh : Int)) = false := by simp; omega
            have q4n : decide (k < nh) = false := by simp; omega
            have l3 : ¬ (k : Int) < (nh : Int) := by omega
            obtain ⟨f, hf⟩ : ∃ f : Nat, a = f := ⟨_, rfl⟩
            have HF := Lib.hid hf
            have hq9 := HQ1.out.sum
            have hq8 := HQ1.out.few
            have hq7 := HQ1.out.up
            rw [hf] at hq9
            have q8 : IntKind.i64.wrap ((N : Int) - (n0 : Int)) = (f : Int) := by rw [show (N : Int) - (n0 : Int) = (f : Int) by omega]; exact IntWalk.i64_in _ (by omega)
            have q9 : (N : Int) - (n0 : Int) = (f : Int) := by omega
            clear hf
            clear m113_x
            clear m113_p
            have c114 : V113.cell? ⟨go, 0, none⟩ = some (.int .i64 (N : Int)) := CB.cell n113 0
            have c115 : V113.cell? ⟨go, 1, none⟩ = some (.slice A9 n0 c9) := CB.cell n113 1
            go_wp2_with fail
            clear c114 c115
            go_loopw [103] (fun iv wi => ∃ i : Nat, i ≤ n0 ∧ iv = .int .i64 i ∧ CB wi go 39 (oA ⟨(N : Int), A9, n0, c9, 100⟩) ∧ SO w.heap.size wi 30 pcl 2 A9 n0 c9 (pkF S a) G9 ∧ SO w.heap.size wi 9 scl 1 B N q S G1 ∧ RL w wi scl 1 (some ⟨ga, ofa, none⟩) n c L ∧ RL w wi ucl 1 Ah nh ch M ∧ Below w.heap.size w wi) (fun iv _ => n0 - (intOf iv).toNat)
            case atStart => exact ⟨0, by omega, rfl, n113, m113_s9, m113_s1, m113_l, m113_hd, o113⟩
            case round =>
              clear n113 m113_s9 m113_s1 m113_l m113_hd o113
              obtain ⟨i, hi, rfl, hcb, s0, s1, hl, hm, hb⟩ := hrel
              by_cases hlt2 : i < n0
              · have l5 : (i : Int) < (n0 : Int) := by omega
                have no0 := SO.noT s0 hcb (by decide)
                have no1 := SO.noT s1 hcb (by decide)
                have l6 : (0 : Int) ≤ (i : Int) := by omega
                obtain ⟨e, he⟩ : ∃ e, f + i = e := ⟨_, rfl⟩
                have heN : e < N := by omega
                have heS : e < S.length := by rw [HQ1.out.len]; exact heN
                obtain ⟨y, hy⟩ : ∃ y, S[e]? = some y := ⟨S[e], List.getElem?_eq_getElem heS⟩
                have hel : (pkF S a)[i]? = some ⟨(e : Int), y⟩ := by rw [HF.out, pkF_at, he, hy]; rfl
                obtain ⟨gw, ow, p0, _, hA9, _⟩ := s0.rr.elem hlt2
                obtain ⟨gs, os, y0, _, hB9, _⟩ := s1.rr.st heN
                have qe : IntKind.i64.wrap ((f : Int) + (i : Int)) = (e : Int) := by rw [show (f : Int) + (i : Int) = (e : Int) by omega]; exact IntWalk.i64_in _ (by omega)
                have qe2 : (f : Int) + (i : Int) = (e : Int) := by omega
                have l7 : (e : Int) < (N : Int) := by omega
                have l8 : (0 : Int) ≤ (e : Int) := by omega
                have q10 : decide ((e : Int) ≥ (N : Int)) = false := by simp; omega
                have q11 : decide ((N : Int) ≤ (e : Int)) = false := by simp; omega
                have qy : (y.toList == y.toList) = true := beq_self_eq_true _
                have qy' : (y.toList != y.toList) = false := by simp
                subst hA9 hB9
                have hr2 : wr.rangeAt gw (ow + i * 2) (pA ⟨(e : Int), y⟩).toList := RR.elemAt s0.rr hel rfl
                clear he qe2 hel heS
                go_wp2_with (first | ((with_reducible refine st_elem 30 _ gw (ow + i * 2) (pA ⟨(e : Int), y⟩) ?_ hr2 Try.underlying30 ?_ ?_ ?_); exact rfl; exact rfl; exact Try.zPk) | ((with_reducible refine st_alloc 30 (pA zeroP) ?_ ?_); exact zero_pk))
                refine ⟨fun V501 g501 n501 f501 => ?_⟩
                have ne501_o := f501.ne hcb
                have no501_s0 := SO.fresh s0 (Nat.le_of_eq f501.at_)
                have no501_s1 := SO.fresh s1 (Nat.le_of_eq f501.at_)
                have up501 : w.heap.size ≤ g501 := f501.up hb
                have bl501 := f501.bel
                clear f501
                have r502_s0 := SO.on s0 bl501
                have r502_s1 := SO.on s1 bl501
                have r503_o := le_on hcb bl501
                have r503_l := (hl).on bl501
                have r503_hd := (hm).on bl501
                have l503 := le_tr hb bl501
                clear hcb hl hm hb
                clear s0 s1
                clear bl501
                go_wp2_with (first | ((with_reducible refine st_store 30 _ _ g501 (pA ⟨(e : Int), y⟩) ?_ ?_ n501 ?_ ?_ ?_ ?_); exact rfl; exact rfl; exact Try.zPk; exact rfl; exact pA_one _))
                refine ⟨fun V504 n504 k504 => ?_⟩
                have m504_o := k504.on r503_o ne501_o
                have m504_l := (r503_l).wr k504 up501
                have m504_hd := (r503_hd).wr k504 up501
                have m504_s0 := SO.wr r502_s0 k504 no501_s0
                have m504_s1 := SO.wr r502_s1 k504 no501_s1
                have o504 := k504.bel _ _ l503 up501
                clear k504
                clear n501 r503_o r503_l r503_hd r502_s0 r502_s1 l503
                go_wp2_with fail
                have rr505 := (m504_s1).rr
                have y506 := Lib.hid (show (fun V : World => CB V g501 30 (pA ⟨(e : Int), y⟩) ∧ RR V scl 1 (some ⟨gs, os, none⟩) N q S) V504.drew from ⟨CB.drew n504, (rr505).drew⟩)
                refine wp_region_held_drew (S := (fun V : World => CB V g501 30 (pA ⟨(e : Int), y⟩) ∧ RR V scl 1 (some ⟨gs, os, none⟩) N q S)) (by kernel_rfl) y506.out (fun hHeld => ?_)
                obtain ⟨D506, hD506⟩ : ∃ V, V504.drew = V := ⟨_, rfl⟩
                have b506 : Below V504.heap.size V504 D506 := by rw [← hD506]; exact le_dr (Below.refl _ _)
                rw [hD506] at hHeld ⊢
                clear hD506
                have r507_s0 := SO.on m504_s0 b506
                have r507_s1 := SO.on m504_s1 b506
                have r508_o := le_on m504_o b506
                have r508_p := le_on n504 b506
                have r508_l := (m504_l).on b506
                have r508_hd := (m504_hd).on b506
                have r508_sd := (rr505).on b506
                have l508 := le_tr o504 b506
                clear m504_o n504 m504_l m504_hd rr505 o504
                clear m504_s0 m504_s1
                clear b506
                refine wpAnyH_takeL (i := 0) (d := some 108) (v := .int .i64 (f : Int)) rfl rfl (by kernel_rfl) (by kernel_rfl) (by kernel_rfl) (fun _ _ _ h => h) (Or.inl ⟨by rfl, ?_⟩) hHeld ?_
                · intro w hSw; (try dsimp only at hSw); go_simp
                try simp only [Act.put, List.setIfInBounds_toArray, List.set_cons_zero, List.set_cons_succ]
                refine wpAnyH_takeL (i := 1) (d := some 109) (v := .int .i64 (i : Int)) rfl rfl (by kernel_rfl) (by kernel_rfl) (by kernel_rfl) (fun _ _ _ h => h) (Or.inl ⟨by rfl, ?_⟩) hHeld ?_
                · intro w hSw; (try dsimp only at hSw); go_simp
                try simp only [Act.put, List.setIfInBounds_toArray, List.set_cons_zero, List.set_cons_succ]
                refine wpAnyH_takeL (i := 2) (d := some 110) (v := .int .i64 (e : Int)) rfl rfl (by kernel_rfl) (by kernel_rfl) (by kernel_rfl) (fun _ _ _ h => h) (Or.inl ⟨by rfl, ?_⟩) hHeld ?_
                · intro w hSw; (try dsimp only at hSw); go_simp
                try simp only [Act.put, List.setIfInBounds_toArray, List.set_cons_zero, List.set_cons_succ]
                refine wpAnyH_takeL (i := 3) (d := some 111) (v := .slice (some ⟨gs, os, none⟩) N q) rfl rfl (by kernel_rfl) (by kernel_rfl) (by kernel_rfl) (fun _ _ _ h => h) (Or.inl ⟨by rfl, ?_⟩) hHeld ?_
                · intro w hSw; (try dsimp only at hSw); go_simp
                try simp only [Act.put, List.setIfInBounds_toArray, List.set_cons_zero, List.set_cons_succ]
                refine wpAnyH_takeL (i := 4) (d := some 112) (v := .int .i64 (N : Int)) rfl rfl (by kernel_rfl) (by kernel_rfl) (by kernel_rfl) (fun _ _ _ h => h) (Or.inl ⟨by rfl, ?_⟩) hHeld ?_
                · intro w hSw; (try dsimp only at hSw); go_simp
                try simp only [Act.put, List.setIfInBounds_toArray, List.set_cons_zero, List.set_cons_succ]
                refine wpAnyH_takeL (i := 5) (d := some 113) (v := .bool false) rfl rfl (by kernel_rfl) (by kernel_rfl) (by kernel_rfl) (fun _ _ _ h => h) (Or.inl ⟨by rfl, ?_⟩) hHeld ?_
                · intro w hSw; (try dsimp only at hSw); go_simp
                try simp only [Act.put, List.setIfInBounds_toArray, List.set_cons_zero, List.set_cons_succ]
                refine wpAnyH_takeL (i := 6) (d := some 114) (v := .bool false) rfl rfl (by kernel_rfl) (by kernel_rfl) (by kernel_rfl) (fun _ _ _ h => h) (Or.inl ⟨by rfl, ?_⟩) hHeld ?_
                · intro w hSw; (try dsimp only at hSw); go_simp
                try simp only [Act.put, List.setIfInBounds_toArray, List.set_cons_zero, List.set_cons_succ]
                refine wpAnyH_takeL (i := 7) (d := some 115) (v := .pointer (some ⟨g501, 1, none⟩)) rfl rfl (by kernel_rfl) (by kernel_rfl) (by kernel_rfl) (fun _ _ _ h => h) (Or.inl ⟨by rfl, ?_⟩) hHeld ?_
                · intro w hSw; (try dsimp only at hSw); go_simp
                try simp only [Act.put, List.setIfInBounds_toArray, List.set_cons_zero, List.set_cons_succ]
                refine wpAnyH_takeL (i := 8) (d := some 116) (v := .string y) rfl rfl (by kernel_rfl) (by kernel_rfl) (by kernel_rfl) (fun _ _ _ h => h) (Or.inl ⟨by rfl, ?_⟩) hHeld ?_
                · intro w hSw; (try dsimp only at hSw); have hcc : w.cell? ⟨g501, 1, none⟩ = some (.string y) := CB.cell hSw.1 1; go_simp
                try simp only [Act.put, List.setIfInBounds_toArray, List.set_cons_zero, List.set_cons_succ]
                refine wpAnyH_takeL (i := 9) (d := some 117) (v := .slice (some ⟨gs, os, none⟩) N q) rfl rfl (by kernel_rfl) (by kernel_rfl) (by kernel_rfl) (fun _ _ _ h => h) (Or.inl ⟨by rfl, ?_⟩) hHeld ?_
                · intro w hSw; (try dsimp only at hSw); go_simp
                try simp only [Act.put, List.setIfInBounds_toArray, List.set_cons_zero, List.set_cons_succ]
                refine wpAnyH_takeL (i := 10) (d := some 118) (v := .int .i64 (f : Int)) rfl rfl (by kernel_rfl) (by kernel_rfl) (by kernel_rfl) (fun _ _ _ h => h) (Or.inl ⟨by rfl, ?_⟩) hHeld ?_
                · intro w hSw; (try dsimp only at hSw); go_simp
                try simp only [Act.put, List.setIfInBounds_toArray, List.set_cons_zero, List.set_cons_succ]
                refine wpAnyH_takeL (i := 11) (d := some 119) (v := .int .i64 (i : Int)) rfl rfl (by kernel_rfl) (by kernel_rfl) (by kernel_rfl) (fun _ _ _ h => h) (Or.inl ⟨by rfl, ?_⟩) hHeld ?_
                · intro w hSw; (try dsimp only at hSw); go_simp
                try simp only [Act.put, List.setIfInBounds_toArray, List.set_cons_zero, List.set_cons_succ]
                refine wpAnyH_takeL (i := 12) (d := some 120) (v := .int .i64 (e : Int)) rfl rfl (by kernel_rfl) (by kernel_rfl) (by kernel_rfl) (fun _ _ _ h => h) (Or.inl ⟨by rfl, ?_⟩) hHeld ?_
                · intro w hSw; (try dsimp only at hSw); go_simp
                try simp only [Act.put, List.setIfInBounds_toArray, List.set_cons_zero, List.set_cons_succ]
                refine wpAnyH_takeL (i := 13) (d := some 121) (v := .pointer (some ⟨gs, os + e, none⟩)) rfl rfl (by kernel_rfl) (by kernel_rfl) (by kernel_rfl) (fun _ _ _ h => h) (Or.inl ⟨by rfl, ?_⟩) hHeld ?_
                · intro w hSw; (try dsimp only at hSw); go_simp
                try simp only [Act.put, List.setIfInBounds_toArray, List.set_cons_zero, List.set_cons_succ]
                refine wpAnyH_takeL (i := 14) (d := some 122) (v := .string y) rfl rfl (by kernel_rfl) (by kernel_rfl) (by kernel_rfl) (fun _ _ _ h => h) (Or.inl ⟨by rfl, ?_⟩) hHeld ?_
                · intro w hSw; have hcc := RR.stAt hSw.2 hy rfl; go_simp
                try simp only [Act.put, List.setIfInBounds_toArray, List.set_cons_zero, List.set_cons_succ]
                refine wpAnyH_takeL (i := 15) (d := some 123) (v := .bool false) rfl rfl (by kernel_rfl) (by kernel_rfl) (by kernel_rfl) (fun _ _ _ h => h) (Or.inl ⟨by rfl, ?_⟩) hHeld ?_
                · intro w hSw; (try dsimp only at hSw); go_simp
                try simp only [Act.put, List.setIfInBounds_toArray, List.set_cons_zero, List.set_cons_succ]
                refine wpAnyH_takeL (i := 16) (d := some 124) (v := .bool false) rfl rfl (by kernel_rfl) (by kernel_rfl) (by kernel_rfl) (fun _ _ _ h => h) (Or.inl ⟨by rfl, ?_⟩) hHeld ?_
                · intro w hSw; (try dsimp only at hSw); go_simp
                try simp only [Act.put, List.setIfInBounds_toArray, List.set_cons_zero, List.set_cons_succ]
                refine wpAnyH_done (by kernel_rfl) ?_ _
                go_wp2_with fail
                go_roundw
                case rel => exact ⟨i + 1, by omega, by go_num, r508_o, r507_s0, r507_s1, r508_l, r508_hd, l508⟩
                case measure => simp [intOf]; omega
              obtain rfl : i = n0 := by omega
              clear hlt2
              go_wp2_with fail
              go_roundw
              case rel => exact ⟨k + 1, a, N, i, S, A9, c9, G9, B, q, G1, by omega, by go_num, rfl, hcb, s0, s1, hl, hm, hb, HQ1⟩
              case measure => simp [intOf]; omega
          have q3 : decide ((600 : Int) < (x.size : Int)) = true := by simp; omega
          have q3' : decide ((x.size : Int) > 600) = true := by simp; omega
          clear h6
          go_wp2_with fail
          go_roundw
          case rel => exact ⟨k + 1, a, N, n0, S, A0, c0, G0, B, q, G1, by omega, by go_num, rfl, hcb, s0, s1, hl, hm, hb, Lib.hid HP.out.next⟩
          case measure => simp [intOf]; omega
        obtain rfl : k = n := by omega
        clear hlt
        have qN : ((N : Int) == (N : Int)) = true := by simp
        have c101 : wr.cell? ⟨go, 0, none⟩ = some (.int .i64 (N : Int)) := CB.cell hcb 0
        go_wp2_with fail
        go_ret
        exact ⟨rfl, hb⟩
    · have q1 : decide ((110 : Int) < (n : Int)) = false := by simp; omega
      have q1' : decide ((n : Int) > 110) = false := by simp; omega
      have q2 : decide ((110 : Int) < (nh : Int)) = true := by simp; omega
      have q2' : decide ((nh : Int) > 110) = true := by simp; omega
      go_enter Try.func6, Try.ntmps6
      go_wp2_with fail
      (with_reducible refine (alive_c _).mono ?_)
      rintro e w1 ⟨rfl, b1⟩
      have r3_l := (hl).on b1
      have r3_hd := (hm).on b1
      have l3 := le_tr (Below.refl _ _) b1
      clear hl hm
      clear b1
      go_wp2_with (first | ((with_reducible refine st_builtn 39 2 _ (.int .i64 100) (oA ⟨0, none, 0, 0, 100⟩) ?_ ?_ ?_); exact rfl; exact built_or _) | ((with_reducible refine st_alloc 39 (oA zeroO) ?_ ?_); exact zero_ou))
      refine ⟨fun V4 g4 n4 f4 => ?_⟩
      have up4 : w.heap.size ≤ g4 := f4.up l3
      have bl4 := f4.bel
      clear f4
      have r6_l := (r3_l).on bl4
      have r6_hd := (r3_hd).on bl4
      have l6 := le_tr l3 bl4
      clear r3_l r3_hd l3
      clear bl4
      go_wp2_with (first | ((with_reducible refine st_store 39 _ _ g4 (oA ⟨0, none, 0, 0, 100⟩) ?_ ?_ n4 ?_ ?_ ?_ ?_); exact rfl; exact rfl; exact Try.zOu; exact rfl; exact oA_one _))
      refine ⟨fun V7 n7 k7 => ?_⟩
      have m7_l := (r6_l).wr k7 up4
      have m7_hd := (r6_hd).wr k7 up4
      have o7 := k7.bel _ _ l6 up4
      clear k7
      clear n4 r6_l r6_hd l6
      go_wp2_with fail
      go_ret
      exact ⟨rfl, o7⟩
  · have q1 : decide ((110 : Int) < (n : Int)) = true := by simp; omega
    have q1' : decide ((n : Int) > 110) = true := by simp; omega
    go_enter Try.func6, Try.ntmps6
    go_wp2_with fail
    (with_reducible refine (alive_c _).mono ?_)
    rintro e w1 ⟨rfl, b1⟩
    have r3_l := (hl).on b1
    have r3_hd := (hm).on b1
    have l3 := le_tr (Below.refl _ _) b1
    clear hl hm
    clear b1
    go_wp2_with (first | ((with_reducible refine st_builtn 39 2 _ (.int .i64 100) (oA ⟨0, none, 0, 0, 100⟩) ?_ ?_ ?_); exact rfl; exact built_or _) | ((with_reducible refine st_alloc 39 (oA zeroO) ?_ ?_); exact zero_ou))
    refine ⟨fun V4 g4 n4 f4 => ?_⟩
    have up4 : w.heap.size ≤ g4 := f4.up l3
    have bl4 := f4.bel
    clear f4
    have r6_l := (r3_l).on bl4
    have r6_hd := (r3_hd).on bl4
    have l6 := le_tr l3 bl4
    clear r3_l r3_hd l3
    clear bl4
    go_wp2_with (first | ((with_reducible refine st_store 39 _ _ g4 (oA ⟨0, none, 0, 0, 100⟩) ?_ ?_ n4 ?_ ?_ ?_ ?_); exact rfl; exact rfl; exact Try.zOu; exact rfl; exact oA_one _))
    refine ⟨fun V7 n7 k7 => ?_⟩
    have m7_l := (r6_l).wr k7 up4
    have m7_hd := (r6_hd).wr k7 up4
    have o7 := k7.bel _ _ l6 up4
    clear k7
    clear n4 r6_l r6_hd l6
    go_wp2_with fail
    go_ret
    exact ⟨rfl, o7⟩
end Go.Proofs.Ytemhfaodgofcpaa
