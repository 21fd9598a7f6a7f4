/-
  The law TallyOne, walked. Condition: the lists can be read.
-/
import Derived.Test.YtjooceaclfdjjaaTyL
set_option linter.unusedVariables false
set_option linter.unusedSimpArgs false
namespace Go.Proofs.Ytjooceaclfdjjaa
open Go.RowKit

set_option maxRecDepth 100000 in
set_option maxHeartbeats 4000000 in
theorem one_walk (A : Option Addr) (n c : Nat) (L : List Nat) (B : Option Addr) (m d : Nat) (V : List Nat) (w : World) (h : RR w uc 1 A n c L) (h2 : RR w uc 1 B m d V) : Calls Try.prog 7 #[.slice A n c, .slice B m d] w fun r w' => r = .returned (.bool true) ∧ Below w.heap.size w w' := by
  have hl := h.len
  have hl2 := h2.len
  have hmx : n ≤ maxLen := Nat.le_trans h.cap h.max
  have hmx2 : m ≤ maxLen := Nat.le_trans h2.cap h2.max
  simp only [maxLen] at hmx hmx2
  have ru := RU.start h
  have rv := RU.start h2
  clear h h2
  have N1 := fun W h => new_c A n c L W h
  by_cases h1 : 100 < n
  · have q1 : decide (100 < n) = true := by simp; omega
    have q1i : decide ((100 : Int) < (n : Int)) = true := by simp; omega
    go_enter Try.func7, Try.ntmps7
    go_wp2_with fail
    refine (alive_c _).mono ?_
    rintro e w1 ⟨rfl, b1⟩
    have r2_ru := (ru).on b1
    have r2_rv := (rv).on b1
    have l2 := le_tr (Below.refl _ _) b1
    clear ru rv
    clear b1
    go_wp2_with fail
    go_ret
    exact ⟨rfl, l2⟩
  have q1 : decide (100 < n) = false := by simp; omega
  have q1i : decide ((100 : Int) < (n : Int)) = false := by simp; omega
  by_cases h2 : 100 < m
  · have q2 : decide (100 < m) = true := by simp; omega
    have q2i : decide ((100 : Int) < (m : Int)) = true := by simp; omega
    go_enter Try.func7, Try.ntmps7
    go_wp2_with fail
    refine (alive_c _).mono ?_
    rintro e w1 ⟨rfl, b1⟩
    have r2_ru := (ru).on b1
    have r2_rv := (rv).on b1
    have l2 := le_tr (Below.refl _ _) b1
    clear ru rv
    clear b1
    go_wp2_with fail
    go_ret
    exact ⟨rfl, l2⟩
  have q2 : decide (100 < m) = false := by simp; omega
  have q2i : decide ((100 : Int) < (m : Int)) = false := by simp; omega
  by_cases ho : okL L
  · rw [sNew_0 ho, eNew_0 ho] at N1
    have HS0 := Lib.hid (one_start (V := V) ho)
    go_enter Try.func7, Try.ntmps7
    go_wp2_with fail
    refine (alive_c _).mono ?_
    rintro e w1 ⟨rfl, b1⟩
    have r2_ru := (ru).on b1
    have r2_rv := (rv).on b1
    have l2 := le_tr (Below.refl _ _) b1
    clear ru rv
    clear b1
    go_wp2_with fail
    refine (N1 _ (r2_ru).rr).mono ?_
    rintro e w3 ⟨rfl, b3⟩
    have r4_ru := (r2_ru).on b3
    have r4_rv := (r2_rv).on b3
    have l4 := le_tr l2 b3
    clear r2_ru r2_rv l2
    clear b3
    go_wp2_with (first | ((with_reducible refine st_alloc 30 (tA zeroY) ?_ ?_); exact zero_c))
    refine ⟨fun V5 g5 n5 f5 => ?_⟩
    have up5 : w.heap.size ≤ g5 := f5.up l4
    have bl5 := f5.bel
    clear f5
    have r6_ru := (r4_ru).on bl5
    have r6_rv := (r4_rv).on bl5
    have l6 := le_tr l4 bl5
    clear r4_ru r4_rv l4
    clear bl5
    go_wp2_with (first | ((with_reducible refine st_store 30 _ _ g5 (tA (Ty.mk (memF L) (fun _ => 0) (fun _ => 0))) ?_ ?_ n5 ?_ ?_ ?_ ?_); exact rfl; exact rfl; exact Try.zTc; exact rfl; exact tA_one _))
    refine ⟨fun V7 n7 k7 => ?_⟩
    have m7_ru := (r6_ru).wr k7 up5
    have m7_rv := (r6_rv).wr k7 up5
    have o7 := k7.bel _ _ l6 up5
    clear k7
    clear n5 r6_ru r6_rv l6
    go_wp2_with fail
    go_loopw [7, 8, 37] (fun yv nv iv wr => ∃ (k : Nat) (T : Ty), k ≤ n ∧ iv = .int .i64 k ∧ yv = .int .i64 ((cY V k : Nat) : Int) ∧ nv = .int .i64 ((cN V k : Nat) : Int) ∧ Hid (OneI L V k T) ∧ CB wr g5 30 (tA T) ∧ RU w wr A n c L ∧ RU w wr B m d V ∧ Below w.heap.size w wr) (fun _ _ iv _ => n - (intOf iv).toNat)
    case atStart => exact ⟨0, _, by omega, rfl, rfl, rfl, HS0, n7, m7_ru, m7_rv, o7⟩
    case round =>
      clear n7 m7_ru m7_rv o7 HS0 N1
      obtain ⟨k, T, hk, rfl, rfl, rfl, HT, ht, hu, hv, hb⟩ := hrel
      by_cases hlt : k < n
      · have l1 : (k : Int) < n := by omega
        have l2 : (0 : Int) ≤ (k : Int) := by omega
        obtain ⟨ga, ofa, x, hx, hA, cx⟩ := hu.rr.u8 hlt
        have hcy := cntB_le (fun i => vo V i == 1) k
        have hcn := cntB_le (fun i => vo V i == 2) k
        have hz3 := vo_lt V k
        have hw1 : IntKind.i64.wrap (1 + (k : Int)) = 1 + (k : Int) := IntWalk.i64_in _ (by omega)
        have hsk := Lib.hid (fun h => one_skip (V := V) ho hx HT.out h)
        have hpt := Lib.hid (fun h => one_put (V := V) ho hx (show k ≤ 100 by omega) HT.out h)
        clear hx HT ho
        have P1 := fun z W => put_c T x (1 + (k : Int)) z W
        obtain ⟨p, hp⟩ : ∃ p, cY V k = p := ⟨_, rfl⟩
        obtain ⟨q, hq⟩ : ∃ q, cN V k = q := ⟨_, rfl⟩
        rw [show cntB (fun i => vo V i == 1) k = p from hp] at hcy
        rw [show cntB (fun i => vo V i == 2) k = q from hq] at hcn
        rw [hp, hq]
        by_cases hm : m ≤ k
        · have hz : vo V k = 0 := by unfold vo; rw [if_neg (by omega)]
          subst hA
          have q3 : decide (k < m) = false := by simp; omega
          have q3i : decide ((k : Int) < (m : Int)) = false := by simp; omega
          have HY := Lib.hid (show cY V (k + 1) = p by unfold cY at hp ⊢; rw [cntB_no (by simp [hz])]; omega)
          have HN := Lib.hid (show cN V (k + 1) = q by unfold cN at hq ⊢; rw [cntB_no (by simp [hz])]; omega)
          have HT2 := Lib.hid (hsk.out hz)
          clear hp hq hz hsk hpt hz3 P1
          go_wp2_with fail
          go_roundw
          case rel => exact ⟨k + 1, T, by omega, by go_num, by rw [HY.out] <;> go_num, by rw [HN.out] <;> go_num, HT2, ht, hu, hv, hb⟩
          case measure => simp [intOf]; omega
        have hkm : k < m := by omega
        have q3 : decide (k < m) = true := by simp; omega
        have q3i : decide ((k : Int) < (m : Int)) = true := by simp; omega
        have l3 : (k : Int) < m := by omega
        obtain ⟨gb, ofb, y, hy, hB, cy⟩ := hv.rr.u8 hkm
        have hzy : vo V k = y % 3 := by unfold vo; rw [if_pos (by omega)]; simp [List.getD, hy]
        have hty : (y : Int).tmod 3 = ((vo V k : Nat) : Int) := by rw [Int.tmod_eq_emod_of_nonneg (by omega), hzy]; omega
        clear hy hzy
        subst hA hB
        obtain ⟨z, hz⟩ : ∃ z, vo V k = z := ⟨_, rfl⟩
        rw [hz] at hty hz3
        obtain rfl | rfl | rfl : z = 0 ∨ z = 1 ∨ z = 2 := by omega
        · have hty : (y : Int).tmod 3 = 0 := hty

          have HY := Lib.hid (show cY V (k + 1) = p by unfold cY at hp ⊢; rw [cntB_no (by simp [hz])]; omega)
          have HN := Lib.hid (show cN V (k + 1) = q by unfold cN at hq ⊢; rw [cntB_no (by simp [hz])]; omega)
          have HT2 := Lib.hid (hsk.out hz)
          clear hp hq hz hsk hpt hz3 P1
          go_wp2_with fail
          go_roundw
          case rel => exact ⟨k + 1, T, by omega, by go_num, by rw [HY.out] <;> go_num, by rw [HN.out] <;> go_num, HT2, ht, hu, hv, hb⟩
          case measure => simp [intOf]; omega
        · have hty : (y : Int).tmod 3 = 1 := hty

          have HY := Lib.hid (show cY V (k + 1) = p + 1 by unfold cY at hp ⊢; rw [cntB_yes (by simp [hz])]; omega)
          have HN := Lib.hid (show cN V (k + 1) = q by unfold cN at hq ⊢; rw [cntB_no (by simp [hz])]; omega)
          have HP := hpt.out (by omega)
          rw [hz] at HP
          have HT2 := Lib.hid HP.2
          have P2 := fun W => P1 ((1 : Nat) : Int) W
          rw [HP.1] at P2
          clear P1 HP hp hq hz hsk hpt hz3
          obtain ⟨U, hU⟩ : ∃ U, sPut T x (1 + (k : Int)) ((1 : Nat) : Int) = U := ⟨_, rfl⟩
          rw [hU] at P2 HT2
          clear hU
          go_wp2_with (first | (first | ((with_reducible refine st_load 30 _ g5 ?_ ht Try.underlying30 ?_ ?_ ?_); exact rfl; exact rfl; exact Try.zTc) | ((with_reducible refine st_loadG 30 _ g5 ?_ ht Try.underlying30 ?_ ?_ ?_ ?_); exact rfl; exact rfl; exact Try.zTc; exact rfl)))
          refine (P2 _).mono ?_
          rintro e w101 ⟨rfl, b101⟩
          have r102_t := le_on ht b101
          have r102_ru := (hu).on b101
          have r102_rv := (hv).on b101
          have l102 := le_tr hb b101
          clear ht hu hv hb
          clear b101
          go_wp2_with (first | ((with_reducible refine st_alloc 30 (tA zeroY) ?_ ?_); exact zero_c))
          refine ⟨fun V103 g103 n103 f103 => ?_⟩
          have ne103_t := f103.ne r102_t
          have up103 : w.heap.size ≤ g103 := f103.up l102
          have bl103 := f103.bel
          clear f103
          have r104_t := le_on r102_t bl103
          have r104_ru := (r102_ru).on bl103
          have r104_rv := (r102_rv).on bl103
          have l104 := le_tr l102 bl103
          clear r102_t r102_ru r102_rv l102
          clear bl103
          go_wp2_with (first | ((with_reducible refine st_store 30 _ _ g103 (tA U) ?_ ?_ n103 ?_ ?_ ?_ ?_); exact rfl; exact rfl; exact Try.zTc; exact rfl; exact tA_one _))
          refine ⟨fun V105 n105 k105 => ?_⟩
          have m105_t := k105.on r104_t ne103_t
          have m105_ru := (r104_ru).wr k105 up103
          have m105_rv := (r104_rv).wr k105 up103
          have o105 := k105.bel _ _ l104 up103
          clear k105
          clear n103 r104_t r104_ru r104_rv l104
          go_wp2_with (first | (first | ((with_reducible refine st_load 30 _ g103 ?_ n105 Try.underlying30 ?_ ?_ ?_); exact rfl; exact rfl; exact Try.zTc) | ((with_reducible refine st_loadG 30 _ g103 ?_ n105 Try.underlying30 ?_ ?_ ?_ ?_); exact rfl; exact rfl; exact Try.zTc; exact rfl)) | ((with_reducible refine st_store 30 _ _ g5 (tA U) ?_ ?_ m105_t ?_ ?_ ?_ ?_); exact rfl; exact rfl; exact Try.zTc; exact rfl; exact tA_one _))
          refine ⟨fun V106 n106 k106 => ?_⟩
          have m106_x := k106.on n105 (Ne.symm ne103_t)
          have m106_ru := (m105_ru).wr k106 up5
          have m106_rv := (m105_rv).wr k106 up5
          have o106 := k106.bel _ _ o105 up5
          clear k106
          clear m105_t n105 m105_ru m105_rv o105
          go_wp2_with fail
          go_roundw
          case rel => exact ⟨k + 1, U, by omega, by go_num, by rw [HY.out] <;> go_num, by rw [HN.out] <;> go_num, HT2, n106, m106_ru, m106_rv, o106⟩
          case measure => simp [intOf]; omega
        · have hty : (y : Int).tmod 3 = 2 := hty

          have HY := Lib.hid (show cY V (k + 1) = p by unfold cY at hp ⊢; rw [cntB_no (by simp [hz])]; omega)
          have HN := Lib.hid (show cN V (k + 1) = q + 1 by unfold cN at hq ⊢; rw [cntB_yes (by simp [hz])]; omega)
          have HP := hpt.out (by omega)
          rw [hz] at HP
          have HT2 := Lib.hid HP.2
          have P2 := fun W => P1 ((2 : Nat) : Int) W
          rw [HP.1] at P2
          clear P1 HP hp hq hz hsk hpt hz3
          obtain ⟨U, hU⟩ : ∃ U, sPut T x (1 + (k : Int)) ((2 : Nat) : Int) = U := ⟨_, rfl⟩
          rw [hU] at P2 HT2
          clear hU
          go_wp2_with (first | (first | ((with_reducible refine st_load 30 _ g5 ?_ ht Try.underlying30 ?_ ?_ ?_); exact rfl; exact rfl; exact Try.zTc) | ((with_reducible refine st_loadG 30 _ g5 ?_ ht Try.underlying30 ?_ ?_ ?_ ?_); exact rfl; exact rfl; exact Try.zTc; exact rfl)))
          refine (P2 _).mono ?_
          rintro e w101 ⟨rfl, b101⟩
          have r102_t := le_on ht b101
          have r102_ru := (hu).on b101
          have r102_rv := (hv).on b101
          have l102 := le_tr hb b101
          clear ht hu hv hb
          clear b101
          go_wp2_with (first | ((with_reducible refine st_alloc 30 (tA zeroY) ?_ ?_); exact zero_c))
          refine ⟨fun V103 g103 n103 f103 => ?_⟩
          have ne103_t := f103.ne r102_t
          have up103 : w.heap.size ≤ g103 := f103.up l102
          have bl103 := f103.bel
          clear f103
          have r104_t := le_on r102_t bl103
          have r104_ru := (r102_ru).on bl103
          have r104_rv := (r102_rv).on bl103
          have l104 := le_tr l102 bl103
          clear r102_t r102_ru r102_rv l102
          clear bl103
          go_wp2_with (first | ((with_reducible refine st_store 30 _ _ g103 (tA U) ?_ ?_ n103 ?_ ?_ ?_ ?_); exact rfl; exact rfl; exact Try.zTc; exact rfl; exact tA_one _))
          refine ⟨fun V105 n105 k105 => ?_⟩
          have m105_t := k105.on r104_t ne103_t
          have m105_ru := (r104_ru).wr k105 up103
          have m105_rv := (r104_rv).wr k105 up103
          have o105 := k105.bel _ _ l104 up103
          clear k105
          clear n103 r104_t r104_ru r104_rv l104
          go_wp2_with (first | (first | ((with_reducible refine st_load 30 _ g103 ?_ n105 Try.underlying30 ?_ ?_ ?_); exact rfl; exact rfl; exact Try.zTc) | ((with_reducible refine st_loadG 30 _ g103 ?_ n105 Try.underlying30 ?_ ?_ ?_ ?_); exact rfl; exact rfl; exact Try.zTc; exact rfl)) | ((with_reducible refine st_store 30 _ _ g5 (tA U) ?_ ?_ m105_t ?_ ?_ ?_ ?_); exact rfl; exact rfl; exact Try.zTc; exact rfl; exact tA_one _))
          refine ⟨fun V106 n106 k106 => ?_⟩
          have m106_x := k106.on n105 (Ne.symm ne103_t)
          have m106_ru := (m105_ru).wr k106 up5
          have m106_rv := (m105_rv).wr k106 up5
          have o106 := k106.bel _ _ o105 up5
          clear k106
          clear m105_t n105 m105_ru m105_rv o105
          go_wp2_with fail
          go_roundw
          case rel => exact ⟨k + 1, U, by omega, by go_num, by rw [HY.out] <;> go_num, by rw [HN.out] <;> go_num, HT2, n106, m106_ru, m106_rv, o106⟩
          case measure => simp [intOf]; omega
      obtain rfl : k = n := by omega
      have O1 := fun W => out_c T W
      rw [one_out ho hl HT.out] at O1
      clear HT ho
      obtain ⟨p, hp⟩ : ∃ p, cY V k = p := ⟨_, rfl⟩
      obtain ⟨q, hq⟩ : ∃ q, cN V k = q := ⟨_, rfl⟩
      rw [hp, hq] at O1 ⊢
      clear hp hq
      by_cases hq0 : 0 < q
      · rw [if_pos hq0] at O1
        have q5 : decide (0 < q) = true := by simp; omega
        have q5i : decide ((0 : Int) < (q : Int)) = true := by simp; omega
        clear hq0
        go_wp2_with (first | (first | ((with_reducible refine st_load 30 _ g5 ?_ ht Try.underlying30 ?_ ?_ ?_); exact rfl; exact rfl; exact Try.zTc) | ((with_reducible refine st_loadG 30 _ g5 ?_ ht Try.underlying30 ?_ ?_ ?_ ?_); exact rfl; exact rfl; exact Try.zTc; exact rfl)))
        refine (O1 _).mono ?_
        rintro e w101 ⟨rfl, b101⟩
        have r102_t := le_on ht b101
        have r102_ru := (hu).on b101
        have r102_rv := (hv).on b101
        have l102 := le_tr hb b101
        clear ht hu hv hb
        clear b101
        go_wp2_with fail
        go_ret
        exact ⟨rfl, l102⟩
      rw [if_neg hq0] at O1
      have q5 : decide (0 < q) = false := by simp; omega
      have q5i : decide ((0 : Int) < (q : Int)) = false := by simp; omega
      clear hq0
      by_cases hpn : p = k
      · rw [if_pos hpn] at O1
        subst hpn
        go_wp2_with (first | (first | ((with_reducible refine st_load 30 _ g5 ?_ ht Try.underlying30 ?_ ?_ ?_); exact rfl; exact rfl; exact Try.zTc) | ((with_reducible refine st_loadG 30 _ g5 ?_ ht Try.underlying30 ?_ ?_ ?_ ?_); exact rfl; exact rfl; exact Try.zTc; exact rfl)))
        refine (O1 _).mono ?_
        rintro e w101 ⟨rfl, b101⟩
        have r102_t := le_on ht b101
        have r102_ru := (hu).on b101
        have r102_rv := (hv).on b101
        have l102 := le_tr hb b101
        clear ht hu hv hb
        clear b101
        go_wp2_with fail
        go_ret
        exact ⟨rfl, l102⟩
      rw [if_neg hpn] at O1
      have q6 : (p == k) = false := by simp [hpn]
      have q6i : ((p : Int) == (k : Int)) = false := by simp; omega
      clear hpn
      go_wp2_with (first | (first | ((with_reducible refine st_load 30 _ g5 ?_ ht Try.underlying30 ?_ ?_ ?_); exact rfl; exact rfl; exact Try.zTc) | ((with_reducible refine st_loadG 30 _ g5 ?_ ht Try.underlying30 ?_ ?_ ?_ ?_); exact rfl; exact rfl; exact Try.zTc; exact rfl)))
      refine (O1 _).mono ?_
      rintro e w101 ⟨rfl, b101⟩
      have r102_t := le_on ht b101
      have r102_ru := (hu).on b101
      have r102_rv := (hv).on b101
      have l102 := le_tr hb b101
      clear ht hu hv hb
      clear b101
      go_wp2_with fail
      go_ret
      exact ⟨rfl, l102⟩
  rw [sNew_2 ho, eNew_2 ho] at N1
  clear ho
  have hE : ∀ V, (Op.equalIn 10000 30 (.agg (tA zeroY)) (.agg #[.bool false, .bool false, .bool false, .bool false, .bool false, .bool false, .bool false, .bool false, .int .i64 0, .int .i64 0, .int .i64 0, .int .i64 0, .int .i64 0, .int .i64 0, .int .i64 0, .int .i64 0, .int .i64 0, .int .i64 0, .int .i64 0, .int .i64 0, .int .i64 0, .int .i64 0, .int .i64 0, .int .i64 0])).run Try.prog V = .ok true V := fun V => by have := eq_tc zeroY zeroY V; rw [eqY_refl] at this; exact this
  go_enter Try.func7, Try.ntmps7
  go_wp2_with fail
  refine (alive_c _).mono ?_
  rintro e w1 ⟨rfl, b1⟩
  have r2_ru := (ru).on b1
  have r2_rv := (rv).on b1
  have l2 := le_tr (Below.refl _ _) b1
  clear ru rv
  clear b1
  go_wp2_with fail
  refine (N1 _ (r2_ru).rr).mono ?_
  rintro e w3 ⟨rfl, b3⟩
  have r4_ru := (r2_ru).on b3
  have r4_rv := (r2_rv).on b3
  have l4 := le_tr l2 b3
  clear r2_ru r2_rv l2
  clear b3
  go_wp2_with (first | ((with_reducible refine st_alloc 30 (tA zeroY) ?_ ?_); exact zero_c))
  refine ⟨fun V5 g5 n5 f5 => ?_⟩
  have up5 : w.heap.size ≤ g5 := f5.up l4
  have bl5 := f5.bel
  clear f5
  have r6_ru := (r4_ru).on bl5
  have r6_rv := (r4_rv).on bl5
  have l6 := le_tr l4 bl5
  clear r4_ru r4_rv l4
  clear bl5
  go_wp2_with (first | ((with_reducible refine st_store 30 _ _ g5 (tA zeroY) ?_ ?_ n5 ?_ ?_ ?_ ?_); exact rfl; exact rfl; exact Try.zTc; exact rfl; exact tA_one _))
  refine ⟨fun V7 n7 k7 => ?_⟩
  have m7_ru := (r6_ru).wr k7 up5
  have m7_rv := (r6_rv).wr k7 up5
  have o7 := k7.bel _ _ l6 up5
  clear k7
  clear n5 r6_ru r6_rv l6
  go_wp2_with (first | (first | ((with_reducible refine st_load 30 _ g5 ?_ n7 Try.underlying30 ?_ ?_ ?_); exact rfl; exact rfl; exact Try.zTc) | ((with_reducible refine st_loadG 30 _ g5 ?_ n7 Try.underlying30 ?_ ?_ ?_ ?_); exact rfl; exact rfl; exact Try.zTc; exact rfl)))
  go_ret
  exact ⟨rfl, o7⟩
end Go.Proofs.Ytjooceaclfdjjaa
