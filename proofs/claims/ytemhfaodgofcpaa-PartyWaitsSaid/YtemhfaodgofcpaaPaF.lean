/-
  Layer 16: Say, Acked, Hear once more, told by their two ends; alive. Conditions: what waits can be read and is right.
-/
import Derived.Test.YtemhfaodgofcpaaPaE
set_option linter.unusedVariables false
set_option linter.unusedSimpArgs false
namespace Go.Proofs.Ytemhfaodgofcpaa
open Go.RowKit

theorem right_begin {rm : Int} (h1 : 1 ≤ rm) (h2 : rm ≤ 100) : RightO ⟨0, [], rm⟩ := ⟨fun i p hi hp => by simp at hp, ⟨h1, h2⟩, ⟨by simp, by simp⟩, by simp; omega⟩
theorem right_snoc {nx rm : Int} {L : List Pk} {t : ByteArray} (h : RightO ⟨nx, L, rm⟩) (hx : nx < 1048576) (hr : (L.length : Int) < rm) (ht : t.size ≤ 500) : RightO ⟨nx + 1, L ++ [⟨nx, t⟩], rm⟩ := by
  obtain ⟨h1, h2, h3, h4⟩ := h
  simp only at h1 h2 h3 h4
  refine ⟨fun i p hi hp => ?_, h2, ⟨by simp only; omega, by simp only; omega⟩, by simp; omega⟩
  simp only [List.length_append, List.length_singleton] at hi hp ⊢
  by_cases e : i < L.length
  · rw [List.getElem?_append_left e] at hp
    obtain ⟨a, b, c⟩ := h1 i p e hp
    exact ⟨a, by omega, c⟩
  · obtain rfl : i = L.length := by omega
    rw [List.getElem?_append_right (Nat.le_refl _), Nat.sub_self] at hp
    simp at hp
    subst hp
    exact ⟨h3.1, by simp only; omega, ht⟩
/-- Say takes the text. -/
theorem say_y (nx : Int) (A : Option Addr) (n c : Nat) (L : List Pk) (rm : Int) (t : ByteArray) (w : World) (h : RR w pcl 2 A n c L) (hR : RightO ⟨nx, L, rm⟩) (h5 : t.size ≤ 500) (hx : nx < 1048576) (hr : (n : Int) < rm) :
    Calls Try.prog 15 #[.agg (oA ⟨nx, A, n, c, rm⟩), .string t] w fun e w' => ∃ A' c' G, e = .returned (.tuple #[.agg (oA ⟨nx + 1, A', n + 1, c', rm⟩), .agg (pA ⟨nx, t⟩), .int .i64 0]) ∧ SO w.heap.size w' 30 pcl 2 A' (n + 1) c' (L ++ [⟨nx, t⟩]) G ∧ Below w.heap.size w w' := by
  have hl := h.len
  have he := say_0 (t := t) hR (by simp only; omega) (by simp only [hl]; omega)
  refine (say_c nx A n c L rm t w h hR).mono ?_
  rintro e w' ⟨A', n', c', G, rfl, hs, hb⟩
  have e1 : sSay ⟨nx, L, rm⟩ t = ⟨nx + 1, L ++ [⟨nx, t⟩], rm⟩ := by unfold sSay; rw [if_pos he]
  have e2 : pSay ⟨nx, L, rm⟩ t = ⟨nx, t⟩ := by unfold pSay; rw [if_pos he]
  rw [e1] at hs
  have hn := hs.len
  simp [hl] at hn
  subst hn
  exact ⟨A', c', G, by rw [e1, e2, he]; rfl, hs, hb⟩
/-- .. does not. -/
theorem say_n (nx : Int) (A : Option Addr) (n c : Nat) (L : List Pk) (rm : Int) (t : ByteArray) (w : World) (h : RR w pcl 2 A n c L) (hR : RightO ⟨nx, L, rm⟩) (k : Nat) (he : eSay ⟨nx, L, rm⟩ t = k) (hk : k ≠ 0) :
    Calls Try.prog 15 #[.agg (oA ⟨nx, A, n, c, rm⟩), .string t] w fun e w' => ∃ A' c' G, e = .returned (.tuple #[.agg (oA ⟨nx, A', n, c', rm⟩), .agg (pA zeroP), .int .i64 (k : Int)]) ∧ SO w.heap.size w' 30 pcl 2 A' n c' L G ∧ Below w.heap.size w w' := by
  have hl := h.len
  refine (say_c nx A n c L rm t w h hR).mono ?_
  rintro e w' ⟨A', n', c', G, rfl, hs, hb⟩
  subst he
  have e1 : sSay ⟨nx, L, rm⟩ t = ⟨nx, L, rm⟩ := by unfold sSay; rw [if_neg hk]
  have e2 : pSay ⟨nx, L, rm⟩ t = zeroP := by unfold pSay; rw [if_neg hk]; rfl
  rw [e1] at hs
  have hn := hs.len
  simp [hl] at hn
  subst hn
  exact ⟨A', c', G, by rw [e1, e2], hs, hb⟩
/-- Acked, told by its list. -/
theorem ack_y (nx : Int) (A : Option Addr) (n c : Nat) (L : List Pk) (rm : Int) (k : Int) (w : World) (h : RR w pcl 2 A n c L) (hR : RightO ⟨nx, L, rm⟩) (hk0 : 0 ≤ k) (hk1 : k ≤ nx) (M : List Pk) (hM : L.filter (fun p => decide (k ≤ p.seq)) = M) :
    Calls Try.prog 16 #[.agg (oA ⟨nx, A, n, c, rm⟩), .int .i64 k] w fun e w' => ∃ A' c' G, e = .returned (.tuple #[.agg (oA ⟨nx, A', M.length, c', rm⟩), .int .i64 0]) ∧ SO w.heap.size w' 30 pcl 2 A' M.length c' M G ∧ Below w.heap.size w w' := by
  subst hM
  refine (acked_c nx A n c L rm k w h hR hk0 hk1).mono ?_
  rintro e w' ⟨A', n', c', G, rfl, hs, hb⟩
  have he0 : eAck ⟨nx, L, rm⟩ k = 0 := by unfold eAck; rw [if_neg]; exact fun hx => hx.elim (fun h1 => h1 hR) (fun hx => hx.elim (fun h1 => by omega) (fun h1 => by have h2 : nx < k := h1; omega))
  have e1 : (sAck ⟨nx, L, rm⟩ k).wait = L.filter (fun p => decide (k ≤ p.seq)) := by unfold sAck; rw [if_pos he0]
  rw [e1] at hs
  have hn := hs.len
  subst hn
  exact ⟨A', c', G, rfl, hs, hb⟩
theorem hear_y (h : Int) (p : Pk) (w : World) (he : eHea h p = 0) : Calls Try.prog 9 #[.agg (hA h), .agg (pA p)] w fun e w' => e = .returned (.tuple #[.agg (hA (h + 1)), .string p.tx, .int .i64 0]) ∧ Below w.heap.size w w' := by
  refine (hear_c h p w).mono ?_
  rintro e w' ⟨h1, h2⟩
  obtain ⟨a, b⟩ := hea_z he
  rw [a, b, he] at h1
  exact ⟨h1, h2⟩
theorem hear_n (h : Int) (p : Pk) (k : Nat) (w : World) (he : eHea h p = k) (hk : k ≠ 0) : Calls Try.prog 9 #[.agg (hA h), .agg (pA p)] w fun e w' => e = .returned (.tuple #[.agg (hA h), .string ByteArray.empty, .int .i64 (k : Int)]) ∧ Below w.heap.size w w' := by
  refine (hear_c h p w).mono ?_
  rintro e w' ⟨h1, h2⟩
  obtain ⟨a, b⟩ := hea_n he hk
  rw [a, b, he] at h1
  exact ⟨h1, h2⟩
def bA_ : ByteArray := ⟨#[97]⟩
def bB_ : ByteArray := ⟨#[98]⟩
def bC_ : ByteArray := ⟨#[99]⟩
def P0 : Pk := ⟨0, bA_⟩
def P1 : Pk := ⟨1, bB_⟩
theorem right_1 : RightO ⟨1, [P0], 2⟩ := right_snoc (nx := 0) (L := []) (rm := 2) (t := bA_) (right_begin (by decide) (by decide)) (by decide) (by decide) (by decide)
theorem right_2 : RightO ⟨2, [P0, P1], 2⟩ := right_snoc (nx := 1) (L := [P0]) (rm := 2) (t := bB_) right_1 (by decide) (by decide) (by decide)
theorem right_3 : RightO ⟨2, [P1], 2⟩ := by
  refine ⟨fun i p hi hp => ?_, ⟨by decide, by decide⟩, ⟨by decide, by decide⟩, by decide⟩
  obtain rfl : i = 0 := by simp at hi; omega
  simp at hp
  subst hp
  exact ⟨by decide, by decide, by decide⟩
set_option maxRecDepth 100000 in
set_option maxHeartbeats 4000000 in
theorem alive_c (w : World) : Calls Try.prog 8 #[] w fun zz w' => zz = .returned (.bool true) ∧ Below w.heap.size w w' := by
  have S1 : ∀ W : World, Calls Try.prog 15 #[.agg (oA ⟨0, none, 0, 0, 2⟩), .string ⟨#[97]⟩] W (fun e w' => ∃ A' c' G, e = .returned (.tuple #[.agg (oA ⟨1, A', 1, c', 2⟩), .agg (pA P0), .int .i64 0]) ∧ SO W.heap.size w' 30 pcl 2 A' 1 c' [P0] G ∧ Below W.heap.size W w') := fun W => say_y 0 none 0 0 [] 2 bA_ W (RR.nil _ _ _) (right_begin (by decide) (by decide)) (by decide) (by decide) (by decide)
  have S2 : ∀ A c (W : World) (h : RR W pcl 2 A 1 c [P0]), Calls Try.prog 15 #[.agg (oA ⟨1, A, 1, c, 2⟩), .string ⟨#[98]⟩] W (fun e w' => ∃ A' c' G, e = .returned (.tuple #[.agg (oA ⟨2, A', 2, c', 2⟩), .agg (pA P1), .int .i64 0]) ∧ SO W.heap.size w' 30 pcl 2 A' 2 c' [P0, P1] G ∧ Below W.heap.size W w') := fun A c W h => say_y 1 A 1 c [P0] 2 bB_ W h right_1 (by decide) (by decide) (by decide)
  have S3 : ∀ A c (W : World) (h : RR W pcl 2 A 2 c [P0, P1]), Calls Try.prog 15 #[.agg (oA ⟨2, A, 2, c, 2⟩), .string ⟨#[99]⟩] W (fun e w' => ∃ A' c' G, e = .returned (.tuple #[.agg (oA ⟨2, A', 2, c', 2⟩), .agg (pA zeroP), .int .i64 6]) ∧ SO W.heap.size w' 30 pcl 2 A' 2 c' [P0, P1] G ∧ Below W.heap.size W w') := fun A c W h => say_n 2 A 2 c [P0, P1] 2 bC_ W h right_2 6 (say_6 right_2 (by decide) (by decide)) (by decide)
  have H1 : ∀ W : World, Calls Try.prog 9 #[.agg (hA 0), .agg (pA P1)] W (fun e w' => e = .returned (.tuple #[.agg (hA 0), .string ByteArray.empty, .int .i64 7]) ∧ Below W.heap.size W w') := fun W => hear_n 0 P1 7 W (by decide) (by decide)
  have H2 : ∀ W : World, Calls Try.prog 9 #[.agg (hA 0), .agg (pA P0)] W (fun e w' => e = .returned (.tuple #[.agg (hA 1), .string ⟨#[97]⟩, .int .i64 0]) ∧ Below W.heap.size W w') := fun W => hear_y 0 P0 W (by decide)
  have H3 : ∀ W : World, Calls Try.prog 9 #[.agg (hA 1), .agg (pA P0)] W (fun e w' => e = .returned (.tuple #[.agg (hA 1), .string ByteArray.empty, .int .i64 10]) ∧ Below W.heap.size W w') := fun W => hear_n 1 P0 10 W (by decide) (by decide)
  have K1 : ∀ A c (W : World) (h : RR W pcl 2 A 2 c [P0, P1]), Calls Try.prog 16 #[.agg (oA ⟨2, A, 2, c, 2⟩), .int .i64 1] W (fun e w' => ∃ A' c' G, e = .returned (.tuple #[.agg (oA ⟨2, A', 1, c', 2⟩), .int .i64 0]) ∧ SO W.heap.size w' 30 pcl 2 A' 1 c' [P1] G ∧ Below W.heap.size W w') := fun A c W h => ack_y 2 A 2 c [P0, P1] 2 1 W h right_2 (by decide) (by decide) [P1] (by simp [P0, P1])
  have R1 := fun A c W (h : RR W pcl 2 A 1 c [P1]) => right_t 2 A 1 c [P1] 2 W h right_3
  go_enter Try.func8, Try.ntmps8
  go_wp2_with (first | ((with_reducible refine st_builtn 39 2 _ (.int .i64 2) (oA ⟨0, none, 0, 0, 2⟩) ?_ ?_ ?_); exact rfl; exact built_or _))
  have lb1 : w.heap.size ≤ w.heap.size := Below.size (B := w.heap.size) (Below.refl _ _)
  (with_reducible refine (S1 _).mono ?_)
  rintro e w1 ⟨A1, c1, G1, rfl, so_s, b1⟩
  have l3 := le_tr (Below.refl _ _) b1
  clear b1
  have sm1_s := SO.mono so_s lb1
  clear so_s
  clear lb1 
  go_wp2_with (first | ((with_reducible refine st_alloc 39 (oA zeroO) ?_ ?_); exact zero_ou))
  refine ⟨fun V4 g4 n4 f4 => ?_⟩
  have no4_s := SO.fresh sm1_s (Nat.le_of_eq f4.at_)
  have up4 : w.heap.size ≤ g4 := f4.up l3
  have bl4 := f4.bel
  clear f4
  have r5_s := SO.on sm1_s bl4
  have l6 := le_tr l3 bl4
  clear l3
  clear sm1_s
  clear bl4
  go_wp2_with (first | ((with_reducible refine st_alloc 30 (pA zeroP) ?_ ?_); exact zero_pk))
  refine ⟨fun V7 g7 n7 f7 => ?_⟩
  have ne7_o := f7.ne n4
  have no7_s := SO.fresh r5_s (Nat.le_of_eq f7.at_)
  have up7 : w.heap.size ≤ g7 := f7.up l6
  have bl7 := f7.bel
  clear f7
  have r8_s := SO.on r5_s bl7
  have r9_o := le_on n4 bl7
  have l9 := le_tr l6 bl7
  clear n4 l6
  clear r5_s
  clear bl7
  go_wp2_with (first | ((with_reducible refine st_store 39 _ _ g4 (oA ⟨1, A1, 1, c1, 2⟩) ?_ ?_ r9_o ?_ ?_ ?_ ?_); exact rfl; exact rfl; exact Try.zOu; exact rfl; exact oA_one _))
  refine ⟨fun V10 n10 k10 => ?_⟩
  have m10_a := k10.on n7 (Ne.symm ne7_o)
  have m10_s := SO.wr r8_s k10 no4_s
  have o10 := k10.bel _ _ l9 up4
  clear k10
  clear r9_o n7 r8_s l9
  go_wp2_with (first | ((with_reducible refine st_store 30 _ _ g7 (pA P0) ?_ ?_ m10_a ?_ ?_ ?_ ?_); exact rfl; exact rfl; exact Try.zPk; exact rfl; exact pA_one _))
  refine ⟨fun V11 n11 k11 => ?_⟩
  have m11_o := k11.on n10 ne7_o
  have m11_s := SO.wr m10_s k11 no7_s
  have o11 := k11.bel _ _ o10 up7
  clear k11
  clear m10_a n10 m10_s o10
  go_wp2_with (first | ((with_reducible refine st_load 39 _ g4 ?_ m11_o Try.underlying39 ?_ ?_ ?_); exact rfl; exact rfl; exact Try.zOu))
  have lt12_o := CB.lt m11_o
  have lt12_a := CB.lt n11
  have lb12 : w.heap.size ≤ V11.heap.size := Below.size (B := w.heap.size) o11
  (with_reducible refine (S2 _ _ _ (m11_s).rr).mono ?_)
  rintro e w12 ⟨A2, c2, G2, rfl, so_t, b12⟩
  have r14_o := le_on m11_o b12
  have r14_a := le_on n11 b12
  have l14 := le_tr o11 b12
  clear m11_o n11 o11
  clear m11_s no4_s no7_s
  clear b12
  have na15 := SO.above so_t lt12_o
  have na16 := SO.above so_t lt12_a
  have sm12_t := SO.mono so_t lb12
  clear so_t
  clear lb12 lt12_o lt12_a
  go_wp2_with (first | ((with_reducible refine st_alloc 30 (pA zeroP) ?_ ?_); exact zero_pk))
  refine ⟨fun V17 g17 n17 f17 => ?_⟩
  have ne17_o := f17.ne r14_o
  have ne17_a := f17.ne r14_a
  have no17_t := SO.fresh sm12_t (Nat.le_of_eq f17.at_)
  have up17 : w.heap.size ≤ g17 := f17.up l14
  have bl17 := f17.bel
  clear f17
  have r18_t := SO.on sm12_t bl17
  have r19_o := le_on r14_o bl17
  have r19_a := le_on r14_a bl17
  have l19 := le_tr l14 bl17
  clear r14_o r14_a l14
  clear sm12_t
  clear bl17
  go_wp2_with (first | ((with_reducible refine st_store 39 _ _ g4 (oA ⟨2, A2, 2, c2, 2⟩) ?_ ?_ r19_o ?_ ?_ ?_ ?_); exact rfl; exact rfl; exact Try.zOu; exact rfl; exact oA_one _))
  refine ⟨fun V20 n20 k20 => ?_⟩
  have m20_a := k20.on r19_a (Ne.symm ne7_o)
  have m20_b := k20.on n17 (Ne.symm ne17_o)
  have m20_t := SO.wr r18_t k20 na15
  have o20 := k20.bel _ _ l19 up4
  clear k20
  clear r19_o r19_a n17 r18_t l19
  go_wp2_with (first | ((with_reducible refine st_store 30 _ _ g17 (pA P1) ?_ ?_ m20_b ?_ ?_ ?_ ?_); exact rfl; exact rfl; exact Try.zPk; exact rfl; exact pA_one _))
  refine ⟨fun V21 n21 k21 => ?_⟩
  have m21_o := k21.on n20 ne17_o
  have m21_a := k21.on m20_a ne17_a
  have m21_t := SO.wr m20_t k21 no17_t
  have o21 := k21.bel _ _ o20 up17
  clear k21
  clear m20_b n20 m20_a m20_t o20
  go_wp2_with (first | ((with_reducible refine st_load 39 _ g4 ?_ m21_o Try.underlying39 ?_ ?_ ?_); exact rfl; exact rfl; exact Try.zOu))
  (with_reducible refine (S3 _ _ _ (m21_t).rr).mono ?_)
  rintro e w22 ⟨A3, c3, G3, rfl, so_u, b22⟩
  have r23_t := SO.on m21_t b22
  have r24_o := le_on m21_o b22
  have r24_a := le_on m21_a b22
  have r24_b := le_on n21 b22
  have l24 := le_tr o21 b22
  clear m21_o m21_a n21 o21
  clear m21_t
  clear b22
  go_wp2_with (first | ((with_reducible refine st_alloc 39 (oA zeroO) ?_ ?_); exact zero_ou))
  refine ⟨fun V25 g25 n25 f25 => ?_⟩
  have ne25_o := f25.ne r24_o
  have ne25_a := f25.ne r24_a
  have ne25_b := f25.ne r24_b
  have no25_t := SO.fresh r23_t (Nat.le_of_eq f25.at_)
  have up25 : w.heap.size ≤ g25 := f25.up l24
  have bl25 := f25.bel
  clear f25
  have r26_t := SO.on r23_t bl25
  have r27_o := le_on r24_o bl25
  have r27_a := le_on r24_a bl25
  have r27_b := le_on r24_b bl25
  have l27 := le_tr l24 bl25
  clear r24_o r24_a r24_b l24
  clear r23_t
  clear bl25
  go_wp2_with (first | ((with_reducible refine st_alloc 30 (pA zeroP) ?_ ?_); exact zero_pk))
  refine ⟨fun V28 g28 n28 f28 => ?_⟩
  have ne28_o := f28.ne r27_o
  have ne28_a := f28.ne r27_a
  have ne28_b := f28.ne r27_b
  have ne28_x := f28.ne n25
  have no28_t := SO.fresh r26_t (Nat.le_of_eq f28.at_)
  have up28 : w.heap.size ≤ g28 := f28.up l27
  have bl28 := f28.bel
  clear f28
  have r29_t := SO.on r26_t bl28
  have r30_o := le_on r27_o bl28
  have r30_a := le_on r27_a bl28
  have r30_b := le_on r27_b bl28
  have r30_x := le_on n25 bl28
  have l30 := le_tr l27 bl28
  clear r27_o r27_a r27_b n25 l27
  clear r26_t
  clear bl28
  go_wp2_with (first | ((with_reducible refine st_store 39 _ _ g25 (oA ⟨2, A3, 2, c3, 2⟩) ?_ ?_ r30_x ?_ ?_ ?_ ?_); exact rfl; exact rfl; exact Try.zOu; exact rfl; exact oA_one _))
  refine ⟨fun V31 n31 k31 => ?_⟩
  have m31_o := k31.on r30_o ne25_o
  have m31_a := k31.on r30_a ne25_a
  have m31_b := k31.on r30_b ne25_b
  have m31_y := k31.on n28 (Ne.symm ne28_x)
  have m31_t := SO.wr r29_t k31 no25_t
  have o31 := k31.bel _ _ l30 up25
  clear k31
  clear r30_x r30_o r30_a r30_b n28 r29_t l30
  go_wp2_with (first | ((with_reducible refine st_store 30 _ _ g28 (pA zeroP) ?_ ?_ m31_y ?_ ?_ ?_ ?_); exact rfl; exact rfl; exact Try.zPk; exact rfl; exact pA_one _))
  refine ⟨fun V32 n32 k32 => ?_⟩
  have m32_o := k32.on m31_o ne28_o
  have m32_a := k32.on m31_a ne28_a
  have m32_b := k32.on m31_b ne28_b
  have m32_x := k32.on n31 ne28_x
  have m32_t := SO.wr m31_t k32 no28_t
  have o32 := k32.bel _ _ o31 up28
  clear k32
  clear m31_y m31_o m31_a m31_b n31 m31_t o31
  go_wp2_with (first | ((with_reducible refine st_built0 26 (hA 0) ?_ ?_); exact built_i0) | ((with_reducible refine st_load 30 _ g17 ?_ m32_b Try.underlying30 ?_ ?_ ?_); exact rfl; exact rfl; exact Try.zPk))
  (with_reducible refine (H1 _).mono ?_)
  rintro e w33 ⟨rfl, b33⟩
  have r34_t := SO.on m32_t b33
  have r35_o := le_on m32_o b33
  have r35_a := le_on m32_a b33
  have r35_b := le_on m32_b b33
  have r35_x := le_on m32_x b33
  have r35_y := le_on n32 b33
  have l35 := le_tr o32 b33
  clear m32_o m32_a m32_b m32_x n32 o32
  clear m32_t
  clear b33
  go_wp2_with (first | ((with_reducible refine st_alloc 26 (hA (0)) ?_ ?_); exact zero_in))
  refine ⟨fun V36 g36 n36 f36 => ?_⟩
  have ne36_o := f36.ne r35_o
  have ne36_a := f36.ne r35_a
  have ne36_b := f36.ne r35_b
  have ne36_x := f36.ne r35_x
  have ne36_y := f36.ne r35_y
  have no36_t := SO.fresh r34_t (Nat.le_of_eq f36.at_)
  have up36 : w.heap.size ≤ g36 := f36.up l35
  have bl36 := f36.bel
  clear f36
  have r37_t := SO.on r34_t bl36
  have r38_o := le_on r35_o bl36
  have r38_a := le_on r35_a bl36
  have r38_b := le_on r35_b bl36
  have r38_x := le_on r35_x bl36
  have r38_y := le_on r35_y bl36
  have l38 := le_tr l35 bl36
  clear r35_o r35_a r35_b r35_x r35_y l35
  clear r34_t
  clear bl36
  go_wp2_with (first | ((with_reducible refine st_store 26 _ _ g36 (hA (0)) ?_ ?_ n36 ?_ ?_ ?_ ?_); exact rfl; exact rfl; exact Try.zIn; exact rfl; exact hA_one _))
  refine ⟨fun V39 n39 k39 => ?_⟩
  have m39_o := k39.on r38_o ne36_o
  have m39_a := k39.on r38_a ne36_a
  have m39_b := k39.on r38_b ne36_b
  have m39_x := k39.on r38_x ne36_x
  have m39_y := k39.on r38_y ne36_y
  have m39_t := SO.wr r37_t k39 no36_t
  have o39 := k39.bel _ _ l38 up36
  clear k39
  clear n36 r38_o r38_a r38_b r38_x r38_y r37_t l38
  go_wp2_with (first | ((with_reducible refine st_built0 26 (hA 0) ?_ ?_); exact built_i0) | ((with_reducible refine st_load 30 _ g7 ?_ m39_a Try.underlying30 ?_ ?_ ?_); exact rfl; exact rfl; exact Try.zPk))
  (with_reducible refine (H2 _).mono ?_)
  rintro e w40 ⟨rfl, b40⟩
  have r41_t := SO.on m39_t b40
  have r42_o := le_on m39_o b40
  have r42_a := le_on m39_a b40
  have r42_b := le_on m39_b b40
  have r42_x := le_on m39_x b40
  have r42_y := le_on m39_y b40
  have r42_i := le_on n39 b40
  have l42 := le_tr o39 b40
  clear m39_o m39_a m39_b m39_x m39_y n39 o39
  clear m39_t
  clear b40
  go_wp2_with (first | ((with_reducible refine st_alloc 26 (hA (0)) ?_ ?_); exact zero_in))
  refine ⟨fun V43 g43 n43 f43 => ?_⟩
  have ne43_o := f43.ne r42_o
  have ne43_a := f43.ne r42_a
  have ne43_b := f43.ne r42_b
  have ne43_x := f43.ne r42_x
  have ne43_y := f43.ne r42_y
  have ne43_i := f43.ne r42_i
  have no43_t := SO.fresh r41_t (Nat.le_of_eq f43.at_)
  have up43 : w.heap.size ≤ g43 := f43.up l42
  have bl43 := f43.bel
  clear f43
  have r44_t := SO.on r41_t bl43
  have r45_o := le_on r42_o bl43
  have r45_a := le_on r42_a bl43
  have r45_b := le_on r42_b bl43
  have r45_x := le_on r42_x bl43
  have r45_y := le_on r42_y bl43
  have r45_i := le_on r42_i bl43
  have l45 := le_tr l42 bl43
  clear r42_o r42_a r42_b r42_x r42_y r42_i l42
  clear r41_t
  clear bl43
  go_wp2_with (first | ((with_reducible refine st_store 26 _ _ g43 (hA (1)) ?_ ?_ n43 ?_ ?_ ?_ ?_); exact rfl; exact rfl; exact Try.zIn; exact rfl; exact hA_one _))
  refine ⟨fun V46 n46 k46 => ?_⟩
  have m46_o := k46.on r45_o ne43_o
  have m46_a := k46.on r45_a ne43_a
  have m46_b := k46.on r45_b ne43_b
  have m46_x := k46.on r45_x ne43_x
  have m46_y := k46.on r45_y ne43_y
  have m46_i := k46.on r45_i ne43_i
  have m46_t := SO.wr r44_t k46 no43_t
  have o46 := k46.bel _ _ l45 up43
  clear k46
  clear n43 r45_o r45_a r45_b r45_x r45_y r45_i r44_t l45
  go_wp2_with (first | ((with_reducible refine st_load 26 _ g43 ?_ n46 Try.underlying26 ?_ ?_ ?_); exact rfl; exact rfl; exact Try.zIn) | ((with_reducible refine st_load 30 _ g7 ?_ m46_a Try.underlying30 ?_ ?_ ?_); exact rfl; exact rfl; exact Try.zPk))
  (with_reducible refine (H3 _).mono ?_)
  rintro e w47 ⟨rfl, b47⟩
  have r48_t := SO.on m46_t b47
  have r49_o := le_on m46_o b47
  have r49_a := le_on m46_a b47
  have r49_b := le_on m46_b b47
  have r49_x := le_on m46_x b47
  have r49_y := le_on m46_y b47
  have r49_i := le_on m46_i b47
  have r49_j := le_on n46 b47
  have l49 := le_tr o46 b47
  clear m46_o m46_a m46_b m46_x m46_y m46_i n46 o46
  clear m46_t
  clear b47
  go_wp2_with (first | ((with_reducible refine st_alloc 26 (hA (0)) ?_ ?_); exact zero_in))
  refine ⟨fun V50 g50 n50 f50 => ?_⟩
  have ne50_o := f50.ne r49_o
  have ne50_a := f50.ne r49_a
  have ne50_b := f50.ne r49_b
  have ne50_x := f50.ne r49_x
  have ne50_y := f50.ne r49_y
  have ne50_i := f50.ne r49_i
  have ne50_j := f50.ne r49_j
  have no50_t := SO.fresh r48_t (Nat.le_of_eq f50.at_)
  have up50 : w.heap.size ≤ g50 := f50.up l49
  have bl50 := f50.bel
  clear f50
  have r51_t := SO.on r48_t bl50
  have r52_o := le_on r49_o bl50
  have r52_a := le_on r49_a bl50
  have r52_b := le_on r49_b bl50
  have r52_x := le_on r49_x bl50
  have r52_y := le_on r49_y bl50
  have r52_i := le_on r49_i bl50
  have r52_j := le_on r49_j bl50
  have l52 := le_tr l49 bl50
  clear r49_o r49_a r49_b r49_x r49_y r49_i r49_j l49
  clear r48_t
  clear bl50
  go_wp2_with (first | ((with_reducible refine st_store 26 _ _ g50 (hA (1)) ?_ ?_ n50 ?_ ?_ ?_ ?_); exact rfl; exact rfl; exact Try.zIn; exact rfl; exact hA_one _))
  refine ⟨fun V53 n53 k53 => ?_⟩
  have m53_o := k53.on r52_o ne50_o
  have m53_a := k53.on r52_a ne50_a
  have m53_b := k53.on r52_b ne50_b
  have m53_x := k53.on r52_x ne50_x
  have m53_y := k53.on r52_y ne50_y
  have m53_i := k53.on r52_i ne50_i
  have m53_j := k53.on r52_j ne50_j
  have m53_t := SO.wr r51_t k53 no50_t
  have o53 := k53.bel _ _ l52 up50
  clear k53
  clear n50 r52_o r52_a r52_b r52_x r52_y r52_i r52_j r51_t l52
  go_wp2_with (first | ((with_reducible refine st_load 39 _ g4 ?_ m53_o Try.underlying39 ?_ ?_ ?_); exact rfl; exact rfl; exact Try.zOu))
  have lt54_o := CB.lt m53_o
  have lt54_a := CB.lt m53_a
  have lt54_b := CB.lt m53_b
  have lt54_x := CB.lt m53_x
  have lt54_y := CB.lt m53_y
  have lt54_i := CB.lt m53_i
  have lt54_j := CB.lt m53_j
  have lt54_k := CB.lt n53
  have lb54 : w.heap.size ≤ V53.heap.size := Below.size (B := w.heap.size) o53
  (with_reducible refine (K1 _ _ _ (m53_t).rr).mono ?_)
  rintro e w54 ⟨A4, c4, G4, rfl, so_v, b54⟩
  have r56_o := le_on m53_o b54
  have r56_a := le_on m53_a b54
  have r56_b := le_on m53_b b54
  have r56_x := le_on m53_x b54
  have r56_y := le_on m53_y b54
  have r56_i := le_on m53_i b54
  have r56_j := le_on m53_j b54
  have r56_k := le_on n53 b54
  have l56 := le_tr o53 b54
  clear m53_o m53_a m53_b m53_x m53_y m53_i m53_j n53 o53
  clear m53_t na15 na16 no17_t no25_t no28_t no36_t no43_t no50_t
  clear b54
  have na57 := SO.above so_v lt54_o
  have na58 := SO.above so_v lt54_a
  have na59 := SO.above so_v lt54_b
  have na60 := SO.above so_v lt54_x
  have na61 := SO.above so_v lt54_y
  have na62 := SO.above so_v lt54_i
  have na63 := SO.above so_v lt54_j
  have na64 := SO.above so_v lt54_k
  have sm54_v := SO.mono so_v lb54
  clear so_v
  clear lb54 lt54_o lt54_a lt54_b lt54_x lt54_y lt54_i lt54_j lt54_k
  go_wp2_with (first | ((with_reducible refine st_store 39 _ _ g4 (oA ⟨2, A4, 1, c4, 2⟩) ?_ ?_ r56_o ?_ ?_ ?_ ?_); exact rfl; exact rfl; exact Try.zOu; exact rfl; exact oA_one _))
  refine ⟨fun V65 n65 k65 => ?_⟩
  have m65_a := k65.on r56_a (Ne.symm ne7_o)
  have m65_b := k65.on r56_b (Ne.symm ne17_o)
  have m65_x := k65.on r56_x (Ne.symm ne25_o)
  have m65_y := k65.on r56_y (Ne.symm ne28_o)
  have m65_i := k65.on r56_i (Ne.symm ne36_o)
  have m65_j := k65.on r56_j (Ne.symm ne43_o)
  have m65_k := k65.on r56_k (Ne.symm ne50_o)
  have m65_v := SO.wr sm54_v k65 na57
  have o65 := k65.bel _ _ l56 up4
  clear k65
  clear r56_o r56_a r56_b r56_x r56_y r56_i r56_j r56_k sm54_v l56
  have c66 : V65.cell? ⟨g17, 0, none⟩ = some (.int .i64 1) := CB.cell m65_b 0
  have c67 : V65.cell? ⟨g4, 1, none⟩ = some (.slice A4 (1) c4) := CB.cell n65 1
  have qa : ((⟨#[97]⟩ : ByteArray) == (⟨#[97]⟩ : ByteArray)) = true := by decide
  go_wp2_with (first | (first | ((with_reducible refine st_load 39 _ g4 ?_ n65 Try.underlying39 ?_ ?_ ?_); exact rfl; exact rfl; exact Try.zOu) | ((with_reducible refine st_loadG 39 _ g4 ?_ n65 Try.underlying39 ?_ ?_ ?_ ?_); exact rfl; exact rfl; exact Try.zOu; exact rfl)))
  (with_reducible refine (R1 _ _ _ (m65_v).rr).mono ?_)
  rintro e w68 ⟨rfl, b68⟩
  clear c66 c67
  have r69_v := SO.on m65_v b68
  have r70_o := le_on n65 b68
  have r70_a := le_on m65_a b68
  have r70_b := le_on m65_b b68
  have r70_x := le_on m65_x b68
  have r70_y := le_on m65_y b68
  have r70_i := le_on m65_i b68
  have r70_j := le_on m65_j b68
  have r70_k := le_on m65_k b68
  have l70 := le_tr o65 b68
  clear n65 m65_a m65_b m65_x m65_y m65_i m65_j m65_k o65
  clear m65_v
  clear b68
  go_wp2_with fail
  go_ret
  exact ⟨rfl, l70⟩
end Go.Proofs.Ytemhfaodgofcpaa
