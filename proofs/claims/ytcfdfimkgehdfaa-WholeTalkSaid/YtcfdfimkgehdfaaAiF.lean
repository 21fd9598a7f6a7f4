/-
  Package air: Take, Again. Conditions: the air is one that New made, or one that no call made.
-/
import Derived.Test.YtcfdfimkgehdfaaAiE
set_option linter.unusedVariables false
set_option linter.unusedSimpArgs false
namespace Go.Proofs.Ytcfdfimkgehdfaa
open Go.RowKit

theorem eAt_2 {Q : Qs} {t : Nat} {k : Int} (h : 17 ≤ t) : eAt Q t k = 2 := if_pos h
theorem eAt_7 {Q : Qs} {t : Nat} {k : Int} (h : ¬ 17 ≤ t) (h2 : ¬ (0 ≤ k ∧ k < (Q t).length)) : eAt Q t k = 7 := (if_neg h).trans (if_neg h2)
theorem eAt_0 {Q : Qs} {t : Nat} {k : Int} (h : ¬ 17 ≤ t) (h2 : 0 ≤ k ∧ k < (Q t).length) : eAt Q t k = 0 := (if_neg h).trans (if_pos h2)
theorem eAg_n {room : Nat} {Q : Qs} {t : Nat} {k : Int} {q : Nat} (h : eAt Q t k = q) (h0 : ¬ q = 0) : eAg room Q t k = q ∧ sAg room Q t k = Q := by
  subst h
  have e : eAg room Q t k = eAt Q t k := if_neg h0
  exact ⟨e, by unfold sAg; rw [e, if_neg h0]⟩
theorem eAg_6 {room : Nat} {Q : Qs} {t : Nat} {k : Int} (h : eAt Q t k = 0) (h6 : room ≤ (Q t).length) : eAg room Q t k = 6 ∧ sAg room Q t k = Q := by
  have e : eAg room Q t k = 6 := (if_pos h).trans (if_pos h6)
  exact ⟨e, by unfold sAg; rw [e, if_neg (by decide)]⟩
theorem eAg_0 {room : Nat} {Q : Qs} {t : Nat} {k : Int} (h : eAt Q t k = 0) (h6 : ¬ room ≤ (Q t).length) : eAg room Q t k = 0 ∧ sAg room Q t k = updQ Q t (Q t ++ [xTk Q t k]) := by
  have e : eAg room Q t k = 0 := (if_pos h).trans (if_neg h6)
  exact ⟨e, by unfold sAg; rw [if_pos e]⟩
theorem eTn_n {Q : Qs} {t : Nat} {k : Int} {p : Nat} {y : UInt8} {q : Nat} (h : eAt Q t k = q) (h0 : ¬ q = 0) : eTn Q t k = q ∧ sTn Q t k p y = Q := by
  subst h
  have e : eTn Q t k = eAt Q t k := if_neg h0
  exact ⟨e, by unfold sTn; rw [e, if_neg h0]⟩
theorem eTn_7 {Q : Qs} {t : Nat} {k : Int} {p : Nat} {y : UInt8} (h : eAt Q t k = 0) (h6 : (xTk Q t k).b.length = 0) : eTn Q t k = 7 ∧ sTn Q t k p y = Q := by
  have e : eTn Q t k = 7 := (if_pos h).trans (if_pos h6)
  exact ⟨e, by unfold sTn; rw [e, if_neg (by decide)]⟩
theorem xTk_is {Q : Qs} {Ls : Nat → List Lm} (hq : ∀ t, t < 17 → (Ls t).map Lm.lt = Q t) {t k : Nat} (ht : t < 17) {x : Lm} (hx : (Ls t)[k]? = some x) (he : eAt Q t (k : Int) = 0) : xTk Q t (k : Int) = x.lt := by
  have := xTk_at he
  rw [← hq t ht, List.getElem?_map, show ((k : Int)).toNat = k by simp, hx] at this
  simpa using this.symm
set_option maxRecDepth 100000 in
set_option maxHeartbeats 4000000 in
theorem take_c (S : Nat → Prop) (ba room : Nat) (Q : Qs) (t : Nat) (i : Int) (w : World) (h : AO S ba room Q w) : Calls Try.prog 17 #[.pointer (some ⟨ba, 0, none⟩), .int .u8 (t : Int), .int .i64 i] w (TPost w S ba room Q t i) := by
  obtain ⟨⟨rb, sl, Ls, hA, hq, hS⟩, hrm, hok⟩ := h.ok
  have hlt := h.lt
  have hln : ∀ t, t < 17 → (Ls t).length = (Q t).length := fun t ht => by rw [← hq t ht, List.length_map]
  have hsl : ∀ t, t < 17 → (sl t).2.1 = (Q t).length := fun t ht => by rw [← hln t ht]; exact (hA.ring t ht).len.symm
  have hl := AL.start hA
  by_cases ht : t < 17
  · skip
    have hg := hsl t ht
    by_cases hk : 0 ≤ i ∧ i < ((Q t).length : Int)
    · skip
      obtain ⟨k, rfl⟩ : ∃ k : Nat, i = (k : Int) := ⟨i.toNat, by omega⟩
      have hkn : k < (sl t).2.1 := by omega
      obtain ⟨x, hxk⟩ : ∃ x, (Ls t)[k]? = some x := ⟨_, List.getElem?_eq_getElem (show k < (Ls t).length by rw [hln t ht]; omega)⟩
      have hE := eAt_0 (Q := Q) (t := t) (k := (k : Int)) (by omega) hk
      have hxq := xTk_is hq ht hxk hE
      have hxb := hA.byt t ht x (List.mem_of_getElem? hxk)
      have HE := Lib.hid hE
      have hm9 : (sl t).2.1 ≤ 1000 := by have := (hok t).1; omega
      clear hE hxq
      go_enter Try.func17, Try.ntmps17
      go_wp2_with (first | ((with_reducible refine st_alloc 40 (lA zeroL) ?_ ?_); exact zero_lc))
      refine ⟨fun V1 g1 n1 f1 => ?_⟩
      have up1 : w.heap.size ≤ g1 := Nat.le_of_eq f1.at_
      have bl1 := f1.bel
      clear f1
      have r3_al := (hl).on bl1
      have l3 := le_tr (Below.refl _ _) bl1
      clear hl
      clear bl1
      go_wp2_with fail
      (with_reducible refine (afind_y ba room rb sl Ls t _ r3_al.as_ hrm.1 ht k x hxk hkn).mono ?_)
      rintro e w4 ⟨rfl, b4⟩
      have r6_r := le_on n1 b4
      have r6_al := (r3_al).on b4
      have l6 := le_tr l3 b4
      clear n1 r3_al l3
      clear b4
      go_wp2_with (first | ((with_reducible refine st_alloc 40 (lA zeroL) ?_ ?_); exact zero_lc))
      refine ⟨fun V7 g7 n7 f7 => ?_⟩
      have ne7_r := f7.ne r6_r
      have up7 : w.heap.size ≤ g7 := f7.up l6
      have bl7 := f7.bel
      clear f7
      have r9_r := le_on r6_r bl7
      have r9_al := (r6_al).on bl7
      have l9 := le_tr l6 bl7
      clear r6_r r6_al l6
      clear bl7
      go_wp2_with (first | ((with_reducible refine st_store 40 _ _ g7 (lA x) ?_ ?_ n7 ?_ ?_ ?_ ?_); exact rfl; exact rfl; exact Try.zLc; exact rfl; exact lA_one _))
      refine ⟨fun V10 n10 k10 => ?_⟩
      have m10_r := k10.on r9_r ne7_r
      have m10_al := (r9_al).wr k10 up7
      have o10 := k10.bel _ _ l9 up7
      clear k10
      clear n7 r9_r r9_al l9
      go_wp2_with fail
      have y11 := Lib.hid (show (fun V : World => CB V g7 40 (lA x)) V10.drew from CB.drew n10)
      refine wp_region_held_drew (S := (fun V : World => CB V g7 40 (lA x))) (by kernel_rfl) y11.out (fun hHeld => ?_)
      obtain ⟨D11, hD11⟩ : ∃ V, V10.drew = V := ⟨_, rfl⟩
      have b11 : Below V10.heap.size V10 D11 := by rw [← hD11]; exact le_dr (Below.refl _ _)
      rw [hD11] at hHeld ⊢
      clear hD11
      have r13_r := le_on m10_r b11
      have r13_l := le_on n10 b11
      have r13_al := (m10_al).on b11
      have l13 := le_tr o10 b11
      clear m10_r n10 m10_al o10
      clear b11
      refine wpAnyH_takeL (i := 0) (d := some 23) (v := .agg (lA x)) rfl rfl (by kernel_rfl) (by kernel_rfl) (by kernel_rfl) (fun _ _ _ h => h) (Or.inl ⟨by rfl, ?_⟩) hHeld ?_
      · intro w hSw; exact yl_whole 40 _ g7 rfl hSw Try.underlying40 rfl Try.zLc
      try simp only [Act.put, List.setIfInBounds_toArray, List.set_cons_zero, List.set_cons_succ]
      refine wpAnyH_takeL (i := 1) (d := some 24) (v := .pointer (some ⟨rb t, 0, none⟩)) rfl rfl (by kernel_rfl) (by kernel_rfl) (by kernel_rfl) (fun _ _ _ h => h) (Or.inl ⟨by rfl, ?_⟩) hHeld ?_
      · intro w hSw; (try dsimp only at hSw); go_simp
      try simp only [Act.put, List.setIfInBounds_toArray, List.set_cons_zero, List.set_cons_succ]
      refine wpAnyH_takeL (i := 2) (d := some 25) (v := .int .i64 (k : Int)) rfl rfl (by kernel_rfl) (by kernel_rfl) (by kernel_rfl) (fun _ _ _ h => h) (Or.inl ⟨by rfl, ?_⟩) hHeld ?_
      · intro w hSw; (try dsimp only at hSw); go_simp
      try simp only [Act.put, List.setIfInBounds_toArray, List.set_cons_zero, List.set_cons_succ]
      refine wpAnyH_ready (rs := [3]) (by kernel_rfl) (by simp) ?_
      refine AllReadyH.cons rfl (fun K hK => ?_) AllReadyH.nil
      go_simp
      have hgr := r13_al.as_.ring t ht
      (with_reducible refine (drop_y (rb t) room (sl t).1 (sl t).2.1 (sl t).2.2 (Ls t) k _ hgr hrm.1 hrm.2 hkn hm9).mono ?_)
      intro e u9 gp
      have hd9 := TPost.dropped (h.on l13) r13_al.as_ hq hS ht hxk (Below.refl _ _) gp
      clear gp hgr
      obtain ⟨rfl, tp9, ou9⟩ := hd9
      have q9_r := ou9.box r13_r (r13_al.ng ht up1)
      have lt9 := CB.lt r13_r
      have q9_l := ou9.box r13_l (r13_al.ng ht up7)
      have bl9 := l13
      clear ou9 r13_al r13_r r13_l
      go_wp2_with fail
      have y14 := Lib.hid (show (fun V : World => CB V g7 40 (lA x)) u9 from q9_l)
      refine hK.out _ _ y14.out (fun hHeld => ?_)
      clear hK K y14
      try simp only [Act.put, List.setIfInBounds_toArray, List.set_cons_zero, List.set_cons_succ]
      refine wpAnyH_ready (rs := [4]) (by kernel_rfl) (by simp) ?_
      refine AllReadyH.cons rfl (fun K hK => ?_) AllReadyH.nil
      refine rd_store rfl 40 _ _ rfl none rfl g1 (lA x) rfl rfl q9_r Try.zLc rfl (lA_one _) ?_
      refine ⟨fun V10 n10 k10 => ?_⟩
      have m10 := k10.on q9_l (Ne.symm ne7_r)
      have tf := TPost.fin bl9 tp9 k10 up1 lt9 hlt
      clear tp9 lt9 bl9 q9_r q9_l k10
      have y15 := Lib.hid (show (fun V : World => CB V g7 40 (lA x)) V10 from m10)
      refine hK.out _ _ y15.out (fun hHeld => ?_)
      clear hK K y15
      try simp only [Act.put, List.setIfInBounds_toArray, List.set_cons_zero, List.set_cons_succ]
      refine wpAnyH_takeL (i := 5) (d := some 7) (v := .int .i64 0) rfl rfl (by kernel_rfl) (by kernel_rfl) (by kernel_rfl) (fun _ _ _ h => h) (Or.inl ⟨by rfl, ?_⟩) hHeld ?_
      · intro w hSw; (try dsimp only at hSw); go_simp
      try simp only [Act.put, List.setIfInBounds_toArray, List.set_cons_zero, List.set_cons_succ]
      refine wpAnyH_done (by kernel_rfl) ?_ _
      go_wp2_with fail
      exact bodyPost_ret (v := .tuple #[.agg (lA x), .int .i64 0]) (res_two Try.results17 rfl rfl n10 Try.underlying40 rfl Try.zLc) rfl (tf)
    have hE := eAt_7 (Q := Q) (t := t) (k := i) (by omega) hk
    have h7 : i < 0 ∨ ((sl t).2.1 : Int) ≤ i := by omega
    clear hk
    go_enter Try.func17, Try.ntmps17
    go_wp2_with (first | ((with_reducible refine st_alloc 40 (lA zeroL) ?_ ?_); exact zero_lc))
    refine ⟨fun V1 g1 n1 f1 => ?_⟩
    have up1 : w.heap.size ≤ g1 := Nat.le_of_eq f1.at_
    have bl1 := f1.bel
    clear f1
    have r3_al := (hl).on bl1
    have l3 := le_tr (Below.refl _ _) bl1
    clear hl
    clear bl1
    go_wp2_with fail
    (with_reducible refine (afind_n ba room rb sl Ls t _ r3_al.as_ hrm.1 ht i h7).mono ?_)
    rintro e w4 ⟨rfl, b4⟩
    have r6_r := le_on n1 b4
    have r6_al := (r3_al).on b4
    have l6 := le_tr l3 b4
    clear n1 r3_al l3
    clear b4
    go_wp2_with (first | ((with_reducible refine st_alloc 40 (lA zeroL) ?_ ?_); exact zero_lc))
    refine ⟨fun V7 g7 n7 f7 => ?_⟩
    have ne7_r := f7.ne r6_r
    have up7 : w.heap.size ≤ g7 := f7.up l6
    have bl7 := f7.bel
    clear f7
    have r9_r := le_on r6_r bl7
    have r9_al := (r6_al).on bl7
    have l9 := le_tr l6 bl7
    clear r6_r r6_al l6
    clear bl7
    go_wp2_with (first | ((with_reducible refine st_store 40 _ _ g7 (lA zeroL) ?_ ?_ n7 ?_ ?_ ?_ ?_); exact rfl; exact rfl; exact Try.zLc; exact rfl; exact lA_one _))
    refine ⟨fun V10 n10 k10 => ?_⟩
    have m10_r := k10.on r9_r ne7_r
    have m10_al := (r9_al).wr k10 up7
    have o10 := k10.bel _ _ l9 up7
    clear k10
    clear n7 r9_r r9_al l9
    go_wp2_with (first | ((with_reducible refine st_built0 40 (lA zeroL) ?_ ?_); exact built_l0) | ((with_reducible refine st_store 40 _ _ g1 (lA zeroL) ?_ ?_ m10_r ?_ ?_ ?_ ?_); exact rfl; exact rfl; exact Try.zLc; exact rfl; exact lA_one _))
    refine ⟨fun V11 n11 k11 => ?_⟩
    have m11_l := k11.on n10 (Ne.symm ne7_r)
    have o11 := k11.bel _ _ o10 up1
    clear k11
    clear m10_r n10 o10
    go_wp2_with fail
    exact bodyPost_ret (v := .tuple #[.agg (lA zeroL), .int .i64 7]) (res_two Try.results17 rfl rfl n11 Try.underlying40 rfl Try.zLc) rfl (TPost.no h o11 hE (by decide))
  have ht2 : 17 ≤ t := by omega
  have hE := eAt_2 (Q := Q) (k := i) ht2
  clear ht
  go_enter Try.func17, Try.ntmps17
  go_wp2_with (first | ((with_reducible refine st_alloc 40 (lA zeroL) ?_ ?_); exact zero_lc))
  refine ⟨fun V1 g1 n1 f1 => ?_⟩
  have up1 : w.heap.size ≤ g1 := Nat.le_of_eq f1.at_
  have bl1 := f1.bel
  clear f1
  have r3_al := (hl).on bl1
  have l3 := le_tr (Below.refl _ _) bl1
  clear hl
  clear bl1
  go_wp2_with fail
  (with_reducible refine (afind_t ba room rb sl Ls t _ r3_al.as_ ht2 i).mono ?_)
  rintro e w4 ⟨rfl, b4⟩
  have r6_r := le_on n1 b4
  have r6_al := (r3_al).on b4
  have l6 := le_tr l3 b4
  clear n1 r3_al l3
  clear b4
  go_wp2_with (first | ((with_reducible refine st_alloc 40 (lA zeroL) ?_ ?_); exact zero_lc))
  refine ⟨fun V7 g7 n7 f7 => ?_⟩
  have ne7_r := f7.ne r6_r
  have up7 : w.heap.size ≤ g7 := f7.up l6
  have bl7 := f7.bel
  clear f7
  have r9_r := le_on r6_r bl7
  have r9_al := (r6_al).on bl7
  have l9 := le_tr l6 bl7
  clear r6_r r6_al l6
  clear bl7
  go_wp2_with (first | ((with_reducible refine st_store 40 _ _ g7 (lA zeroL) ?_ ?_ n7 ?_ ?_ ?_ ?_); exact rfl; exact rfl; exact Try.zLc; exact rfl; exact lA_one _))
  refine ⟨fun V10 n10 k10 => ?_⟩
  have m10_r := k10.on r9_r ne7_r
  have m10_al := (r9_al).wr k10 up7
  have o10 := k10.bel _ _ l9 up7
  clear k10
  clear n7 r9_r r9_al l9
  go_wp2_with (first | ((with_reducible refine st_built0 40 (lA zeroL) ?_ ?_); exact built_l0) | ((with_reducible refine st_store 40 _ _ g1 (lA zeroL) ?_ ?_ m10_r ?_ ?_ ?_ ?_); exact rfl; exact rfl; exact Try.zLc; exact rfl; exact lA_one _))
  refine ⟨fun V11 n11 k11 => ?_⟩
  have m11_l := k11.on n10 (Ne.symm ne7_r)
  have o11 := k11.bel _ _ o10 up1
  clear k11
  clear m10_r n10 o10
  go_wp2_with fail
  exact bodyPost_ret (v := .tuple #[.agg (lA zeroL), .int .i64 2]) (res_two Try.results17 rfl rfl n11 Try.underlying40 rfl Try.zLc) rfl (TPost.no h o11 hE (by decide))
set_option maxRecDepth 100000 in
set_option maxHeartbeats 4000000 in
theorem take_0 (t : Nat) (i : Int) (w : World)  : Calls Try.prog 17 #[.pointer none, .int .u8 (t : Int), .int .i64 i] w fun e w' => e = .returned (.tuple #[.agg (lA zeroL), .int .i64 1]) ∧ Below w.heap.size w w' := by
  go_enter Try.func17, Try.ntmps17
  go_wp2_with (first | ((with_reducible refine st_alloc 40 (lA zeroL) ?_ ?_); exact zero_lc))
  refine ⟨fun V1 g1 n1 f1 => ?_⟩
  have up1 : w.heap.size ≤ g1 := Nat.le_of_eq f1.at_
  have bl1 := f1.bel
  clear f1
  have l3 := le_tr (Below.refl _ _) bl1
  clear bl1
  go_wp2_with fail
  (with_reducible refine (afind_0 t _ i).mono ?_)
  rintro e w4 ⟨rfl, b4⟩
  have r6_r := le_on n1 b4
  have l6 := le_tr l3 b4
  clear n1 l3
  clear b4
  go_wp2_with (first | ((with_reducible refine st_alloc 40 (lA zeroL) ?_ ?_); exact zero_lc))
  refine ⟨fun V7 g7 n7 f7 => ?_⟩
  have ne7_r := f7.ne r6_r
  have up7 : w.heap.size ≤ g7 := f7.up l6
  have bl7 := f7.bel
  clear f7
  have r9_r := le_on r6_r bl7
  have l9 := le_tr l6 bl7
  clear r6_r l6
  clear bl7
  go_wp2_with (first | ((with_reducible refine st_store 40 _ _ g7 (lA zeroL) ?_ ?_ n7 ?_ ?_ ?_ ?_); exact rfl; exact rfl; exact Try.zLc; exact rfl; exact lA_one _))
  refine ⟨fun V10 n10 k10 => ?_⟩
  have m10_r := k10.on r9_r ne7_r
  have o10 := k10.bel _ _ l9 up7
  clear k10
  clear n7 r9_r l9
  go_wp2_with (first | ((with_reducible refine st_built0 40 (lA zeroL) ?_ ?_); exact built_l0) | ((with_reducible refine st_store 40 _ _ g1 (lA zeroL) ?_ ?_ m10_r ?_ ?_ ?_ ?_); exact rfl; exact rfl; exact Try.zLc; exact rfl; exact lA_one _))
  refine ⟨fun V11 n11 k11 => ?_⟩
  have m11_l := k11.on n10 (Ne.symm ne7_r)
  have o11 := k11.bel _ _ o10 up1
  clear k11
  clear m10_r n10 o10
  go_wp2_with fail
  exact bodyPost_ret (v := .tuple #[.agg (lA zeroL), .int .i64 1]) (res_two Try.results17 rfl rfl n11 Try.underlying40 rfl Try.zLc) rfl ⟨rfl, o11⟩
set_option maxRecDepth 100000 in
set_option maxHeartbeats 4000000 in
theorem take_z (ba : Nat) (t : Nat) (i : Int) (w : World) (h : AN w ba 54 17 (fun _ => .pointer none)) : Calls Try.prog 17 #[.pointer (some ⟨ba, 0, none⟩), .int .u8 (t : Int), .int .i64 i] w fun e w' => e = .returned (.tuple #[.agg (lA zeroL), .int .i64 1]) ∧ Below w.heap.size w w' := by
  go_enter Try.func17, Try.ntmps17
  go_wp2_with (first | ((with_reducible refine st_alloc 40 (lA zeroL) ?_ ?_); exact zero_lc))
  refine ⟨fun V1 g1 n1 f1 => ?_⟩
  have up1 : w.heap.size ≤ g1 := Nat.le_of_eq f1.at_
  have bl1 := f1.bel
  clear f1
  have l3 := le_tr (Below.refl _ _) bl1
  clear bl1
  have h1 := (AB.mk h).on (by exact l3)
  go_wp2_with fail
  (with_reducible refine (afind_z ba t _ h1.out i).mono ?_)
  rintro e w4 ⟨rfl, b4⟩
  have r6_r := le_on n1 b4
  have l6 := le_tr l3 b4
  clear n1 l3
  clear b4
  go_wp2_with (first | ((with_reducible refine st_alloc 40 (lA zeroL) ?_ ?_); exact zero_lc))
  refine ⟨fun V7 g7 n7 f7 => ?_⟩
  have ne7_r := f7.ne r6_r
  have up7 : w.heap.size ≤ g7 := f7.up l6
  have bl7 := f7.bel
  clear f7
  have r9_r := le_on r6_r bl7
  have l9 := le_tr l6 bl7
  clear r6_r l6
  clear bl7
  go_wp2_with (first | ((with_reducible refine st_store 40 _ _ g7 (lA zeroL) ?_ ?_ n7 ?_ ?_ ?_ ?_); exact rfl; exact rfl; exact Try.zLc; exact rfl; exact lA_one _))
  refine ⟨fun V10 n10 k10 => ?_⟩
  have m10_r := k10.on r9_r ne7_r
  have o10 := k10.bel _ _ l9 up7
  clear k10
  clear n7 r9_r l9
  go_wp2_with (first | ((with_reducible refine st_built0 40 (lA zeroL) ?_ ?_); exact built_l0) | ((with_reducible refine st_store 40 _ _ g1 (lA zeroL) ?_ ?_ m10_r ?_ ?_ ?_ ?_); exact rfl; exact rfl; exact Try.zLc; exact rfl; exact lA_one _))
  refine ⟨fun V11 n11 k11 => ?_⟩
  have m11_l := k11.on n10 (Ne.symm ne7_r)
  have o11 := k11.bel _ _ o10 up1
  clear k11
  clear m10_r n10 o10
  go_wp2_with fail
  exact bodyPost_ret (v := .tuple #[.agg (lA zeroL), .int .i64 1]) (res_two Try.results17 rfl rfl n11 Try.underlying40 rfl Try.zLc) rfl ⟨rfl, o11⟩
set_option maxRecDepth 100000 in
set_option maxHeartbeats 4000000 in
theorem again_c (S : Nat → Prop) (ba room : Nat) (Q : Qs) (t : Nat) (i : Int) (w : World) (h : AO S ba room Q w) : Calls Try.prog 20 #[.pointer (some ⟨ba, 0, none⟩), .int .u8 (t : Int), .int .i64 i] w (APost w S ba room (sAg room Q t i) (.int .i64 ((eAg room Q t i : Nat) : Int))) := by
  obtain ⟨⟨rb, sl, Ls, hA, hq, hS⟩, hrm, hok⟩ := h.ok
  have hlt := h.lt
  have hln : ∀ t, t < 17 → (Ls t).length = (Q t).length := fun t ht => by rw [← hq t ht, List.length_map]
  have hsl : ∀ t, t < 17 → (sl t).2.1 = (Q t).length := fun t ht => by rw [← hln t ht]; exact (hA.ring t ht).len.symm
  have hl := AL.start hA
  by_cases ht : t < 17
  · skip
    have hg := hsl t ht
    by_cases hk : 0 ≤ i ∧ i < ((Q t).length : Int)
    · skip
      obtain ⟨k, rfl⟩ : ∃ k : Nat, i = (k : Int) := ⟨i.toNat, by omega⟩
      have hkn : k < (sl t).2.1 := by omega
      obtain ⟨x, hxk⟩ : ∃ x, (Ls t)[k]? = some x := ⟨_, List.getElem?_eq_getElem (show k < (Ls t).length by rw [hln t ht]; omega)⟩
      have hE := eAt_0 (Q := Q) (t := t) (k := (k : Int)) (by omega) hk
      have hxq := xTk_is hq ht hxk hE
      have hxb := hA.byt t ht x (List.mem_of_getElem? hxk)
      have hxl := hxb.len
      have hxm := (hok t).2.2 x.lt (by rw [← hq t ht]; exact List.mem_map_of_mem (List.mem_of_getElem? hxk))
      have hb := RL.start hxb.rr
      obtain ⟨f, to, bs, A, n, c⟩ := x
      simp only at hxl hb
      have hb4 : n ≤ 4000 := by have := hxm.2.1; simp only [Lm.lt] at this; omega
      have hto : to = t := hxm.1
      subst hto
      have hfx := fun V (hh : RR V bcl 1 A n c bs) => clone_c f to bs A n c V hh (by omega)
      by_cases hr : (Q to).length < room
      · skip
        obtain ⟨e1, e2⟩ := eAg_0 (room := room) hE (by omega)
        have HR := Lib.hid (roomy_ag hok to (k : Int))
        rw [hxq] at e2
        have HE := Lib.hid e1
        have HQ := Lib.hid e2
        clear e1 e2 hE hxq hk
        go_enter Try.func20, Try.ntmps20
        go_wp2_with fail
        (with_reducible refine (afind_y ba room rb sl Ls to _ hl.as_ hrm.1 ht k ⟨f, to, bs, A, n, c⟩ hxk hkn).mono ?_)
        rintro e w1 ⟨rfl, b1⟩
        have r3_al := (hl).on b1
        have r3_bb := (hb).on b1
        have l3 := le_tr (Below.refl _ _) b1
        clear hl hb
        clear b1
        go_wp2_with (first | ((with_reducible refine st_alloc 40 (lA zeroL) ?_ ?_); exact zero_lc))
        refine ⟨fun V4 g4 n4 f4 => ?_⟩
        have up4 : w.heap.size ≤ g4 := f4.up l3
        have bl4 := f4.bel
        clear f4
        have r6_al := (r3_al).on bl4
        have r6_bb := (r3_bb).on bl4
        have l6 := le_tr l3 bl4
        clear r3_al r3_bb l3
        clear bl4
        go_wp2_with (first | ((with_reducible refine st_store 40 _ _ g4 (lA ⟨f, to, bs, A, n, c⟩) ?_ ?_ n4 ?_ ?_ ?_ ?_); exact rfl; exact rfl; exact Try.zLc; exact rfl; exact lA_one _))
        refine ⟨fun V7 n7 k7 => ?_⟩
        have m7_al := (r6_al).wr k7 up4
        have m7_bb := (r6_bb).wr k7 up4
        have o7 := k7.bel _ _ l6 up4
        clear k7
        clear n4 r6_al r6_bb l6
        have lb1 := (o7).size
        go_wp2_with (first | ((with_reducible refine st_load 40 _ g4 ?_ n7 Try.underlying40 ?_ ?_ ?_); exact rfl; exact rfl; exact Try.zLc))
        (with_reducible refine (hfx _ (m7_bb).rr).mono ?_)
        rintro e w8 ⟨A1, c1, G1, rfl, so1, b8⟩
        have r10_l := le_on n7 b8
        have r10_al := (m7_al).on b8
        have r10_bb := (m7_bb).on b8
        have l10 := le_tr o7 b8
        clear n7 m7_al m7_bb o7
        clear b8
        have hg1 := r10_al.as_.ring to ht
        go_wp2_with fail
        (with_reducible refine (push_y (rb to) room (sl to).1 (sl to).2.1 (sl to).2.2 (Ls to) ⟨f, to, bs, A1, n, c1⟩ _ hg1 hrm.1 (by omega) hrm.2).mono ?_)
        intro e w9 gp
        obtain ⟨rfl, hp⟩ := APost.pushed (x := ⟨f, to, bs, A1, n, c1⟩) h hA hq hS ht l10 (SO.mono so1 lb1) gp HQ.out HR.out
        go_wp2_with fail
        go_ret
        rw [HE.out]
        exact hp
      obtain ⟨e1, e2⟩ := eAg_6 (room := room) hE (by omega)
      have HE := Lib.hid e1
      have HQ := Lib.hid e2
      have hfull : room = (sl to).2.1 := by have := (hok to).1; omega
      clear e1 e2 hE hxq hk hr
      go_enter Try.func20, Try.ntmps20
      go_wp2_with fail
      (with_reducible refine (afind_y ba room rb sl Ls to _ hl.as_ hrm.1 ht k ⟨f, to, bs, A, n, c⟩ hxk hkn).mono ?_)
      rintro e w1 ⟨rfl, b1⟩
      have r3_al := (hl).on b1
      have r3_bb := (hb).on b1
      have l3 := le_tr (Below.refl _ _) b1
      clear hl hb
      clear b1
      go_wp2_with (first | ((with_reducible refine st_alloc 40 (lA zeroL) ?_ ?_); exact zero_lc))
      refine ⟨fun V4 g4 n4 f4 => ?_⟩
      have up4 : w.heap.size ≤ g4 := f4.up l3
      have bl4 := f4.bel
      clear f4
      have r6_al := (r3_al).on bl4
      have r6_bb := (r3_bb).on bl4
      have l6 := le_tr l3 bl4
      clear r3_al r3_bb l3
      clear bl4
      go_wp2_with (first | ((with_reducible refine st_store 40 _ _ g4 (lA ⟨f, to, bs, A, n, c⟩) ?_ ?_ n4 ?_ ?_ ?_ ?_); exact rfl; exact rfl; exact Try.zLc; exact rfl; exact lA_one _))
      refine ⟨fun V7 n7 k7 => ?_⟩
      have m7_al := (r6_al).wr k7 up4
      have m7_bb := (r6_bb).wr k7 up4
      have o7 := k7.bel _ _ l6 up4
      clear k7
      clear n4 r6_al r6_bb l6
      have lb1 := (o7).size
      go_wp2_with (first | ((with_reducible refine st_load 40 _ g4 ?_ n7 Try.underlying40 ?_ ?_ ?_); exact rfl; exact rfl; exact Try.zLc))
      (with_reducible refine (hfx _ (m7_bb).rr).mono ?_)
      rintro e w8 ⟨A1, c1, G1, rfl, so1, b8⟩
      have r10_l := le_on n7 b8
      have r10_al := (m7_al).on b8
      have r10_bb := (m7_bb).on b8
      have l10 := le_tr o7 b8
      clear n7 m7_al m7_bb o7
      clear b8
      have hg1 := r10_al.as_.ring to ht
      go_wp2_with fail
      have hg2 : RG w8 (rb to) (sl to).2.1 (sl to).1 (sl to).2.1 (sl to).2.2 (Ls to) := by have h2 := hg1; rw [hfull] at h2; exact h2
      clear hg1
      (with_reducible refine (push_n (rb to) (sl to).1 (sl to).2.1 (sl to).2.2 (Ls to) ⟨f, to, bs, A1, n, c1⟩ _ hg2 (by omega)).mono ?_)
      rintro e w9 ⟨rfl, b9⟩
      clear hg2 so1
      have r12_l := le_on r10_l b9
      have l12 := le_tr l10 b9
      clear r10_l l10
      clear b9
      go_wp2_with fail
      go_ret
      exact APost.no h l12 HQ.out (by rw [HE.out]; rfl)
    have hE := eAt_7 (Q := Q) (t := t) (k := i) (by omega) hk
    have h7 : i < 0 ∨ ((sl t).2.1 : Int) ≤ i := by omega
    clear hk
    obtain ⟨e1, e2⟩ := eAg_n (room := room) hE (by decide)
    have HE := Lib.hid e1
    have HQ := Lib.hid e2
    clear e1 e2 hE
    go_enter Try.func20, Try.ntmps20
    go_wp2_with fail
    (with_reducible refine (afind_n ba room rb sl Ls t _ hl.as_ hrm.1 ht i h7).mono ?_)
    rintro e w1 ⟨rfl, b1⟩
    have r3_al := (hl).on b1
    have l3 := le_tr (Below.refl _ _) b1
    clear hl
    clear b1
    go_wp2_with (first | ((with_reducible refine st_alloc 40 (lA zeroL) ?_ ?_); exact zero_lc))
    refine ⟨fun V4 g4 n4 f4 => ?_⟩
    have up4 : w.heap.size ≤ g4 := f4.up l3
    have bl4 := f4.bel
    clear f4
    have r6_al := (r3_al).on bl4
    have l6 := le_tr l3 bl4
    clear r3_al l3
    clear bl4
    go_wp2_with (first | ((with_reducible refine st_store 40 _ _ g4 (lA zeroL) ?_ ?_ n4 ?_ ?_ ?_ ?_); exact rfl; exact rfl; exact Try.zLc; exact rfl; exact lA_one _))
    refine ⟨fun V7 n7 k7 => ?_⟩
    have m7_al := (r6_al).wr k7 up4
    have o7 := k7.bel _ _ l6 up4
    clear k7
    clear n4 r6_al l6
    go_wp2_with fail
    go_ret
    exact APost.no h o7 HQ.out (by rw [HE.out]; rfl)
  have ht2 : 17 ≤ t := by omega
  have hE := eAt_2 (Q := Q) (k := i) ht2
  clear ht
  obtain ⟨e1, e2⟩ := eAg_n (room := room) hE (by decide)
  have HE := Lib.hid e1
  have HQ := Lib.hid e2
  clear e1 e2 hE
  go_enter Try.func20, Try.ntmps20
  go_wp2_with fail
  (with_reducible refine (afind_t ba room rb sl Ls t _ hl.as_ ht2 i).mono ?_)
  rintro e w1 ⟨rfl, b1⟩
  have r3_al := (hl).on b1
  have l3 := le_tr (Below.refl _ _) b1
  clear hl
  clear b1
  go_wp2_with (first | ((with_reducible refine st_alloc 40 (lA zeroL) ?_ ?_); exact zero_lc))
  refine ⟨fun V4 g4 n4 f4 => ?_⟩
  have up4 : w.heap.size ≤ g4 := f4.up l3
  have bl4 := f4.bel
  clear f4
  have r6_al := (r3_al).on bl4
  have l6 := le_tr l3 bl4
  clear r3_al l3
  clear bl4
  go_wp2_with (first | ((with_reducible refine st_store 40 _ _ g4 (lA zeroL) ?_ ?_ n4 ?_ ?_ ?_ ?_); exact rfl; exact rfl; exact Try.zLc; exact rfl; exact lA_one _))
  refine ⟨fun V7 n7 k7 => ?_⟩
  have m7_al := (r6_al).wr k7 up4
  have o7 := k7.bel _ _ l6 up4
  clear k7
  clear n4 r6_al l6
  go_wp2_with fail
  go_ret
  exact APost.no h o7 HQ.out (by rw [HE.out]; rfl)
set_option maxRecDepth 100000 in
set_option maxHeartbeats 4000000 in
theorem again_0 (t : Nat) (i : Int) (w : World)  : Calls Try.prog 20 #[.pointer none, .int .u8 (t : Int), .int .i64 i] w fun e w' => e = .returned (.int .i64 1) ∧ Below w.heap.size w w' := by
  go_enter Try.func20, Try.ntmps20
  go_wp2_with fail
  (with_reducible refine (afind_0 t _ i).mono ?_)
  rintro e w1 ⟨rfl, b1⟩
  have l3 := le_tr (Below.refl _ _) b1
  clear b1
  go_wp2_with (first | ((with_reducible refine st_alloc 40 (lA zeroL) ?_ ?_); exact zero_lc))
  refine ⟨fun V4 g4 n4 f4 => ?_⟩
  have up4 : w.heap.size ≤ g4 := f4.up l3
  have bl4 := f4.bel
  clear f4
  have l6 := le_tr l3 bl4
  clear l3
  clear bl4
  go_wp2_with (first | ((with_reducible refine st_store 40 _ _ g4 (lA zeroL) ?_ ?_ n4 ?_ ?_ ?_ ?_); exact rfl; exact rfl; exact Try.zLc; exact rfl; exact lA_one _))
  refine ⟨fun V7 n7 k7 => ?_⟩
  have o7 := k7.bel _ _ l6 up4
  clear k7
  clear n4 l6
  go_wp2_with fail
  go_ret
  exact ⟨rfl, o7⟩
set_option maxRecDepth 100000 in
set_option maxHeartbeats 4000000 in
theorem again_z (ba : Nat) (t : Nat) (i : Int) (w : World) (h : AN w ba 54 17 (fun _ => .pointer none)) : Calls Try.prog 20 #[.pointer (some ⟨ba, 0, none⟩), .int .u8 (t : Int), .int .i64 i] w fun e w' => e = .returned (.int .i64 1) ∧ Below w.heap.size w w' := by
  have h1 := AB.mk h
  go_enter Try.func20, Try.ntmps20
  go_wp2_with fail
  (with_reducible refine (afind_z ba t _ h1.out i).mono ?_)
  rintro e w1 ⟨rfl, b1⟩
  have l3 := le_tr (Below.refl _ _) b1
  clear b1
  go_wp2_with (first | ((with_reducible refine st_alloc 40 (lA zeroL) ?_ ?_); exact zero_lc))
  refine ⟨fun V4 g4 n4 f4 => ?_⟩
  have up4 : w.heap.size ≤ g4 := f4.up l3
  have bl4 := f4.bel
  clear f4
  have l6 := le_tr l3 bl4
  clear l3
  clear bl4
  go_wp2_with (first | ((with_reducible refine st_store 40 _ _ g4 (lA zeroL) ?_ ?_ n4 ?_ ?_ ?_ ?_); exact rfl; exact rfl; exact Try.zLc; exact rfl; exact lA_one _))
  refine ⟨fun V7 n7 k7 => ?_⟩
  have o7 := k7.bel _ _ l6 up4
  clear k7
  clear n4 l6
  go_wp2_with fail
  go_ret
  exact ⟨rfl, o7⟩
set_option maxRecDepth 100000 in
set_option maxHeartbeats 4000000 in
theorem turn_0 (t : Nat) (i : Int) (p : Nat) (q : Int) (w : World)  : Calls Try.prog 21 #[.pointer none, .int .u8 (t : Int), .int .i64 i, .int .u16 (p : Int), .int .u8 q] w fun e w' => e = .returned (.int .i64 1) ∧ Below w.heap.size w w' := by
  go_enter Try.func21, Try.ntmps21
  go_wp2_with fail
  (with_reducible refine (afind_0 t _ i).mono ?_)
  rintro e w1 ⟨rfl, b1⟩
  have l3 := le_tr (Below.refl _ _) b1
  clear b1
  go_wp2_with (first | ((with_reducible refine st_alloc 40 (lA zeroL) ?_ ?_); exact zero_lc))
  refine ⟨fun V4 g4 n4 f4 => ?_⟩
  have up4 : w.heap.size ≤ g4 := f4.up l3
  have bl4 := f4.bel
  clear f4
  have l6 := le_tr l3 bl4
  clear l3
  clear bl4
  go_wp2_with (first | ((with_reducible refine st_store 40 _ _ g4 (lA zeroL) ?_ ?_ n4 ?_ ?_ ?_ ?_); exact rfl; exact rfl; exact Try.zLc; exact rfl; exact lA_one _))
  refine ⟨fun V7 n7 k7 => ?_⟩
  have o7 := k7.bel _ _ l6 up4
  clear k7
  clear n4 l6
  go_wp2_with fail
  go_ret
  exact ⟨rfl, o7⟩
set_option maxRecDepth 100000 in
set_option maxHeartbeats 4000000 in
theorem turn_z (ba : Nat) (t : Nat) (i : Int) (p : Nat) (q : Int) (w : World) (h : AN w ba 54 17 (fun _ => .pointer none)) : Calls Try.prog 21 #[.pointer (some ⟨ba, 0, none⟩), .int .u8 (t : Int), .int .i64 i, .int .u16 (p : Int), .int .u8 q] w fun e w' => e = .returned (.int .i64 1) ∧ Below w.heap.size w w' := by
  have h1 := AB.mk h
  go_enter Try.func21, Try.ntmps21
  go_wp2_with fail
  (with_reducible refine (afind_z ba t _ h1.out i).mono ?_)
  rintro e w1 ⟨rfl, b1⟩
  have l3 := le_tr (Below.refl _ _) b1
  clear b1
  go_wp2_with (first | ((with_reducible refine st_alloc 40 (lA zeroL) ?_ ?_); exact zero_lc))
  refine ⟨fun V4 g4 n4 f4 => ?_⟩
  have up4 : w.heap.size ≤ g4 := f4.up l3
  have bl4 := f4.bel
  clear f4
  have l6 := le_tr l3 bl4
  clear l3
  clear bl4
  go_wp2_with (first | ((with_reducible refine st_store 40 _ _ g4 (lA zeroL) ?_ ?_ n4 ?_ ?_ ?_ ?_); exact rfl; exact rfl; exact Try.zLc; exact rfl; exact lA_one _))
  refine ⟨fun V7 n7 k7 => ?_⟩
  have o7 := k7.bel _ _ l6 up4
  clear k7
  clear n4 l6
  go_wp2_with fail
  go_ret
  exact ⟨rfl, o7⟩
end Go.Proofs.Ytcfdfimkgehdfaa
