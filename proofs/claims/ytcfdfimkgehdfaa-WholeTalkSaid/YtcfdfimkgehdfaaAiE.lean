/-
  Package air: find, Len, Send. Conditions: the air is one that New made, or one that no call made; the letter's bytes can be read.
-/
import Derived.Test.YtcfdfimkgehdfaaAiD
set_option linter.unusedVariables false
set_option linter.unusedSimpArgs false
namespace Go.Proofs.Ytcfdfimkgehdfaa
open Go.RowKit

/-- An array of no rings, kept. -/
structure AB (b : Nat) (w : World) : Prop where
  out : AN w b 54 17 (fun _ => .pointer none)
theorem AB.mk' {b : Nat} {w : World} (h : AN w b 54 17 (fun _ => .pointer none)) : AB b w := ⟨h⟩
theorem AB.on {b : Nat} {w V : World} (h : AB b w) (hb : Below w.heap.size w V) : AB b V := ⟨h.out.same (hb.block b h.out.lt)⟩
theorem eSn_2 {room : Nat} {Q : Qs} {f t : Nat} {bs : List UInt8} (h : 17 ≤ f ∨ 17 ≤ t) : eSn room Q ⟨f, t, bs⟩ = 2 := if_pos h
theorem eSn_3 {room : Nat} {Q : Qs} {f t : Nat} {bs : List UInt8} (h : ¬ (17 ≤ f ∨ 17 ≤ t)) (h2 : 4000 < bs.length) : eSn room Q ⟨f, t, bs⟩ = 3 := (if_neg h).trans (if_pos h2)
theorem eSn_6 {room : Nat} {Q : Qs} {f t : Nat} {bs : List UInt8} (h : ¬ (17 ≤ f ∨ 17 ≤ t)) (h2 : ¬ 4000 < bs.length) (h3 : room ≤ (Q t).length) : eSn room Q ⟨f, t, bs⟩ = 6 := (if_neg h).trans ((if_neg h2).trans (if_pos h3))
theorem eSn_0 {room : Nat} {Q : Qs} {f t : Nat} {bs : List UInt8} (h : ¬ (17 ≤ f ∨ 17 ≤ t)) (h2 : ¬ 4000 < bs.length) (h3 : ¬ room ≤ (Q t).length) : eSn room Q ⟨f, t, bs⟩ = 0 := (if_neg h).trans ((if_neg h2).trans (if_neg h3))
set_option maxRecDepth 100000 in
set_option maxHeartbeats 4000000 in
theorem afind_y (ba room : Nat) (rb : Nat → Nat) (sl : Nat → Option Addr × Nat × Nat) (Ls : Nat → List Lm) (t : Nat) (w : World) (h : AS w ba room rb sl Ls) (hr : 1 ≤ room) (ht : t < 17) (k : Nat) (x : Lm) (hx : (Ls t)[k]? = some x) (hk : k < (sl t).2.1) : Calls Try.prog 38 #[.pointer (some ⟨ba, 0, none⟩), .int .u8 (t : Int), .int .i64 (k : Int)] w fun e w' => e = .returned (.tuple #[.pointer (some ⟨rb t, 0, none⟩), .agg (lA x), .int .i64 0]) ∧ Below w.heap.size w w' := by
  have hl := AL.start h
  go_enter Try.func38, Try.ntmps38
  go_wp2_with (first | ((with_reducible refine st_alloc 40 (lA zeroL) ?_ ?_); exact zero_lc))
  refine ⟨fun V1 g1 n1 f1 => ?_⟩
  have up1 : w.heap.size ≤ g1 := Nat.le_of_eq f1.at_
  have bl1 := f1.bel
  clear f1
  have r3_al := (hl).on bl1
  have l3 := le_tr (Below.refl _ _) bl1
  clear hl
  clear bl1
  go_wp2_with fail
  (with_reducible refine (queue_y ba t rb _ r3_al.as_.arr ht).mono ?_)
  rintro e w' ⟨rfl, rfl⟩
  have hg := r3_al.as_.ring t ht
  go_wp2_with fail
  (with_reducible refine (at_y (rb t) room (sl t).1 (sl t).2.1 (sl t).2.2 (Ls t) k x _ hg hr hx hk).mono ?_)
  rintro e w9 ⟨rfl, b9⟩
  clear hg
  have r5_r := le_on n1 b9
  have r5_al := (r3_al).on b9
  have l5 := le_tr l3 b9
  clear n1 r3_al l3
  clear b9
  go_wp2_with (first | ((with_reducible refine st_alloc 40 (lA zeroL) ?_ ?_); exact zero_lc))
  refine ⟨fun V6 g6 n6 f6 => ?_⟩
  have ne6_r := f6.ne r5_r
  have up6 : w.heap.size ≤ g6 := f6.up l5
  have bl6 := f6.bel
  clear f6
  have r8_r := le_on r5_r bl6
  have r8_al := (r5_al).on bl6
  have l8 := le_tr l5 bl6
  clear r5_r r5_al l5
  clear bl6
  go_wp2_with (first | ((with_reducible refine st_store 40 _ _ g6 (lA x) ?_ ?_ n6 ?_ ?_ ?_ ?_); exact rfl; exact rfl; exact Try.zLc; exact rfl; exact lA_one _))
  refine ⟨fun V9 n9 k9 => ?_⟩
  have m9_r := k9.on r8_r ne6_r
  have m9_al := (r8_al).wr k9 up6
  have o9 := k9.bel _ _ l8 up6
  clear k9
  clear n6 r8_r r8_al l8
  go_wp2_with fail
  have y10 := Lib.hid (show (fun V : World => CB V g6 40 (lA x)) V9.drew from CB.drew n9)
  refine wp_region_held_drew (S := (fun V : World => CB V g6 40 (lA x))) (by kernel_rfl) y10.out (fun hHeld => ?_)
  obtain ⟨D10, hD10⟩ : ∃ V, V9.drew = V := ⟨_, rfl⟩
  have b10 : Below V9.heap.size V9 D10 := by rw [← hD10]; exact le_dr (Below.refl _ _)
  rw [hD10] at hHeld ⊢
  clear hD10
  have r12_r := le_on m9_r b10
  have r12_l := le_on n9 b10
  have l12 := le_tr o9 b10
  clear m9_r n9 o9
  clear b10
  refine wpAnyH_takeL (i := 0) (d := some 28) (v := .pointer (some ⟨rb t, 0, none⟩)) rfl rfl (by kernel_rfl) (by kernel_rfl) (by kernel_rfl) (fun _ _ _ h => h) (Or.inl ⟨by rfl, ?_⟩) hHeld ?_
  · intro w hSw; (try dsimp only at hSw); go_simp
  try simp only [Act.put, List.setIfInBounds_toArray, List.set_cons_zero, List.set_cons_succ]
  refine wpAnyH_takeL (i := 1) (d := some 29) (v := .agg (lA x)) rfl rfl (by kernel_rfl) (by kernel_rfl) (by kernel_rfl) (fun _ _ _ h => h) (Or.inl ⟨by rfl, ?_⟩) hHeld ?_
  · intro w hSw; exact yl_whole 40 _ g6 rfl hSw Try.underlying40 rfl Try.zLc
  try simp only [Act.put, List.setIfInBounds_toArray, List.set_cons_zero, List.set_cons_succ]
  refine wpAnyH_takeL (i := 2) (d := some 30) (v := .int .i64 0) rfl rfl (by kernel_rfl) (by kernel_rfl) (by kernel_rfl) (fun _ _ _ h => h) (Or.inl ⟨by rfl, ?_⟩) hHeld ?_
  · intro w hSw; (try dsimp only at hSw); go_simp
  try simp only [Act.put, List.setIfInBounds_toArray, List.set_cons_zero, List.set_cons_succ]
  refine wpAnyH_takeL (i := 3) (d := some 6) (v := .pointer (some ⟨rb t, 0, none⟩)) rfl rfl (by kernel_rfl) (by kernel_rfl) (by kernel_rfl) (fun _ _ _ h => h) (Or.inl ⟨by rfl, ?_⟩) hHeld ?_
  · intro w hSw; (try dsimp only at hSw); go_simp
  try simp only [Act.put, List.setIfInBounds_toArray, List.set_cons_zero, List.set_cons_succ]
  refine wpAnyH_ready (rs := [4]) (by kernel_rfl) (by simp) ?_
  refine AllReadyH.cons rfl (fun K hK => ?_) AllReadyH.nil
  refine rd_store rfl 40 _ _ rfl none rfl g1 (lA x) rfl rfl r12_r Try.zLc rfl (lA_one _) ?_
  refine ⟨fun V13 n13 k13 => ?_⟩
  have m13_l := k13.on r12_l (Ne.symm ne6_r)
  have o13 := k13.bel _ _ l12 up1
  clear k13
  clear r12_r r12_l l12
  have y14 := Lib.hid (show (fun V : World => CB V g6 40 (lA x)) V13 from m13_l)
  refine hK.out _ _ y14.out (fun hHeld => ?_)
  clear hK K y14
  try simp only [Act.put, List.setIfInBounds_toArray, List.set_cons_zero, List.set_cons_succ]
  refine wpAnyH_takeL (i := 5) (d := some 8) (v := .int .i64 0) rfl rfl (by kernel_rfl) (by kernel_rfl) (by kernel_rfl) (fun _ _ _ h => h) (Or.inl ⟨by rfl, ?_⟩) hHeld ?_
  · intro w hSw; (try dsimp only at hSw); go_simp
  try simp only [Act.put, List.setIfInBounds_toArray, List.set_cons_zero, List.set_cons_succ]
  refine wpAnyH_done (by kernel_rfl) ?_ _
  go_wp2_with fail
  exact bodyPost_ret (v := .tuple #[.pointer (some ⟨rb t, 0, none⟩), .agg (lA x), .int .i64 0]) (res_tct Try.results38 rfl rfl rfl n13 Try.underlying40 rfl Try.zLc) rfl ⟨rfl, o13⟩
set_option maxRecDepth 100000 in
set_option maxHeartbeats 4000000 in
theorem afind_n (ba room : Nat) (rb : Nat → Nat) (sl : Nat → Option Addr × Nat × Nat) (Ls : Nat → List Lm) (t : Nat) (w : World) (h : AS w ba room rb sl Ls) (hr : 1 ≤ room) (ht : t < 17) (i : Int) (h0 : i < 0 ∨ ((sl t).2.1 : Int) ≤ i) : Calls Try.prog 38 #[.pointer (some ⟨ba, 0, none⟩), .int .u8 (t : Int), .int .i64 i] w fun e w' => e = .returned (.tuple #[.pointer (some ⟨rb t, 0, none⟩), .agg (lA zeroL), .int .i64 7]) ∧ Below w.heap.size w w' := by
  have hl := AL.start h
  go_enter Try.func38, Try.ntmps38
  go_wp2_with (first | ((with_reducible refine st_alloc 40 (lA zeroL) ?_ ?_); exact zero_lc))
  refine ⟨fun V1 g1 n1 f1 => ?_⟩
  have up1 : w.heap.size ≤ g1 := Nat.le_of_eq f1.at_
  have bl1 := f1.bel
  clear f1
  have r3_al := (hl).on bl1
  have l3 := le_tr (Below.refl _ _) bl1
  clear hl
  clear bl1
  go_wp2_with fail
  (with_reducible refine (queue_y ba t rb _ r3_al.as_.arr ht).mono ?_)
  rintro e w' ⟨rfl, rfl⟩
  have hg := r3_al.as_.ring t ht
  go_wp2_with fail
  (with_reducible refine (at_n (rb t) room (sl t).1 (sl t).2.1 (sl t).2.2 (Ls t) i _ hg hr h0).mono ?_)
  rintro e w9 ⟨rfl, b9⟩
  clear hg
  have r5_r := le_on n1 b9
  have r5_al := (r3_al).on b9
  have l5 := le_tr l3 b9
  clear n1 r3_al l3
  clear b9
  go_wp2_with (first | ((with_reducible refine st_alloc 40 (lA zeroL) ?_ ?_); exact zero_lc))
  refine ⟨fun V6 g6 n6 f6 => ?_⟩
  have ne6_r := f6.ne r5_r
  have up6 : w.heap.size ≤ g6 := f6.up l5
  have bl6 := f6.bel
  clear f6
  have r8_r := le_on r5_r bl6
  have r8_al := (r5_al).on bl6
  have l8 := le_tr l5 bl6
  clear r5_r r5_al l5
  clear bl6
  go_wp2_with (first | ((with_reducible refine st_store 40 _ _ g6 (lA zeroL) ?_ ?_ n6 ?_ ?_ ?_ ?_); exact rfl; exact rfl; exact Try.zLc; exact rfl; exact lA_one _))
  refine ⟨fun V9 n9 k9 => ?_⟩
  have m9_r := k9.on r8_r ne6_r
  have m9_al := (r8_al).wr k9 up6
  have o9 := k9.bel _ _ l8 up6
  clear k9
  clear n6 r8_r r8_al l8
  go_wp2_with fail
  have y10 := Lib.hid (show (fun V : World => CB V g6 40 (lA zeroL)) V9.drew from CB.drew n9)
  refine wp_region_held_drew (S := (fun V : World => CB V g6 40 (lA zeroL))) (by kernel_rfl) y10.out (fun hHeld => ?_)
  obtain ⟨D10, hD10⟩ : ∃ V, V9.drew = V := ⟨_, rfl⟩
  have b10 : Below V9.heap.size V9 D10 := by rw [← hD10]; exact le_dr (Below.refl _ _)
  rw [hD10] at hHeld ⊢
  clear hD10
  have r12_r := le_on m9_r b10
  have r12_l := le_on n9 b10
  have l12 := le_tr o9 b10
  clear m9_r n9 o9
  clear b10
  refine wpAnyH_takeL (i := 0) (d := some 28) (v := .pointer (some ⟨rb t, 0, none⟩)) rfl rfl (by kernel_rfl) (by kernel_rfl) (by kernel_rfl) (fun _ _ _ h => h) (Or.inl ⟨by rfl, ?_⟩) hHeld ?_
  · intro w hSw; (try dsimp only at hSw); go_simp
  try simp only [Act.put, List.setIfInBounds_toArray, List.set_cons_zero, List.set_cons_succ]
  refine wpAnyH_takeL (i := 1) (d := some 29) (v := .agg (lA zeroL)) rfl rfl (by kernel_rfl) (by kernel_rfl) (by kernel_rfl) (fun _ _ _ h => h) (Or.inl ⟨by rfl, ?_⟩) hHeld ?_
  · intro w hSw; exact yl_whole 40 _ g6 rfl hSw Try.underlying40 rfl Try.zLc
  try simp only [Act.put, List.setIfInBounds_toArray, List.set_cons_zero, List.set_cons_succ]
  refine wpAnyH_takeL (i := 2) (d := some 30) (v := .int .i64 7) rfl rfl (by kernel_rfl) (by kernel_rfl) (by kernel_rfl) (fun _ _ _ h => h) (Or.inl ⟨by rfl, ?_⟩) hHeld ?_
  · intro w hSw; (try dsimp only at hSw); go_simp
  try simp only [Act.put, List.setIfInBounds_toArray, List.set_cons_zero, List.set_cons_succ]
  refine wpAnyH_takeL (i := 3) (d := some 6) (v := .pointer (some ⟨rb t, 0, none⟩)) rfl rfl (by kernel_rfl) (by kernel_rfl) (by kernel_rfl) (fun _ _ _ h => h) (Or.inl ⟨by rfl, ?_⟩) hHeld ?_
  · intro w hSw; (try dsimp only at hSw); go_simp
  try simp only [Act.put, List.setIfInBounds_toArray, List.set_cons_zero, List.set_cons_succ]
  refine wpAnyH_ready (rs := [4]) (by kernel_rfl) (by simp) ?_
  refine AllReadyH.cons rfl (fun K hK => ?_) AllReadyH.nil
  refine rd_store rfl 40 _ _ rfl none rfl g1 (lA zeroL) rfl rfl r12_r Try.zLc rfl (lA_one _) ?_
  refine ⟨fun V13 n13 k13 => ?_⟩
  have m13_l := k13.on r12_l (Ne.symm ne6_r)
  have o13 := k13.bel _ _ l12 up1
  clear k13
  clear r12_r r12_l l12
  have y14 := Lib.hid (show (fun V : World => CB V g6 40 (lA zeroL)) V13 from m13_l)
  refine hK.out _ _ y14.out (fun hHeld => ?_)
  clear hK K y14
  try simp only [Act.put, List.setIfInBounds_toArray, List.set_cons_zero, List.set_cons_succ]
  refine wpAnyH_takeL (i := 5) (d := some 8) (v := .int .i64 7) rfl rfl (by kernel_rfl) (by kernel_rfl) (by kernel_rfl) (fun _ _ _ h => h) (Or.inl ⟨by rfl, ?_⟩) hHeld ?_
  · intro w hSw; (try dsimp only at hSw); go_simp
  try simp only [Act.put, List.setIfInBounds_toArray, List.set_cons_zero, List.set_cons_succ]
  refine wpAnyH_done (by kernel_rfl) ?_ _
  go_wp2_with fail
  exact bodyPost_ret (v := .tuple #[.pointer (some ⟨rb t, 0, none⟩), .agg (lA zeroL), .int .i64 7]) (res_tct Try.results38 rfl rfl rfl n13 Try.underlying40 rfl Try.zLc) rfl ⟨rfl, o13⟩
set_option maxRecDepth 100000 in
set_option maxHeartbeats 4000000 in
theorem afind_t (ba room : Nat) (rb : Nat → Nat) (sl : Nat → Option Addr × Nat × Nat) (Ls : Nat → List Lm) (t : Nat) (w : World) (h : AS w ba room rb sl Ls) (ht : 17 ≤ t) (i : Int) : Calls Try.prog 38 #[.pointer (some ⟨ba, 0, none⟩), .int .u8 (t : Int), .int .i64 i] w fun e w' => e = .returned (.tuple #[.pointer none, .agg (lA zeroL), .int .i64 2]) ∧ Below w.heap.size w w' := by
  obtain ⟨hl⟩ : Nonempty (AL w w ba room rb sl Ls) := ⟨AL.start h⟩
  go_enter Try.func38, Try.ntmps38
  go_wp2_with (first | ((with_reducible refine st_alloc 40 (lA zeroL) ?_ ?_); exact zero_lc))
  refine ⟨fun V1 g1 n1 f1 => ?_⟩
  have up1 : w.heap.size ≤ g1 := Nat.le_of_eq f1.at_
  have bl1 := f1.bel
  clear f1
  have r3_al := (hl).on bl1
  have l3 := le_tr (Below.refl _ _) bl1
  clear hl
  clear bl1
  go_wp2_with fail
  (with_reducible refine (queue_n ba t rb _ r3_al.as_.arr ht).mono ?_)
  rintro e w' ⟨rfl, rfl⟩
  go_wp2_with (first | ((with_reducible refine st_built0 40 (lA zeroL) ?_ ?_); exact built_l0) | ((with_reducible refine st_store 40 _ _ g1 (lA zeroL) ?_ ?_ n1 ?_ ?_ ?_ ?_); exact rfl; exact rfl; exact Try.zLc; exact rfl; exact lA_one _))
  refine ⟨fun V4 n4 k4 => ?_⟩
  have o4 := k4.bel _ _ l3 up1
  clear k4
  clear n1 l3
  go_wp2_with fail
  exact bodyPost_ret (v := .tuple #[.pointer none, .agg (lA zeroL), .int .i64 2]) (res_tct Try.results38 rfl rfl rfl n4 Try.underlying40 rfl Try.zLc) rfl ⟨rfl, o4⟩
set_option maxRecDepth 100000 in
set_option maxHeartbeats 4000000 in
theorem afind_0 (t : Nat) (w : World) (i : Int) : Calls Try.prog 38 #[.pointer none, .int .u8 (t : Int), .int .i64 i] w fun e w' => e = .returned (.tuple #[.pointer none, .agg (lA zeroL), .int .i64 1]) ∧ Below w.heap.size w w' := by
  go_enter Try.func38, Try.ntmps38
  go_wp2_with (first | ((with_reducible refine st_alloc 40 (lA zeroL) ?_ ?_); exact zero_lc))
  refine ⟨fun V1 g1 n1 f1 => ?_⟩
  have up1 : w.heap.size ≤ g1 := Nat.le_of_eq f1.at_
  have bl1 := f1.bel
  clear f1
  have l3 := le_tr (Below.refl _ _) bl1
  clear bl1
  go_wp2_with fail
  (with_reducible refine (queue_0 t _).mono ?_)
  rintro e w' ⟨rfl, rfl⟩
  go_wp2_with (first | ((with_reducible refine st_built0 40 (lA zeroL) ?_ ?_); exact built_l0) | ((with_reducible refine st_store 40 _ _ g1 (lA zeroL) ?_ ?_ n1 ?_ ?_ ?_ ?_); exact rfl; exact rfl; exact Try.zLc; exact rfl; exact lA_one _))
  refine ⟨fun V4 n4 k4 => ?_⟩
  have o4 := k4.bel _ _ l3 up1
  clear k4
  clear n1 l3
  go_wp2_with fail
  exact bodyPost_ret (v := .tuple #[.pointer none, .agg (lA zeroL), .int .i64 1]) (res_tct Try.results38 rfl rfl rfl n4 Try.underlying40 rfl Try.zLc) rfl ⟨rfl, o4⟩
set_option maxRecDepth 100000 in
set_option maxHeartbeats 4000000 in
theorem afind_z (ba : Nat) (t : Nat) (w : World) (h : AN w ba 54 17 (fun _ => .pointer none)) (i : Int) : Calls Try.prog 38 #[.pointer (some ⟨ba, 0, none⟩), .int .u8 (t : Int), .int .i64 i] w fun e w' => e = .returned (.tuple #[.pointer none, .agg (lA zeroL), .int .i64 1]) ∧ Below w.heap.size w w' := by
  have hz := AB.mk h
  go_enter Try.func38, Try.ntmps38
  go_wp2_with (first | ((with_reducible refine st_alloc 40 (lA zeroL) ?_ ?_); exact zero_lc))
  refine ⟨fun V1 g1 n1 f1 => ?_⟩
  have up1 : w.heap.size ≤ g1 := Nat.le_of_eq f1.at_
  have bl1 := f1.bel
  clear f1
  have r3_az := (hz).on bl1
  have l3 := le_tr (Below.refl _ _) bl1
  clear hz
  clear bl1
  go_wp2_with fail
  (with_reducible refine (queue_z ba t _ r3_az.out).mono ?_)
  rintro e w' ⟨rfl, rfl⟩
  go_wp2_with (first | ((with_reducible refine st_built0 40 (lA zeroL) ?_ ?_); exact built_l0) | ((with_reducible refine st_store 40 _ _ g1 (lA zeroL) ?_ ?_ n1 ?_ ?_ ?_ ?_); exact rfl; exact rfl; exact Try.zLc; exact rfl; exact lA_one _))
  refine ⟨fun V4 n4 k4 => ?_⟩
  have o4 := k4.bel _ _ l3 up1
  clear k4
  clear n1 l3
  go_wp2_with fail
  exact bodyPost_ret (v := .tuple #[.pointer none, .agg (lA zeroL), .int .i64 1]) (res_tct Try.results38 rfl rfl rfl n4 Try.underlying40 rfl Try.zLc) rfl ⟨rfl, o4⟩
set_option maxRecDepth 100000 in
set_option maxHeartbeats 400000 in
theorem alen_y (S : Nat → Prop) (ba room : Nat) (Q : Qs) (t : Nat) (w : World) (h : AO S ba room Q w) (ht : t < 17) : Calls Try.prog 15 #[.pointer (some ⟨ba, 0, none⟩), .int .u8 (t : Int)] w fun e w' => e = .returned (.int .i64 ((Q t).length : Int)) ∧ w = w' := by
  obtain ⟨⟨rb, sl, Ls, hA, hq, hS⟩, hrm, hok⟩ := h.ok
  have hlt := h.lt
  have hln : ∀ t, t < 17 → (Ls t).length = (Q t).length := fun t ht => by rw [← hq t ht, List.length_map]
  have hsl : ∀ t, t < 17 → (sl t).2.1 = (Q t).length := fun t ht => by rw [← hln t ht]; exact (hA.ring t ht).len.symm
  have hg := hA.ring t ht
  have hn := hsl t ht
  go_enter Try.func15, Try.ntmps15
  go_wp2_with fail
  (with_reducible refine (queue_y ba t rb _ hA.arr ht).mono ?_)
  rintro e w' ⟨rfl, rfl⟩
  go_wp2_with fail
  (with_reducible refine (len_l (rb t) room (sl t).1 (sl t).2.1 (sl t).2.2 (Ls t) _ hg hrm.1).mono ?_)
  rintro e w' ⟨rfl, rfl⟩
  go_wp2_with fail
  go_ret
  exact ⟨by first | rfl | rw [hn], rfl⟩
set_option maxRecDepth 100000 in
set_option maxHeartbeats 400000 in
theorem alen_t (S : Nat → Prop) (ba room : Nat) (Q : Qs) (t : Nat) (w : World) (h : AO S ba room Q w) (ht : 17 ≤ t) : Calls Try.prog 15 #[.pointer (some ⟨ba, 0, none⟩), .int .u8 (t : Int)] w fun e w' => e = .returned (.int .i64 ((Q t).length : Int)) ∧ w = w' := by
  obtain ⟨⟨rb, sl, Ls, hA, hq, hS⟩, hrm, hok⟩ := h.ok
  have hlt := h.lt
  have hln : ∀ t, t < 17 → (Ls t).length = (Q t).length := fun t ht => by rw [← hq t ht, List.length_map]
  have hsl : ∀ t, t < 17 → (sl t).2.1 = (Q t).length := fun t ht => by rw [← hln t ht]; exact (hA.ring t ht).len.symm
  have hn : Q t = [] := (hok t).2.1 ht
  go_enter Try.func15, Try.ntmps15
  go_wp2_with fail
  (with_reducible refine (queue_n ba t rb _ hA.arr ht).mono ?_)
  rintro e w' ⟨rfl, rfl⟩
  go_wp2_with fail
  go_ret
  exact ⟨by first | rfl | (rw [hn]; rfl), rfl⟩
set_option maxRecDepth 100000 in
set_option maxHeartbeats 400000 in
theorem alen_0 (t : Nat) (w : World)  : Calls Try.prog 15 #[.pointer none, .int .u8 (t : Int)] w fun e w' => e = .returned (.int .i64 0) ∧ w = w' := by
  go_enter Try.func15, Try.ntmps15
  go_wp2_with fail
  (with_reducible refine (queue_0 t _).mono ?_)
  rintro e w' ⟨rfl, rfl⟩
  go_wp2_with fail
  go_ret
  exact ⟨rfl, rfl⟩
set_option maxRecDepth 100000 in
set_option maxHeartbeats 400000 in
theorem alen_z (ba : Nat) (t : Nat) (w : World) (h : AN w ba 54 17 (fun _ => .pointer none)) : Calls Try.prog 15 #[.pointer (some ⟨ba, 0, none⟩), .int .u8 (t : Int)] w fun e w' => e = .returned (.int .i64 0) ∧ w = w' := by
  go_enter Try.func15, Try.ntmps15
  go_wp2_with fail
  (with_reducible refine (queue_z ba t _ h).mono ?_)
  rintro e w' ⟨rfl, rfl⟩
  go_wp2_with fail
  go_ret
  exact ⟨rfl, rfl⟩
theorem alen_c (S : Nat → Prop) (ba room : Nat) (Q : Qs) (t : Nat) (w : World) (h : AO S ba room Q w) : Calls Try.prog 15 #[.pointer (some ⟨ba, 0, none⟩), .int .u8 (t : Int)] w fun e w' => e = .returned (.int .i64 ((Q t).length : Int)) ∧ w = w' := by
  by_cases ht : t < 17
  · exact alen_y S ba room Q t w h ht
  · exact alen_t S ba room Q t w h (by omega)
set_option maxRecDepth 100000 in
set_option maxHeartbeats 400000 in
theorem send_0 (x : Lm) (w : World)  : Calls Try.prog 19 #[.pointer none, .agg (lA x)] w fun e w' => e = .returned (.int .i64 1) ∧ Below w.heap.size w w' := by
  go_enter Try.func19, Try.ntmps19
  go_wp2_with (first | ((with_reducible refine st_box 40 _ (lA x) ?_ ?_); exact rfl))
  refine ⟨fun V1 g1 n1 f1 => ?_⟩
  have up1 : w.heap.size ≤ g1 := Nat.le_of_eq f1.at_
  have bl1 := f1.bel
  clear f1
  have l3 := le_tr (Below.refl _ _) bl1
  clear bl1
  have c4 : V1.cell? ⟨g1, 1, none⟩ = some (.int .u8 ((x.to) : Int)) := CB.cell n1 1
  go_wp2_with fail
  (with_reducible refine (queue_0 x.to _).mono ?_)
  rintro e w' ⟨rfl, rfl⟩
  clear c4
  go_wp2_with fail
  go_ret
  exact ⟨rfl, l3⟩
set_option maxRecDepth 100000 in
set_option maxHeartbeats 400000 in
theorem send_z (ba : Nat) (x : Lm) (w : World) (h : AN w ba 54 17 (fun _ => .pointer none)) : Calls Try.prog 19 #[.pointer (some ⟨ba, 0, none⟩), .agg (lA x)] w fun e w' => e = .returned (.int .i64 1) ∧ Below w.heap.size w w' := by
  go_enter Try.func19, Try.ntmps19
  go_wp2_with (first | ((with_reducible refine st_box 40 _ (lA x) ?_ ?_); exact rfl))
  refine ⟨fun V1 g1 n1 f1 => ?_⟩
  have up1 : w.heap.size ≤ g1 := Nat.le_of_eq f1.at_
  have bl1 := f1.bel
  clear f1
  have l3 := le_tr (Below.refl _ _) bl1
  clear bl1
  have c4 : V1.cell? ⟨g1, 1, none⟩ = some (.int .u8 ((x.to) : Int)) := CB.cell n1 1
  have h1 := (AB.mk h).on (by exact l3)
  go_wp2_with fail
  (with_reducible refine (queue_z ba x.to _ h1.out).mono ?_)
  rintro e w' ⟨rfl, rfl⟩
  clear c4
  go_wp2_with fail
  go_ret
  exact ⟨rfl, l3⟩
set_option maxRecDepth 100000 in
set_option maxHeartbeats 4000000 in
theorem send_c (S : Nat → Prop) (ba room : Nat) (Q : Qs) (x : Lm) (w : World) (h : AO S ba room Q w) (hx : RR w bcl 1 x.A x.n x.c x.b) : Calls Try.prog 19 #[.pointer (some ⟨ba, 0, none⟩), .agg (lA x)] w (APost w S ba room (sSn room Q x.lt) (.int .i64 ((eSn room Q x.lt : Nat) : Int))) := by
  obtain ⟨f, t, bs, A, n, c⟩ := x
  obtain ⟨⟨rb, sl, Ls, hA, hq, hS⟩, hrm, hok⟩ := h.ok
  have hlt := h.lt
  have hln : ∀ t, t < 17 → (Ls t).length = (Q t).length := fun t ht => by rw [← hq t ht, List.length_map]
  have hsl : ∀ t, t < 17 → (sl t).2.1 = (Q t).length := fun t ht => by rw [← hln t ht]; exact (hA.ring t ht).len.symm
  have hlen := hx.len
  simp only at hlen hx
  have hl := AL.start hA
  have hb := RL.start hx
  clear hx
  by_cases ht : t < 17
  · skip
    have hg := hsl t ht
    by_cases hf : f < 17
    · skip
      have q1 : decide ((17 : Int) ≤ (f : Int)) = false := by simp; omega
      have q1' : decide ((f : Int) ≥ (17 : Int)) = false := by simp; omega
      by_cases h4 : n ≤ 4000
      · skip
        have q2 : decide ((4000 : Int) < (n : Int)) = false := by simp; omega
        have q2' : decide ((n : Int) > (4000 : Int)) = false := by simp; omega
        have hfx := fun V (hh : RR V bcl 1 A n c bs) => clone_c f t bs A n c V hh (by omega)
        by_cases hr : (Q t).length < room
        · skip
          have HE := Lib.hid (show eSn room Q (Lm.lt ⟨f, t, bs, A, n, c⟩) = 0 from (show eSn room Q ⟨f, t, bs⟩ = 0 by exact eSn_0 (by omega) (by omega) (by omega)))
          have HQ := Lib.hid (show sSn room Q (Lm.lt ⟨f, t, bs, A, n, c⟩) = updQ Q t (Q t ++ [Lm.lt ⟨f, t, bs, A, n, c⟩]) by unfold sSn; rw [if_pos HE.out]; rfl)
          have HR := Lib.hid (roomy_sn hok (Lm.lt ⟨f, t, bs, A, n, c⟩))
          clear hf h4
          go_enter Try.func19, Try.ntmps19
          go_wp2_with (first | ((with_reducible refine st_box 40 _ (lA ⟨f, t, bs, A, n, c⟩) ?_ ?_); exact rfl))
          refine ⟨fun V1 g1 n1 f1 => ?_⟩
          have up1 : w.heap.size ≤ g1 := Nat.le_of_eq f1.at_
          have bl1 := f1.bel
          clear f1
          have r3_al := (hl).on bl1
          have r3_bb := (hb).on bl1
          have l3 := le_tr (Below.refl _ _) bl1
          clear hl hb
          clear bl1
          have c4 : V1.cell? ⟨g1, 1, none⟩ = some (.int .u8 (t : Int)) := CB.cell n1 1
          go_wp2_with fail
          (with_reducible refine (queue_y ba t rb _ r3_al.as_.arr ht).mono ?_)
          rintro e w' ⟨rfl, rfl⟩
          clear c4
          have c5 : V1.cell? ⟨g1, 0, none⟩ = some (.int .u8 (f : Int)) := CB.cell n1 0
          have c6 : V1.cell? ⟨g1, 2, none⟩ = some (.slice A n c) := CB.cell n1 2
          have lb1 := (l3).size
          go_wp2_with (first | ((with_reducible refine st_load 40 _ g1 ?_ n1 Try.underlying40 ?_ ?_ ?_); exact rfl; exact rfl; exact Try.zLc))
          (with_reducible refine (hfx _ (r3_bb).rr).mono ?_)
          rintro e w7 ⟨A1, c1, G1, rfl, so1, b7⟩
          clear c5 c6
          have r9_x := le_on n1 b7
          have r9_al := (r3_al).on b7
          have r9_bb := (r3_bb).on b7
          have l9 := le_tr l3 b7
          clear n1 r3_al r3_bb l3
          clear b7
          have hg1 := r9_al.as_.ring t ht
          go_wp2_with fail
          (with_reducible refine (push_y (rb t) room (sl t).1 (sl t).2.1 (sl t).2.2 (Ls t) ⟨f, t, bs, A1, n, c1⟩ _ hg1 hrm.1 (by omega) hrm.2).mono ?_)
          intro e w9 gp
          obtain ⟨rfl, hp⟩ := APost.pushed (x := ⟨f, t, bs, A1, n, c1⟩) h hA hq hS ht l9 (SO.mono so1 lb1) gp HQ.out HR.out
          go_wp2_with fail
          go_ret
          rw [HE.out]
          exact hp
        have HE := Lib.hid (show eSn room Q (Lm.lt ⟨f, t, bs, A, n, c⟩) = 6 from (show eSn room Q ⟨f, t, bs⟩ = 6 by exact eSn_6 (by omega) (by omega) (by omega)))
        have HQ := Lib.hid (show sSn room Q (Lm.lt ⟨f, t, bs, A, n, c⟩) = Q by unfold sSn; rw [HE.out]; rfl)
        have hfull : room = (sl t).2.1 := by have := (hok t).1; omega
        clear hf h4 hr
        go_enter Try.func19, Try.ntmps19
        go_wp2_with (first | ((with_reducible refine st_box 40 _ (lA ⟨f, t, bs, A, n, c⟩) ?_ ?_); exact rfl))
        refine ⟨fun V1 g1 n1 f1 => ?_⟩
        have up1 : w.heap.size ≤ g1 := Nat.le_of_eq f1.at_
        have bl1 := f1.bel
        clear f1
        have r3_al := (hl).on bl1
        have r3_bb := (hb).on bl1
        have l3 := le_tr (Below.refl _ _) bl1
        clear hl hb
        clear bl1
        have c4 : V1.cell? ⟨g1, 1, none⟩ = some (.int .u8 (t : Int)) := CB.cell n1 1
        go_wp2_with fail
        (with_reducible refine (queue_y ba t rb _ r3_al.as_.arr ht).mono ?_)
        rintro e w' ⟨rfl, rfl⟩
        clear c4
        have c5 : V1.cell? ⟨g1, 0, none⟩ = some (.int .u8 (f : Int)) := CB.cell n1 0
        have c6 : V1.cell? ⟨g1, 2, none⟩ = some (.slice A n c) := CB.cell n1 2
        have lb1 := (l3).size
        go_wp2_with (first | ((with_reducible refine st_load 40 _ g1 ?_ n1 Try.underlying40 ?_ ?_ ?_); exact rfl; exact rfl; exact Try.zLc))
        (with_reducible refine (hfx _ (r3_bb).rr).mono ?_)
        rintro e w7 ⟨A1, c1, G1, rfl, so1, b7⟩
        clear c5 c6
        have r9_x := le_on n1 b7
        have r9_al := (r3_al).on b7
        have r9_bb := (r3_bb).on b7
        have l9 := le_tr l3 b7
        clear n1 r3_al r3_bb l3
        clear b7
        have hg1 := r9_al.as_.ring t ht
        go_wp2_with fail
        have hg2 : RG w7 (rb t) (sl t).2.1 (sl t).1 (sl t).2.1 (sl t).2.2 (Ls t) := by have h2 := hg1; rw [hfull] at h2; exact h2
        clear hg1
        (with_reducible refine (push_n (rb t) (sl t).1 (sl t).2.1 (sl t).2.2 (Ls t) ⟨f, t, bs, A1, n, c1⟩ _ hg2 (by omega)).mono ?_)
        rintro e w9 ⟨rfl, b9⟩
        clear hg2 so1
        have r11_x := le_on r9_x b9
        have l11 := le_tr l9 b9
        clear r9_x l9
        clear b9
        go_wp2_with fail
        go_ret
        exact APost.no h l11 HQ.out (by rw [HE.out]; rfl)
      have q2 : decide ((4000 : Int) < (n : Int)) = true := by simp; omega
      have q2' : decide ((n : Int) > (4000 : Int)) = true := by simp; omega
      have HE := Lib.hid (show eSn room Q (Lm.lt ⟨f, t, bs, A, n, c⟩) = 3 from (show eSn room Q ⟨f, t, bs⟩ = 3 by exact eSn_3 (by omega) (by omega)))
      have HQ := Lib.hid (show sSn room Q (Lm.lt ⟨f, t, bs, A, n, c⟩) = Q by unfold sSn; rw [HE.out]; rfl)
      clear hf h4
      go_enter Try.func19, Try.ntmps19
      go_wp2_with (first | ((with_reducible refine st_box 40 _ (lA ⟨f, t, bs, A, n, c⟩) ?_ ?_); exact rfl))
      refine ⟨fun V1 g1 n1 f1 => ?_⟩
      have up1 : w.heap.size ≤ g1 := Nat.le_of_eq f1.at_
      have bl1 := f1.bel
      clear f1
      have r3_al := (hl).on bl1
      have r3_bb := (hb).on bl1
      have l3 := le_tr (Below.refl _ _) bl1
      clear hl hb
      clear bl1
      have c4 : V1.cell? ⟨g1, 1, none⟩ = some (.int .u8 (t : Int)) := CB.cell n1 1
      go_wp2_with fail
      (with_reducible refine (queue_y ba t rb _ r3_al.as_.arr ht).mono ?_)
      rintro e w' ⟨rfl, rfl⟩
      clear c4
      have c5 : V1.cell? ⟨g1, 0, none⟩ = some (.int .u8 (f : Int)) := CB.cell n1 0
      have c6 : V1.cell? ⟨g1, 2, none⟩ = some (.slice A n c) := CB.cell n1 2
      go_wp2_with fail
      go_ret
      exact APost.no h l3 HQ.out (by rw [HE.out]; rfl)
    have q1 : decide ((17 : Int) ≤ (f : Int)) = true := by simp; omega
    have q1' : decide ((f : Int) ≥ (17 : Int)) = true := by simp; omega
    have HE := Lib.hid (show eSn room Q (Lm.lt ⟨f, t, bs, A, n, c⟩) = 2 from (show eSn room Q ⟨f, t, bs⟩ = 2 by exact eSn_2 (by omega)))
    have HQ := Lib.hid (show sSn room Q (Lm.lt ⟨f, t, bs, A, n, c⟩) = Q by unfold sSn; rw [HE.out]; rfl)
    clear hf
    go_enter Try.func19, Try.ntmps19
    go_wp2_with (first | ((with_reducible refine st_box 40 _ (lA ⟨f, t, bs, A, n, c⟩) ?_ ?_); exact rfl))
    refine ⟨fun V1 g1 n1 f1 => ?_⟩
    have up1 : w.heap.size ≤ g1 := Nat.le_of_eq f1.at_
    have bl1 := f1.bel
    clear f1
    have r3_al := (hl).on bl1
    have r3_bb := (hb).on bl1
    have l3 := le_tr (Below.refl _ _) bl1
    clear hl hb
    clear bl1
    have c4 : V1.cell? ⟨g1, 1, none⟩ = some (.int .u8 (t : Int)) := CB.cell n1 1
    go_wp2_with fail
    (with_reducible refine (queue_y ba t rb _ r3_al.as_.arr ht).mono ?_)
    rintro e w' ⟨rfl, rfl⟩
    clear c4
    have c5 : V1.cell? ⟨g1, 0, none⟩ = some (.int .u8 (f : Int)) := CB.cell n1 0
    go_wp2_with fail
    go_ret
    exact APost.no h l3 HQ.out (by rw [HE.out]; rfl)
  have HE := Lib.hid (show eSn room Q (Lm.lt ⟨f, t, bs, A, n, c⟩) = 2 from (show eSn room Q ⟨f, t, bs⟩ = 2 by exact eSn_2 (by omega)))
  have HQ := Lib.hid (show sSn room Q (Lm.lt ⟨f, t, bs, A, n, c⟩) = Q by unfold sSn; rw [HE.out]; rfl)
  have ht : 17 ≤ t := by omega
  go_enter Try.func19, Try.ntmps19
  go_wp2_with (first | ((with_reducible refine st_box 40 _ (lA ⟨f, t, bs, A, n, c⟩) ?_ ?_); exact rfl))
  refine ⟨fun V1 g1 n1 f1 => ?_⟩
  have up1 : w.heap.size ≤ g1 := Nat.le_of_eq f1.at_
  have bl1 := f1.bel
  clear f1
  have r3_al := (hl).on bl1
  have r3_bb := (hb).on bl1
  have l3 := le_tr (Below.refl _ _) bl1
  clear hl hb
  clear bl1
  have c4 : V1.cell? ⟨g1, 1, none⟩ = some (.int .u8 (t : Int)) := CB.cell n1 1
  go_wp2_with fail
  (with_reducible refine (queue_n ba t rb _ r3_al.as_.arr ht).mono ?_)
  rintro e w' ⟨rfl, rfl⟩
  clear c4
  go_wp2_with fail
  go_ret
  exact APost.no h l3 HQ.out (by rw [HE.out]; rfl)
end Go.Proofs.Ytcfdfimkgehdfaa
