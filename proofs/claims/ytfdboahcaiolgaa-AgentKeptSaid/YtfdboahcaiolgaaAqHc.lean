/-
  hearOffer, hearGive, hearGot of package hand: what the document says comes of an Offer, a Give, a Got. Conditions: the side and the message are valid.
-/
import Derived.Test.YtfdboahcaiolgaaAqHa
import Derived.Test.YtfdboahcaiolgaaAqLb
set_option linter.unusedVariables false
set_option linter.unusedSimpArgs false
namespace Go.Proofs.Ytfdboahcaiolgaa
open Go.RowKit

set_option maxRecDepth 100000 in
set_option maxHeartbeats 4000000 in
theorem hoffer_c (me ep st to : Int) (cg : ByteArray) (kp : Bool) (kd fr t e : Int) (mg : ByteArray) (w : World) : Calls Try.prog 47 #[.agg #[.int .u8 me, .int .i64 ep, .int .i64 st, .int .u8 to, .string cg, .bool kp], .agg #[.int .i64 kd, .int .u8 fr, .int .u8 t, .int .i64 e, .string mg]] w (HPost w 68 (offerM ⟨me, ⟨ep, st, to⟩, cg, kp⟩ ⟨kd, fr, t, e, mg⟩)) := by
  by_cases h : e ≤ ep
  · have h' : decide (e ≤ ep) = true := by simp [h]
    have H := Lib.hid (show offerM ⟨me, ⟨ep, st, to⟩, cg, kp⟩ ⟨kd, fr, t, e, mg⟩ = ⟨⟨me, ⟨ep, st, to⟩, cg, kp⟩, [], 10⟩ by unfold offerM; simp [h])
    clear h
    obtain ⟨W1, hW1⟩ : ∃ V, ((w.alloc (.cells #[.int .u8 me, .int .i64 ep, .int .i64 st, .int .u8 to, .string cg, .bool kp] 45)).alloc (.cells #[.int .i64 kd, .int .u8 fr, .int .u8 t, .int .i64 e, .string mg] 68)).alloc (.cells #[.int .u8 me, .int .i64 ep, .int .i64 st, .int .u8 to, .string cg, .bool kp] 45) = V := ⟨_, rfl⟩
    have nW1_s : CB W1 (w.heap.size) 45 #[.int .u8 me, .int .i64 ep, .int .i64 st, .int .u8 to, .string cg, .bool kp] := by
      rw [← hW1]
      have := (((CB.new w 45 #[.int .u8 me, .int .i64 ep, .int .i64 st, .int .u8 to, .string cg, .bool kp]).alloc (.cells #[.int .i64 kd, .int .u8 fr, .int .u8 t, .int .i64 e, .string mg] 68)).alloc (.cells #[.int .u8 me, .int .i64 ep, .int .i64 st, .int .u8 to, .string cg, .bool kp] 45))
      simpa using this
    have nW1_m : CB W1 (w.heap.size + 1) 68 #[.int .i64 kd, .int .u8 fr, .int .u8 t, .int .i64 e, .string mg] := by
      rw [← hW1]
      have := ((CB.new (w.alloc (.cells #[.int .u8 me, .int .i64 ep, .int .i64 st, .int .u8 to, .string cg, .bool kp] 45)) 68 #[.int .i64 kd, .int .u8 fr, .int .u8 t, .int .i64 e, .string mg]).alloc (.cells #[.int .u8 me, .int .i64 ep, .int .i64 st, .int .u8 to, .string cg, .bool kp] 45))
      simpa using this
    have nW1_r : CB W1 (w.heap.size + 1 + 1) 45 #[.int .u8 me, .int .i64 ep, .int .i64 st, .int .u8 to, .string cg, .bool kp] := by
      rw [← hW1]
      have := (CB.new ((w.alloc (.cells #[.int .u8 me, .int .i64 ep, .int .i64 st, .int .u8 to, .string cg, .bool kp] 45)).alloc (.cells #[.int .i64 kd, .int .u8 fr, .int .u8 t, .int .i64 e, .string mg] 68)) 45 #[.int .u8 me, .int .i64 ep, .int .i64 st, .int .u8 to, .string cg, .bool kp])
      simpa using this
    have neW1_01 : w.heap.size ≠ w.heap.size + 1 := by omega
    have neW1_02 : w.heap.size ≠ w.heap.size + 1 + 1 := by omega
    have neW1_12 : w.heap.size + 1 ≠ w.heap.size + 1 + 1 := by omega
    have lW1 : Below w.heap.size w W1 := by rw [← hW1]; exact le_tr (le_tr (le_al _ _) (le_al _ _)) (le_al _ _)
    have HW1 := Lib.hid hW1
    clear hW1
    go_enter Try.func47, Try.ntmps47
    go_wp2_with fail
    rw [HW1.out]
    have x_r0 : W1.cell? ⟨w.heap.size + 1 + 1, 0, none⟩ = some (.int .u8 me) := CB.cell nW1_r 0
    have x_r1 : W1.cell? ⟨w.heap.size + 1 + 1, 1, none⟩ = some (.int .i64 ep) := CB.cell nW1_r 1
    have x_r2 : W1.cell? ⟨w.heap.size + 1 + 1, 2, none⟩ = some (.int .i64 st) := CB.cell nW1_r 2
    have x_r3 : W1.cell? ⟨w.heap.size + 1 + 1, 3, none⟩ = some (.int .u8 to) := CB.cell nW1_r 3
    have x_r4 : W1.cell? ⟨w.heap.size + 1 + 1, 4, none⟩ = some (.string cg) := CB.cell nW1_r 4
    have x_r5 : W1.cell? ⟨w.heap.size + 1 + 1, 5, none⟩ = some (.bool kp) := CB.cell nW1_r 5
    exact bodyPost_ret (v := .tuple #[.agg #[.int .u8 me, .int .i64 ep, .int .i64 st, .int .u8 to, .string cg, .bool kp], .slice none 0 0, .int .i64 10]) (by simp [results, Try.results47, go_sem, x_r0, x_r1, x_r2, x_r3, x_r4, x_r5]) rfl (HPost.mk' me ep st to cg kp 10 [] H.out (RS.nil _ _ _ _) lW1)
  · have h' : decide (e ≤ ep) = false := by simp; omega
    have H := Lib.hid (show offerM ⟨me, ⟨ep, st, to⟩, cg, kp⟩ ⟨kd, fr, t, e, mg⟩ = ⟨⟨me, ⟨ep, st, to⟩, cg, kp⟩, [⟨2, me, fr, e, ⟨#[]⟩⟩], 0⟩ by unfold offerM; simp [h])
    clear h
    obtain ⟨W1, hW1⟩ : ∃ V, ((w.alloc (.cells #[.int .u8 me, .int .i64 ep, .int .i64 st, .int .u8 to, .string cg, .bool kp] 45)).alloc (.cells #[.int .i64 kd, .int .u8 fr, .int .u8 t, .int .i64 e, .string mg] 68)).alloc (.cells #[.int .u8 0, .int .i64 0, .int .i64 0, .int .u8 0, .string ⟨#[]⟩, .bool false] 45) = V := ⟨_, rfl⟩
    have nW1_s : CB W1 (w.heap.size) 45 #[.int .u8 me, .int .i64 ep, .int .i64 st, .int .u8 to, .string cg, .bool kp] := by
      rw [← hW1]
      have := (((CB.new w 45 #[.int .u8 me, .int .i64 ep, .int .i64 st, .int .u8 to, .string cg, .bool kp]).alloc (.cells #[.int .i64 kd, .int .u8 fr, .int .u8 t, .int .i64 e, .string mg] 68)).alloc (.cells #[.int .u8 0, .int .i64 0, .int .i64 0, .int .u8 0, .string ⟨#[]⟩, .bool false] 45))
      simpa using this
    have nW1_m : CB W1 (w.heap.size + 1) 68 #[.int .i64 kd, .int .u8 fr, .int .u8 t, .int .i64 e, .string mg] := by
      rw [← hW1]
      have := ((CB.new (w.alloc (.cells #[.int .u8 me, .int .i64 ep, .int .i64 st, .int .u8 to, .string cg, .bool kp] 45)) 68 #[.int .i64 kd, .int .u8 fr, .int .u8 t, .int .i64 e, .string mg]).alloc (.cells #[.int .u8 0, .int .i64 0, .int .i64 0, .int .u8 0, .string ⟨#[]⟩, .bool false] 45))
      simpa using this
    have nW1_r : CB W1 (w.heap.size + 1 + 1) 45 #[.int .u8 0, .int .i64 0, .int .i64 0, .int .u8 0, .string ⟨#[]⟩, .bool false] := by
      rw [← hW1]
      have := (CB.new ((w.alloc (.cells #[.int .u8 me, .int .i64 ep, .int .i64 st, .int .u8 to, .string cg, .bool kp] 45)).alloc (.cells #[.int .i64 kd, .int .u8 fr, .int .u8 t, .int .i64 e, .string mg] 68)) 45 #[.int .u8 0, .int .i64 0, .int .i64 0, .int .u8 0, .string ⟨#[]⟩, .bool false])
      simpa using this
    have neW1_01 : w.heap.size ≠ w.heap.size + 1 := by omega
    have neW1_02 : w.heap.size ≠ w.heap.size + 1 + 1 := by omega
    have neW1_12 : w.heap.size + 1 ≠ w.heap.size + 1 + 1 := by omega
    have lW1 : Below w.heap.size w W1 := by rw [← hW1]; exact le_tr (le_tr (le_al _ _) (le_al _ _)) (le_al _ _)
    have HW1 := Lib.hid hW1
    clear hW1
    go_enter Try.func47, Try.ntmps47
    go_wp2_with fail
    rw [HW1.out]
    have y2 := Lib.hid (show (fun V : World => V.cell? ⟨w.heap.size, 0, none⟩ = some (.int .u8 me) ∧ V.cell? ⟨w.heap.size, 1, none⟩ = some (.int .i64 ep) ∧ V.cell? ⟨w.heap.size, 2, none⟩ = some (.int .i64 st) ∧ V.cell? ⟨w.heap.size, 3, none⟩ = some (.int .u8 to) ∧ V.cell? ⟨w.heap.size, 4, none⟩ = some (.string cg) ∧ V.cell? ⟨w.heap.size, 5, none⟩ = some (.bool kp) ∧ V.cell? ⟨w.heap.size + 1, 0, none⟩ = some (.int .i64 kd) ∧ V.cell? ⟨w.heap.size + 1, 1, none⟩ = some (.int .u8 fr) ∧ V.cell? ⟨w.heap.size + 1, 2, none⟩ = some (.int .u8 t) ∧ V.cell? ⟨w.heap.size + 1, 3, none⟩ = some (.int .i64 e) ∧ V.cell? ⟨w.heap.size + 1, 4, none⟩ = some (.string mg)) W1 from ⟨CB.cell nW1_s 0, CB.cell nW1_s 1, CB.cell nW1_s 2, CB.cell nW1_s 3, CB.cell nW1_s 4, CB.cell nW1_s 5, CB.cell nW1_m 0, CB.cell nW1_m 1, CB.cell nW1_m 2, CB.cell nW1_m 3, CB.cell nW1_m 4⟩)
    refine wp_region_held_drew (S := (fun V : World => V.cell? ⟨w.heap.size, 0, none⟩ = some (.int .u8 me) ∧ V.cell? ⟨w.heap.size, 1, none⟩ = some (.int .i64 ep) ∧ V.cell? ⟨w.heap.size, 2, none⟩ = some (.int .i64 st) ∧ V.cell? ⟨w.heap.size, 3, none⟩ = some (.int .u8 to) ∧ V.cell? ⟨w.heap.size, 4, none⟩ = some (.string cg) ∧ V.cell? ⟨w.heap.size, 5, none⟩ = some (.bool kp) ∧ V.cell? ⟨w.heap.size + 1, 0, none⟩ = some (.int .i64 kd) ∧ V.cell? ⟨w.heap.size + 1, 1, none⟩ = some (.int .u8 fr) ∧ V.cell? ⟨w.heap.size + 1, 2, none⟩ = some (.int .u8 t) ∧ V.cell? ⟨w.heap.size + 1, 3, none⟩ = some (.int .i64 e) ∧ V.cell? ⟨w.heap.size + 1, 4, none⟩ = some (.string mg))) (by kernel_rfl) y2.out (fun hHeld => ?_)
    obtain ⟨D2, hD2⟩ : ∃ V, W1.drew = V := ⟨_, rfl⟩
    have b2 : Below W1.heap.size W1 D2 := by rw [← hD2]; exact le_dr (Below.refl _ _)
    rw [hD2] at hHeld ⊢
    clear hD2
    have r3_s := le_on nW1_s b2
    have r3_m := le_on nW1_m b2
    have r3_r := le_on nW1_r b2
    have l3 := le_tr lW1 b2
    clear nW1_s nW1_m nW1_r lW1
    clear b2
    refine wpAnyH_takeL (i := 0) (d := some 14) (v := .agg #[.int .u8 me, .int .i64 ep, .int .i64 st, .int .u8 to, .string cg, .bool kp]) rfl rfl (by kernel_rfl) (by kernel_rfl) (by kernel_rfl) (fun _ _ _ h => h) (Or.inl ⟨by rfl, ?_⟩) hHeld ?_
    · intro w hSw; (try dsimp only at hSw); go_simp
    try simp only [Act.put, List.setIfInBounds_toArray, List.set_cons_zero, List.set_cons_succ]
    refine wpAnyH_takeL (i := 1) (d := some 15) (v := .agg #[.int .u8 me, .int .i64 ep, .int .i64 st, .int .u8 to, .string cg, .bool kp]) rfl rfl (by kernel_rfl) (by kernel_rfl) (by kernel_rfl) (fun _ _ _ h => h) (Or.inl ⟨by rfl, ?_⟩) hHeld ?_
    · intro w hSw; (try dsimp only at hSw); go_simp
    try simp only [Act.put, List.setIfInBounds_toArray, List.set_cons_zero, List.set_cons_succ]
    refine wpAnyH_takeL (i := 2) (d := some 16) (v := .pointer (some ⟨w.heap.size + 1, 1, none⟩)) rfl rfl (by kernel_rfl) (by kernel_rfl) (by kernel_rfl) (fun _ _ _ h => h) (Or.inl ⟨by rfl, ?_⟩) hHeld ?_
    · intro w hSw; (try dsimp only at hSw); go_simp
    try simp only [Act.put, List.setIfInBounds_toArray, List.set_cons_zero, List.set_cons_succ]
    refine wpAnyH_takeL (i := 3) (d := some 17) (v := .int .u8 fr) rfl rfl (by kernel_rfl) (by kernel_rfl) (by kernel_rfl) (fun _ _ _ h => h) (Or.inl ⟨by rfl, ?_⟩) hHeld ?_
    · intro w hSw; (try dsimp only at hSw); go_simp
    try simp only [Act.put, List.setIfInBounds_toArray, List.set_cons_zero, List.set_cons_succ]
    refine wpAnyH_takeL (i := 4) (d := some 18) (v := .pointer (some ⟨w.heap.size + 1, 3, none⟩)) rfl rfl (by kernel_rfl) (by kernel_rfl) (by kernel_rfl) (fun _ _ _ h => h) (Or.inl ⟨by rfl, ?_⟩) hHeld ?_
    · intro w hSw; (try dsimp only at hSw); go_simp
    try simp only [Act.put, List.setIfInBounds_toArray, List.set_cons_zero, List.set_cons_succ]
    refine wpAnyH_takeL (i := 5) (d := some 19) (v := .int .i64 e) rfl rfl (by kernel_rfl) (by kernel_rfl) (by kernel_rfl) (fun _ _ _ h => h) (Or.inl ⟨by rfl, ?_⟩) hHeld ?_
    · intro w hSw; (try dsimp only at hSw); go_simp
    try simp only [Act.put, List.setIfInBounds_toArray, List.set_cons_zero, List.set_cons_succ]
    refine wpAnyH_ready (rs := [6]) (by kernel_rfl) (by simp) ?_
    refine AllReadyH.cons rfl (fun K hK => ?_) AllReadyH.nil
    go_simp
    refine (say_c (me) (ep) (st) (to) (cg) (kp) 2 fr e _).mono ?_
    rintro e u4 ⟨rfl, b4⟩
    have r5_s := le_on r3_s b4
    have r5_m := le_on r3_m b4
    have r5_r := le_on r3_r b4
    have l5 := le_tr l3 b4
    clear r3_s r3_m r3_r l3
    clear b4
    go_wp2_with fail
    have y6 := Lib.hid (show (fun V : World => V.cell? ⟨w.heap.size, 0, none⟩ = some (.int .u8 me) ∧ V.cell? ⟨w.heap.size, 1, none⟩ = some (.int .i64 ep) ∧ V.cell? ⟨w.heap.size, 2, none⟩ = some (.int .i64 st) ∧ V.cell? ⟨w.heap.size, 3, none⟩ = some (.int .u8 to) ∧ V.cell? ⟨w.heap.size, 4, none⟩ = some (.string cg) ∧ V.cell? ⟨w.heap.size, 5, none⟩ = some (.bool kp) ∧ V.cell? ⟨w.heap.size + 1, 0, none⟩ = some (.int .i64 kd) ∧ V.cell? ⟨w.heap.size + 1, 1, none⟩ = some (.int .u8 fr) ∧ V.cell? ⟨w.heap.size + 1, 2, none⟩ = some (.int .u8 t) ∧ V.cell? ⟨w.heap.size + 1, 3, none⟩ = some (.int .i64 e) ∧ V.cell? ⟨w.heap.size + 1, 4, none⟩ = some (.string mg)) u4 from ⟨CB.cell r5_s 0, CB.cell r5_s 1, CB.cell r5_s 2, CB.cell r5_s 3, CB.cell r5_s 4, CB.cell r5_s 5, CB.cell r5_m 0, CB.cell r5_m 1, CB.cell r5_m 2, CB.cell r5_m 3, CB.cell r5_m 4⟩)
    refine hK.out _ _ y6.out (fun hHeld => ?_)
    clear hK K y6
    try simp only [Act.put, List.setIfInBounds_toArray, List.set_cons_zero, List.set_cons_succ]
    refine wpAnyH_ready (rs := [7, 8]) (by kernel_rfl) (by simp) ?_
    refine AllReadyH.cons rfl (fun K hK => ?_) (AllReadyH.cons rfl (fun K hK => ?_) AllReadyH.nil)
    · skip
      go_simp
      go_wp2_with fail
      have av_z : w.heap.size ≤ u4.heap.size := by have := l5.size; omega
      obtain ⟨W7, hW7⟩ : ∃ V, u4.alloc (.cells #[.int .i64 2, .int .u8 me, .int .u8 fr, .int .i64 e, .string ⟨#[]⟩] 68) = V := ⟨_, rfl⟩
      have zW7 : u4.heap.size = u4.heap.size := by rfl
      have nW7 : CB W7 (u4.heap.size) 68 #[.int .i64 2, .int .u8 me, .int .u8 fr, .int .i64 e, .string ⟨#[]⟩] := by rw [← zW7, ← hW7]; exact CB.new _ _ _
      have bW7 : Below u4.heap.size u4 W7 := by rw [← hW7]; exact le_al _ _
      have neW7_s : w.heap.size ≠ u4.heap.size := by have := CB.lt r5_s; omega
      have neW7_m : w.heap.size + 1 ≠ u4.heap.size := by have := CB.lt r5_m; omega
      have neW7_r : w.heap.size + 1 + 1 ≠ u4.heap.size := by have := CB.lt r5_r; omega
      have HW7 := Lib.hid hW7
      clear hW7 zW7
      have r8_s := le_on r5_s bW7
      have r8_m := le_on r5_m bW7
      have r8_r := le_on r5_r bW7
      have l8 := le_tr l5 bW7
      clear r5_s r5_m r5_r l5
      clear bW7
      rw [HW7.out]
      have y9 := Lib.hid (show (fun V : World => V.cell? ⟨w.heap.size, 0, none⟩ = some (.int .u8 me) ∧ V.cell? ⟨w.heap.size, 1, none⟩ = some (.int .i64 ep) ∧ V.cell? ⟨w.heap.size, 2, none⟩ = some (.int .i64 st) ∧ V.cell? ⟨w.heap.size, 3, none⟩ = some (.int .u8 to) ∧ V.cell? ⟨w.heap.size, 4, none⟩ = some (.string cg) ∧ V.cell? ⟨w.heap.size, 5, none⟩ = some (.bool kp) ∧ V.cell? ⟨w.heap.size + 1, 0, none⟩ = some (.int .i64 kd) ∧ V.cell? ⟨w.heap.size + 1, 1, none⟩ = some (.int .u8 fr) ∧ V.cell? ⟨w.heap.size + 1, 2, none⟩ = some (.int .u8 t) ∧ V.cell? ⟨w.heap.size + 1, 3, none⟩ = some (.int .i64 e) ∧ V.cell? ⟨w.heap.size + 1, 4, none⟩ = some (.string mg)) W7 from ⟨CB.cell r8_s 0, CB.cell r8_s 1, CB.cell r8_s 2, CB.cell r8_s 3, CB.cell r8_s 4, CB.cell r8_s 5, CB.cell r8_m 0, CB.cell r8_m 1, CB.cell r8_m 2, CB.cell r8_m 3, CB.cell r8_m 4⟩)
      refine hK.out _ _ y9.out (fun hHeld => ?_)
      clear hK K y9
      try simp only [Act.put, List.setIfInBounds_toArray, List.set_cons_zero, List.set_cons_succ]
      refine wpAnyH_ready (rs := [8]) (by kernel_rfl) (by simp) ?_
      refine AllReadyH.cons rfl (fun K hK => ?_) AllReadyH.nil
      have f9_r0 : W7.cell? ⟨w.heap.size + 1 + 1, 0, none⟩ = some (.int .u8 0) := CB.cell r8_r 0
      have z9_r0 : W7.frozen? ⟨w.heap.size + 1 + 1, 0, none⟩ = false := CB.frozen r8_r 0
      have f9_r1 : W7.cell? ⟨w.heap.size + 1 + 1, 1, none⟩ = some (.int .i64 0) := CB.cell r8_r 1
      have z9_r1 : W7.frozen? ⟨w.heap.size + 1 + 1, 1, none⟩ = false := CB.frozen r8_r 1
      have f9_r2 : W7.cell? ⟨w.heap.size + 1 + 1, 2, none⟩ = some (.int .i64 0) := CB.cell r8_r 2
      have z9_r2 : W7.frozen? ⟨w.heap.size + 1 + 1, 2, none⟩ = false := CB.frozen r8_r 2
      have f9_r3 : W7.cell? ⟨w.heap.size + 1 + 1, 3, none⟩ = some (.int .u8 0) := CB.cell r8_r 3
      have z9_r3 : W7.frozen? ⟨w.heap.size + 1 + 1, 3, none⟩ = false := CB.frozen r8_r 3
      have f9_r4 : W7.cell? ⟨w.heap.size + 1 + 1, 4, none⟩ = some (.string ⟨#[]⟩) := CB.cell r8_r 4
      have z9_r4 : W7.frozen? ⟨w.heap.size + 1 + 1, 4, none⟩ = false := CB.frozen r8_r 4
      have f9_r5 : W7.cell? ⟨w.heap.size + 1 + 1, 5, none⟩ = some (.bool false) := CB.cell r8_r 5
      have z9_r5 : W7.frozen? ⟨w.heap.size + 1 + 1, 5, none⟩ = false := CB.frozen r8_r 5
      go_simp
      go_wp2_with fail
      have f9_r0 : W7.cell? ⟨w.heap.size + 1 + 1, 0, none⟩ = some (.int .u8 0) := CB.cell r8_r 0
      have z9_r0 : W7.frozen? ⟨w.heap.size + 1 + 1, 0, none⟩ = false := CB.frozen r8_r 0
      have f9_r1 : W7.cell? ⟨w.heap.size + 1 + 1, 1, none⟩ = some (.int .i64 0) := CB.cell r8_r 1
      have z9_r1 : W7.frozen? ⟨w.heap.size + 1 + 1, 1, none⟩ = false := CB.frozen r8_r 1
      have f9_r2 : W7.cell? ⟨w.heap.size + 1 + 1, 2, none⟩ = some (.int .i64 0) := CB.cell r8_r 2
      have z9_r2 : W7.frozen? ⟨w.heap.size + 1 + 1, 2, none⟩ = false := CB.frozen r8_r 2
      have f9_r3 : W7.cell? ⟨w.heap.size + 1 + 1, 3, none⟩ = some (.int .u8 0) := CB.cell r8_r 3
      have z9_r3 : W7.frozen? ⟨w.heap.size + 1 + 1, 3, none⟩ = false := CB.frozen r8_r 3
      have f9_r4 : W7.cell? ⟨w.heap.size + 1 + 1, 4, none⟩ = some (.string ⟨#[]⟩) := CB.cell r8_r 4
      have z9_r4 : W7.frozen? ⟨w.heap.size + 1 + 1, 4, none⟩ = false := CB.frozen r8_r 4
      have f9_r5 : W7.cell? ⟨w.heap.size + 1 + 1, 5, none⟩ = some (.bool false) := CB.cell r8_r 5
      have z9_r5 : W7.frozen? ⟨w.heap.size + 1 + 1, 5, none⟩ = false := CB.frozen r8_r 5
      obtain ⟨V10, hV10⟩ : ∃ V, (((((W7.setCell ⟨w.heap.size + 1 + 1, 0, none⟩ (.int .u8 me)).setCell ⟨w.heap.size + 1 + 1, 1, none⟩ (.int .i64 ep)).setCell ⟨w.heap.size + 1 + 1, 2, none⟩ (.int .i64 st)).setCell ⟨w.heap.size + 1 + 1, 3, none⟩ (.int .u8 to)).setCell ⟨w.heap.size + 1 + 1, 4, none⟩ (.string cg)).setCell ⟨w.heap.size + 1 + 1, 5, none⟩ (.bool kp) = V := ⟨_, rfl⟩
      have nV10 : CB V10 (w.heap.size + 1 + 1) 45 #[.int .u8 me, .int .i64 ep, .int .i64 st, .int .u8 to, .string cg, .bool kp] := by rw [← hV10]; exact cb_cast (CB.put (CB.put (CB.put (CB.put (CB.put (CB.put r8_r 0 (.int .u8 me)) 1 (.int .i64 ep)) 2 (.int .i64 st)) 3 (.int .u8 to)) 4 (.string cg)) 5 (.bool kp)) (by kernel_rfl)
      have mV10_s : CB V10 (w.heap.size) 45 #[.int .u8 me, .int .i64 ep, .int .i64 st, .int .u8 to, .string cg, .bool kp] := by rw [← hV10]; exact (CB.far (CB.far (CB.far (CB.far (CB.far (CB.far r8_s (p := ⟨w.heap.size + 1 + 1, 0, none⟩) neW1_02 (.int .u8 me)) (p := ⟨w.heap.size + 1 + 1, 1, none⟩) neW1_02 (.int .i64 ep)) (p := ⟨w.heap.size + 1 + 1, 2, none⟩) neW1_02 (.int .i64 st)) (p := ⟨w.heap.size + 1 + 1, 3, none⟩) neW1_02 (.int .u8 to)) (p := ⟨w.heap.size + 1 + 1, 4, none⟩) neW1_02 (.string cg)) (p := ⟨w.heap.size + 1 + 1, 5, none⟩) neW1_02 (.bool kp))
      have mV10_m : CB V10 (w.heap.size + 1) 68 #[.int .i64 kd, .int .u8 fr, .int .u8 t, .int .i64 e, .string mg] := by rw [← hV10]; exact (CB.far (CB.far (CB.far (CB.far (CB.far (CB.far r8_m (p := ⟨w.heap.size + 1 + 1, 0, none⟩) neW1_12 (.int .u8 me)) (p := ⟨w.heap.size + 1 + 1, 1, none⟩) neW1_12 (.int .i64 ep)) (p := ⟨w.heap.size + 1 + 1, 2, none⟩) neW1_12 (.int .i64 st)) (p := ⟨w.heap.size + 1 + 1, 3, none⟩) neW1_12 (.int .u8 to)) (p := ⟨w.heap.size + 1 + 1, 4, none⟩) neW1_12 (.string cg)) (p := ⟨w.heap.size + 1 + 1, 5, none⟩) neW1_12 (.bool kp))
      have mV10_z : CB V10 (u4.heap.size) 68 #[.int .i64 2, .int .u8 me, .int .u8 fr, .int .i64 e, .string ⟨#[]⟩] := by rw [← hV10]; exact (CB.far (CB.far (CB.far (CB.far (CB.far (CB.far nW7 (p := ⟨w.heap.size + 1 + 1, 0, none⟩) (Ne.symm neW7_r) (.int .u8 me)) (p := ⟨w.heap.size + 1 + 1, 1, none⟩) (Ne.symm neW7_r) (.int .i64 ep)) (p := ⟨w.heap.size + 1 + 1, 2, none⟩) (Ne.symm neW7_r) (.int .i64 st)) (p := ⟨w.heap.size + 1 + 1, 3, none⟩) (Ne.symm neW7_r) (.int .u8 to)) (p := ⟨w.heap.size + 1 + 1, 4, none⟩) (Ne.symm neW7_r) (.string cg)) (p := ⟨w.heap.size + 1 + 1, 5, none⟩) (Ne.symm neW7_r) (.bool kp))
      have oV10 := (Below.setCell (Below.setCell (Below.setCell (Below.setCell (Below.setCell (Below.setCell l8 (p := ⟨w.heap.size + 1 + 1, 0, none⟩) (by dsimp only; omega) (.int .u8 me)) (p := ⟨w.heap.size + 1 + 1, 1, none⟩) (by dsimp only; omega) (.int .i64 ep)) (p := ⟨w.heap.size + 1 + 1, 2, none⟩) (by dsimp only; omega) (.int .i64 st)) (p := ⟨w.heap.size + 1 + 1, 3, none⟩) (by dsimp only; omega) (.int .u8 to)) (p := ⟨w.heap.size + 1 + 1, 4, none⟩) (by dsimp only; omega) (.string cg)) (p := ⟨w.heap.size + 1 + 1, 5, none⟩) (by dsimp only; omega) (.bool kp))
      rw [hV10] at oV10
      have HV10 := Lib.hid hV10
      clear hV10
      clear r8_r r8_s r8_m nW7 l8
      rw [HV10.out]
      clear f9_r0 z9_r0 f9_r1 z9_r1 f9_r2 z9_r2 f9_r3 z9_r3 f9_r4 z9_r4 f9_r5 z9_r5
      have y11 := Lib.hid (show (fun V : World => V.cell? ⟨w.heap.size, 0, none⟩ = some (.int .u8 me) ∧ V.cell? ⟨w.heap.size, 1, none⟩ = some (.int .i64 ep) ∧ V.cell? ⟨w.heap.size, 2, none⟩ = some (.int .i64 st) ∧ V.cell? ⟨w.heap.size, 3, none⟩ = some (.int .u8 to) ∧ V.cell? ⟨w.heap.size, 4, none⟩ = some (.string cg) ∧ V.cell? ⟨w.heap.size, 5, none⟩ = some (.bool kp) ∧ V.cell? ⟨w.heap.size + 1, 0, none⟩ = some (.int .i64 kd) ∧ V.cell? ⟨w.heap.size + 1, 1, none⟩ = some (.int .u8 fr) ∧ V.cell? ⟨w.heap.size + 1, 2, none⟩ = some (.int .u8 t) ∧ V.cell? ⟨w.heap.size + 1, 3, none⟩ = some (.int .i64 e) ∧ V.cell? ⟨w.heap.size + 1, 4, none⟩ = some (.string mg)) V10 from ⟨CB.cell mV10_s 0, CB.cell mV10_s 1, CB.cell mV10_s 2, CB.cell mV10_s 3, CB.cell mV10_s 4, CB.cell mV10_s 5, CB.cell mV10_m 0, CB.cell mV10_m 1, CB.cell mV10_m 2, CB.cell mV10_m 3, CB.cell mV10_m 4⟩)
      refine hK.out _ _ y11.out (fun hHeld => ?_)
      clear hK K y11
      try simp only [Act.put, List.setIfInBounds_toArray, List.set_cons_zero, List.set_cons_succ]
      refine wpAnyH_takeL (i := 9) (d := some 5) (v := .slice (some ⟨u4.heap.size, 0, none⟩) 1 1) rfl rfl (by kernel_rfl) (by kernel_rfl) (by kernel_rfl) (fun _ _ _ h => h) (Or.inl ⟨by rfl, ?_⟩) hHeld ?_
      · intro w hSw; (try dsimp only at hSw); go_simp
      try simp only [Act.put, List.setIfInBounds_toArray, List.set_cons_zero, List.set_cons_succ]
      refine wpAnyH_takeL (i := 10) (d := some 6) (v := .int .i64 0) rfl rfl (by kernel_rfl) (by kernel_rfl) (by kernel_rfl) (fun _ _ _ h => h) (Or.inl ⟨by rfl, ?_⟩) hHeld ?_
      · intro w hSw; (try dsimp only at hSw); go_simp
      try simp only [Act.put, List.setIfInBounds_toArray, List.set_cons_zero, List.set_cons_succ]
      refine wpAnyH_done (by kernel_rfl) ?_ _
      go_wp2_with fail
      have x_r0 : V10.cell? ⟨w.heap.size + 1 + 1, 0, none⟩ = some (.int .u8 me) := CB.cell nV10 0
      have x_r1 : V10.cell? ⟨w.heap.size + 1 + 1, 1, none⟩ = some (.int .i64 ep) := CB.cell nV10 1
      have x_r2 : V10.cell? ⟨w.heap.size + 1 + 1, 2, none⟩ = some (.int .i64 st) := CB.cell nV10 2
      have x_r3 : V10.cell? ⟨w.heap.size + 1 + 1, 3, none⟩ = some (.int .u8 to) := CB.cell nV10 3
      have x_r4 : V10.cell? ⟨w.heap.size + 1 + 1, 4, none⟩ = some (.string cg) := CB.cell nV10 4
      have x_r5 : V10.cell? ⟨w.heap.size + 1 + 1, 5, none⟩ = some (.bool kp) := CB.cell nV10 5
      exact bodyPost_ret (v := .tuple #[.agg #[.int .u8 me, .int .i64 ep, .int .i64 st, .int .u8 to, .string cg, .bool kp], .slice (some ⟨u4.heap.size, 0, none⟩) 1 1, .int .i64 0]) (by simp [results, Try.results47, go_sem, x_r0, x_r1, x_r2, x_r3, x_r4, x_r5]) rfl (HPost.mk' me ep st to cg kp 0 _ H.out (RS.of_cbm mV10_z) oV10)
    · skip
      have f6_r0 : u4.cell? ⟨w.heap.size + 1 + 1, 0, none⟩ = some (.int .u8 0) := CB.cell r5_r 0
      have z6_r0 : u4.frozen? ⟨w.heap.size + 1 + 1, 0, none⟩ = false := CB.frozen r5_r 0
      have f6_r1 : u4.cell? ⟨w.heap.size + 1 + 1, 1, none⟩ = some (.int .i64 0) := CB.cell r5_r 1
      have z6_r1 : u4.frozen? ⟨w.heap.size + 1 + 1, 1, none⟩ = false := CB.frozen r5_r 1
      have f6_r2 : u4.cell? ⟨w.heap.size + 1 + 1, 2, none⟩ = some (.int .i64 0) := CB.cell r5_r 2
      have z6_r2 : u4.frozen? ⟨w.heap.size + 1 + 1, 2, none⟩ = false := CB.frozen r5_r 2
      have f6_r3 : u4.cell? ⟨w.heap.size + 1 + 1, 3, none⟩ = some (.int .u8 0) := CB.cell r5_r 3
      have z6_r3 : u4.frozen? ⟨w.heap.size + 1 + 1, 3, none⟩ = false := CB.frozen r5_r 3
      have f6_r4 : u4.cell? ⟨w.heap.size + 1 + 1, 4, none⟩ = some (.string ⟨#[]⟩) := CB.cell r5_r 4
      have z6_r4 : u4.frozen? ⟨w.heap.size + 1 + 1, 4, none⟩ = false := CB.frozen r5_r 4
      have f6_r5 : u4.cell? ⟨w.heap.size + 1 + 1, 5, none⟩ = some (.bool false) := CB.cell r5_r 5
      have z6_r5 : u4.frozen? ⟨w.heap.size + 1 + 1, 5, none⟩ = false := CB.frozen r5_r 5
      go_simp
      go_wp2_with fail
      have f6_r0 : u4.cell? ⟨w.heap.size + 1 + 1, 0, none⟩ = some (.int .u8 0) := CB.cell r5_r 0
      have z6_r0 : u4.frozen? ⟨w.heap.size + 1 + 1, 0, none⟩ = false := CB.frozen r5_r 0
      have f6_r1 : u4.cell? ⟨w.heap.size + 1 + 1, 1, none⟩ = some (.int .i64 0) := CB.cell r5_r 1
      have z6_r1 : u4.frozen? ⟨w.heap.size + 1 + 1, 1, none⟩ = false := CB.frozen r5_r 1
      have f6_r2 : u4.cell? ⟨w.heap.size + 1 + 1, 2, none⟩ = some (.int .i64 0) := CB.cell r5_r 2
      have z6_r2 : u4.frozen? ⟨w.heap.size + 1 + 1, 2, none⟩ = false := CB.frozen r5_r 2
      have f6_r3 : u4.cell? ⟨w.heap.size + 1 + 1, 3, none⟩ = some (.int .u8 0) := CB.cell r5_r 3
      have z6_r3 : u4.frozen? ⟨w.heap.size + 1 + 1, 3, none⟩ = false := CB.frozen r5_r 3
      have f6_r4 : u4.cell? ⟨w.heap.size + 1 + 1, 4, none⟩ = some (.string ⟨#[]⟩) := CB.cell r5_r 4
      have z6_r4 : u4.frozen? ⟨w.heap.size + 1 + 1, 4, none⟩ = false := CB.frozen r5_r 4
      have f6_r5 : u4.cell? ⟨w.heap.size + 1 + 1, 5, none⟩ = some (.bool false) := CB.cell r5_r 5
      have z6_r5 : u4.frozen? ⟨w.heap.size + 1 + 1, 5, none⟩ = false := CB.frozen r5_r 5
      obtain ⟨V7, hV7⟩ : ∃ V, (((((u4.setCell ⟨w.heap.size + 1 + 1, 0, none⟩ (.int .u8 me)).setCell ⟨w.heap.size + 1 + 1, 1, none⟩ (.int .i64 ep)).setCell ⟨w.heap.size + 1 + 1, 2, none⟩ (.int .i64 st)).setCell ⟨w.heap.size + 1 + 1, 3, none⟩ (.int .u8 to)).setCell ⟨w.heap.size + 1 + 1, 4, none⟩ (.string cg)).setCell ⟨w.heap.size + 1 + 1, 5, none⟩ (.bool kp) = V := ⟨_, rfl⟩
      have nV7 : CB V7 (w.heap.size + 1 + 1) 45 #[.int .u8 me, .int .i64 ep, .int .i64 st, .int .u8 to, .string cg, .bool kp] := by rw [← hV7]; exact cb_cast (CB.put (CB.put (CB.put (CB.put (CB.put (CB.put r5_r 0 (.int .u8 me)) 1 (.int .i64 ep)) 2 (.int .i64 st)) 3 (.int .u8 to)) 4 (.string cg)) 5 (.bool kp)) (by kernel_rfl)
      have mV7_s : CB V7 (w.heap.size) 45 #[.int .u8 me, .int .i64 ep, .int .i64 st, .int .u8 to, .string cg, .bool kp] := by rw [← hV7]; exact (CB.far (CB.far (CB.far (CB.far (CB.far (CB.far r5_s (p := ⟨w.heap.size + 1 + 1, 0, none⟩) neW1_02 (.int .u8 me)) (p := ⟨w.heap.size + 1 + 1, 1, none⟩) neW1_02 (.int .i64 ep)) (p := ⟨w.heap.size + 1 + 1, 2, none⟩) neW1_02 (.int .i64 st)) (p := ⟨w.heap.size + 1 + 1, 3, none⟩) neW1_02 (.int .u8 to)) (p := ⟨w.heap.size + 1 + 1, 4, none⟩) neW1_02 (.string cg)) (p := ⟨w.heap.size + 1 + 1, 5, none⟩) neW1_02 (.bool kp))
      have mV7_m : CB V7 (w.heap.size + 1) 68 #[.int .i64 kd, .int .u8 fr, .int .u8 t, .int .i64 e, .string mg] := by rw [← hV7]; exact (CB.far (CB.far (CB.far (CB.far (CB.far (CB.far r5_m (p := ⟨w.heap.size + 1 + 1, 0, none⟩) neW1_12 (.int .u8 me)) (p := ⟨w.heap.size + 1 + 1, 1, none⟩) neW1_12 (.int .i64 ep)) (p := ⟨w.heap.size + 1 + 1, 2, none⟩) neW1_12 (.int .i64 st)) (p := ⟨w.heap.size + 1 + 1, 3, none⟩) neW1_12 (.int .u8 to)) (p := ⟨w.heap.size + 1 + 1, 4, none⟩) neW1_12 (.string cg)) (p := ⟨w.heap.size + 1 + 1, 5, none⟩) neW1_12 (.bool kp))
      have oV7 := (Below.setCell (Below.setCell (Below.setCell (Below.setCell (Below.setCell (Below.setCell l5 (p := ⟨w.heap.size + 1 + 1, 0, none⟩) (by dsimp only; omega) (.int .u8 me)) (p := ⟨w.heap.size + 1 + 1, 1, none⟩) (by dsimp only; omega) (.int .i64 ep)) (p := ⟨w.heap.size + 1 + 1, 2, none⟩) (by dsimp only; omega) (.int .i64 st)) (p := ⟨w.heap.size + 1 + 1, 3, none⟩) (by dsimp only; omega) (.int .u8 to)) (p := ⟨w.heap.size + 1 + 1, 4, none⟩) (by dsimp only; omega) (.string cg)) (p := ⟨w.heap.size + 1 + 1, 5, none⟩) (by dsimp only; omega) (.bool kp))
      rw [hV7] at oV7
      have HV7 := Lib.hid hV7
      clear hV7
      clear r5_r r5_s r5_m l5
      rw [HV7.out]
      clear f6_r0 z6_r0 f6_r1 z6_r1 f6_r2 z6_r2 f6_r3 z6_r3 f6_r4 z6_r4 f6_r5 z6_r5
      have y8 := Lib.hid (show (fun V : World => V.cell? ⟨w.heap.size, 0, none⟩ = some (.int .u8 me) ∧ V.cell? ⟨w.heap.size, 1, none⟩ = some (.int .i64 ep) ∧ V.cell? ⟨w.heap.size, 2, none⟩ = some (.int .i64 st) ∧ V.cell? ⟨w.heap.size, 3, none⟩ = some (.int .u8 to) ∧ V.cell? ⟨w.heap.size, 4, none⟩ = some (.string cg) ∧ V.cell? ⟨w.heap.size, 5, none⟩ = some (.bool kp) ∧ V.cell? ⟨w.heap.size + 1, 0, none⟩ = some (.int .i64 kd) ∧ V.cell? ⟨w.heap.size + 1, 1, none⟩ = some (.int .u8 fr) ∧ V.cell? ⟨w.heap.size + 1, 2, none⟩ = some (.int .u8 t) ∧ V.cell? ⟨w.heap.size + 1, 3, none⟩ = some (.int .i64 e) ∧ V.cell? ⟨w.heap.size + 1, 4, none⟩ = some (.string mg)) V7 from ⟨CB.cell mV7_s 0, CB.cell mV7_s 1, CB.cell mV7_s 2, CB.cell mV7_s 3, CB.cell mV7_s 4, CB.cell mV7_s 5, CB.cell mV7_m 0, CB.cell mV7_m 1, CB.cell mV7_m 2, CB.cell mV7_m 3, CB.cell mV7_m 4⟩)
      refine hK.out _ _ y8.out (fun hHeld => ?_)
      clear hK K y8
      try simp only [Act.put, List.setIfInBounds_toArray, List.set_cons_zero, List.set_cons_succ]
      refine wpAnyH_ready (rs := [7]) (by kernel_rfl) (by simp) ?_
      refine AllReadyH.cons rfl (fun K hK => ?_) AllReadyH.nil
      go_simp
      go_wp2_with fail
      have av_z : w.heap.size ≤ V7.heap.size := by have := oV7.size; omega
      obtain ⟨W9, hW9⟩ : ∃ V, V7.alloc (.cells #[.int .i64 2, .int .u8 me, .int .u8 fr, .int .i64 e, .string ⟨#[]⟩] 68) = V := ⟨_, rfl⟩
      have zW9 : V7.heap.size = V7.heap.size := by rfl
      have nW9 : CB W9 (V7.heap.size) 68 #[.int .i64 2, .int .u8 me, .int .u8 fr, .int .i64 e, .string ⟨#[]⟩] := by rw [← zW9, ← hW9]; exact CB.new _ _ _
      have bW9 : Below V7.heap.size V7 W9 := by rw [← hW9]; exact le_al _ _
      have neW9_s : w.heap.size ≠ V7.heap.size := by have := CB.lt mV7_s; omega
      have neW9_m : w.heap.size + 1 ≠ V7.heap.size := by have := CB.lt mV7_m; omega
      have neW9_r : w.heap.size + 1 + 1 ≠ V7.heap.size := by have := CB.lt nV7; omega
      have HW9 := Lib.hid hW9
      clear hW9 zW9
      have r10_s := le_on mV7_s bW9
      have r10_m := le_on mV7_m bW9
      have r10_r := le_on nV7 bW9
      have l10 := le_tr oV7 bW9
      clear mV7_s mV7_m nV7 oV7
      clear bW9
      rw [HW9.out]
      have y11 := Lib.hid (show (fun V : World => V.cell? ⟨w.heap.size, 0, none⟩ = some (.int .u8 me) ∧ V.cell? ⟨w.heap.size, 1, none⟩ = some (.int .i64 ep) ∧ V.cell? ⟨w.heap.size, 2, none⟩ = some (.int .i64 st) ∧ V.cell? ⟨w.heap.size, 3, none⟩ = some (.int .u8 to) ∧ V.cell? ⟨w.heap.size, 4, none⟩ = some (.string cg) ∧ V.cell? ⟨w.heap.size, 5, none⟩ = some (.bool kp) ∧ V.cell? ⟨w.heap.size + 1, 0, none⟩ = some (.int .i64 kd) ∧ V.cell? ⟨w.heap.size + 1, 1, none⟩ = some (.int .u8 fr) ∧ V.cell? ⟨w.heap.size + 1, 2, none⟩ = some (.int .u8 t) ∧ V.cell? ⟨w.heap.size + 1, 3, none⟩ = some (.int .i64 e) ∧ V.cell? ⟨w.heap.size + 1, 4, none⟩ = some (.string mg)) W9 from ⟨CB.cell r10_s 0, CB.cell r10_s 1, CB.cell r10_s 2, CB.cell r10_s 3, CB.cell r10_s 4, CB.cell r10_s 5, CB.cell r10_m 0, CB.cell r10_m 1, CB.cell r10_m 2, CB.cell r10_m 3, CB.cell r10_m 4⟩)
      refine hK.out _ _ y11.out (fun hHeld => ?_)
      clear hK K y11
      try simp only [Act.put, List.setIfInBounds_toArray, List.set_cons_zero, List.set_cons_succ]
      refine wpAnyH_takeL (i := 9) (d := some 5) (v := .slice (some ⟨V7.heap.size, 0, none⟩) 1 1) rfl rfl (by kernel_rfl) (by kernel_rfl) (by kernel_rfl) (fun _ _ _ h => h) (Or.inl ⟨by rfl, ?_⟩) hHeld ?_
      · intro w hSw; (try dsimp only at hSw); go_simp
      try simp only [Act.put, List.setIfInBounds_toArray, List.set_cons_zero, List.set_cons_succ]
      refine wpAnyH_takeL (i := 10) (d := some 6) (v := .int .i64 0) rfl rfl (by kernel_rfl) (by kernel_rfl) (by kernel_rfl) (fun _ _ _ h => h) (Or.inl ⟨by rfl, ?_⟩) hHeld ?_
      · intro w hSw; (try dsimp only at hSw); go_simp
      try simp only [Act.put, List.setIfInBounds_toArray, List.set_cons_zero, List.set_cons_succ]
      refine wpAnyH_done (by kernel_rfl) ?_ _
      go_wp2_with fail
      have x_r0 : W9.cell? ⟨w.heap.size + 1 + 1, 0, none⟩ = some (.int .u8 me) := CB.cell r10_r 0
      have x_r1 : W9.cell? ⟨w.heap.size + 1 + 1, 1, none⟩ = some (.int .i64 ep) := CB.cell r10_r 1
      have x_r2 : W9.cell? ⟨w.heap.size + 1 + 1, 2, none⟩ = some (.int .i64 st) := CB.cell r10_r 2
      have x_r3 : W9.cell? ⟨w.heap.size + 1 + 1, 3, none⟩ = some (.int .u8 to) := CB.cell r10_r 3
      have x_r4 : W9.cell? ⟨w.heap.size + 1 + 1, 4, none⟩ = some (.string cg) := CB.cell r10_r 4
      have x_r5 : W9.cell? ⟨w.heap.size + 1 + 1, 5, none⟩ = some (.bool kp) := CB.cell r10_r 5
      exact bodyPost_ret (v := .tuple #[.agg #[.int .u8 me, .int .i64 ep, .int .i64 st, .int .u8 to, .string cg, .bool kp], .slice (some ⟨V7.heap.size, 0, none⟩) 1 1, .int .i64 0]) (by simp [results, Try.results47, go_sem, x_r0, x_r1, x_r2, x_r3, x_r4, x_r5]) rfl (HPost.mk' me ep st to cg kp 0 _ H.out (RS.of_cbm nW9) l10)
set_option maxRecDepth 100000 in
set_option maxHeartbeats 4000000 in
theorem hgive_c (me ep st to : Int) (cg : ByteArray) (kp : Bool) (kd fr t e : Int) (mg : ByteArray) (w : World) (hs : RightS ⟨me, ⟨ep, st, to⟩, cg, kp⟩) (hm : MayM ⟨kd, fr, t, e, mg⟩) : Calls Try.prog 49 #[.agg #[.int .u8 me, .int .i64 ep, .int .i64 st, .int .u8 to, .string cg, .bool kp], .agg #[.int .i64 kd, .int .u8 fr, .int .u8 t, .int .i64 e, .string mg]] w (HPost w 68 (giveM ⟨me, ⟨ep, st, to⟩, cg, kp⟩ ⟨kd, fr, t, e, mg⟩)) := by
  have he : inEp e = true := by have := hm.2.2.2.2.1; simp only at this; simp [inEp, this]
  have hrt : rightL ⟨ep, st, to⟩ = true := hs.2.1
  have T1 := fun W => ltake_c ep st to e W
  by_cases hlt : ep < e
  · have hk : eTakeL ⟨ep, st, to⟩ e = 0 := by
      unfold eTakeL
      rw [hrt, he]
      simp only [Bool.true_eq_false, or_self, if_false]
      rw [if_neg (fun h => by have := h.2; omega), if_neg (by omega)]
    have hsl : sTakeL ⟨ep, st, to⟩ e = ⟨e, 1, 0⟩ := by unfold sTakeL; rw [hk]; rfl
    simp only [hk, hsl] at T1
    have H := Lib.hid (show giveM ⟨me, ⟨ep, st, to⟩, cg, kp⟩ ⟨kd, fr, t, e, mg⟩ = ⟨⟨me, ⟨e, 1, 0⟩, mg, false⟩, [⟨4, me, fr, e, ⟨#[]⟩⟩], 0⟩ by unfold giveM; simp [hlt])
    clear hk hsl hlt hrt he hs hm
    obtain ⟨W1, hW1⟩ : ∃ V, ((w.alloc (.cells #[.int .u8 me, .int .i64 ep, .int .i64 st, .int .u8 to, .string cg, .bool kp] 45)).alloc (.cells #[.int .i64 kd, .int .u8 fr, .int .u8 t, .int .i64 e, .string mg] 68)).alloc (.cells #[.int .u8 0, .int .i64 0, .int .i64 0, .int .u8 0, .string ⟨#[]⟩, .bool false] 45) = V := ⟨_, rfl⟩
    have nW1_s : CB W1 (w.heap.size) 45 #[.int .u8 me, .int .i64 ep, .int .i64 st, .int .u8 to, .string cg, .bool kp] := by
      rw [← hW1]
      have := (((CB.new w 45 #[.int .u8 me, .int .i64 ep, .int .i64 st, .int .u8 to, .string cg, .bool kp]).alloc (.cells #[.int .i64 kd, .int .u8 fr, .int .u8 t, .int .i64 e, .string mg] 68)).alloc (.cells #[.int .u8 0, .int .i64 0, .int .i64 0, .int .u8 0, .string ⟨#[]⟩, .bool false] 45))
      simpa using this
    have nW1_m : CB W1 (w.heap.size + 1) 68 #[.int .i64 kd, .int .u8 fr, .int .u8 t, .int .i64 e, .string mg] := by
      rw [← hW1]
      have := ((CB.new (w.alloc (.cells #[.int .u8 me, .int .i64 ep, .int .i64 st, .int .u8 to, .string cg, .bool kp] 45)) 68 #[.int .i64 kd, .int .u8 fr, .int .u8 t, .int .i64 e, .string mg]).alloc (.cells #[.int .u8 0, .int .i64 0, .int .i64 0, .int .u8 0, .string ⟨#[]⟩, .bool false] 45))
      simpa using this
    have nW1_r : CB W1 (w.heap.size + 1 + 1) 45 #[.int .u8 0, .int .i64 0, .int .i64 0, .int .u8 0, .string ⟨#[]⟩, .bool false] := by
      rw [← hW1]
      have := (CB.new ((w.alloc (.cells #[.int .u8 me, .int .i64 ep, .int .i64 st, .int .u8 to, .string cg, .bool kp] 45)).alloc (.cells #[.int .i64 kd, .int .u8 fr, .int .u8 t, .int .i64 e, .string mg] 68)) 45 #[.int .u8 0, .int .i64 0, .int .i64 0, .int .u8 0, .string ⟨#[]⟩, .bool false])
      simpa using this
    have neW1_01 : w.heap.size ≠ w.heap.size + 1 := by omega
    have neW1_02 : w.heap.size ≠ w.heap.size + 1 + 1 := by omega
    have neW1_12 : w.heap.size + 1 ≠ w.heap.size + 1 + 1 := by omega
    have lW1 : Below w.heap.size w W1 := by rw [← hW1]; exact le_tr (le_tr (le_al _ _) (le_al _ _)) (le_al _ _)
    have HW1 := Lib.hid hW1
    clear hW1
    go_enter Try.func49, Try.ntmps49
    go_wp2_with fail
    rw [HW1.out]
    refine (T1 _).mono ?_
    rintro e w2 ⟨rfl, b2⟩
    have r3_s := le_on nW1_s b2
    have r3_m := le_on nW1_m b2
    have r3_r := le_on nW1_r b2
    have l3 := le_tr lW1 b2
    clear nW1_s nW1_m nW1_r lW1
    clear b2
    have av_l : w.heap.size ≤ w2.heap.size := by have := l3.size; omega
    obtain ⟨W4, hW4⟩ : ∃ V, w2.alloc (.cells #[.int .i64 e, .int .i64 1, .int .u8 0] 43) = V := ⟨_, rfl⟩
    have zW4 : w2.heap.size = w2.heap.size := by rfl
    have nW4 : CB W4 (w2.heap.size) 43 #[.int .i64 e, .int .i64 1, .int .u8 0] := by rw [← zW4, ← hW4]; exact CB.new _ _ _
    have bW4 : Below w2.heap.size w2 W4 := by rw [← hW4]; exact le_al _ _
    have neW4_s : w.heap.size ≠ w2.heap.size := by have := CB.lt r3_s; omega
    have neW4_m : w.heap.size + 1 ≠ w2.heap.size := by have := CB.lt r3_m; omega
    have neW4_r : w.heap.size + 1 + 1 ≠ w2.heap.size := by have := CB.lt r3_r; omega
    have HW4 := Lib.hid hW4
    clear hW4 zW4
    have r5_s := le_on r3_s bW4
    have r5_m := le_on r3_m bW4
    have r5_r := le_on r3_r bW4
    have l5 := le_tr l3 bW4
    clear r3_s r3_m r3_r l3
    clear bW4
    have f5_s0 : (w2.alloc (.cells #[.int .i64 e, .int .i64 1, .int .u8 0] 43)).cell? ⟨w.heap.size, 0, none⟩ = some (.int .u8 me) := by rw [HW4.out]; exact CB.cell r5_s 0
    have f5_s1 : (w2.alloc (.cells #[.int .i64 e, .int .i64 1, .int .u8 0] 43)).cell? ⟨w.heap.size, 1, none⟩ = some (.int .i64 ep) := by rw [HW4.out]; exact CB.cell r5_s 1
    have f5_s2 : (w2.alloc (.cells #[.int .i64 e, .int .i64 1, .int .u8 0] 43)).cell? ⟨w.heap.size, 2, none⟩ = some (.int .i64 st) := by rw [HW4.out]; exact CB.cell r5_s 2
    have f5_s3 : (w2.alloc (.cells #[.int .i64 e, .int .i64 1, .int .u8 0] 43)).cell? ⟨w.heap.size, 3, none⟩ = some (.int .u8 to) := by rw [HW4.out]; exact CB.cell r5_s 3
    have f5_s4 : (w2.alloc (.cells #[.int .i64 e, .int .i64 1, .int .u8 0] 43)).cell? ⟨w.heap.size, 4, none⟩ = some (.string cg) := by rw [HW4.out]; exact CB.cell r5_s 4
    have f5_s5 : (w2.alloc (.cells #[.int .i64 e, .int .i64 1, .int .u8 0] 43)).cell? ⟨w.heap.size, 5, none⟩ = some (.bool kp) := by rw [HW4.out]; exact CB.cell r5_s 5
    have f5_m0 : (w2.alloc (.cells #[.int .i64 e, .int .i64 1, .int .u8 0] 43)).cell? ⟨w.heap.size + 1, 0, none⟩ = some (.int .i64 kd) := by rw [HW4.out]; exact CB.cell r5_m 0
    have f5_m1 : (w2.alloc (.cells #[.int .i64 e, .int .i64 1, .int .u8 0] 43)).cell? ⟨w.heap.size + 1, 1, none⟩ = some (.int .u8 fr) := by rw [HW4.out]; exact CB.cell r5_m 1
    have f5_m2 : (w2.alloc (.cells #[.int .i64 e, .int .i64 1, .int .u8 0] 43)).cell? ⟨w.heap.size + 1, 2, none⟩ = some (.int .u8 t) := by rw [HW4.out]; exact CB.cell r5_m 2
    have f5_m3 : (w2.alloc (.cells #[.int .i64 e, .int .i64 1, .int .u8 0] 43)).cell? ⟨w.heap.size + 1, 3, none⟩ = some (.int .i64 e) := by rw [HW4.out]; exact CB.cell r5_m 3
    have f5_m4 : (w2.alloc (.cells #[.int .i64 e, .int .i64 1, .int .u8 0] 43)).cell? ⟨w.heap.size + 1, 4, none⟩ = some (.string mg) := by rw [HW4.out]; exact CB.cell r5_m 4
    have f5_l0 : (w2.alloc (.cells #[.int .i64 e, .int .i64 1, .int .u8 0] 43)).cell? ⟨w2.heap.size, 0, none⟩ = some (.int .i64 e) := by rw [HW4.out]; exact CB.cell nW4 0
    have f5_l1 : (w2.alloc (.cells #[.int .i64 e, .int .i64 1, .int .u8 0] 43)).cell? ⟨w2.heap.size, 1, none⟩ = some (.int .i64 1) := by rw [HW4.out]; exact CB.cell nW4 1
    have f5_l2 : (w2.alloc (.cells #[.int .i64 e, .int .i64 1, .int .u8 0] 43)).cell? ⟨w2.heap.size, 2, none⟩ = some (.int .u8 0) := by rw [HW4.out]; exact CB.cell nW4 2
    go_wp2_with fail
    rw [HW4.out]
    clear f5_s0 f5_s1 f5_s2 f5_s3 f5_s4 f5_s5 f5_m0 f5_m1 f5_m2 f5_m3 f5_m4 f5_l0 f5_l1 f5_l2
    have y6 := Lib.hid (show (fun V : World => V.cell? ⟨w2.heap.size, 0, none⟩ = some (.int .i64 e) ∧ V.cell? ⟨w2.heap.size, 1, none⟩ = some (.int .i64 1) ∧ V.cell? ⟨w2.heap.size, 2, none⟩ = some (.int .u8 0) ∧ V.cell? ⟨w.heap.size + 1, 0, none⟩ = some (.int .i64 kd) ∧ V.cell? ⟨w.heap.size + 1, 1, none⟩ = some (.int .u8 fr) ∧ V.cell? ⟨w.heap.size + 1, 2, none⟩ = some (.int .u8 t) ∧ V.cell? ⟨w.heap.size + 1, 3, none⟩ = some (.int .i64 e) ∧ V.cell? ⟨w.heap.size + 1, 4, none⟩ = some (.string mg)) W4 from ⟨CB.cell nW4 0, CB.cell nW4 1, CB.cell nW4 2, CB.cell r5_m 0, CB.cell r5_m 1, CB.cell r5_m 2, CB.cell r5_m 3, CB.cell r5_m 4⟩)
    refine wp_region_held_drew (S := (fun V : World => V.cell? ⟨w2.heap.size, 0, none⟩ = some (.int .i64 e) ∧ V.cell? ⟨w2.heap.size, 1, none⟩ = some (.int .i64 1) ∧ V.cell? ⟨w2.heap.size, 2, none⟩ = some (.int .u8 0) ∧ V.cell? ⟨w.heap.size + 1, 0, none⟩ = some (.int .i64 kd) ∧ V.cell? ⟨w.heap.size + 1, 1, none⟩ = some (.int .u8 fr) ∧ V.cell? ⟨w.heap.size + 1, 2, none⟩ = some (.int .u8 t) ∧ V.cell? ⟨w.heap.size + 1, 3, none⟩ = some (.int .i64 e) ∧ V.cell? ⟨w.heap.size + 1, 4, none⟩ = some (.string mg))) (by kernel_rfl) y6.out (fun hHeld => ?_)
    obtain ⟨D6, hD6⟩ : ∃ V, W4.drew = V := ⟨_, rfl⟩
    have b6 : Below W4.heap.size W4 D6 := by rw [← hD6]; exact le_dr (Below.refl _ _)
    rw [hD6] at hHeld ⊢
    clear hD6
    have r7_s := le_on r5_s b6
    have r7_m := le_on r5_m b6
    have r7_r := le_on r5_r b6
    have r7_l := le_on nW4 b6
    have l7 := le_tr l5 b6
    clear r5_s r5_m r5_r nW4 l5
    clear b6
    refine wpAnyH_takeL (i := 0) (d := some 19) (v := .agg #[.int .i64 e, .int .i64 1, .int .u8 0]) rfl rfl (by kernel_rfl) (by kernel_rfl) (by kernel_rfl) (fun _ _ _ h => h) (Or.inl ⟨by rfl, ?_⟩) hHeld ?_
    · intro w hSw; (try dsimp only at hSw); go_simp
    try simp only [Act.put, List.setIfInBounds_toArray, List.set_cons_zero, List.set_cons_succ]
    refine wpAnyH_takeL (i := 1) (d := some 20) (v := .pointer (some ⟨w.heap.size + 1, 4, none⟩)) rfl rfl (by kernel_rfl) (by kernel_rfl) (by kernel_rfl) (fun _ _ _ h => h) (Or.inl ⟨by rfl, ?_⟩) hHeld ?_
    · intro w hSw; (try dsimp only at hSw); go_simp
    try simp only [Act.put, List.setIfInBounds_toArray, List.set_cons_zero, List.set_cons_succ]
    refine wpAnyH_takeL (i := 2) (d := some 21) (v := .string mg) rfl rfl (by kernel_rfl) (by kernel_rfl) (by kernel_rfl) (fun _ _ _ h => h) (Or.inl ⟨by rfl, ?_⟩) hHeld ?_
    · intro w hSw; (try dsimp only at hSw); go_simp
    try simp only [Act.put, List.setIfInBounds_toArray, List.set_cons_zero, List.set_cons_succ]
    refine wpAnyH_takeL (i := 3) (d := some 22) (v := .pointer (some ⟨w.heap.size, 1, none⟩)) rfl rfl (by kernel_rfl) (by kernel_rfl) (by kernel_rfl) (fun _ _ _ h => h) (Or.inl ⟨by rfl, ?_⟩) hHeld ?_
    · intro w hSw; (try dsimp only at hSw); go_simp
    try simp only [Act.put, List.setIfInBounds_toArray, List.set_cons_zero, List.set_cons_succ]
    refine wpAnyH_ready (rs := [4]) (by kernel_rfl) (by simp) ?_
    refine AllReadyH.cons rfl (fun K hK => ?_) AllReadyH.nil
    have f7_s0 : D6.cell? ⟨w.heap.size, 0, none⟩ = some (.int .u8 me) := CB.cell r7_s 0
    have z7_s0 : D6.frozen? ⟨w.heap.size, 0, none⟩ = false := CB.frozen r7_s 0
    have f7_s1 : D6.cell? ⟨w.heap.size, 1, none⟩ = some (.int .i64 ep) := CB.cell r7_s 1
    have z7_s1 : D6.frozen? ⟨w.heap.size, 1, none⟩ = false := CB.frozen r7_s 1
    have f7_s2 : D6.cell? ⟨w.heap.size, 2, none⟩ = some (.int .i64 st) := CB.cell r7_s 2
    have z7_s2 : D6.frozen? ⟨w.heap.size, 2, none⟩ = false := CB.frozen r7_s 2
    have f7_s3 : D6.cell? ⟨w.heap.size, 3, none⟩ = some (.int .u8 to) := CB.cell r7_s 3
    have z7_s3 : D6.frozen? ⟨w.heap.size, 3, none⟩ = false := CB.frozen r7_s 3
    have f7_s4 : D6.cell? ⟨w.heap.size, 4, none⟩ = some (.string cg) := CB.cell r7_s 4
    have z7_s4 : D6.frozen? ⟨w.heap.size, 4, none⟩ = false := CB.frozen r7_s 4
    have f7_s5 : D6.cell? ⟨w.heap.size, 5, none⟩ = some (.bool kp) := CB.cell r7_s 5
    have z7_s5 : D6.frozen? ⟨w.heap.size, 5, none⟩ = false := CB.frozen r7_s 5
    go_simp
    go_wp2_with fail
    have f7_s0 : D6.cell? ⟨w.heap.size, 0, none⟩ = some (.int .u8 me) := CB.cell r7_s 0
    have z7_s0 : D6.frozen? ⟨w.heap.size, 0, none⟩ = false := CB.frozen r7_s 0
    have f7_s1 : D6.cell? ⟨w.heap.size, 1, none⟩ = some (.int .i64 ep) := CB.cell r7_s 1
    have z7_s1 : D6.frozen? ⟨w.heap.size, 1, none⟩ = false := CB.frozen r7_s 1
    have f7_s2 : D6.cell? ⟨w.heap.size, 2, none⟩ = some (.int .i64 st) := CB.cell r7_s 2
    have z7_s2 : D6.frozen? ⟨w.heap.size, 2, none⟩ = false := CB.frozen r7_s 2
    have f7_s3 : D6.cell? ⟨w.heap.size, 3, none⟩ = some (.int .u8 to) := CB.cell r7_s 3
    have z7_s3 : D6.frozen? ⟨w.heap.size, 3, none⟩ = false := CB.frozen r7_s 3
    have f7_s4 : D6.cell? ⟨w.heap.size, 4, none⟩ = some (.string cg) := CB.cell r7_s 4
    have z7_s4 : D6.frozen? ⟨w.heap.size, 4, none⟩ = false := CB.frozen r7_s 4
    have f7_s5 : D6.cell? ⟨w.heap.size, 5, none⟩ = some (.bool kp) := CB.cell r7_s 5
    have z7_s5 : D6.frozen? ⟨w.heap.size, 5, none⟩ = false := CB.frozen r7_s 5
    obtain ⟨V8, hV8⟩ : ∃ V, ((D6.setCell ⟨w.heap.size, 1, none⟩ (.int .i64 e)).setCell ⟨w.heap.size, 2, none⟩ (.int .i64 1)).setCell ⟨w.heap.size, 3, none⟩ (.int .u8 0) = V := ⟨_, rfl⟩
    have nV8 : CB V8 (w.heap.size) 45 #[.int .u8 me, .int .i64 e, .int .i64 1, .int .u8 0, .string cg, .bool kp] := by rw [← hV8]; exact cb_cast (CB.put (CB.put (CB.put r7_s 1 (.int .i64 e)) 2 (.int .i64 1)) 3 (.int .u8 0)) (by kernel_rfl)
    have mV8_m : CB V8 (w.heap.size + 1) 68 #[.int .i64 kd, .int .u8 fr, .int .u8 t, .int .i64 e, .string mg] := by rw [← hV8]; exact (CB.far (CB.far (CB.far r7_m (p := ⟨w.heap.size, 1, none⟩) (Ne.symm neW1_01) (.int .i64 e)) (p := ⟨w.heap.size, 2, none⟩) (Ne.symm neW1_01) (.int .i64 1)) (p := ⟨w.heap.size, 3, none⟩) (Ne.symm neW1_01) (.int .u8 0))
    have mV8_r : CB V8 (w.heap.size + 1 + 1) 45 #[.int .u8 0, .int .i64 0, .int .i64 0, .int .u8 0, .string ⟨#[]⟩, .bool false] := by rw [← hV8]; exact (CB.far (CB.far (CB.far r7_r (p := ⟨w.heap.size, 1, none⟩) (Ne.symm neW1_02) (.int .i64 e)) (p := ⟨w.heap.size, 2, none⟩) (Ne.symm neW1_02) (.int .i64 1)) (p := ⟨w.heap.size, 3, none⟩) (Ne.symm neW1_02) (.int .u8 0))
    have mV8_l : CB V8 (w2.heap.size) 43 #[.int .i64 e, .int .i64 1, .int .u8 0] := by rw [← hV8]; exact (CB.far (CB.far (CB.far r7_l (p := ⟨w.heap.size, 1, none⟩) (Ne.symm neW4_s) (.int .i64 e)) (p := ⟨w.heap.size, 2, none⟩) (Ne.symm neW4_s) (.int .i64 1)) (p := ⟨w.heap.size, 3, none⟩) (Ne.symm neW4_s) (.int .u8 0))
    have oV8 := (Below.setCell (Below.setCell (Below.setCell l7 (p := ⟨w.heap.size, 1, none⟩) (by dsimp only; omega) (.int .i64 e)) (p := ⟨w.heap.size, 2, none⟩) (by dsimp only; omega) (.int .i64 1)) (p := ⟨w.heap.size, 3, none⟩) (by dsimp only; omega) (.int .u8 0))
    rw [hV8] at oV8
    have HV8 := Lib.hid hV8
    clear hV8
    clear r7_s r7_m r7_r r7_l l7
    rw [HV8.out]
    clear f7_s0 z7_s0 f7_s1 z7_s1 f7_s2 z7_s2 f7_s3 z7_s3 f7_s4 z7_s4 f7_s5 z7_s5
    have y9 := Lib.hid (show (fun V : World => V.cell? ⟨w2.heap.size, 0, none⟩ = some (.int .i64 e) ∧ V.cell? ⟨w2.heap.size, 1, none⟩ = some (.int .i64 1) ∧ V.cell? ⟨w2.heap.size, 2, none⟩ = some (.int .u8 0) ∧ V.cell? ⟨w.heap.size + 1, 0, none⟩ = some (.int .i64 kd) ∧ V.cell? ⟨w.heap.size + 1, 1, none⟩ = some (.int .u8 fr) ∧ V.cell? ⟨w.heap.size + 1, 2, none⟩ = some (.int .u8 t) ∧ V.cell? ⟨w.heap.size + 1, 3, none⟩ = some (.int .i64 e) ∧ V.cell? ⟨w.heap.size + 1, 4, none⟩ = some (.string mg)) V8 from ⟨CB.cell mV8_l 0, CB.cell mV8_l 1, CB.cell mV8_l 2, CB.cell mV8_m 0, CB.cell mV8_m 1, CB.cell mV8_m 2, CB.cell mV8_m 3, CB.cell mV8_m 4⟩)
    refine hK.out _ _ y9.out (fun hHeld => ?_)
    clear hK K y9
    try simp only [Act.put, List.setIfInBounds_toArray, List.set_cons_zero, List.set_cons_succ]
    refine wpAnyH_takeL (i := 5) (d := some 23) (v := .pointer (some ⟨w.heap.size, 4, none⟩)) rfl rfl (by kernel_rfl) (by kernel_rfl) (by kernel_rfl) (fun _ _ _ h => h) (Or.inl ⟨by rfl, ?_⟩) hHeld ?_
    · intro w hSw; (try dsimp only at hSw); go_simp
    try simp only [Act.put, List.setIfInBounds_toArray, List.set_cons_zero, List.set_cons_succ]
    refine wpAnyH_ready (rs := [6]) (by kernel_rfl) (by simp) ?_
    refine AllReadyH.cons rfl (fun K hK => ?_) AllReadyH.nil
    have f9_s0 : V8.cell? ⟨w.heap.size, 0, none⟩ = some (.int .u8 me) := CB.cell nV8 0
    have z9_s0 : V8.frozen? ⟨w.heap.size, 0, none⟩ = false := CB.frozen nV8 0
    have f9_s1 : V8.cell? ⟨w.heap.size, 1, none⟩ = some (.int .i64 e) := CB.cell nV8 1
    have z9_s1 : V8.frozen? ⟨w.heap.size, 1, none⟩ = false := CB.frozen nV8 1
    have f9_s2 : V8.cell? ⟨w.heap.size, 2, none⟩ = some (.int .i64 1) := CB.cell nV8 2
    have z9_s2 : V8.frozen? ⟨w.heap.size, 2, none⟩ = false := CB.frozen nV8 2
    have f9_s3 : V8.cell? ⟨w.heap.size, 3, none⟩ = some (.int .u8 0) := CB.cell nV8 3
    have z9_s3 : V8.frozen? ⟨w.heap.size, 3, none⟩ = false := CB.frozen nV8 3
    have f9_s4 : V8.cell? ⟨w.heap.size, 4, none⟩ = some (.string cg) := CB.cell nV8 4
    have z9_s4 : V8.frozen? ⟨w.heap.size, 4, none⟩ = false := CB.frozen nV8 4
    have f9_s5 : V8.cell? ⟨w.heap.size, 5, none⟩ = some (.bool kp) := CB.cell nV8 5
    have z9_s5 : V8.frozen? ⟨w.heap.size, 5, none⟩ = false := CB.frozen nV8 5
    go_simp
    go_wp2_with fail
    have f9_s0 : V8.cell? ⟨w.heap.size, 0, none⟩ = some (.int .u8 me) := CB.cell nV8 0
    have z9_s0 : V8.frozen? ⟨w.heap.size, 0, none⟩ = false := CB.frozen nV8 0
    have f9_s1 : V8.cell? ⟨w.heap.size, 1, none⟩ = some (.int .i64 e) := CB.cell nV8 1
    have z9_s1 : V8.frozen? ⟨w.heap.size, 1, none⟩ = false := CB.frozen nV8 1
    have f9_s2 : V8.cell? ⟨w.heap.size, 2, none⟩ = some (.int .i64 1) := CB.cell nV8 2
    have z9_s2 : V8.frozen? ⟨w.heap.size, 2, none⟩ = false := CB.frozen nV8 2
    have f9_s3 : V8.cell? ⟨w.heap.size, 3, none⟩ = some (.int .u8 0) := CB.cell nV8 3
    have z9_s3 : V8.frozen? ⟨w.heap.size, 3, none⟩ = false := CB.frozen nV8 3
    have f9_s4 : V8.cell? ⟨w.heap.size, 4, none⟩ = some (.string cg) := CB.cell nV8 4
    have z9_s4 : V8.frozen? ⟨w.heap.size, 4, none⟩ = false := CB.frozen nV8 4
    have f9_s5 : V8.cell? ⟨w.heap.size, 5, none⟩ = some (.bool kp) := CB.cell nV8 5
    have z9_s5 : V8.frozen? ⟨w.heap.size, 5, none⟩ = false := CB.frozen nV8 5
    obtain ⟨V10, hV10⟩ : ∃ V, V8.setCell ⟨w.heap.size, 4, none⟩ (.string mg) = V := ⟨_, rfl⟩
    have nV10 : CB V10 (w.heap.size) 45 #[.int .u8 me, .int .i64 e, .int .i64 1, .int .u8 0, .string mg, .bool kp] := by rw [← hV10]; exact cb_cast (CB.put nV8 4 (.string mg)) (by kernel_rfl)
    have mV10_m : CB V10 (w.heap.size + 1) 68 #[.int .i64 kd, .int .u8 fr, .int .u8 t, .int .i64 e, .string mg] := by rw [← hV10]; exact (CB.far mV8_m (p := ⟨w.heap.size, 4, none⟩) (Ne.symm neW1_01) (.string mg))
    have mV10_r : CB V10 (w.heap.size + 1 + 1) 45 #[.int .u8 0, .int .i64 0, .int .i64 0, .int .u8 0, .string ⟨#[]⟩, .bool false] := by rw [← hV10]; exact (CB.far mV8_r (p := ⟨w.heap.size, 4, none⟩) (Ne.symm neW1_02) (.string mg))
    have mV10_l : CB V10 (w2.heap.size) 43 #[.int .i64 e, .int .i64 1, .int .u8 0] := by rw [← hV10]; exact (CB.far mV8_l (p := ⟨w.heap.size, 4, none⟩) (Ne.symm neW4_s) (.string mg))
    have oV10 := (Below.setCell oV8 (p := ⟨w.heap.size, 4, none⟩) (by dsimp only; omega) (.string mg))
    rw [hV10] at oV10
    have HV10 := Lib.hid hV10
    clear hV10
    clear nV8 mV8_m mV8_r mV8_l oV8
    rw [HV10.out]
    clear f9_s0 z9_s0 f9_s1 z9_s1 f9_s2 z9_s2 f9_s3 z9_s3 f9_s4 z9_s4 f9_s5 z9_s5
    have y11 := Lib.hid (show (fun V : World => V.cell? ⟨w2.heap.size, 0, none⟩ = some (.int .i64 e) ∧ V.cell? ⟨w2.heap.size, 1, none⟩ = some (.int .i64 1) ∧ V.cell? ⟨w2.heap.size, 2, none⟩ = some (.int .u8 0) ∧ V.cell? ⟨w.heap.size + 1, 0, none⟩ = some (.int .i64 kd) ∧ V.cell? ⟨w.heap.size + 1, 1, none⟩ = some (.int .u8 fr) ∧ V.cell? ⟨w.heap.size + 1, 2, none⟩ = some (.int .u8 t) ∧ V.cell? ⟨w.heap.size + 1, 3, none⟩ = some (.int .i64 e) ∧ V.cell? ⟨w.heap.size + 1, 4, none⟩ = some (.string mg)) V10 from ⟨CB.cell mV10_l 0, CB.cell mV10_l 1, CB.cell mV10_l 2, CB.cell mV10_m 0, CB.cell mV10_m 1, CB.cell mV10_m 2, CB.cell mV10_m 3, CB.cell mV10_m 4⟩)
    refine hK.out _ _ y11.out (fun hHeld => ?_)
    clear hK K y11
    try simp only [Act.put, List.setIfInBounds_toArray, List.set_cons_zero, List.set_cons_succ]
    refine wpAnyH_takeL (i := 7) (d := some 24) (v := .pointer (some ⟨w.heap.size, 5, none⟩)) rfl rfl (by kernel_rfl) (by kernel_rfl) (by kernel_rfl) (fun _ _ _ h => h) (Or.inl ⟨by rfl, ?_⟩) hHeld ?_
    · intro w hSw; (try dsimp only at hSw); go_simp
    try simp only [Act.put, List.setIfInBounds_toArray, List.set_cons_zero, List.set_cons_succ]
    refine wpAnyH_ready (rs := [8]) (by kernel_rfl) (by simp) ?_
    refine AllReadyH.cons rfl (fun K hK => ?_) AllReadyH.nil
    have f11_s0 : V10.cell? ⟨w.heap.size, 0, none⟩ = some (.int .u8 me) := CB.cell nV10 0
    have z11_s0 : V10.frozen? ⟨w.heap.size, 0, none⟩ = false := CB.frozen nV10 0
    have f11_s1 : V10.cell? ⟨w.heap.size, 1, none⟩ = some (.int .i64 e) := CB.cell nV10 1
    have z11_s1 : V10.frozen? ⟨w.heap.size, 1, none⟩ = false := CB.frozen nV10 1
    have f11_s2 : V10.cell? ⟨w.heap.size, 2, none⟩ = some (.int .i64 1) := CB.cell nV10 2
    have z11_s2 : V10.frozen? ⟨w.heap.size, 2, none⟩ = false := CB.frozen nV10 2
    have f11_s3 : V10.cell? ⟨w.heap.size, 3, none⟩ = some (.int .u8 0) := CB.cell nV10 3
    have z11_s3 : V10.frozen? ⟨w.heap.size, 3, none⟩ = false := CB.frozen nV10 3
    have f11_s4 : V10.cell? ⟨w.heap.size, 4, none⟩ = some (.string mg) := CB.cell nV10 4
    have z11_s4 : V10.frozen? ⟨w.heap.size, 4, none⟩ = false := CB.frozen nV10 4
    have f11_s5 : V10.cell? ⟨w.heap.size, 5, none⟩ = some (.bool kp) := CB.cell nV10 5
    have z11_s5 : V10.frozen? ⟨w.heap.size, 5, none⟩ = false := CB.frozen nV10 5
    go_simp
    go_wp2_with fail
    have f11_s0 : V10.cell? ⟨w.heap.size, 0, none⟩ = some (.int .u8 me) := CB.cell nV10 0
    have z11_s0 : V10.frozen? ⟨w.heap.size, 0, none⟩ = false := CB.frozen nV10 0
    have f11_s1 : V10.cell? ⟨w.heap.size, 1, none⟩ = some (.int .i64 e) := CB.cell nV10 1
    have z11_s1 : V10.frozen? ⟨w.heap.size, 1, none⟩ = false := CB.frozen nV10 1
    have f11_s2 : V10.cell? ⟨w.heap.size, 2, none⟩ = some (.int .i64 1) := CB.cell nV10 2
    have z11_s2 : V10.frozen? ⟨w.heap.size, 2, none⟩ = false := CB.frozen nV10 2
    have f11_s3 : V10.cell? ⟨w.heap.size, 3, none⟩ = some (.int .u8 0) := CB.cell nV10 3
    have z11_s3 : V10.frozen? ⟨w.heap.size, 3, none⟩ = false := CB.frozen nV10 3
    have f11_s4 : V10.cell? ⟨w.heap.size, 4, none⟩ = some (.string mg) := CB.cell nV10 4
    have z11_s4 : V10.frozen? ⟨w.heap.size, 4, none⟩ = false := CB.frozen nV10 4
    have f11_s5 : V10.cell? ⟨w.heap.size, 5, none⟩ = some (.bool kp) := CB.cell nV10 5
    have z11_s5 : V10.frozen? ⟨w.heap.size, 5, none⟩ = false := CB.frozen nV10 5
    obtain ⟨V12, hV12⟩ : ∃ V, V10.setCell ⟨w.heap.size, 5, none⟩ (.bool false) = V := ⟨_, rfl⟩
    have nV12 : CB V12 (w.heap.size) 45 #[.int .u8 me, .int .i64 e, .int .i64 1, .int .u8 0, .string mg, .bool false] := by rw [← hV12]; exact cb_cast (CB.put nV10 5 (.bool false)) (by kernel_rfl)
    have mV12_m : CB V12 (w.heap.size + 1) 68 #[.int .i64 kd, .int .u8 fr, .int .u8 t, .int .i64 e, .string mg] := by rw [← hV12]; exact (CB.far mV10_m (p := ⟨w.heap.size, 5, none⟩) (Ne.symm neW1_01) (.bool false))
    have mV12_r : CB V12 (w.heap.size + 1 + 1) 45 #[.int .u8 0, .int .i64 0, .int .i64 0, .int .u8 0, .string ⟨#[]⟩, .bool false] := by rw [← hV12]; exact (CB.far mV10_r (p := ⟨w.heap.size, 5, none⟩) (Ne.symm neW1_02) (.bool false))
    have mV12_l : CB V12 (w2.heap.size) 43 #[.int .i64 e, .int .i64 1, .int .u8 0] := by rw [← hV12]; exact (CB.far mV10_l (p := ⟨w.heap.size, 5, none⟩) (Ne.symm neW4_s) (.bool false))
    have oV12 := (Below.setCell oV10 (p := ⟨w.heap.size, 5, none⟩) (by dsimp only; omega) (.bool false))
    rw [hV12] at oV12
    have HV12 := Lib.hid hV12
    clear hV12
    clear nV10 mV10_m mV10_r mV10_l oV10
    rw [HV12.out]
    clear f11_s0 z11_s0 f11_s1 z11_s1 f11_s2 z11_s2 f11_s3 z11_s3 f11_s4 z11_s4 f11_s5 z11_s5
    have y13 := Lib.hid (show (fun V : World => V.cell? ⟨w2.heap.size, 0, none⟩ = some (.int .i64 e) ∧ V.cell? ⟨w2.heap.size, 1, none⟩ = some (.int .i64 1) ∧ V.cell? ⟨w2.heap.size, 2, none⟩ = some (.int .u8 0) ∧ V.cell? ⟨w.heap.size + 1, 0, none⟩ = some (.int .i64 kd) ∧ V.cell? ⟨w.heap.size + 1, 1, none⟩ = some (.int .u8 fr) ∧ V.cell? ⟨w.heap.size + 1, 2, none⟩ = some (.int .u8 t) ∧ V.cell? ⟨w.heap.size + 1, 3, none⟩ = some (.int .i64 e) ∧ V.cell? ⟨w.heap.size + 1, 4, none⟩ = some (.string mg)) V12 from ⟨CB.cell mV12_l 0, CB.cell mV12_l 1, CB.cell mV12_l 2, CB.cell mV12_m 0, CB.cell mV12_m 1, CB.cell mV12_m 2, CB.cell mV12_m 3, CB.cell mV12_m 4⟩)
    refine hK.out _ _ y13.out (fun hHeld => ?_)
    clear hK K y13
    try simp only [Act.put, List.setIfInBounds_toArray, List.set_cons_zero, List.set_cons_succ]
    refine wpAnyH_done (by kernel_rfl) ?_ _
    have f13_s0 : V12.cell? ⟨w.heap.size, 0, none⟩ = some (.int .u8 me) := CB.cell nV12 0
    have f13_s1 : V12.cell? ⟨w.heap.size, 1, none⟩ = some (.int .i64 e) := CB.cell nV12 1
    have f13_s2 : V12.cell? ⟨w.heap.size, 2, none⟩ = some (.int .i64 1) := CB.cell nV12 2
    have f13_s3 : V12.cell? ⟨w.heap.size, 3, none⟩ = some (.int .u8 0) := CB.cell nV12 3
    have f13_s4 : V12.cell? ⟨w.heap.size, 4, none⟩ = some (.string mg) := CB.cell nV12 4
    have f13_s5 : V12.cell? ⟨w.heap.size, 5, none⟩ = some (.bool false) := CB.cell nV12 5
    have f13_m0 : V12.cell? ⟨w.heap.size + 1, 0, none⟩ = some (.int .i64 kd) := CB.cell mV12_m 0
    have f13_m1 : V12.cell? ⟨w.heap.size + 1, 1, none⟩ = some (.int .u8 fr) := CB.cell mV12_m 1
    have f13_m2 : V12.cell? ⟨w.heap.size + 1, 2, none⟩ = some (.int .u8 t) := CB.cell mV12_m 2
    have f13_m3 : V12.cell? ⟨w.heap.size + 1, 3, none⟩ = some (.int .i64 e) := CB.cell mV12_m 3
    have f13_m4 : V12.cell? ⟨w.heap.size + 1, 4, none⟩ = some (.string mg) := CB.cell mV12_m 4
    go_wp2_with fail
    clear f13_s0 f13_s1 f13_s2 f13_s3 f13_s4 f13_s5 f13_m0 f13_m1 f13_m2 f13_m3 f13_m4
    have y14 := Lib.hid (show (fun V : World => V.cell? ⟨w.heap.size, 0, none⟩ = some (.int .u8 me) ∧ V.cell? ⟨w.heap.size, 1, none⟩ = some (.int .i64 e) ∧ V.cell? ⟨w.heap.size, 2, none⟩ = some (.int .i64 1) ∧ V.cell? ⟨w.heap.size, 3, none⟩ = some (.int .u8 0) ∧ V.cell? ⟨w.heap.size, 4, none⟩ = some (.string mg) ∧ V.cell? ⟨w.heap.size, 5, none⟩ = some (.bool false) ∧ V.cell? ⟨w.heap.size + 1, 0, none⟩ = some (.int .i64 kd) ∧ V.cell? ⟨w.heap.size + 1, 1, none⟩ = some (.int .u8 fr) ∧ V.cell? ⟨w.heap.size + 1, 2, none⟩ = some (.int .u8 t) ∧ V.cell? ⟨w.heap.size + 1, 3, none⟩ = some (.int .i64 e) ∧ V.cell? ⟨w.heap.size + 1, 4, none⟩ = some (.string mg)) V12 from ⟨CB.cell nV12 0, CB.cell nV12 1, CB.cell nV12 2, CB.cell nV12 3, CB.cell nV12 4, CB.cell nV12 5, CB.cell mV12_m 0, CB.cell mV12_m 1, CB.cell mV12_m 2, CB.cell mV12_m 3, CB.cell mV12_m 4⟩)
    refine wp_region_held_drew (S := (fun V : World => V.cell? ⟨w.heap.size, 0, none⟩ = some (.int .u8 me) ∧ V.cell? ⟨w.heap.size, 1, none⟩ = some (.int .i64 e) ∧ V.cell? ⟨w.heap.size, 2, none⟩ = some (.int .i64 1) ∧ V.cell? ⟨w.heap.size, 3, none⟩ = some (.int .u8 0) ∧ V.cell? ⟨w.heap.size, 4, none⟩ = some (.string mg) ∧ V.cell? ⟨w.heap.size, 5, none⟩ = some (.bool false) ∧ V.cell? ⟨w.heap.size + 1, 0, none⟩ = some (.int .i64 kd) ∧ V.cell? ⟨w.heap.size + 1, 1, none⟩ = some (.int .u8 fr) ∧ V.cell? ⟨w.heap.size + 1, 2, none⟩ = some (.int .u8 t) ∧ V.cell? ⟨w.heap.size + 1, 3, none⟩ = some (.int .i64 e) ∧ V.cell? ⟨w.heap.size + 1, 4, none⟩ = some (.string mg))) (by kernel_rfl) y14.out (fun hHeld => ?_)
    obtain ⟨D14, hD14⟩ : ∃ V, V12.drew = V := ⟨_, rfl⟩
    have b14 : Below V12.heap.size V12 D14 := by rw [← hD14]; exact le_dr (Below.refl _ _)
    rw [hD14] at hHeld ⊢
    clear hD14
    have r15_s := le_on nV12 b14
    have r15_m := le_on mV12_m b14
    have r15_r := le_on mV12_r b14
    have r15_l := le_on mV12_l b14
    have l15 := le_tr oV12 b14
    clear nV12 mV12_m mV12_r mV12_l oV12
    clear b14
    refine wpAnyH_takeL (i := 0) (d := some 25) (v := .agg #[.int .u8 me, .int .i64 e, .int .i64 1, .int .u8 0, .string mg, .bool false]) rfl rfl (by kernel_rfl) (by kernel_rfl) (by kernel_rfl) (fun _ _ _ h => h) (Or.inl ⟨by rfl, ?_⟩) hHeld ?_
    · intro w hSw; (try dsimp only at hSw); go_simp
    try simp only [Act.put, List.setIfInBounds_toArray, List.set_cons_zero, List.set_cons_succ]
    refine wpAnyH_takeL (i := 1) (d := some 26) (v := .agg #[.int .u8 me, .int .i64 e, .int .i64 1, .int .u8 0, .string mg, .bool false]) rfl rfl (by kernel_rfl) (by kernel_rfl) (by kernel_rfl) (fun _ _ _ h => h) (Or.inl ⟨by rfl, ?_⟩) hHeld ?_
    · intro w hSw; (try dsimp only at hSw); go_simp
    try simp only [Act.put, List.setIfInBounds_toArray, List.set_cons_zero, List.set_cons_succ]
    refine wpAnyH_takeL (i := 2) (d := some 27) (v := .pointer (some ⟨w.heap.size + 1, 1, none⟩)) rfl rfl (by kernel_rfl) (by kernel_rfl) (by kernel_rfl) (fun _ _ _ h => h) (Or.inl ⟨by rfl, ?_⟩) hHeld ?_
    · intro w hSw; (try dsimp only at hSw); go_simp
    try simp only [Act.put, List.setIfInBounds_toArray, List.set_cons_zero, List.set_cons_succ]
    refine wpAnyH_takeL (i := 3) (d := some 28) (v := .int .u8 fr) rfl rfl (by kernel_rfl) (by kernel_rfl) (by kernel_rfl) (fun _ _ _ h => h) (Or.inl ⟨by rfl, ?_⟩) hHeld ?_
    · intro w hSw; (try dsimp only at hSw); go_simp
    try simp only [Act.put, List.setIfInBounds_toArray, List.set_cons_zero, List.set_cons_succ]
    refine wpAnyH_takeL (i := 4) (d := some 29) (v := .pointer (some ⟨w.heap.size + 1, 3, none⟩)) rfl rfl (by kernel_rfl) (by kernel_rfl) (by kernel_rfl) (fun _ _ _ h => h) (Or.inl ⟨by rfl, ?_⟩) hHeld ?_
    · intro w hSw; (try dsimp only at hSw); go_simp
    try simp only [Act.put, List.setIfInBounds_toArray, List.set_cons_zero, List.set_cons_succ]
    refine wpAnyH_takeL (i := 5) (d := some 30) (v := .int .i64 e) rfl rfl (by kernel_rfl) (by kernel_rfl) (by kernel_rfl) (fun _ _ _ h => h) (Or.inl ⟨by rfl, ?_⟩) hHeld ?_
    · intro w hSw; (try dsimp only at hSw); go_simp
    try simp only [Act.put, List.setIfInBounds_toArray, List.set_cons_zero, List.set_cons_succ]
    refine wpAnyH_ready (rs := [6]) (by kernel_rfl) (by simp) ?_
    refine AllReadyH.cons rfl (fun K hK => ?_) AllReadyH.nil
    go_simp
    refine (say_c (me) (e) (1) (0) (mg) (false) 4 fr e _).mono ?_
    rintro e u16 ⟨rfl, b16⟩
    have r17_s := le_on r15_s b16
    have r17_m := le_on r15_m b16
    have r17_r := le_on r15_r b16
    have r17_l := le_on r15_l b16
    have l17 := le_tr l15 b16
    clear r15_s r15_m r15_r r15_l l15
    clear b16
    go_wp2_with fail
    have y18 := Lib.hid (show (fun V : World => V.cell? ⟨w.heap.size, 0, none⟩ = some (.int .u8 me) ∧ V.cell? ⟨w.heap.size, 1, none⟩ = some (.int .i64 e) ∧ V.cell? ⟨w.heap.size, 2, none⟩ = some (.int .i64 1) ∧ V.cell? ⟨w.heap.size, 3, none⟩ = some (.int .u8 0) ∧ V.cell? ⟨w.heap.size, 4, none⟩ = some (.string mg) ∧ V.cell? ⟨w.heap.size, 5, none⟩ = some (.bool false) ∧ V.cell? ⟨w.heap.size + 1, 0, none⟩ = some (.int .i64 kd) ∧ V.cell? ⟨w.heap.size + 1, 1, none⟩ = some (.int .u8 fr) ∧ V.cell? ⟨w.heap.size + 1, 2, none⟩ = some (.int .u8 t) ∧ V.cell? ⟨w.heap.size + 1, 3, none⟩ = some (.int .i64 e) ∧ V.cell? ⟨w.heap.size + 1, 4, none⟩ = some (.string mg)) u16 from ⟨CB.cell r17_s 0, CB.cell r17_s 1, CB.cell r17_s 2, CB.cell r17_s 3, CB.cell r17_s 4, CB.cell r17_s 5, CB.cell r17_m 0, CB.cell r17_m 1, CB.cell r17_m 2, CB.cell r17_m 3, CB.cell r17_m 4⟩)
    refine hK.out _ _ y18.out (fun hHeld => ?_)
    clear hK K y18
    try simp only [Act.put, List.setIfInBounds_toArray, List.set_cons_zero, List.set_cons_succ]
    refine wpAnyH_ready (rs := [7, 8]) (by kernel_rfl) (by simp) ?_
    refine AllReadyH.cons rfl (fun K hK => ?_) (AllReadyH.cons rfl (fun K hK => ?_) AllReadyH.nil)
    · skip
      go_simp
      go_wp2_with fail
      have av_z : w.heap.size ≤ u16.heap.size := by have := l17.size; omega
      obtain ⟨W19, hW19⟩ : ∃ V, u16.alloc (.cells #[.int .i64 4, .int .u8 me, .int .u8 fr, .int .i64 e, .string ⟨#[]⟩] 68) = V := ⟨_, rfl⟩
      have zW19 : u16.heap.size = u16.heap.size := by rfl
      have nW19 : CB W19 (u16.heap.size) 68 #[.int .i64 4, .int .u8 me, .int .u8 fr, .int .i64 e, .string ⟨#[]⟩] := by rw [← zW19, ← hW19]; exact CB.new _ _ _
      have bW19 : Below u16.heap.size u16 W19 := by rw [← hW19]; exact le_al _ _
      have neW19_s : w.heap.size ≠ u16.heap.size := by have := CB.lt r17_s; omega
      have neW19_m : w.heap.size + 1 ≠ u16.heap.size := by have := CB.lt r17_m; omega
      have neW19_r : w.heap.size + 1 + 1 ≠ u16.heap.size := by have := CB.lt r17_r; omega
      have neW19_l : w2.heap.size ≠ u16.heap.size := by have := CB.lt r17_l; omega
      have HW19 := Lib.hid hW19
      clear hW19 zW19
      have r20_s := le_on r17_s bW19
      have r20_m := le_on r17_m bW19
      have r20_r := le_on r17_r bW19
      have r20_l := le_on r17_l bW19
      have l20 := le_tr l17 bW19
      clear r17_s r17_m r17_r r17_l l17
      clear bW19
      rw [HW19.out]
      have y21 := Lib.hid (show (fun V : World => V.cell? ⟨w.heap.size, 0, none⟩ = some (.int .u8 me) ∧ V.cell? ⟨w.heap.size, 1, none⟩ = some (.int .i64 e) ∧ V.cell? ⟨w.heap.size, 2, none⟩ = some (.int .i64 1) ∧ V.cell? ⟨w.heap.size, 3, none⟩ = some (.int .u8 0) ∧ V.cell? ⟨w.heap.size, 4, none⟩ = some (.string mg) ∧ V.cell? ⟨w.heap.size, 5, none⟩ = some (.bool false) ∧ V.cell? ⟨w.heap.size + 1, 0, none⟩ = some (.int .i64 kd) ∧ V.cell? ⟨w.heap.size + 1, 1, none⟩ = some (.int .u8 fr) ∧ V.cell? ⟨w.heap.size + 1, 2, none⟩ = some (.int .u8 t) ∧ V.cell? ⟨w.heap.size + 1, 3, none⟩ = some (.int .i64 e) ∧ V.cell? ⟨w.heap.size + 1, 4, none⟩ = some (.string mg)) W19 from ⟨CB.cell r20_s 0, CB.cell r20_s 1, CB.cell r20_s 2, CB.cell r20_s 3, CB.cell r20_s 4, CB.cell r20_s 5, CB.cell r20_m 0, CB.cell r20_m 1, CB.cell r20_m 2, CB.cell r20_m 3, CB.cell r20_m 4⟩)
      refine hK.out _ _ y21.out (fun hHeld => ?_)
      clear hK K y21
      try simp only [Act.put, List.setIfInBounds_toArray, List.set_cons_zero, List.set_cons_succ]
      refine wpAnyH_ready (rs := [8]) (by kernel_rfl) (by simp) ?_
      refine AllReadyH.cons rfl (fun K hK => ?_) AllReadyH.nil
      have f21_r0 : W19.cell? ⟨w.heap.size + 1 + 1, 0, none⟩ = some (.int .u8 0) := CB.cell r20_r 0
      have z21_r0 : W19.frozen? ⟨w.heap.size + 1 + 1, 0, none⟩ = false := CB.frozen r20_r 0
      have f21_r1 : W19.cell? ⟨w.heap.size + 1 + 1, 1, none⟩ = some (.int .i64 0) := CB.cell r20_r 1
      have z21_r1 : W19.frozen? ⟨w.heap.size + 1 + 1, 1, none⟩ = false := CB.frozen r20_r 1
      have f21_r2 : W19.cell? ⟨w.heap.size + 1 + 1, 2, none⟩ = some (.int .i64 0) := CB.cell r20_r 2
      have z21_r2 : W19.frozen? ⟨w.heap.size + 1 + 1, 2, none⟩ = false := CB.frozen r20_r 2
      have f21_r3 : W19.cell? ⟨w.heap.size + 1 + 1, 3, none⟩ = some (.int .u8 0) := CB.cell r20_r 3
      have z21_r3 : W19.frozen? ⟨w.heap.size + 1 + 1, 3, none⟩ = false := CB.frozen r20_r 3
      have f21_r4 : W19.cell? ⟨w.heap.size + 1 + 1, 4, none⟩ = some (.string ⟨#[]⟩) := CB.cell r20_r 4
      have z21_r4 : W19.frozen? ⟨w.heap.size + 1 + 1, 4, none⟩ = false := CB.frozen r20_r 4
      have f21_r5 : W19.cell? ⟨w.heap.size + 1 + 1, 5, none⟩ = some (.bool false) := CB.cell r20_r 5
      have z21_r5 : W19.frozen? ⟨w.heap.size + 1 + 1, 5, none⟩ = false := CB.frozen r20_r 5
      go_simp
      go_wp2_with fail
      have f21_r0 : W19.cell? ⟨w.heap.size + 1 + 1, 0, none⟩ = some (.int .u8 0) := CB.cell r20_r 0
      have z21_r0 : W19.frozen? ⟨w.heap.size + 1 + 1, 0, none⟩ = false := CB.frozen r20_r 0
      have f21_r1 : W19.cell? ⟨w.heap.size + 1 + 1, 1, none⟩ = some (.int .i64 0) := CB.cell r20_r 1
      have z21_r1 : W19.frozen? ⟨w.heap.size + 1 + 1, 1, none⟩ = false := CB.frozen r20_r 1
      have f21_r2 : W19.cell? ⟨w.heap.size + 1 + 1, 2, none⟩ = some (.int .i64 0) := CB.cell r20_r 2
      have z21_r2 : W19.frozen? ⟨w.heap.size + 1 + 1, 2, none⟩ = false := CB.frozen r20_r 2
      have f21_r3 : W19.cell? ⟨w.heap.size + 1 + 1, 3, none⟩ = some (.int .u8 0) := CB.cell r20_r 3
      have z21_r3 : W19.frozen? ⟨w.heap.size + 1 + 1, 3, none⟩ = false := CB.frozen r20_r 3
      have f21_r4 : W19.cell? ⟨w.heap.size + 1 + 1, 4, none⟩ = some (.string ⟨#[]⟩) := CB.cell r20_r 4
      have z21_r4 : W19.frozen? ⟨w.heap.size + 1 + 1, 4, none⟩ = false := CB.frozen r20_r 4
      have f21_r5 : W19.cell? ⟨w.heap.size + 1 + 1, 5, none⟩ = some (.bool false) := CB.cell r20_r 5
      have z21_r5 : W19.frozen? ⟨w.heap.size + 1 + 1, 5, none⟩ = false := CB.frozen r20_r 5
      obtain ⟨V22, hV22⟩ : ∃ V, (((((W19.setCell ⟨w.heap.size + 1 + 1, 0, none⟩ (.int .u8 me)).setCell ⟨w.heap.size + 1 + 1, 1, none⟩ (.int .i64 e)).setCell ⟨w.heap.size + 1 + 1, 2, none⟩ (.int .i64 1)).setCell ⟨w.heap.size + 1 + 1, 3, none⟩ (.int .u8 0)).setCell ⟨w.heap.size + 1 + 1, 4, none⟩ (.string mg)).setCell ⟨w.heap.size + 1 + 1, 5, none⟩ (.bool false) = V := ⟨_, rfl⟩
      have nV22 : CB V22 (w.heap.size + 1 + 1) 45 #[.int .u8 me, .int .i64 e, .int .i64 1, .int .u8 0, .string mg, .bool false] := by rw [← hV22]; exact cb_cast (CB.put (CB.put (CB.put (CB.put (CB.put (CB.put r20_r 0 (.int .u8 me)) 1 (.int .i64 e)) 2 (.int .i64 1)) 3 (.int .u8 0)) 4 (.string mg)) 5 (.bool false)) (by kernel_rfl)
      have mV22_s : CB V22 (w.heap.size) 45 #[.int .u8 me, .int .i64 e, .int .i64 1, .int .u8 0, .string mg, .bool false] := by rw [← hV22]; exact (CB.far (CB.far (CB.far (CB.far (CB.far (CB.far r20_s (p := ⟨w.heap.size + 1 + 1, 0, none⟩) neW1_02 (.int .u8 me)) (p := ⟨w.heap.size + 1 + 1, 1, none⟩) neW1_02 (.int .i64 e)) (p := ⟨w.heap.size + 1 + 1, 2, none⟩) neW1_02 (.int .i64 1)) (p := ⟨w.heap.size + 1 + 1, 3, none⟩) neW1_02 (.int .u8 0)) (p := ⟨w.heap.size + 1 + 1, 4, none⟩) neW1_02 (.string mg)) (p := ⟨w.heap.size + 1 + 1, 5, none⟩) neW1_02 (.bool false))
      have mV22_m : CB V22 (w.heap.size + 1) 68 #[.int .i64 kd, .int .u8 fr, .int .u8 t, .int .i64 e, .string mg] := by rw [← hV22]; exact (CB.far (CB.far (CB.far (CB.far (CB.far (CB.far r20_m (p := ⟨w.heap.size + 1 + 1, 0, none⟩) neW1_12 (.int .u8 me)) (p := ⟨w.heap.size + 1 + 1, 1, none⟩) neW1_12 (.int .i64 e)) (p := ⟨w.heap.size + 1 + 1, 2, none⟩) neW1_12 (.int .i64 1)) (p := ⟨w.heap.size + 1 + 1, 3, none⟩) neW1_12 (.int .u8 0)) (p := ⟨w.heap.size + 1 + 1, 4, none⟩) neW1_12 (.string mg)) (p := ⟨w.heap.size + 1 + 1, 5, none⟩) neW1_12 (.bool false))
      have mV22_l : CB V22 (w2.heap.size) 43 #[.int .i64 e, .int .i64 1, .int .u8 0] := by rw [← hV22]; exact (CB.far (CB.far (CB.far (CB.far (CB.far (CB.far r20_l (p := ⟨w.heap.size + 1 + 1, 0, none⟩) (Ne.symm neW4_r) (.int .u8 me)) (p := ⟨w.heap.size + 1 + 1, 1, none⟩) (Ne.symm neW4_r) (.int .i64 e)) (p := ⟨w.heap.size + 1 + 1, 2, none⟩) (Ne.symm neW4_r) (.int .i64 1)) (p := ⟨w.heap.size + 1 + 1, 3, none⟩) (Ne.symm neW4_r) (.int .u8 0)) (p := ⟨w.heap.size + 1 + 1, 4, none⟩) (Ne.symm neW4_r) (.string mg)) (p := ⟨w.heap.size + 1 + 1, 5, none⟩) (Ne.symm neW4_r) (.bool false))
      have mV22_z : CB V22 (u16.heap.size) 68 #[.int .i64 4, .int .u8 me, .int .u8 fr, .int .i64 e, .string ⟨#[]⟩] := by rw [← hV22]; exact (CB.far (CB.far (CB.far (CB.far (CB.far (CB.far nW19 (p := ⟨w.heap.size + 1 + 1, 0, none⟩) (Ne.symm neW19_r) (.int .u8 me)) (p := ⟨w.heap.size + 1 + 1, 1, none⟩) (Ne.symm neW19_r) (.int .i64 e)) (p := ⟨w.heap.size + 1 + 1, 2, none⟩) (Ne.symm neW19_r) (.int .i64 1)) (p := ⟨w.heap.size + 1 + 1, 3, none⟩) (Ne.symm neW19_r) (.int .u8 0)) (p := ⟨w.heap.size + 1 + 1, 4, none⟩) (Ne.symm neW19_r) (.string mg)) (p := ⟨w.heap.size + 1 + 1, 5, none⟩) (Ne.symm neW19_r) (.bool false))
      have oV22 := (Below.setCell (Below.setCell (Below.setCell (Below.setCell (Below.setCell (Below.setCell l20 (p := ⟨w.heap.size + 1 + 1, 0, none⟩) (by dsimp only; omega) (.int .u8 me)) (p := ⟨w.heap.size + 1 + 1, 1, none⟩) (by dsimp only; omega) (.int .i64 e)) (p := ⟨w.heap.size + 1 + 1, 2, none⟩) (by dsimp only; omega) (.int .i64 1)) (p := ⟨w.heap.size + 1 + 1, 3, none⟩) (by dsimp only; omega) (.int .u8 0)) (p := ⟨w.heap.size + 1 + 1, 4, none⟩) (by dsimp only; omega) (.string mg)) (p := ⟨w.heap.size + 1 + 1, 5, none⟩) (by dsimp only; omega) (.bool false))
      rw [hV22] at oV22
      have HV22 := Lib.hid hV22
      clear hV22
      clear r20_r r20_s r20_m r20_l nW19 l20
      rw [HV22.out]
      clear f21_r0 z21_r0 f21_r1 z21_r1 f21_r2 z21_r2 f21_r3 z21_r3 f21_r4 z21_r4 f21_r5 z21_r5
      have y23 := Lib.hid (show (fun V : World => V.cell? ⟨w.heap.size, 0, none⟩ = some (.int .u8 me) ∧ V.cell? ⟨w.heap.size, 1, none⟩ = some (.int .i64 e) ∧ V.cell? ⟨w.heap.size, 2, none⟩ = some (.int .i64 1) ∧ V.cell? ⟨w.heap.size, 3, none⟩ = some (.int .u8 0) ∧ V.cell? ⟨w.heap.size, 4, none⟩ = some (.string mg) ∧ V.cell? ⟨w.heap.size, 5, none⟩ = some (.bool false) ∧ V.cell? ⟨w.heap.size + 1, 0, none⟩ = some (.int .i64 kd) ∧ V.cell? ⟨w.heap.size + 1, 1, none⟩ = some (.int .u8 fr) ∧ V.cell? ⟨w.heap.size + 1, 2, none⟩ = some (.int .u8 t) ∧ V.cell? ⟨w.heap.size + 1, 3, none⟩ = some (.int .i64 e) ∧ V.cell? ⟨w.heap.size + 1, 4, none⟩ = some (.string mg)) V22 from ⟨CB.cell mV22_s 0, CB.cell mV22_s 1, CB.cell mV22_s 2, CB.cell mV22_s 3, CB.cell mV22_s 4, CB.cell mV22_s 5, CB.cell mV22_m 0, CB.cell mV22_m 1, CB.cell mV22_m 2, CB.cell mV22_m 3, CB.cell mV22_m 4⟩)
      refine hK.out _ _ y23.out (fun hHeld => ?_)
      clear hK K y23
      try simp only [Act.put, List.setIfInBounds_toArray, List.set_cons_zero, List.set_cons_succ]
      refine wpAnyH_takeL (i := 9) (d := some 5) (v := .slice (some ⟨u16.heap.size, 0, none⟩) 1 1) rfl rfl (by kernel_rfl) (by kernel_rfl) (by kernel_rfl) (fun _ _ _ h => h) (Or.inl ⟨by rfl, ?_⟩) hHeld ?_
      · intro w hSw; (try dsimp only at hSw); go_simp
      try simp only [Act.put, List.setIfInBounds_toArray, List.set_cons_zero, List.set_cons_succ]
      refine wpAnyH_takeL (i := 10) (d := some 6) (v := .int .i64 0) rfl rfl (by kernel_rfl) (by kernel_rfl) (by kernel_rfl) (fun _ _ _ h => h) (Or.inl ⟨by rfl, ?_⟩) hHeld ?_
      · intro w hSw; (try dsimp only at hSw); go_simp
      try simp only [Act.put, List.setIfInBounds_toArray, List.set_cons_zero, List.set_cons_succ]
      refine wpAnyH_done (by kernel_rfl) ?_ _
      go_wp2_with fail
      have x_r0 : V22.cell? ⟨w.heap.size + 1 + 1, 0, none⟩ = some (.int .u8 me) := CB.cell nV22 0
      have x_r1 : V22.cell? ⟨w.heap.size + 1 + 1, 1, none⟩ = some (.int .i64 e) := CB.cell nV22 1
      have x_r2 : V22.cell? ⟨w.heap.size + 1 + 1, 2, none⟩ = some (.int .i64 1) := CB.cell nV22 2
      have x_r3 : V22.cell? ⟨w.heap.size + 1 + 1, 3, none⟩ = some (.int .u8 0) := CB.cell nV22 3
      have x_r4 : V22.cell? ⟨w.heap.size + 1 + 1, 4, none⟩ = some (.string mg) := CB.cell nV22 4
      have x_r5 : V22.cell? ⟨w.heap.size + 1 + 1, 5, none⟩ = some (.bool false) := CB.cell nV22 5
      exact bodyPost_ret (v := .tuple #[.agg #[.int .u8 me, .int .i64 e, .int .i64 1, .int .u8 0, .string mg, .bool false], .slice (some ⟨u16.heap.size, 0, none⟩) 1 1, .int .i64 0]) (by simp [results, Try.results49, go_sem, x_r0, x_r1, x_r2, x_r3, x_r4, x_r5]) rfl (HPost.mk' me e 1 0 mg false 0 _ H.out (RS.of_cbm mV22_z) oV22)
    · skip
      have f18_r0 : u16.cell? ⟨w.heap.size + 1 + 1, 0, none⟩ = some (.int .u8 0) := CB.cell r17_r 0
      have z18_r0 : u16.frozen? ⟨w.heap.size + 1 + 1, 0, none⟩ = false := CB.frozen r17_r 0
      have f18_r1 : u16.cell? ⟨w.heap.size + 1 + 1, 1, none⟩ = some (.int .i64 0) := CB.cell r17_r 1
      have z18_r1 : u16.frozen? ⟨w.heap.size + 1 + 1, 1, none⟩ = false := CB.frozen r17_r 1
      have f18_r2 : u16.cell? ⟨w.heap.size + 1 + 1, 2, none⟩ = some (.int .i64 0) := CB.cell r17_r 2
      have z18_r2 : u16.frozen? ⟨w.heap.size + 1 + 1, 2, none⟩ = false := CB.frozen r17_r 2
      have f18_r3 : u16.cell? ⟨w.heap.size + 1 + 1, 3, none⟩ = some (.int .u8 0) := CB.cell r17_r 3
      have z18_r3 : u16.frozen? ⟨w.heap.size + 1 + 1, 3, none⟩ = false := CB.frozen r17_r 3
      have f18_r4 : u16.cell? ⟨w.heap.size + 1 + 1, 4, none⟩ = some (.string ⟨#[]⟩) := CB.cell r17_r 4
      have z18_r4 : u16.frozen? ⟨w.heap.size + 1 + 1, 4, none⟩ = false := CB.frozen r17_r 4
      have f18_r5 : u16.cell? ⟨w.heap.size + 1 + 1, 5, none⟩ = some (.bool false) := CB.cell r17_r 5
      have z18_r5 : u16.frozen? ⟨w.heap.size + 1 + 1, 5, none⟩ = false := CB.frozen r17_r 5
      go_simp
      go_wp2_with fail
      have f18_r0 : u16.cell? ⟨w.heap.size + 1 + 1, 0, none⟩ = some (.int .u8 0) := CB.cell r17_r 0
      have z18_r0 : u16.frozen? ⟨w.heap.size + 1 + 1, 0, none⟩ = false := CB.frozen r17_r 0
      have f18_r1 : u16.cell? ⟨w.heap.size + 1 + 1, 1, none⟩ = some (.int .i64 0) := CB.cell r17_r 1
      have z18_r1 : u16.frozen? ⟨w.heap.size + 1 + 1, 1, none⟩ = false := CB.frozen r17_r 1
      have f18_r2 : u16.cell? ⟨w.heap.size + 1 + 1, 2, none⟩ = some (.int .i64 0) := CB.cell r17_r 2
      have z18_r2 : u16.frozen? ⟨w.heap.size + 1 + 1, 2, none⟩ = false := CB.frozen r17_r 2
      have f18_r3 : u16.cell? ⟨w.heap.size + 1 + 1, 3, none⟩ = some (.int .u8 0) := CB.cell r17_r 3
      have z18_r3 : u16.frozen? ⟨w.heap.size + 1 + 1, 3, none⟩ = false := CB.frozen r17_r 3
      have f18_r4 : u16.cell? ⟨w.heap.size + 1 + 1, 4, none⟩ = some (.string ⟨#[]⟩) := CB.cell r17_r 4
      have z18_r4 : u16.frozen? ⟨w.heap.size + 1 + 1, 4, none⟩ = false := CB.frozen r17_r 4
      have f18_r5 : u16.cell? ⟨w.heap.size + 1 + 1, 5, none⟩ = some (.bool false) := CB.cell r17_r 5
      have z18_r5 : u16.frozen? ⟨w.heap.size + 1 + 1, 5, none⟩ = false := CB.frozen r17_r 5
      obtain ⟨V19, hV19⟩ : ∃ V, (((((u16.setCell ⟨w.heap.size + 1 + 1, 0, none⟩ (.int .u8 me)).setCell ⟨w.heap.size + 1 + 1, 1, none⟩ (.int .i64 e)).setCell ⟨w.heap.size + 1 + 1, 2, none⟩ (.int .i64 1)).setCell ⟨w.heap.size + 1 + 1, 3, none⟩ (.int .u8 0)).setCell ⟨w.heap.size + 1 + 1, 4, none⟩ (.string mg)).setCell ⟨w.heap.size + 1 + 1, 5, none⟩ (.bool false) = V := ⟨_, rfl⟩
      have nV19 : CB V19 (w.heap.size + 1 + 1) 45 #[.int .u8 me, .int .i64 e, .int .i64 1, .int .u8 0, .string mg, .bool false] := by rw [← hV19]; exact cb_cast (CB.put (CB.put (CB.put (CB.put (CB.put (CB.put r17_r 0 (.int .u8 me)) 1 (.int .i64 e)) 2 (.int .i64 1)) 3 (.int .u8 0)) 4 (.string mg)) 5 (.bool false)) (by kernel_rfl)
      have mV19_s : CB V19 (w.heap.size) 45 #[.int .u8 me, .int .i64 e, .int .i64 1, .int .u8 0, .string mg, .bool false] := by rw [← hV19]; exact (CB.far (CB.far (CB.far (CB.far (CB.far (CB.far r17_s (p := ⟨w.heap.size + 1 + 1, 0, none⟩) neW1_02 (.int .u8 me)) (p := ⟨w.heap.size + 1 + 1, 1, none⟩) neW1_02 (.int .i64 e)) (p := ⟨w.heap.size + 1 + 1, 2, none⟩) neW1_02 (.int .i64 1)) (p := ⟨w.heap.size + 1 + 1, 3, none⟩) neW1_02 (.int .u8 0)) (p := ⟨w.heap.size + 1 + 1, 4, none⟩) neW1_02 (.string mg)) (p := ⟨w.heap.size + 1 + 1, 5, none⟩) neW1_02 (.bool false))
      have mV19_m : CB V19 (w.heap.size + 1) 68 #[.int .i64 kd, .int .u8 fr, .int .u8 t, .int .i64 e, .string mg] := by rw [← hV19]; exact (CB.far (CB.far (CB.far (CB.far (CB.far (CB.far r17_m (p := ⟨w.heap.size + 1 + 1, 0, none⟩) neW1_12 (.int .u8 me)) (p := ⟨w.heap.size + 1 + 1, 1, none⟩) neW1_12 (.int .i64 e)) (p := ⟨w.heap.size + 1 + 1, 2, none⟩) neW1_12 (.int .i64 1)) (p := ⟨w.heap.size + 1 + 1, 3, none⟩) neW1_12 (.int .u8 0)) (p := ⟨w.heap.size + 1 + 1, 4, none⟩) neW1_12 (.string mg)) (p := ⟨w.heap.size + 1 + 1, 5, none⟩) neW1_12 (.bool false))
      have mV19_l : CB V19 (w2.heap.size) 43 #[.int .i64 e, .int .i64 1, .int .u8 0] := by rw [← hV19]; exact (CB.far (CB.far (CB.far (CB.far (CB.far (CB.far r17_l (p := ⟨w.heap.size + 1 + 1, 0, none⟩) (Ne.symm neW4_r) (.int .u8 me)) (p := ⟨w.heap.size + 1 + 1, 1, none⟩) (Ne.symm neW4_r) (.int .i64 e)) (p := ⟨w.heap.size + 1 + 1, 2, none⟩) (Ne.symm neW4_r) (.int .i64 1)) (p := ⟨w.heap.size + 1 + 1, 3, none⟩) (Ne.symm neW4_r) (.int .u8 0)) (p := ⟨w.heap.size + 1 + 1, 4, none⟩) (Ne.symm neW4_r) (.string mg)) (p := ⟨w.heap.size + 1 + 1, 5, none⟩) (Ne.symm neW4_r) (.bool false))
      have oV19 := (Below.setCell (Below.setCell (Below.setCell (Below.setCell (Below.setCell (Below.setCell l17 (p := ⟨w.heap.size + 1 + 1, 0, none⟩) (by dsimp only; omega) (.int .u8 me)) (p := ⟨w.heap.size + 1 + 1, 1, none⟩) (by dsimp only; omega) (.int .i64 e)) (p := ⟨w.heap.size + 1 + 1, 2, none⟩) (by dsimp only; omega) (.int .i64 1)) (p := ⟨w.heap.size + 1 + 1, 3, none⟩) (by dsimp only; omega) (.int .u8 0)) (p := ⟨w.heap.size + 1 + 1, 4, none⟩) (by dsimp only; omega) (.string mg)) (p := ⟨w.heap.size + 1 + 1, 5, none⟩) (by dsimp only; omega) (.bool false))
      rw [hV19] at oV19
      have HV19 := Lib.hid hV19
      clear hV19
      clear r17_r r17_s r17_m r17_l l17
      rw [HV19.out]
      clear f18_r0 z18_r0 f18_r1 z18_r1 f18_r2 z18_r2 f18_r3 z18_r3 f18_r4 z18_r4 f18_r5 z18_r5
      have y20 := Lib.hid (show (fun V : World => V.cell? ⟨w.heap.size, 0, none⟩ = some (.int .u8 me) ∧ V.cell? ⟨w.heap.size, 1, none⟩ = some (.int .i64 e) ∧ V.cell? ⟨w.heap.size, 2, none⟩ = some (.int .i64 1) ∧ V.cell? ⟨w.heap.size, 3, none⟩ = some (.int .u8 0) ∧ V.cell? ⟨w.heap.size, 4, none⟩ = some (.string mg) ∧ V.cell? ⟨w.heap.size, 5, none⟩ = some (.bool false) ∧ V.cell? ⟨w.heap.size + 1, 0, none⟩ = some (.int .i64 kd) ∧ V.cell? ⟨w.heap.size + 1, 1, none⟩ = some (.int .u8 fr) ∧ V.cell? ⟨w.heap.size + 1, 2, none⟩ = some (.int .u8 t) ∧ V.cell? ⟨w.heap.size + 1, 3, none⟩ = some (.int .i64 e) ∧ V.cell? ⟨w.heap.size + 1, 4, none⟩ = some (.string mg)) V19 from ⟨CB.cell mV19_s 0, CB.cell mV19_s 1, CB.cell mV19_s 2, CB.cell mV19_s 3, CB.cell mV19_s 4, CB.cell mV19_s 5, CB.cell mV19_m 0, CB.cell mV19_m 1, CB.cell mV19_m 2, CB.cell mV19_m 3, CB.cell mV19_m 4⟩)
      refine hK.out _ _ y20.out (fun hHeld => ?_)
      clear hK K y20
      try simp only [Act.put, List.setIfInBounds_toArray, List.set_cons_zero, List.set_cons_succ]
      refine wpAnyH_ready (rs := [7]) (by kernel_rfl) (by simp) ?_
      refine AllReadyH.cons rfl (fun K hK => ?_) AllReadyH.nil
      go_simp
      go_wp2_with fail
      have av_z : w.heap.size ≤ V19.heap.size := by have := oV19.size; omega
      obtain ⟨W21, hW21⟩ : ∃ V, V19.alloc (.cells #[.int .i64 4, .int .u8 me, .int .u8 fr, .int .i64 e, .string ⟨#[]⟩] 68) = V := ⟨_, rfl⟩
      have zW21 : V19.heap.size = V19.heap.size := by rfl
      have nW21 : CB W21 (V19.heap.size) 68 #[.int .i64 4, .int .u8 me, .int .u8 fr, .int .i64 e, .string ⟨#[]⟩] := by rw [← zW21, ← hW21]; exact CB.new _ _ _
      have bW21 : Below V19.heap.size V19 W21 := by rw [← hW21]; exact le_al _ _
      have neW21_s : w.heap.size ≠ V19.heap.size := by have := CB.lt mV19_s; omega
      have neW21_m : w.heap.size + 1 ≠ V19.heap.size := by have := CB.lt mV19_m; omega
      have neW21_r : w.heap.size + 1 + 1 ≠ V19.heap.size := by have := CB.lt nV19; omega
      have neW21_l : w2.heap.size ≠ V19.heap.size := by have := CB.lt mV19_l; omega
      have HW21 := Lib.hid hW21
      clear hW21 zW21
      have r22_s := le_on mV19_s bW21
      have r22_m := le_on mV19_m bW21
      have r22_r := le_on nV19 bW21
      have r22_l := le_on mV19_l bW21
      have l22 := le_tr oV19 bW21
      clear mV19_s mV19_m nV19 mV19_l oV19
      clear bW21
      rw [HW21.out]
      have y23 := Lib.hid (show (fun V : World => V.cell? ⟨w.heap.size, 0, none⟩ = some (.int .u8 me) ∧ V.cell? ⟨w.heap.size, 1, none⟩ = some (.int .i64 e) ∧ V.cell? ⟨w.heap.size, 2, none⟩ = some (.int .i64 1) ∧ V.cell? ⟨w.heap.size, 3, none⟩ = some (.int .u8 0) ∧ V.cell? ⟨w.heap.size, 4, none⟩ = some (.string mg) ∧ V.cell? ⟨w.heap.size, 5, none⟩ = some (.bool false) ∧ V.cell? ⟨w.heap.size + 1, 0, none⟩ = some (.int .i64 kd) ∧ V.cell? ⟨w.heap.size + 1, 1, none⟩ = some (.int .u8 fr) ∧ V.cell? ⟨w.heap.size + 1, 2, none⟩ = some (.int .u8 t) ∧ V.cell? ⟨w.heap.size + 1, 3, none⟩ = some (.int .i64 e) ∧ V.cell? ⟨w.heap.size + 1, 4, none⟩ = some (.string mg)) W21 from ⟨CB.cell r22_s 0, CB.cell r22_s 1, CB.cell r22_s 2, CB.cell r22_s 3, CB.cell r22_s 4, CB.cell r22_s 5, CB.cell r22_m 0, CB.cell r22_m 1, CB.cell r22_m 2, CB.cell r22_m 3, CB.cell r22_m 4⟩)
      refine hK.out _ _ y23.out (fun hHeld => ?_)
      clear hK K y23
      try simp only [Act.put, List.setIfInBounds_toArray, List.set_cons_zero, List.set_cons_succ]
      refine wpAnyH_takeL (i := 9) (d := some 5) (v := .slice (some ⟨V19.heap.size, 0, none⟩) 1 1) rfl rfl (by kernel_rfl) (by kernel_rfl) (by kernel_rfl) (fun _ _ _ h => h) (Or.inl ⟨by rfl, ?_⟩) hHeld ?_
      · intro w hSw; (try dsimp only at hSw); go_simp
      try simp only [Act.put, List.setIfInBounds_toArray, List.set_cons_zero, List.set_cons_succ]
      refine wpAnyH_takeL (i := 10) (d := some 6) (v := .int .i64 0) rfl rfl (by kernel_rfl) (by kernel_rfl) (by kernel_rfl) (fun _ _ _ h => h) (Or.inl ⟨by rfl, ?_⟩) hHeld ?_
      · intro w hSw; (try dsimp only at hSw); go_simp
      try simp only [Act.put, List.setIfInBounds_toArray, List.set_cons_zero, List.set_cons_succ]
      refine wpAnyH_done (by kernel_rfl) ?_ _
      go_wp2_with fail
      have x_r0 : W21.cell? ⟨w.heap.size + 1 + 1, 0, none⟩ = some (.int .u8 me) := CB.cell r22_r 0
      have x_r1 : W21.cell? ⟨w.heap.size + 1 + 1, 1, none⟩ = some (.int .i64 e) := CB.cell r22_r 1
      have x_r2 : W21.cell? ⟨w.heap.size + 1 + 1, 2, none⟩ = some (.int .i64 1) := CB.cell r22_r 2
      have x_r3 : W21.cell? ⟨w.heap.size + 1 + 1, 3, none⟩ = some (.int .u8 0) := CB.cell r22_r 3
      have x_r4 : W21.cell? ⟨w.heap.size + 1 + 1, 4, none⟩ = some (.string mg) := CB.cell r22_r 4
      have x_r5 : W21.cell? ⟨w.heap.size + 1 + 1, 5, none⟩ = some (.bool false) := CB.cell r22_r 5
      exact bodyPost_ret (v := .tuple #[.agg #[.int .u8 me, .int .i64 e, .int .i64 1, .int .u8 0, .string mg, .bool false], .slice (some ⟨V19.heap.size, 0, none⟩) 1 1, .int .i64 0]) (by simp [results, Try.results49, go_sem, x_r0, x_r1, x_r2, x_r3, x_r4, x_r5]) rfl (HPost.mk' me e 1 0 mg false 0 _ H.out (RS.of_cbm nW21) l22)
  · obtain ⟨k, hk, hk0⟩ : ∃ k : Nat, eTakeL ⟨ep, st, to⟩ e = k ∧ k ≠ 0 := by
      unfold eTakeL
      rw [hrt, he]
      simp only [Bool.true_eq_false, or_self, if_false]
      split
      · exact ⟨8, rfl, by decide⟩
      · rw [if_pos (by omega)]; exact ⟨10, rfl, by decide⟩
    have hsl : sTakeL ⟨ep, st, to⟩ e = ⟨ep, st, to⟩ := by unfold sTakeL; rw [if_neg (by rw [hk]; exact hk0)]
    simp only [hk, hsl] at T1
    have hkk : ((k : Int) == 0) = false := by simp; omega
    have H := Lib.hid (show giveM ⟨me, ⟨ep, st, to⟩, cg, kp⟩ ⟨kd, fr, t, e, mg⟩ = ⟨⟨me, ⟨ep, st, to⟩, cg, kp⟩, [⟨4, me, fr, e, ⟨#[]⟩⟩], 0⟩ by unfold giveM; simp [hlt])
    clear hk hsl hlt hrt he hs hm hk0
    obtain ⟨W1, hW1⟩ : ∃ V, ((w.alloc (.cells #[.int .u8 me, .int .i64 ep, .int .i64 st, .int .u8 to, .string cg, .bool kp] 45)).alloc (.cells #[.int .i64 kd, .int .u8 fr, .int .u8 t, .int .i64 e, .string mg] 68)).alloc (.cells #[.int .u8 0, .int .i64 0, .int .i64 0, .int .u8 0, .string ⟨#[]⟩, .bool false] 45) = V := ⟨_, rfl⟩
    have nW1_s : CB W1 (w.heap.size) 45 #[.int .u8 me, .int .i64 ep, .int .i64 st, .int .u8 to, .string cg, .bool kp] := by
      rw [← hW1]
      have := (((CB.new w 45 #[.int .u8 me, .int .i64 ep, .int .i64 st, .int .u8 to, .string cg, .bool kp]).alloc (.cells #[.int .i64 kd, .int .u8 fr, .int .u8 t, .int .i64 e, .string mg] 68)).alloc (.cells #[.int .u8 0, .int .i64 0, .int .i64 0, .int .u8 0, .string ⟨#[]⟩, .bool false] 45))
      simpa using this
    have nW1_m : CB W1 (w.heap.size + 1) 68 #[.int .i64 kd, .int .u8 fr, .int .u8 t, .int .i64 e, .string mg] := by
      rw [← hW1]
      have := ((CB.new (w.alloc (.cells #[.int .u8 me, .int .i64 ep, .int .i64 st, .int .u8 to, .string cg, .bool kp] 45)) 68 #[.int .i64 kd, .int .u8 fr, .int .u8 t, .int .i64 e, .string mg]).alloc (.cells #[.int .u8 0, .int .i64 0, .int .i64 0, .int .u8 0, .string ⟨#[]⟩, .bool false] 45))
      simpa using this
    have nW1_r : CB W1 (w.heap.size + 1 + 1) 45 #[.int .u8 0, .int .i64 0, .int .i64 0, .int .u8 0, .string ⟨#[]⟩, .bool false] := by
      rw [← hW1]
      have := (CB.new ((w.alloc (.cells #[.int .u8 me, .int .i64 ep, .int .i64 st, .int .u8 to, .string cg, .bool kp] 45)).alloc (.cells #[.int .i64 kd, .int .u8 fr, .int .u8 t, .int .i64 e, .string mg] 68)) 45 #[.int .u8 0, .int .i64 0, .int .i64 0, .int .u8 0, .string ⟨#[]⟩, .bool false])
      simpa using this
    have neW1_01 : w.heap.size ≠ w.heap.size + 1 := by omega
    have neW1_02 : w.heap.size ≠ w.heap.size + 1 + 1 := by omega
    have neW1_12 : w.heap.size + 1 ≠ w.heap.size + 1 + 1 := by omega
    have lW1 : Below w.heap.size w W1 := by rw [← hW1]; exact le_tr (le_tr (le_al _ _) (le_al _ _)) (le_al _ _)
    have HW1 := Lib.hid hW1
    clear hW1
    go_enter Try.func49, Try.ntmps49
    go_wp2_with fail
    rw [HW1.out]
    refine (T1 _).mono ?_
    rintro e w2 ⟨rfl, b2⟩
    have r3_s := le_on nW1_s b2
    have r3_m := le_on nW1_m b2
    have r3_r := le_on nW1_r b2
    have l3 := le_tr lW1 b2
    clear nW1_s nW1_m nW1_r lW1
    clear b2
    have av_l : w.heap.size ≤ w2.heap.size := by have := l3.size; omega
    obtain ⟨W4, hW4⟩ : ∃ V, w2.alloc (.cells #[.int .i64 ep, .int .i64 st, .int .u8 to] 43) = V := ⟨_, rfl⟩
    have zW4 : w2.heap.size = w2.heap.size := by rfl
    have nW4 : CB W4 (w2.heap.size) 43 #[.int .i64 ep, .int .i64 st, .int .u8 to] := by rw [← zW4, ← hW4]; exact CB.new _ _ _
    have bW4 : Below w2.heap.size w2 W4 := by rw [← hW4]; exact le_al _ _
    have neW4_s : w.heap.size ≠ w2.heap.size := by have := CB.lt r3_s; omega
    have neW4_m : w.heap.size + 1 ≠ w2.heap.size := by have := CB.lt r3_m; omega
    have neW4_r : w.heap.size + 1 + 1 ≠ w2.heap.size := by have := CB.lt r3_r; omega
    have HW4 := Lib.hid hW4
    clear hW4 zW4
    have r5_s := le_on r3_s bW4
    have r5_m := le_on r3_m bW4
    have r5_r := le_on r3_r bW4
    have l5 := le_tr l3 bW4
    clear r3_s r3_m r3_r l3
    clear bW4
    have f5_s0 : (w2.alloc (.cells #[.int .i64 ep, .int .i64 st, .int .u8 to] 43)).cell? ⟨w.heap.size, 0, none⟩ = some (.int .u8 me) := by rw [HW4.out]; exact CB.cell r5_s 0
    have f5_s1 : (w2.alloc (.cells #[.int .i64 ep, .int .i64 st, .int .u8 to] 43)).cell? ⟨w.heap.size, 1, none⟩ = some (.int .i64 ep) := by rw [HW4.out]; exact CB.cell r5_s 1
    have f5_s2 : (w2.alloc (.cells #[.int .i64 ep, .int .i64 st, .int .u8 to] 43)).cell? ⟨w.heap.size, 2, none⟩ = some (.int .i64 st) := by rw [HW4.out]; exact CB.cell r5_s 2
    have f5_s3 : (w2.alloc (.cells #[.int .i64 ep, .int .i64 st, .int .u8 to] 43)).cell? ⟨w.heap.size, 3, none⟩ = some (.int .u8 to) := by rw [HW4.out]; exact CB.cell r5_s 3
    have f5_s4 : (w2.alloc (.cells #[.int .i64 ep, .int .i64 st, .int .u8 to] 43)).cell? ⟨w.heap.size, 4, none⟩ = some (.string cg) := by rw [HW4.out]; exact CB.cell r5_s 4
    have f5_s5 : (w2.alloc (.cells #[.int .i64 ep, .int .i64 st, .int .u8 to] 43)).cell? ⟨w.heap.size, 5, none⟩ = some (.bool kp) := by rw [HW4.out]; exact CB.cell r5_s 5
    have f5_m0 : (w2.alloc (.cells #[.int .i64 ep, .int .i64 st, .int .u8 to] 43)).cell? ⟨w.heap.size + 1, 0, none⟩ = some (.int .i64 kd) := by rw [HW4.out]; exact CB.cell r5_m 0
    have f5_m1 : (w2.alloc (.cells #[.int .i64 ep, .int .i64 st, .int .u8 to] 43)).cell? ⟨w.heap.size + 1, 1, none⟩ = some (.int .u8 fr) := by rw [HW4.out]; exact CB.cell r5_m 1
    have f5_m2 : (w2.alloc (.cells #[.int .i64 ep, .int .i64 st, .int .u8 to] 43)).cell? ⟨w.heap.size + 1, 2, none⟩ = some (.int .u8 t) := by rw [HW4.out]; exact CB.cell r5_m 2
    have f5_m3 : (w2.alloc (.cells #[.int .i64 ep, .int .i64 st, .int .u8 to] 43)).cell? ⟨w.heap.size + 1, 3, none⟩ = some (.int .i64 e) := by rw [HW4.out]; exact CB.cell r5_m 3
    have f5_m4 : (w2.alloc (.cells #[.int .i64 ep, .int .i64 st, .int .u8 to] 43)).cell? ⟨w.heap.size + 1, 4, none⟩ = some (.string mg) := by rw [HW4.out]; exact CB.cell r5_m 4
    have f5_l0 : (w2.alloc (.cells #[.int .i64 ep, .int .i64 st, .int .u8 to] 43)).cell? ⟨w2.heap.size, 0, none⟩ = some (.int .i64 ep) := by rw [HW4.out]; exact CB.cell nW4 0
    have f5_l1 : (w2.alloc (.cells #[.int .i64 ep, .int .i64 st, .int .u8 to] 43)).cell? ⟨w2.heap.size, 1, none⟩ = some (.int .i64 st) := by rw [HW4.out]; exact CB.cell nW4 1
    have f5_l2 : (w2.alloc (.cells #[.int .i64 ep, .int .i64 st, .int .u8 to] 43)).cell? ⟨w2.heap.size, 2, none⟩ = some (.int .u8 to) := by rw [HW4.out]; exact CB.cell nW4 2
    go_wp2_with fail
    rw [HW4.out]
    clear f5_s0 f5_s1 f5_s2 f5_s3 f5_s4 f5_s5 f5_m0 f5_m1 f5_m2 f5_m3 f5_m4 f5_l0 f5_l1 f5_l2
    have f5_s0 : W4.cell? ⟨w.heap.size, 0, none⟩ = some (.int .u8 me) := CB.cell r5_s 0
    have f5_s1 : W4.cell? ⟨w.heap.size, 1, none⟩ = some (.int .i64 ep) := CB.cell r5_s 1
    have f5_s2 : W4.cell? ⟨w.heap.size, 2, none⟩ = some (.int .i64 st) := CB.cell r5_s 2
    have f5_s3 : W4.cell? ⟨w.heap.size, 3, none⟩ = some (.int .u8 to) := CB.cell r5_s 3
    have f5_s4 : W4.cell? ⟨w.heap.size, 4, none⟩ = some (.string cg) := CB.cell r5_s 4
    have f5_s5 : W4.cell? ⟨w.heap.size, 5, none⟩ = some (.bool kp) := CB.cell r5_s 5
    have f5_m0 : W4.cell? ⟨w.heap.size + 1, 0, none⟩ = some (.int .i64 kd) := CB.cell r5_m 0
    have f5_m1 : W4.cell? ⟨w.heap.size + 1, 1, none⟩ = some (.int .u8 fr) := CB.cell r5_m 1
    have f5_m2 : W4.cell? ⟨w.heap.size + 1, 2, none⟩ = some (.int .u8 t) := CB.cell r5_m 2
    have f5_m3 : W4.cell? ⟨w.heap.size + 1, 3, none⟩ = some (.int .i64 e) := CB.cell r5_m 3
    have f5_m4 : W4.cell? ⟨w.heap.size + 1, 4, none⟩ = some (.string mg) := CB.cell r5_m 4
    clear f5_s0 f5_s1 f5_s2 f5_s3 f5_s4 f5_s5 f5_m0 f5_m1 f5_m2 f5_m3 f5_m4
    have y6 := Lib.hid (show (fun V : World => V.cell? ⟨w.heap.size, 0, none⟩ = some (.int .u8 me) ∧ V.cell? ⟨w.heap.size, 1, none⟩ = some (.int .i64 ep) ∧ V.cell? ⟨w.heap.size, 2, none⟩ = some (.int .i64 st) ∧ V.cell? ⟨w.heap.size, 3, none⟩ = some (.int .u8 to) ∧ V.cell? ⟨w.heap.size, 4, none⟩ = some (.string cg) ∧ V.cell? ⟨w.heap.size, 5, none⟩ = some (.bool kp) ∧ V.cell? ⟨w.heap.size + 1, 0, none⟩ = some (.int .i64 kd) ∧ V.cell? ⟨w.heap.size + 1, 1, none⟩ = some (.int .u8 fr) ∧ V.cell? ⟨w.heap.size + 1, 2, none⟩ = some (.int .u8 t) ∧ V.cell? ⟨w.heap.size + 1, 3, none⟩ = some (.int .i64 e) ∧ V.cell? ⟨w.heap.size + 1, 4, none⟩ = some (.string mg)) W4 from ⟨CB.cell r5_s 0, CB.cell r5_s 1, CB.cell r5_s 2, CB.cell r5_s 3, CB.cell r5_s 4, CB.cell r5_s 5, CB.cell r5_m 0, CB.cell r5_m 1, CB.cell r5_m 2, CB.cell r5_m 3, CB.cell r5_m 4⟩)
    refine wp_region_held_drew (S := (fun V : World => V.cell? ⟨w.heap.size, 0, none⟩ = some (.int .u8 me) ∧ V.cell? ⟨w.heap.size, 1, none⟩ = some (.int .i64 ep) ∧ V.cell? ⟨w.heap.size, 2, none⟩ = some (.int .i64 st) ∧ V.cell? ⟨w.heap.size, 3, none⟩ = some (.int .u8 to) ∧ V.cell? ⟨w.heap.size, 4, none⟩ = some (.string cg) ∧ V.cell? ⟨w.heap.size, 5, none⟩ = some (.bool kp) ∧ V.cell? ⟨w.heap.size + 1, 0, none⟩ = some (.int .i64 kd) ∧ V.cell? ⟨w.heap.size + 1, 1, none⟩ = some (.int .u8 fr) ∧ V.cell? ⟨w.heap.size + 1, 2, none⟩ = some (.int .u8 t) ∧ V.cell? ⟨w.heap.size + 1, 3, none⟩ = some (.int .i64 e) ∧ V.cell? ⟨w.heap.size + 1, 4, none⟩ = some (.string mg))) (by kernel_rfl) y6.out (fun hHeld => ?_)
    obtain ⟨D6, hD6⟩ : ∃ V, W4.drew = V := ⟨_, rfl⟩
    have b6 : Below W4.heap.size W4 D6 := by rw [← hD6]; exact le_dr (Below.refl _ _)
    rw [hD6] at hHeld ⊢
    clear hD6
    have r7_s := le_on r5_s b6
    have r7_m := le_on r5_m b6
    have r7_r := le_on r5_r b6
    have r7_l := le_on nW4 b6
    have l7 := le_tr l5 b6
    clear r5_s r5_m r5_r nW4 l5
    clear b6
    refine wpAnyH_takeL (i := 0) (d := some 25) (v := .agg #[.int .u8 me, .int .i64 ep, .int .i64 st, .int .u8 to, .string cg, .bool kp]) rfl rfl (by kernel_rfl) (by kernel_rfl) (by kernel_rfl) (fun _ _ _ h => h) (Or.inl ⟨by rfl, ?_⟩) hHeld ?_
    · intro w hSw; (try dsimp only at hSw); go_simp
    try simp only [Act.put, List.setIfInBounds_toArray, List.set_cons_zero, List.set_cons_succ]
    refine wpAnyH_takeL (i := 1) (d := some 26) (v := .agg #[.int .u8 me, .int .i64 ep, .int .i64 st, .int .u8 to, .string cg, .bool kp]) rfl rfl (by kernel_rfl) (by kernel_rfl) (by kernel_rfl) (fun _ _ _ h => h) (Or.inl ⟨by rfl, ?_⟩) hHeld ?_
    · intro w hSw; (try dsimp only at hSw); go_simp
    try simp only [Act.put, List.setIfInBounds_toArray, List.set_cons_zero, List.set_cons_succ]
    refine wpAnyH_takeL (i := 2) (d := some 27) (v := .pointer (some ⟨w.heap.size + 1, 1, none⟩)) rfl rfl (by kernel_rfl) (by kernel_rfl) (by kernel_rfl) (fun _ _ _ h => h) (Or.inl ⟨by rfl, ?_⟩) hHeld ?_
    · intro w hSw; (try dsimp only at hSw); go_simp
    try simp only [Act.put, List.setIfInBounds_toArray, List.set_cons_zero, List.set_cons_succ]
    refine wpAnyH_takeL (i := 3) (d := some 28) (v := .int .u8 fr) rfl rfl (by kernel_rfl) (by kernel_rfl) (by kernel_rfl) (fun _ _ _ h => h) (Or.inl ⟨by rfl, ?_⟩) hHeld ?_
    · intro w hSw; (try dsimp only at hSw); go_simp
    try simp only [Act.put, List.setIfInBounds_toArray, List.set_cons_zero, List.set_cons_succ]
    refine wpAnyH_takeL (i := 4) (d := some 29) (v := .pointer (some ⟨w.heap.size + 1, 3, none⟩)) rfl rfl (by kernel_rfl) (by kernel_rfl) (by kernel_rfl) (fun _ _ _ h => h) (Or.inl ⟨by rfl, ?_⟩) hHeld ?_
    · intro w hSw; (try dsimp only at hSw); go_simp
    try simp only [Act.put, List.setIfInBounds_toArray, List.set_cons_zero, List.set_cons_succ]
    refine wpAnyH_takeL (i := 5) (d := some 30) (v := .int .i64 e) rfl rfl (by kernel_rfl) (by kernel_rfl) (by kernel_rfl) (fun _ _ _ h => h) (Or.inl ⟨by rfl, ?_⟩) hHeld ?_
    · intro w hSw; (try dsimp only at hSw); go_simp
    try simp only [Act.put, List.setIfInBounds_toArray, List.set_cons_zero, List.set_cons_succ]
    refine wpAnyH_ready (rs := [6]) (by kernel_rfl) (by simp) ?_
    refine AllReadyH.cons rfl (fun K hK => ?_) AllReadyH.nil
    go_simp
    refine (say_c (me) (ep) (st) (to) (cg) (kp) 4 fr e _).mono ?_
    rintro e u8 ⟨rfl, b8⟩
    have r9_s := le_on r7_s b8
    have r9_m := le_on r7_m b8
    have r9_r := le_on r7_r b8
    have r9_l := le_on r7_l b8
    have l9 := le_tr l7 b8
    clear r7_s r7_m r7_r r7_l l7
    clear b8
    go_wp2_with fail
    have y10 := Lib.hid (show (fun V : World => V.cell? ⟨w.heap.size, 0, none⟩ = some (.int .u8 me) ∧ V.cell? ⟨w.heap.size, 1, none⟩ = some (.int .i64 ep) ∧ V.cell? ⟨w.heap.size, 2, none⟩ = some (.int .i64 st) ∧ V.cell? ⟨w.heap.size, 3, none⟩ = some (.int .u8 to) ∧ V.cell? ⟨w.heap.size, 4, none⟩ = some (.string cg) ∧ V.cell? ⟨w.heap.size, 5, none⟩ = some (.bool kp) ∧ V.cell? ⟨w.heap.size + 1, 0, none⟩ = some (.int .i64 kd) ∧ V.cell? ⟨w.heap.size + 1, 1, none⟩ = some (.int .u8 fr) ∧ V.cell? ⟨w.heap.size + 1, 2, none⟩ = some (.int .u8 t) ∧ V.cell? ⟨w.heap.size + 1, 3, none⟩ = some (.int .i64 e) ∧ V.cell? ⟨w.heap.size + 1, 4, none⟩ = some (.string mg)) u8 from ⟨CB.cell r9_s 0, CB.cell r9_s 1, CB.cell r9_s 2, CB.cell r9_s 3, CB.cell r9_s 4, CB.cell r9_s 5, CB.cell r9_m 0, CB.cell r9_m 1, CB.cell r9_m 2, CB.cell r9_m 3, CB.cell r9_m 4⟩)
    refine hK.out _ _ y10.out (fun hHeld => ?_)
    clear hK K y10
    try simp only [Act.put, List.setIfInBounds_toArray, List.set_cons_zero, List.set_cons_succ]
    refine wpAnyH_ready (rs := [7, 8]) (by kernel_rfl) (by simp) ?_
    refine AllReadyH.cons rfl (fun K hK => ?_) (AllReadyH.cons rfl (fun K hK => ?_) AllReadyH.nil)
    · skip
      go_simp
      go_wp2_with fail
      have av_z : w.heap.size ≤ u8.heap.size := by have := l9.size; omega
      obtain ⟨W11, hW11⟩ : ∃ V, u8.alloc (.cells #[.int .i64 4, .int .u8 me, .int .u8 fr, .int .i64 e, .string ⟨#[]⟩] 68) = V := ⟨_, rfl⟩
      have zW11 : u8.heap.size = u8.heap.size := by rfl
      have nW11 : CB W11 (u8.heap.size) 68 #[.int .i64 4, .int .u8 me, .int .u8 fr, .int .i64 e, .string ⟨#[]⟩] := by rw [← zW11, ← hW11]; exact CB.new _ _ _
      have bW11 : Below u8.heap.size u8 W11 := by rw [← hW11]; exact le_al _ _
      have neW11_s : w.heap.size ≠ u8.heap.size := by have := CB.lt r9_s; omega
      have neW11_m : w.heap.size + 1 ≠ u8.heap.size := by have := CB.lt r9_m; omega
      have neW11_r : w.heap.size + 1 + 1 ≠ u8.heap.size := by have := CB.lt r9_r; omega
      have neW11_l : w2.heap.size ≠ u8.heap.size := by have := CB.lt r9_l; omega
      have HW11 := Lib.hid hW11
      clear hW11 zW11
      have r12_s := le_on r9_s bW11
      have r12_m := le_on r9_m bW11
      have r12_r := le_on r9_r bW11
      have r12_l := le_on r9_l bW11
      have l12 := le_tr l9 bW11
      clear r9_s r9_m r9_r r9_l l9
      clear bW11
      rw [HW11.out]
      have y13 := Lib.hid (show (fun V : World => V.cell? ⟨w.heap.size, 0, none⟩ = some (.int .u8 me) ∧ V.cell? ⟨w.heap.size, 1, none⟩ = some (.int .i64 ep) ∧ V.cell? ⟨w.heap.size, 2, none⟩ = some (.int .i64 st) ∧ V.cell? ⟨w.heap.size, 3, none⟩ = some (.int .u8 to) ∧ V.cell? ⟨w.heap.size, 4, none⟩ = some (.string cg) ∧ V.cell? ⟨w.heap.size, 5, none⟩ = some (.bool kp) ∧ V.cell? ⟨w.heap.size + 1, 0, none⟩ = some (.int .i64 kd) ∧ V.cell? ⟨w.heap.size + 1, 1, none⟩ = some (.int .u8 fr) ∧ V.cell? ⟨w.heap.size + 1, 2, none⟩ = some (.int .u8 t) ∧ V.cell? ⟨w.heap.size + 1, 3, none⟩ = some (.int .i64 e) ∧ V.cell? ⟨w.heap.size + 1, 4, none⟩ = some (.string mg)) W11 from ⟨CB.cell r12_s 0, CB.cell r12_s 1, CB.cell r12_s 2, CB.cell r12_s 3, CB.cell r12_s 4, CB.cell r12_s 5, CB.cell r12_m 0, CB.cell r12_m 1, CB.cell r12_m 2, CB.cell r12_m 3, CB.cell r12_m 4⟩)
      refine hK.out _ _ y13.out (fun hHeld => ?_)
      clear hK K y13
      try simp only [Act.put, List.setIfInBounds_toArray, List.set_cons_zero, List.set_cons_succ]
      refine wpAnyH_ready (rs := [8]) (by kernel_rfl) (by simp) ?_
      refine AllReadyH.cons rfl (fun K hK => ?_) AllReadyH.nil
      have f13_r0 : W11.cell? ⟨w.heap.size + 1 + 1, 0, none⟩ = some (.int .u8 0) := CB.cell r12_r 0
      have z13_r0 : W11.frozen? ⟨w.heap.size + 1 + 1, 0, none⟩ = false := CB.frozen r12_r 0
      have f13_r1 : W11.cell? ⟨w.heap.size + 1 + 1, 1, none⟩ = some (.int .i64 0) := CB.cell r12_r 1
      have z13_r1 : W11.frozen? ⟨w.heap.size + 1 + 1, 1, none⟩ = false := CB.frozen r12_r 1
      have f13_r2 : W11.cell? ⟨w.heap.size + 1 + 1, 2, none⟩ = some (.int .i64 0) := CB.cell r12_r 2
      have z13_r2 : W11.frozen? ⟨w.heap.size + 1 + 1, 2, none⟩ = false := CB.frozen r12_r 2
      have f13_r3 : W11.cell? ⟨w.heap.size + 1 + 1, 3, none⟩ = some (.int .u8 0) := CB.cell r12_r 3
      have z13_r3 : W11.frozen? ⟨w.heap.size + 1 + 1, 3, none⟩ = false := CB.frozen r12_r 3
      have f13_r4 : W11.cell? ⟨w.heap.size + 1 + 1, 4, none⟩ = some (.string ⟨#[]⟩) := CB.cell r12_r 4
      have z13_r4 : W11.frozen? ⟨w.heap.size + 1 + 1, 4, none⟩ = false := CB.frozen r12_r 4
      have f13_r5 : W11.cell? ⟨w.heap.size + 1 + 1, 5, none⟩ = some (.bool false) := CB.cell r12_r 5
      have z13_r5 : W11.frozen? ⟨w.heap.size + 1 + 1, 5, none⟩ = false := CB.frozen r12_r 5
      go_simp
      go_wp2_with fail
      have f13_r0 : W11.cell? ⟨w.heap.size + 1 + 1, 0, none⟩ = some (.int .u8 0) := CB.cell r12_r 0
      have z13_r0 : W11.frozen? ⟨w.heap.size + 1 + 1, 0, none⟩ = false := CB.frozen r12_r 0
      have f13_r1 : W11.cell? ⟨w.heap.size + 1 + 1, 1, none⟩ = some (.int .i64 0) := CB.cell r12_r 1
      have z13_r1 : W11.frozen? ⟨w.heap.size + 1 + 1, 1, none⟩ = false := CB.frozen r12_r 1
      have f13_r2 : W11.cell? ⟨w.heap.size + 1 + 1, 2, none⟩ = some (.int .i64 0) := CB.cell r12_r 2
      have z13_r2 : W11.frozen? ⟨w.heap.size + 1 + 1, 2, none⟩ = false := CB.frozen r12_r 2
      have f13_r3 : W11.cell? ⟨w.heap.size + 1 + 1, 3, none⟩ = some (.int .u8 0) := CB.cell r12_r 3
      have z13_r3 : W11.frozen? ⟨w.heap.size + 1 + 1, 3, none⟩ = false := CB.frozen r12_r 3
      have f13_r4 : W11.cell? ⟨w.heap.size + 1 + 1, 4, none⟩ = some (.string ⟨#[]⟩) := CB.cell r12_r 4
      have z13_r4 : W11.frozen? ⟨w.heap.size + 1 + 1, 4, none⟩ = false := CB.frozen r12_r 4
      have f13_r5 : W11.cell? ⟨w.heap.size + 1 + 1, 5, none⟩ = some (.bool false) := CB.cell r12_r 5
      have z13_r5 : W11.frozen? ⟨w.heap.size + 1 + 1, 5, none⟩ = false := CB.frozen r12_r 5
      obtain ⟨V14, hV14⟩ : ∃ V, (((((W11.setCell ⟨w.heap.size + 1 + 1, 0, none⟩ (.int .u8 me)).setCell ⟨w.heap.size + 1 + 1, 1, none⟩ (.int .i64 ep)).setCell ⟨w.heap.size + 1 + 1, 2, none⟩ (.int .i64 st)).setCell ⟨w.heap.size + 1 + 1, 3, none⟩ (.int .u8 to)).setCell ⟨w.heap.size + 1 + 1, 4, none⟩ (.string cg)).setCell ⟨w.heap.size + 1 + 1, 5, none⟩ (.bool kp) = V := ⟨_, rfl⟩
      have nV14 : CB V14 (w.heap.size + 1 + 1) 45 #[.int .u8 me, .int .i64 ep, .int .i64 st, .int .u8 to, .string cg, .bool kp] := by rw [← hV14]; exact cb_cast (CB.put (CB.put (CB.put (CB.put (CB.put (CB.put r12_r 0 (.int .u8 me)) 1 (.int .i64 ep)) 2 (.int .i64 st)) 3 (.int .u8 to)) 4 (.string cg)) 5 (.bool kp)) (by kernel_rfl)
      have mV14_s : CB V14 (w.heap.size) 45 #[.int .u8 me, .int .i64 ep, .int .i64 st, .int .u8 to, .string cg, .bool kp] := by rw [← hV14]; exact (CB.far (CB.far (CB.far (CB.far (CB.far (CB.far r12_s (p := ⟨w.heap.size + 1 + 1, 0, none⟩) neW1_02 (.int .u8 me)) (p := ⟨w.heap.size + 1 + 1, 1, none⟩) neW1_02 (.int .i64 ep)) (p := ⟨w.heap.size + 1 + 1, 2, none⟩) neW1_02 (.int .i64 st)) (p := ⟨w.heap.size + 1 + 1, 3, none⟩) neW1_02 (.int .u8 to)) (p := ⟨w.heap.size + 1 + 1, 4, none⟩) neW1_02 (.string cg)) (p := ⟨w.heap.size + 1 + 1, 5, none⟩) neW1_02 (.bool kp))
      have mV14_m : CB V14 (w.heap.size + 1) 68 #[.int .i64 kd, .int .u8 fr, .int .u8 t, .int .i64 e, .string mg] := by rw [← hV14]; exact (CB.far (CB.far (CB.far (CB.far (CB.far (CB.far r12_m (p := ⟨w.heap.size + 1 + 1, 0, none⟩) neW1_12 (.int .u8 me)) (p := ⟨w.heap.size + 1 + 1, 1, none⟩) neW1_12 (.int .i64 ep)) (p := ⟨w.heap.size + 1 + 1, 2, none⟩) neW1_12 (.int .i64 st)) (p := ⟨w.heap.size + 1 + 1, 3, none⟩) neW1_12 (.int .u8 to)) (p := ⟨w.heap.size + 1 + 1, 4, none⟩) neW1_12 (.string cg)) (p := ⟨w.heap.size + 1 + 1, 5, none⟩) neW1_12 (.bool kp))
      have mV14_l : CB V14 (w2.heap.size) 43 #[.int .i64 ep, .int .i64 st, .int .u8 to] := by rw [← hV14]; exact (CB.far (CB.far (CB.far (CB.far (CB.far (CB.far r12_l (p := ⟨w.heap.size + 1 + 1, 0, none⟩) (Ne.symm neW4_r) (.int .u8 me)) (p := ⟨w.heap.size + 1 + 1, 1, none⟩) (Ne.symm neW4_r) (.int .i64 ep)) (p := ⟨w.heap.size + 1 + 1, 2, none⟩) (Ne.symm neW4_r) (.int .i64 st)) (p := ⟨w.heap.size + 1 + 1, 3, none⟩) (Ne.symm neW4_r) (.int .u8 to)) (p := ⟨w.heap.size + 1 + 1, 4, none⟩) (Ne.symm neW4_r) (.string cg)) (p := ⟨w.heap.size + 1 + 1, 5, none⟩) (Ne.symm neW4_r) (.bool kp))
      have mV14_z : CB V14 (u8.heap.size) 68 #[.int .i64 4, .int .u8 me, .int .u8 fr, .int .i64 e, .string ⟨#[]⟩] := by rw [← hV14]; exact (CB.far (CB.far (CB.far (CB.far (CB.far (CB.far nW11 (p := ⟨w.heap.size + 1 + 1, 0, none⟩) (Ne.symm neW11_r) (.int .u8 me)) (p := ⟨w.heap.size + 1 + 1, 1, none⟩) (Ne.symm neW11_r) (.int .i64 ep)) (p := ⟨w.heap.size + 1 + 1, 2, none⟩) (Ne.symm neW11_r) (.int .i64 st)) (p := ⟨w.heap.size + 1 + 1, 3, none⟩) (Ne.symm neW11_r) (.int .u8 to)) (p := ⟨w.heap.size + 1 + 1, 4, none⟩) (Ne.symm neW11_r) (.string cg)) (p := ⟨w.heap.size + 1 + 1, 5, none⟩) (Ne.symm neW11_r) (.bool kp))
      have oV14 := (Below.setCell (Below.setCell (Below.setCell (Below.setCell (Below.setCell (Below.setCell l12 (p := ⟨w.heap.size + 1 + 1, 0, none⟩) (by dsimp only; omega) (.int .u8 me)) (p := ⟨w.heap.size + 1 + 1, 1, none⟩) (by dsimp only; omega) (.int .i64 ep)) (p := ⟨w.heap.size + 1 + 1, 2, none⟩) (by dsimp only; omega) (.int .i64 st)) (p := ⟨w.heap.size + 1 + 1, 3, none⟩) (by dsimp only; omega) (.int .u8 to)) (p := ⟨w.heap.size + 1 + 1, 4, none⟩) (by dsimp only; omega) (.string cg)) (p := ⟨w.heap.size + 1 + 1, 5, none⟩) (by dsimp only; omega) (.bool kp))
      rw [hV14] at oV14
      have HV14 := Lib.hid hV14
      clear hV14
      clear r12_r r12_s r12_m r12_l nW11 l12
      rw [HV14.out]
      clear f13_r0 z13_r0 f13_r1 z13_r1 f13_r2 z13_r2 f13_r3 z13_r3 f13_r4 z13_r4 f13_r5 z13_r5
      have y15 := Lib.hid (show (fun V : World => V.cell? ⟨w.heap.size, 0, none⟩ = some (.int .u8 me) ∧ V.cell? ⟨w.heap.size, 1, none⟩ = some (.int .i64 ep) ∧ V.cell? ⟨w.heap.size, 2, none⟩ = some (.int .i64 st) ∧ V.cell? ⟨w.heap.size, 3, none⟩ = some (.int .u8 to) ∧ V.cell? ⟨w.heap.size, 4, none⟩ = some (.string cg) ∧ V.cell? ⟨w.heap.size, 5, none⟩ = some (.bool kp) ∧ V.cell? ⟨w.heap.size + 1, 0, none⟩ = some (.int .i64 kd) ∧ V.cell? ⟨w.heap.size + 1, 1, none⟩ = some (.int .u8 fr) ∧ V.cell? ⟨w.heap.size + 1, 2, none⟩ = some (.int .u8 t) ∧ V.cell? ⟨w.heap.size + 1, 3, none⟩ = some (.int .i64 e) ∧ V.cell? ⟨w.heap.size + 1, 4, none⟩ = some (.string mg)) V14 from ⟨CB.cell mV14_s 0, CB.cell mV14_s 1, CB.cell mV14_s 2, CB.cell mV14_s 3, CB.cell mV14_s 4, CB.cell mV14_s 5, CB.cell mV14_m 0, CB.cell mV14_m 1, CB.cell mV14_m 2, CB.cell mV14_m 3, CB.cell mV14_m 4⟩)
      refine hK.out _ _ y15.out (fun hHeld => ?_)
      clear hK K y15
      try simp only [Act.put, List.setIfInBounds_toArray, List.set_cons_zero, List.set_cons_succ]
      refine wpAnyH_takeL (i := 9) (d := some 5) (v := .slice (some ⟨u8.heap.size, 0, none⟩) 1 1) rfl rfl (by kernel_rfl) (by kernel_rfl) (by kernel_rfl) (fun _ _ _ h => h) (Or.inl ⟨by rfl, ?_⟩) hHeld ?_
      · intro w hSw; (try dsimp only at hSw); go_simp
      try simp only [Act.put, List.setIfInBounds_toArray, List.set_cons_zero, List.set_cons_succ]
      refine wpAnyH_takeL (i := 10) (d := some 6) (v := .int .i64 0) rfl rfl (by kernel_rfl) (by kernel_rfl) (by kernel_rfl) (fun _ _ _ h => h) (Or.inl ⟨by rfl, ?_⟩) hHeld ?_
      · intro w hSw; (try dsimp only at hSw); go_simp
      try simp only [Act.put, List.setIfInBounds_toArray, List.set_cons_zero, List.set_cons_succ]
      refine wpAnyH_done (by kernel_rfl) ?_ _
      go_wp2_with fail
      have x_r0 : V14.cell? ⟨w.heap.size + 1 + 1, 0, none⟩ = some (.int .u8 me) := CB.cell nV14 0
      have x_r1 : V14.cell? ⟨w.heap.size + 1 + 1, 1, none⟩ = some (.int .i64 ep) := CB.cell nV14 1
      have x_r2 : V14.cell? ⟨w.heap.size + 1 + 1, 2, none⟩ = some (.int .i64 st) := CB.cell nV14 2
      have x_r3 : V14.cell? ⟨w.heap.size + 1 + 1, 3, none⟩ = some (.int .u8 to) := CB.cell nV14 3
      have x_r4 : V14.cell? ⟨w.heap.size + 1 + 1, 4, none⟩ = some (.string cg) := CB.cell nV14 4
      have x_r5 : V14.cell? ⟨w.heap.size + 1 + 1, 5, none⟩ = some (.bool kp) := CB.cell nV14 5
      exact bodyPost_ret (v := .tuple #[.agg #[.int .u8 me, .int .i64 ep, .int .i64 st, .int .u8 to, .string cg, .bool kp], .slice (some ⟨u8.heap.size, 0, none⟩) 1 1, .int .i64 0]) (by simp [results, Try.results49, go_sem, x_r0, x_r1, x_r2, x_r3, x_r4, x_r5]) rfl (HPost.mk' me ep st to cg kp 0 _ H.out (RS.of_cbm mV14_z) oV14)
    · skip
      have f10_r0 : u8.cell? ⟨w.heap.size + 1 + 1, 0, none⟩ = some (.int .u8 0) := CB.cell r9_r 0
      have z10_r0 : u8.frozen? ⟨w.heap.size + 1 + 1, 0, none⟩ = false := CB.frozen r9_r 0
      have f10_r1 : u8.cell? ⟨w.heap.size + 1 + 1, 1, none⟩ = some (.int .i64 0) := CB.cell r9_r 1
      have z10_r1 : u8.frozen? ⟨w.heap.size + 1 + 1, 1, none⟩ = false := CB.frozen r9_r 1
      have f10_r2 : u8.cell? ⟨w.heap.size + 1 + 1, 2, none⟩ = some (.int .i64 0) := CB.cell r9_r 2
      have z10_r2 : u8.frozen? ⟨w.heap.size + 1 + 1, 2, none⟩ = false := CB.frozen r9_r 2
      have f10_r3 : u8.cell? ⟨w.heap.size + 1 + 1, 3, none⟩ = some (.int .u8 0) := CB.cell r9_r 3
      have z10_r3 : u8.frozen? ⟨w.heap.size + 1 + 1, 3, none⟩ = false := CB.frozen r9_r 3
      have f10_r4 : u8.cell? ⟨w.heap.size + 1 + 1, 4, none⟩ = some (.string ⟨#[]⟩) := CB.cell r9_r 4
      have z10_r4 : u8.frozen? ⟨w.heap.size + 1 + 1, 4, none⟩ = false := CB.frozen r9_r 4
      have f10_r5 : u8.cell? ⟨w.heap.size + 1 + 1, 5, none⟩ = some (.bool false) := CB.cell r9_r 5
      have z10_r5 : u8.frozen? ⟨w.heap.size + 1 + 1, 5, none⟩ = false := CB.frozen r9_r 5
      go_simp
      go_wp2_with fail
      have f10_r0 : u8.cell? ⟨w.heap.size + 1 + 1, 0, none⟩ = some (.int .u8 0) := CB.cell r9_r 0
      have z10_r0 : u8.frozen? ⟨w.heap.size + 1 + 1, 0, none⟩ = false := CB.frozen r9_r 0
      have f10_r1 : u8.cell? ⟨w.heap.size + 1 + 1, 1, none⟩ = some (.int .i64 0) := CB.cell r9_r 1
      have z10_r1 : u8.frozen? ⟨w.heap.size + 1 + 1, 1, none⟩ = false := CB.frozen r9_r 1
      have f10_r2 : u8.cell? ⟨w.heap.size + 1 + 1, 2, none⟩ = some (.int .i64 0) := CB.cell r9_r 2
      have z10_r2 : u8.frozen? ⟨w.heap.size + 1 + 1, 2, none⟩ = false := CB.frozen r9_r 2
      have f10_r3 : u8.cell? ⟨w.heap.size + 1 + 1, 3, none⟩ = some (.int .u8 0) := CB.cell r9_r 3
      have z10_r3 : u8.frozen? ⟨w.heap.size + 1 + 1, 3, none⟩ = false := CB.frozen r9_r 3
      have f10_r4 : u8.cell? ⟨w.heap.size + 1 + 1, 4, none⟩ = some (.string ⟨#[]⟩) := CB.cell r9_r 4
      have z10_r4 : u8.frozen? ⟨w.heap.size + 1 + 1, 4, none⟩ = false := CB.frozen r9_r 4
      have f10_r5 : u8.cell? ⟨w.heap.size + 1 + 1, 5, none⟩ = some (.bool false) := CB.cell r9_r 5
      have z10_r5 : u8.frozen? ⟨w.heap.size + 1 + 1, 5, none⟩ = false := CB.frozen r9_r 5
      obtain ⟨V11, hV11⟩ : ∃ V, (((((u8.setCell ⟨w.heap.size + 1 + 1, 0, none⟩ (.int .u8 me)).setCell ⟨w.heap.size + 1 + 1, 1, none⟩ (.int .i64 ep)).setCell ⟨w.heap.size + 1 + 1, 2, none⟩ (.int .i64 st)).setCell ⟨w.heap.size + 1 + 1, 3, none⟩ (.int .u8 to)).setCell ⟨w.heap.size + 1 + 1, 4, none⟩ (.string cg)).setCell ⟨w.heap.size + 1 + 1, 5, none⟩ (.bool kp) = V := ⟨_, rfl⟩
      have nV11 : CB V11 (w.heap.size + 1 + 1) 45 #[.int .u8 me, .int .i64 ep, .int .i64 st, .int .u8 to, .string cg, .bool kp] := by rw [← hV11]; exact cb_cast (CB.put (CB.put (CB.put (CB.put (CB.put (CB.put r9_r 0 (.int .u8 me)) 1 (.int .i64 ep)) 2 (.int .i64 st)) 3 (.int .u8 to)) 4 (.string cg)) 5 (.bool kp)) (by kernel_rfl)
      have mV11_s : CB V11 (w.heap.size) 45 #[.int .u8 me, .int .i64 ep, .int .i64 st, .int .u8 to, .string cg, .bool kp] := by rw [← hV11]; exact (CB.far (CB.far (CB.far (CB.far (CB.far (CB.far r9_s (p := ⟨w.heap.size + 1 + 1, 0, none⟩) neW1_02 (.int .u8 me)) (p := ⟨w.heap.size + 1 + 1, 1, none⟩) neW1_02 (.int .i64 ep)) (p := ⟨w.heap.size + 1 + 1, 2, none⟩) neW1_02 (.int .i64 st)) (p := ⟨w.heap.size + 1 + 1, 3, none⟩) neW1_02 (.int .u8 to)) (p := ⟨w.heap.size + 1 + 1, 4, none⟩) neW1_02 (.string cg)) (p := ⟨w.heap.size + 1 + 1, 5, none⟩) neW1_02 (.bool kp))
      have mV11_m : CB V11 (w.heap.size + 1) 68 #[.int .i64 kd, .int .u8 fr, .int .u8 t, .int .i64 e, .string mg] := by rw [← hV11]; exact (CB.far (CB.far (CB.far (CB.far (CB.far (CB.far r9_m (p := ⟨w.heap.size + 1 + 1, 0, none⟩) neW1_12 (.int .u8 me)) (p := ⟨w.heap.size + 1 + 1, 1, none⟩) neW1_12 (.int .i64 ep)) (p := ⟨w.heap.size + 1 + 1, 2, none⟩) neW1_12 (.int .i64 st)) (p := ⟨w.heap.size + 1 + 1, 3, none⟩) neW1_12 (.int .u8 to)) (p := ⟨w.heap.size + 1 + 1, 4, none⟩) neW1_12 (.string cg)) (p := ⟨w.heap.size + 1 + 1, 5, none⟩) neW1_12 (.bool kp))
      have mV11_l : CB V11 (w2.heap.size) 43 #[.int .i64 ep, .int .i64 st, .int .u8 to] := by rw [← hV11]; exact (CB.far (CB.far (CB.far (CB.far (CB.far (CB.far r9_l (p := ⟨w.heap.size + 1 + 1, 0, none⟩) (Ne.symm neW4_r) (.int .u8 me)) (p := ⟨w.heap.size + 1 + 1, 1, none⟩) (Ne.symm neW4_r) (.int .i64 ep)) (p := ⟨w.heap.size + 1 + 1, 2, none⟩) (Ne.symm neW4_r) (.int .i64 st)) (p := ⟨w.heap.size + 1 + 1, 3, none⟩) (Ne.symm neW4_r) (.int .u8 to)) (p := ⟨w.heap.size + 1 + 1, 4, none⟩) (Ne.symm neW4_r) (.string cg)) (p := ⟨w.heap.size + 1 + 1, 5, none⟩) (Ne.symm neW4_r) (.bool kp))
      have oV11 := (Below.setCell (Below.setCell (Below.setCell (Below.setCell (Below.setCell (Below.setCell l9 (p := ⟨w.heap.size + 1 + 1, 0, none⟩) (by dsimp only; omega) (.int .u8 me)) (p := ⟨w.heap.size + 1 + 1, 1, none⟩) (by dsimp only; omega) (.int .i64 ep)) (p := ⟨w.heap.size + 1 + 1, 2, none⟩) (by dsimp only; omega) (.int .i64 st)) (p := ⟨w.heap.size + 1 + 1, 3, none⟩) (by dsimp only; omega) (.int .u8 to)) (p := ⟨w.heap.size + 1 + 1, 4, none⟩) (by dsimp only; omega) (.string cg)) (p := ⟨w.heap.size + 1 + 1, 5, none⟩) (by dsimp only; omega) (.bool kp))
      rw [hV11] at oV11
      have HV11 := Lib.hid hV11
      clear hV11
      clear r9_r r9_s r9_m r9_l l9
      rw [HV11.out]
      clear f10_r0 z10_r0 f10_r1 z10_r1 f10_r2 z10_r2 f10_r3 z10_r3 f10_r4 z10_r4 f10_r5 z10_r5
      have y12 := Lib.hid (show (fun V : World => V.cell? ⟨w.heap.size, 0, none⟩ = some (.int .u8 me) ∧ V.cell? ⟨w.heap.size, 1, none⟩ = some (.int .i64 ep) ∧ V.cell? ⟨w.heap.size, 2, none⟩ = some (.int .i64 st) ∧ V.cell? ⟨w.heap.size, 3, none⟩ = some (.int .u8 to) ∧ V.cell? ⟨w.heap.size, 4, none⟩ = some (.string cg) ∧ V.cell? ⟨w.heap.size, 5, none⟩ = some (.bool kp) ∧ V.cell? ⟨w.heap.size + 1, 0, none⟩ = some (.int .i64 kd) ∧ V.cell? ⟨w.heap.size + 1, 1, none⟩ = some (.int .u8 fr) ∧ V.cell? ⟨w.heap.size + 1, 2, none⟩ = some (.int .u8 t) ∧ V.cell? ⟨w.heap.size + 1, 3, none⟩ = some (.int .i64 e) ∧ V.cell? ⟨w.heap.size + 1, 4, none⟩ = some (.string mg)) V11 from ⟨CB.cell mV11_s 0, CB.cell mV11_s 1, CB.cell mV11_s 2, CB.cell mV11_s 3, CB.cell mV11_s 4, CB.cell mV11_s 5, CB.cell mV11_m 0, CB.cell mV11_m 1, CB.cell mV11_m 2, CB.cell mV11_m 3, CB.cell mV11_m 4⟩)
      refine hK.out _ _ y12.out (fun hHeld => ?_)
      clear hK K y12
      try simp only [Act.put, List.setIfInBounds_toArray, List.set_cons_zero, List.set_cons_succ]
      refine wpAnyH_ready (rs := [7]) (by kernel_rfl) (by simp) ?_
      refine AllReadyH.cons rfl (fun K hK => ?_) AllReadyH.nil
      go_simp
      go_wp2_with fail
      have av_z : w.heap.size ≤ V11.heap.size := by have := oV11.size; omega
      obtain ⟨W13, hW13⟩ : ∃ V, V11.alloc (.cells #[.int .i64 4, .int .u8 me, .int .u8 fr, .int .i64 e, .string ⟨#[]⟩] 68) = V := ⟨_, rfl⟩
      have zW13 : V11.heap.size = V11.heap.size := by rfl
      have nW13 : CB W13 (V11.heap.size) 68 #[.int .i64 4, .int .u8 me, .int .u8 fr, .int .i64 e, .string ⟨#[]⟩] := by rw [← zW13, ← hW13]; exact CB.new _ _ _
      have bW13 : Below V11.heap.size V11 W13 := by rw [← hW13]; exact le_al _ _
      have neW13_s : w.heap.size ≠ V11.heap.size := by have := CB.lt mV11_s; omega
      have neW13_m : w.heap.size + 1 ≠ V11.heap.size := by have := CB.lt mV11_m; omega
      have neW13_r : w.heap.size + 1 + 1 ≠ V11.heap.size := by have := CB.lt nV11; omega
      have neW13_l : w2.heap.size ≠ V11.heap.size := by have := CB.lt mV11_l; omega
      have HW13 := Lib.hid hW13
      clear hW13 zW13
      have r14_s := le_on mV11_s bW13
      have r14_m := le_on mV11_m bW13
      have r14_r := le_on nV11 bW13
      have r14_l := le_on mV11_l bW13
      have l14 := le_tr oV11 bW13
      clear mV11_s mV11_m nV11 mV11_l oV11
      clear bW13
      rw [HW13.out]
      have y15 := Lib.hid (show (fun V : World => V.cell? ⟨w.heap.size, 0, none⟩ = some (.int .u8 me) ∧ V.cell? ⟨w.heap.size, 1, none⟩ = some (.int .i64 ep) ∧ V.cell? ⟨w.heap.size, 2, none⟩ = some (.int .i64 st) ∧ V.cell? ⟨w.heap.size, 3, none⟩ = some (.int .u8 to) ∧ V.cell? ⟨w.heap.size, 4, none⟩ = some (.string cg) ∧ V.cell? ⟨w.heap.size, 5, none⟩ = some (.bool kp) ∧ V.cell? ⟨w.heap.size + 1, 0, none⟩ = some (.int .i64 kd) ∧ V.cell? ⟨w.heap.size + 1, 1, none⟩ = some (.int .u8 fr) ∧ V.cell? ⟨w.heap.size + 1, 2, none⟩ = some (.int .u8 t) ∧ V.cell? ⟨w.heap.size + 1, 3, none⟩ = some (.int .i64 e) ∧ V.cell? ⟨w.heap.size + 1, 4, none⟩ = some (.string mg)) W13 from ⟨CB.cell r14_s 0, CB.cell r14_s 1, CB.cell r14_s 2, CB.cell r14_s 3, CB.cell r14_s 4, CB.cell r14_s 5, CB.cell r14_m 0, CB.cell r14_m 1, CB.cell r14_m 2, CB.cell r14_m 3, CB.cell r14_m 4⟩)
      refine hK.out _ _ y15.out (fun hHeld => ?_)
      clear hK K y15
      try simp only [Act.put, List.setIfInBounds_toArray, List.set_cons_zero, List.set_cons_succ]
      refine wpAnyH_takeL (i := 9) (d := some 5) (v := .slice (some ⟨V11.heap.size, 0, none⟩) 1 1) rfl rfl (by kernel_rfl) (by kernel_rfl) (by kernel_rfl) (fun _ _ _ h => h) (Or.inl ⟨by rfl, ?_⟩) hHeld ?_
      · intro w hSw; (try dsimp only at hSw); go_simp
      try simp only [Act.put, List.setIfInBounds_toArray, List.set_cons_zero, List.set_cons_succ]
      refine wpAnyH_takeL (i := 10) (d := some 6) (v := .int .i64 0) rfl rfl (by kernel_rfl) (by kernel_rfl) (by kernel_rfl) (fun _ _ _ h => h) (Or.inl ⟨by rfl, ?_⟩) hHeld ?_
      · intro w hSw; (try dsimp only at hSw); go_simp
      try simp only [Act.put, List.setIfInBounds_toArray, List.set_cons_zero, List.set_cons_succ]
      refine wpAnyH_done (by kernel_rfl) ?_ _
      go_wp2_with fail
      have x_r0 : W13.cell? ⟨w.heap.size + 1 + 1, 0, none⟩ = some (.int .u8 me) := CB.cell r14_r 0
      have x_r1 : W13.cell? ⟨w.heap.size + 1 + 1, 1, none⟩ = some (.int .i64 ep) := CB.cell r14_r 1
      have x_r2 : W13.cell? ⟨w.heap.size + 1 + 1, 2, none⟩ = some (.int .i64 st) := CB.cell r14_r 2
      have x_r3 : W13.cell? ⟨w.heap.size + 1 + 1, 3, none⟩ = some (.int .u8 to) := CB.cell r14_r 3
      have x_r4 : W13.cell? ⟨w.heap.size + 1 + 1, 4, none⟩ = some (.string cg) := CB.cell r14_r 4
      have x_r5 : W13.cell? ⟨w.heap.size + 1 + 1, 5, none⟩ = some (.bool kp) := CB.cell r14_r 5
      exact bodyPost_ret (v := .tuple #[.agg #[.int .u8 me, .int .i64 ep, .int .i64 st, .int .u8 to, .string cg, .bool kp], .slice (some ⟨V11.heap.size, 0, none⟩) 1 1, .int .i64 0]) (by simp [results, Try.results49, go_sem, x_r0, x_r1, x_r2, x_r3, x_r4, x_r5]) rfl (HPost.mk' me ep st to cg kp 0 _ H.out (RS.of_cbm nW13) l14)
set_option maxRecDepth 100000 in
set_option maxHeartbeats 4000000 in
theorem hgot_c (me ep st to : Int) (cg : ByteArray) (kp : Bool) (kd fr t e : Int) (mg : ByteArray) (w : World) (hs : RightS ⟨me, ⟨ep, st, to⟩, cg, kp⟩) (hm : MayM ⟨kd, fr, t, e, mg⟩) : Calls Try.prog 50 #[.agg #[.int .u8 me, .int .i64 ep, .int .i64 st, .int .u8 to, .string cg, .bool kp], .agg #[.int .i64 kd, .int .u8 fr, .int .u8 t, .int .i64 e, .string mg]] w (HPost w 68 (gotM ⟨me, ⟨ep, st, to⟩, cg, kp⟩ ⟨kd, fr, t, e, mg⟩)) := by
  have he : 1 ≤ e ∧ e ≤ 1048576 := hm.2.2.2.2.1
  have Wp := Lib.hid (show IntKind.i64.wrap (e - 1) = e - 1 from IntWalk.i64_in _ (by omega))
  have K1 := fun W => keeps_c me ep st to cg kp fr (e - 1) W
  cases hk : (kp && decide (to = fr) && decide (ep = e - 1)) with
  | false =>
    simp only [hk] at K1
    have H := Lib.hid (show gotM ⟨me, ⟨ep, st, to⟩, cg, kp⟩ ⟨kd, fr, t, e, mg⟩ = ⟨⟨me, ⟨ep, st, to⟩, cg, kp⟩, [], 10⟩ by unfold gotM; simp only; rw [if_neg (by rintro ⟨c1, c2, c3, c4⟩; simp [c2, c3, c4] at hk)])
    clear hk hs hm
    obtain ⟨W1, hW1⟩ : ∃ V, ((w.alloc (.cells #[.int .u8 me, .int .i64 ep, .int .i64 st, .int .u8 to, .string cg, .bool kp] 45)).alloc (.cells #[.int .i64 kd, .int .u8 fr, .int .u8 t, .int .i64 e, .string mg] 68)).alloc (.cells #[.int .u8 0, .int .i64 0, .int .i64 0, .int .u8 0, .string ⟨#[]⟩, .bool false] 45) = V := ⟨_, rfl⟩
    have nW1_s : CB W1 (w.heap.size) 45 #[.int .u8 me, .int .i64 ep, .int .i64 st, .int .u8 to, .string cg, .bool kp] := by
      rw [← hW1]
      have := (((CB.new w 45 #[.int .u8 me, .int .i64 ep, .int .i64 st, .int .u8 to, .string cg, .bool kp]).alloc (.cells #[.int .i64 kd, .int .u8 fr, .int .u8 t, .int .i64 e, .string mg] 68)).alloc (.cells #[.int .u8 0, .int .i64 0, .int .i64 0, .int .u8 0, .string ⟨#[]⟩, .bool false] 45))
      simpa using this
    have nW1_m : CB W1 (w.heap.size + 1) 68 #[.int .i64 kd, .int .u8 fr, .int .u8 t, .int .i64 e, .string mg] := by
      rw [← hW1]
      have := ((CB.new (w.alloc (.cells #[.int .u8 me, .int .i64 ep, .int .i64 st, .int .u8 to, .string cg, .bool kp] 45)) 68 #[.int .i64 kd, .int .u8 fr, .int .u8 t, .int .i64 e, .string mg]).alloc (.cells #[.int .u8 0, .int .i64 0, .int .i64 0, .int .u8 0, .string ⟨#[]⟩, .bool false] 45))
      simpa using this
    have nW1_r : CB W1 (w.heap.size + 1 + 1) 45 #[.int .u8 0, .int .i64 0, .int .i64 0, .int .u8 0, .string ⟨#[]⟩, .bool false] := by
      rw [← hW1]
      have := (CB.new ((w.alloc (.cells #[.int .u8 me, .int .i64 ep, .int .i64 st, .int .u8 to, .string cg, .bool kp] 45)).alloc (.cells #[.int .i64 kd, .int .u8 fr, .int .u8 t, .int .i64 e, .string mg] 68)) 45 #[.int .u8 0, .int .i64 0, .int .i64 0, .int .u8 0, .string ⟨#[]⟩, .bool false])
      simpa using this
    have neW1_01 : w.heap.size ≠ w.heap.size + 1 := by omega
    have neW1_02 : w.heap.size ≠ w.heap.size + 1 + 1 := by omega
    have neW1_12 : w.heap.size + 1 ≠ w.heap.size + 1 + 1 := by omega
    have lW1 : Below w.heap.size w W1 := by rw [← hW1]; exact le_tr (le_tr (le_al _ _) (le_al _ _)) (le_al _ _)
    have HW1 := Lib.hid hW1
    clear hW1
    go_enter Try.func50, Try.ntmps50
    go_wp2_with fail
    rw [HW1.out]
    refine (K1 _).mono ?_
    rintro e w2 ⟨rfl, b2⟩
    have r3_s := le_on nW1_s b2
    have r3_m := le_on nW1_m b2
    have r3_r := le_on nW1_r b2
    have l3 := le_tr lW1 b2
    clear nW1_s nW1_m nW1_r lW1
    clear b2
    have f3_s0 : w2.cell? ⟨w.heap.size, 0, none⟩ = some (.int .u8 me) := CB.cell r3_s 0
    have f3_s1 : w2.cell? ⟨w.heap.size, 1, none⟩ = some (.int .i64 ep) := CB.cell r3_s 1
    have f3_s2 : w2.cell? ⟨w.heap.size, 2, none⟩ = some (.int .i64 st) := CB.cell r3_s 2
    have f3_s3 : w2.cell? ⟨w.heap.size, 3, none⟩ = some (.int .u8 to) := CB.cell r3_s 3
    have f3_s4 : w2.cell? ⟨w.heap.size, 4, none⟩ = some (.string cg) := CB.cell r3_s 4
    have f3_s5 : w2.cell? ⟨w.heap.size, 5, none⟩ = some (.bool kp) := CB.cell r3_s 5
    have f3_r0 : w2.cell? ⟨w.heap.size + 1 + 1, 0, none⟩ = some (.int .u8 0) := CB.cell r3_r 0
    have z3_r0 : w2.frozen? ⟨w.heap.size + 1 + 1, 0, none⟩ = false := CB.frozen r3_r 0
    have f3_r1 : w2.cell? ⟨w.heap.size + 1 + 1, 1, none⟩ = some (.int .i64 0) := CB.cell r3_r 1
    have z3_r1 : w2.frozen? ⟨w.heap.size + 1 + 1, 1, none⟩ = false := CB.frozen r3_r 1
    have f3_r2 : w2.cell? ⟨w.heap.size + 1 + 1, 2, none⟩ = some (.int .i64 0) := CB.cell r3_r 2
    have z3_r2 : w2.frozen? ⟨w.heap.size + 1 + 1, 2, none⟩ = false := CB.frozen r3_r 2
    have f3_r3 : w2.cell? ⟨w.heap.size + 1 + 1, 3, none⟩ = some (.int .u8 0) := CB.cell r3_r 3
    have z3_r3 : w2.frozen? ⟨w.heap.size + 1 + 1, 3, none⟩ = false := CB.frozen r3_r 3
    have f3_r4 : w2.cell? ⟨w.heap.size + 1 + 1, 4, none⟩ = some (.string ⟨#[]⟩) := CB.cell r3_r 4
    have z3_r4 : w2.frozen? ⟨w.heap.size + 1 + 1, 4, none⟩ = false := CB.frozen r3_r 4
    have f3_r5 : w2.cell? ⟨w.heap.size + 1 + 1, 5, none⟩ = some (.bool false) := CB.cell r3_r 5
    have z3_r5 : w2.frozen? ⟨w.heap.size + 1 + 1, 5, none⟩ = false := CB.frozen r3_r 5
    obtain ⟨V4, hV4⟩ : ∃ V, (((((w2.setCell ⟨w.heap.size + 1 + 1, 0, none⟩ (.int .u8 me)).setCell ⟨w.heap.size + 1 + 1, 1, none⟩ (.int .i64 ep)).setCell ⟨w.heap.size + 1 + 1, 2, none⟩ (.int .i64 st)).setCell ⟨w.heap.size + 1 + 1, 3, none⟩ (.int .u8 to)).setCell ⟨w.heap.size + 1 + 1, 4, none⟩ (.string cg)).setCell ⟨w.heap.size + 1 + 1, 5, none⟩ (.bool kp) = V := ⟨_, rfl⟩
    have nV4 : CB V4 (w.heap.size + 1 + 1) 45 #[.int .u8 me, .int .i64 ep, .int .i64 st, .int .u8 to, .string cg, .bool kp] := by rw [← hV4]; exact cb_cast (CB.put (CB.put (CB.put (CB.put (CB.put (CB.put r3_r 0 (.int .u8 me)) 1 (.int .i64 ep)) 2 (.int .i64 st)) 3 (.int .u8 to)) 4 (.string cg)) 5 (.bool kp)) (by kernel_rfl)
    have mV4_s : CB V4 (w.heap.size) 45 #[.int .u8 me, .int .i64 ep, .int .i64 st, .int .u8 to, .string cg, .bool kp] := by rw [← hV4]; exact (CB.far (CB.far (CB.far (CB.far (CB.far (CB.far r3_s (p := ⟨w.heap.size + 1 + 1, 0, none⟩) neW1_02 (.int .u8 me)) (p := ⟨w.heap.size + 1 + 1, 1, none⟩) neW1_02 (.int .i64 ep)) (p := ⟨w.heap.size + 1 + 1, 2, none⟩) neW1_02 (.int .i64 st)) (p := ⟨w.heap.size + 1 + 1, 3, none⟩) neW1_02 (.int .u8 to)) (p := ⟨w.heap.size + 1 + 1, 4, none⟩) neW1_02 (.string cg)) (p := ⟨w.heap.size + 1 + 1, 5, none⟩) neW1_02 (.bool kp))
    have mV4_m : CB V4 (w.heap.size + 1) 68 #[.int .i64 kd, .int .u8 fr, .int .u8 t, .int .i64 e, .string mg] := by rw [← hV4]; exact (CB.far (CB.far (CB.far (CB.far (CB.far (CB.far r3_m (p := ⟨w.heap.size + 1 + 1, 0, none⟩) neW1_12 (.int .u8 me)) (p := ⟨w.heap.size + 1 + 1, 1, none⟩) neW1_12 (.int .i64 ep)) (p := ⟨w.heap.size + 1 + 1, 2, none⟩) neW1_12 (.int .i64 st)) (p := ⟨w.heap.size + 1 + 1, 3, none⟩) neW1_12 (.int .u8 to)) (p := ⟨w.heap.size + 1 + 1, 4, none⟩) neW1_12 (.string cg)) (p := ⟨w.heap.size + 1 + 1, 5, none⟩) neW1_12 (.bool kp))
    have oV4 := (Below.setCell (Below.setCell (Below.setCell (Below.setCell (Below.setCell (Below.setCell l3 (p := ⟨w.heap.size + 1 + 1, 0, none⟩) (by dsimp only; omega) (.int .u8 me)) (p := ⟨w.heap.size + 1 + 1, 1, none⟩) (by dsimp only; omega) (.int .i64 ep)) (p := ⟨w.heap.size + 1 + 1, 2, none⟩) (by dsimp only; omega) (.int .i64 st)) (p := ⟨w.heap.size + 1 + 1, 3, none⟩) (by dsimp only; omega) (.int .u8 to)) (p := ⟨w.heap.size + 1 + 1, 4, none⟩) (by dsimp only; omega) (.string cg)) (p := ⟨w.heap.size + 1 + 1, 5, none⟩) (by dsimp only; omega) (.bool kp))
    rw [hV4] at oV4
    have HV4 := Lib.hid hV4
    clear hV4
    clear r3_r r3_s r3_m l3
    go_wp2_with fail
    rw [HV4.out]
    have x_r0 : V4.cell? ⟨w.heap.size + 1 + 1, 0, none⟩ = some (.int .u8 me) := CB.cell nV4 0
    have x_r1 : V4.cell? ⟨w.heap.size + 1 + 1, 1, none⟩ = some (.int .i64 ep) := CB.cell nV4 1
    have x_r2 : V4.cell? ⟨w.heap.size + 1 + 1, 2, none⟩ = some (.int .i64 st) := CB.cell nV4 2
    have x_r3 : V4.cell? ⟨w.heap.size + 1 + 1, 3, none⟩ = some (.int .u8 to) := CB.cell nV4 3
    have x_r4 : V4.cell? ⟨w.heap.size + 1 + 1, 4, none⟩ = some (.string cg) := CB.cell nV4 4
    have x_r5 : V4.cell? ⟨w.heap.size + 1 + 1, 5, none⟩ = some (.bool kp) := CB.cell nV4 5
    exact bodyPost_ret (v := .tuple #[.agg #[.int .u8 me, .int .i64 ep, .int .i64 st, .int .u8 to, .string cg, .bool kp], .slice none 0 0, .int .i64 10]) (by simp [results, Try.results50, go_sem, x_r0, x_r1, x_r2, x_r3, x_r4, x_r5]) rfl (HPost.mk' me ep st to cg kp 10 [] H.out (RS.nil _ _ _ _) oV4)
  | true =>
    simp only [hk] at K1
    have hkp : kp = true ∧ to = fr ∧ ep = e - 1 := by simpa [and_assoc] using hk
    have H := Lib.hid (show gotM ⟨me, ⟨ep, st, to⟩, cg, kp⟩ ⟨kd, fr, t, e, mg⟩ = ⟨⟨me, ⟨ep, st, to⟩, ⟨#[]⟩, false⟩, [], 0⟩ by unfold gotM; simp only; rw [if_pos ⟨hs.2.2.2.2.2 hkp.1, hkp.2.2, hkp.2.1, hkp.1⟩])
    clear hk hs hm hkp
    obtain ⟨W1, hW1⟩ : ∃ V, ((w.alloc (.cells #[.int .u8 me, .int .i64 ep, .int .i64 st, .int .u8 to, .string cg, .bool kp] 45)).alloc (.cells #[.int .i64 kd, .int .u8 fr, .int .u8 t, .int .i64 e, .string mg] 68)).alloc (.cells #[.int .u8 0, .int .i64 0, .int .i64 0, .int .u8 0, .string ⟨#[]⟩, .bool false] 45) = V := ⟨_, rfl⟩
    have nW1_s : CB W1 (w.heap.size) 45 #[.int .u8 me, .int .i64 ep, .int .i64 st, .int .u8 to, .string cg, .bool kp] := by
      rw [← hW1]
      have := (((CB.new w 45 #[.int .u8 me, .int .i64 ep, .int .i64 st, .int .u8 to, .string cg, .bool kp]).alloc (.cells #[.int .i64 kd, .int .u8 fr, .int .u8 t, .int .i64 e, .string mg] 68)).alloc (.cells #[.int .u8 0, .int .i64 0, .int .i64 0, .int .u8 0, .string ⟨#[]⟩, .bool false] 45))
      simpa using this
    have nW1_m : CB W1 (w.heap.size + 1) 68 #[.int .i64 kd, .int .u8 fr, .int .u8 t, .int .i64 e, .string mg] := by
      rw [← hW1]
      have := ((CB.new (w.alloc (.cells #[.int .u8 me, .int .i64 ep, .int .i64 st, .int .u8 to, .string cg, .bool kp] 45)) 68 #[.int .i64 kd, .int .u8 fr, .int .u8 t, .int .i64 e, .string mg]).alloc (.cells #[.int .u8 0, .int .i64 0, .int .i64 0, .int .u8 0, .string ⟨#[]⟩, .bool false] 45))
      simpa using this
    have nW1_r : CB W1 (w.heap.size + 1 + 1) 45 #[.int .u8 0, .int .i64 0, .int .i64 0, .int .u8 0, .string ⟨#[]⟩, .bool false] := by
      rw [← hW1]
      have := (CB.new ((w.alloc (.cells #[.int .u8 me, .int .i64 ep, .int .i64 st, .int .u8 to, .string cg, .bool kp] 45)).alloc (.cells #[.int .i64 kd, .int .u8 fr, .int .u8 t, .int .i64 e, .string mg] 68)) 45 #[.int .u8 0, .int .i64 0, .int .i64 0, .int .u8 0, .string ⟨#[]⟩, .bool false])
      simpa using this
    have neW1_01 : w.heap.size ≠ w.heap.size + 1 := by omega
    have neW1_02 : w.heap.size ≠ w.heap.size + 1 + 1 := by omega
    have neW1_12 : w.heap.size + 1 ≠ w.heap.size + 1 + 1 := by omega
    have lW1 : Below w.heap.size w W1 := by rw [← hW1]; exact le_tr (le_tr (le_al _ _) (le_al _ _)) (le_al _ _)
    have HW1 := Lib.hid hW1
    clear hW1
    go_enter Try.func50, Try.ntmps50
    go_wp2_with fail
    rw [HW1.out]
    refine (K1 _).mono ?_
    rintro e w2 ⟨rfl, b2⟩
    have r3_s := le_on nW1_s b2
    have r3_m := le_on nW1_m b2
    have r3_r := le_on nW1_r b2
    have l3 := le_tr lW1 b2
    clear nW1_s nW1_m nW1_r lW1
    clear b2
    have f3_s0 : w2.cell? ⟨w.heap.size, 0, none⟩ = some (.int .u8 me) := CB.cell r3_s 0
    have z3_s0 : w2.frozen? ⟨w.heap.size, 0, none⟩ = false := CB.frozen r3_s 0
    have f3_s1 : w2.cell? ⟨w.heap.size, 1, none⟩ = some (.int .i64 ep) := CB.cell r3_s 1
    have z3_s1 : w2.frozen? ⟨w.heap.size, 1, none⟩ = false := CB.frozen r3_s 1
    have f3_s2 : w2.cell? ⟨w.heap.size, 2, none⟩ = some (.int .i64 st) := CB.cell r3_s 2
    have z3_s2 : w2.frozen? ⟨w.heap.size, 2, none⟩ = false := CB.frozen r3_s 2
    have f3_s3 : w2.cell? ⟨w.heap.size, 3, none⟩ = some (.int .u8 to) := CB.cell r3_s 3
    have z3_s3 : w2.frozen? ⟨w.heap.size, 3, none⟩ = false := CB.frozen r3_s 3
    have f3_s4 : w2.cell? ⟨w.heap.size, 4, none⟩ = some (.string cg) := CB.cell r3_s 4
    have z3_s4 : w2.frozen? ⟨w.heap.size, 4, none⟩ = false := CB.frozen r3_s 4
    have f3_s5 : w2.cell? ⟨w.heap.size, 5, none⟩ = some (.bool kp) := CB.cell r3_s 5
    have z3_s5 : w2.frozen? ⟨w.heap.size, 5, none⟩ = false := CB.frozen r3_s 5
    obtain ⟨V4, hV4⟩ : ∃ V, (w2.setCell ⟨w.heap.size, 4, none⟩ (.string ⟨#[]⟩)).setCell ⟨w.heap.size, 5, none⟩ (.bool false) = V := ⟨_, rfl⟩
    have nV4 : CB V4 (w.heap.size) 45 #[.int .u8 me, .int .i64 ep, .int .i64 st, .int .u8 to, .string ⟨#[]⟩, .bool false] := by rw [← hV4]; exact cb_cast (CB.put (CB.put r3_s 4 (.string ⟨#[]⟩)) 5 (.bool false)) (by kernel_rfl)
    have mV4_m : CB V4 (w.heap.size + 1) 68 #[.int .i64 kd, .int .u8 fr, .int .u8 t, .int .i64 e, .string mg] := by rw [← hV4]; exact (CB.far (CB.far r3_m (p := ⟨w.heap.size, 4, none⟩) (Ne.symm neW1_01) (.string ⟨#[]⟩)) (p := ⟨w.heap.size, 5, none⟩) (Ne.symm neW1_01) (.bool false))
    have mV4_r : CB V4 (w.heap.size + 1 + 1) 45 #[.int .u8 0, .int .i64 0, .int .i64 0, .int .u8 0, .string ⟨#[]⟩, .bool false] := by rw [← hV4]; exact (CB.far (CB.far r3_r (p := ⟨w.heap.size, 4, none⟩) (Ne.symm neW1_02) (.string ⟨#[]⟩)) (p := ⟨w.heap.size, 5, none⟩) (Ne.symm neW1_02) (.bool false))
    have oV4 := (Below.setCell (Below.setCell l3 (p := ⟨w.heap.size, 4, none⟩) (by dsimp only; omega) (.string ⟨#[]⟩)) (p := ⟨w.heap.size, 5, none⟩) (by dsimp only; omega) (.bool false))
    rw [hV4] at oV4
    have HV4 := Lib.hid hV4
    clear hV4
    clear r3_s r3_m r3_r l3
    have f4_s0 : (((w2).setCell ⟨w.heap.size, 4, none⟩ (.string ⟨#[]⟩)).setCell ⟨w.heap.size, 5, none⟩ (.bool false)).cell? ⟨w.heap.size, 0, none⟩ = some (.int .u8 me) := by rw [HV4.out]; exact CB.cell nV4 0
    have f4_s1 : (((w2).setCell ⟨w.heap.size, 4, none⟩ (.string ⟨#[]⟩)).setCell ⟨w.heap.size, 5, none⟩ (.bool false)).cell? ⟨w.heap.size, 1, none⟩ = some (.int .i64 ep) := by rw [HV4.out]; exact CB.cell nV4 1
    have f4_s2 : (((w2).setCell ⟨w.heap.size, 4, none⟩ (.string ⟨#[]⟩)).setCell ⟨w.heap.size, 5, none⟩ (.bool false)).cell? ⟨w.heap.size, 2, none⟩ = some (.int .i64 st) := by rw [HV4.out]; exact CB.cell nV4 2
    have f4_s3 : (((w2).setCell ⟨w.heap.size, 4, none⟩ (.string ⟨#[]⟩)).setCell ⟨w.heap.size, 5, none⟩ (.bool false)).cell? ⟨w.heap.size, 3, none⟩ = some (.int .u8 to) := by rw [HV4.out]; exact CB.cell nV4 3
    have f4_s4 : (((w2).setCell ⟨w.heap.size, 4, none⟩ (.string ⟨#[]⟩)).setCell ⟨w.heap.size, 5, none⟩ (.bool false)).cell? ⟨w.heap.size, 4, none⟩ = some (.string ⟨#[]⟩) := by rw [HV4.out]; exact CB.cell nV4 4
    have f4_s5 : (((w2).setCell ⟨w.heap.size, 4, none⟩ (.string ⟨#[]⟩)).setCell ⟨w.heap.size, 5, none⟩ (.bool false)).cell? ⟨w.heap.size, 5, none⟩ = some (.bool false) := by rw [HV4.out]; exact CB.cell nV4 5
    have f4_r0 : (((w2).setCell ⟨w.heap.size, 4, none⟩ (.string ⟨#[]⟩)).setCell ⟨w.heap.size, 5, none⟩ (.bool false)).cell? ⟨w.heap.size + 1 + 1, 0, none⟩ = some (.int .u8 0) := by rw [HV4.out]; exact CB.cell mV4_r 0
    have z4_r0 : (((w2).setCell ⟨w.heap.size, 4, none⟩ (.string ⟨#[]⟩)).setCell ⟨w.heap.size, 5, none⟩ (.bool false)).frozen? ⟨w.heap.size + 1 + 1, 0, none⟩ = false := by rw [HV4.out]; exact CB.frozen mV4_r 0
    have f4_r1 : (((w2).setCell ⟨w.heap.size, 4, none⟩ (.string ⟨#[]⟩)).setCell ⟨w.heap.size, 5, none⟩ (.bool false)).cell? ⟨w.heap.size + 1 + 1, 1, none⟩ = some (.int .i64 0) := by rw [HV4.out]; exact CB.cell mV4_r 1
    have z4_r1 : (((w2).setCell ⟨w.heap.size, 4, none⟩ (.string ⟨#[]⟩)).setCell ⟨w.heap.size, 5, none⟩ (.bool false)).frozen? ⟨w.heap.size + 1 + 1, 1, none⟩ = false := by rw [HV4.out]; exact CB.frozen mV4_r 1
    have f4_r2 : (((w2).setCell ⟨w.heap.size, 4, none⟩ (.string ⟨#[]⟩)).setCell ⟨w.heap.size, 5, none⟩ (.bool false)).cell? ⟨w.heap.size + 1 + 1, 2, none⟩ = some (.int .i64 0) := by rw [HV4.out]; exact CB.cell mV4_r 2
    have z4_r2 : (((w2).setCell ⟨w.heap.size, 4, none⟩ (.string ⟨#[]⟩)).setCell ⟨w.heap.size, 5, none⟩ (.bool false)).frozen? ⟨w.heap.size + 1 + 1, 2, none⟩ = false := by rw [HV4.out]; exact CB.frozen mV4_r 2
    have f4_r3 : (((w2).setCell ⟨w.heap.size, 4, none⟩ (.string ⟨#[]⟩)).setCell ⟨w.heap.size, 5, none⟩ (.bool false)).cell? ⟨w.heap.size + 1 + 1, 3, none⟩ = some (.int .u8 0) := by rw [HV4.out]; exact CB.cell mV4_r 3
    have z4_r3 : (((w2).setCell ⟨w.heap.size, 4, none⟩ (.string ⟨#[]⟩)).setCell ⟨w.heap.size, 5, none⟩ (.bool false)).frozen? ⟨w.heap.size + 1 + 1, 3, none⟩ = false := by rw [HV4.out]; exact CB.frozen mV4_r 3
    have f4_r4 : (((w2).setCell ⟨w.heap.size, 4, none⟩ (.string ⟨#[]⟩)).setCell ⟨w.heap.size, 5, none⟩ (.bool false)).cell? ⟨w.heap.size + 1 + 1, 4, none⟩ = some (.string ⟨#[]⟩) := by rw [HV4.out]; exact CB.cell mV4_r 4
    have z4_r4 : (((w2).setCell ⟨w.heap.size, 4, none⟩ (.string ⟨#[]⟩)).setCell ⟨w.heap.size, 5, none⟩ (.bool false)).frozen? ⟨w.heap.size + 1 + 1, 4, none⟩ = false := by rw [HV4.out]; exact CB.frozen mV4_r 4
    have f4_r5 : (((w2).setCell ⟨w.heap.size, 4, none⟩ (.string ⟨#[]⟩)).setCell ⟨w.heap.size, 5, none⟩ (.bool false)).cell? ⟨w.heap.size + 1 + 1, 5, none⟩ = some (.bool false) := by rw [HV4.out]; exact CB.cell mV4_r 5
    have z4_r5 : (((w2).setCell ⟨w.heap.size, 4, none⟩ (.string ⟨#[]⟩)).setCell ⟨w.heap.size, 5, none⟩ (.bool false)).frozen? ⟨w.heap.size + 1 + 1, 5, none⟩ = false := by rw [HV4.out]; exact CB.frozen mV4_r 5
    obtain ⟨V5, hV5⟩ : ∃ V, (((((V4.setCell ⟨w.heap.size + 1 + 1, 0, none⟩ (.int .u8 me)).setCell ⟨w.heap.size + 1 + 1, 1, none⟩ (.int .i64 ep)).setCell ⟨w.heap.size + 1 + 1, 2, none⟩ (.int .i64 st)).setCell ⟨w.heap.size + 1 + 1, 3, none⟩ (.int .u8 to)).setCell ⟨w.heap.size + 1 + 1, 4, none⟩ (.string ⟨#[]⟩)).setCell ⟨w.heap.size + 1 + 1, 5, none⟩ (.bool false) = V := ⟨_, rfl⟩
    have nV5 : CB V5 (w.heap.size + 1 + 1) 45 #[.int .u8 me, .int .i64 ep, .int .i64 st, .int .u8 to, .string ⟨#[]⟩, .bool false] := by rw [← hV5]; exact cb_cast (CB.put (CB.put (CB.put (CB.put (CB.put (CB.put mV4_r 0 (.int .u8 me)) 1 (.int .i64 ep)) 2 (.int .i64 st)) 3 (.int .u8 to)) 4 (.string ⟨#[]⟩)) 5 (.bool false)) (by kernel_rfl)
    have mV5_s : CB V5 (w.heap.size) 45 #[.int .u8 me, .int .i64 ep, .int .i64 st, .int .u8 to, .string ⟨#[]⟩, .bool false] := by rw [← hV5]; exact (CB.far (CB.far (CB.far (CB.far (CB.far (CB.far nV4 (p := ⟨w.heap.size + 1 + 1, 0, none⟩) neW1_02 (.int .u8 me)) (p := ⟨w.heap.size + 1 + 1, 1, none⟩) neW1_02 (.int .i64 ep)) (p := ⟨w.heap.size + 1 + 1, 2, none⟩) neW1_02 (.int .i64 st)) (p := ⟨w.heap.size + 1 + 1, 3, none⟩) neW1_02 (.int .u8 to)) (p := ⟨w.heap.size + 1 + 1, 4, none⟩) neW1_02 (.string ⟨#[]⟩)) (p := ⟨w.heap.size + 1 + 1, 5, none⟩) neW1_02 (.bool false))
    have mV5_m : CB V5 (w.heap.size + 1) 68 #[.int .i64 kd, .int .u8 fr, .int .u8 t, .int .i64 e, .string mg] := by rw [← hV5]; exact (CB.far (CB.far (CB.far (CB.far (CB.far (CB.far mV4_m (p := ⟨w.heap.size + 1 + 1, 0, none⟩) neW1_12 (.int .u8 me)) (p := ⟨w.heap.size + 1 + 1, 1, none⟩) neW1_12 (.int .i64 ep)) (p := ⟨w.heap.size + 1 + 1, 2, none⟩) neW1_12 (.int .i64 st)) (p := ⟨w.heap.size + 1 + 1, 3, none⟩) neW1_12 (.int .u8 to)) (p := ⟨w.heap.size + 1 + 1, 4, none⟩) neW1_12 (.string ⟨#[]⟩)) (p := ⟨w.heap.size + 1 + 1, 5, none⟩) neW1_12 (.bool false))
    have oV5 := (Below.setCell (Below.setCell (Below.setCell (Below.setCell (Below.setCell (Below.setCell oV4 (p := ⟨w.heap.size + 1 + 1, 0, none⟩) (by dsimp only; omega) (.int .u8 me)) (p := ⟨w.heap.size + 1 + 1, 1, none⟩) (by dsimp only; omega) (.int .i64 ep)) (p := ⟨w.heap.size + 1 + 1, 2, none⟩) (by dsimp only; omega) (.int .i64 st)) (p := ⟨w.heap.size + 1 + 1, 3, none⟩) (by dsimp only; omega) (.int .u8 to)) (p := ⟨w.heap.size + 1 + 1, 4, none⟩) (by dsimp only; omega) (.string ⟨#[]⟩)) (p := ⟨w.heap.size + 1 + 1, 5, none⟩) (by dsimp only; omega) (.bool false))
    rw [hV5] at oV5
    have HV5 := Lib.hid (show ((((((((w2).setCell ⟨w.heap.size, 4, none⟩ (.string ⟨#[]⟩)).setCell ⟨w.heap.size, 5, none⟩ (.bool false)).setCell ⟨w.heap.size + 1 + 1, 0, none⟩ (.int .u8 me)).setCell ⟨w.heap.size + 1 + 1, 1, none⟩ (.int .i64 ep)).setCell ⟨w.heap.size + 1 + 1, 2, none⟩ (.int .i64 st)).setCell ⟨w.heap.size + 1 + 1, 3, none⟩ (.int .u8 to)).setCell ⟨w.heap.size + 1 + 1, 4, none⟩ (.string ⟨#[]⟩)).setCell ⟨w.heap.size + 1 + 1, 5, none⟩ (.bool false) = V5 by rw [HV4.out]; exact hV5)
    clear hV5
    clear mV4_r nV4 mV4_m oV4
    go_wp2_with fail
    rw [HV5.out]
    have x_r0 : V5.cell? ⟨w.heap.size + 1 + 1, 0, none⟩ = some (.int .u8 me) := CB.cell nV5 0
    have x_r1 : V5.cell? ⟨w.heap.size + 1 + 1, 1, none⟩ = some (.int .i64 ep) := CB.cell nV5 1
    have x_r2 : V5.cell? ⟨w.heap.size + 1 + 1, 2, none⟩ = some (.int .i64 st) := CB.cell nV5 2
    have x_r3 : V5.cell? ⟨w.heap.size + 1 + 1, 3, none⟩ = some (.int .u8 to) := CB.cell nV5 3
    have x_r4 : V5.cell? ⟨w.heap.size + 1 + 1, 4, none⟩ = some (.string ⟨#[]⟩) := CB.cell nV5 4
    have x_r5 : V5.cell? ⟨w.heap.size + 1 + 1, 5, none⟩ = some (.bool false) := CB.cell nV5 5
    exact bodyPost_ret (v := .tuple #[.agg #[.int .u8 me, .int .i64 ep, .int .i64 st, .int .u8 to, .string ⟨#[]⟩, .bool false], .slice none 0 0, .int .i64 0]) (by simp [results, Try.results50, go_sem, x_r0, x_r1, x_r2, x_r3, x_r4, x_r5]) rfl (HPost.mk' me ep st to ⟨#[]⟩ false 0 [] H.out (RS.nil _ _ _ _) oV5)
end Go.Proofs.Ytfdboahcaiolgaa
