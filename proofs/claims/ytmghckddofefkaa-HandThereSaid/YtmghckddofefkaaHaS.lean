/-
  A play's hear: the side hears the message, and what it answers is said. Conditions: a play, a message to one of the four.
-/
import Derived.Test.YtmghckddofefkaaHaR
set_option linter.unusedVariables false
set_option linter.unusedSimpArgs false
namespace Go.Proofs.Ytmghckddofefkaa
open Go.RowKit


/-- What a call of a play's method leaves: a play. -/
def PPost (B : Nat) (w : World) (P : Nat) (S : Nat → Sd) (L : List Mg) (c : ByteArray) (M : List (Int × Int)) (e : Ending) (w' : World) : Prop :=
  (∃ v, e = .returned v) ∧ PL B w' P S L c M ∧ Below B w w'
set_option maxRecDepth 100000 in
set_option maxHeartbeats 8000000 in
theorem phear_c (B P : Nat) (S : Nat → Sd) (L : List Mg) (c : ByteArray) (M : List (Int × Int)) (k : Nat) (kd fr e : Int) (mg : ByteArray) (w : World) (h : PL B w P S L c M) (hB : B ≤ w.heap.size) (hL : L.length ≤ 100000) (hk : k < 4) : Calls Try.prog 49 #[.pointer (some ⟨P, 0, none⟩), .agg #[.int .i64 kd, .int .u8 fr, .int .u8 (k : Int), .int .i64 e, .string mg]] w (PPost B w P (updS S k (hearM (S k) ⟨kd, fr, (k : Int), e, mg⟩).s) (if L.length < 500 then L ++ (hearM (S k) ⟨kd, fr, (k : Int), e, mg⟩).r else L) c M) := by
  obtain ⟨⟨A, n, q, G, bm, hp, hs, hG, hm, hbm⟩, hP⟩ := h
  have hn : L.length = n := rc_len hs
  have hPw := hp.lt
  obtain ⟨⟨sme, ⟨sep, sst, sto⟩, scg, skp⟩, hS⟩ : ∃ s, S k = s := ⟨_, rfl⟩
  have k1 : decide ((3 : Int) < (k : Int)) = false := by simp; omega
  have k2 : (k : Int) < 4 := by omega
  have k3 : (0 : Int) ≤ (k : Int) := by omega
  obtain ⟨⟨⟨zme, ⟨zep, zst, zto⟩, zcg, zkp⟩, zr, ze⟩, hd⟩ : ∃ d, hearM (S k) ⟨kd, fr, (k : Int), e, mg⟩ = d := ⟨_, rfl⟩
  have H1 : ∀ W, Calls Try.prog 11 #[.agg #[.int .u8 sme, .int .i64 sep, .int .i64 sst, .int .u8 sto, .string scg, .bool skp], .agg #[.int .i64 kd, .int .u8 fr, .int .u8 (k : Int), .int .i64 e, .string mg]] W (fun r w' => ∃ A n q, r = .returned (.tuple #[.agg #[.int .u8 zme, .int .i64 zep, .int .i64 zst, .int .u8 zto, .string zcg, .bool zkp], .slice A n q, .int .i64 (ze : Int)]) ∧ RS w' 37 mc 5 A n q zr ∧ Below W.heap.size W w') := fun W => (by
    have := hear_c sme sep sst sto scg skp kd fr (k : Int) e mg W
    rw [← hS, hd] at this
    exact this)
  obtain ⟨i0, hi0, hz0, hz1, hz2⟩ := info_parts Try.infoMsg
  have Hi := Lib.hid hi0
  have Hz := Lib.hid hz0
  have Hz1 := Lib.hid hz1
  have Hz2 := Lib.hid hz2
  have p4 : (Value.agg #[.int .i64 0, .int .u8 0, .int .u8 0, .int .i64 0, .string ⟨#[]⟩]).cells.size = 5 := by rfl
  clear hi0 hz0 hz1 hz2
  rw [hd]
  obtain ⟨L3, hL3⟩ : ∃ L3, (if L.length < 500 then L ++ zr else L) = L3 := ⟨_, rfl⟩
  simp only
  rw [hL3]
  have HL3 := Lib.hid hL3
  clear hL3
  obtain ⟨W1, hW1⟩ : ∃ V, w.alloc (.cells #[.int .i64 kd, .int .u8 fr, .int .u8 (k : Int), .int .i64 e, .string mg] 37) = V := ⟨_, rfl⟩
  have nW1_m : CB W1 (w.heap.size) 37 #[.int .i64 kd, .int .u8 fr, .int .u8 (k : Int), .int .i64 e, .string mg] := by
    rw [← hW1]
    have := (CB.new w 37 #[.int .i64 kd, .int .u8 fr, .int .u8 (k : Int), .int .i64 e, .string mg])
    simpa using this
  have lW1 : Below w.heap.size w W1 := by rw [← hW1]; exact le_al _ _
  have HW1 := Lib.hid hW1
  clear hW1
  go_enter Try.func49, Try.ntmps49
  have f1_m0 : (w.alloc (.cells #[.int .i64 kd, .int .u8 fr, .int .u8 (k : Int), .int .i64 e, .string mg] 37)).cell? ⟨w.heap.size, 0, none⟩ = some (.int .i64 kd) := by rw [HW1.out]; exact CB.cell nW1_m 0
  have f1_m1 : (w.alloc (.cells #[.int .i64 kd, .int .u8 fr, .int .u8 (k : Int), .int .i64 e, .string mg] 37)).cell? ⟨w.heap.size, 1, none⟩ = some (.int .u8 fr) := by rw [HW1.out]; exact CB.cell nW1_m 1
  have f1_m2 : (w.alloc (.cells #[.int .i64 kd, .int .u8 fr, .int .u8 (k : Int), .int .i64 e, .string mg] 37)).cell? ⟨w.heap.size, 2, none⟩ = some (.int .u8 (k : Int)) := by rw [HW1.out]; exact CB.cell nW1_m 2
  have f1_m3 : (w.alloc (.cells #[.int .i64 kd, .int .u8 fr, .int .u8 (k : Int), .int .i64 e, .string mg] 37)).cell? ⟨w.heap.size, 3, none⟩ = some (.int .i64 e) := by rw [HW1.out]; exact CB.cell nW1_m 3
  have f1_m4 : (w.alloc (.cells #[.int .i64 kd, .int .u8 fr, .int .u8 (k : Int), .int .i64 e, .string mg] 37)).cell? ⟨w.heap.size, 4, none⟩ = some (.string mg) := by rw [HW1.out]; exact CB.cell nW1_m 4
  have HR := Lib.hid (show zr.length ≤ 1 from by have := hear_len (S k) ⟨kd, fr, (k : Int), e, mg⟩; rw [hd] at this; exact this)
  clear hd
  go_wp2_with fail
  go_wp2_with fail
  rw [HW1.out]
  clear f1_m0 f1_m1 f1_m2 f1_m3 f1_m4
  have y2 := Lib.hid (show (fun V : World => V.cell? ⟨w.heap.size, 0, none⟩ = some (.int .i64 kd) ∧ V.cell? ⟨w.heap.size, 1, none⟩ = some (.int .u8 fr) ∧ V.cell? ⟨w.heap.size, 2, none⟩ = some (.int .u8 (k : Int)) ∧ V.cell? ⟨w.heap.size, 3, none⟩ = some (.int .i64 e) ∧ V.cell? ⟨w.heap.size, 4, none⟩ = some (.string mg) ∧ V.cell? ⟨P, k * 6, none⟩ = some (.int .u8 sme) ∧ V.cell? ⟨P, k * 6 + 1, none⟩ = some (.int .i64 sep) ∧ V.cell? ⟨P, k * 6 + 2, none⟩ = some (.int .i64 sst) ∧ V.cell? ⟨P, k * 6 + 3, none⟩ = some (.int .u8 sto) ∧ V.cell? ⟨P, k * 6 + 4, none⟩ = some (.string scg) ∧ V.cell? ⟨P, k * 6 + 5, none⟩ = some (.bool skp)) W1 from ⟨CB.cell nW1_m 0, CB.cell nW1_m 1, CB.cell nW1_m 2, CB.cell nW1_m 3, CB.cell nW1_m 4, (PM.at_ (PM.on hp lW1) hk hS).1, (PM.at_ (PM.on hp lW1) hk hS).2.1, (PM.at_ (PM.on hp lW1) hk hS).2.2.1, (PM.at_ (PM.on hp lW1) hk hS).2.2.2.1, (PM.at_ (PM.on hp lW1) hk hS).2.2.2.2.1, (PM.at_ (PM.on hp lW1) hk hS).2.2.2.2.2⟩)
  refine wp_region_held_drew (S := (fun V : World => V.cell? ⟨w.heap.size, 0, none⟩ = some (.int .i64 kd) ∧ V.cell? ⟨w.heap.size, 1, none⟩ = some (.int .u8 fr) ∧ V.cell? ⟨w.heap.size, 2, none⟩ = some (.int .u8 (k : Int)) ∧ V.cell? ⟨w.heap.size, 3, none⟩ = some (.int .i64 e) ∧ V.cell? ⟨w.heap.size, 4, none⟩ = some (.string mg) ∧ V.cell? ⟨P, k * 6, none⟩ = some (.int .u8 sme) ∧ V.cell? ⟨P, k * 6 + 1, none⟩ = some (.int .i64 sep) ∧ V.cell? ⟨P, k * 6 + 2, none⟩ = some (.int .i64 sst) ∧ V.cell? ⟨P, k * 6 + 3, none⟩ = some (.int .u8 sto) ∧ V.cell? ⟨P, k * 6 + 4, none⟩ = some (.string scg) ∧ V.cell? ⟨P, k * 6 + 5, none⟩ = some (.bool skp))) (by kernel_rfl) y2.out (fun hHeld => ?_)
  obtain ⟨D2, hD2⟩ : ∃ V, W1.drew = V := ⟨_, rfl⟩
  have b2 : Below W1.heap.size W1 D2 := by rw [← hD2]; exact le_dr (Below.refl _ _)
  rw [hD2] at hHeld ⊢
  clear hD2
  have r3_m := le_on nW1_m b2
  have l3 := le_tr lW1 b2
  clear nW1_m lW1
  clear b2
  refine wpAnyH_takeL (i := 0) (d := some 11) (v := .pointer (some ⟨P, 0, none⟩)) rfl rfl (by kernel_rfl) (by kernel_rfl) (by kernel_rfl) (fun _ _ _ h => h) (Or.inl ⟨by rfl, ?_⟩) hHeld ?_
  · intro w hSw; (try dsimp only at hSw); go_simp
  try simp only [Act.put, List.setIfInBounds_toArray, List.set_cons_zero, List.set_cons_succ]
  refine wpAnyH_takeL (i := 1) (d := some 12) (v := .pointer (some ⟨w.heap.size, 2, none⟩)) rfl rfl (by kernel_rfl) (by kernel_rfl) (by kernel_rfl) (fun _ _ _ h => h) (Or.inl ⟨by rfl, ?_⟩) hHeld ?_
  · intro w hSw; (try dsimp only at hSw); go_simp
  try simp only [Act.put, List.setIfInBounds_toArray, List.set_cons_zero, List.set_cons_succ]
  refine wpAnyH_takeL (i := 2) (d := some 13) (v := .int .u8 (k : Int)) rfl rfl (by kernel_rfl) (by kernel_rfl) (by kernel_rfl) (fun _ _ _ h => h) (Or.inl ⟨by rfl, ?_⟩) hHeld ?_
  · intro w hSw; (try dsimp only at hSw); go_simp
  try simp only [Act.put, List.setIfInBounds_toArray, List.set_cons_zero, List.set_cons_succ]
  refine wpAnyH_takeL (i := 3) (d := some 14) (v := .pointer (some ⟨P, 0, none⟩)) rfl rfl (by kernel_rfl) (by kernel_rfl) (by kernel_rfl) (fun _ _ _ h => h) (Or.inl ⟨by rfl, ?_⟩) hHeld ?_
  · intro w hSw; (try dsimp only at hSw); go_simp
  try simp only [Act.put, List.setIfInBounds_toArray, List.set_cons_zero, List.set_cons_succ]
  refine wpAnyH_takeL (i := 4) (d := some 15) (v := .pointer (some ⟨P, 0, none⟩)) rfl rfl (by kernel_rfl) (by kernel_rfl) (by kernel_rfl) (fun _ _ _ h => h) (Or.inl ⟨by rfl, ?_⟩) hHeld ?_
  · intro w hSw; (try dsimp only at hSw); go_simp
  try simp only [Act.put, List.setIfInBounds_toArray, List.set_cons_zero, List.set_cons_succ]
  refine wpAnyH_takeL (i := 5) (d := some 16) (v := .pointer (some ⟨P, k * 6, none⟩)) rfl rfl (by kernel_rfl) (by kernel_rfl) (by kernel_rfl) (fun _ _ _ h => h) (Or.inl ⟨by rfl, ?_⟩) hHeld ?_
  · intro w hSw; (try dsimp only at hSw); go_simp
  try simp only [Act.put, List.setIfInBounds_toArray, List.set_cons_zero, List.set_cons_succ]
  refine wpAnyH_takeL (i := 6) (d := some 17) (v := .agg #[.int .u8 sme, .int .i64 sep, .int .i64 sst, .int .u8 sto, .string scg, .bool skp]) rfl rfl (by kernel_rfl) (by kernel_rfl) (by kernel_rfl) (fun _ _ _ h => h) (Or.inl ⟨by rfl, ?_⟩) hHeld ?_
  · intro w hSw; (try dsimp only at hSw); go_simp
  try simp only [Act.put, List.setIfInBounds_toArray, List.set_cons_zero, List.set_cons_succ]
  refine wpAnyH_takeL (i := 7) (d := some 18) (v := .agg #[.int .i64 kd, .int .u8 fr, .int .u8 (k : Int), .int .i64 e, .string mg]) rfl rfl (by kernel_rfl) (by kernel_rfl) (by kernel_rfl) (fun _ _ _ h => h) (Or.inl ⟨by rfl, ?_⟩) hHeld ?_
  · intro w hSw; (try dsimp only at hSw); go_simp
  try simp only [Act.put, List.setIfInBounds_toArray, List.set_cons_zero, List.set_cons_succ]
  refine wpAnyH_ready (rs := [8, 13]) (by kernel_rfl) (by simp) ?_
  refine AllReadyH.cons rfl (fun K hK => ?_) (AllReadyH.cons rfl (fun K hK => ?_) AllReadyH.nil)
  · skip
    go_simp
    refine (H1 _).mono ?_
    rintro e u4 ⟨A2, n2, q2, rfl, hr, b4⟩
    have r5_m := le_on r3_m b4
    have l5 := le_tr l3 b4
    clear r3_m l3
    clear b4
    go_wp2_with fail
    have y6 := Lib.hid (show (fun V : World => V.cell? ⟨w.heap.size, 0, none⟩ = some (.int .i64 kd) ∧ V.cell? ⟨w.heap.size, 1, none⟩ = some (.int .u8 fr) ∧ V.cell? ⟨w.heap.size, 2, none⟩ = some (.int .u8 (k : Int)) ∧ V.cell? ⟨w.heap.size, 3, none⟩ = some (.int .i64 e) ∧ V.cell? ⟨w.heap.size, 4, none⟩ = some (.string mg) ∧ V.cell? ⟨P, k * 6, none⟩ = some (.int .u8 sme) ∧ V.cell? ⟨P, k * 6 + 1, none⟩ = some (.int .i64 sep) ∧ V.cell? ⟨P, k * 6 + 2, none⟩ = some (.int .i64 sst) ∧ V.cell? ⟨P, k * 6 + 3, none⟩ = some (.int .u8 sto) ∧ V.cell? ⟨P, k * 6 + 4, none⟩ = some (.string scg) ∧ V.cell? ⟨P, k * 6 + 5, none⟩ = some (.bool skp)) u4 from ⟨CB.cell r5_m 0, CB.cell r5_m 1, CB.cell r5_m 2, CB.cell r5_m 3, CB.cell r5_m 4, (PM.at_ (PM.on hp l5) hk hS).1, (PM.at_ (PM.on hp l5) hk hS).2.1, (PM.at_ (PM.on hp l5) hk hS).2.2.1, (PM.at_ (PM.on hp l5) hk hS).2.2.2.1, (PM.at_ (PM.on hp l5) hk hS).2.2.2.2.1, (PM.at_ (PM.on hp l5) hk hS).2.2.2.2.2⟩)
    refine hK.out _ _ y6.out (fun hHeld => ?_)
    clear hK K y6
    try simp only [Act.put, List.setIfInBounds_toArray, List.set_cons_zero, List.set_cons_succ]
    refine wpAnyH_takeL (i := 9) (d := some 10) (v := .tuple #[.agg #[.int .u8 zme, .int .i64 zep, .int .i64 zst, .int .u8 zto, .string zcg, .bool zkp], .slice A2 n2 q2, .int .i64 (ze : Int)]) rfl rfl (by kernel_rfl) (by kernel_rfl) (by kernel_rfl) (fun _ _ _ h => h) (Or.inl ⟨by rfl, ?_⟩) hHeld ?_
    · intro w hSw; (try dsimp only at hSw); go_simp
    try simp only [Act.put, List.setIfInBounds_toArray, List.set_cons_zero, List.set_cons_succ]
    refine wpAnyH_takeL (i := 10) (d := some 20) (v := .agg #[.int .u8 zme, .int .i64 zep, .int .i64 zst, .int .u8 zto, .string zcg, .bool zkp]) rfl rfl (by kernel_rfl) (by kernel_rfl) (by kernel_rfl) (fun _ _ _ h => h) (Or.inl ⟨by rfl, ?_⟩) hHeld ?_
    · intro w hSw; (try dsimp only at hSw); go_simp
    try simp only [Act.put, List.setIfInBounds_toArray, List.set_cons_zero, List.set_cons_succ]
    refine wpAnyH_takeL (i := 11) (d := some 21) (v := .slice A2 n2 q2) rfl rfl (by kernel_rfl) (by kernel_rfl) (by kernel_rfl) (fun _ _ _ h => h) (Or.inl ⟨by rfl, ?_⟩) hHeld ?_
    · intro w hSw; (try dsimp only at hSw); go_simp
    try simp only [Act.put, List.setIfInBounds_toArray, List.set_cons_zero, List.set_cons_succ]
    refine wpAnyH_takeL (i := 12) (d := some 22) (v := .int .i64 (ze : Int)) rfl rfl (by kernel_rfl) (by kernel_rfl) (by kernel_rfl) (fun _ _ _ h => h) (Or.inl ⟨by rfl, ?_⟩) hHeld ?_
    · intro w hSw; (try dsimp only at hSw); go_simp
    try simp only [Act.put, List.setIfInBounds_toArray, List.set_cons_zero, List.set_cons_succ]
    refine wpAnyH_ready (rs := [13]) (by kernel_rfl) (by simp) ?_
    refine AllReadyH.cons rfl (fun K hK => ?_) AllReadyH.nil
    go_simp
    go_wp2_with fail
    have av_x : w.heap.size ≤ u4.heap.size := by have := l5.size; omega
    obtain ⟨W7, hW7⟩ : ∃ V, u4.alloc (.cells #[.int .u8 0, .int .i64 0, .int .i64 0, .int .u8 0, .string ⟨#[]⟩, .bool false] 31) = V := ⟨_, rfl⟩
    have zW7 : u4.heap.size = u4.heap.size := by rfl
    have nW7 : CB W7 (u4.heap.size) 31 #[.int .u8 0, .int .i64 0, .int .i64 0, .int .u8 0, .string ⟨#[]⟩, .bool false] := by rw [← zW7, ← hW7]; exact CB.new _ _ _
    have bW7 : Below u4.heap.size u4 W7 := by rw [← hW7]; exact le_al _ _
    have neW7_m : w.heap.size ≠ u4.heap.size := by have := CB.lt r5_m; omega
    have HW7 := Lib.hid hW7
    clear hW7 zW7
    have q8_z := RS.on hr bW7
    have r8_m := le_on r5_m bW7
    have l8 := le_tr l5 bW7
    clear r5_m l5
    clear hr
    clear bW7
    rw [HW7.out]
    have y9 := Lib.hid (show (fun V : World => V.cell? ⟨w.heap.size, 0, none⟩ = some (.int .i64 kd) ∧ V.cell? ⟨w.heap.size, 1, none⟩ = some (.int .u8 fr) ∧ V.cell? ⟨w.heap.size, 2, none⟩ = some (.int .u8 (k : Int)) ∧ V.cell? ⟨w.heap.size, 3, none⟩ = some (.int .i64 e) ∧ V.cell? ⟨w.heap.size, 4, none⟩ = some (.string mg) ∧ V.cell? ⟨P, k * 6, none⟩ = some (.int .u8 sme) ∧ V.cell? ⟨P, k * 6 + 1, none⟩ = some (.int .i64 sep) ∧ V.cell? ⟨P, k * 6 + 2, none⟩ = some (.int .i64 sst) ∧ V.cell? ⟨P, k * 6 + 3, none⟩ = some (.int .u8 sto) ∧ V.cell? ⟨P, k * 6 + 4, none⟩ = some (.string scg) ∧ V.cell? ⟨P, k * 6 + 5, none⟩ = some (.bool skp)) W7 from ⟨CB.cell r8_m 0, CB.cell r8_m 1, CB.cell r8_m 2, CB.cell r8_m 3, CB.cell r8_m 4, (PM.at_ (PM.on hp l8) hk hS).1, (PM.at_ (PM.on hp l8) hk hS).2.1, (PM.at_ (PM.on hp l8) hk hS).2.2.1, (PM.at_ (PM.on hp l8) hk hS).2.2.2.1, (PM.at_ (PM.on hp l8) hk hS).2.2.2.2.1, (PM.at_ (PM.on hp l8) hk hS).2.2.2.2.2⟩)
    refine hK.out _ _ y9.out (fun hHeld => ?_)
    clear hK K y9
    try simp only [Act.put, List.setIfInBounds_toArray, List.set_cons_zero, List.set_cons_succ]
    refine wpAnyH_ready (rs := [14]) (by kernel_rfl) (by simp) ?_
    refine AllReadyH.cons rfl (fun K hK => ?_) AllReadyH.nil
    have f9_x0 : W7.cell? ⟨u4.heap.size, 0, none⟩ = some (.int .u8 0) := CB.cell nW7 0
    have z9_x0 : W7.frozen? ⟨u4.heap.size, 0, none⟩ = false := CB.frozen nW7 0
    have f9_x1 : W7.cell? ⟨u4.heap.size, 1, none⟩ = some (.int .i64 0) := CB.cell nW7 1
    have z9_x1 : W7.frozen? ⟨u4.heap.size, 1, none⟩ = false := CB.frozen nW7 1
    have f9_x2 : W7.cell? ⟨u4.heap.size, 2, none⟩ = some (.int .i64 0) := CB.cell nW7 2
    have z9_x2 : W7.frozen? ⟨u4.heap.size, 2, none⟩ = false := CB.frozen nW7 2
    have f9_x3 : W7.cell? ⟨u4.heap.size, 3, none⟩ = some (.int .u8 0) := CB.cell nW7 3
    have z9_x3 : W7.frozen? ⟨u4.heap.size, 3, none⟩ = false := CB.frozen nW7 3
    have f9_x4 : W7.cell? ⟨u4.heap.size, 4, none⟩ = some (.string ⟨#[]⟩) := CB.cell nW7 4
    have z9_x4 : W7.frozen? ⟨u4.heap.size, 4, none⟩ = false := CB.frozen nW7 4
    have f9_x5 : W7.cell? ⟨u4.heap.size, 5, none⟩ = some (.bool false) := CB.cell nW7 5
    have z9_x5 : W7.frozen? ⟨u4.heap.size, 5, none⟩ = false := CB.frozen nW7 5
    go_simp
    go_wp2_with fail
    have g10_z := (RS.far (RS.far (RS.far (RS.far (RS.far (RS.far q8_z nW7 (by decide) 0 (.int .u8 zme)) (CB.put nW7 0 (.int .u8 zme)) (by decide) 1 (.int .i64 zep)) (CB.put (CB.put nW7 0 (.int .u8 zme)) 1 (.int .i64 zep)) (by decide) 2 (.int .i64 zst)) (CB.put (CB.put (CB.put nW7 0 (.int .u8 zme)) 1 (.int .i64 zep)) 2 (.int .i64 zst)) (by decide) 3 (.int .u8 zto)) (CB.put (CB.put (CB.put (CB.put nW7 0 (.int .u8 zme)) 1 (.int .i64 zep)) 2 (.int .i64 zst)) 3 (.int .u8 zto)) (by decide) 4 (.string zcg)) (CB.put (CB.put (CB.put (CB.put (CB.put nW7 0 (.int .u8 zme)) 1 (.int .i64 zep)) 2 (.int .i64 zst)) 3 (.int .u8 zto)) 4 (.string zcg)) (by decide) 5 (.bool zkp))
    have f9_x0 : W7.cell? ⟨u4.heap.size, 0, none⟩ = some (.int .u8 0) := CB.cell nW7 0
    have z9_x0 : W7.frozen? ⟨u4.heap.size, 0, none⟩ = false := CB.frozen nW7 0
    have f9_x1 : W7.cell? ⟨u4.heap.size, 1, none⟩ = some (.int .i64 0) := CB.cell nW7 1
    have z9_x1 : W7.frozen? ⟨u4.heap.size, 1, none⟩ = false := CB.frozen nW7 1
    have f9_x2 : W7.cell? ⟨u4.heap.size, 2, none⟩ = some (.int .i64 0) := CB.cell nW7 2
    have z9_x2 : W7.frozen? ⟨u4.heap.size, 2, none⟩ = false := CB.frozen nW7 2
    have f9_x3 : W7.cell? ⟨u4.heap.size, 3, none⟩ = some (.int .u8 0) := CB.cell nW7 3
    have z9_x3 : W7.frozen? ⟨u4.heap.size, 3, none⟩ = false := CB.frozen nW7 3
    have f9_x4 : W7.cell? ⟨u4.heap.size, 4, none⟩ = some (.string ⟨#[]⟩) := CB.cell nW7 4
    have z9_x4 : W7.frozen? ⟨u4.heap.size, 4, none⟩ = false := CB.frozen nW7 4
    have f9_x5 : W7.cell? ⟨u4.heap.size, 5, none⟩ = some (.bool false) := CB.cell nW7 5
    have z9_x5 : W7.frozen? ⟨u4.heap.size, 5, none⟩ = false := CB.frozen nW7 5
    obtain ⟨V10, hV10⟩ : ∃ V, (((((W7.setCell ⟨u4.heap.size, 0, none⟩ (.int .u8 zme)).setCell ⟨u4.heap.size, 1, none⟩ (.int .i64 zep)).setCell ⟨u4.heap.size, 2, none⟩ (.int .i64 zst)).setCell ⟨u4.heap.size, 3, none⟩ (.int .u8 zto)).setCell ⟨u4.heap.size, 4, none⟩ (.string zcg)).setCell ⟨u4.heap.size, 5, none⟩ (.bool zkp) = V := ⟨_, rfl⟩
    have nV10 : CB V10 (u4.heap.size) 31 #[.int .u8 zme, .int .i64 zep, .int .i64 zst, .int .u8 zto, .string zcg, .bool zkp] := by rw [← hV10]; exact cb_cast (CB.put (CB.put (CB.put (CB.put (CB.put (CB.put nW7 0 (.int .u8 zme)) 1 (.int .i64 zep)) 2 (.int .i64 zst)) 3 (.int .u8 zto)) 4 (.string zcg)) 5 (.bool zkp)) (by kernel_rfl)
    have mV10_m : CB V10 (w.heap.size) 37 #[.int .i64 kd, .int .u8 fr, .int .u8 (k : Int), .int .i64 e, .string mg] := by rw [← hV10]; exact (CB.far (CB.far (CB.far (CB.far (CB.far (CB.far r8_m (p := ⟨u4.heap.size, 0, none⟩) neW7_m (.int .u8 zme)) (p := ⟨u4.heap.size, 1, none⟩) neW7_m (.int .i64 zep)) (p := ⟨u4.heap.size, 2, none⟩) neW7_m (.int .i64 zst)) (p := ⟨u4.heap.size, 3, none⟩) neW7_m (.int .u8 zto)) (p := ⟨u4.heap.size, 4, none⟩) neW7_m (.string zcg)) (p := ⟨u4.heap.size, 5, none⟩) neW7_m (.bool zkp))
    have oV10 := (Below.setCell (Below.setCell (Below.setCell (Below.setCell (Below.setCell (Below.setCell l8 (p := ⟨u4.heap.size, 0, none⟩) (by have := av_x; dsimp only; omega) (.int .u8 zme)) (p := ⟨u4.heap.size, 1, none⟩) (by have := av_x; dsimp only; omega) (.int .i64 zep)) (p := ⟨u4.heap.size, 2, none⟩) (by have := av_x; dsimp only; omega) (.int .i64 zst)) (p := ⟨u4.heap.size, 3, none⟩) (by have := av_x; dsimp only; omega) (.int .u8 zto)) (p := ⟨u4.heap.size, 4, none⟩) (by have := av_x; dsimp only; omega) (.string zcg)) (p := ⟨u4.heap.size, 5, none⟩) (by have := av_x; dsimp only; omega) (.bool zkp))
    rw [hV10] at oV10
    have HV10 := Lib.hid hV10
    have V10_eq := hV10
    clear hV10
    clear nW7 r8_m l8
    have q10_z : RS V10 37 mc 5 A2 n2 q2 zr := by rw [← V10_eq]; exact g10_z
    clear g10_z q8_z
    clear V10_eq
    rw [HV10.out]
    clear f9_x0 z9_x0 f9_x1 z9_x1 f9_x2 z9_x2 f9_x3 z9_x3 f9_x4 z9_x4 f9_x5 z9_x5
    have y11 := Lib.hid (show (fun V : World => V.cell? ⟨w.heap.size, 0, none⟩ = some (.int .i64 kd) ∧ V.cell? ⟨w.heap.size, 1, none⟩ = some (.int .u8 fr) ∧ V.cell? ⟨w.heap.size, 2, none⟩ = some (.int .u8 (k : Int)) ∧ V.cell? ⟨w.heap.size, 3, none⟩ = some (.int .i64 e) ∧ V.cell? ⟨w.heap.size, 4, none⟩ = some (.string mg) ∧ V.cell? ⟨P, k * 6, none⟩ = some (.int .u8 sme) ∧ V.cell? ⟨P, k * 6 + 1, none⟩ = some (.int .i64 sep) ∧ V.cell? ⟨P, k * 6 + 2, none⟩ = some (.int .i64 sst) ∧ V.cell? ⟨P, k * 6 + 3, none⟩ = some (.int .u8 sto) ∧ V.cell? ⟨P, k * 6 + 4, none⟩ = some (.string scg) ∧ V.cell? ⟨P, k * 6 + 5, none⟩ = some (.bool skp)) V10 from ⟨CB.cell mV10_m 0, CB.cell mV10_m 1, CB.cell mV10_m 2, CB.cell mV10_m 3, CB.cell mV10_m 4, (PM.at_ (PM.on hp oV10) hk hS).1, (PM.at_ (PM.on hp oV10) hk hS).2.1, (PM.at_ (PM.on hp oV10) hk hS).2.2.1, (PM.at_ (PM.on hp oV10) hk hS).2.2.2.1, (PM.at_ (PM.on hp oV10) hk hS).2.2.2.2.1, (PM.at_ (PM.on hp oV10) hk hS).2.2.2.2.2⟩)
    refine hK.out _ _ y11.out (fun hHeld => ?_)
    clear hK K y11
    try simp only [Act.put, List.setIfInBounds_toArray, List.set_cons_zero, List.set_cons_succ]
    refine wpAnyH_takeL (i := 15) (d := some 5) (v := .slice A2 n2 q2) rfl rfl (by kernel_rfl) (by kernel_rfl) (by kernel_rfl) (fun _ _ _ h => h) (Or.inl ⟨by rfl, ?_⟩) hHeld ?_
    · intro w hSw; (try dsimp only at hSw); go_simp
    try simp only [Act.put, List.setIfInBounds_toArray, List.set_cons_zero, List.set_cons_succ]
    refine wpAnyH_takeL (i := 16) (d := some 6) (v := .int .i64 (ze : Int)) rfl rfl (by kernel_rfl) (by kernel_rfl) (by kernel_rfl) (fun _ _ _ h => h) (Or.inl ⟨by rfl, ?_⟩) hHeld ?_
    · intro w hSw; (try dsimp only at hSw); go_simp
    try simp only [Act.put, List.setIfInBounds_toArray, List.set_cons_zero, List.set_cons_succ]
    refine wpAnyH_done (by kernel_rfl) ?_ _
    have f11_m0 : V10.cell? ⟨w.heap.size, 0, none⟩ = some (.int .i64 kd) := CB.cell mV10_m 0
    have f11_m1 : V10.cell? ⟨w.heap.size, 1, none⟩ = some (.int .u8 fr) := CB.cell mV10_m 1
    have f11_m2 : V10.cell? ⟨w.heap.size, 2, none⟩ = some (.int .u8 (k : Int)) := CB.cell mV10_m 2
    have f11_m3 : V10.cell? ⟨w.heap.size, 3, none⟩ = some (.int .i64 e) := CB.cell mV10_m 3
    have f11_m4 : V10.cell? ⟨w.heap.size, 4, none⟩ = some (.string mg) := CB.cell mV10_m 4
    have f11_x0 : V10.cell? ⟨u4.heap.size, 0, none⟩ = some (.int .u8 zme) := CB.cell nV10 0
    have f11_x1 : V10.cell? ⟨u4.heap.size, 1, none⟩ = some (.int .i64 zep) := CB.cell nV10 1
    have f11_x2 : V10.cell? ⟨u4.heap.size, 2, none⟩ = some (.int .i64 zst) := CB.cell nV10 2
    have f11_x3 : V10.cell? ⟨u4.heap.size, 3, none⟩ = some (.int .u8 zto) := CB.cell nV10 3
    have f11_x4 : V10.cell? ⟨u4.heap.size, 4, none⟩ = some (.string zcg) := CB.cell nV10 4
    have f11_x5 : V10.cell? ⟨u4.heap.size, 5, none⟩ = some (.bool zkp) := CB.cell nV10 5
    go_wp2_with fail
    clear f11_m0 f11_m1 f11_m2 f11_m3 f11_m4 f11_x0 f11_x1 f11_x2 f11_x3 f11_x4 f11_x5
    go_wp2_with fail
    have y12 := Lib.hid (show (fun V : World => V.cell? ⟨w.heap.size, 0, none⟩ = some (.int .i64 kd) ∧ V.cell? ⟨w.heap.size, 1, none⟩ = some (.int .u8 fr) ∧ V.cell? ⟨w.heap.size, 2, none⟩ = some (.int .u8 (k : Int)) ∧ V.cell? ⟨w.heap.size, 3, none⟩ = some (.int .i64 e) ∧ V.cell? ⟨w.heap.size, 4, none⟩ = some (.string mg) ∧ V.cell? ⟨u4.heap.size, 0, none⟩ = some (.int .u8 zme) ∧ V.cell? ⟨u4.heap.size, 1, none⟩ = some (.int .i64 zep) ∧ V.cell? ⟨u4.heap.size, 2, none⟩ = some (.int .i64 zst) ∧ V.cell? ⟨u4.heap.size, 3, none⟩ = some (.int .u8 zto) ∧ V.cell? ⟨u4.heap.size, 4, none⟩ = some (.string zcg) ∧ V.cell? ⟨u4.heap.size, 5, none⟩ = some (.bool zkp)) V10 from ⟨CB.cell mV10_m 0, CB.cell mV10_m 1, CB.cell mV10_m 2, CB.cell mV10_m 3, CB.cell mV10_m 4, CB.cell nV10 0, CB.cell nV10 1, CB.cell nV10 2, CB.cell nV10 3, CB.cell nV10 4, CB.cell nV10 5⟩)
    refine wp_region_held_drew (S := (fun V : World => V.cell? ⟨w.heap.size, 0, none⟩ = some (.int .i64 kd) ∧ V.cell? ⟨w.heap.size, 1, none⟩ = some (.int .u8 fr) ∧ V.cell? ⟨w.heap.size, 2, none⟩ = some (.int .u8 (k : Int)) ∧ V.cell? ⟨w.heap.size, 3, none⟩ = some (.int .i64 e) ∧ V.cell? ⟨w.heap.size, 4, none⟩ = some (.string mg) ∧ V.cell? ⟨u4.heap.size, 0, none⟩ = some (.int .u8 zme) ∧ V.cell? ⟨u4.heap.size, 1, none⟩ = some (.int .i64 zep) ∧ V.cell? ⟨u4.heap.size, 2, none⟩ = some (.int .i64 zst) ∧ V.cell? ⟨u4.heap.size, 3, none⟩ = some (.int .u8 zto) ∧ V.cell? ⟨u4.heap.size, 4, none⟩ = some (.string zcg) ∧ V.cell? ⟨u4.heap.size, 5, none⟩ = some (.bool zkp))) (by kernel_rfl) y12.out (fun hHeld => ?_)
    obtain ⟨D12, hD12⟩ : ∃ V, V10.drew = V := ⟨_, rfl⟩
    have b12 : Below V10.heap.size V10 D12 := by rw [← hD12]; exact le_dr (Below.refl _ _)
    rw [hD12] at hHeld ⊢
    clear hD12
    have q13_z := RS.on q10_z b12
    have r13_m := le_on mV10_m b12
    have r13_x := le_on nV10 b12
    have l13 := le_tr oV10 b12
    clear mV10_m nV10 oV10
    clear q10_z
    clear b12
    refine wpAnyH_takeL (i := 0) (d := some 23) (v := .pointer (some ⟨P, 0, none⟩)) rfl rfl (by kernel_rfl) (by kernel_rfl) (by kernel_rfl) (fun _ _ _ h => h) (Or.inl ⟨by rfl, ?_⟩) hHeld ?_
    · intro w hSw; (try dsimp only at hSw); go_simp
    try simp only [Act.put, List.setIfInBounds_toArray, List.set_cons_zero, List.set_cons_succ]
    refine wpAnyH_takeL (i := 1) (d := some 24) (v := .pointer (some ⟨w.heap.size, 2, none⟩)) rfl rfl (by kernel_rfl) (by kernel_rfl) (by kernel_rfl) (fun _ _ _ h => h) (Or.inl ⟨by rfl, ?_⟩) hHeld ?_
    · intro w hSw; (try dsimp only at hSw); go_simp
    try simp only [Act.put, List.setIfInBounds_toArray, List.set_cons_zero, List.set_cons_succ]
    refine wpAnyH_takeL (i := 2) (d := some 25) (v := .int .u8 (k : Int)) rfl rfl (by kernel_rfl) (by kernel_rfl) (by kernel_rfl) (fun _ _ _ h => h) (Or.inl ⟨by rfl, ?_⟩) hHeld ?_
    · intro w hSw; (try dsimp only at hSw); go_simp
    try simp only [Act.put, List.setIfInBounds_toArray, List.set_cons_zero, List.set_cons_succ]
    refine wpAnyH_takeL (i := 3) (d := some 26) (v := .agg #[.int .u8 zme, .int .i64 zep, .int .i64 zst, .int .u8 zto, .string zcg, .bool zkp]) rfl rfl (by kernel_rfl) (by kernel_rfl) (by kernel_rfl) (fun _ _ _ h => h) (Or.inl ⟨by rfl, ?_⟩) hHeld ?_
    · intro w hSw; (try dsimp only at hSw); go_simp
    try simp only [Act.put, List.setIfInBounds_toArray, List.set_cons_zero, List.set_cons_succ]
    refine wpAnyH_takeL (i := 4) (d := some 27) (v := .pointer (some ⟨P, 0, none⟩)) rfl rfl (by kernel_rfl) (by kernel_rfl) (by kernel_rfl) (fun _ _ _ h => h) (Or.inl ⟨by rfl, ?_⟩) hHeld ?_
    · intro w hSw; (try dsimp only at hSw); go_simp
    try simp only [Act.put, List.setIfInBounds_toArray, List.set_cons_zero, List.set_cons_succ]
    refine wpAnyH_takeL (i := 5) (d := some 28) (v := .pointer (some ⟨P, 0, none⟩)) rfl rfl (by kernel_rfl) (by kernel_rfl) (by kernel_rfl) (fun _ _ _ h => h) (Or.inl ⟨by rfl, ?_⟩) hHeld ?_
    · intro w hSw; (try dsimp only at hSw); go_simp
    try simp only [Act.put, List.setIfInBounds_toArray, List.set_cons_zero, List.set_cons_succ]
    refine wpAnyH_takeL (i := 6) (d := some 29) (v := .pointer (some ⟨P, k * 6, none⟩)) rfl rfl (by kernel_rfl) (by kernel_rfl) (by kernel_rfl) (fun _ _ _ h => h) (Or.inl ⟨by rfl, ?_⟩) hHeld ?_
    · intro w hSw; (try dsimp only at hSw); go_simp
    try simp only [Act.put, List.setIfInBounds_toArray, List.set_cons_zero, List.set_cons_succ]
    refine wpAnyH_ready (rs := [7]) (by kernel_rfl) (by simp) ?_
    refine AllReadyH.cons rfl (fun K hK => ?_) AllReadyH.nil
    have f13_ps0 : D12.cell? ⟨P, k * 6, none⟩ = some (.int .u8 sme) := (PM.at_ (PM.on hp l13) hk hS).1
    have f13_ps1 : D12.cell? ⟨P, k * 6 + 1, none⟩ = some (.int .i64 sep) := (PM.at_ (PM.on hp l13) hk hS).2.1
    have f13_ps2 : D12.cell? ⟨P, k * 6 + 2, none⟩ = some (.int .i64 sst) := (PM.at_ (PM.on hp l13) hk hS).2.2.1
    have f13_ps3 : D12.cell? ⟨P, k * 6 + 3, none⟩ = some (.int .u8 sto) := (PM.at_ (PM.on hp l13) hk hS).2.2.2.1
    have f13_ps4 : D12.cell? ⟨P, k * 6 + 4, none⟩ = some (.string scg) := (PM.at_ (PM.on hp l13) hk hS).2.2.2.2.1
    have f13_ps5 : D12.cell? ⟨P, k * 6 + 5, none⟩ = some (.bool skp) := (PM.at_ (PM.on hp l13) hk hS).2.2.2.2.2
    have z13_ps0 : D12.frozen? ⟨P, k * 6, none⟩ = false := PM.froz (PM.on hp l13) _
    have z13_ps1 : D12.frozen? ⟨P, k * 6 + 1, none⟩ = false := PM.froz (PM.on hp l13) _
    have z13_ps2 : D12.frozen? ⟨P, k * 6 + 2, none⟩ = false := PM.froz (PM.on hp l13) _
    have z13_ps3 : D12.frozen? ⟨P, k * 6 + 3, none⟩ = false := PM.froz (PM.on hp l13) _
    have z13_ps4 : D12.frozen? ⟨P, k * 6 + 4, none⟩ = false := PM.froz (PM.on hp l13) _
    have z13_ps5 : D12.frozen? ⟨P, k * 6 + 5, none⟩ = false := PM.froz (PM.on hp l13) _
    go_simp
    go_wp2_with fail
    obtain ⟨V9, hV9, hp9, hs9, hm9, hl9, hk9, hr9, hq9⟩ := PM.put6 (PM.on hp l13) (Seg.on hs l13) (MH.on hm l13) hk zme zep zst zto zcg zkp
    have j9_m := hk9 _ _ _ (PM.ne (PM.on hp l13) r13_m (by decide)) r13_m
    have j9_x := hk9 _ _ _ (PM.ne (PM.on hp l13) r13_x (by decide)) r13_x
    have j9_z := hr9 _ _ _ _ q13_z
    have l9 := hl9 _ _ (Below.mono l13 hB) hP
    rw [hV9]
    clear hV9 hk9 hl9 hr9 hq9
    have y14 := Lib.hid (show (fun V : World => V.cell? ⟨w.heap.size, 0, none⟩ = some (.int .i64 kd) ∧ V.cell? ⟨w.heap.size, 1, none⟩ = some (.int .u8 fr) ∧ V.cell? ⟨w.heap.size, 2, none⟩ = some (.int .u8 (k : Int)) ∧ V.cell? ⟨w.heap.size, 3, none⟩ = some (.int .i64 e) ∧ V.cell? ⟨w.heap.size, 4, none⟩ = some (.string mg) ∧ V.cell? ⟨u4.heap.size, 0, none⟩ = some (.int .u8 zme) ∧ V.cell? ⟨u4.heap.size, 1, none⟩ = some (.int .i64 zep) ∧ V.cell? ⟨u4.heap.size, 2, none⟩ = some (.int .i64 zst) ∧ V.cell? ⟨u4.heap.size, 3, none⟩ = some (.int .u8 zto) ∧ V.cell? ⟨u4.heap.size, 4, none⟩ = some (.string zcg) ∧ V.cell? ⟨u4.heap.size, 5, none⟩ = some (.bool zkp)) V9 from ⟨CB.cell j9_m 0, CB.cell j9_m 1, CB.cell j9_m 2, CB.cell j9_m 3, CB.cell j9_m 4, CB.cell j9_x 0, CB.cell j9_x 1, CB.cell j9_x 2, CB.cell j9_x 3, CB.cell j9_x 4, CB.cell j9_x 5⟩)
    refine hK.out _ _ y14.out (fun hHeld => ?_)
    clear hK K y14
    try simp only [Act.put, List.setIfInBounds_toArray, List.set_cons_zero, List.set_cons_succ]
    refine wpAnyH_done (by kernel_rfl) ?_ _
    have hrest := PM.rest hp9
    obtain ⟨e24, e25, e26⟩ := hrest
    clear e25 e26
    have z24 : V9.frozen? ⟨P, 24, none⟩ = false := PM.froz hp9 _
    have hnn : n ≤ 100000 := by omega
    by_cases h5 : n < 500
    · have h5' : decide ((n : Int) < 500) = true := by simp; omega
      have HL2 := Lib.hid (show n + n2 ≤ maxLen ∧ (n + n2) * 40 ≤ 140737488355328 by have h1 := RS.len j9_z; have h2 := HR.out; simp only [maxLen]; omega)
      have sr := (RS.rr j9_z).src
      obtain ⟨N, hN⟩ : ∃ N, n + n2 = N := ⟨_, rfl⟩
      obtain ⟨p1, p2⟩ := HL2.out
      go_wp2_with (at_builtin; refine wpList_append_src _ rfl (.tmp 40) (.tmp 41) _ rfl 37 i0 _ 5 40 Try.underlying32 Hi.out Hz.out Hz1.out Hz2.out p4 (by decide) rfl hs9 rfl sr (rc_one 5 _) p1 p2 N hN ?_; intro A4 q4 G4 V4 s4 g4 m4; obtain ⟨hp4, V5, hV5, hl5, hb5, _⟩ := said_end l9 hB hp9 hP hs9 hG hm9 hbm s4 g4 m4; have HV5 := Lib.hid hV5; have e4 := (PM.rest hp4).1; have z4 : V4.frozen? ⟨P, 24, none⟩ = false := PM.froz hp4 _; clear hV5)
      rw [HV5.out]
      rw [← HL3.out, if_pos (by omega)]
      exact bodyPost_ret (v := .tuple #[]) (by simp [results, Try.results49, go_sem]) rfl ⟨⟨_, rfl⟩, hl5, hb5⟩
    · have h5' : decide ((n : Int) < 500) = false := by simp; omega
      go_wp2_with fail
      rw [← HL3.out, if_neg (by omega)]
      exact bodyPost_ret (v := .tuple #[]) (by simp [results, Try.results49, go_sem]) rfl ⟨⟨_, rfl⟩, ⟨⟨A, n, q, G, bm, hp9, hs9, hG, hm9, hbm⟩, hP⟩, l9⟩
  · skip
    go_simp
    go_wp2_with fail
    have av_x : w.heap.size ≤ D2.heap.size := by have := l3.size; omega
    obtain ⟨W4, hW4⟩ : ∃ V, D2.alloc (.cells #[.int .u8 0, .int .i64 0, .int .i64 0, .int .u8 0, .string ⟨#[]⟩, .bool false] 31) = V := ⟨_, rfl⟩
    have zW4 : D2.heap.size = D2.heap.size := by rfl
    have nW4 : CB W4 (D2.heap.size) 31 #[.int .u8 0, .int .i64 0, .int .i64 0, .int .u8 0, .string ⟨#[]⟩, .bool false] := by rw [← zW4, ← hW4]; exact CB.new _ _ _
    have bW4 : Below D2.heap.size D2 W4 := by rw [← hW4]; exact le_al _ _
    have neW4_m : w.heap.size ≠ D2.heap.size := by have := CB.lt r3_m; omega
    have HW4 := Lib.hid hW4
    clear hW4 zW4
    have r5_m := le_on r3_m bW4
    have l5 := le_tr l3 bW4
    clear r3_m l3
    clear bW4
    rw [HW4.out]
    have y6 := Lib.hid (show (fun V : World => V.cell? ⟨w.heap.size, 0, none⟩ = some (.int .i64 kd) ∧ V.cell? ⟨w.heap.size, 1, none⟩ = some (.int .u8 fr) ∧ V.cell? ⟨w.heap.size, 2, none⟩ = some (.int .u8 (k : Int)) ∧ V.cell? ⟨w.heap.size, 3, none⟩ = some (.int .i64 e) ∧ V.cell? ⟨w.heap.size, 4, none⟩ = some (.string mg) ∧ V.cell? ⟨P, k * 6, none⟩ = some (.int .u8 sme) ∧ V.cell? ⟨P, k * 6 + 1, none⟩ = some (.int .i64 sep) ∧ V.cell? ⟨P, k * 6 + 2, none⟩ = some (.int .i64 sst) ∧ V.cell? ⟨P, k * 6 + 3, none⟩ = some (.int .u8 sto) ∧ V.cell? ⟨P, k * 6 + 4, none⟩ = some (.string scg) ∧ V.cell? ⟨P, k * 6 + 5, none⟩ = some (.bool skp)) W4 from ⟨CB.cell r5_m 0, CB.cell r5_m 1, CB.cell r5_m 2, CB.cell r5_m 3, CB.cell r5_m 4, (PM.at_ (PM.on hp l5) hk hS).1, (PM.at_ (PM.on hp l5) hk hS).2.1, (PM.at_ (PM.on hp l5) hk hS).2.2.1, (PM.at_ (PM.on hp l5) hk hS).2.2.2.1, (PM.at_ (PM.on hp l5) hk hS).2.2.2.2.1, (PM.at_ (PM.on hp l5) hk hS).2.2.2.2.2⟩)
    refine hK.out _ _ y6.out (fun hHeld => ?_)
    clear hK K y6
    try simp only [Act.put, List.setIfInBounds_toArray, List.set_cons_zero, List.set_cons_succ]
    refine wpAnyH_ready (rs := [8]) (by kernel_rfl) (by simp) ?_
    refine AllReadyH.cons rfl (fun K hK => ?_) AllReadyH.nil
    go_simp
    refine (H1 _).mono ?_
    rintro e u7 ⟨A2, n2, q2, rfl, hr, b7⟩
    have r8_m := le_on r5_m b7
    have r8_x := le_on nW4 b7
    have l8 := le_tr l5 b7
    clear r5_m nW4 l5
    clear b7
    go_wp2_with fail
    have y9 := Lib.hid (show (fun V : World => V.cell? ⟨w.heap.size, 0, none⟩ = some (.int .i64 kd) ∧ V.cell? ⟨w.heap.size, 1, none⟩ = some (.int .u8 fr) ∧ V.cell? ⟨w.heap.size, 2, none⟩ = some (.int .u8 (k : Int)) ∧ V.cell? ⟨w.heap.size, 3, none⟩ = some (.int .i64 e) ∧ V.cell? ⟨w.heap.size, 4, none⟩ = some (.string mg) ∧ V.cell? ⟨P, k * 6, none⟩ = some (.int .u8 sme) ∧ V.cell? ⟨P, k * 6 + 1, none⟩ = some (.int .i64 sep) ∧ V.cell? ⟨P, k * 6 + 2, none⟩ = some (.int .i64 sst) ∧ V.cell? ⟨P, k * 6 + 3, none⟩ = some (.int .u8 sto) ∧ V.cell? ⟨P, k * 6 + 4, none⟩ = some (.string scg) ∧ V.cell? ⟨P, k * 6 + 5, none⟩ = some (.bool skp)) u7 from ⟨CB.cell r8_m 0, CB.cell r8_m 1, CB.cell r8_m 2, CB.cell r8_m 3, CB.cell r8_m 4, (PM.at_ (PM.on hp l8) hk hS).1, (PM.at_ (PM.on hp l8) hk hS).2.1, (PM.at_ (PM.on hp l8) hk hS).2.2.1, (PM.at_ (PM.on hp l8) hk hS).2.2.2.1, (PM.at_ (PM.on hp l8) hk hS).2.2.2.2.1, (PM.at_ (PM.on hp l8) hk hS).2.2.2.2.2⟩)
    refine hK.out _ _ y9.out (fun hHeld => ?_)
    clear hK K y9
    try simp only [Act.put, List.setIfInBounds_toArray, List.set_cons_zero, List.set_cons_succ]
    refine wpAnyH_takeL (i := 9) (d := some 10) (v := .tuple #[.agg #[.int .u8 zme, .int .i64 zep, .int .i64 zst, .int .u8 zto, .string zcg, .bool zkp], .slice A2 n2 q2, .int .i64 (ze : Int)]) rfl rfl (by kernel_rfl) (by kernel_rfl) (by kernel_rfl) (fun _ _ _ h => h) (Or.inl ⟨by rfl, ?_⟩) hHeld ?_
    · intro w hSw; (try dsimp only at hSw); go_simp
    try simp only [Act.put, List.setIfInBounds_toArray, List.set_cons_zero, List.set_cons_succ]
    refine wpAnyH_takeL (i := 10) (d := some 20) (v := .agg #[.int .u8 zme, .int .i64 zep, .int .i64 zst, .int .u8 zto, .string zcg, .bool zkp]) rfl rfl (by kernel_rfl) (by kernel_rfl) (by kernel_rfl) (fun _ _ _ h => h) (Or.inl ⟨by rfl, ?_⟩) hHeld ?_
    · intro w hSw; (try dsimp only at hSw); go_simp
    try simp only [Act.put, List.setIfInBounds_toArray, List.set_cons_zero, List.set_cons_succ]
    refine wpAnyH_takeL (i := 11) (d := some 21) (v := .slice A2 n2 q2) rfl rfl (by kernel_rfl) (by kernel_rfl) (by kernel_rfl) (fun _ _ _ h => h) (Or.inl ⟨by rfl, ?_⟩) hHeld ?_
    · intro w hSw; (try dsimp only at hSw); go_simp
    try simp only [Act.put, List.setIfInBounds_toArray, List.set_cons_zero, List.set_cons_succ]
    refine wpAnyH_takeL (i := 12) (d := some 22) (v := .int .i64 (ze : Int)) rfl rfl (by kernel_rfl) (by kernel_rfl) (by kernel_rfl) (fun _ _ _ h => h) (Or.inl ⟨by rfl, ?_⟩) hHeld ?_
    · intro w hSw; (try dsimp only at hSw); go_simp
    try simp only [Act.put, List.setIfInBounds_toArray, List.set_cons_zero, List.set_cons_succ]
    refine wpAnyH_ready (rs := [14]) (by kernel_rfl) (by simp) ?_
    refine AllReadyH.cons rfl (fun K hK => ?_) AllReadyH.nil
    have f9_x0 : u7.cell? ⟨D2.heap.size, 0, none⟩ = some (.int .u8 0) := CB.cell r8_x 0
    have z9_x0 : u7.frozen? ⟨D2.heap.size, 0, none⟩ = false := CB.frozen r8_x 0
    have f9_x1 : u7.cell? ⟨D2.heap.size, 1, none⟩ = some (.int .i64 0) := CB.cell r8_x 1
    have z9_x1 : u7.frozen? ⟨D2.heap.size, 1, none⟩ = false := CB.frozen r8_x 1
    have f9_x2 : u7.cell? ⟨D2.heap.size, 2, none⟩ = some (.int .i64 0) := CB.cell r8_x 2
    have z9_x2 : u7.frozen? ⟨D2.heap.size, 2, none⟩ = false := CB.frozen r8_x 2
    have f9_x3 : u7.cell? ⟨D2.heap.size, 3, none⟩ = some (.int .u8 0) := CB.cell r8_x 3
    have z9_x3 : u7.frozen? ⟨D2.heap.size, 3, none⟩ = false := CB.frozen r8_x 3
    have f9_x4 : u7.cell? ⟨D2.heap.size, 4, none⟩ = some (.string ⟨#[]⟩) := CB.cell r8_x 4
    have z9_x4 : u7.frozen? ⟨D2.heap.size, 4, none⟩ = false := CB.frozen r8_x 4
    have f9_x5 : u7.cell? ⟨D2.heap.size, 5, none⟩ = some (.bool false) := CB.cell r8_x 5
    have z9_x5 : u7.frozen? ⟨D2.heap.size, 5, none⟩ = false := CB.frozen r8_x 5
    go_simp
    go_wp2_with fail
    have g10_z := (RS.far (RS.far (RS.far (RS.far (RS.far (RS.far hr r8_x (by decide) 0 (.int .u8 zme)) (CB.put r8_x 0 (.int .u8 zme)) (by decide) 1 (.int .i64 zep)) (CB.put (CB.put r8_x 0 (.int .u8 zme)) 1 (.int .i64 zep)) (by decide) 2 (.int .i64 zst)) (CB.put (CB.put (CB.put r8_x 0 (.int .u8 zme)) 1 (.int .i64 zep)) 2 (.int .i64 zst)) (by decide) 3 (.int .u8 zto)) (CB.put (CB.put (CB.put (CB.put r8_x 0 (.int .u8 zme)) 1 (.int .i64 zep)) 2 (.int .i64 zst)) 3 (.int .u8 zto)) (by decide) 4 (.string zcg)) (CB.put (CB.put (CB.put (CB.put (CB.put r8_x 0 (.int .u8 zme)) 1 (.int .i64 zep)) 2 (.int .i64 zst)) 3 (.int .u8 zto)) 4 (.string zcg)) (by decide) 5 (.bool zkp))
    have f9_x0 : u7.cell? ⟨D2.heap.size, 0, none⟩ = some (.int .u8 0) := CB.cell r8_x 0
    have z9_x0 : u7.frozen? ⟨D2.heap.size, 0, none⟩ = false := CB.frozen r8_x 0
    have f9_x1 : u7.cell? ⟨D2.heap.size, 1, none⟩ = some (.int .i64 0) := CB.cell r8_x 1
    have z9_x1 : u7.frozen? ⟨D2.heap.size, 1, none⟩ = false := CB.frozen r8_x 1
    have f9_x2 : u7.cell? ⟨D2.heap.size, 2, none⟩ = some (.int .i64 0) := CB.cell r8_x 2
    have z9_x2 : u7.frozen? ⟨D2.heap.size, 2, none⟩ = false := CB.frozen r8_x 2
    have f9_x3 : u7.cell? ⟨D2.heap.size, 3, none⟩ = some (.int .u8 0) := CB.cell r8_x 3
    have z9_x3 : u7.frozen? ⟨D2.heap.size, 3, none⟩ = false := CB.frozen r8_x 3
    have f9_x4 : u7.cell? ⟨D2.heap.size, 4, none⟩ = some (.string ⟨#[]⟩) := CB.cell r8_x 4
    have z9_x4 : u7.frozen? ⟨D2.heap.size, 4, none⟩ = false := CB.frozen r8_x 4
    have f9_x5 : u7.cell? ⟨D2.heap.size, 5, none⟩ = some (.bool false) := CB.cell r8_x 5
    have z9_x5 : u7.frozen? ⟨D2.heap.size, 5, none⟩ = false := CB.frozen r8_x 5
    obtain ⟨V10, hV10⟩ : ∃ V, (((((u7.setCell ⟨D2.heap.size, 0, none⟩ (.int .u8 zme)).setCell ⟨D2.heap.size, 1, none⟩ (.int .i64 zep)).setCell ⟨D2.heap.size, 2, none⟩ (.int .i64 zst)).setCell ⟨D2.heap.size, 3, none⟩ (.int .u8 zto)).setCell ⟨D2.heap.size, 4, none⟩ (.string zcg)).setCell ⟨D2.heap.size, 5, none⟩ (.bool zkp) = V := ⟨_, rfl⟩
    have nV10 : CB V10 (D2.heap.size) 31 #[.int .u8 zme, .int .i64 zep, .int .i64 zst, .int .u8 zto, .string zcg, .bool zkp] := by rw [← hV10]; exact cb_cast (CB.put (CB.put (CB.put (CB.put (CB.put (CB.put r8_x 0 (.int .u8 zme)) 1 (.int .i64 zep)) 2 (.int .i64 zst)) 3 (.int .u8 zto)) 4 (.string zcg)) 5 (.bool zkp)) (by kernel_rfl)
    have mV10_m : CB V10 (w.heap.size) 37 #[.int .i64 kd, .int .u8 fr, .int .u8 (k : Int), .int .i64 e, .string mg] := by rw [← hV10]; exact (CB.far (CB.far (CB.far (CB.far (CB.far (CB.far r8_m (p := ⟨D2.heap.size, 0, none⟩) neW4_m (.int .u8 zme)) (p := ⟨D2.heap.size, 1, none⟩) neW4_m (.int .i64 zep)) (p := ⟨D2.heap.size, 2, none⟩) neW4_m (.int .i64 zst)) (p := ⟨D2.heap.size, 3, none⟩) neW4_m (.int .u8 zto)) (p := ⟨D2.heap.size, 4, none⟩) neW4_m (.string zcg)) (p := ⟨D2.heap.size, 5, none⟩) neW4_m (.bool zkp))
    have oV10 := (Below.setCell (Below.setCell (Below.setCell (Below.setCell (Below.setCell (Below.setCell l8 (p := ⟨D2.heap.size, 0, none⟩) (by have := av_x; dsimp only; omega) (.int .u8 zme)) (p := ⟨D2.heap.size, 1, none⟩) (by have := av_x; dsimp only; omega) (.int .i64 zep)) (p := ⟨D2.heap.size, 2, none⟩) (by have := av_x; dsimp only; omega) (.int .i64 zst)) (p := ⟨D2.heap.size, 3, none⟩) (by have := av_x; dsimp only; omega) (.int .u8 zto)) (p := ⟨D2.heap.size, 4, none⟩) (by have := av_x; dsimp only; omega) (.string zcg)) (p := ⟨D2.heap.size, 5, none⟩) (by have := av_x; dsimp only; omega) (.bool zkp))
    rw [hV10] at oV10
    have HV10 := Lib.hid hV10
    have V10_eq := hV10
    clear hV10
    clear r8_x r8_m l8
    have q10_z : RS V10 37 mc 5 A2 n2 q2 zr := by rw [← V10_eq]; exact g10_z
    clear g10_z hr
    clear V10_eq
    rw [HV10.out]
    clear f9_x0 z9_x0 f9_x1 z9_x1 f9_x2 z9_x2 f9_x3 z9_x3 f9_x4 z9_x4 f9_x5 z9_x5
    have y11 := Lib.hid (show (fun V : World => V.cell? ⟨w.heap.size, 0, none⟩ = some (.int .i64 kd) ∧ V.cell? ⟨w.heap.size, 1, none⟩ = some (.int .u8 fr) ∧ V.cell? ⟨w.heap.size, 2, none⟩ = some (.int .u8 (k : Int)) ∧ V.cell? ⟨w.heap.size, 3, none⟩ = some (.int .i64 e) ∧ V.cell? ⟨w.heap.size, 4, none⟩ = some (.string mg) ∧ V.cell? ⟨P, k * 6, none⟩ = some (.int .u8 sme) ∧ V.cell? ⟨P, k * 6 + 1, none⟩ = some (.int .i64 sep) ∧ V.cell? ⟨P, k * 6 + 2, none⟩ = some (.int .i64 sst) ∧ V.cell? ⟨P, k * 6 + 3, none⟩ = some (.int .u8 sto) ∧ V.cell? ⟨P, k * 6 + 4, none⟩ = some (.string scg) ∧ V.cell? ⟨P, k * 6 + 5, none⟩ = some (.bool skp)) V10 from ⟨CB.cell mV10_m 0, CB.cell mV10_m 1, CB.cell mV10_m 2, CB.cell mV10_m 3, CB.cell mV10_m 4, (PM.at_ (PM.on hp oV10) hk hS).1, (PM.at_ (PM.on hp oV10) hk hS).2.1, (PM.at_ (PM.on hp oV10) hk hS).2.2.1, (PM.at_ (PM.on hp oV10) hk hS).2.2.2.1, (PM.at_ (PM.on hp oV10) hk hS).2.2.2.2.1, (PM.at_ (PM.on hp oV10) hk hS).2.2.2.2.2⟩)
    refine hK.out _ _ y11.out (fun hHeld => ?_)
    clear hK K y11
    try simp only [Act.put, List.setIfInBounds_toArray, List.set_cons_zero, List.set_cons_succ]
    refine wpAnyH_takeL (i := 15) (d := some 5) (v := .slice A2 n2 q2) rfl rfl (by kernel_rfl) (by kernel_rfl) (by kernel_rfl) (fun _ _ _ h => h) (Or.inl ⟨by rfl, ?_⟩) hHeld ?_
    · intro w hSw; (try dsimp only at hSw); go_simp
    try simp only [Act.put, List.setIfInBounds_toArray, List.set_cons_zero, List.set_cons_succ]
    refine wpAnyH_takeL (i := 16) (d := some 6) (v := .int .i64 (ze : Int)) rfl rfl (by kernel_rfl) (by kernel_rfl) (by kernel_rfl) (fun _ _ _ h => h) (Or.inl ⟨by rfl, ?_⟩) hHeld ?_
    · intro w hSw; (try dsimp only at hSw); go_simp
    try simp only [Act.put, List.setIfInBounds_toArray, List.set_cons_zero, List.set_cons_succ]
    refine wpAnyH_done (by kernel_rfl) ?_ _
    have f11_m0 : V10.cell? ⟨w.heap.size, 0, none⟩ = some (.int .i64 kd) := CB.cell mV10_m 0
    have f11_m1 : V10.cell? ⟨w.heap.size, 1, none⟩ = some (.int .u8 fr) := CB.cell mV10_m 1
    have f11_m2 : V10.cell? ⟨w.heap.size, 2, none⟩ = some (.int .u8 (k : Int)) := CB.cell mV10_m 2
    have f11_m3 : V10.cell? ⟨w.heap.size, 3, none⟩ = some (.int .i64 e) := CB.cell mV10_m 3
    have f11_m4 : V10.cell? ⟨w.heap.size, 4, none⟩ = some (.string mg) := CB.cell mV10_m 4
    have f11_x0 : V10.cell? ⟨D2.heap.size, 0, none⟩ = some (.int .u8 zme) := CB.cell nV10 0
    have f11_x1 : V10.cell? ⟨D2.heap.size, 1, none⟩ = some (.int .i64 zep) := CB.cell nV10 1
    have f11_x2 : V10.cell? ⟨D2.heap.size, 2, none⟩ = some (.int .i64 zst) := CB.cell nV10 2
    have f11_x3 : V10.cell? ⟨D2.heap.size, 3, none⟩ = some (.int .u8 zto) := CB.cell nV10 3
    have f11_x4 : V10.cell? ⟨D2.heap.size, 4, none⟩ = some (.string zcg) := CB.cell nV10 4
    have f11_x5 : V10.cell? ⟨D2.heap.size, 5, none⟩ = some (.bool zkp) := CB.cell nV10 5
    go_wp2_with fail
    clear f11_m0 f11_m1 f11_m2 f11_m3 f11_m4 f11_x0 f11_x1 f11_x2 f11_x3 f11_x4 f11_x5
    go_wp2_with fail
    have y12 := Lib.hid (show (fun V : World => V.cell? ⟨w.heap.size, 0, none⟩ = some (.int .i64 kd) ∧ V.cell? ⟨w.heap.size, 1, none⟩ = some (.int .u8 fr) ∧ V.cell? ⟨w.heap.size, 2, none⟩ = some (.int .u8 (k : Int)) ∧ V.cell? ⟨w.heap.size, 3, none⟩ = some (.int .i64 e) ∧ V.cell? ⟨w.heap.size, 4, none⟩ = some (.string mg) ∧ V.cell? ⟨D2.heap.size, 0, none⟩ = some (.int .u8 zme) ∧ V.cell? ⟨D2.heap.size, 1, none⟩ = some (.int .i64 zep) ∧ V.cell? ⟨D2.heap.size, 2, none⟩ = some (.int .i64 zst) ∧ V.cell? ⟨D2.heap.size, 3, none⟩ = some (.int .u8 zto) ∧ V.cell? ⟨D2.heap.size, 4, none⟩ = some (.string zcg) ∧ V.cell? ⟨D2.heap.size, 5, none⟩ = some (.bool zkp)) V10 from ⟨CB.cell mV10_m 0, CB.cell mV10_m 1, CB.cell mV10_m 2, CB.cell mV10_m 3, CB.cell mV10_m 4, CB.cell nV10 0, CB.cell nV10 1, CB.cell nV10 2, CB.cell nV10 3, CB.cell nV10 4, CB.cell nV10 5⟩)
    refine wp_region_held_drew (S := (fun V : World => V.cell? ⟨w.heap.size, 0, none⟩ = some (.int .i64 kd) ∧ V.cell? ⟨w.heap.size, 1, none⟩ = some (.int .u8 fr) ∧ V.cell? ⟨w.heap.size, 2, none⟩ = some (.int .u8 (k : Int)) ∧ V.cell? ⟨w.heap.size, 3, none⟩ = some (.int .i64 e) ∧ V.cell? ⟨w.heap.size, 4, none⟩ = some (.string mg) ∧ V.cell? ⟨D2.heap.size, 0, none⟩ = some (.int .u8 zme) ∧ V.cell? ⟨D2.heap.size, 1, none⟩ = some (.int .i64 zep) ∧ V.cell? ⟨D2.heap.size, 2, none⟩ = some (.int .i64 zst) ∧ V.cell? ⟨D2.heap.size, 3, none⟩ = some (.int .u8 zto) ∧ V.cell? ⟨D2.heap.size, 4, none⟩ = some (.string zcg) ∧ V.cell? ⟨D2.heap.size, 5, none⟩ = some (.bool zkp))) (by kernel_rfl) y12.out (fun hHeld => ?_)
    obtain ⟨D12, hD12⟩ : ∃ V, V10.drew = V := ⟨_, rfl⟩
    have b12 : Below V10.heap.size V10 D12 := by rw [← hD12]; exact le_dr (Below.refl _ _)
    rw [hD12] at hHeld ⊢
    clear hD12
    have q13_z := RS.on q10_z b12
    have r13_m := le_on mV10_m b12
    have r13_x := le_on nV10 b12
    have l13 := le_tr oV10 b12
    clear mV10_m nV10 oV10
    clear q10_z
    clear b12
    refine wpAnyH_takeL (i := 0) (d := some 23) (v := .pointer (some ⟨P, 0, none⟩)) rfl rfl (by kernel_rfl) (by kernel_rfl) (by kernel_rfl) (fun _ _ _ h => h) (Or.inl ⟨by rfl, ?_⟩) hHeld ?_
    · intro w hSw; (try dsimp only at hSw); go_simp
    try simp only [Act.put, List.setIfInBounds_toArray, List.set_cons_zero, List.set_cons_succ]
    refine wpAnyH_takeL (i := 1) (d := some 24) (v := .pointer (some ⟨w.heap.size, 2, none⟩)) rfl rfl (by kernel_rfl) (by kernel_rfl) (by kernel_rfl) (fun _ _ _ h => h) (Or.inl ⟨by rfl, ?_⟩) hHeld ?_
    · intro w hSw; (try dsimp only at hSw); go_simp
    try simp only [Act.put, List.setIfInBounds_toArray, List.set_cons_zero, List.set_cons_succ]
    refine wpAnyH_takeL (i := 2) (d := some 25) (v := .int .u8 (k : Int)) rfl rfl (by kernel_rfl) (by kernel_rfl) (by kernel_rfl) (fun _ _ _ h => h) (Or.inl ⟨by rfl, ?_⟩) hHeld ?_
    · intro w hSw; (try dsimp only at hSw); go_simp
    try simp only [Act.put, List.setIfInBounds_toArray, List.set_cons_zero, List.set_cons_succ]
    refine wpAnyH_takeL (i := 3) (d := some 26) (v := .agg #[.int .u8 zme, .int .i64 zep, .int .i64 zst, .int .u8 zto, .string zcg, .bool zkp]) rfl rfl (by kernel_rfl) (by kernel_rfl) (by kernel_rfl) (fun _ _ _ h => h) (Or.inl ⟨by rfl, ?_⟩) hHeld ?_
    · intro w hSw; (try dsimp only at hSw); go_simp
    try simp only [Act.put, List.setIfInBounds_toArray, List.set_cons_zero, List.set_cons_succ]
    refine wpAnyH_takeL (i := 4) (d := some 27) (v := .pointer (some ⟨P, 0, none⟩)) rfl rfl (by kernel_rfl) (by kernel_rfl) (by kernel_rfl) (fun _ _ _ h => h) (Or.inl ⟨by rfl, ?_⟩) hHeld ?_
    · intro w hSw; (try dsimp only at hSw); go_simp
    try simp only [Act.put, List.setIfInBounds_toArray, List.set_cons_zero, List.set_cons_succ]
    refine wpAnyH_takeL (i := 5) (d := some 28) (v := .pointer (some ⟨P, 0, none⟩)) rfl rfl (by kernel_rfl) (by kernel_rfl) (by kernel_rfl) (fun _ _ _ h => h) (Or.inl ⟨by rfl, ?_⟩) hHeld ?_
    · intro w hSw; (try dsimp only at hSw); go_simp
    try simp only [Act.put, List.setIfInBounds_toArray, List.set_cons_zero, List.set_cons_succ]
    refine wpAnyH_takeL (i := 6) (d := some 29) (v := .pointer (some ⟨P, k * 6, none⟩)) rfl rfl (by kernel_rfl) (by kernel_rfl) (by kernel_rfl) (fun _ _ _ h => h) (Or.inl ⟨by rfl, ?_⟩) hHeld ?_
    · intro w hSw; (try dsimp only at hSw); go_simp
    try simp only [Act.put, List.setIfInBounds_toArray, List.set_cons_zero, List.set_cons_succ]
    refine wpAnyH_ready (rs := [7]) (by kernel_rfl) (by simp) ?_
    refine AllReadyH.cons rfl (fun K hK => ?_) AllReadyH.nil
    have f13_ps0 : D12.cell? ⟨P, k * 6, none⟩ = some (.int .u8 sme) := (PM.at_ (PM.on hp l13) hk hS).1
    have f13_ps1 : D12.cell? ⟨P, k * 6 + 1, none⟩ = some (.int .i64 sep) := (PM.at_ (PM.on hp l13) hk hS).2.1
    have f13_ps2 : D12.cell? ⟨P, k * 6 + 2, none⟩ = some (.int .i64 sst) := (PM.at_ (PM.on hp l13) hk hS).2.2.1
    have f13_ps3 : D12.cell? ⟨P, k * 6 + 3, none⟩ = some (.int .u8 sto) := (PM.at_ (PM.on hp l13) hk hS).2.2.2.1
    have f13_ps4 : D12.cell? ⟨P, k * 6 + 4, none⟩ = some (.string scg) := (PM.at_ (PM.on hp l13) hk hS).2.2.2.2.1
    have f13_ps5 : D12.cell? ⟨P, k * 6 + 5, none⟩ = some (.bool skp) := (PM.at_ (PM.on hp l13) hk hS).2.2.2.2.2
    have z13_ps0 : D12.frozen? ⟨P, k * 6, none⟩ = false := PM.froz (PM.on hp l13) _
    have z13_ps1 : D12.frozen? ⟨P, k * 6 + 1, none⟩ = false := PM.froz (PM.on hp l13) _
    have z13_ps2 : D12.frozen? ⟨P, k * 6 + 2, none⟩ = false := PM.froz (PM.on hp l13) _
    have z13_ps3 : D12.frozen? ⟨P, k * 6 + 3, none⟩ = false := PM.froz (PM.on hp l13) _
    have z13_ps4 : D12.frozen? ⟨P, k * 6 + 4, none⟩ = false := PM.froz (PM.on hp l13) _
    have z13_ps5 : D12.frozen? ⟨P, k * 6 + 5, none⟩ = false := PM.froz (PM.on hp l13) _
    go_simp
    go_wp2_with fail
    obtain ⟨V9, hV9, hp9, hs9, hm9, hl9, hk9, hr9, hq9⟩ := PM.put6 (PM.on hp l13) (Seg.on hs l13) (MH.on hm l13) hk zme zep zst zto zcg zkp
    have j9_m := hk9 _ _ _ (PM.ne (PM.on hp l13) r13_m (by decide)) r13_m
    have j9_x := hk9 _ _ _ (PM.ne (PM.on hp l13) r13_x (by decide)) r13_x
    have j9_z := hr9 _ _ _ _ q13_z
    have l9 := hl9 _ _ (Below.mono l13 hB) hP
    rw [hV9]
    clear hV9 hk9 hl9 hr9 hq9
    have y14 := Lib.hid (show (fun V : World => V.cell? ⟨w.heap.size, 0, none⟩ = some (.int .i64 kd) ∧ V.cell? ⟨w.heap.size, 1, none⟩ = some (.int .u8 fr) ∧ V.cell? ⟨w.heap.size, 2, none⟩ = some (.int .u8 (k : Int)) ∧ V.cell? ⟨w.heap.size, 3, none⟩ = some (.int .i64 e) ∧ V.cell? ⟨w.heap.size, 4, none⟩ = some (.string mg) ∧ V.cell? ⟨D2.heap.size, 0, none⟩ = some (.int .u8 zme) ∧ V.cell? ⟨D2.heap.size, 1, none⟩ = some (.int .i64 zep) ∧ V.cell? ⟨D2.heap.size, 2, none⟩ = some (.int .i64 zst) ∧ V.cell? ⟨D2.heap.size, 3, none⟩ = some (.int .u8 zto) ∧ V.cell? ⟨D2.heap.size, 4, none⟩ = some (.string zcg) ∧ V.cell? ⟨D2.heap.size, 5, none⟩ = some (.bool zkp)) V9 from ⟨CB.cell j9_m 0, CB.cell j9_m 1, CB.cell j9_m 2, CB.cell j9_m 3, CB.cell j9_m 4, CB.cell j9_x 0, CB.cell j9_x 1, CB.cell j9_x 2, CB.cell j9_x 3, CB.cell j9_x 4, CB.cell j9_x 5⟩)
    refine hK.out _ _ y14.out (fun hHeld => ?_)
    clear hK K y14
    try simp only [Act.put, List.setIfInBounds_toArray, List.set_cons_zero, List.set_cons_succ]
    refine wpAnyH_done (by kernel_rfl) ?_ _
    have hrest := PM.rest hp9
    obtain ⟨e24, e25, e26⟩ := hrest
    clear e25 e26
    have z24 : V9.frozen? ⟨P, 24, none⟩ = false := PM.froz hp9 _
    have hnn : n ≤ 100000 := by omega
    by_cases h5 : n < 500
    · have h5' : decide ((n : Int) < 500) = true := by simp; omega
      have HL2 := Lib.hid (show n + n2 ≤ maxLen ∧ (n + n2) * 40 ≤ 140737488355328 by have h1 := RS.len j9_z; have h2 := HR.out; simp only [maxLen]; omega)
      have sr := (RS.rr j9_z).src
      obtain ⟨N, hN⟩ : ∃ N, n + n2 = N := ⟨_, rfl⟩
      obtain ⟨p1, p2⟩ := HL2.out
      go_wp2_with (at_builtin; refine wpList_append_src _ rfl (.tmp 40) (.tmp 41) _ rfl 37 i0 _ 5 40 Try.underlying32 Hi.out Hz.out Hz1.out Hz2.out p4 (by decide) rfl hs9 rfl sr (rc_one 5 _) p1 p2 N hN ?_; intro A4 q4 G4 V4 s4 g4 m4; obtain ⟨hp4, V5, hV5, hl5, hb5, _⟩ := said_end l9 hB hp9 hP hs9 hG hm9 hbm s4 g4 m4; have HV5 := Lib.hid hV5; have e4 := (PM.rest hp4).1; have z4 : V4.frozen? ⟨P, 24, none⟩ = false := PM.froz hp4 _; clear hV5)
      rw [HV5.out]
      rw [← HL3.out, if_pos (by omega)]
      exact bodyPost_ret (v := .tuple #[]) (by simp [results, Try.results49, go_sem]) rfl ⟨⟨_, rfl⟩, hl5, hb5⟩
    · have h5' : decide ((n : Int) < 500) = false := by simp; omega
      go_wp2_with fail
      rw [← HL3.out, if_neg (by omega)]
      exact bodyPost_ret (v := .tuple #[]) (by simp [results, Try.results49, go_sem]) rfl ⟨⟨_, rfl⟩, ⟨⟨A, n, q, G, bm, hp9, hs9, hG, hm9, hbm⟩, hP⟩, l9⟩
end Go.Proofs.Ytmghckddofefkaa
