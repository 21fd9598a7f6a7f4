/-
  A play's step. Conditions: a play in which one at most holds the agency.
-/
import Derived.Test.YtmghckddofefkaaHaU
set_option linter.unusedVariables false
set_option linter.unusedSimpArgs false
namespace Go.Proofs.Ytmghckddofefkaa
open Go.RowKit


/-- A step: kind, which message, two sides, a cargo. -/
structure Stp where
  kd : Int
  x : Nat
  a : Nat
  b : Nat
  cg : ByteArray
/-- What a step leaves. -/
def SPost (B : Nat) (w : World) (P : Nat) (L : List Mg) (M : List (Int × Int)) (E : Int) (o : Nat) (t : Bool) (e : Ending) (w' : World) : Prop :=
  ∃ S' L' c' E' o' t', (∃ v, e = .returned v) ∧ PL B w' P S' L' c' M ∧ PI 4 S' L' c' E' o' t' ∧ L'.length ≤ L.length + 1 ∧ ((E' = E ∧ o' = o) ∨ E' = E + 1) ∧ pot E' t' ≤ pot E t + 1 ∧ Below B w w'
theorem SPost.stay {B : Nat} {w : World} {P : Nat} {L L' : List Mg} {c' : ByteArray} {M : List (Int × Int)} {E : Int} {o : Nat} {t : Bool} {v : Value} {w' : World} {S' : Nat → Sd} (h : PL B w' P S' L' c' M) (hI : PI 4 S' L' c' E o t) (hl : L'.length ≤ L.length + 1) (hb : Below B w w') : SPost B w P L M E o t (.returned v) w' :=
  ⟨S', L', c', E, o, t, ⟨_, rfl⟩, h, hI, hl, .inl ⟨rfl, rfl⟩, by omega, hb⟩
set_option maxRecDepth 100000 in
set_option maxHeartbeats 8000000 in
theorem step_c (B P : Nat) (S : Nat → Sd) (L : List Mg) (c : ByteArray) (M : List (Int × Int)) (E : Int) (o : Nat) (t : Bool) (kd : Int) (x a0 b0 : Nat) (g : ByteArray) (w : World) (h : PL B w P S L c M) (hB : B ≤ w.heap.size) (hI : PI 4 S L c E o t) (hL : L.length ≤ 90000) (hx : x ≤ 65535) (hkd : 0 ≤ kd ∧ kd ≤ 255) (ha8 : a0 ≤ 255) (hb8 : b0 ≤ 255) : Calls Try.prog 23 #[.pointer (some ⟨P, 0, none⟩), .agg #[.int .u8 kd, .int .u16 (x : Int), .int .u8 (a0 : Int), .int .u8 (b0 : Int), .string g]] w (SPost B w P L M E o t) := by
  obtain ⟨⟨A, n, q, G, bm, hp, hs, hG, hm, hbm⟩, hP⟩ := h
  have hn : L.length = n := rc_len hs
  have hPw := hp.lt
  obtain ⟨a, ha⟩ : ∃ a, a0 % 4 = a := ⟨_, rfl⟩
  obtain ⟨b, hb⟩ : ∃ b, b0 % 4 = b := ⟨_, rfl⟩
  have ha4 : a < 4 := by omega
  have hb4 : b < 4 := by omega
  have ea : (a0 : Int) % 4 = (a : Int) := by omega
  have eb : (b0 : Int) % 4 = (b : Int) := by omega
  have ea' : (a0 : Int).tmod 4 = (a : Int) := by rw [Int.tmod_eq_emod_of_nonneg (by omega)]; exact ea
  have eb' : (b0 : Int).tmod 4 = (b : Int) := by rw [Int.tmod_eq_emod_of_nonneg (by omega)]; exact eb
  have ka : (a : Int) < 4 := by omega
  have ka0 : (0 : Int) ≤ (a : Int) := by omega
  have hk6 : kd.tmod 6 = kd % 6 := Int.tmod_eq_emod_of_nonneg hkd.1
  have hj : 0 ≤ kd % 6 ∧ kd % 6 < 6 := by omega
  obtain ⟨j, hj6⟩ : ∃ j, kd % 6 = j := ⟨_, rfl⟩
  rw [hj6] at hk6 hj
  obtain ⟨⟨sme, ⟨sep, sst, sto⟩, scg, skp⟩, hS⟩ : ∃ s, S a = s := ⟨_, rfl⟩
  have HI := Lib.hid hI
  have HN := Lib.hid hn
  clear hI ha hb hkd ha8 hb8 hn
  obtain ⟨i0, hi0, hz0, hz1, hz2⟩ := info_parts Try.infoMsg
  have Hi := Lib.hid hi0
  have Hz := Lib.hid hz0
  have Hz1 := Lib.hid hz1
  have Hz2 := Lib.hid hz2
  have p4 : (Value.agg #[.int .i64 0, .int .u8 0, .int .u8 0, .int .i64 0, .string ⟨#[]⟩]).cells.size = 5 := by rfl
  clear hi0 hz0 hz1 hz2
  obtain ⟨W1, hW1⟩ : ∃ V, w.alloc (.cells #[.int .u8 kd, .int .u16 (x : Int), .int .u8 (a0 : Int), .int .u8 (b0 : Int), .string g] 60) = V := ⟨_, rfl⟩
  have nW1_st : CB W1 (w.heap.size) 60 #[.int .u8 kd, .int .u16 (x : Int), .int .u8 (a0 : Int), .int .u8 (b0 : Int), .string g] := by
    rw [← hW1]
    have := (CB.new w 60 #[.int .u8 kd, .int .u16 (x : Int), .int .u8 (a0 : Int), .int .u8 (b0 : Int), .string g])
    simpa using this
  have lW1 : Below w.heap.size w W1 := by rw [← hW1]; exact le_al _ _
  have HW1 := Lib.hid hW1
  clear hW1
  go_enter Try.func23, Try.ntmps23
  go_wp2_with fail
  rw [HW1.out]
  have f1_st0 : W1.cell? ⟨w.heap.size, 0, none⟩ = some (.int .u8 kd) := CB.cell nW1_st 0
  have f1_st1 : W1.cell? ⟨w.heap.size, 1, none⟩ = some (.int .u16 (x : Int)) := CB.cell nW1_st 1
  have f1_st2 : W1.cell? ⟨w.heap.size, 2, none⟩ = some (.int .u8 (a0 : Int)) := CB.cell nW1_st 2
  have f1_st3 : W1.cell? ⟨w.heap.size, 3, none⟩ = some (.int .u8 (b0 : Int)) := CB.cell nW1_st 3
  have f1_st4 : W1.cell? ⟨w.heap.size, 4, none⟩ = some (.string g) := CB.cell nW1_st 4
  go_quiet (fail)
  clear f1_st0 f1_st1 f1_st2 f1_st3 f1_st4
  obtain ⟨Q2, hQ2⟩ : ∃ V, W1.drewN nq = V := ⟨_, rfl⟩
  have bQ2 : Below W1.heap.size W1 Q2 := by rw [← hQ2]; exact le_dN (Below.refl _ _)
  rw [hQ2]
  clear hQ2 nq
  clear ea eb ea' eb'
  have r3_st := le_on nW1_st bQ2
  have l3 := le_tr lW1 bQ2
  clear nW1_st lW1
  clear bQ2
  have f3_st0 : Q2.cell? ⟨w.heap.size, 0, none⟩ = some (.int .u8 kd) := CB.cell r3_st 0
  have f3_st1 : Q2.cell? ⟨w.heap.size, 1, none⟩ = some (.int .u16 (x : Int)) := CB.cell r3_st 1
  have f3_st2 : Q2.cell? ⟨w.heap.size, 2, none⟩ = some (.int .u8 (a0 : Int)) := CB.cell r3_st 2
  have f3_st3 : Q2.cell? ⟨w.heap.size, 3, none⟩ = some (.int .u8 (b0 : Int)) := CB.cell r3_st 3
  have f3_st4 : Q2.cell? ⟨w.heap.size, 4, none⟩ = some (.string g) := CB.cell r3_st 4
  by_cases hjv : j = 3
  · skip
    have j3 : (j == 3) = true := by simp [hjv]
    have j4 : (j == 4) = false := by simp [hjv]
    have j5 : (j == 5) = false := by simp [hjv]
    obtain ⟨⟨akd, afr, ato, aep, acg⟩, hma⟩ : ∃ m, mAsk (S a) (b : Int) = m := ⟨_, rfl⟩
    obtain ⟨k, hka⟩ : ∃ k, eAsk (S a) (b : Int) = k := ⟨_, rfl⟩
    have K1 : ∀ W, Calls Try.prog 16 #[.agg #[.int .u8 sme, .int .i64 sep, .int .i64 sst, .int .u8 sto, .string scg, .bool skp], .int .u8 (b : Int)] W (fun r w' => r = .returned (.tuple #[.agg #[.int .i64 akd, .int .u8 afr, .int .u8 ato, .int .i64 aep, .string acg], .int .i64 (k : Int)]) ∧ Below W.heap.size W w') := fun W => (by
      have := hask_c sme sep sst sto scg skp (b : Int) W
      rw [← hS, hma, hka] at this
      exact this)
    have f3_ps0 : Q2.cell? ⟨P, a * 6, none⟩ = some (.int .u8 sme) := (PM.at_ (PM.on hp l3) ha4 hS).1
    have f3_ps1 : Q2.cell? ⟨P, a * 6 + 1, none⟩ = some (.int .i64 sep) := (PM.at_ (PM.on hp l3) ha4 hS).2.1
    have f3_ps2 : Q2.cell? ⟨P, a * 6 + 2, none⟩ = some (.int .i64 sst) := (PM.at_ (PM.on hp l3) ha4 hS).2.2.1
    have f3_ps3 : Q2.cell? ⟨P, a * 6 + 3, none⟩ = some (.int .u8 sto) := (PM.at_ (PM.on hp l3) ha4 hS).2.2.2.1
    have f3_ps4 : Q2.cell? ⟨P, a * 6 + 4, none⟩ = some (.string scg) := (PM.at_ (PM.on hp l3) ha4 hS).2.2.2.2.1
    have f3_ps5 : Q2.cell? ⟨P, a * 6 + 5, none⟩ = some (.bool skp) := (PM.at_ (PM.on hp l3) ha4 hS).2.2.2.2.2
    go_wp2_with fail
    refine (K1 _).mono ?_
    rintro e w4 ⟨rfl, b4⟩
    clear f3_st0 f3_st1 f3_st2 f3_st3 f3_st4 f3_ps0 f3_ps1 f3_ps2 f3_ps3 f3_ps4 f3_ps5
    have r5_st := le_on r3_st b4
    have l5 := le_tr l3 b4
    clear r3_st l3
    clear b4
    have av_m : w.heap.size ≤ w4.heap.size := by have := l5.size; omega
    obtain ⟨W6, hW6⟩ : ∃ V, w4.alloc (.cells #[.int .i64 akd, .int .u8 afr, .int .u8 ato, .int .i64 aep, .string acg] 37) = V := ⟨_, rfl⟩
    have zW6 : w4.heap.size = w4.heap.size := by rfl
    have nW6 : CB W6 (w4.heap.size) 37 #[.int .i64 akd, .int .u8 afr, .int .u8 ato, .int .i64 aep, .string acg] := by rw [← zW6, ← hW6]; exact CB.new _ _ _
    have bW6 : Below w4.heap.size w4 W6 := by rw [← hW6]; exact le_al _ _
    have neW6_st : w.heap.size ≠ w4.heap.size := by have := CB.lt r5_st; omega
    have HW6 := Lib.hid hW6
    clear hW6 zW6
    have r7_st := le_on r5_st bW6
    have l7 := le_tr l5 bW6
    clear r5_st l5
    clear bW6
    by_cases hk0 : k = 0
    · have hk0' : ((k : Int) == 0) = true := by simp [hk0]
      have HQ := Lib.hid (show PI 4 S (L ++ [⟨akd, afr, ato, aep, acg⟩]) c E o t from by have := HI.out.ask ha4 hb4 (by rw [hka]; exact hk0); rw [hma] at this; exact this)
      clear hk0 hjv
      go_wp2_with fail
      rw [HW6.out]
      have y8 := Lib.hid (show (fun V : World => V.cell? ⟨w4.heap.size, 0, none⟩ = some (.int .i64 akd) ∧ V.cell? ⟨w4.heap.size, 1, none⟩ = some (.int .u8 afr) ∧ V.cell? ⟨w4.heap.size, 2, none⟩ = some (.int .u8 ato) ∧ V.cell? ⟨w4.heap.size, 3, none⟩ = some (.int .i64 aep) ∧ V.cell? ⟨w4.heap.size, 4, none⟩ = some (.string acg)) W6 from ⟨CB.cell nW6 0, CB.cell nW6 1, CB.cell nW6 2, CB.cell nW6 3, CB.cell nW6 4⟩)
      refine wp_region_held_drew (S := (fun V : World => V.cell? ⟨w4.heap.size, 0, none⟩ = some (.int .i64 akd) ∧ V.cell? ⟨w4.heap.size, 1, none⟩ = some (.int .u8 afr) ∧ V.cell? ⟨w4.heap.size, 2, none⟩ = some (.int .u8 ato) ∧ V.cell? ⟨w4.heap.size, 3, none⟩ = some (.int .i64 aep) ∧ V.cell? ⟨w4.heap.size, 4, none⟩ = some (.string acg))) (by kernel_rfl) y8.out (fun hHeld => ?_)
      obtain ⟨D8, hD8⟩ : ∃ V, W6.drew = V := ⟨_, rfl⟩
      have b8 : Below W6.heap.size W6 D8 := by rw [← hD8]; exact le_dr (Below.refl _ _)
      rw [hD8] at hHeld ⊢
      clear hD8
      have r9_st := le_on r7_st b8
      have r9_m := le_on nW6 b8
      have l9 := le_tr l7 b8
      clear r7_st nW6 l7
      clear b8
      refine wpAnyH_takeL (i := 0) (d := some 55) (v := .pointer (some ⟨P, 0, none⟩)) rfl rfl (by kernel_rfl) (by kernel_rfl) (by kernel_rfl) (fun _ _ _ h => h) (Or.inl ⟨by rfl, ?_⟩) hHeld ?_
      · intro w hSw; (try dsimp only at hSw); go_simp
      try simp only [Act.put, List.setIfInBounds_toArray, List.set_cons_zero, List.set_cons_succ]
      refine wpAnyH_takeL (i := 1) (d := some 56) (v := .pointer (some ⟨P, 0, none⟩)) rfl rfl (by kernel_rfl) (by kernel_rfl) (by kernel_rfl) (fun _ _ _ h => h) (Or.inl ⟨by rfl, ?_⟩) hHeld ?_
      · intro w hSw; (try dsimp only at hSw); go_simp
      try simp only [Act.put, List.setIfInBounds_toArray, List.set_cons_zero, List.set_cons_succ]
      refine wpAnyH_takeL (i := 2) (d := some 57) (v := .pointer (some ⟨P, 0, none⟩)) rfl rfl (by kernel_rfl) (by kernel_rfl) (by kernel_rfl) (fun _ _ _ h => h) (Or.inl ⟨by rfl, ?_⟩) hHeld ?_
      · intro w hSw; (try dsimp only at hSw); go_simp
      try simp only [Act.put, List.setIfInBounds_toArray, List.set_cons_zero, List.set_cons_succ]
      refine wpAnyH_takeL (i := 3) (d := some 58) (v := .pointer (some ⟨P, 24, none⟩)) rfl rfl (by kernel_rfl) (by kernel_rfl) (by kernel_rfl) (fun _ _ _ h => h) (Or.inl ⟨by rfl, ?_⟩) hHeld ?_
      · intro w hSw; (try dsimp only at hSw); go_simp
      try simp only [Act.put, List.setIfInBounds_toArray, List.set_cons_zero, List.set_cons_succ]
      refine wpAnyH_takeL (i := 5) (d := some 60) (v := .agg #[.int .i64 akd, .int .u8 afr, .int .u8 ato, .int .i64 aep, .string acg]) rfl rfl (by kernel_rfl) (by kernel_rfl) (by kernel_rfl) (fun _ _ _ h => h) (Or.inl ⟨by rfl, ?_⟩) hHeld ?_
      · intro w hSw; (try dsimp only at hSw); go_simp
      try simp only [Act.put, List.setIfInBounds_toArray, List.set_cons_zero, List.set_cons_succ]
      refine wpAnyH_ready (rs := [4, 6]) (by kernel_rfl) (by simp) ?_
      refine AllReadyH.cons rfl (fun K hK => ?_) (AllReadyH.cons rfl (fun K hK => ?_) AllReadyH.nil)
      · skip
        have f9_pr0 : D8.cell? ⟨P, 24, none⟩ = some (.slice A n q) := (PM.rest (PM.on hp l9)).1
        have f9_pr1 : D8.cell? ⟨P, 25, none⟩ = some (.string c) := (PM.rest (PM.on hp l9)).2.1
        have f9_pr2 : D8.cell? ⟨P, 26, none⟩ = some (.map (some bm)) := (PM.rest (PM.on hp l9)).2.2
        go_simp
        go_wp2_with fail
        clear f9_pr0 f9_pr1 f9_pr2
        have y10 := Lib.hid (show (fun V : World => V.cell? ⟨w4.heap.size, 0, none⟩ = some (.int .i64 akd) ∧ V.cell? ⟨w4.heap.size, 1, none⟩ = some (.int .u8 afr) ∧ V.cell? ⟨w4.heap.size, 2, none⟩ = some (.int .u8 ato) ∧ V.cell? ⟨w4.heap.size, 3, none⟩ = some (.int .i64 aep) ∧ V.cell? ⟨w4.heap.size, 4, none⟩ = some (.string acg)) D8 from ⟨CB.cell r9_m 0, CB.cell r9_m 1, CB.cell r9_m 2, CB.cell r9_m 3, CB.cell r9_m 4⟩)
        refine hK.out _ _ y10.out (fun hHeld => ?_)
        clear hK K y10
        try simp only [Act.put, List.setIfInBounds_toArray, List.set_cons_zero, List.set_cons_succ]
        refine wpAnyH_ready (rs := [6]) (by kernel_rfl) (by simp) ?_
        refine AllReadyH.cons rfl (fun K hK => ?_) AllReadyH.nil
        go_simp
        go_wp2_with fail
        have av_z : w.heap.size ≤ D8.heap.size := by have := l9.size; omega
        obtain ⟨W11, hW11⟩ : ∃ V, D8.alloc (.cells #[.int .i64 akd, .int .u8 afr, .int .u8 ato, .int .i64 aep, .string acg] 37) = V := ⟨_, rfl⟩
        have zW11 : D8.heap.size = D8.heap.size := by rfl
        have nW11 : CB W11 (D8.heap.size) 37 #[.int .i64 akd, .int .u8 afr, .int .u8 ato, .int .i64 aep, .string acg] := by rw [← zW11, ← hW11]; exact CB.new _ _ _
        have bW11 : Below D8.heap.size D8 W11 := by rw [← hW11]; exact le_al _ _
        have neW11_st : w.heap.size ≠ D8.heap.size := by have := CB.lt r9_st; omega
        have neW11_m : w4.heap.size ≠ D8.heap.size := by have := CB.lt r9_m; omega
        have HW11 := Lib.hid hW11
        clear hW11 zW11
        have r12_st := le_on r9_st bW11
        have r12_m := le_on r9_m bW11
        have l12 := le_tr l9 bW11
        clear r9_st r9_m l9
        clear bW11
        rw [HW11.out]
        have y13 := Lib.hid (show (fun V : World => V.cell? ⟨w4.heap.size, 0, none⟩ = some (.int .i64 akd) ∧ V.cell? ⟨w4.heap.size, 1, none⟩ = some (.int .u8 afr) ∧ V.cell? ⟨w4.heap.size, 2, none⟩ = some (.int .u8 ato) ∧ V.cell? ⟨w4.heap.size, 3, none⟩ = some (.int .i64 aep) ∧ V.cell? ⟨w4.heap.size, 4, none⟩ = some (.string acg)) W11 from ⟨CB.cell r12_m 0, CB.cell r12_m 1, CB.cell r12_m 2, CB.cell r12_m 3, CB.cell r12_m 4⟩)
        refine hK.out _ _ y13.out (fun hHeld => ?_)
        clear hK K y13
        try simp only [Act.put, List.setIfInBounds_toArray, List.set_cons_zero, List.set_cons_succ]
        refine wpAnyH_ready (rs := [7]) (by kernel_rfl) (by simp) ?_
        refine AllReadyH.cons rfl (fun K hK => ?_) AllReadyH.nil
        have sr := RS.srcm (RS.of_cb nW11)
        have hw9 := l12
        have hh9 := PM.on hp hw9
        have hs9 := Seg.on hs hw9
        have hm9 := MH.on hm hw9
        obtain ⟨N, hN⟩ : ∃ N, n + 1 = N := ⟨_, rfl⟩
        have hnn := HN.out
        have p1 : n + 1 ≤ maxLen := by simp only [maxLen]; omega
        have p2 : (n + 1) * 40 ≤ 140737488355328 := by omega
        refine step_append_src _ (.tmp 59) (.tmp 61) _ (by rfl) 37 i0 _ 5 40 Try.underlying32 Hi.out Hz.out Hz1.out Hz2.out p4 (by decide) (by rfl) hs9 (by rfl) sr (rc_one 5 _) p1 p2 (by rfl) N hN ?_
        intro A4 q4 G4 V4 s4 g4 m4
        obtain ⟨hp4, V5, hV5, hl5, hb5, hp5⟩ := said_end (Below.mono hw9 hB) hB hh9 hP hs9 hG hm9 hbm s4 g4 m4
        have HV5 := Lib.hid hV5
        clear hV5
        have j4_st := CB.same r12_st (g4.block _ (CB.lt r12_st) (fun e => by have h1 := hs.lt _ e.symm; omega))
        have j4_m := CB.same r12_m (g4.block _ (CB.lt r12_m) (fun e => by have h1 := hs.lt _ e.symm; have h2 := av_m; omega))
        have j4_z := CB.same nW11 (g4.block _ (CB.lt nW11) (fun e => by have h1 := hs.lt _ e.symm; have h2 := av_z; omega))
        have y14 := Lib.hid (show (fun V : World => V.cell? ⟨w4.heap.size, 0, none⟩ = some (.int .i64 akd) ∧ V.cell? ⟨w4.heap.size, 1, none⟩ = some (.int .u8 afr) ∧ V.cell? ⟨w4.heap.size, 2, none⟩ = some (.int .u8 ato) ∧ V.cell? ⟨w4.heap.size, 3, none⟩ = some (.int .i64 aep) ∧ V.cell? ⟨w4.heap.size, 4, none⟩ = some (.string acg)) V4 from ⟨CB.cell j4_m 0, CB.cell j4_m 1, CB.cell j4_m 2, CB.cell j4_m 3, CB.cell j4_m 4⟩)
        refine hK.out _ _ y14.out (fun hHeld => ?_)
        clear hK K y14
        try simp only [Act.put, List.setIfInBounds_toArray, List.set_cons_zero, List.set_cons_succ]
        refine wpAnyH_takeL (i := 8) (d := some 63) (v := .pointer (some ⟨P, 0, none⟩)) rfl rfl (by kernel_rfl) (by kernel_rfl) (by kernel_rfl) (fun _ _ _ h => h) (Or.inl ⟨by rfl, ?_⟩) hHeld ?_
        · intro w hSw; (try dsimp only at hSw); go_simp
        try simp only [Act.put, List.setIfInBounds_toArray, List.set_cons_zero, List.set_cons_succ]
        refine wpAnyH_takeL (i := 9) (d := some 64) (v := .pointer (some ⟨P, 24, none⟩)) rfl rfl (by kernel_rfl) (by kernel_rfl) (by kernel_rfl) (fun _ _ _ h => h) (Or.inl ⟨by rfl, ?_⟩) hHeld ?_
        · intro w hSw; (try dsimp only at hSw); go_simp
        try simp only [Act.put, List.setIfInBounds_toArray, List.set_cons_zero, List.set_cons_succ]
        refine wpAnyH_ready (rs := [10]) (by kernel_rfl) (by simp) ?_
        refine AllReadyH.cons rfl (fun K hK => ?_) AllReadyH.nil
        have e4 := (PM.rest hp4).1
        have z4 : V4.frozen? ⟨P, 24, none⟩ = false := PM.froz hp4 _
        go_simp
        go_wp2_with fail
        rw [HV5.out]
        have j5_st : CB V5 (w.heap.size) 60 #[.int .u8 kd, .int .u16 (x : Int), .int .u8 (a0 : Int), .int .u8 (b0 : Int), .string g] := by rw [← HV5.out]; exact CB.far j4_st (p := ⟨P, 24, none⟩) (PM.ne hp4 j4_st (by decide)) _
        have j5_m : CB V5 (w4.heap.size) 37 #[.int .i64 akd, .int .u8 afr, .int .u8 ato, .int .i64 aep, .string acg] := by rw [← HV5.out]; exact CB.far j4_m (p := ⟨P, 24, none⟩) (PM.ne hp4 j4_m (by decide)) _
        have j5_z : CB V5 (D8.heap.size) 37 #[.int .i64 akd, .int .u8 afr, .int .u8 ato, .int .i64 aep, .string acg] := by rw [← HV5.out]; exact CB.far j4_z (p := ⟨P, 24, none⟩) (PM.ne hp4 j4_z (by decide)) _
        have y15 := Lib.hid (show (fun V : World => V.cell? ⟨w4.heap.size, 0, none⟩ = some (.int .i64 akd) ∧ V.cell? ⟨w4.heap.size, 1, none⟩ = some (.int .u8 afr) ∧ V.cell? ⟨w4.heap.size, 2, none⟩ = some (.int .u8 ato) ∧ V.cell? ⟨w4.heap.size, 3, none⟩ = some (.int .i64 aep) ∧ V.cell? ⟨w4.heap.size, 4, none⟩ = some (.string acg)) V5 from ⟨CB.cell j5_m 0, CB.cell j5_m 1, CB.cell j5_m 2, CB.cell j5_m 3, CB.cell j5_m 4⟩)
        refine hK.out _ _ y15.out (fun hHeld => ?_)
        clear hK K y15
        try simp only [Act.put, List.setIfInBounds_toArray, List.set_cons_zero, List.set_cons_succ]
        refine wpAnyH_done (by kernel_rfl) ?_ _
        go_wp2_with fail
        exact bodyPost_ret (v := .tuple #[]) (by simp [results, Try.results23, go_sem]) rfl (SPost.stay hl5 HQ.out (by simp) hb5)
      · skip
        go_simp
        go_wp2_with fail
        have av_z : w.heap.size ≤ D8.heap.size := by have := l9.size; omega
        obtain ⟨W10, hW10⟩ : ∃ V, D8.alloc (.cells #[.int .i64 akd, .int .u8 afr, .int .u8 ato, .int .i64 aep, .string acg] 37) = V := ⟨_, rfl⟩
        have zW10 : D8.heap.size = D8.heap.size := by rfl
        have nW10 : CB W10 (D8.heap.size) 37 #[.int .i64 akd, .int .u8 afr, .int .u8 ato, .int .i64 aep, .string acg] := by rw [← zW10, ← hW10]; exact CB.new _ _ _
        have bW10 : Below D8.heap.size D8 W10 := by rw [← hW10]; exact le_al _ _
        have neW10_st : w.heap.size ≠ D8.heap.size := by have := CB.lt r9_st; omega
        have neW10_m : w4.heap.size ≠ D8.heap.size := by have := CB.lt r9_m; omega
        have HW10 := Lib.hid hW10
        clear hW10 zW10
        have r11_st := le_on r9_st bW10
        have r11_m := le_on r9_m bW10
        have l11 := le_tr l9 bW10
        clear r9_st r9_m l9
        clear bW10
        rw [HW10.out]
        have y12 := Lib.hid (show (fun V : World => V.cell? ⟨w4.heap.size, 0, none⟩ = some (.int .i64 akd) ∧ V.cell? ⟨w4.heap.size, 1, none⟩ = some (.int .u8 afr) ∧ V.cell? ⟨w4.heap.size, 2, none⟩ = some (.int .u8 ato) ∧ V.cell? ⟨w4.heap.size, 3, none⟩ = some (.int .i64 aep) ∧ V.cell? ⟨w4.heap.size, 4, none⟩ = some (.string acg)) W10 from ⟨CB.cell r11_m 0, CB.cell r11_m 1, CB.cell r11_m 2, CB.cell r11_m 3, CB.cell r11_m 4⟩)
        refine hK.out _ _ y12.out (fun hHeld => ?_)
        clear hK K y12
        try simp only [Act.put, List.setIfInBounds_toArray, List.set_cons_zero, List.set_cons_succ]
        refine wpAnyH_ready (rs := [4]) (by kernel_rfl) (by simp) ?_
        refine AllReadyH.cons rfl (fun K hK => ?_) AllReadyH.nil
        have f12_pr0 : W10.cell? ⟨P, 24, none⟩ = some (.slice A n q) := (PM.rest (PM.on hp l11)).1
        have f12_pr1 : W10.cell? ⟨P, 25, none⟩ = some (.string c) := (PM.rest (PM.on hp l11)).2.1
        have f12_pr2 : W10.cell? ⟨P, 26, none⟩ = some (.map (some bm)) := (PM.rest (PM.on hp l11)).2.2
        go_simp
        go_wp2_with fail
        clear f12_pr0 f12_pr1 f12_pr2
        have y13 := Lib.hid (show (fun V : World => V.cell? ⟨w4.heap.size, 0, none⟩ = some (.int .i64 akd) ∧ V.cell? ⟨w4.heap.size, 1, none⟩ = some (.int .u8 afr) ∧ V.cell? ⟨w4.heap.size, 2, none⟩ = some (.int .u8 ato) ∧ V.cell? ⟨w4.heap.size, 3, none⟩ = some (.int .i64 aep) ∧ V.cell? ⟨w4.heap.size, 4, none⟩ = some (.string acg)) W10 from ⟨CB.cell r11_m 0, CB.cell r11_m 1, CB.cell r11_m 2, CB.cell r11_m 3, CB.cell r11_m 4⟩)
        refine hK.out _ _ y13.out (fun hHeld => ?_)
        clear hK K y13
        try simp only [Act.put, List.setIfInBounds_toArray, List.set_cons_zero, List.set_cons_succ]
        refine wpAnyH_ready (rs := [7]) (by kernel_rfl) (by simp) ?_
        refine AllReadyH.cons rfl (fun K hK => ?_) AllReadyH.nil
        have sr := RS.srcm (RS.of_cb nW10)
        have hw9 := l11
        have hh9 := PM.on hp hw9
        have hs9 := Seg.on hs hw9
        have hm9 := MH.on hm hw9
        obtain ⟨N, hN⟩ : ∃ N, n + 1 = N := ⟨_, rfl⟩
        have hnn := HN.out
        have p1 : n + 1 ≤ maxLen := by simp only [maxLen]; omega
        have p2 : (n + 1) * 40 ≤ 140737488355328 := by omega
        refine step_append_src _ (.tmp 59) (.tmp 61) _ (by rfl) 37 i0 _ 5 40 Try.underlying32 Hi.out Hz.out Hz1.out Hz2.out p4 (by decide) (by rfl) hs9 (by rfl) sr (rc_one 5 _) p1 p2 (by rfl) N hN ?_
        intro A4 q4 G4 V4 s4 g4 m4
        obtain ⟨hp4, V5, hV5, hl5, hb5, hp5⟩ := said_end (Below.mono hw9 hB) hB hh9 hP hs9 hG hm9 hbm s4 g4 m4
        have HV5 := Lib.hid hV5
        clear hV5
        have j4_st := CB.same r11_st (g4.block _ (CB.lt r11_st) (fun e => by have h1 := hs.lt _ e.symm; omega))
        have j4_m := CB.same r11_m (g4.block _ (CB.lt r11_m) (fun e => by have h1 := hs.lt _ e.symm; have h2 := av_m; omega))
        have j4_z := CB.same nW10 (g4.block _ (CB.lt nW10) (fun e => by have h1 := hs.lt _ e.symm; have h2 := av_z; omega))
        have y14 := Lib.hid (show (fun V : World => V.cell? ⟨w4.heap.size, 0, none⟩ = some (.int .i64 akd) ∧ V.cell? ⟨w4.heap.size, 1, none⟩ = some (.int .u8 afr) ∧ V.cell? ⟨w4.heap.size, 2, none⟩ = some (.int .u8 ato) ∧ V.cell? ⟨w4.heap.size, 3, none⟩ = some (.int .i64 aep) ∧ V.cell? ⟨w4.heap.size, 4, none⟩ = some (.string acg)) V4 from ⟨CB.cell j4_m 0, CB.cell j4_m 1, CB.cell j4_m 2, CB.cell j4_m 3, CB.cell j4_m 4⟩)
        refine hK.out _ _ y14.out (fun hHeld => ?_)
        clear hK K y14
        try simp only [Act.put, List.setIfInBounds_toArray, List.set_cons_zero, List.set_cons_succ]
        refine wpAnyH_takeL (i := 8) (d := some 63) (v := .pointer (some ⟨P, 0, none⟩)) rfl rfl (by kernel_rfl) (by kernel_rfl) (by kernel_rfl) (fun _ _ _ h => h) (Or.inl ⟨by rfl, ?_⟩) hHeld ?_
        · intro w hSw; (try dsimp only at hSw); go_simp
        try simp only [Act.put, List.setIfInBounds_toArray, List.set_cons_zero, List.set_cons_succ]
        refine wpAnyH_takeL (i := 9) (d := some 64) (v := .pointer (some ⟨P, 24, none⟩)) rfl rfl (by kernel_rfl) (by kernel_rfl) (by kernel_rfl) (fun _ _ _ h => h) (Or.inl ⟨by rfl, ?_⟩) hHeld ?_
        · intro w hSw; (try dsimp only at hSw); go_simp
        try simp only [Act.put, List.setIfInBounds_toArray, List.set_cons_zero, List.set_cons_succ]
        refine wpAnyH_ready (rs := [10]) (by kernel_rfl) (by simp) ?_
        refine AllReadyH.cons rfl (fun K hK => ?_) AllReadyH.nil
        have e4 := (PM.rest hp4).1
        have z4 : V4.frozen? ⟨P, 24, none⟩ = false := PM.froz hp4 _
        go_simp
        go_wp2_with fail
        rw [HV5.out]
        have j5_st : CB V5 (w.heap.size) 60 #[.int .u8 kd, .int .u16 (x : Int), .int .u8 (a0 : Int), .int .u8 (b0 : Int), .string g] := by rw [← HV5.out]; exact CB.far j4_st (p := ⟨P, 24, none⟩) (PM.ne hp4 j4_st (by decide)) _
        have j5_m : CB V5 (w4.heap.size) 37 #[.int .i64 akd, .int .u8 afr, .int .u8 ato, .int .i64 aep, .string acg] := by rw [← HV5.out]; exact CB.far j4_m (p := ⟨P, 24, none⟩) (PM.ne hp4 j4_m (by decide)) _
        have j5_z : CB V5 (D8.heap.size) 37 #[.int .i64 akd, .int .u8 afr, .int .u8 ato, .int .i64 aep, .string acg] := by rw [← HV5.out]; exact CB.far j4_z (p := ⟨P, 24, none⟩) (PM.ne hp4 j4_z (by decide)) _
        have y15 := Lib.hid (show (fun V : World => V.cell? ⟨w4.heap.size, 0, none⟩ = some (.int .i64 akd) ∧ V.cell? ⟨w4.heap.size, 1, none⟩ = some (.int .u8 afr) ∧ V.cell? ⟨w4.heap.size, 2, none⟩ = some (.int .u8 ato) ∧ V.cell? ⟨w4.heap.size, 3, none⟩ = some (.int .i64 aep) ∧ V.cell? ⟨w4.heap.size, 4, none⟩ = some (.string acg)) V5 from ⟨CB.cell j5_m 0, CB.cell j5_m 1, CB.cell j5_m 2, CB.cell j5_m 3, CB.cell j5_m 4⟩)
        refine hK.out _ _ y15.out (fun hHeld => ?_)
        clear hK K y15
        try simp only [Act.put, List.setIfInBounds_toArray, List.set_cons_zero, List.set_cons_succ]
        refine wpAnyH_done (by kernel_rfl) ?_ _
        go_wp2_with fail
        exact bodyPost_ret (v := .tuple #[]) (by simp [results, Try.results23, go_sem]) rfl (SPost.stay hl5 HQ.out (by simp) hb5)
    · have hk0' : ((k : Int) == 0) = false := by simp; omega
      go_wp2_with fail
      rw [HW6.out]
      exact bodyPost_ret (v := .tuple #[]) (by simp [results, Try.results23, go_sem]) rfl (SPost.stay ⟨⟨_, n, q, G, bm, PM.on hp l7, Seg.on hs l7, hG, MH.on hm l7, hbm⟩, hP⟩ HI.out (by omega) (Below.mono l7 hB))
  have hj3 := hjv
  clear hjv
  by_cases hjv : j = 4
  · skip
    have j3 : (j == 3) = false := by simp [hjv]
    have j4 : (j == 4) = true := by simp [hjv]
    have j5 : (j == 5) = false := by simp [hjv]
    obtain ⟨R, hR⟩ : ∃ R, againM (S a) = R := ⟨_, rfl⟩
    have HR := Lib.hid hR
    have G1 := fun W => (by have := again_c sme sep sst sto scg skp W; rw [← hS, hR] at this; exact this)
    have HQ := Lib.hid (show PI 4 S (L ++ R) c E o t from by have := HI.out.again ha4; rw [hR] at this; exact this)
    have hRl : R.length ≤ 1 := by rw [← hR]; unfold againM; split <;> simp
    clear hR hjv hj3
    go_wp2_with fail
    clear f3_st0 f3_st1 f3_st2 f3_st3 f3_st4
    have y4 := Lib.hid (show (fun V : World => V.cell? ⟨P, a * 6, none⟩ = some (.int .u8 sme) ∧ V.cell? ⟨P, a * 6 + 1, none⟩ = some (.int .i64 sep) ∧ V.cell? ⟨P, a * 6 + 2, none⟩ = some (.int .i64 sst) ∧ V.cell? ⟨P, a * 6 + 3, none⟩ = some (.int .u8 sto) ∧ V.cell? ⟨P, a * 6 + 4, none⟩ = some (.string scg) ∧ V.cell? ⟨P, a * 6 + 5, none⟩ = some (.bool skp)) Q2 from ⟨(PM.at_ (PM.on hp l3) ha4 hS).1, (PM.at_ (PM.on hp l3) ha4 hS).2.1, (PM.at_ (PM.on hp l3) ha4 hS).2.2.1, (PM.at_ (PM.on hp l3) ha4 hS).2.2.2.1, (PM.at_ (PM.on hp l3) ha4 hS).2.2.2.2.1, (PM.at_ (PM.on hp l3) ha4 hS).2.2.2.2.2⟩)
    refine wp_region_held_drew (S := (fun V : World => V.cell? ⟨P, a * 6, none⟩ = some (.int .u8 sme) ∧ V.cell? ⟨P, a * 6 + 1, none⟩ = some (.int .i64 sep) ∧ V.cell? ⟨P, a * 6 + 2, none⟩ = some (.int .i64 sst) ∧ V.cell? ⟨P, a * 6 + 3, none⟩ = some (.int .u8 sto) ∧ V.cell? ⟨P, a * 6 + 4, none⟩ = some (.string scg) ∧ V.cell? ⟨P, a * 6 + 5, none⟩ = some (.bool skp))) (by kernel_rfl) y4.out (fun hHeld => ?_)
    obtain ⟨D4, hD4⟩ : ∃ V, Q2.drew = V := ⟨_, rfl⟩
    have b4 : Below Q2.heap.size Q2 D4 := by rw [← hD4]; exact le_dr (Below.refl _ _)
    rw [hD4] at hHeld ⊢
    clear hD4
    have r5_st := le_on r3_st b4
    have l5 := le_tr l3 b4
    clear r3_st l3
    clear b4
    refine wpAnyH_takeL (i := 0) (d := some 67) (v := .pointer (some ⟨P, 0, none⟩)) rfl rfl (by kernel_rfl) (by kernel_rfl) (by kernel_rfl) (fun _ _ _ h => h) (Or.inl ⟨by rfl, ?_⟩) hHeld ?_
    · intro w hSw; (try dsimp only at hSw); go_simp
    try simp only [Act.put, List.setIfInBounds_toArray, List.set_cons_zero, List.set_cons_succ]
    refine wpAnyH_takeL (i := 1) (d := some 68) (v := .pointer (some ⟨P, 0, none⟩)) rfl rfl (by kernel_rfl) (by kernel_rfl) (by kernel_rfl) (fun _ _ _ h => h) (Or.inl ⟨by rfl, ?_⟩) hHeld ?_
    · intro w hSw; (try dsimp only at hSw); go_simp
    try simp only [Act.put, List.setIfInBounds_toArray, List.set_cons_zero, List.set_cons_succ]
    refine wpAnyH_takeL (i := 2) (d := some 69) (v := .pointer (some ⟨P, 0, none⟩)) rfl rfl (by kernel_rfl) (by kernel_rfl) (by kernel_rfl) (fun _ _ _ h => h) (Or.inl ⟨by rfl, ?_⟩) hHeld ?_
    · intro w hSw; (try dsimp only at hSw); go_simp
    try simp only [Act.put, List.setIfInBounds_toArray, List.set_cons_zero, List.set_cons_succ]
    refine wpAnyH_takeL (i := 3) (d := some 70) (v := .pointer (some ⟨P, 24, none⟩)) rfl rfl (by kernel_rfl) (by kernel_rfl) (by kernel_rfl) (fun _ _ _ h => h) (Or.inl ⟨by rfl, ?_⟩) hHeld ?_
    · intro w hSw; (try dsimp only at hSw); go_simp
    try simp only [Act.put, List.setIfInBounds_toArray, List.set_cons_zero, List.set_cons_succ]
    refine wpAnyH_takeL (i := 5) (d := some 72) (v := .pointer (some ⟨P, 0, none⟩)) rfl rfl (by kernel_rfl) (by kernel_rfl) (by kernel_rfl) (fun _ _ _ h => h) (Or.inl ⟨by rfl, ?_⟩) hHeld ?_
    · intro w hSw; (try dsimp only at hSw); go_simp
    try simp only [Act.put, List.setIfInBounds_toArray, List.set_cons_zero, List.set_cons_succ]
    refine wpAnyH_takeL (i := 6) (d := some 73) (v := .int .u8 (a : Int)) rfl rfl (by kernel_rfl) (by kernel_rfl) (by kernel_rfl) (fun _ _ _ h => h) (Or.inl ⟨by rfl, ?_⟩) hHeld ?_
    · intro w hSw; (try dsimp only at hSw); go_simp
    try simp only [Act.put, List.setIfInBounds_toArray, List.set_cons_zero, List.set_cons_succ]
    refine wpAnyH_takeL (i := 7) (d := some 74) (v := .pointer (some ⟨P, 0, none⟩)) rfl rfl (by kernel_rfl) (by kernel_rfl) (by kernel_rfl) (fun _ _ _ h => h) (Or.inl ⟨by rfl, ?_⟩) hHeld ?_
    · intro w hSw; (try dsimp only at hSw); go_simp
    try simp only [Act.put, List.setIfInBounds_toArray, List.set_cons_zero, List.set_cons_succ]
    refine wpAnyH_takeL (i := 8) (d := some 75) (v := .pointer (some ⟨P, 0, none⟩)) rfl rfl (by kernel_rfl) (by kernel_rfl) (by kernel_rfl) (fun _ _ _ h => h) (Or.inl ⟨by rfl, ?_⟩) hHeld ?_
    · intro w hSw; (try dsimp only at hSw); go_simp
    try simp only [Act.put, List.setIfInBounds_toArray, List.set_cons_zero, List.set_cons_succ]
    refine wpAnyH_takeL (i := 9) (d := some 76) (v := .pointer (some ⟨P, a * 6, none⟩)) rfl rfl (by kernel_rfl) (by kernel_rfl) (by kernel_rfl) (fun _ _ _ h => h) (Or.inl ⟨by rfl, ?_⟩) hHeld ?_
    · intro w hSw; (try dsimp only at hSw); go_simp
    try simp only [Act.put, List.setIfInBounds_toArray, List.set_cons_zero, List.set_cons_succ]
    refine wpAnyH_takeL (i := 10) (d := some 77) (v := .agg #[.int .u8 sme, .int .i64 sep, .int .i64 sst, .int .u8 sto, .string scg, .bool skp]) rfl rfl (by kernel_rfl) (by kernel_rfl) (by kernel_rfl) (fun _ _ _ h => h) (Or.inl ⟨by rfl, ?_⟩) hHeld ?_
    · intro w hSw; (try dsimp only at hSw); go_simp
    try simp only [Act.put, List.setIfInBounds_toArray, List.set_cons_zero, List.set_cons_succ]
    refine wpAnyH_ready (rs := [4, 11]) (by kernel_rfl) (by simp) ?_
    refine AllReadyH.cons rfl (fun K hK => ?_) (AllReadyH.cons rfl (fun K hK => ?_) AllReadyH.nil)
    · skip
      have f5_pr0 : D4.cell? ⟨P, 24, none⟩ = some (.slice A n q) := (PM.rest (PM.on hp l5)).1
      have f5_pr1 : D4.cell? ⟨P, 25, none⟩ = some (.string c) := (PM.rest (PM.on hp l5)).2.1
      have f5_pr2 : D4.cell? ⟨P, 26, none⟩ = some (.map (some bm)) := (PM.rest (PM.on hp l5)).2.2
      go_simp
      go_wp2_with fail
      clear f5_pr0 f5_pr1 f5_pr2
      have y6 := Lib.hid (show (fun V : World => V.cell? ⟨P, a * 6, none⟩ = some (.int .u8 sme) ∧ V.cell? ⟨P, a * 6 + 1, none⟩ = some (.int .i64 sep) ∧ V.cell? ⟨P, a * 6 + 2, none⟩ = some (.int .i64 sst) ∧ V.cell? ⟨P, a * 6 + 3, none⟩ = some (.int .u8 sto) ∧ V.cell? ⟨P, a * 6 + 4, none⟩ = some (.string scg) ∧ V.cell? ⟨P, a * 6 + 5, none⟩ = some (.bool skp)) D4 from ⟨(PM.at_ (PM.on hp l5) ha4 hS).1, (PM.at_ (PM.on hp l5) ha4 hS).2.1, (PM.at_ (PM.on hp l5) ha4 hS).2.2.1, (PM.at_ (PM.on hp l5) ha4 hS).2.2.2.1, (PM.at_ (PM.on hp l5) ha4 hS).2.2.2.2.1, (PM.at_ (PM.on hp l5) ha4 hS).2.2.2.2.2⟩)
      refine hK.out _ _ y6.out (fun hHeld => ?_)
      clear hK K y6
      try simp only [Act.put, List.setIfInBounds_toArray, List.set_cons_zero, List.set_cons_succ]
      refine wpAnyH_ready (rs := [11]) (by kernel_rfl) (by simp) ?_
      refine AllReadyH.cons rfl (fun K hK => ?_) AllReadyH.nil
      go_simp
      refine (G1 _).mono ?_
      rintro e u7 ⟨A2, n2, q2, rfl, hr, b7⟩
      have r8_st := le_on r5_st b7
      have l8 := le_tr l5 b7
      clear r5_st l5
      clear b7
      have hn2 := RS.len hr
      go_wp2_with fail
      have y9 := Lib.hid (show (fun V : World => V.cell? ⟨P, a * 6, none⟩ = some (.int .u8 sme) ∧ V.cell? ⟨P, a * 6 + 1, none⟩ = some (.int .i64 sep) ∧ V.cell? ⟨P, a * 6 + 2, none⟩ = some (.int .i64 sst) ∧ V.cell? ⟨P, a * 6 + 3, none⟩ = some (.int .u8 sto) ∧ V.cell? ⟨P, a * 6 + 4, none⟩ = some (.string scg) ∧ V.cell? ⟨P, a * 6 + 5, none⟩ = some (.bool skp)) u7 from ⟨(PM.at_ (PM.on hp l8) ha4 hS).1, (PM.at_ (PM.on hp l8) ha4 hS).2.1, (PM.at_ (PM.on hp l8) ha4 hS).2.2.1, (PM.at_ (PM.on hp l8) ha4 hS).2.2.2.1, (PM.at_ (PM.on hp l8) ha4 hS).2.2.2.2.1, (PM.at_ (PM.on hp l8) ha4 hS).2.2.2.2.2⟩)
      refine hK.out _ _ y9.out (fun hHeld => ?_)
      clear hK K y9
      try simp only [Act.put, List.setIfInBounds_toArray, List.set_cons_zero, List.set_cons_succ]
      refine wpAnyH_ready (rs := [12]) (by kernel_rfl) (by simp) ?_
      refine AllReadyH.cons rfl (fun K hK => ?_) AllReadyH.nil
      have sr := RS.srcm hr
      have hw9 := l8
      have hh9 := PM.on hp hw9
      have hs9 := Seg.on hs hw9
      have hm9 := MH.on hm hw9
      obtain ⟨N, hN⟩ : ∃ N, n + n2 = N := ⟨_, rfl⟩
      have hnn := HN.out
      have p1 : n + n2 ≤ maxLen := by simp only [maxLen]; omega
      have p2 : (n + n2) * 40 ≤ 140737488355328 := by omega
      refine step_append_src _ (.tmp 71) (.tmp 78) _ (by rfl) 37 i0 _ 5 40 Try.underlying32 Hi.out Hz.out Hz1.out Hz2.out p4 (by decide) (by rfl) hs9 (by rfl) sr (rc_one 5 _) p1 p2 (by rfl) N hN ?_
      intro A4 q4 G4 V4 s4 g4 m4
      obtain ⟨hp4, V5, hV5, hl5, hb5, hp5⟩ := said_end (Below.mono hw9 hB) hB hh9 hP hs9 hG hm9 hbm s4 g4 m4
      have HV5 := Lib.hid hV5
      clear hV5
      have j4_st := CB.same r8_st (g4.block _ (CB.lt r8_st) (fun e => by have h1 := hs.lt _ e.symm; omega))
      have y10 := Lib.hid (show (fun V : World => V.cell? ⟨P, a * 6, none⟩ = some (.int .u8 sme) ∧ V.cell? ⟨P, a * 6 + 1, none⟩ = some (.int .i64 sep) ∧ V.cell? ⟨P, a * 6 + 2, none⟩ = some (.int .i64 sst) ∧ V.cell? ⟨P, a * 6 + 3, none⟩ = some (.int .u8 sto) ∧ V.cell? ⟨P, a * 6 + 4, none⟩ = some (.string scg) ∧ V.cell? ⟨P, a * 6 + 5, none⟩ = some (.bool skp)) V4 from ⟨(PM.at_ hp4 ha4 hS).1, (PM.at_ hp4 ha4 hS).2.1, (PM.at_ hp4 ha4 hS).2.2.1, (PM.at_ hp4 ha4 hS).2.2.2.1, (PM.at_ hp4 ha4 hS).2.2.2.2.1, (PM.at_ hp4 ha4 hS).2.2.2.2.2⟩)
      refine hK.out _ _ y10.out (fun hHeld => ?_)
      clear hK K y10
      try simp only [Act.put, List.setIfInBounds_toArray, List.set_cons_zero, List.set_cons_succ]
      refine wpAnyH_takeL (i := 13) (d := some 80) (v := .pointer (some ⟨P, 0, none⟩)) rfl rfl (by kernel_rfl) (by kernel_rfl) (by kernel_rfl) (fun _ _ _ h => h) (Or.inl ⟨by rfl, ?_⟩) hHeld ?_
      · intro w hSw; (try dsimp only at hSw); go_simp
      try simp only [Act.put, List.setIfInBounds_toArray, List.set_cons_zero, List.set_cons_succ]
      refine wpAnyH_takeL (i := 14) (d := some 81) (v := .pointer (some ⟨P, 24, none⟩)) rfl rfl (by kernel_rfl) (by kernel_rfl) (by kernel_rfl) (fun _ _ _ h => h) (Or.inl ⟨by rfl, ?_⟩) hHeld ?_
      · intro w hSw; (try dsimp only at hSw); go_simp
      try simp only [Act.put, List.setIfInBounds_toArray, List.set_cons_zero, List.set_cons_succ]
      refine wpAnyH_ready (rs := [15]) (by kernel_rfl) (by simp) ?_
      refine AllReadyH.cons rfl (fun K hK => ?_) AllReadyH.nil
      have e4 := (PM.rest hp4).1
      have z4 : V4.frozen? ⟨P, 24, none⟩ = false := PM.froz hp4 _
      go_simp
      go_wp2_with fail
      rw [HV5.out]
      have j5_st : CB V5 (w.heap.size) 60 #[.int .u8 kd, .int .u16 (x : Int), .int .u8 (a0 : Int), .int .u8 (b0 : Int), .string g] := by rw [← HV5.out]; exact CB.far j4_st (p := ⟨P, 24, none⟩) (PM.ne hp4 j4_st (by decide)) _
      have y11 := Lib.hid (show (fun V : World => V.cell? ⟨P, a * 6, none⟩ = some (.int .u8 sme) ∧ V.cell? ⟨P, a * 6 + 1, none⟩ = some (.int .i64 sep) ∧ V.cell? ⟨P, a * 6 + 2, none⟩ = some (.int .i64 sst) ∧ V.cell? ⟨P, a * 6 + 3, none⟩ = some (.int .u8 sto) ∧ V.cell? ⟨P, a * 6 + 4, none⟩ = some (.string scg) ∧ V.cell? ⟨P, a * 6 + 5, none⟩ = some (.bool skp)) V5 from ⟨(PM.at_ hp5 ha4 hS).1, (PM.at_ hp5 ha4 hS).2.1, (PM.at_ hp5 ha4 hS).2.2.1, (PM.at_ hp5 ha4 hS).2.2.2.1, (PM.at_ hp5 ha4 hS).2.2.2.2.1, (PM.at_ hp5 ha4 hS).2.2.2.2.2⟩)
      refine hK.out _ _ y11.out (fun hHeld => ?_)
      clear hK K y11
      try simp only [Act.put, List.setIfInBounds_toArray, List.set_cons_zero, List.set_cons_succ]
      refine wpAnyH_done (by kernel_rfl) ?_ _
      go_wp2_with fail
      exact bodyPost_ret (v := .tuple #[]) (by simp [results, Try.results23, go_sem]) rfl (SPost.stay hl5 HQ.out (by rw [List.length_append]; omega) hb5)
    · skip
      go_simp
      refine (G1 _).mono ?_
      rintro e u6 ⟨A2, n2, q2, rfl, hr, b6⟩
      have r7_st := le_on r5_st b6
      have l7 := le_tr l5 b6
      clear r5_st l5
      clear b6
      have hn2 := RS.len hr
      go_wp2_with fail
      have y8 := Lib.hid (show (fun V : World => V.cell? ⟨P, a * 6, none⟩ = some (.int .u8 sme) ∧ V.cell? ⟨P, a * 6 + 1, none⟩ = some (.int .i64 sep) ∧ V.cell? ⟨P, a * 6 + 2, none⟩ = some (.int .i64 sst) ∧ V.cell? ⟨P, a * 6 + 3, none⟩ = some (.int .u8 sto) ∧ V.cell? ⟨P, a * 6 + 4, none⟩ = some (.string scg) ∧ V.cell? ⟨P, a * 6 + 5, none⟩ = some (.bool skp)) u6 from ⟨(PM.at_ (PM.on hp l7) ha4 hS).1, (PM.at_ (PM.on hp l7) ha4 hS).2.1, (PM.at_ (PM.on hp l7) ha4 hS).2.2.1, (PM.at_ (PM.on hp l7) ha4 hS).2.2.2.1, (PM.at_ (PM.on hp l7) ha4 hS).2.2.2.2.1, (PM.at_ (PM.on hp l7) ha4 hS).2.2.2.2.2⟩)
      refine hK.out _ _ y8.out (fun hHeld => ?_)
      clear hK K y8
      try simp only [Act.put, List.setIfInBounds_toArray, List.set_cons_zero, List.set_cons_succ]
      refine wpAnyH_ready (rs := [4]) (by kernel_rfl) (by simp) ?_
      refine AllReadyH.cons rfl (fun K hK => ?_) AllReadyH.nil
      have f8_pr0 : u6.cell? ⟨P, 24, none⟩ = some (.slice A n q) := (PM.rest (PM.on hp l7)).1
      have f8_pr1 : u6.cell? ⟨P, 25, none⟩ = some (.string c) := (PM.rest (PM.on hp l7)).2.1
      have f8_pr2 : u6.cell? ⟨P, 26, none⟩ = some (.map (some bm)) := (PM.rest (PM.on hp l7)).2.2
      go_simp
      go_wp2_with fail
      clear f8_pr0 f8_pr1 f8_pr2
      have y9 := Lib.hid (show (fun V : World => V.cell? ⟨P, a * 6, none⟩ = some (.int .u8 sme) ∧ V.cell? ⟨P, a * 6 + 1, none⟩ = some (.int .i64 sep) ∧ V.cell? ⟨P, a * 6 + 2, none⟩ = some (.int .i64 sst) ∧ V.cell? ⟨P, a * 6 + 3, none⟩ = some (.int .u8 sto) ∧ V.cell? ⟨P, a * 6 + 4, none⟩ = some (.string scg) ∧ V.cell? ⟨P, a * 6 + 5, none⟩ = some (.bool skp)) u6 from ⟨(PM.at_ (PM.on hp l7) ha4 hS).1, (PM.at_ (PM.on hp l7) ha4 hS).2.1, (PM.at_ (PM.on hp l7) ha4 hS).2.2.1, (PM.at_ (PM.on hp l7) ha4 hS).2.2.2.1, (PM.at_ (PM.on hp l7) ha4 hS).2.2.2.2.1, (PM.at_ (PM.on hp l7) ha4 hS).2.2.2.2.2⟩)
      refine hK.out _ _ y9.out (fun hHeld => ?_)
      clear hK K y9
      try simp only [Act.put, List.setIfInBounds_toArray, List.set_cons_zero, List.set_cons_succ]
      refine wpAnyH_ready (rs := [12]) (by kernel_rfl) (by simp) ?_
      refine AllReadyH.cons rfl (fun K hK => ?_) AllReadyH.nil
      have sr := RS.srcm hr
      have hw9 := l7
      have hh9 := PM.on hp hw9
      have hs9 := Seg.on hs hw9
      have hm9 := MH.on hm hw9
      obtain ⟨N, hN⟩ : ∃ N, n + n2 = N := ⟨_, rfl⟩
      have hnn := HN.out
      have p1 : n + n2 ≤ maxLen := by simp only [maxLen]; omega
      have p2 : (n + n2) * 40 ≤ 140737488355328 := by omega
      refine step_append_src _ (.tmp 71) (.tmp 78) _ (by rfl) 37 i0 _ 5 40 Try.underlying32 Hi.out Hz.out Hz1.out Hz2.out p4 (by decide) (by rfl) hs9 (by rfl) sr (rc_one 5 _) p1 p2 (by rfl) N hN ?_
      intro A4 q4 G4 V4 s4 g4 m4
      obtain ⟨hp4, V5, hV5, hl5, hb5, hp5⟩ := said_end (Below.mono hw9 hB) hB hh9 hP hs9 hG hm9 hbm s4 g4 m4
      have HV5 := Lib.hid hV5
      clear hV5
      have j4_st := CB.same r7_st (g4.block _ (CB.lt r7_st) (fun e => by have h1 := hs.lt _ e.symm; omega))
      have y10 := Lib.hid (show (fun V : World => V.cell? ⟨P, a * 6, none⟩ = some (.int .u8 sme) ∧ V.cell? ⟨P, a * 6 + 1, none⟩ = some (.int .i64 sep) ∧ V.cell? ⟨P, a * 6 + 2, none⟩ = some (.int .i64 sst) ∧ V.cell? ⟨P, a * 6 + 3, none⟩ = some (.int .u8 sto) ∧ V.cell? ⟨P, a * 6 + 4, none⟩ = some (.string scg) ∧ V.cell? ⟨P, a * 6 + 5, none⟩ = some (.bool skp)) V4 from ⟨(PM.at_ hp4 ha4 hS).1, (PM.at_ hp4 ha4 hS).2.1, (PM.at_ hp4 ha4 hS).2.2.1, (PM.at_ hp4 ha4 hS).2.2.2.1, (PM.at_ hp4 ha4 hS).2.2.2.2.1, (PM.at_ hp4 ha4 hS).2.2.2.2.2⟩)
      refine hK.out _ _ y10.out (fun hHeld => ?_)
      clear hK K y10
      try simp only [Act.put, List.setIfInBounds_toArray, List.set_cons_zero, List.set_cons_succ]
      refine wpAnyH_takeL (i := 13) (d := some 80) (v := .pointer (some ⟨P, 0, none⟩)) rfl rfl (by kernel_rfl) (by kernel_rfl) (by kernel_rfl) (fun _ _ _ h => h) (Or.inl ⟨by rfl, ?_⟩) hHeld ?_
      · intro w hSw; (try dsimp only at hSw); go_simp
      try simp only [Act.put, List.setIfInBounds_toArray, List.set_cons_zero, List.set_cons_succ]
      refine wpAnyH_takeL (i := 14) (d := some 81) (v := .pointer (some ⟨P, 24, none⟩)) rfl rfl (by kernel_rfl) (by kernel_rfl) (by kernel_rfl) (fun _ _ _ h => h) (Or.inl ⟨by rfl, ?_⟩) hHeld ?_
      · intro w hSw; (try dsimp only at hSw); go_simp
      try simp only [Act.put, List.setIfInBounds_toArray, List.set_cons_zero, List.set_cons_succ]
      refine wpAnyH_ready (rs := [15]) (by kernel_rfl) (by simp) ?_
      refine AllReadyH.cons rfl (fun K hK => ?_) AllReadyH.nil
      have e4 := (PM.rest hp4).1
      have z4 : V4.frozen? ⟨P, 24, none⟩ = false := PM.froz hp4 _
      go_simp
      go_wp2_with fail
      rw [HV5.out]
      have j5_st : CB V5 (w.heap.size) 60 #[.int .u8 kd, .int .u16 (x : Int), .int .u8 (a0 : Int), .int .u8 (b0 : Int), .string g] := by rw [← HV5.out]; exact CB.far j4_st (p := ⟨P, 24, none⟩) (PM.ne hp4 j4_st (by decide)) _
      have y11 := Lib.hid (show (fun V : World => V.cell? ⟨P, a * 6, none⟩ = some (.int .u8 sme) ∧ V.cell? ⟨P, a * 6 + 1, none⟩ = some (.int .i64 sep) ∧ V.cell? ⟨P, a * 6 + 2, none⟩ = some (.int .i64 sst) ∧ V.cell? ⟨P, a * 6 + 3, none⟩ = some (.int .u8 sto) ∧ V.cell? ⟨P, a * 6 + 4, none⟩ = some (.string scg) ∧ V.cell? ⟨P, a * 6 + 5, none⟩ = some (.bool skp)) V5 from ⟨(PM.at_ hp5 ha4 hS).1, (PM.at_ hp5 ha4 hS).2.1, (PM.at_ hp5 ha4 hS).2.2.1, (PM.at_ hp5 ha4 hS).2.2.2.1, (PM.at_ hp5 ha4 hS).2.2.2.2.1, (PM.at_ hp5 ha4 hS).2.2.2.2.2⟩)
      refine hK.out _ _ y11.out (fun hHeld => ?_)
      clear hK K y11
      try simp only [Act.put, List.setIfInBounds_toArray, List.set_cons_zero, List.set_cons_succ]
      refine wpAnyH_done (by kernel_rfl) ?_ _
      go_wp2_with fail
      exact bodyPost_ret (v := .tuple #[]) (by simp [results, Try.results23, go_sem]) rfl (SPost.stay hl5 HQ.out (by rw [List.length_append]; omega) hb5)
  have hj4 := hjv
  clear hjv
  by_cases hjv : j = 5
  · skip
    have j3 : (j == 3) = false := by simp [hjv]
    have j4 : (j == 4) = false := by simp [hjv]
    have j5 : (j == 5) = true := by simp [hjv]
    by_cases h1 : sst = 1
    · have h1' : (sst == 1) = true := by simp [h1]
      by_cases h20 : g.size ≤ 20
      · have h20' : decide ((g.size : Int) ≤ 20) = true := by simp; omega
        have HQ := Lib.hid (HI.out.cargo ha4 (by rw [hS]; exact h1) g (by omega))
        clear h1 h20 hjv hj3 hj4
        have f3_ps0 : Q2.cell? ⟨P, a * 6, none⟩ = some (.int .u8 sme) := (PM.at_ (PM.on hp l3) ha4 hS).1
        have f3_ps1 : Q2.cell? ⟨P, a * 6 + 1, none⟩ = some (.int .i64 sep) := (PM.at_ (PM.on hp l3) ha4 hS).2.1
        have f3_ps2 : Q2.cell? ⟨P, a * 6 + 2, none⟩ = some (.int .i64 sst) := (PM.at_ (PM.on hp l3) ha4 hS).2.2.1
        have f3_ps3 : Q2.cell? ⟨P, a * 6 + 3, none⟩ = some (.int .u8 sto) := (PM.at_ (PM.on hp l3) ha4 hS).2.2.2.1
        have f3_ps4 : Q2.cell? ⟨P, a * 6 + 4, none⟩ = some (.string scg) := (PM.at_ (PM.on hp l3) ha4 hS).2.2.2.2.1
        have f3_ps5 : Q2.cell? ⟨P, a * 6 + 5, none⟩ = some (.bool skp) := (PM.at_ (PM.on hp l3) ha4 hS).2.2.2.2.2
        go_wp2_with fail
        clear f3_st0 f3_st1 f3_st2 f3_st3 f3_st4 f3_ps0 f3_ps1 f3_ps2 f3_ps3 f3_ps4 f3_ps5
        have y4 := Lib.hid (show (fun V : World => V.cell? ⟨w.heap.size, 0, none⟩ = some (.int .u8 kd) ∧ V.cell? ⟨w.heap.size, 1, none⟩ = some (.int .u16 (x : Int)) ∧ V.cell? ⟨w.heap.size, 2, none⟩ = some (.int .u8 (a0 : Int)) ∧ V.cell? ⟨w.heap.size, 3, none⟩ = some (.int .u8 (b0 : Int)) ∧ V.cell? ⟨w.heap.size, 4, none⟩ = some (.string g)) Q2 from ⟨CB.cell r3_st 0, CB.cell r3_st 1, CB.cell r3_st 2, CB.cell r3_st 3, CB.cell r3_st 4⟩)
        refine wp_region_held_drew (S := (fun V : World => V.cell? ⟨w.heap.size, 0, none⟩ = some (.int .u8 kd) ∧ V.cell? ⟨w.heap.size, 1, none⟩ = some (.int .u16 (x : Int)) ∧ V.cell? ⟨w.heap.size, 2, none⟩ = some (.int .u8 (a0 : Int)) ∧ V.cell? ⟨w.heap.size, 3, none⟩ = some (.int .u8 (b0 : Int)) ∧ V.cell? ⟨w.heap.size, 4, none⟩ = some (.string g))) (by kernel_rfl) y4.out (fun hHeld => ?_)
        obtain ⟨D4, hD4⟩ : ∃ V, Q2.drew = V := ⟨_, rfl⟩
        have b4 : Below Q2.heap.size Q2 D4 := by rw [← hD4]; exact le_dr (Below.refl _ _)
        rw [hD4] at hHeld ⊢
        clear hD4
        have r5_st := le_on r3_st b4
        have l5 := le_tr l3 b4
        clear r3_st l3
        clear b4
        refine wpAnyH_takeL (i := 0) (d := some 99) (v := .pointer (some ⟨P, 0, none⟩)) rfl rfl (by kernel_rfl) (by kernel_rfl) (by kernel_rfl) (fun _ _ _ h => h) (Or.inl ⟨by rfl, ?_⟩) hHeld ?_
        · intro w hSw; (try dsimp only at hSw); go_simp
        try simp only [Act.put, List.setIfInBounds_toArray, List.set_cons_zero, List.set_cons_succ]
        refine wpAnyH_takeL (i := 1) (d := some 100) (v := .int .u8 (a : Int)) rfl rfl (by kernel_rfl) (by kernel_rfl) (by kernel_rfl) (fun _ _ _ h => h) (Or.inl ⟨by rfl, ?_⟩) hHeld ?_
        · intro w hSw; (try dsimp only at hSw); go_simp
        try simp only [Act.put, List.setIfInBounds_toArray, List.set_cons_zero, List.set_cons_succ]
        refine wpAnyH_takeL (i := 2) (d := some 101) (v := .pointer (some ⟨P, 0, none⟩)) rfl rfl (by kernel_rfl) (by kernel_rfl) (by kernel_rfl) (fun _ _ _ h => h) (Or.inl ⟨by rfl, ?_⟩) hHeld ?_
        · intro w hSw; (try dsimp only at hSw); go_simp
        try simp only [Act.put, List.setIfInBounds_toArray, List.set_cons_zero, List.set_cons_succ]
        refine wpAnyH_takeL (i := 3) (d := some 102) (v := .pointer (some ⟨w.heap.size, 4, none⟩)) rfl rfl (by kernel_rfl) (by kernel_rfl) (by kernel_rfl) (fun _ _ _ h => h) (Or.inl ⟨by rfl, ?_⟩) hHeld ?_
        · intro w hSw; (try dsimp only at hSw); go_simp
        try simp only [Act.put, List.setIfInBounds_toArray, List.set_cons_zero, List.set_cons_succ]
        refine wpAnyH_takeL (i := 4) (d := some 103) (v := .string g) rfl rfl (by kernel_rfl) (by kernel_rfl) (by kernel_rfl) (fun _ _ _ h => h) (Or.inl ⟨by rfl, ?_⟩) hHeld ?_
        · intro w hSw; (try dsimp only at hSw); go_simp
        try simp only [Act.put, List.setIfInBounds_toArray, List.set_cons_zero, List.set_cons_succ]
        refine wpAnyH_takeL (i := 5) (d := some 104) (v := .pointer (some ⟨w.heap.size, 4, none⟩)) rfl rfl (by kernel_rfl) (by kernel_rfl) (by kernel_rfl) (fun _ _ _ h => h) (Or.inl ⟨by rfl, ?_⟩) hHeld ?_
        · intro w hSw; (try dsimp only at hSw); go_simp
        try simp only [Act.put, List.setIfInBounds_toArray, List.set_cons_zero, List.set_cons_succ]
        refine wpAnyH_takeL (i := 6) (d := some 105) (v := .string g) rfl rfl (by kernel_rfl) (by kernel_rfl) (by kernel_rfl) (fun _ _ _ h => h) (Or.inl ⟨by rfl, ?_⟩) hHeld ?_
        · intro w hSw; (try dsimp only at hSw); go_simp
        try simp only [Act.put, List.setIfInBounds_toArray, List.set_cons_zero, List.set_cons_succ]
        refine wpAnyH_takeL (i := 7) (d := some 106) (v := .pointer (some ⟨P, 0, none⟩)) rfl rfl (by kernel_rfl) (by kernel_rfl) (by kernel_rfl) (fun _ _ _ h => h) (Or.inl ⟨by rfl, ?_⟩) hHeld ?_
        · intro w hSw; (try dsimp only at hSw); go_simp
        try simp only [Act.put, List.setIfInBounds_toArray, List.set_cons_zero, List.set_cons_succ]
        refine wpAnyH_takeL (i := 8) (d := some 107) (v := .pointer (some ⟨P, 0, none⟩)) rfl rfl (by kernel_rfl) (by kernel_rfl) (by kernel_rfl) (fun _ _ _ h => h) (Or.inl ⟨by rfl, ?_⟩) hHeld ?_
        · intro w hSw; (try dsimp only at hSw); go_simp
        try simp only [Act.put, List.setIfInBounds_toArray, List.set_cons_zero, List.set_cons_succ]
        refine wpAnyH_takeL (i := 9) (d := some 108) (v := .pointer (some ⟨P, a * 6, none⟩)) rfl rfl (by kernel_rfl) (by kernel_rfl) (by kernel_rfl) (fun _ _ _ h => h) (Or.inl ⟨by rfl, ?_⟩) hHeld ?_
        · intro w hSw; (try dsimp only at hSw); go_simp
        try simp only [Act.put, List.setIfInBounds_toArray, List.set_cons_zero, List.set_cons_succ]
        refine wpAnyH_takeL (i := 10) (d := some 109) (v := .pointer (some ⟨P, a * 6 + 4, none⟩)) rfl rfl (by kernel_rfl) (by kernel_rfl) (by kernel_rfl) (fun _ _ _ h => h) (Or.inl ⟨by rfl, ?_⟩) hHeld ?_
        · intro w hSw; (try dsimp only at hSw); go_simp
        try simp only [Act.put, List.setIfInBounds_toArray, List.set_cons_zero, List.set_cons_succ]
        refine wpAnyH_ready (rs := [11]) (by kernel_rfl) (by simp) ?_
        refine AllReadyH.cons rfl (fun K hK => ?_) AllReadyH.nil
        have f5_ps0 : D4.cell? ⟨P, a * 6, none⟩ = some (.int .u8 sme) := (PM.at_ (PM.on hp l5) ha4 hS).1
        have f5_ps1 : D4.cell? ⟨P, a * 6 + 1, none⟩ = some (.int .i64 sep) := (PM.at_ (PM.on hp l5) ha4 hS).2.1
        have f5_ps2 : D4.cell? ⟨P, a * 6 + 2, none⟩ = some (.int .i64 sst) := (PM.at_ (PM.on hp l5) ha4 hS).2.2.1
        have f5_ps3 : D4.cell? ⟨P, a * 6 + 3, none⟩ = some (.int .u8 sto) := (PM.at_ (PM.on hp l5) ha4 hS).2.2.2.1
        have f5_ps4 : D4.cell? ⟨P, a * 6 + 4, none⟩ = some (.string scg) := (PM.at_ (PM.on hp l5) ha4 hS).2.2.2.2.1
        have f5_ps5 : D4.cell? ⟨P, a * 6 + 5, none⟩ = some (.bool skp) := (PM.at_ (PM.on hp l5) ha4 hS).2.2.2.2.2
        have z9 : D4.frozen? ⟨P, a * 6 + 4, none⟩ = false := PM.froz (PM.on hp l5) _
        go_simp
        go_wp2_with fail
        have hh9 := PM.on hp l5
        obtain ⟨V8, hV8⟩ : ∃ V, D4.setCell ⟨P, a * 6 + 4, none⟩ (.string g) = V := ⟨_, rfl⟩
        have hp8 : PM V8 P (updS S a ⟨(S a).me, (S a).l, g, (S a).kp⟩) (.slice A n q) c bm := by rw [← hV8]; exact PM.put4 hh9 ha4 g
        have hs8 : Seg V8 37 5 A n q (rc mc L) G := by rw [← hV8]; exact (Seg.on hs l5).far (p := ⟨P, a * 6 + 4, none⟩) (Seg.offPlay (Seg.on hs l5) hh9) _
        have hm8 : MH V8 bm M := by
          rw [← hV8]
          obtain ⟨cs8, hc8⟩ := hh9.block
          exact (MH.on hm l5).far (p := ⟨P, a * 6 + 4, none⟩) (fun e => MH.ne (MH.on hm l5) hc8 e.symm) _
        have l8 : Below B w V8 := by rw [← hV8]; exact (Below.mono l5 hB).setCell (p := ⟨P, a * 6 + 4, none⟩) hP _
        have j8_st : CB V8 (w.heap.size) 60 #[.int .u8 kd, .int .u16 (x : Int), .int .u8 (a0 : Int), .int .u8 (b0 : Int), .string g] := by rw [← hV8]; exact CB.far r5_st (p := ⟨P, a * 6 + 4, none⟩) (PM.ne hh9 r5_st (by decide)) _
        rw [hV8]
        clear hV8
        have y6 := Lib.hid (show (fun V : World => V.cell? ⟨w.heap.size, 0, none⟩ = some (.int .u8 kd) ∧ V.cell? ⟨w.heap.size, 1, none⟩ = some (.int .u16 (x : Int)) ∧ V.cell? ⟨w.heap.size, 2, none⟩ = some (.int .u8 (a0 : Int)) ∧ V.cell? ⟨w.heap.size, 3, none⟩ = some (.int .u8 (b0 : Int)) ∧ V.cell? ⟨w.heap.size, 4, none⟩ = some (.string g)) V8 from ⟨CB.cell j8_st 0, CB.cell j8_st 1, CB.cell j8_st 2, CB.cell j8_st 3, CB.cell j8_st 4⟩)
        refine hK.out _ _ y6.out (fun hHeld => ?_)
        clear hK K y6
        try simp only [Act.put, List.setIfInBounds_toArray, List.set_cons_zero, List.set_cons_succ]
        refine wpAnyH_takeL (i := 12) (d := some 110) (v := .pointer (some ⟨P, 0, none⟩)) rfl rfl (by kernel_rfl) (by kernel_rfl) (by kernel_rfl) (fun _ _ _ h => h) (Or.inl ⟨by rfl, ?_⟩) hHeld ?_
        · intro w hSw; (try dsimp only at hSw); go_simp
        try simp only [Act.put, List.setIfInBounds_toArray, List.set_cons_zero, List.set_cons_succ]
        refine wpAnyH_takeL (i := 13) (d := some 111) (v := .pointer (some ⟨P, 25, none⟩)) rfl rfl (by kernel_rfl) (by kernel_rfl) (by kernel_rfl) (fun _ _ _ h => h) (Or.inl ⟨by rfl, ?_⟩) hHeld ?_
        · intro w hSw; (try dsimp only at hSw); go_simp
        try simp only [Act.put, List.setIfInBounds_toArray, List.set_cons_zero, List.set_cons_succ]
        refine wpAnyH_ready (rs := [14]) (by kernel_rfl) (by simp) ?_
        refine AllReadyH.cons rfl (fun K hK => ?_) AllReadyH.nil
        have e9 := (PM.rest hp8).2.1
        have z10 : V8.frozen? ⟨P, 25, none⟩ = false := PM.froz hp8 _
        go_simp
        go_wp2_with fail
        obtain ⟨V9, hV9⟩ : ∃ V, V8.setCell ⟨P, 25, none⟩ (.string g) = V := ⟨_, rfl⟩
        have hp9 : PM V9 P (updS S a ⟨(S a).me, (S a).l, g, (S a).kp⟩) (.slice A n q) g bm := by rw [← hV9]; exact PM.put25 hp8 g
        have hs9 : Seg V9 37 5 A n q (rc mc L) G := by rw [← hV9]; exact hs8.far (p := ⟨P, 25, none⟩) (Seg.offPlay hs8 hp8) _
        have hm9 : MH V9 bm M := by
          rw [← hV9]
          obtain ⟨cs8, hc8⟩ := hp8.block
          exact hm8.far (p := ⟨P, 25, none⟩) (fun e => MH.ne hm8 hc8 e.symm) _
        have l9 : Below B w V9 := by rw [← hV9]; exact l8.setCell (p := ⟨P, 25, none⟩) hP _
        have j9_st : CB V9 (w.heap.size) 60 #[.int .u8 kd, .int .u16 (x : Int), .int .u8 (a0 : Int), .int .u8 (b0 : Int), .string g] := by rw [← hV9]; exact CB.far j8_st (p := ⟨P, 25, none⟩) (PM.ne hp8 j8_st (by decide)) _
        rw [hV9]
        clear hV9
        have y7 := Lib.hid (show (fun V : World => V.cell? ⟨w.heap.size, 0, none⟩ = some (.int .u8 kd) ∧ V.cell? ⟨w.heap.size, 1, none⟩ = some (.int .u16 (x : Int)) ∧ V.cell? ⟨w.heap.size, 2, none⟩ = some (.int .u8 (a0 : Int)) ∧ V.cell? ⟨w.heap.size, 3, none⟩ = some (.int .u8 (b0 : Int)) ∧ V.cell? ⟨w.heap.size, 4, none⟩ = some (.string g)) V9 from ⟨CB.cell j9_st 0, CB.cell j9_st 1, CB.cell j9_st 2, CB.cell j9_st 3, CB.cell j9_st 4⟩)
        refine hK.out _ _ y7.out (fun hHeld => ?_)
        clear hK K y7
        try simp only [Act.put, List.setIfInBounds_toArray, List.set_cons_zero, List.set_cons_succ]
        refine wpAnyH_done (by kernel_rfl) ?_ _
        go_wp2_with fail
        exact bodyPost_ret (v := .tuple #[]) (by simp [results, Try.results23, go_sem]) rfl (SPost.stay ⟨⟨A, n, q, G, bm, hp9, hs9, hG, hm9, hbm⟩, hP⟩ HQ.out (by omega) l9)
      · have h20' : decide ((g.size : Int) ≤ 20) = false := by simp; omega
        have f3_ps0 : Q2.cell? ⟨P, a * 6, none⟩ = some (.int .u8 sme) := (PM.at_ (PM.on hp l3) ha4 hS).1
        have f3_ps1 : Q2.cell? ⟨P, a * 6 + 1, none⟩ = some (.int .i64 sep) := (PM.at_ (PM.on hp l3) ha4 hS).2.1
        have f3_ps2 : Q2.cell? ⟨P, a * 6 + 2, none⟩ = some (.int .i64 sst) := (PM.at_ (PM.on hp l3) ha4 hS).2.2.1
        have f3_ps3 : Q2.cell? ⟨P, a * 6 + 3, none⟩ = some (.int .u8 sto) := (PM.at_ (PM.on hp l3) ha4 hS).2.2.2.1
        have f3_ps4 : Q2.cell? ⟨P, a * 6 + 4, none⟩ = some (.string scg) := (PM.at_ (PM.on hp l3) ha4 hS).2.2.2.2.1
        have f3_ps5 : Q2.cell? ⟨P, a * 6 + 5, none⟩ = some (.bool skp) := (PM.at_ (PM.on hp l3) ha4 hS).2.2.2.2.2
        go_wp2_with fail
        exact bodyPost_ret (v := .tuple #[]) (by simp [results, Try.results23, go_sem]) rfl (SPost.stay ⟨⟨A, n, q, G, bm, PM.on hp l3, Seg.on hs l3, hG, MH.on hm l3, hbm⟩, hP⟩ HI.out (by omega) (Below.mono l3 hB))
    · have h1' : (sst == 1) = false := by simp [h1]
      have f3_ps0 : Q2.cell? ⟨P, a * 6, none⟩ = some (.int .u8 sme) := (PM.at_ (PM.on hp l3) ha4 hS).1
      have f3_ps1 : Q2.cell? ⟨P, a * 6 + 1, none⟩ = some (.int .i64 sep) := (PM.at_ (PM.on hp l3) ha4 hS).2.1
      have f3_ps2 : Q2.cell? ⟨P, a * 6 + 2, none⟩ = some (.int .i64 sst) := (PM.at_ (PM.on hp l3) ha4 hS).2.2.1
      have f3_ps3 : Q2.cell? ⟨P, a * 6 + 3, none⟩ = some (.int .u8 sto) := (PM.at_ (PM.on hp l3) ha4 hS).2.2.2.1
      have f3_ps4 : Q2.cell? ⟨P, a * 6 + 4, none⟩ = some (.string scg) := (PM.at_ (PM.on hp l3) ha4 hS).2.2.2.2.1
      have f3_ps5 : Q2.cell? ⟨P, a * 6 + 5, none⟩ = some (.bool skp) := (PM.at_ (PM.on hp l3) ha4 hS).2.2.2.2.2
      go_wp2_with fail
      exact bodyPost_ret (v := .tuple #[]) (by simp [results, Try.results23, go_sem]) rfl (SPost.stay ⟨⟨A, n, q, G, bm, PM.on hp l3, Seg.on hs l3, hG, MH.on hm l3, hbm⟩, hP⟩ HI.out (by omega) (Below.mono l3 hB))
  have hj5 := hjv
  clear hjv
  have j3 : (j == 3) = false := by simp; omega
  have j4 : (j == 4) = false := by simp; omega
  have j5 : (j == 5) = false := by simp; omega
  have f3_pr0 : Q2.cell? ⟨P, 24, none⟩ = some (.slice A n q) := (PM.rest (PM.on hp l3)).1
  have f3_pr1 : Q2.cell? ⟨P, 25, none⟩ = some (.string c) := (PM.rest (PM.on hp l3)).2.1
  have f3_pr2 : Q2.cell? ⟨P, 26, none⟩ = some (.map (some bm)) := (PM.rest (PM.on hp l3)).2.2
  by_cases hn0 : 0 < n
  · have hn0' : decide ((0 : Int) < (n : Int)) = true := by simp; omega
    obtain ⟨i, hi⟩ : ∃ i, x % n = i := ⟨_, rfl⟩
    have hin : i < n := by rw [← hi]; exact Nat.mod_lt _ hn0
    have ei : (x : Int) % (n : Int) = (i : Int) := by rw [← hi]; simp
    have ei' : (x : Int).tmod (n : Int) = (i : Int) := by rw [Int.tmod_eq_emod_of_nonneg (by omega)]; exact ei
    have en : ¬ (n : Int) = 0 := by omega
    have en' : ((n : Int) == 0) = false := by simp; omega
    have en2 : ¬ n = 0 := by omega
    have en3 : (n == 0) = false := by simp; omega
    have hin' : (i : Int) < (n : Int) := by omega
    have hi0 : (0 : Int) ≤ (i : Int) := by omega
    have hxw : IntKind.i64.wrap (x : Int) = (x : Int) := IntWalk.i64_in _ (by omega)
    obtain ⟨gg, off, mkd, mfr, mto, mep, mmg, hA, x1, d0, d1, d2, d3, d4⟩ := msg_at (RR.of_seg (Seg.on hs l3)) hin
    subst hA
    have hmem := HI.out.msg _ (List.mem_of_getElem? x1)
    obtain ⟨k, hk4, hmk⟩ := hmem.to
    simp only at hmk
    subst hmk
    have HX := Lib.hid (List.mem_of_getElem? x1)
    clear hi x1 hmem hj3 hj4 hj5
    go_wp2_with fail
    go_still_tail 16, (by kernel_rfl)
    change wpList _ _ _ _ _ Q2.drew
    obtain ⟨D9, hD9⟩ : ∃ V, Q2.drew = V := ⟨_, rfl⟩
    have bD9 : Below Q2.heap.size Q2 D9 := by rw [← hD9]; exact le_dr (Below.refl _ _)
    rw [hD9]
    clear hD9
    clear f3_st0 f3_st1 f3_st2 f3_st3 f3_st4 f3_pr0 f3_pr1 f3_pr2 d0 d1 d2 d3 d4
    have r4_st := le_on r3_st bD9
    have l4 := le_tr l3 bD9
    clear r3_st l3
    go_wp2_with fail
    refine (phear_c B P S L c M k mkd mfr mep mmg _ ⟨⟨_, n, q, G, bm, PM.on hp l4, Seg.on hs l4, hG, MH.on hm l4, hbm⟩, hP⟩ (Nat.le_trans hB l4.size) (by omega) hk4).mono ?_
    rintro e9 w9 ⟨⟨v9, rfl⟩, hpl9, hb9⟩
    go_wp2_with fail
    obtain ⟨E', o', t', hI', hE'⟩ := HI.out.hear HX.out hk4
    exact bodyPost_ret (v := .tuple #[]) (by simp [results, Try.results23, go_sem]) rfl (⟨_, _, c, E', o', t', ⟨_, rfl⟩, hpl9, hI'.sub (fun m hm => by split at hm; exact hm; exact List.mem_append_left _ hm), (by have := hear_len (S k) ⟨mkd, mfr, (k : Int), mep, mmg⟩; split <;> (try rw [List.length_append]) <;> omega), (by rcases hE' with h | h; exact .inl ⟨h.1, h.2.1⟩; exact .inr h.1), (PI.hear_pot hE').1, (Below.mono l4 hB).trans hb9⟩)
  · have hn0' : decide ((0 : Int) < (n : Int)) = false := by simp; omega
    go_wp2_with fail
    exact bodyPost_ret (v := .tuple #[]) (by simp [results, Try.results23, go_sem]) rfl (SPost.stay ⟨⟨A, n, q, G, bm, PM.on hp l3, Seg.on hs l3, hG, MH.on hm l3, hbm⟩, hP⟩ HI.out (by omega) (Below.mono l3 hB))
end Go.Proofs.Ytmghckddofefkaa
