/-
  Layer 17: the document's Decode. Conditions: the bytes can be read, five thousand at most.
-/
import Derived.Test.YtbkfepgcnijlfaaNoI
import Derived.Test.YtbkfepgcnijlfaaNoD
set_option linter.unusedVariables false
set_option linter.unusedSimpArgs false
namespace Go.Proofs.Ytbkfepgcnijlfaa
open Go.RowKit
open Dk (Nt InN RightN BoundN MsgN NoMsg KindN EpN bound_n)


theorem Dk.fC_len (bs : List UInt8) : (Dk.fC bs).length ≤ bs.length := by unfold Dk.fC; split <;> simp <;> omega
set_option maxRecDepth 100000 in
set_option maxHeartbeats 4000000 in
theorem decode_r (A : Option Addr) (n c : Nat) (bs : List UInt8) (w : World) (hb : RR w bcl 1 A n c bs) (hn : n ≤ 5000) : Calls Try.prog 13 #[.slice A n c] w (DPost w bs) := by
  have hlen := Lib.hid hb.len
  have hl := RL.start hb
  obtain ⟨x, hx⟩ : ∃ x, Dk.fC bs = x := ⟨_, rfl⟩
  obtain ⟨e0, he⟩ : ∃ x, Dk.fE bs = x := ⟨_, rfl⟩
  obtain ⟨k0, hk⟩ : ∃ x, Dk.fK bs = x := ⟨_, rfl⟩
  have C1 := fun V (h : RR V bcl 1 A n c bs) => first_R A n c bs V h
  unfold FstPost at C1
  rw [hx, he, hk] at C1
  by_cases h1 : e0 = 0 ∧ k0 = n
  rotate_left
  · have HN := Lib.hid (d_no1 (bs := bs) (by rw [he, hk, hlen.out]; exact h1))
    by_cases h3 : e0 = 0
    · have q0 : ((e0 : Int) != 0) = false := by simp [h3]
      have q1 : ((k0 : Int) != (n : Int)) = true := by simp; omega
      have q2 : (k0 != n) = true := by simp; omega
      clear h1 h3 he hk hx
      go_enter Try.func13, Try.ntmps13
      go_wp2_with (first | ((with_reducible refine st_alloc 25 (ntA zN) ?_ ?_); exact zero_nr))
      refine ⟨fun V1 g1 n1 f1 => ?_⟩
      have up1 : w.heap.size ≤ g1 := Nat.le_of_eq f1.at_
      have bl1 := f1.bel
      clear f1
      have r3_l := (hl).on bl1
      have l3 := le_tr (Below.refl _ _) bl1
      clear hl
      clear bl1
      go_wp2_with fail
      (with_reducible refine (C1 _ (r3_l).rr).mono ?_)
      rintro e w4 ⟨A2, n2, c2, rfl, h2, b4⟩
      have r6_r := le_on n1 b4
      have l6 := le_tr l3 b4
      clear n1 r3_l l3
      clear b4
      clear h2
      go_wp2_with (first | ((with_reducible refine st_store 25 _ _ g1 (ntA zN) ?_ ?_ r6_r ?_ ?_ ?_ ?_); exact rfl; exact rfl; exact Try.zNr; exact rfl; exact ntA_one _))
      refine ⟨fun V7 n7 k7 => ?_⟩
      have o7 := k7.bel _ _ l6 up1
      clear k7
      clear r6_r l6
      go_wp2_with fail
      exact bodyPost_ret (v := .tuple #[.agg (ntA zN), .int .i64 4]) (res_two Try.results13 rfl rfl n7 Try.underlying25 rfl Try.zNr) rfl ⟨dp_no HN.out, o7⟩
    have q0 : ((e0 : Int) != 0) = true := by simp; omega
    have q3 : (e0 != 0) = true := by simp [h3]
    clear h1 h3 he hk hx
    go_enter Try.func13, Try.ntmps13
    go_wp2_with (first | ((with_reducible refine st_alloc 25 (ntA zN) ?_ ?_); exact zero_nr))
    refine ⟨fun V1 g1 n1 f1 => ?_⟩
    have up1 : w.heap.size ≤ g1 := Nat.le_of_eq f1.at_
    have bl1 := f1.bel
    clear f1
    have r3_l := (hl).on bl1
    have l3 := le_tr (Below.refl _ _) bl1
    clear hl
    clear bl1
    go_wp2_with fail
    (with_reducible refine (C1 _ (r3_l).rr).mono ?_)
    rintro e w4 ⟨A2, n2, c2, rfl, h2, b4⟩
    have r6_r := le_on n1 b4
    have l6 := le_tr l3 b4
    clear n1 r3_l l3
    clear b4
    clear h2
    go_wp2_with (first | ((with_reducible refine st_store 25 _ _ g1 (ntA zN) ?_ ?_ r6_r ?_ ?_ ?_ ?_); exact rfl; exact rfl; exact Try.zNr; exact rfl; exact ntA_one _))
    refine ⟨fun V7 n7 k7 => ?_⟩
    have o7 := k7.bel _ _ l6 up1
    clear k7
    clear r6_r l6
    go_wp2_with fail
    exact bodyPost_ret (v := .tuple #[.agg (ntA zN), .int .i64 4]) (res_two Try.results13 rfl rfl n7 Try.underlying25 rfl Try.zNr) rfl ⟨dp_no HN.out, o7⟩
  obtain ⟨rfl, rfl⟩ := h1
  have HY := Lib.hid (show Dk.fE bs = 0 ∧ Dk.fK bs = bs.length from ⟨he, by rw [hk, hlen.out]⟩)
  have q0 : (((0 : Nat) : Int) != 0) = false := by simp
  have q1 : ((k0 : Int) != (k0 : Int)) = false := by simp
  have q2 : (k0 != k0) = false := by simp
  clear he hk
  have hn2 : ∀ (V : World) (B : Option Addr) (m d : Nat), RR V bcl 1 B m d x → m ≤ 5000 := fun V B m d h => by
    rw [← h.len, ← hx]
    have e := hb.len
    have := Dk.fC_len bs
    omega
  rcases dec10 x with ho | ⟨k, b, t, e, v, q, f, g, m, cg, ho, hw⟩
  · have HO := Lib.hid ho
    have HN := Lib.hid (d_no2 (bs := bs) (by rw [hx]; exact ho))
    clear ho
    go_enter Try.func13, Try.ntmps13
    go_wp2_with (first | ((with_reducible refine st_alloc 25 (ntA zN) ?_ ?_); exact zero_nr))
    refine ⟨fun V1 g1 n1 f1 => ?_⟩
    have up1 : w.heap.size ≤ g1 := Nat.le_of_eq f1.at_
    have bl1 := f1.bel
    clear f1
    have r3_l := (hl).on bl1
    have l3 := le_tr (Below.refl _ _) bl1
    clear hl
    clear bl1
    go_wp2_with fail
    (with_reducible refine (C1 _ (r3_l).rr).mono ?_)
    rintro e w4 ⟨A2, n2, c2, rfl, h2, b4⟩
    have r6_r := le_on n1 b4
    have l6 := le_tr l3 b4
    clear n1 r3_l l3
    clear b4
    go_wp2_with fail
    (with_reducible refine (decx_R HO.out _ _ _ _ h2 (hn2 _ _ _ _ h2)).mono ?_)
    rintro e w7 ⟨A3, c3, rfl, b7⟩
    have r9_r := le_on r6_r b7
    have r9_y := (h2).on b7
    have l9 := le_tr l6 b7
    clear r6_r h2 l6
    clear b7
    clear r9_y
    go_wp2_with (first | ((with_reducible refine st_store 25 _ _ g1 (ntA zN) ?_ ?_ r9_r ?_ ?_ ?_ ?_); exact rfl; exact rfl; exact Try.zNr; exact rfl; exact ntA_one _))
    refine ⟨fun V10 n10 k10 => ?_⟩
    have o10 := k10.bel _ _ l9 up1
    clear k10
    clear r9_r l9
    go_wp2_with fail
    exact bodyPost_ret (v := .tuple #[.agg (ntA zN), .int .i64 4]) (res_two Try.results13 rfl rfl n10 Try.underlying25 rfl Try.zNr) rfl ⟨dp_no HN.out, o10⟩
  have HO := Lib.hid ho
  have HR1 := fun h => Lib.hid (d_no3 (bs := bs) (by rw [hx]; exact ho) h)
  have HR2 := fun h => Lib.hid (d_yes (bs := bs) HY.out (by rw [hx]; exact ho) h)
  clear ho
  have C5 := fun W => right_r ⟨(k : Int), (b : Int), (t : Int), (e : Int), (v : Int), (q : Int), (f : Int), (g : Int), (m : Int), cg⟩ W
  by_cases hr : RightN ⟨(k : Int), (b : Int), (t : Int), (e : Int), (v : Int), (q : Int), (f : Int), (g : Int), (m : Int), cg⟩
  · skip
    simp only [decide_eq_true hr] at C5
    have HZ := HR2 hr
    clear hr HR1 HR2
    go_enter Try.func13, Try.ntmps13
    go_wp2_with (first | ((with_reducible refine st_alloc 25 (ntA zN) ?_ ?_); exact zero_nr))
    refine ⟨fun V1 g1 n1 f1 => ?_⟩
    have up1 : w.heap.size ≤ g1 := Nat.le_of_eq f1.at_
    have bl1 := f1.bel
    clear f1
    have r3_l := (hl).on bl1
    have l3 := le_tr (Below.refl _ _) bl1
    clear hl
    clear bl1
    go_wp2_with fail
    (with_reducible refine (C1 _ (r3_l).rr).mono ?_)
    rintro e w4 ⟨A2, n2, c2, rfl, h2, b4⟩
    have r6_r := le_on n1 b4
    have l6 := le_tr l3 b4
    clear n1 r3_l l3
    clear b4
    go_wp2_with fail
    (with_reducible refine (decn_R HO.out _ _ _ _ h2 (hn2 _ _ _ _ h2)).mono ?_)
    rintro e w7 ⟨A3, c3, rfl, h5, b7⟩
    have r9_r := le_on r6_r b7
    have r9_y := (h2).on b7
    have l9 := le_tr l6 b7
    clear r6_r h2 l6
    clear b7
    go_wp2_with fail
    have wk : IntKind.i64.wrap (k : Int) = (k : Int) := IntWalk.i64_in _ (by omega)
    have wb : IntKind.u8.wrap (b : Int) = (b : Int) := IntWalk.u8_in _ (by omega)
    have wt : IntKind.i64.wrap (t : Int) = (t : Int) := IntWalk.i64_in _ (by omega)
    have we : IntKind.i64.wrap (e : Int) = (e : Int) := IntWalk.i64_in _ (by omega)
    have wv : IntKind.i64.wrap (v : Int) = (v : Int) := IntWalk.i64_in _ (by omega)
    have wq : IntKind.i64.wrap (q : Int) = (q : Int) := IntWalk.i64_in _ (by omega)
    have wf : IntKind.u8.wrap (f : Int) = (f : Int) := IntWalk.u8_in _ (by omega)
    have wg : IntKind.u8.wrap (g : Int) = (g : Int) := IntWalk.u8_in _ (by omega)
    have wm : IntKind.i64.wrap (m : Int) = (m : Int) := IntWalk.i64_in _ (by omega)
    obtain ⟨a0, o0, rfl, hv⟩ := vr_10 h5
    have hv1 := hv.1
    go_wp2_with fail
    have y10 := Lib.hid (show (fun V : World => V10 V a0 o0 k b t e v q f g m cg) w7.drew from (hv).drew)
    refine wp_region_held_drew (S := (fun V : World => V10 V a0 o0 k b t e v q f g m cg)) (by kernel_rfl) y10.out (fun hHeld => ?_)
    obtain ⟨D10, hD10⟩ : ∃ V, w7.drew = V := ⟨_, rfl⟩
    have b10 : Below w7.heap.size w7 D10 := by rw [← hD10]; exact le_dr (Below.refl _ _)
    rw [hD10] at hHeld ⊢
    clear hD10
    have r12_r := le_on r9_r b10
    have r12_y := (hv).on b10
    have l12 := le_tr l9 b10
    clear r9_r hv l9
    clear b10
    refine wpAnyH_takeL (i := 0) (d := some 33) (v := .slice (some ⟨a0, o0, none⟩) 10 c3) rfl rfl (by kernel_rfl) (by kernel_rfl) (by kernel_rfl) (fun _ _ _ h => h) (Or.inl ⟨by rfl, ?_⟩) hHeld ?_
    · intro w hSw; (try dsimp only at hSw); go_simp
    try simp only [Act.put, List.setIfInBounds_toArray, List.set_cons_zero, List.set_cons_succ]
    refine wpAnyH_takeL (i := 1) (d := some 34) (v := .pointer (some ⟨a0, o0, none⟩)) rfl rfl (by kernel_rfl) (by kernel_rfl) (by kernel_rfl) (fun _ _ _ h => h) (Or.inl ⟨by rfl, ?_⟩) hHeld ?_
    · intro w hSw; (try dsimp only at hSw); go_simp
    try simp only [Act.put, List.setIfInBounds_toArray, List.set_cons_zero, List.set_cons_succ]
    refine wpAnyH_takeL (i := 2) (d := some 35) (v := .pointer (some ⟨a0, o0, none⟩)) rfl rfl (by kernel_rfl) (by kernel_rfl) (by kernel_rfl) (fun _ _ _ h => h) (Or.inl ⟨by rfl, ?_⟩) hHeld ?_
    · intro w hSw; (try dsimp only at hSw); go_simp
    try simp only [Act.put, List.setIfInBounds_toArray, List.set_cons_zero, List.set_cons_succ]
    refine wpAnyH_takeL (i := 3) (d := some 36) (v := .int .u64 (k : Int)) rfl rfl (by kernel_rfl) (by kernel_rfl) (by kernel_rfl) (fun _ _ _ h => h) (Or.inl ⟨by rfl, ?_⟩) hHeld ?_
    · intro w hSw; have hcc := hSw.2.1; go_simp
    try simp only [Act.put, List.setIfInBounds_toArray, List.set_cons_zero, List.set_cons_succ]
    refine wpAnyH_takeL (i := 4) (d := some 37) (v := .int .i64 (k : Int)) rfl rfl (by kernel_rfl) (by kernel_rfl) (by kernel_rfl) (fun _ _ _ h => h) (Or.inl ⟨by rfl, ?_⟩) hHeld ?_
    · intro w hSw; (try dsimp only at hSw); go_simp
    try simp only [Act.put, List.setIfInBounds_toArray, List.set_cons_zero, List.set_cons_succ]
    refine wpAnyH_takeL (i := 5) (d := some 38) (v := .slice (some ⟨a0, o0, none⟩) 10 c3) rfl rfl (by kernel_rfl) (by kernel_rfl) (by kernel_rfl) (fun _ _ _ h => h) (Or.inl ⟨by rfl, ?_⟩) hHeld ?_
    · intro w hSw; (try dsimp only at hSw); go_simp
    try simp only [Act.put, List.setIfInBounds_toArray, List.set_cons_zero, List.set_cons_succ]
    refine wpAnyH_takeL (i := 6) (d := some 39) (v := .pointer (some ⟨a0, o0 + 2, none⟩)) rfl rfl (by kernel_rfl) (by kernel_rfl) (by kernel_rfl) (fun _ _ _ h => h) (Or.inl ⟨by rfl, ?_⟩) hHeld ?_
    · intro w hSw; (try dsimp only at hSw); go_simp
    try simp only [Act.put, List.setIfInBounds_toArray, List.set_cons_zero, List.set_cons_succ]
    refine wpAnyH_takeL (i := 7) (d := some 40) (v := .pointer (some ⟨a0, o0 + 2, none⟩)) rfl rfl (by kernel_rfl) (by kernel_rfl) (by kernel_rfl) (fun _ _ _ h => h) (Or.inl ⟨by rfl, ?_⟩) hHeld ?_
    · intro w hSw; (try dsimp only at hSw); go_simp
    try simp only [Act.put, List.setIfInBounds_toArray, List.set_cons_zero, List.set_cons_succ]
    refine wpAnyH_takeL (i := 8) (d := some 41) (v := .int .u64 (b : Int)) rfl rfl (by kernel_rfl) (by kernel_rfl) (by kernel_rfl) (fun _ _ _ h => h) (Or.inl ⟨by rfl, ?_⟩) hHeld ?_
    · intro w hSw; have hcc := hSw.2.2.1; go_simp
    try simp only [Act.put, List.setIfInBounds_toArray, List.set_cons_zero, List.set_cons_succ]
    refine wpAnyH_takeL (i := 9) (d := some 42) (v := .int .u8 (b : Int)) rfl rfl (by kernel_rfl) (by kernel_rfl) (by kernel_rfl) (fun _ _ _ h => h) (Or.inl ⟨by rfl, ?_⟩) hHeld ?_
    · intro w hSw; (try dsimp only at hSw); go_simp
    try simp only [Act.put, List.setIfInBounds_toArray, List.set_cons_zero, List.set_cons_succ]
    refine wpAnyH_takeL (i := 10) (d := some 43) (v := .slice (some ⟨a0, o0, none⟩) 10 c3) rfl rfl (by kernel_rfl) (by kernel_rfl) (by kernel_rfl) (fun _ _ _ h => h) (Or.inl ⟨by rfl, ?_⟩) hHeld ?_
    · intro w hSw; (try dsimp only at hSw); go_simp
    try simp only [Act.put, List.setIfInBounds_toArray, List.set_cons_zero, List.set_cons_succ]
    refine wpAnyH_takeL (i := 11) (d := some 44) (v := .pointer (some ⟨a0, o0 + 4, none⟩)) rfl rfl (by kernel_rfl) (by kernel_rfl) (by kernel_rfl) (fun _ _ _ h => h) (Or.inl ⟨by rfl, ?_⟩) hHeld ?_
    · intro w hSw; (try dsimp only at hSw); go_simp
    try simp only [Act.put, List.setIfInBounds_toArray, List.set_cons_zero, List.set_cons_succ]
    refine wpAnyH_takeL (i := 12) (d := some 45) (v := .pointer (some ⟨a0, o0 + 4, none⟩)) rfl rfl (by kernel_rfl) (by kernel_rfl) (by kernel_rfl) (fun _ _ _ h => h) (Or.inl ⟨by rfl, ?_⟩) hHeld ?_
    · intro w hSw; (try dsimp only at hSw); go_simp
    try simp only [Act.put, List.setIfInBounds_toArray, List.set_cons_zero, List.set_cons_succ]
    refine wpAnyH_takeL (i := 13) (d := some 46) (v := .int .u64 (t : Int)) rfl rfl (by kernel_rfl) (by kernel_rfl) (by kernel_rfl) (fun _ _ _ h => h) (Or.inl ⟨by rfl, ?_⟩) hHeld ?_
    · intro w hSw; have hcc := hSw.2.2.2.1; go_simp
    try simp only [Act.put, List.setIfInBounds_toArray, List.set_cons_zero, List.set_cons_succ]
    refine wpAnyH_takeL (i := 14) (d := some 47) (v := .int .i64 (t : Int)) rfl rfl (by kernel_rfl) (by kernel_rfl) (by kernel_rfl) (fun _ _ _ h => h) (Or.inl ⟨by rfl, ?_⟩) hHeld ?_
    · intro w hSw; (try dsimp only at hSw); go_simp
    try simp only [Act.put, List.setIfInBounds_toArray, List.set_cons_zero, List.set_cons_succ]
    refine wpAnyH_takeL (i := 15) (d := some 48) (v := .slice (some ⟨a0, o0, none⟩) 10 c3) rfl rfl (by kernel_rfl) (by kernel_rfl) (by kernel_rfl) (fun _ _ _ h => h) (Or.inl ⟨by rfl, ?_⟩) hHeld ?_
    · intro w hSw; (try dsimp only at hSw); go_simp
    try simp only [Act.put, List.setIfInBounds_toArray, List.set_cons_zero, List.set_cons_succ]
    refine wpAnyH_takeL (i := 16) (d := some 49) (v := .pointer (some ⟨a0, o0 + 6, none⟩)) rfl rfl (by kernel_rfl) (by kernel_rfl) (by kernel_rfl) (fun _ _ _ h => h) (Or.inl ⟨by rfl, ?_⟩) hHeld ?_
    · intro w hSw; (try dsimp only at hSw); go_simp
    try simp only [Act.put, List.setIfInBounds_toArray, List.set_cons_zero, List.set_cons_succ]
    refine wpAnyH_takeL (i := 17) (d := some 50) (v := .pointer (some ⟨a0, o0 + 6, none⟩)) rfl rfl (by kernel_rfl) (by kernel_rfl) (by kernel_rfl) (fun _ _ _ h => h) (Or.inl ⟨by rfl, ?_⟩) hHeld ?_
    · intro w hSw; (try dsimp only at hSw); go_simp
    try simp only [Act.put, List.setIfInBounds_toArray, List.set_cons_zero, List.set_cons_succ]
    refine wpAnyH_takeL (i := 18) (d := some 51) (v := .int .u64 (e : Int)) rfl rfl (by kernel_rfl) (by kernel_rfl) (by kernel_rfl) (fun _ _ _ h => h) (Or.inl ⟨by rfl, ?_⟩) hHeld ?_
    · intro w hSw; have hcc := hSw.2.2.2.2.1; go_simp
    try simp only [Act.put, List.setIfInBounds_toArray, List.set_cons_zero, List.set_cons_succ]
    refine wpAnyH_takeL (i := 19) (d := some 52) (v := .int .i64 (e : Int)) rfl rfl (by kernel_rfl) (by kernel_rfl) (by kernel_rfl) (fun _ _ _ h => h) (Or.inl ⟨by rfl, ?_⟩) hHeld ?_
    · intro w hSw; (try dsimp only at hSw); go_simp
    try simp only [Act.put, List.setIfInBounds_toArray, List.set_cons_zero, List.set_cons_succ]
    refine wpAnyH_takeL (i := 20) (d := some 53) (v := .slice (some ⟨a0, o0, none⟩) 10 c3) rfl rfl (by kernel_rfl) (by kernel_rfl) (by kernel_rfl) (fun _ _ _ h => h) (Or.inl ⟨by rfl, ?_⟩) hHeld ?_
    · intro w hSw; (try dsimp only at hSw); go_simp
    try simp only [Act.put, List.setIfInBounds_toArray, List.set_cons_zero, List.set_cons_succ]
    refine wpAnyH_takeL (i := 21) (d := some 54) (v := .pointer (some ⟨a0, o0 + 8, none⟩)) rfl rfl (by kernel_rfl) (by kernel_rfl) (by kernel_rfl) (fun _ _ _ h => h) (Or.inl ⟨by rfl, ?_⟩) hHeld ?_
    · intro w hSw; (try dsimp only at hSw); go_simp
    try simp only [Act.put, List.setIfInBounds_toArray, List.set_cons_zero, List.set_cons_succ]
    refine wpAnyH_takeL (i := 22) (d := some 55) (v := .pointer (some ⟨a0, o0 + 8, none⟩)) rfl rfl (by kernel_rfl) (by kernel_rfl) (by kernel_rfl) (fun _ _ _ h => h) (Or.inl ⟨by rfl, ?_⟩) hHeld ?_
    · intro w hSw; (try dsimp only at hSw); go_simp
    try simp only [Act.put, List.setIfInBounds_toArray, List.set_cons_zero, List.set_cons_succ]
    refine wpAnyH_takeL (i := 23) (d := some 56) (v := .int .u64 (v : Int)) rfl rfl (by kernel_rfl) (by kernel_rfl) (by kernel_rfl) (fun _ _ _ h => h) (Or.inl ⟨by rfl, ?_⟩) hHeld ?_
    · intro w hSw; have hcc := hSw.2.2.2.2.2.1; go_simp
    try simp only [Act.put, List.setIfInBounds_toArray, List.set_cons_zero, List.set_cons_succ]
    refine wpAnyH_takeL (i := 24) (d := some 57) (v := .int .i64 (v : Int)) rfl rfl (by kernel_rfl) (by kernel_rfl) (by kernel_rfl) (fun _ _ _ h => h) (Or.inl ⟨by rfl, ?_⟩) hHeld ?_
    · intro w hSw; (try dsimp only at hSw); go_simp
    try simp only [Act.put, List.setIfInBounds_toArray, List.set_cons_zero, List.set_cons_succ]
    refine wpAnyH_takeL (i := 25) (d := some 58) (v := .agg (ntA ⟨(k : Int), (b : Int), (t : Int), (e : Int), (v : Int), 0, 0, 0, 0, ByteArray.empty⟩)) rfl rfl (by kernel_rfl) (by kernel_rfl) (by kernel_rfl) (fun _ _ _ h => h) (Or.inl ⟨by rfl, ?_⟩) hHeld ?_
    · intro w hSw; exact yl_buildk5 _ (built_r5 _ _ _ _ _) rfl rfl rfl rfl rfl
    try simp only [Act.put, List.setIfInBounds_toArray, List.set_cons_zero, List.set_cons_succ]
    refine wpAnyH_ready (rs := [26]) (by kernel_rfl) (by simp) ?_
    refine AllReadyH.cons rfl (fun K hK => ?_) AllReadyH.nil
    refine rd_alloc rfl 25 rfl (some 9) rfl (ntA zN) zero_nr ?_
    refine ⟨fun V13 g13 n13 f13 => ?_⟩
    have ne13_r := f13.ne r12_r
    have up13 : w.heap.size ≤ g13 := f13.up l12
    have nea13 : a0 ≠ g13 := by have := (r12_y).1; have := f13.at_; omega
    have bl13 := f13.bel
    clear f13
    have r15_r := le_on r12_r bl13
    have r15_y := (r12_y).on bl13
    have l15 := le_tr l12 bl13
    clear r12_r r12_y l12
    clear bl13
    have y16 := Lib.hid (show (fun V : World => V10 V a0 o0 k b t e v q f g m cg) V13 from r15_y)
    refine hK.out _ _ y16.out (fun hHeld => ?_)
    clear hK K y16
    try simp only [Act.put, List.setIfInBounds_toArray, List.set_cons_zero, List.set_cons_succ]
    refine wpAnyH_ready (rs := [27]) (by kernel_rfl) (by simp) ?_
    refine AllReadyH.cons rfl (fun K hK => ?_) AllReadyH.nil
    refine rd_store rfl 25 _ _ rfl none rfl g13 (ntA ⟨(k : Int), (b : Int), (t : Int), (e : Int), (v : Int), 0, 0, 0, 0, ByteArray.empty⟩) rfl rfl n13 Try.zNr rfl (ntA_one _) ?_
    refine ⟨fun V17 n17 k17 => ?_⟩
    have m17_r := k17.on r15_r ne13_r
    have m17_y := V10.wr r15_y k17 nea13
    have o17 := k17.bel _ _ l15 up13
    clear k17
    clear n13 r15_r r15_y l15
    have y18 := Lib.hid (show (fun V : World => V10 V a0 o0 k b t e v q f g m cg) V17 from m17_y)
    refine hK.out _ _ y18.out (fun hHeld => ?_)
    clear hK K y18
    try simp only [Act.put, List.setIfInBounds_toArray, List.set_cons_zero, List.set_cons_succ]
    refine wpAnyH_done (by kernel_rfl) ?_ _
    go_wp2_with fail
    have y19 := Lib.hid (show (fun V : World => V10 V a0 o0 k b t e v q f g m cg) V17.drew from (m17_y).drew)
    refine wp_region_held_drew (S := (fun V : World => V10 V a0 o0 k b t e v q f g m cg)) (by kernel_rfl) y19.out (fun hHeld => ?_)
    obtain ⟨D19, hD19⟩ : ∃ V, V17.drew = V := ⟨_, rfl⟩
    have b19 : Below V17.heap.size V17 D19 := by rw [← hD19]; exact le_dr (Below.refl _ _)
    rw [hD19] at hHeld ⊢
    clear hD19
    have r21_r := le_on m17_r b19
    have r21_n := le_on n17 b19
    have r21_y := (m17_y).on b19
    have l21 := le_tr o17 b19
    clear m17_r n17 m17_y o17
    clear b19
    refine wpAnyH_takeL (i := 0) (d := some 59) (v := .slice (some ⟨a0, o0, none⟩) 10 c3) rfl rfl (by kernel_rfl) (by kernel_rfl) (by kernel_rfl) (fun _ _ _ h => h) (Or.inl ⟨by rfl, ?_⟩) hHeld ?_
    · intro w hSw; (try dsimp only at hSw); go_simp
    try simp only [Act.put, List.setIfInBounds_toArray, List.set_cons_zero, List.set_cons_succ]
    refine wpAnyH_takeL (i := 1) (d := some 60) (v := .pointer (some ⟨a0, o0 + 10, none⟩)) rfl rfl (by kernel_rfl) (by kernel_rfl) (by kernel_rfl) (fun _ _ _ h => h) (Or.inl ⟨by rfl, ?_⟩) hHeld ?_
    · intro w hSw; (try dsimp only at hSw); go_simp
    try simp only [Act.put, List.setIfInBounds_toArray, List.set_cons_zero, List.set_cons_succ]
    refine wpAnyH_takeL (i := 2) (d := some 61) (v := .pointer (some ⟨a0, o0 + 10, none⟩)) rfl rfl (by kernel_rfl) (by kernel_rfl) (by kernel_rfl) (fun _ _ _ h => h) (Or.inl ⟨by rfl, ?_⟩) hHeld ?_
    · intro w hSw; (try dsimp only at hSw); go_simp
    try simp only [Act.put, List.setIfInBounds_toArray, List.set_cons_zero, List.set_cons_succ]
    refine wpAnyH_takeL (i := 3) (d := some 62) (v := .int .u64 (q : Int)) rfl rfl (by kernel_rfl) (by kernel_rfl) (by kernel_rfl) (fun _ _ _ h => h) (Or.inl ⟨by rfl, ?_⟩) hHeld ?_
    · intro w hSw; have hcc := hSw.2.2.2.2.2.2.1; go_simp
    try simp only [Act.put, List.setIfInBounds_toArray, List.set_cons_zero, List.set_cons_succ]
    refine wpAnyH_takeL (i := 4) (d := some 63) (v := .int .i64 (q : Int)) rfl rfl (by kernel_rfl) (by kernel_rfl) (by kernel_rfl) (fun _ _ _ h => h) (Or.inl ⟨by rfl, ?_⟩) hHeld ?_
    · intro w hSw; (try dsimp only at hSw); go_simp
    try simp only [Act.put, List.setIfInBounds_toArray, List.set_cons_zero, List.set_cons_succ]
    refine wpAnyH_takeL (i := 5) (d := some 64) (v := .slice (some ⟨a0, o0, none⟩) 10 c3) rfl rfl (by kernel_rfl) (by kernel_rfl) (by kernel_rfl) (fun _ _ _ h => h) (Or.inl ⟨by rfl, ?_⟩) hHeld ?_
    · intro w hSw; (try dsimp only at hSw); go_simp
    try simp only [Act.put, List.setIfInBounds_toArray, List.set_cons_zero, List.set_cons_succ]
    refine wpAnyH_takeL (i := 6) (d := some 65) (v := .pointer (some ⟨a0, o0 + 12, none⟩)) rfl rfl (by kernel_rfl) (by kernel_rfl) (by kernel_rfl) (fun _ _ _ h => h) (Or.inl ⟨by rfl, ?_⟩) hHeld ?_
    · intro w hSw; (try dsimp only at hSw); go_simp
    try simp only [Act.put, List.setIfInBounds_toArray, List.set_cons_zero, List.set_cons_succ]
    refine wpAnyH_takeL (i := 7) (d := some 66) (v := .pointer (some ⟨a0, o0 + 12, none⟩)) rfl rfl (by kernel_rfl) (by kernel_rfl) (by kernel_rfl) (fun _ _ _ h => h) (Or.inl ⟨by rfl, ?_⟩) hHeld ?_
    · intro w hSw; (try dsimp only at hSw); go_simp
    try simp only [Act.put, List.setIfInBounds_toArray, List.set_cons_zero, List.set_cons_succ]
    refine wpAnyH_takeL (i := 8) (d := some 67) (v := .int .u64 (f : Int)) rfl rfl (by kernel_rfl) (by kernel_rfl) (by kernel_rfl) (fun _ _ _ h => h) (Or.inl ⟨by rfl, ?_⟩) hHeld ?_
    · intro w hSw; have hcc := hSw.2.2.2.2.2.2.2.1; go_simp
    try simp only [Act.put, List.setIfInBounds_toArray, List.set_cons_zero, List.set_cons_succ]
    refine wpAnyH_takeL (i := 9) (d := some 68) (v := .int .u8 (f : Int)) rfl rfl (by kernel_rfl) (by kernel_rfl) (by kernel_rfl) (fun _ _ _ h => h) (Or.inl ⟨by rfl, ?_⟩) hHeld ?_
    · intro w hSw; (try dsimp only at hSw); go_simp
    try simp only [Act.put, List.setIfInBounds_toArray, List.set_cons_zero, List.set_cons_succ]
    refine wpAnyH_takeL (i := 10) (d := some 69) (v := .slice (some ⟨a0, o0, none⟩) 10 c3) rfl rfl (by kernel_rfl) (by kernel_rfl) (by kernel_rfl) (fun _ _ _ h => h) (Or.inl ⟨by rfl, ?_⟩) hHeld ?_
    · intro w hSw; (try dsimp only at hSw); go_simp
    try simp only [Act.put, List.setIfInBounds_toArray, List.set_cons_zero, List.set_cons_succ]
    refine wpAnyH_takeL (i := 11) (d := some 70) (v := .pointer (some ⟨a0, o0 + 14, none⟩)) rfl rfl (by kernel_rfl) (by kernel_rfl) (by kernel_rfl) (fun _ _ _ h => h) (Or.inl ⟨by rfl, ?_⟩) hHeld ?_
    · intro w hSw; (try dsimp only at hSw); go_simp
    try simp only [Act.put, List.setIfInBounds_toArray, List.set_cons_zero, List.set_cons_succ]
    refine wpAnyH_takeL (i := 12) (d := some 71) (v := .pointer (some ⟨a0, o0 + 14, none⟩)) rfl rfl (by kernel_rfl) (by kernel_rfl) (by kernel_rfl) (fun _ _ _ h => h) (Or.inl ⟨by rfl, ?_⟩) hHeld ?_
    · intro w hSw; (try dsimp only at hSw); go_simp
    try simp only [Act.put, List.setIfInBounds_toArray, List.set_cons_zero, List.set_cons_succ]
    refine wpAnyH_takeL (i := 13) (d := some 72) (v := .int .u64 (g : Int)) rfl rfl (by kernel_rfl) (by kernel_rfl) (by kernel_rfl) (fun _ _ _ h => h) (Or.inl ⟨by rfl, ?_⟩) hHeld ?_
    · intro w hSw; have hcc := hSw.2.2.2.2.2.2.2.2.1; go_simp
    try simp only [Act.put, List.setIfInBounds_toArray, List.set_cons_zero, List.set_cons_succ]
    refine wpAnyH_takeL (i := 14) (d := some 73) (v := .int .u8 (g : Int)) rfl rfl (by kernel_rfl) (by kernel_rfl) (by kernel_rfl) (fun _ _ _ h => h) (Or.inl ⟨by rfl, ?_⟩) hHeld ?_
    · intro w hSw; (try dsimp only at hSw); go_simp
    try simp only [Act.put, List.setIfInBounds_toArray, List.set_cons_zero, List.set_cons_succ]
    refine wpAnyH_takeL (i := 15) (d := some 74) (v := .slice (some ⟨a0, o0, none⟩) 10 c3) rfl rfl (by kernel_rfl) (by kernel_rfl) (by kernel_rfl) (fun _ _ _ h => h) (Or.inl ⟨by rfl, ?_⟩) hHeld ?_
    · intro w hSw; (try dsimp only at hSw); go_simp
    try simp only [Act.put, List.setIfInBounds_toArray, List.set_cons_zero, List.set_cons_succ]
    refine wpAnyH_takeL (i := 16) (d := some 75) (v := .pointer (some ⟨a0, o0 + 16, none⟩)) rfl rfl (by kernel_rfl) (by kernel_rfl) (by kernel_rfl) (fun _ _ _ h => h) (Or.inl ⟨by rfl, ?_⟩) hHeld ?_
    · intro w hSw; (try dsimp only at hSw); go_simp
    try simp only [Act.put, List.setIfInBounds_toArray, List.set_cons_zero, List.set_cons_succ]
    refine wpAnyH_takeL (i := 17) (d := some 76) (v := .pointer (some ⟨a0, o0 + 16, none⟩)) rfl rfl (by kernel_rfl) (by kernel_rfl) (by kernel_rfl) (fun _ _ _ h => h) (Or.inl ⟨by rfl, ?_⟩) hHeld ?_
    · intro w hSw; (try dsimp only at hSw); go_simp
    try simp only [Act.put, List.setIfInBounds_toArray, List.set_cons_zero, List.set_cons_succ]
    refine wpAnyH_takeL (i := 18) (d := some 77) (v := .int .u64 (m : Int)) rfl rfl (by kernel_rfl) (by kernel_rfl) (by kernel_rfl) (fun _ _ _ h => h) (Or.inl ⟨by rfl, ?_⟩) hHeld ?_
    · intro w hSw; have hcc := hSw.2.2.2.2.2.2.2.2.2.1; go_simp
    try simp only [Act.put, List.setIfInBounds_toArray, List.set_cons_zero, List.set_cons_succ]
    refine wpAnyH_takeL (i := 19) (d := some 78) (v := .int .i64 (m : Int)) rfl rfl (by kernel_rfl) (by kernel_rfl) (by kernel_rfl) (fun _ _ _ h => h) (Or.inl ⟨by rfl, ?_⟩) hHeld ?_
    · intro w hSw; (try dsimp only at hSw); go_simp
    try simp only [Act.put, List.setIfInBounds_toArray, List.set_cons_zero, List.set_cons_succ]
    refine wpAnyH_takeL (i := 20) (d := some 79) (v := .slice (some ⟨a0, o0, none⟩) 10 c3) rfl rfl (by kernel_rfl) (by kernel_rfl) (by kernel_rfl) (fun _ _ _ h => h) (Or.inl ⟨by rfl, ?_⟩) hHeld ?_
    · intro w hSw; (try dsimp only at hSw); go_simp
    try simp only [Act.put, List.setIfInBounds_toArray, List.set_cons_zero, List.set_cons_succ]
    refine wpAnyH_takeL (i := 21) (d := some 80) (v := .pointer (some ⟨a0, o0 + 18, none⟩)) rfl rfl (by kernel_rfl) (by kernel_rfl) (by kernel_rfl) (fun _ _ _ h => h) (Or.inl ⟨by rfl, ?_⟩) hHeld ?_
    · intro w hSw; (try dsimp only at hSw); go_simp
    try simp only [Act.put, List.setIfInBounds_toArray, List.set_cons_zero, List.set_cons_succ]
    refine wpAnyH_takeL (i := 22) (d := some 81) (v := .pointer (some ⟨a0, o0 + 19, none⟩)) rfl rfl (by kernel_rfl) (by kernel_rfl) (by kernel_rfl) (fun _ _ _ h => h) (Or.inl ⟨by rfl, ?_⟩) hHeld ?_
    · intro w hSw; (try dsimp only at hSw); go_simp
    try simp only [Act.put, List.setIfInBounds_toArray, List.set_cons_zero, List.set_cons_succ]
    refine wpAnyH_takeL (i := 23) (d := some 82) (v := .string cg) rfl rfl (by kernel_rfl) (by kernel_rfl) (by kernel_rfl) (fun _ _ _ h => h) (Or.inl ⟨by rfl, ?_⟩) hHeld ?_
    · intro w hSw; have hcc := hSw.2.2.2.2.2.2.2.2.2.2; go_simp
    try simp only [Act.put, List.setIfInBounds_toArray, List.set_cons_zero, List.set_cons_succ]
    refine wpAnyH_takeL (i := 24) (d := some 83) (v := .agg (mgA ⟨(k : Int), (b : Int), (t : Int), (e : Int), (v : Int), (q : Int), (f : Int), (g : Int), (m : Int), cg⟩)) rfl rfl (by kernel_rfl) (by kernel_rfl) (by kernel_rfl) (fun _ _ _ h => h) (Or.inl ⟨by rfl, ?_⟩) hHeld ?_
    · intro w hSw; exact yl_buildk5 _ (built_q5 ⟨(k : Int), (b : Int), (t : Int), (e : Int), (v : Int), (q : Int), (f : Int), (g : Int), (m : Int), cg⟩) rfl rfl rfl rfl rfl
    try simp only [Act.put, List.setIfInBounds_toArray, List.set_cons_zero, List.set_cons_succ]
    refine wpAnyH_takeL (i := 25) (d := some 84) (v := .pointer (some ⟨g13, 5, none⟩)) rfl rfl (by kernel_rfl) (by kernel_rfl) (by kernel_rfl) (fun _ _ _ h => h) (Or.inl ⟨by rfl, ?_⟩) hHeld ?_
    · intro w hSw; (try dsimp only at hSw); go_simp
    try simp only [Act.put, List.setIfInBounds_toArray, List.set_cons_zero, List.set_cons_succ]
    refine wpAnyH_ready (rs := [26]) (by kernel_rfl) (by simp) ?_
    refine AllReadyH.cons rfl (fun K hK => ?_) AllReadyH.nil
    refine rd_mid rfl 23 _ _ rfl none rfl g13 5 (mgA ⟨(k : Int), (b : Int), (t : Int), (e : Int), (v : Int), (q : Int), (f : Int), (g : Int), (m : Int), cg⟩) rfl rfl r21_n (by decide : 5 + 5 ≤ 10) (new := ntA ⟨(k : Int), (b : Int), (t : Int), (e : Int), (v : Int), (q : Int), (f : Int), (g : Int), (m : Int), cg⟩) (ntA_mr _ _) Try.zMr (mgA_one _) ?_
    refine ⟨fun V22 n22 k22 => ?_⟩
    have m22_r := k22.on r21_r ne13_r
    have m22_y := V10.wr r21_y k22 nea13
    have o22 := k22.bel _ _ l21 up13
    clear k22
    clear r21_n r21_r r21_y l21
    have y23 := Lib.hid (show (fun V : World => V10 V a0 o0 k b t e v q f g m cg) V22 from m22_y)
    refine hK.out _ _ y23.out (fun hHeld => ?_)
    clear hK K y23
    try simp only [Act.put, List.setIfInBounds_toArray, List.set_cons_zero, List.set_cons_succ]
    refine wpAnyH_done (by kernel_rfl) ?_ _
    clear m22_y
    go_wp2_with (first | (first | ((with_reducible refine st_load 25 _ g13 ?_ n22 Try.underlying25 ?_ ?_ ?_); exact rfl; exact rfl; exact Try.zNr) | ((with_reducible refine st_loadG 25 _ g13 ?_ n22 Try.underlying25 ?_ ?_ ?_ ?_); exact rfl; exact rfl; exact Try.zNr; exact rfl)))
    (with_reducible refine (C5 _).mono ?_)
    rintro e w24 ⟨rfl, b24⟩
    have r26_r := le_on m22_r b24
    have r26_n := le_on n22 b24
    have l26 := le_tr o22 b24
    clear m22_r n22 o22
    clear b24
    go_wp2_with (first | (first | ((with_reducible refine st_load 25 _ g13 ?_ r26_n Try.underlying25 ?_ ?_ ?_); exact rfl; exact rfl; exact Try.zNr) | ((with_reducible refine st_loadG 25 _ g13 ?_ r26_n Try.underlying25 ?_ ?_ ?_ ?_); exact rfl; exact rfl; exact Try.zNr; exact rfl)) | ((with_reducible refine st_store 25 _ _ g1 (ntA ⟨(k : Int), (b : Int), (t : Int), (e : Int), (v : Int), (q : Int), (f : Int), (g : Int), (m : Int), cg⟩) ?_ ?_ r26_r ?_ ?_ ?_ ?_); exact rfl; exact rfl; exact Try.zNr; exact rfl; exact ntA_one _))
    refine ⟨fun V27 n27 k27 => ?_⟩
    have m27_n := k27.on r26_n (Ne.symm ne13_r)
    have o27 := k27.bel _ _ l26 up1
    clear k27
    clear r26_r r26_n l26
    go_wp2_with fail
    exact bodyPost_ret (v := .tuple #[.agg (ntA ⟨(k : Int), (b : Int), (t : Int), (e : Int), (v : Int), (q : Int), (f : Int), (g : Int), (m : Int), cg⟩), .int .i64 0]) (res_two Try.results13 rfl rfl n27 Try.underlying25 rfl Try.zNr) rfl ⟨dp_yes HZ.out, o27⟩
  simp only [decide_eq_false hr] at C5
  have HZ := HR1 hr
  clear hr HR1 HR2
  go_enter Try.func13, Try.ntmps13
  go_wp2_with (first | ((with_reducible refine st_alloc 25 (ntA zN) ?_ ?_); exact zero_nr))
  refine ⟨fun V1 g1 n1 f1 => ?_⟩
  have up1 : w.heap.size ≤ g1 := Nat.le_of_eq f1.at_
  have bl1 := f1.bel
  clear f1
  have r3_l := (hl).on bl1
  have l3 := le_tr (Below.refl _ _) bl1
  clear hl
  clear bl1
  go_wp2_with fail
  (with_reducible refine (C1 _ (r3_l).rr).mono ?_)
  rintro e w4 ⟨A2, n2, c2, rfl, h2, b4⟩
  have r6_r := le_on n1 b4
  have l6 := le_tr l3 b4
  clear n1 r3_l l3
  clear b4
  go_wp2_with fail
  (with_reducible refine (decn_R HO.out _ _ _ _ h2 (hn2 _ _ _ _ h2)).mono ?_)
  rintro e w7 ⟨A3, c3, rfl, h5, b7⟩
  have r9_r := le_on r6_r b7
  have r9_y := (h2).on b7
  have l9 := le_tr l6 b7
  clear r6_r h2 l6
  clear b7
  go_wp2_with fail
  have wk : IntKind.i64.wrap (k : Int) = (k : Int) := IntWalk.i64_in _ (by omega)
  have wb : IntKind.u8.wrap (b : Int) = (b : Int) := IntWalk.u8_in _ (by omega)
  have wt : IntKind.i64.wrap (t : Int) = (t : Int) := IntWalk.i64_in _ (by omega)
  have we : IntKind.i64.wrap (e : Int) = (e : Int) := IntWalk.i64_in _ (by omega)
  have wv : IntKind.i64.wrap (v : Int) = (v : Int) := IntWalk.i64_in _ (by omega)
  have wq : IntKind.i64.wrap (q : Int) = (q : Int) := IntWalk.i64_in _ (by omega)
  have wf : IntKind.u8.wrap (f : Int) = (f : Int) := IntWalk.u8_in _ (by omega)
  have wg : IntKind.u8.wrap (g : Int) = (g : Int) := IntWalk.u8_in _ (by omega)
  have wm : IntKind.i64.wrap (m : Int) = (m : Int) := IntWalk.i64_in _ (by omega)
  obtain ⟨a0, o0, rfl, hv⟩ := vr_10 h5
  have hv1 := hv.1
  go_wp2_with fail
  have y10 := Lib.hid (show (fun V : World => V10 V a0 o0 k b t e v q f g m cg) w7.drew from (hv).drew)
  refine wp_region_held_drew (S := (fun V : World => V10 V a0 o0 k b t e v q f g m cg)) (by kernel_rfl) y10.out (fun hHeld => ?_)
  obtain ⟨D10, hD10⟩ : ∃ V, w7.drew = V := ⟨_, rfl⟩
  have b10 : Below w7.heap.size w7 D10 := by rw [← hD10]; exact le_dr (Below.refl _ _)
  rw [hD10] at hHeld ⊢
  clear hD10
  have r12_r := le_on r9_r b10
  have r12_y := (hv).on b10
  have l12 := le_tr l9 b10
  clear r9_r hv l9
  clear b10
  refine wpAnyH_takeL (i := 0) (d := some 33) (v := .slice (some ⟨a0, o0, none⟩) 10 c3) rfl rfl (by kernel_rfl) (by kernel_rfl) (by kernel_rfl) (fun _ _ _ h => h) (Or.inl ⟨by rfl, ?_⟩) hHeld ?_
  · intro w hSw; (try dsimp only at hSw); go_simp
  try simp only [Act.put, List.setIfInBounds_toArray, List.set_cons_zero, List.set_cons_succ]
  refine wpAnyH_takeL (i := 1) (d := some 34) (v := .pointer (some ⟨a0, o0, none⟩)) rfl rfl (by kernel_rfl) (by kernel_rfl) (by kernel_rfl) (fun _ _ _ h => h) (Or.inl ⟨by rfl, ?_⟩) hHeld ?_
  · intro w hSw; (try dsimp only at hSw); go_simp
  try simp only [Act.put, List.setIfInBounds_toArray, List.set_cons_zero, List.set_cons_succ]
  refine wpAnyH_takeL (i := 2) (d := some 35) (v := .pointer (some ⟨a0, o0, none⟩)) rfl rfl (by kernel_rfl) (by kernel_rfl) (by kernel_rfl) (fun _ _ _ h => h) (Or.inl ⟨by rfl, ?_⟩) hHeld ?_
  · intro w hSw; (try dsimp only at hSw); go_simp
  try simp only [Act.put, List.setIfInBounds_toArray, List.set_cons_zero, List.set_cons_succ]
  refine wpAnyH_takeL (i := 3) (d := some 36) (v := .int .u64 (k : Int)) rfl rfl (by kernel_rfl) (by kernel_rfl) (by kernel_rfl) (fun _ _ _ h => h) (Or.inl ⟨by rfl, ?_⟩) hHeld ?_
  · intro w hSw; have hcc := hSw.2.1; go_simp
  try simp only [Act.put, List.setIfInBounds_toArray, List.set_cons_zero, List.set_cons_succ]
  refine wpAnyH_takeL (i := 4) (d := some 37) (v := .int .i64 (k : Int)) rfl rfl (by kernel_rfl) (by kernel_rfl) (by kernel_rfl) (fun _ _ _ h => h) (Or.inl ⟨by rfl, ?_⟩) hHeld ?_
  · intro w hSw; (try dsimp only at hSw); go_simp
  try simp only [Act.put, List.setIfInBounds_toArray, List.set_cons_zero, List.set_cons_succ]
  refine wpAnyH_takeL (i := 5) (d := some 38) (v := .slice (some ⟨a0, o0, none⟩) 10 c3) rfl rfl (by kernel_rfl) (by kernel_rfl) (by kernel_rfl) (fun _ _ _ h => h) (Or.inl ⟨by rfl, ?_⟩) hHeld ?_
  · intro w hSw; (try dsimp only at hSw); go_simp
  try simp only [Act.put, List.setIfInBounds_toArray, List.set_cons_zero, List.set_cons_succ]
  refine wpAnyH_takeL (i := 6) (d := some 39) (v := .pointer (some ⟨a0, o0 + 2, none⟩)) rfl rfl (by kernel_rfl) (by kernel_rfl) (by kernel_rfl) (fun _ _ _ h => h) (Or.inl ⟨by rfl, ?_⟩) hHeld ?_
  · intro w hSw; (try dsimp only at hSw); go_simp
  try simp only [Act.put, List.setIfInBounds_toArray, List.set_cons_zero, List.set_cons_succ]
  refine wpAnyH_takeL (i := 7) (d := some 40) (v := .pointer (some ⟨a0, o0 + 2, none⟩)) rfl rfl (by kernel_rfl) (by kernel_rfl) (by kernel_rfl) (fun _ _ _ h => h) (Or.inl ⟨by rfl, ?_⟩) hHeld ?_
  · intro w hSw; (try dsimp only at hSw); go_simp
  try simp only [Act.put, List.setIfInBounds_toArray, List.set_cons_zero, List.set_cons_succ]
  refine wpAnyH_takeL (i := 8) (d := some 41) (v := .int .u64 (b : Int)) rfl rfl (by kernel_rfl) (by kernel_rfl) (by kernel_rfl) (fun _ _ _ h => h) (Or.inl ⟨by rfl, ?_⟩) hHeld ?_
  · intro w hSw; have hcc := hSw.2.2.1; go_simp
  try simp only [Act.put, List.setIfInBounds_toArray, List.set_cons_zero, List.set_cons_succ]
  refine wpAnyH_takeL (i := 9) (d := some 42) (v := .int .u8 (b : Int)) rfl rfl (by kernel_rfl) (by kernel_rfl) (by kernel_rfl) (fun _ _ _ h => h) (Or.inl ⟨by rfl, ?_⟩) hHeld ?_
  · intro w hSw; (try dsimp only at hSw); go_simp
  try simp only [Act.put, List.setIfInBounds_toArray, List.set_cons_zero, List.set_cons_succ]
  refine wpAnyH_takeL (i := 10) (d := some 43) (v := .slice (some ⟨a0, o0, none⟩) 10 c3) rfl rfl (by kernel_rfl) (by kernel_rfl) (by kernel_rfl) (fun _ _ _ h => h) (Or.inl ⟨by rfl, ?_⟩) hHeld ?_
  · intro w hSw; (try dsimp only at hSw); go_simp
  try simp only [Act.put, List.setIfInBounds_toArray, List.set_cons_zero, List.set_cons_succ]
  refine wpAnyH_takeL (i := 11) (d := some 44) (v := .pointer (some ⟨a0, o0 + 4, none⟩)) rfl rfl (by kernel_rfl) (by kernel_rfl) (by kernel_rfl) (fun _ _ _ h => h) (Or.inl ⟨by rfl, ?_⟩) hHeld ?_
  · intro w hSw; (try dsimp only at hSw); go_simp
  try simp only [Act.put, List.setIfInBounds_toArray, List.set_cons_zero, List.set_cons_succ]
  refine wpAnyH_takeL (i := 12) (d := some 45) (v := .pointer (some ⟨a0, o0 + 4, none⟩)) rfl rfl (by kernel_rfl) (by kernel_rfl) (by kernel_rfl) (fun _ _ _ h => h) (Or.inl ⟨by rfl, ?_⟩) hHeld ?_
  · intro w hSw; (try dsimp only at hSw); go_simp
  try simp only [Act.put, List.setIfInBounds_toArray, List.set_cons_zero, List.set_cons_succ]
  refine wpAnyH_takeL (i := 13) (d := some 46) (v := .int .u64 (t : Int)) rfl rfl (by kernel_rfl) (by kernel_rfl) (by kernel_rfl) (fun _ _ _ h => h) (Or.inl ⟨by rfl, ?_⟩) hHeld ?_
  · intro w hSw; have hcc := hSw.2.2.2.1; go_simp
  try simp only [Act.put, List.setIfInBounds_toArray, List.set_cons_zero, List.set_cons_succ]
  refine wpAnyH_takeL (i := 14) (d := some 47) (v := .int .i64 (t : Int)) rfl rfl (by kernel_rfl) (by kernel_rfl) (by kernel_rfl) (fun _ _ _ h => h) (Or.inl ⟨by rfl, ?_⟩) hHeld ?_
  · intro w hSw; (try dsimp only at hSw); go_simp
  try simp only [Act.put, List.setIfInBounds_toArray, List.set_cons_zero, List.set_cons_succ]
  refine wpAnyH_takeL (i := 15) (d := some 48) (v := .slice (some ⟨a0, o0, none⟩) 10 c3) rfl rfl (by kernel_rfl) (by kernel_rfl) (by kernel_rfl) (fun _ _ _ h => h) (Or.inl ⟨by rfl, ?_⟩) hHeld ?_
  · intro w hSw; (try dsimp only at hSw); go_simp
  try simp only [Act.put, List.setIfInBounds_toArray, List.set_cons_zero, List.set_cons_succ]
  refine wpAnyH_takeL (i := 16) (d := some 49) (v := .pointer (some ⟨a0, o0 + 6, none⟩)) rfl rfl (by kernel_rfl) (by kernel_rfl) (by kernel_rfl) (fun _ _ _ h => h) (Or.inl ⟨by rfl, ?_⟩) hHeld ?_
  · intro w hSw; (try dsimp only at hSw); go_simp
  try simp only [Act.put, List.setIfInBounds_toArray, List.set_cons_zero, List.set_cons_succ]
  refine wpAnyH_takeL (i := 17) (d := some 50) (v := .pointer (some ⟨a0, o0 + 6, none⟩)) rfl rfl (by kernel_rfl) (by kernel_rfl) (by kernel_rfl) (fun _ _ _ h => h) (Or.inl ⟨by rfl, ?_⟩) hHeld ?_
  · intro w hSw; (try dsimp only at hSw); go_simp
  try simp only [Act.put, List.setIfInBounds_toArray, List.set_cons_zero, List.set_cons_succ]
  refine wpAnyH_takeL (i := 18) (d := some 51) (v := .int .u64 (e : Int)) rfl rfl (by kernel_rfl) (by kernel_rfl) (by kernel_rfl) (fun _ _ _ h => h) (Or.inl ⟨by rfl, ?_⟩) hHeld ?_
  · intro w hSw; have hcc := hSw.2.2.2.2.1; go_simp
  try simp only [Act.put, List.setIfInBounds_toArray, List.set_cons_zero, List.set_cons_succ]
  refine wpAnyH_takeL (i := 19) (d := some 52) (v := .int .i64 (e : Int)) rfl rfl (by kernel_rfl) (by kernel_rfl) (by kernel_rfl) (fun _ _ _ h => h) (Or.inl ⟨by rfl, ?_⟩) hHeld ?_
  · intro w hSw; (try dsimp only at hSw); go_simp
  try simp only [Act.put, List.setIfInBounds_toArray, List.set_cons_zero, List.set_cons_succ]
  refine wpAnyH_takeL (i := 20) (d := some 53) (v := .slice (some ⟨a0, o0, none⟩) 10 c3) rfl rfl (by kernel_rfl) (by kernel_rfl) (by kernel_rfl) (fun _ _ _ h => h) (Or.inl ⟨by rfl, ?_⟩) hHeld ?_
  · intro w hSw; (try dsimp only at hSw); go_simp
  try simp only [Act.put, List.setIfInBounds_toArray, List.set_cons_zero, List.set_cons_succ]
  refine wpAnyH_takeL (i := 21) (d := some 54) (v := .pointer (some ⟨a0, o0 + 8, none⟩)) rfl rfl (by kernel_rfl) (by kernel_rfl) (by kernel_rfl) (fun _ _ _ h => h) (Or.inl ⟨by rfl, ?_⟩) hHeld ?_
  · intro w hSw; (try dsimp only at hSw); go_simp
  try simp only [Act.put, List.setIfInBounds_toArray, List.set_cons_zero, List.set_cons_succ]
  refine wpAnyH_takeL (i := 22) (d := some 55) (v := .pointer (some ⟨a0, o0 + 8, none⟩)) rfl rfl (by kernel_rfl) (by kernel_rfl) (by kernel_rfl) (fun _ _ _ h => h) (Or.inl ⟨by rfl, ?_⟩) hHeld ?_
  · intro w hSw; (try dsimp only at hSw); go_simp
  try simp only [Act.put, List.setIfInBounds_toArray, List.set_cons_zero, List.set_cons_succ]
  refine wpAnyH_takeL (i := 23) (d := some 56) (v := .int .u64 (v : Int)) rfl rfl (by kernel_rfl) (by kernel_rfl) (by kernel_rfl) (fun _ _ _ h => h) (Or.inl ⟨by rfl, ?_⟩) hHeld ?_
  · intro w hSw; have hcc := hSw.2.2.2.2.2.1; go_simp
  try simp only [Act.put, List.setIfInBounds_toArray, List.set_cons_zero, List.set_cons_succ]
  refine wpAnyH_takeL (i := 24) (d := some 57) (v := .int .i64 (v : Int)) rfl rfl (by kernel_rfl) (by kernel_rfl) (by kernel_rfl) (fun _ _ _ h => h) (Or.inl ⟨by rfl, ?_⟩) hHeld ?_
  · intro w hSw; (try dsimp only at hSw); go_simp
  try simp only [Act.put, List.setIfInBounds_toArray, List.set_cons_zero, List.set_cons_succ]
  refine wpAnyH_takeL (i := 25) (d := some 58) (v := .agg (ntA ⟨(k : Int), (b : Int), (t : Int), (e : Int), (v : Int), 0, 0, 0, 0, ByteArray.empty⟩)) rfl rfl (by kernel_rfl) (by kernel_rfl) (by kernel_rfl) (fun _ _ _ h => h) (Or.inl ⟨by rfl, ?_⟩) hHeld ?_
  · intro w hSw; exact yl_buildk5 _ (built_r5 _ _ _ _ _) rfl rfl rfl rfl rfl
  try simp only [Act.put, List.setIfInBounds_toArray, List.set_cons_zero, List.set_cons_succ]
  refine wpAnyH_ready (rs := [26]) (by kernel_rfl) (by simp) ?_
  refine AllReadyH.cons rfl (fun K hK => ?_) AllReadyH.nil
  refine rd_alloc rfl 25 rfl (some 9) rfl (ntA zN) zero_nr ?_
  refine ⟨fun V13 g13 n13 f13 => ?_⟩
  have ne13_r := f13.ne r12_r
  have up13 : w.heap.size ≤ g13 := f13.up l12
  have nea13 : a0 ≠ g13 := by have := (r12_y).1; have := f13.at_; omega
  have bl13 := f13.bel
  clear f13
  have r15_r := le_on r12_r bl13
  have r15_y := (r12_y).on bl13
  have l15 := le_tr l12 bl13
  clear r12_r r12_y l12
  clear bl13
  have y16 := Lib.hid (show (fun V : World => V10 V a0 o0 k b t e v q f g m cg) V13 from r15_y)
  refine hK.out _ _ y16.out (fun hHeld => ?_)
  clear hK K y16
  try simp only [Act.put, List.setIfInBounds_toArray, List.set_cons_zero, List.set_cons_succ]
  refine wpAnyH_ready (rs := [27]) (by kernel_rfl) (by simp) ?_
  refine AllReadyH.cons rfl (fun K hK => ?_) AllReadyH.nil
  refine rd_store rfl 25 _ _ rfl none rfl g13 (ntA ⟨(k : Int), (b : Int), (t : Int), (e : Int), (v : Int), 0, 0, 0, 0, ByteArray.empty⟩) rfl rfl n13 Try.zNr rfl (ntA_one _) ?_
  refine ⟨fun V17 n17 k17 => ?_⟩
  have m17_r := k17.on r15_r ne13_r
  have m17_y := V10.wr r15_y k17 nea13
  have o17 := k17.bel _ _ l15 up13
  clear k17
  clear n13 r15_r r15_y l15
  have y18 := Lib.hid (show (fun V : World => V10 V a0 o0 k b t e v q f g m cg) V17 from m17_y)
  refine hK.out _ _ y18.out (fun hHeld => ?_)
  clear hK K y18
  try simp only [Act.put, List.setIfInBounds_toArray, List.set_cons_zero, List.set_cons_succ]
  refine wpAnyH_done (by kernel_rfl) ?_ _
  go_wp2_with fail
  have y19 := Lib.hid (show (fun V : World => V10 V a0 o0 k b t e v q f g m cg) V17.drew from (m17_y).drew)
  refine wp_region_held_drew (S := (fun V : World => V10 V a0 o0 k b t e v q f g m cg)) (by kernel_rfl) y19.out (fun hHeld => ?_)
  obtain ⟨D19, hD19⟩ : ∃ V, V17.drew = V := ⟨_, rfl⟩
  have b19 : Below V17.heap.size V17 D19 := by rw [← hD19]; exact le_dr (Below.refl _ _)
  rw [hD19] at hHeld ⊢
  clear hD19
  have r21_r := le_on m17_r b19
  have r21_n := le_on n17 b19
  have r21_y := (m17_y).on b19
  have l21 := le_tr o17 b19
  clear m17_r n17 m17_y o17
  clear b19
  refine wpAnyH_takeL (i := 0) (d := some 59) (v := .slice (some ⟨a0, o0, none⟩) 10 c3) rfl rfl (by kernel_rfl) (by kernel_rfl) (by kernel_rfl) (fun _ _ _ h => h) (Or.inl ⟨by rfl, ?_⟩) hHeld ?_
  · intro w hSw; (try dsimp only at hSw); go_simp
  try simp only [Act.put, List.setIfInBounds_toArray, List.set_cons_zero, List.set_cons_succ]
  refine wpAnyH_takeL (i := 1) (d := some 60) (v := .pointer (some ⟨a0, o0 + 10, none⟩)) rfl rfl (by kernel_rfl) (by kernel_rfl) (by kernel_rfl) (fun _ _ _ h => h) (Or.inl ⟨by rfl, ?_⟩) hHeld ?_
  · intro w hSw; (try dsimp only at hSw); go_simp
  try simp only [Act.put, List.setIfInBounds_toArray, List.set_cons_zero, List.set_cons_succ]
  refine wpAnyH_takeL (i := 2) (d := some 61) (v := .pointer (some ⟨a0, o0 + 10, none⟩)) rfl rfl (by kernel_rfl) (by kernel_rfl) (by kernel_rfl) (fun _ _ _ h => h) (Or.inl ⟨by rfl, ?_⟩) hHeld ?_
  · intro w hSw; (try dsimp only at hSw); go_simp
  try simp only [Act.put, List.setIfInBounds_toArray, List.set_cons_zero, List.set_cons_succ]
  refine wpAnyH_takeL (i := 3) (d := some 62) (v := .int .u64 (q : Int)) rfl rfl (by kernel_rfl) (by kernel_rfl) (by kernel_rfl) (fun _ _ _ h => h) (Or.inl ⟨by rfl, ?_⟩) hHeld ?_
  · intro w hSw; have hcc := hSw.2.2.2.2.2.2.1; go_simp
  try simp only [Act.put, List.setIfInBounds_toArray, List.set_cons_zero, List.set_cons_succ]
  refine wpAnyH_takeL (i := 4) (d := some 63) (v := .int .i64 (q : Int)) rfl rfl (by kernel_rfl) (by kernel_rfl) (by kernel_rfl) (fun _ _ _ h => h) (Or.inl ⟨by rfl, ?_⟩) hHeld ?_
  · intro w hSw; (try dsimp only at hSw); go_simp
  try simp only [Act.put, List.setIfInBounds_toArray, List.set_cons_zero, List.set_cons_succ]
  refine wpAnyH_takeL (i := 5) (d := some 64) (v := .slice (some ⟨a0, o0, none⟩) 10 c3) rfl rfl (by kernel_rfl) (by kernel_rfl) (by kernel_rfl) (fun _ _ _ h => h) (Or.inl ⟨by rfl, ?_⟩) hHeld ?_
  · intro w hSw; (try dsimp only at hSw); go_simp
  try simp only [Act.put, List.setIfInBounds_toArray, List.set_cons_zero, List.set_cons_succ]
  refine wpAnyH_takeL (i := 6) (d := some 65) (v := .pointer (some ⟨a0, o0 + 12, none⟩)) rfl rfl (by kernel_rfl) (by kernel_rfl) (by kernel_rfl) (fun _ _ _ h => h) (Or.inl ⟨by rfl, ?_⟩) hHeld ?_
  · intro w hSw; (try dsimp only at hSw); go_simp
  try simp only [Act.put, List.setIfInBounds_toArray, List.set_cons_zero, List.set_cons_succ]
  refine wpAnyH_takeL (i := 7) (d := some 66) (v := .pointer (some ⟨a0, o0 + 12, none⟩)) rfl rfl (by kernel_rfl) (by kernel_rfl) (by kernel_rfl) (fun _ _ _ h => h) (Or.inl ⟨by rfl, ?_⟩) hHeld ?_
  · intro w hSw; (try dsimp only at hSw); go_simp
  try simp only [Act.put, List.setIfInBounds_toArray, List.set_cons_zero, List.set_cons_succ]
  refine wpAnyH_takeL (i := 8) (d := some 67) (v := .int .u64 (f : Int)) rfl rfl (by kernel_rfl) (by kernel_rfl) (by kernel_rfl) (fun _ _ _ h => h) (Or.inl ⟨by rfl, ?_⟩) hHeld ?_
  · intro w hSw; have hcc := hSw.2.2.2.2.2.2.2.1; go_simp
  try simp only [Act.put, List.setIfInBounds_toArray, List.set_cons_zero, List.set_cons_succ]
  refine wpAnyH_takeL (i := 9) (d := some 68) (v := .int .u8 (f : Int)) rfl rfl (by kernel_rfl) (by kernel_rfl) (by kernel_rfl) (fun _ _ _ h => h) (Or.inl ⟨by rfl, ?_⟩) hHeld ?_
  · intro w hSw; (try dsimp only at hSw); go_simp
  try simp only [Act.put, List.setIfInBounds_toArray, List.set_cons_zero, List.set_cons_succ]
  refine wpAnyH_takeL (i := 10) (d := some 69) (v := .slice (some ⟨a0, o0, none⟩) 10 c3) rfl rfl (by kernel_rfl) (by kernel_rfl) (by kernel_rfl) (fun _ _ _ h => h) (Or.inl ⟨by rfl, ?_⟩) hHeld ?_
  · intro w hSw; (try dsimp only at hSw); go_simp
  try simp only [Act.put, List.setIfInBounds_toArray, List.set_cons_zero, List.set_cons_succ]
  refine wpAnyH_takeL (i := 11) (d := some 70) (v := .pointer (some ⟨a0, o0 + 14, none⟩)) rfl rfl (by kernel_rfl) (by kernel_rfl) (by kernel_rfl) (fun _ _ _ h => h) (Or.inl ⟨by rfl, ?_⟩) hHeld ?_
  · intro w hSw; (try dsimp only at hSw); go_simp
  try simp only [Act.put, List.setIfInBounds_toArray, List.set_cons_zero, List.set_cons_succ]
  refine wpAnyH_takeL (i := 12) (d := some 71) (v := .pointer (some ⟨a0, o0 + 14, none⟩)) rfl rfl (by kernel_rfl) (by kernel_rfl) (by kernel_rfl) (fun _ _ _ h => h) (Or.inl ⟨by rfl, ?_⟩) hHeld ?_
  · intro w hSw; (try dsimp only at hSw); go_simp
  try simp only [Act.put, List.setIfInBounds_toArray, List.set_cons_zero, List.set_cons_succ]
  refine wpAnyH_takeL (i := 13) (d := some 72) (v := .int .u64 (g : Int)) rfl rfl (by kernel_rfl) (by kernel_rfl) (by kernel_rfl) (fun _ _ _ h => h) (Or.inl ⟨by rfl, ?_⟩) hHeld ?_
  · intro w hSw; have hcc := hSw.2.2.2.2.2.2.2.2.1; go_simp
  try simp only [Act.put, List.setIfInBounds_toArray, List.set_cons_zero, List.set_cons_succ]
  refine wpAnyH_takeL (i := 14) (d := some 73) (v := .int .u8 (g : Int)) rfl rfl (by kernel_rfl) (by kernel_rfl) (by kernel_rfl) (fun _ _ _ h => h) (Or.inl ⟨by rfl, ?_⟩) hHeld ?_
  · intro w hSw; (try dsimp only at hSw); go_simp
  try simp only [Act.put, List.setIfInBounds_toArray, List.set_cons_zero, List.set_cons_succ]
  refine wpAnyH_takeL (i := 15) (d := some 74) (v := .slice (some ⟨a0, o0, none⟩) 10 c3) rfl rfl (by kernel_rfl) (by kernel_rfl) (by kernel_rfl) (fun _ _ _ h => h) (Or.inl ⟨by rfl, ?_⟩) hHeld ?_
  · intro w hSw; (try dsimp only at hSw); go_simp
  try simp only [Act.put, List.setIfInBounds_toArray, List.set_cons_zero, List.set_cons_succ]
  refine wpAnyH_takeL (i := 16) (d := some 75) (v := .pointer (some ⟨a0, o0 + 16, none⟩)) rfl rfl (by kernel_rfl) (by kernel_rfl) (by kernel_rfl) (fun _ _ _ h => h) (Or.inl ⟨by rfl, ?_⟩) hHeld ?_
  · intro w hSw; (try dsimp only at hSw); go_simp
  try simp only [Act.put, List.setIfInBounds_toArray, List.set_cons_zero, List.set_cons_succ]
  refine wpAnyH_takeL (i := 17) (d := some 76) (v := .pointer (some ⟨a0, o0 + 16, none⟩)) rfl rfl (by kernel_rfl) (by kernel_rfl) (by kernel_rfl) (fun _ _ _ h => h) (Or.inl ⟨by rfl, ?_⟩) hHeld ?_
  · intro w hSw; (try dsimp only at hSw); go_simp
  try simp only [Act.put, List.setIfInBounds_toArray, List.set_cons_zero, List.set_cons_succ]
  refine wpAnyH_takeL (i := 18) (d := some 77) (v := .int .u64 (m : Int)) rfl rfl (by kernel_rfl) (by kernel_rfl) (by kernel_rfl) (fun _ _ _ h => h) (Or.inl ⟨by rfl, ?_⟩) hHeld ?_
  · intro w hSw; have hcc := hSw.2.2.2.2.2.2.2.2.2.1; go_simp
  try simp only [Act.put, List.setIfInBounds_toArray, List.set_cons_zero, List.set_cons_succ]
  refine wpAnyH_takeL (i := 19) (d := some 78) (v := .int .i64 (m : Int)) rfl rfl (by kernel_rfl) (by kernel_rfl) (by kernel_rfl) (fun _ _ _ h => h) (Or.inl ⟨by rfl, ?_⟩) hHeld ?_
  · intro w hSw; (try dsimp only at hSw); go_simp
  try simp only [Act.put, List.setIfInBounds_toArray, List.set_cons_zero, List.set_cons_succ]
  refine wpAnyH_takeL (i := 20) (d := some 79) (v := .slice (some ⟨a0, o0, none⟩) 10 c3) rfl rfl (by kernel_rfl) (by kernel_rfl) (by kernel_rfl) (fun _ _ _ h => h) (Or.inl ⟨by rfl, ?_⟩) hHeld ?_
  · intro w hSw; (try dsimp only at hSw); go_simp
  try simp only [Act.put, List.setIfInBounds_toArray, List.set_cons_zero, List.set_cons_succ]
  refine wpAnyH_takeL (i := 21) (d := some 80) (v := .pointer (some ⟨a0, o0 + 18, none⟩)) rfl rfl (by kernel_rfl) (by kernel_rfl) (by kernel_rfl) (fun _ _ _ h => h) (Or.inl ⟨by rfl, ?_⟩) hHeld ?_
  · intro w hSw; (try dsimp only at hSw); go_simp
  try simp only [Act.put, List.setIfInBounds_toArray, List.set_cons_zero, List.set_cons_succ]
  refine wpAnyH_takeL (i := 22) (d := some 81) (v := .pointer (some ⟨a0, o0 + 19, none⟩)) rfl rfl (by kernel_rfl) (by kernel_rfl) (by kernel_rfl) (fun _ _ _ h => h) (Or.inl ⟨by rfl, ?_⟩) hHeld ?_
  · intro w hSw; (try dsimp only at hSw); go_simp
  try simp only [Act.put, List.setIfInBounds_toArray, List.set_cons_zero, List.set_cons_succ]
  refine wpAnyH_takeL (i := 23) (d := some 82) (v := .string cg) rfl rfl (by kernel_rfl) (by kernel_rfl) (by kernel_rfl) (fun _ _ _ h => h) (Or.inl ⟨by rfl, ?_⟩) hHeld ?_
  · intro w hSw; have hcc := hSw.2.2.2.2.2.2.2.2.2.2; go_simp
  try simp only [Act.put, List.setIfInBounds_toArray, List.set_cons_zero, List.set_cons_succ]
  refine wpAnyH_takeL (i := 24) (d := some 83) (v := .agg (mgA ⟨(k : Int), (b : Int), (t : Int), (e : Int), (v : Int), (q : Int), (f : Int), (g : Int), (m : Int), cg⟩)) rfl rfl (by kernel_rfl) (by kernel_rfl) (by kernel_rfl) (fun _ _ _ h => h) (Or.inl ⟨by rfl, ?_⟩) hHeld ?_
  · intro w hSw; exact yl_buildk5 _ (built_q5 ⟨(k : Int), (b : Int), (t : Int), (e : Int), (v : Int), (q : Int), (f : Int), (g : Int), (m : Int), cg⟩) rfl rfl rfl rfl rfl
  try simp only [Act.put, List.setIfInBounds_toArray, List.set_cons_zero, List.set_cons_succ]
  refine wpAnyH_takeL (i := 25) (d := some 84) (v := .pointer (some ⟨g13, 5, none⟩)) rfl rfl (by kernel_rfl) (by kernel_rfl) (by kernel_rfl) (fun _ _ _ h => h) (Or.inl ⟨by rfl, ?_⟩) hHeld ?_
  · intro w hSw; (try dsimp only at hSw); go_simp
  try simp only [Act.put, List.setIfInBounds_toArray, List.set_cons_zero, List.set_cons_succ]
  refine wpAnyH_ready (rs := [26]) (by kernel_rfl) (by simp) ?_
  refine AllReadyH.cons rfl (fun K hK => ?_) AllReadyH.nil
  refine rd_mid rfl 23 _ _ rfl none rfl g13 5 (mgA ⟨(k : Int), (b : Int), (t : Int), (e : Int), (v : Int), (q : Int), (f : Int), (g : Int), (m : Int), cg⟩) rfl rfl r21_n (by decide : 5 + 5 ≤ 10) (new := ntA ⟨(k : Int), (b : Int), (t : Int), (e : Int), (v : Int), (q : Int), (f : Int), (g : Int), (m : Int), cg⟩) (ntA_mr _ _) Try.zMr (mgA_one _) ?_
  refine ⟨fun V22 n22 k22 => ?_⟩
  have m22_r := k22.on r21_r ne13_r
  have m22_y := V10.wr r21_y k22 nea13
  have o22 := k22.bel _ _ l21 up13
  clear k22
  clear r21_n r21_r r21_y l21
  have y23 := Lib.hid (show (fun V : World => V10 V a0 o0 k b t e v q f g m cg) V22 from m22_y)
  refine hK.out _ _ y23.out (fun hHeld => ?_)
  clear hK K y23
  try simp only [Act.put, List.setIfInBounds_toArray, List.set_cons_zero, List.set_cons_succ]
  refine wpAnyH_done (by kernel_rfl) ?_ _
  clear m22_y
  go_wp2_with (first | (first | ((with_reducible refine st_load 25 _ g13 ?_ n22 Try.underlying25 ?_ ?_ ?_); exact rfl; exact rfl; exact Try.zNr) | ((with_reducible refine st_loadG 25 _ g13 ?_ n22 Try.underlying25 ?_ ?_ ?_ ?_); exact rfl; exact rfl; exact Try.zNr; exact rfl)))
  (with_reducible refine (C5 _).mono ?_)
  rintro e w24 ⟨rfl, b24⟩
  have r26_r := le_on m22_r b24
  have r26_n := le_on n22 b24
  have l26 := le_tr o22 b24
  clear m22_r n22 o22
  clear b24
  go_wp2_with (first | ((with_reducible refine st_store 25 _ _ g1 (ntA zN) ?_ ?_ r26_r ?_ ?_ ?_ ?_); exact rfl; exact rfl; exact Try.zNr; exact rfl; exact ntA_one _))
  refine ⟨fun V27 n27 k27 => ?_⟩
  have m27_n := k27.on r26_n (Ne.symm ne13_r)
  have o27 := k27.bel _ _ l26 up1
  clear k27
  clear r26_r r26_n l26
  go_wp2_with fail
  exact bodyPost_ret (v := .tuple #[.agg (ntA zN), .int .i64 4]) (res_two Try.results13 rfl rfl n27 Try.underlying25 rfl Try.zNr) rfl ⟨dp_no HZ.out, o27⟩
end Go.Proofs.Ytbkfepgcnijlfaa
