/-
  AgentPacks. Conditions: the ballots can be read.
-/
import Derived.Test.YtfdboahcaiolgaaAgT
import Derived.Test.YtfdboahcaiolgaaAgK
import Derived.Test.YtfdboahcaiolgaaAgF
set_option linter.unusedVariables false
set_option linter.unusedSimpArgs false
namespace Go.Proofs.Ytfdboahcaiolgaa
open Go.RowKit
open Dk (Nt InN RightN BoundN MsgN NoMsg KindN EpN bound_n)


/-- A call of Unpack, told with letters. -/
theorem UPost.let_ {w w' : World} {bs : List UInt8} {e : Ending} {U : List Bl} {k : Nat} (h : UPost w bs e w') (hU : gL bs = U) (hk : gE bs = k) : ∃ A n, e = .returned (.tuple #[.slice A n n, .int .i64 (k : Int)]) ∧ RR w' dcl 2 A n n U ∧ Below w.heap.size w w' := by
  obtain ⟨A, h1, h2, h3⟩ := h
  rw [hU, hk] at h1
  rw [hU] at h2
  exact ⟨A, U.length, h1, h2.rr, h3⟩
set_option maxRecDepth 100000 in
set_option maxHeartbeats 4000000 in
theorem packs_walk (A : Option Addr) (n q : Nat) (L : List Bl) (s : ByteArray) (w : World) (h : RR w dcl 2 A n q L) : Calls Try.prog 3 #[.slice A n q, .string s] w fun r w' => r = .returned (.bool true) ∧ Below w.heap.size w w' := by
  have hlen := h.len
  have hx := RL.start h
  have hmx := hx.max
  clear h
  by_cases hn : n ≤ 600
  rotate_left
  · skip
    have q1 : decide ((600 : Int) < (n : Int)) = true := by simp; omega
    have q1' : decide ((n : Int) > 600) = true := by simp; omega
    go_enter Try.func3, Try.ntmps3
    go_wp2_with fail
    (with_reducible refine (alive_c _).mono ?_)
    rintro e w1 ⟨rfl, b1⟩
    have r3_l := (hx).on b1
    have l3 := le_tr (Below.refl _ _) b1
    clear hx
    clear b1
    go_wp2_with fail
    go_ret
    exact ⟨rfl, l3⟩
  have q1 : decide ((600 : Int) < (n : Int)) = false := by simp; omega
  have q1' : decide ((n : Int) > 600) = false := by simp; omega
  by_cases hs : s.size ≤ 600
  rotate_left
  · skip
    have q2 : decide ((600 : Int) < (s.size : Int)) = true := by simp; omega
    have q2' : decide ((s.size : Int) > 600) = true := by simp; omega
    go_enter Try.func3, Try.ntmps3
    go_wp2_with fail
    (with_reducible refine (alive_c _).mono ?_)
    rintro e w1 ⟨rfl, b1⟩
    have r3_l := (hx).on b1
    have l3 := le_tr (Below.refl _ _) b1
    clear hx
    clear b1
    go_wp2_with fail
    go_ret
    exact ⟨rfl, l3⟩
  have q2 : decide ((600 : Int) < (s.size : Int)) = false := by simp; omega
  have q2' : decide ((s.size : Int) > 600) = false := by simp; omega
  obtain ⟨U, hU⟩ : ∃ U, gL (Dk.bl s) = U := ⟨_, rfl⟩
  obtain ⟨j, hj⟩ : ∃ j, gE (Dk.bl s) = j := ⟨_, rfl⟩
  have CU : ∀ V : World, Calls Try.prog 13 #[.string s] V (fun e w' => ∃ A n, e = .returned (.tuple #[.slice A n n, .int .i64 (j : Int)]) ∧ RR w' dcl 2 A n n U ∧ Below V.heap.size V w') := fun V => (gunp_c s V (by omega)).mono fun e w' hp => hp.let_ hU hj
  have CV : ∀ V : World, Calls Try.prog 14 #[.string s] V (LPostB V 42 U j) := fun V => by have h := gunp_r s V hs; rw [hU, hj] at h; exact h
  clear hU hj
  by_cases hr : RightB L
  rotate_left
  · skip
    obtain ⟨p1, p2⟩ := bPk_no hr
    obtain ⟨P, hP⟩ : ∃ P, bPk L = P := ⟨_, rfl⟩
    have C1 : ∀ (V : World) (A : Option Addr) (n q : Nat), RR V dcl 2 A n q L → Calls Try.prog 10 #[.slice A n q] V (fun e w' => e = .returned (.tuple #[.string P, .int .i64 2]) ∧ Below V.heap.size V w') := fun V A n q hV => by have h := gpack_c A n q L V hV; rw [p1, hP] at h; exact h
    have C2 : ∀ (V : World) (A : Option Addr) (n q : Nat), RR V dcl 2 A n q L → Calls Try.prog 12 #[.slice A n q] V (fun e w' => e = .returned (.tuple #[.string P, .int .i64 2]) ∧ Below V.heap.size V w') := fun V A n q hV => by have h := gpack_r A n q L V hV; rw [p1, hP] at h; exact h
    clear p1 p2 hP hr hs
    go_enter Try.func3, Try.ntmps3
    go_wp2_with fail
    (with_reducible refine (alive_c _).mono ?_)
    rintro e w1 ⟨rfl, b1⟩
    have r3_l := (hx).on b1
    have l3 := le_tr (Below.refl _ _) b1
    clear hx
    clear b1
    go_wp2_with fail
    (with_reducible refine (theirs_c A n q L _ (r3_l).rr hn).mono ?_)
    rintro e w4 ⟨B1, m1, c1, rfl, h1, b4⟩
    have r6_l := (r3_l).on b4
    have l6 := le_tr l3 b4
    clear r3_l l3
    clear b4
    have hb := h1.rr
    clear h1
    go_wp2_with fail
    (with_reducible refine (C1 _ _ _ _ hb).mono ?_)
    rintro e w7 ⟨rfl, b7⟩
    have r9_l := (r6_l).on b7
    have l9 := le_tr l6 b7
    clear r6_l l6
    clear b7
    clear hb
    go_wp2_with fail
    (with_reducible refine (C2 _ _ _ _ (r9_l).rr).mono ?_)
    rintro e w10 ⟨rfl, b10⟩
    have r12_l := (r9_l).on b10
    have l12 := le_tr l9 b10
    clear r9_l l9
    clear b10
    go_wp2_with fail
    (with_reducible refine (CU _).mono ?_)
    rintro e w13 ⟨B3, m3, rfl, h3, b13⟩
    have r15_l := (r12_l).on b13
    have l15 := le_tr l12 b13
    clear r12_l l12
    clear b13
    have hu := RL.start h3
    clear h3
    go_wp2_with fail
    (with_reducible refine (CV _).mono ?_)
    rintro e w16 ⟨B4, m4, c4, rfl, h4, b16⟩
    have r18_l := (r15_l).on b16
    have r18_u := (hu).on b16
    have l18 := le_tr l15 b16
    clear r15_l hu l15
    clear b16
    have hv := RL.start h4.rr
    clear h4
    go_wp2_with fail
    (with_reducible refine (same_c B3 B4 m3 m3 m4 c4 U _ (r18_u).rr (hv).rr).mono ?_)
    rintro e w19 ⟨rfl, b19⟩
    have r21_l := (r18_l).on b19
    have r21_u := (r18_u).on b19
    have r21_v := (hv).on b19
    have l21 := le_tr l18 b19
    clear r18_l r18_u hv l18
    clear b19
    go_wp2_with fail
    go_ret
    exact ⟨rfl, l21⟩
  obtain ⟨p1, p2⟩ := bPk_yes hr
  obtain ⟨P, hP⟩ : ∃ P, bPk L = P := ⟨_, rfl⟩
  have C1 : ∀ (V : World) (A : Option Addr) (n q : Nat), RR V dcl 2 A n q L → Calls Try.prog 10 #[.slice A n q] V (fun e w' => e = .returned (.tuple #[.string P, .int .i64 0]) ∧ Below V.heap.size V w') := fun V A n q hV => by have h := gpack_c A n q L V hV; rw [p1, hP] at h; exact h
  have C2 : ∀ (V : World) (A : Option Addr) (n q : Nat), RR V dcl 2 A n q L → Calls Try.prog 12 #[.slice A n q] V (fun e w' => e = .returned (.tuple #[.string P, .int .i64 0]) ∧ Below V.heap.size V w') := fun V A n q hV => by have h := gpack_r A n q L V hV; rw [p1, hP] at h; exact h
  have e0 : dG (Dk.bl P) = some L := by rw [← hP, p2, Dk.bl_mkS]; exact dG_back hr
  have e1 : gL (Dk.bl P) = L := by unfold gL; rw [e0]; rfl
  have e2 : gE (Dk.bl P) = 0 := by unfold gE; rw [e0]
  have hPs : P.size ≤ 1000000 := by rw [← hP, p2, Dk.mkS_size, encG_length]; have := hr.1; omega
  have CB_ : ∀ V : World, Calls Try.prog 13 #[.string P] V (fun e w' => ∃ A n, e = .returned (.tuple #[.slice A n n, .int .i64 0]) ∧ RR w' dcl 2 A n n L ∧ Below V.heap.size V w') := fun V => (gunp_c P V hPs).mono fun e w' hp => hp.let_ e1 e2
  clear e0 e1 e2
  clear p1 p2 hP hr hs
  go_enter Try.func3, Try.ntmps3
  go_wp2_with fail
  (with_reducible refine (alive_c _).mono ?_)
  rintro e w1 ⟨rfl, b1⟩
  have r3_l := (hx).on b1
  have l3 := le_tr (Below.refl _ _) b1
  clear hx
  clear b1
  go_wp2_with fail
  (with_reducible refine (theirs_c A n q L _ (r3_l).rr hn).mono ?_)
  rintro e w4 ⟨B1, m1, c1, rfl, h1, b4⟩
  have r6_l := (r3_l).on b4
  have l6 := le_tr l3 b4
  clear r3_l l3
  clear b4
  have hb := h1.rr
  clear h1
  go_wp2_with fail
  (with_reducible refine (C1 _ _ _ _ hb).mono ?_)
  rintro e w7 ⟨rfl, b7⟩
  have r9_l := (r6_l).on b7
  have l9 := le_tr l6 b7
  clear r6_l l6
  clear b7
  clear hb
  go_wp2_with fail
  (with_reducible refine (C2 _ _ _ _ (r9_l).rr).mono ?_)
  rintro e w10 ⟨rfl, b10⟩
  have r12_l := (r9_l).on b10
  have l12 := le_tr l9 b10
  clear r9_l l9
  clear b10
  go_wp2_with fail
  (with_reducible refine (CU _).mono ?_)
  rintro e w13 ⟨B3, m3, rfl, h3, b13⟩
  have r15_l := (r12_l).on b13
  have l15 := le_tr l12 b13
  clear r12_l l12
  clear b13
  have hu := RL.start h3
  clear h3
  go_wp2_with fail
  (with_reducible refine (CV _).mono ?_)
  rintro e w16 ⟨B4, m4, c4, rfl, h4, b16⟩
  have r18_l := (r15_l).on b16
  have r18_u := (hu).on b16
  have l18 := le_tr l15 b16
  clear r15_l hu l15
  clear b16
  have hv := RL.start h4.rr
  clear h4
  go_wp2_with fail
  (with_reducible refine (same_c B3 B4 m3 m3 m4 c4 U _ (r18_u).rr (hv).rr).mono ?_)
  rintro e w19 ⟨rfl, b19⟩
  have r21_l := (r18_l).on b19
  have r21_u := (r18_u).on b19
  have r21_v := (hv).on b19
  have l21 := le_tr l18 b19
  clear r18_l r18_u hv l18
  clear b19
  go_wp2_with fail
  (with_reducible refine (CB_ _).mono ?_)
  rintro e w22 ⟨B5, m5, rfl, h5, b22⟩
  have r24_l := (r21_l).on b22
  have r24_u := (r21_u).on b22
  have r24_v := (r21_v).on b22
  have l24 := le_tr l21 b22
  clear r21_l r21_u r21_v l21
  clear b22
  have hk := RL.start h5
  clear h5
  go_wp2_with fail
  (with_reducible refine (same_c B5 A m5 m5 n q L _ (hk).rr (r24_l).rr).mono ?_)
  rintro e w25 ⟨rfl, b25⟩
  have r27_l := (r24_l).on b25
  have r27_u := (r24_u).on b25
  have r27_v := (r24_v).on b25
  have r27_k := (hk).on b25
  have l27 := le_tr l24 b25
  clear r24_l r24_u r24_v hk l24
  clear b25
  go_wp2_with fail
  go_ret
  exact ⟨rfl, l27⟩
end Go.Proofs.Ytfdboahcaiolgaa
