/-
  The shape of a cargo, of both sides. Condition: it is no longer than a text may be.
-/
import Derived.Test.YtfdboahcaiolgaaMgA
import Derived.Test.YtfdboahcaiolgaaAgA
import Derived.Test.YtfdboahcaiolgaaAgS
set_option linter.unusedVariables false
set_option linter.unusedSimpArgs false
namespace Go.Proofs.Ytfdboahcaiolgaa
open Go.RowKit
open Go.Shelf
open Dk (Nt InN RightN BoundN MsgN NoMsg KindN EpN bound_n)


theorem Try.extraR : Builder.Extra Try.prog Try.laysRepeat_ren := {
  sizeBuilder := by kernel_rfl
  liesBuilder := by kernel_rfl
  t5 := Try.laysRepeat.t5
  a5 := Try.laysRepeat.a5
  z5 := Try.laysRepeat.z5
  v5 := Try.laysRepeat.v5
  infoByte := by kernel_rfl
  cellsByte := by kernel_rfl
  sizeByte := by kernel_rfl
  neB5 := by decide }
theorem Try.fRepeat : Try.laysRepeat_ren.f 105 = 56 := by kernel_rfl
theorem rep_shG : ∀ n, Lib.repeatL [98, 97] n = shG n
  | 0 => rfl
  | n + 1 => by show [98, 97] ++ Lib.repeatL [98, 97] n = _; rw [rep_shG n]; rfl
theorem repeat_c (n : Nat) (w : World) (hn : n ≤ 1000000) : Calls Try.prog 56 #[.string ⟨#[98, 97]⟩, .int .i64 (n : Int)] w fun e w' => e = .returned (.string (Dk.mkS (shG n))) ∧ Below w.heap.size w w' := by
  have h := Any.strings_Repeat Try.laysRepeat Try.extraR ⟨#[98, 97]⟩ n w (by omega) (by show 2 * n ≤ _; omega)
  rw [Try.fRepeat] at h
  have e : (⟨(Lib.repeatL ((⟨#[98, 97]⟩ : ByteArray).data.toList) n).toArray⟩ : ByteArray) = Dk.mkS (shG n) := by rw [← rep_shG n]; rfl
  rw [e] at h
  exact h
theorem mkS_next (n : Nat) : Dk.mkS (shG n) ++ (⟨#[98, 97]⟩ : ByteArray) = Dk.mkS (shG (n + 1)) := by
  apply Dk.bl_inj
  rw [Dk.bl_mkS, shG_snoc]
  show (Dk.mkS (shG n) ++ (⟨#[98, 97]⟩ : ByteArray)).data.toList = _
  simp [Dk.mkS]
set_option maxRecDepth 100000 in
set_option maxHeartbeats 4000000 in
theorem shape_c (n : Nat) (w : World) (hn : n ≤ 1000000) : Calls Try.prog 28 #[.int .i64 (n : Int)] w fun e w' => e = .returned (.string (Dk.mkS (shG n))) ∧ Below w.heap.size w w' := by
  have C := fun W => repeat_c n W hn
  go_enter Try.func28, Try.ntmps28
  go_wp2_with fail
  (with_reducible refine (C _).mono ?_)
  rintro e w1 ⟨rfl, b1⟩
  go_wp2_with fail
  go_ret
  exact ⟨rfl, b1⟩
set_option maxRecDepth 100000 in
set_option maxHeartbeats 4000000 in
theorem shape_r (n : Nat) (w : World) (hn : n ≤ 1000000) : Calls Try.prog 33 #[.int .i64 (n : Int)] w fun e w' => e = .returned (.string (Dk.mkS (shG n))) ∧ Below w.heap.size w w' := by
  go_enter Try.func33, Try.ntmps33
  go_wp2_with fail
  go_loopw [3, 4] (fun sv iv wr => ∃ k : Nat, k ≤ n ∧ iv = .int .i64 k ∧ sv = .string (Dk.mkS (shG k)) ∧ Below w.heap.size w wr) (fun _ iv _ => n - (intOf iv).toNat)
  case atStart => exact ⟨0, by omega, rfl, rfl, Below.refl _ _⟩
  case round =>
    obtain ⟨k, hk, rfl, rfl, hw⟩ := hrel
    have hsz : (Dk.mkS (shG k)).size = 2 * k := by rw [Dk.mkS_size, shG_length]
    by_cases hlt : k < n
    · have hN := Lib.hid (mkS_next k)
      have l1 : (k : Int) < n := by omega
      obtain ⟨S, hS⟩ : ∃ S, Dk.mkS (shG k) = S := ⟨_, rfl⟩
      rw [hS] at hsz ⊢
      have HS := Lib.hid hS
      clear hS
      go_wp2_with fail
      go_roundw
      case rel => exact ⟨k + 1, by omega, by go_num, by rw [← hN.out, HS.out] <;> rfl, hw⟩
      case measure => simp [intOf]; omega
    · obtain rfl : k = n := by omega
      have g1 : ¬ ((k : Int) < k) := by omega
      clear hsz hlt
      go_wp2_with fail
      go_ret
      exact ⟨rfl, hw⟩
end Go.Proofs.Ytfdboahcaiolgaa
