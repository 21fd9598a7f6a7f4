/-
  The walk of LedgerZero: it returns true. Condition: the deltas can be read and are such as a program can have, the key is a byte.
-/
import Derived.Test.YtdekijaognfjcaaLgH
set_option linter.unusedVariables false
set_option linter.unusedSimpArgs false
namespace Go.Proofs.Ytdekijaognfjcaa
open Go.RowKit

set_option maxRecDepth 100000 in
set_option maxHeartbeats 4000000 in
theorem zero_walk (A : Option Addr) (n c : Nat) (A' : Option Addr) (n' c' : Nat) (kn : Nat) (L M : List Dl) (w : World) (h : DR w A n c L) (h' : DR w A' n' c' M) (wL : WfL L) (wM : WfL M) (hkn : kn < 256) :
    Calls Try.prog 8 #[.slice A n c, .slice A' n' c', .int .u8 kn] w fun e w' => e = .returned (.bool true) ∧ Below w.heap.size w w' := by
  have WL := Lib.hid wL
  have WM := Lib.hid wM
  have hmx : n ≤ maxLen := Nat.le_trans h.cap h.max
  have hmx' : n' ≤ maxLen := Nat.le_trans h'.cap h'.max
  simp only [maxLen] at hmx hmx'
  clear wL wM
  go_enter Try.func8, Try.ntmps8
  have hc := alive_c w
  go_wp2_with fail
  refine hc.mono ?_
  rintro e w1 ⟨rfl, b1⟩
  have r1_a := h.on b1
  have r1_b := h'.on b1
  have l1 := b1
  clear hc b1 
  by_cases hbign : 100 < n
  · have hbi : (100 : Int) < (n : Int) := by omega
    go_wp2_with fail
    go_ret
    exact ⟨rfl, l1⟩
  have hbin : ¬ (100 : Int) < (n : Int) := by omega
  have hnn : n ≤ 100000 := by omega
  by_cases hbign_ : 100 < n'
  · have hbi : (100 : Int) < (n' : Int) := by omega
    go_wp2_with fail
    go_ret
    exact ⟨rfl, l1⟩
  have hbin_ : ¬ (100 : Int) < (n' : Int) := by omega
  have hnn_ : n' ≤ 100000 := by omega
  have hc := rightR_c A n c L w1 r1_a hnn
  go_wp2_with fail
  refine hc.mono ?_
  rintro e w2 ⟨rfl, b2⟩
  have r2_a := r1_a.on b2
  have r2_b := r1_b.on b2
  have l2 := bel2 l1 b2
  clear hc b2 r1_a r1_b l1
  rcases (show rightB L = false ∨ rightB L = true by cases rightB L <;> simp) with hg | hg
  · rw [hg]
    go_wp2_with fail
    go_ret
    exact ⟨rfl, l2⟩
  rw [hg]
  have RL := Lib.hid (rightB_iff.1 hg)
  clear hg
  have hc := keys_c A' n' c' M w2 r2_b hnn_
  go_wp2_with fail
  refine hc.mono ?_
  rintro e w3 ⟨rfl, b3⟩
  have r3_a := r2_a.on b3
  have r3_b := r2_b.on b3
  have l3 := bel2 l2 b3
  clear hc b3 r2_a r2_b l2
  rcases (show keysB M = false ∨ keysB M = true by cases keysB M <;> simp) with hg | hg
  · rw [hg]
    go_wp2_with fail
    go_ret
    exact ⟨rfl, l3⟩
  rw [hg]
  have KM := Lib.hid (keysB_iff.1 hg)
  clear hg
  have hc := put_c A n c L A' n' c' M w3 r3_a r3_b hnn hnn_ WL.out WM.out
  rw [(put_ok RL.out KM.out).1] at hc
  rw [(put_ok RL.out KM.out).2] at hc
  go_wp2_with fail
  refine hc.mono ?_
  rintro e w4 ⟨A4, n4, c4, rfl, x4, b4⟩
  have l4 := bel2 l3 b4
  have m4 : n4 ≤ 100000 := by rw [← x4.len]; exact Nat.le_trans (len_of _) (by omega)
  clear hc b4 r3_a r3_b l3
  obtain ⟨q, hq⟩ : ∃ q : Nat, q = kn % 64 := ⟨_, rfl⟩
  have hq64 : q < 64 := by omega
  have hqi : ((kn : Int) % 64) = (q : Int) := by omega
  have Hq := Lib.hid hqi
  have RX := Lib.hid (right_of (L ++ M))
  have WX := Lib.hid (wf_of (L ++ M))
  have KX := Lib.hid (show KeysP [⟨(q : Int), 0⟩] from fun x hx => by simp at hx; subst hx; show (q : Int) < 64; omega)
  have ZX := Lib.hid (of_zero (right_of (L ++ M)) (wf_of (L ++ M)) q)
  clear hq hqi
  generalize ofD (L ++ M) = X at *
  have hc := add_c A4 n4 c4 X (q : Int) 0 w4 x4 m4 WX.out ⟨by show 0 ≤ (q : Int) ∧ (q : Int) ≤ 255; omega, by show -9223372036854775808 ≤ (0 : Int) ∧ (0 : Int) ≤ 9223372036854775807; omega⟩
  rw [(put_ok RX.out KX.out).1] at hc
  rw [(put_ok RX.out KX.out).2] at hc
  rw [ZX.out] at hc
  go_wp2_with fail
  rw [Hq.out]
  refine hc.mono ?_
  rintro e w5 ⟨A5, n5, c5, rfl, x5, b5⟩
  have r5_x := x4.on b5
  have l5 := bel2 l4 b5
  clear hc b5 x4 l4
  have hxl := Lib.hid r5_x.len
  go_wp2_with fail
  go_loopw [48] (fun i wr => ∃ j : Nat, j ≤ n4 ∧ i = .int .i64 j ∧ Below w5.heap.size w5 wr) (fun i _ => n4 - (intOf i).toNat)
  case atStart => exact ⟨0, by omega, rfl, Below.refl _ _⟩
  case round =>
    obtain ⟨j, hj, rfl, hlow⟩ := hrel
    by_cases hlt : j < n4
    · have hne : ((tk X j).b == 0) = false := by
        have := (RX.out.1 _ (tk_mem (L := X) (j := j) (by rw [hxl.out]; exact hlt))).2
        simp [this]
      obtain ⟨g, off, hA, d1, d2⟩ := (r5_x.on hlow).at2 hlt
      subst hA
      generalize tk X j = x at *
      have hl4 := Lib.hid (bel2 hlow (belA wr (.cells #[.int .u8 x.k, .int .i64 x.b] 24)))
      clear hlow
      go_wp2_with fail
      go_roundw
      case rel => exact ⟨j + 1, by omega, by go_num, hl4.out⟩
      case measure => simp [intOf]; omega
    · obtain rfl : j = n4 := by omega
      have hxx := r5_x.on hlow
      have hyy := x5.on hlow
      have hll := bel2 l5 hlow
      have hs := same_c _ _ _ _ _ _ X wr hxx hyy
      clear hxx hyy hlow
      go_wp2_with fail
      refine hs.mono ?_
      rintro e w9 ⟨rfl, b9⟩
      have hl9 := bel2 hll b9
      clear hs b9 hll
      go_wp2_with fail
      go_ret
      exact ⟨rfl, hl9⟩
end Go.Proofs.Ytdekijaognfjcaa
