/-
  The walk of LedgerKeys: it returns true. Condition: the deltas can be read and are such as a program can have.
-/
import Derived.Test.YtdekijaognfjcaaLgH
set_option linter.unusedVariables false
set_option linter.unusedSimpArgs false
namespace Go.Proofs.Ytdekijaognfjcaa
open Go.RowKit

/-- A delta in a variable. -/
abbrev BX (W : World) (b : Nat) (x : Dl) : Prop := CB W b 24 #[.int .u8 x.k, .int .i64 x.b]
theorem CB.on {W W' : World} {b : Nat} {T : TypeId} {cs : Array Value} (h : CB W b T cs) (hb : Below W.heap.size W W') : CB W' b T cs := h.same (hb.block _ h.lt)
theorem bx_cells {W : World} {b : Nat} {x : Dl} (h : BX W b x) : W.cell? ⟨b, 0, none⟩ = some (.int .u8 x.k) ∧ W.cell? ⟨b, 1, none⟩ = some (.int .i64 x.b) := ⟨h.cell 0, h.cell 1⟩
set_option maxRecDepth 100000 in
set_option maxHeartbeats 4000000 in
theorem keys_walk (A : Option Addr) (n c : Nat) (x : Dl) (L : List Dl) (w : World) (h : DR w A n c L) (wL : WfL L) (hx : inD x) :
    Calls Try.prog 6 #[.slice A n c, dv x] w fun e w' => e = .returned (.bool true) ∧ Below w.heap.size w w' := by
  have WL := Lib.hid wL
  have HX := Lib.hid hx
  have hmx : n ≤ maxLen := Nat.le_trans h.cap h.max
  simp only [maxLen] at hmx
  obtain ⟨W0, hW0⟩ : ∃ W0, w.alloc (.cells #[.int .u8 x.k, .int .i64 x.b] 24) = W0 := ⟨_, rfl⟩
  have l0 : Below w.heap.size w W0 := by rw [← hW0]; exact belA w _
  have bx : BX W0 w.heap.size x := by rw [← hW0]; exact CB.new w _ _
  have h0 := h.on l0
  have HW0 := Lib.hid hW0
  clear wL hx hW0
  obtain ⟨B0, hB0⟩ : ∃ B0, w.heap.size = B0 := ⟨_, rfl⟩
  rw [hB0] at bx
  have HB0 := Lib.hid hB0
  clear hB0
  go_enter Try.func6, Try.ntmps6
  have hc := alive_c W0
  go_wp2_with fail
  rw [HW0.out, HB0.out]
  refine hc.mono ?_
  rintro e w1 ⟨rfl, b1⟩
  have r1_a := h0.on b1
  have r1_bx := bx.on b1
  have l1 := bel2 l0 b1
  clear hc b1 h0 bx l0
  by_cases hbign : 100 < n
  · have hbi : (100 : Int) < (n : Int) := by omega
    go_wp2_with fail
    go_ret
    exact ⟨rfl, l1⟩
  have hbin : ¬ (100 : Int) < (n : Int) := by omega
  have hnn : n ≤ 100000 := by omega
  have hc := rightR_c A n c L w1 r1_a hnn
  go_wp2_with fail
  refine hc.mono ?_
  rintro e w2 ⟨rfl, b2⟩
  have r2_a := r1_a.on b2
  have r2_bx := r1_bx.on b2
  have l2 := bel2 l1 b2
  clear hc b2 r1_a r1_bx l1
  rcases (show rightB L = false ∨ rightB L = true by cases rightB L <;> simp) with hg | hg
  · rw [hg]
    go_wp2_with fail
    go_ret
    exact ⟨rfl, l2⟩
  rw [hg]
  have RL := Lib.hid (rightB_iff.1 hg)
  clear hg
  obtain ⟨z0, z1⟩ := bx_cells r2_bx
  by_cases hk : x.k < 64
  · have hk0 : KeysP [x] := fun y hy => by simp at hy; subst hy; exact hk
    have KX := Lib.hid hk0
    have Hk := Lib.hid hk
    clear hk hk0
    have hc := add_c A n c L x.k x.b w2 r2_a hnn WL.out HX.out
    rw [(put_ok (M := [⟨x.k, x.b⟩]) RL.out KX.out).1] at hc
    rw [(put_ok (M := [⟨x.k, x.b⟩]) RL.out KX.out).2] at hc
    go_wp2_with fail
    refine hc.mono ?_
    rintro e w3 ⟨A3, n3, c3, rfl, x3, b3⟩
    have r3_a := r2_a.on b3
    have r3_bx := r2_bx.on b3
    have l3 := bel2 l2 b3
    have m3 : n3 ≤ 100000 := by rw [← x3.len]; exact Nat.le_trans (len_of _) (by omega)
    clear hc b3 r2_a r2_bx l2
    clear z0 z1
    have GA := Lib.hid (show ∀ j : Int, getD (ofD (L ++ [⟨x.k, x.b⟩])) j = if j = x.k then wrap64 (getD L j + x.b) else getD L j from fun j => get_add RL.out WL.out x ⟨HX.out.1.1, Hk.out⟩ j)
    generalize ofD (L ++ [⟨x.k, x.b⟩]) = R at *
    go_wp2_with fail
    go_loopw [38] (fun i wr => ∃ j : Nat, j ≤ 70 ∧ i = .int .u8 j ∧ Below w3.heap.size w3 wr) (fun i _ => 70 - (intOf i).toNat)
    case atStart => exact ⟨0, by omega, rfl, Below.refl _ _⟩
    case round =>
      obtain ⟨j, hj, rfl, hlow⟩ := hrel
      by_cases hlt : j < 70
      · have hwu : IntKind.u8.wrap ((j : Int) + 1) = (j : Int) + 1 := by simp [IntKind.wrap, IntKind.bits, IntKind.signed]; omega
        have ha := r3_a.on hlow
        have hb := x3.on hlow
        have hx := CB.on r3_bx hlow
        have hc := get_c A n c j L wr ha hnn
        obtain ⟨q, hq⟩ : ∃ q, getD L j = q := ⟨_, rfl⟩
        have Hq := Lib.hid hq
        rw [hq] at hc
        clear hq ha
        go_wp2_with fail
        refine hc.mono ?_
        rintro e w8 ⟨rfl, b8⟩
        have hb8 := hb.on b8
        have hx8 := CB.on hx b8
        have hl8 := bel2 hlow b8
        obtain ⟨z0, z1⟩ := bx_cells hx8
        have hd := get_c A3 n3 c3 j _ w8 hb8 m3
        have hgb := Lib.hid (GA.out j)
        rw [Hq.out] at hgb
        clear hc b8 hb hx hlow
        by_cases he : (j : Int) = x.k
        · have he1 : ((j : Int) == x.k) = true := by simp [he]
          rw [show getD R j = wrap64 (q + x.b) from hgb.out.trans (if_pos he)] at hd
          have hee : (wrap64 (q + x.b) != wrap64 (q + x.b)) = false := by simp
          clear he hgb
          go_wp2_with fail
          refine hd.mono ?_
          rintro e w9 ⟨rfl, b9⟩
          have hl9 := Lib.hid (bel2 hl8 b9)
          clear hd b9 hl8 hb8 hx8 z0 z1
          go_wp2_with fail
          go_roundw
          case rel => exact ⟨j + 1, by omega, by go_num, hl9.out⟩
          case measure => simp [intOf]; omega
        · have he1 : ((j : Int) == x.k) = false := by simp [he]
          rw [show getD R j = q from hgb.out.trans (if_neg he)] at hd
          have hee : (q != q) = false := by simp
          clear he hgb
          go_wp2_with fail
          refine hd.mono ?_
          rintro e w9 ⟨rfl, b9⟩
          have hl9 := Lib.hid (bel2 hl8 b9)
          clear hd b9 hl8 hb8 hx8 z0 z1
          go_wp2_with fail
          go_roundw
          case rel => exact ⟨j + 1, by omega, by go_num, hl9.out⟩
          case measure => simp [intOf]; omega
      · obtain rfl : j = 70 := by omega
        have hll := bel2 l3 hlow
        clear hlow
        go_wp2_with fail
        go_ret
        exact ⟨rfl, hll⟩
  · have Hk := Lib.hid (show ¬ KeysP [⟨x.k, x.b⟩] from fun k => hk (k _ (by simp)))
    have hk1 : (64 : Int) ≤ x.k := by omega
    have Hs := Lib.hid (show sPut L [⟨x.k, x.b⟩] = L ∧ ePut L [⟨x.k, x.b⟩] = 2 by unfold sPut ePut; rw [if_neg (fun k => Hk.out k.2), if_neg (fun k => Hk.out k.2)]; exact ⟨rfl, rfl⟩)
    clear hk
    have hc := add_c A n c L x.k x.b w2 r2_a hnn WL.out HX.out
    rw [Hs.out.1] at hc
    rw [Hs.out.2] at hc
    go_wp2_with fail
    refine hc.mono ?_
    rintro e w3 ⟨A3, n3, c3, rfl, x3, b3⟩
    have r3_a := r2_a.on b3
    have r3_bx := r2_bx.on b3
    have l3 := bel2 l2 b3
    clear hc b3 r2_a r2_bx l2
    clear z0 z1
    obtain ⟨z0, z1⟩ := bx_cells r3_bx
    have hc := same_c A A3 n c n3 c3 L w3 r3_a x3
    go_wp2_with fail
    refine hc.mono ?_
    rintro e w4 ⟨rfl, b4⟩
    have r4_a := r3_a.on b4
    have r4_bx := r3_bx.on b4
    have r4_b := x3.on b4
    have l4 := bel2 l3 b4
    clear hc b4 r3_a r3_bx x3 l3
    go_wp2_with fail
    go_ret
    exact ⟨rfl, l4⟩
end Go.Proofs.Ytdekijaognfjcaa
