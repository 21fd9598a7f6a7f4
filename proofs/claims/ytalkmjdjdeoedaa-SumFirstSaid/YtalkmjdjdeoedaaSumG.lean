/-
  The walks of the laws SumSums and SumFirst: they return true and leave all memory that was there. Conditions: the bytes can be read.
-/
import Derived.Test.YtalkmjdjdeoedaaSumF
namespace Go.Proofs.Ytalkmjdjdeoedaa
open Go.RowKit

theorem BR.on {w w' : World} {A : Option Addr} {n c : Nat} {bs : List UInt8} (h : BR w w.heap.size A n c bs) (hb : Below w.heap.size w w') : BR w' w'.heap.size A n c bs := (h.below hb (Nat.le_refl _)).more hb.size
theorem LR.on {w w' : World} {A : Option Addr} {n c : Nat} {ls : List (List UInt8)} (h : LR w w.heap.size A n c ls) (hb : Below w.heap.size w w') : LR w' w'.heap.size A n c ls := (h.below hb (Nat.le_refl _)).more hb.size

set_option maxRecDepth 100000 in
set_option maxHeartbeats 1000000 in
theorem sums_walk (A : Option Addr) (n c : Nat) (bs : List UInt8) (w : World) (hb : BR w w.heap.size A n c bs) :
    Calls Try.prog 3 #[.slice A n c] w fun e w' => e = .returned (.bool true) ∧ Below w.heap.size w w' := by
  have hnm := hb.max
  go_enter Try.func3, Try.ntmps3
  go_wp2_with fail
  refine (alive_c _).mono ?_
  rintro e w1 ⟨rfl, hb1⟩
  by_cases hbig : (6000 : Int) < (n : Int)
  · go_wp2_with fail
    go_ret
    exact ⟨rfl, hb1⟩
  have hbr1 := hb.on hb1
  go_wp2_with fail
  refine (frame_c A n c bs w1 hbr1).mono ?_
  rintro e w2 ⟨A2, n2, c2, G2, rfl, hs2, hb2, _⟩
  have hb02 := hb1.trans (hb2.mono hb1.size)
  have hbr2 := hb.on hb02
  have hx2 := BR.of_seg hs2
  clear hb1 hb2 hs2 hbr1
  go_wp2_with fail
  refine (frame_r A n c bs w2 hbr2).mono ?_
  rintro e w3 ⟨A3, n3, c3, G3, rfl, hs3, hb3, _⟩
  have hb03 := hb02.trans (hb3.mono hb02.size)
  have hbr3 := hb.on hb03
  have hcv2 := conv_br (hx2.on hb3)
  have hcv3 := conv_br (BR.of_seg hs3)
  generalize bF bs = fs at *
  generalize eF bs = es at *
  have hee : ((mkS fs).toList == (mkS fs).toList) = true := beq_self_eq_true _
  have hes : ((es : Int) == (es : Int)) = true := beq_self_eq_true _
  have hss : ((sumB bs : Int) == (sumB bs : Int)) = true := beq_self_eq_true _
  clear hb02 hb3 hs3 hbr2 hx2
  go_wp2_with (first
    | (go_at_call 13; refine (sum_c _ A n c bs _ hbr3).mono ?_; rintro e w7 ⟨rfl, rfl⟩)
    | (go_at_call 14; refine (sum_r _ A n c bs _ hbr3).mono ?_; rintro e w7 ⟨rfl, rfl⟩))
  go_ret
  exact ⟨rfl, hb03⟩

set_option maxRecDepth 100000 in
set_option maxHeartbeats 1000000 in
theorem firsts_walk (A : Option Addr) (n c : Nat) (bs : List UInt8) (w : World) (hb : BR w w.heap.size A n c bs) :
    Calls Try.prog 4 #[.slice A n c] w fun e w' => e = .returned (.bool true) ∧ Below w.heap.size w w' := by
  have hnm := hb.max
  go_enter Try.func4, Try.ntmps4
  go_wp2_with fail
  refine (alive_c _).mono ?_
  rintro e w1 ⟨rfl, hb1⟩
  by_cases hbig : (6000 : Int) < (n : Int)
  · go_wp2_with fail
    go_ret
    exact ⟨rfl, hb1⟩
  have hbr1 := hb.on hb1
  go_wp2_with fail
  refine (first_c A n c bs w1 hbr1).mono ?_
  rintro e w2 ⟨A2, n2, c2, rfl, hx2, hb2⟩
  have hb02 := hb1.trans (hb2.mono hb1.size)
  have hbr2 := hb.on hb02
  clear hb1 hb2 hbr1
  go_wp2_with fail
  refine (first_r w2.heap.size A n c bs w2 hbr2 (Nat.le_refl _)).mono ?_
  rintro e w3 ⟨A3, n3, c3, rfl, hy3', hb3⟩
  have hy3 := hy3'.more hb3.size
  have hb03 := hb02.trans (hb3.mono hb02.size)
  have hbr3 := hb.on hb03
  have hx3 := hx2.on hb3
  clear hb02 hb3 hbr2 hx2 hy3'
  generalize fC bs = fs at *
  generalize fE bs = es at *
  generalize fK bs = ks at *
  go_wp2_with fail
  refine (all_c A n c bs w3 hbr3 (by omega)).mono ?_
  rintro e w4 ⟨A4, n4, c4, rfl, hl4, hb4⟩
  have hb04 := hb03.trans (hb4.mono hb03.size)
  have hbr4 := hb.on hb04
  have hx4 := hx3.on hb4
  have hy4 := hy3.on hb4
  clear hb03 hb4 hbr3 hx3 hy3
  go_wp2_with fail
  refine (all_r A n c bs w4 hbr4 (by omega)).mono ?_
  rintro e w5 ⟨A5, n5, c5, rfl, hl5, hb5⟩
  have hb05 := hb04.trans (hb5.mono hb04.size)
  have hx5 := conv_br (hx4.on hb5)
  have hy5 := conv_br (hy4.on hb5)
  have hl45 := hl4.on hb5
  obtain rfl : n4 = n5 := by rw [← hl4.1, ← hl5.1]
  clear hb04 hb5 hbr4 hx4 hy4 hl4
  generalize aC bs = ls at *
  generalize aN bs = ns at *
  have hee : ((mkS fs).toList == (mkS fs).toList) = true := beq_self_eq_true _
  have hes : ((es : Int) == (es : Int)) = true := beq_self_eq_true _
  have hks : ((ks : Int) == (ks : Int)) = true := beq_self_eq_true _
  have hns : ((ns : Int) == (ns : Int)) = true := beq_self_eq_true _
  go_wp2_with (go_at_call 19; refine (same_yes A4 A5 n4 c4 c5 ls _ hl45 hl5).mono ?_; rintro e w6 ⟨rfl, hb6⟩)
  go_ret
  exact ⟨rfl, hb05.trans (hb6.mono hb05.size)⟩
end Go.Proofs.Ytalkmjdjdeoedaa
