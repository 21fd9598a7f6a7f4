/-
  The walk of the law SumSwaps: it returns true and leaves all memory that was there. Conditions: the bytes can be read, the number is of 16 bits.
-/
import Derived.Test.YtalkmjdjdeoedaaSumH
namespace Go.Proofs.Ytalkmjdjdeoedaa
open Go.RowKit

theorem swap_split {l : List UInt8} {i : Nat} {x y : UInt8} (hx : l[i]? = some x) (hy : l[i + 1]? = some y) :
    l = l.take i ++ x :: y :: l.drop (i + 2) ∧ (l.set i y).set (i + 1) x = l.take i ++ y :: x :: l.drop (i + 2) := by
  obtain ⟨h1, e1⟩ := List.getElem?_eq_some_iff.1 hx
  obtain ⟨h2, e2⟩ := List.getElem?_eq_some_iff.1 hy
  have hl : l = l.take i ++ x :: y :: l.drop (i + 2) := by
    conv => lhs; rw [← List.take_append_drop i l, List.drop_eq_getElem_cons h1, List.drop_eq_getElem_cons h2, e1, e2]
  refine ⟨hl, ?_⟩
  have ht : (l.take i).length = i := by rw [List.length_take]; omega
  generalize l.take i = a at *
  generalize l.drop (i + 2) = r at *
  subst ht
  rw [hl, List.set_append_right _ _ (Nat.le_refl _), Nat.sub_self, List.set_cons_zero, List.set_append_right _ _ (by omega), Nat.add_sub_cancel_left, List.set_cons_succ, List.set_cons_zero]
theorem swap_sum {l : List UInt8} {i : Nat} {x y : UInt8} (hx : l[i]? = some x) (hy : l[i + 1]? = some y) : (((sumB l : Int) == (sumB ((l.set i y).set (i + 1) x) : Int)) == ((x.toNat : Int) == (y.toNat : Int))) = true := by
  obtain ⟨h1, h2⟩ := swap_split hx hy
  rw [h2]
  by_cases h : x = y
  · subst h
    rw [← h1]
    simp
  · have h3 := sumB_swap (l.take i) (l.drop (i + 2)) x y h
    rw [← h1] at h3
    have h4 : ¬ x.toNat = y.toNat := fun e => h (UInt8.toNat_inj.1 e)
    rw [show ((sumB l : Int) == (sumB (l.take i ++ y :: x :: l.drop (i + 2)) : Int)) = false by rw [beq_eq_false_iff_ne]; omega, show ((x.toNat : Int) == (y.toNat : Int)) = false by rw [beq_eq_false_iff_ne]; omega]
    rfl

set_option maxRecDepth 100000 in
set_option maxHeartbeats 2000000 in
theorem swaps_walk (A : Option Addr) (n c : Nat) (bs : List UInt8) (at_ : Nat) (w : World) (hb : BR w w.heap.size A n c bs) (hat : at_ < 65536) :
    Calls Try.prog 9 #[.slice A n c, .int .u16 at_] w fun e w' => e = .returned (.bool true) ∧ Below w.heap.size w w' := by
  have hnm := hb.max
  have hn := hb.1
  obtain ⟨i0, Hi, Hz, Hz1, Hz2⟩ := info_hid
  have p4 : 0 < 1 := by omega
  go_enter Try.func9, Try.ntmps9
  go_wp2_with fail
  refine (alive_c _).mono ?_
  rintro e w1 ⟨rfl, hb1⟩
  by_cases hbig : (3000 : Int) < (n : Int)
  · go_wp2_with fail
    go_ret
    exact ⟨rfl, hb1⟩
  by_cases hsm : (n : Int) < 2
  · go_wp2_with fail
    go_ret
    exact ⟨rfl, hb1⟩
  have hbr1 := hb.on hb1
  have p1 : 0 + n ≤ maxLen := by simp only [maxLen]; omega
  have p2 : (0 + n) * 1 ≤ 140737488355328 := by omega
  have hw01 := hb1.size
  have hj : at_ % (n - 1) < n - 1 := Nat.mod_lt _ (by omega)
  generalize hJ : at_ % (n - 1) = j at hj
  have hJi : (at_ : Int) % ((n : Int) - 1) = (j : Int) := by rw [show (n : Int) - 1 = ((n - 1 : Nat) : Int) by omega, ← Int.natCast_emod, hJ]
  have hj2 : j + 1 < n := by omega
  clear hJ hj
  go_wp2_with (at_builtin; refine wpList_append_src _ rfl (.const (.slice none 0 0)) (.tmp 17) _ rfl 5 i0 _ 1 1 Try.underlying22 Hi.out Hz.out Hz1.out Hz2.out rfl p4 rfl (Seg.nil w1 _ _) rfl hbr1.src (bc_one _) p1 p2 ?_; intro A2 c2 G2 w2 hs2 hg2 hm2)
  rw [List.nil_append, Nat.zero_add] at hs2
  have hb12 := grown_below hg2 (Nat.le_refl _) (fun g e => by cases e)
  have hb02 := hb1.trans (hb12.mono hb1.size)
  have hG2 := hm2.ge (Nat.le_refl _) (fun g e => by cases e)
  have hbr2 := hbr1.below hb12 (Nat.le_refl _)
  obtain ⟨gb, ob, x, rfl, hgb, Hx, cx⟩ := hbr2.at_ (show j < n by omega)
  obtain ⟨y, Hy, cy⟩ := cells_far hbr2 (j + 1) hj2
  obtain ⟨g, off, rfl, rfl, fz1, hc1, hset1⟩ := hs2.slot j (by omega)
  have d1 := hc1 _ (bc_get Hx.out)
  have hs3 := hset1 (.int .u8 (y.toNat : Int))
  obtain ⟨g', off', he, _, fz2, hc2, hset2⟩ := hs3.slot (j + 1) (by omega)
  cases he
  have hs4 := hset2 (.int .u8 (x.toNat : Int))
  have hne : ¬ gb = g := by have := hG2 g rfl; omega
  have d2 := hc2 (.int .u8 (y.toNat : Int)) (by rw [List.getElem?_set_ne (by omega)]; exact bc_get Hy.out)
  rw [bc_set, bc_set] at hs4
  have hb04 : Below w.heap.size w ((w2.setCell ⟨g, off + j, none⟩ (.int .u8 (y.toNat : Int))).setCell ⟨g, off + (j + 1), none⟩ (.int .u8 (x.toNat : Int))) := (hb02.setCell (by have := hG2 g rfl; simp only; omega) _).setCell (by have := hG2 g rfl; simp only; omega) _
  clear hset1 hset2 hs3 hc1 hc2 hs2 hg2 hm2 hb1 hbr1 hb12
  go_wp2_with fail
  go_region
  have hs5 := hs4.drew
  have hb05 := hb04.drew
  generalize ((w2.setCell ⟨g, off + j, none⟩ (.int .u8 (y.toNat : Int))).setCell ⟨g, off + (j + 1), none⟩ (.int .u8 (x.toNat : Int))).drew = W at *
  have hbr5 := hb.below hb05 (Nat.le_refl _)
  have hcs5 := BR.of_seg hs5
  obtain ⟨x', Hx', ex⟩ := cells_far hbr5 j (by omega)
  obtain ⟨y', Hy', ey⟩ := cells_far hbr5 (j + 1) hj2
  obtain rfl : x' = x := Option.some.inj (Hx'.out.symm.trans Hx.out)
  obtain rfl : y' = y := Option.some.inj (Hy'.out.symm.trans Hy.out)
  have HS := Lib.hid (swap_sum Hx.out Hy.out)
  clear hs4 hb04 hs5 cx cy d1 d2 fz1 fz2 hbr2 Hx' Hy'
  generalize (bs.set j y').set (j + 1) x' = cs at *
  go_wp2_with fail
  go_quiet (first
    | (go_at_call 13; (with_reducible exact Calls.quiet_of_same ((sum_c _ (some ⟨gb, ob, none⟩) n c bs _ (hbr5.drewN _)).mono fun e w' hh => ⟨hh.1, hh.2.symm⟩)))
    | (go_at_call 13; (with_reducible exact Calls.quiet_of_same ((sum_c _ (some ⟨g, off, none⟩) n c2 cs _ (hcs5.drewN _)).mono fun e w' hh => ⟨hh.1, hh.2.symm⟩))))
  rw [HS.out]
  go_wp2_with fail
  go_ret
  exact ⟨rfl, belowN hb05 _⟩
end Go.Proofs.Ytalkmjdjdeoedaa
