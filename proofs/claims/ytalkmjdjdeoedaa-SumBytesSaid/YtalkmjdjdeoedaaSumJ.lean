/-
  The walk of the law SumBytes: it returns true and leaves all memory that was there. Conditions: the bytes can be read, the numbers are of 16 and of 8 bits.
-/
import Derived.Test.YtalkmjdjdeoedaaSumH
namespace Go.Proofs.Ytalkmjdjdeoedaa
open Go.RowKit

theorem set_sum {l : List UInt8} {j : Nat} {x y : UInt8} (hx : l[j]? = some x) (hne : ¬ x = y) : ¬ sumB (l.set j y) = sumB l := by
  obtain ⟨h1, h2⟩ := set_split l j x y hx
  rw [h2]
  intro e
  rw [h1] at e
  have hl : (l.take j).length = j := by rw [List.length_take]; have := (List.getElem?_eq_some_iff.1 hx).1; omega
  rw [List.take_left' hl, show (l.take j ++ x :: l.drop (j + 1)).drop (j + 1) = l.drop (j + 1) by rw [← h1]] at e
  exact sumB_byte _ _ y x (fun h => hne h.symm) e

theorem make3 (W : World) : (Instr.makeSlice 22 (.int .i64 3) (.int .i64 3)).run Try.prog W = .ok (.slice (some ⟨W.heap.size, 0, none⟩) 3 3) (W.alloc (.cells #[.int .u8 0, .int .u8 0, .int .u8 0] 5)) := by
  obtain ⟨i0, Hi, Hz, Hz1, Hz2⟩ := info_hid
  rw [run_make (P := Try.prog) W 22 5 i0 _ Try.underlying22 Hi.out Hz.out .i64 .i64 3 3 (by omega) (by omega) (by rw [Hz2.out]; omega) (by omega), Hz1.out]
  have : madeCells (Value.int .u8 0).cells (Int.toNat 3 * 1) = #[.int .u8 0, .int .u8 0, .int .u8 0] := by
    apply Array.ext'
    simp [madeCells, Value.cells, Array.range, List.ofFn_succ]
  rw [this]
  rfl

set_option maxRecDepth 100000 in
set_option maxHeartbeats 2000000 in
theorem bytes_walk (A : Option Addr) (n c : Nat) (bs : List UInt8) (at_ : Nat) (by_ : UInt8) (w : World) (hb : BR w w.heap.size A n c bs) (hat : at_ < 65536) :
    Calls Try.prog 7 #[.slice A n c, .int .u16 at_, .int .u8 by_.toNat] w fun e w' => e = .returned (.bool true) ∧ Below w.heap.size w w' := by
  have hnm := hb.max
  have hn := hb.1
  obtain ⟨i0, Hi, Hz, Hz1, Hz2⟩ := info_hid
  have p4 : 0 < 1 := by omega
  go_enter Try.func7, Try.ntmps7
  go_wp2_with fail
  refine (alive_c _).mono ?_
  rintro e w1 ⟨rfl, hb1⟩
  by_cases hbig : (3000 : Int) < (n : Int)
  · go_wp2_with fail
    go_ret
    exact ⟨rfl, hb1⟩
  by_cases hsm : n = 0
  · subst hsm
    go_wp2_with fail
    go_ret
    exact ⟨rfl, hb1⟩
  have hsm' : ((n : Int) == 0) = false := by rw [beq_eq_false_iff_ne]; omega
  by_cases hby : by_ = 0
  · subst hby
    go_wp2_with fail
    go_ret
    exact ⟨rfl, hb1⟩
  have hby' := u8ne 0 0 rfl hby
  have Hby := Lib.hid hby
  clear hby
  have hbr1 := hb.on hb1
  have p1 : 0 + n ≤ maxLen := by simp only [maxLen]; omega
  have p2 : (0 + n) * 1 ≤ 140737488355328 := by omega
  have hw01 := hb1.size
  have hj : at_ % n < n := Nat.mod_lt _ (by omega)
  generalize hJ : at_ % n = j at hj
  have hJi : (at_ : Int) % (n : Int) = (j : Int) := by rw [← Int.natCast_emod, hJ]
  clear hJ
  have hjl : j < bs.length := by omega
  have HX := Lib.hid (List.getElem?_eq_getElem hjl)
  generalize bs[j] = x at HX
  have HXO := Lib.hid (xor_u8 x by_)
  clear hjl
  go_wp2_with (at_builtin; refine wpList_append_src _ rfl (.const (.slice none 0 0)) (.tmp 24) _ rfl 5 i0 _ 1 1 Try.underlying22 Hi.out Hz.out Hz1.out Hz2.out rfl p4 rfl (Seg.nil w1 _ _) rfl hbr1.src (bc_one _) p1 p2 ?_; intro A2 c2 G2 w2 hs2 hg2 hm2; (rw [List.nil_append, Nat.zero_add] at hs2); have hG2 := Lib.hid (hm2.ge (Nat.le_refl _) (fun g e => by cases e)); obtain ⟨g, off, hA, hG, fz, hcell, hset⟩ := hs2.slot j hj; subst hA; subst hG; have cx := hcell _ (bc_get HX.out); have HS := Lib.hid hset; clear hcell hs2 hset)
  have hb12 := grown_below hg2 (Nat.le_refl _) (fun g e => by cases e)
  have hb02 := hb1.trans (hb12.mono hb1.size)
  have hs3 := (HS.out (.int .u8 (bits .xor .u8 (x.toNat : Int) (by_.toNat : Int)))).drew
  have hb03 : Below w.heap.size w (w2.setCell ⟨g, off + j, none⟩ (.int .u8 (bits .xor .u8 (x.toNat : Int) (by_.toNat : Int)))).drew := (hb02.setCell (by have := hG2.out g rfl; simp only; omega) _).drew
  rw [HXO.out] at hb03
  rw [HXO.out, bc_set] at hs3
  rw [HXO.out]
  clear cx fz HS hb12 hg2 hm2 hG2 hb1 hbr1 hb02
  generalize w2.setCell ⟨g, off + j, none⟩ (.int .u8 ((x ^^^ by_).toNat : Int)) = W at *
  have hbW := hb.below hb03 (Nat.le_refl _)
  have hbL : Below W.drew.heap.size W.drew (W.alloc (.cells #[.int .u8 0, .int .u8 0, .int .u8 0] 5)).drew := (Below.refl W.drew.heap.size W.drew).alloc (Nat.le_refl _) (.cells #[.int .u8 0, .int .u8 0, .int .u8 0] 5)
  have hbZ := hbW.below hbL (by have := hb03.size; exact this)
  have hsZ : Seg (W.alloc (.cells #[.int .u8 0, .int .u8 0, .int .u8 0] 5)).drew 5 1 (some ⟨W.heap.size, 0, none⟩) 3 3 [.int .u8 0, .int .u8 0, .int .u8 0] (some W.heap.size) := (Seg.lit W 5 [.int .u8 0, .int .u8 0, .int .u8 0] (by simp [maxLen])).drew
  have hmk := make3
  have q1 : 3 + n ≤ maxLen := by simp only [maxLen]; omega
  have q2 : (3 + n) * 1 ≤ 140737488355328 := by omega
  obtain ⟨N, hN⟩ : ∃ N, 3 + n = N := ⟨_, rfl⟩
  have HN := Lib.hid hN
  clear hN
  go_region_held3 (fun _ => True) (exact trivial) (first
    | (refine step_append_src _ (.tmp 39) (.tmp 40) _ (by rfl) 5 i0 _ 1 1 Try.underlying22 Hi.out Hz.out Hz1.out Hz2.out rfl p4 (by rfl) hsZ (by rfl) hbZ.src (bc_one _) q1 q2 (by rfl) N HN.out ?_; intro A5 c5 G5 w5 hs5 hg5 hm5; have hb5 : BR w5 w5.heap.size A5 N c5 ([0, 0, 0] ++ bs) := BR.of_seg (by rw [bc_append]; exact hs5))
    | (go_at_call 13; (with_reducible refine (sum_c w.heap.size A n c bs _ hbW).mono ?_); rintro e w7 ⟨rfl, rfl⟩)
    | (go_at_call 13; (with_reducible refine (sum_c w.heap.size A n c bs _ hbZ).mono ?_); rintro e w7 ⟨rfl, rfl⟩)
    | (go_at_call 13; (with_reducible refine (sum_c w5.heap.size A5 N c5 ([0, 0, 0] ++ bs) _ hb5).mono ?_); rintro e w7 ⟨rfl, rfl⟩))
  all_goals
    have hb05 : Below w.heap.size w w5 := hb03.trans ((hbL.trans (grown_below hg5 (by simp) (fun g e => by cases e; exact Nat.le_refl _))).mono hb03.size)
    have hc5 := (BR.of_seg hs3).below (hbL.trans (grown_below hg5 (by simp) (fun g e => by cases e; exact Nat.le_refl _))) (Nat.le_refl _)
    have hS2 := sumB_zeros bs
    have hS3 := set_sum HX.out (xor_ne (a := x) Hby.out)
    rw [show [0, 0, 0] ++ bs = 0 :: 0 :: 0 :: bs from rfl] at hS2
    generalize bs.set j (x ^^^ by_) = cs at *
    clear hs5 hg5 hm5 hb5 hbL hbZ hsZ hbW hs3 hb03
    obtain ⟨S3, e3⟩ : ∃ S, sumB cs = S := ⟨_, rfl⟩
    have H3 := Lib.hid e3
    rw [e3] at hS3
    clear e3
    generalize sumB (0 :: 0 :: 0 :: bs) = S2 at *
    generalize sumB bs = S1 at *
    have k1 : ((S3 : Int) != (S1 : Int)) = true := by rw [bne_iff_ne]; omega
    have k2 : ((S1 : Int) % 65536 == (S2 : Int) % 65536) = true := by rw [beq_iff_eq]; omega
    clear hS2 hS3
    go_wp2_with (go_at_call 13; refine (sum_c _ _ n c2 cs _ hc5).mono ?_; rw [H3.out]; rintro e w7 ⟨rfl, rfl⟩)
    go_ret
    exact ⟨rfl, hb05⟩
end Go.Proofs.Ytalkmjdjdeoedaa
