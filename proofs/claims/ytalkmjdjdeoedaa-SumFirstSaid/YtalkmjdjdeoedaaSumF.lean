/-
  The helpers of layer 3's laws: same and alive. Conditions: the slices can be read.
-/
import Derived.Test.YtalkmjdjdeoedaaSumE
import Derived.Lib.SlBytesConst
namespace Go.Proofs.Ytalkmjdjdeoedaa
open Go.RowKit

theorem LR.max {w : World} {B : Nat} {A : Option Addr} {n c : Nat} {ls : List (List UInt8)} (h : LR w B A n c ls) : n ≤ 9223372036854775807 := by
  have h1 := h.2.1; have h2 := h.2.2.1; simp only [maxLen] at h2; omega

set_option maxRecDepth 100000 in
set_option maxHeartbeats 1000000 in
theorem same_yes (A A' : Option Addr) (n c c' : Nat) (ls : List (List UInt8)) (w : World) (h1 : LR w w.heap.size A n c ls) (h2 : LR w w.heap.size A' n c' ls) :
    Calls Try.prog 19 #[.slice A n c, .slice A' n c'] w fun e w' => e = .returned (.bool true) ∧ Below w.heap.size w w' := by
  have hnm := h1.max
  have hne : ((n : Int) != (n : Int)) = false := by simp
  go_enter Try.func19, Try.ntmps19
  go_wp2_with fail
  go_loopw [13] (fun i wr => ∃ k : Nat, k ≤ n ∧ i = .int .i64 k ∧ Below w.heap.size w wr) (fun i _ => n - (intOf i).toNat)
  case atStart => exact ⟨0, Nat.zero_le _, rfl, Below.refl _ _⟩
  case round =>
    obtain ⟨k, hk, rfl, hbl⟩ := hrel
    by_cases hlt : k < n
    · obtain ⟨g1, o1, A1, n1, c1, l1, rfl, H1, d1, b1⟩ := (h1.below hbl (Nat.le_refl _)).at_ hlt
      obtain ⟨g2, o2, A2, n2, c2, l2, rfl, H2, d2, b2⟩ := (h2.below hbl (Nat.le_refl _)).at_ hlt
      obtain rfl : l1 = l2 := Option.some.inj (H1.out.symm.trans H2.out)
      have hcv1 : ∀ k, (convert 22 9 (.slice A1 n1 c1)).run Try.prog (wr.drewN k) = _ := fun k => conv_br (b1.drewN k)
      have hcv2 : ∀ k, (convert 22 9 (.slice A2 n2 c2)).run Try.prog (wr.drewN k) = _ := fun k => conv_br (b2.drewN k)
      clear b1 b2 H1 H2
      go_wp2_with fail
      go_quiet (fail)
      go_wp2_with fail
      go_roundw
      case rel => exact ⟨k + 1, by omega, by go_num, belowN hbl _⟩
      case measure => simp [intOf]; omega
    · go_wp2_with fail
      go_ret
      exact ⟨rfl, hbl⟩

/-- The bytes of a constant, marked behind their last one. -/
theorem cellsU8 {w : World} {l : List UInt8} (t : TypeId) (vs : List Value) (fr : Nat × Nat) (n : Nat) (hn : l.length = n) (h : vs = bc l) (hm : n ≤ maxLen) : BR (w.alloc (.cells vs.toArray t fr)) (w.alloc (.cells vs.toArray t fr)).heap.size (some ⟨w.heap.size, 0, none⟩) n n l := by
  refine ⟨hn, Nat.le_refl _, hm, fun _ => ⟨w.heap.size, 0, rfl, by simp, fun i b hb => ?_⟩⟩
  have hg : (w.alloc (.cells vs.toArray t fr)).heap[w.heap.size]? = some (.cells vs.toArray t fr) := heap_alloc_new w _
  rw [Nat.zero_add, cell_of_row _ _ i _ t fr hg, h]
  unfold bc
  simp [hb]

def abc : List UInt8 := [97, 98, 99]
theorem abc_f : bF abc = frameB abc := rfl
theorem abc_l : (frameB abc).length = 10 := rfl
theorem abc_s : fE ((frameB abc).take 5) = 4 := by decide
theorem abc_e : eF abc = 0 := by decide
theorem abc_1 : fE (frameB abc) = 0 ∧ fC (frameB abc) = abc ∧ fK (frameB abc) = 10 := by have := frame_first abc [] (by decide); rwa [List.append_nil] at this
theorem abc_2 : aC (frameB abc ++ frameB abc) = [abc, abc] ∧ aN (frameB abc ++ frameB abc) = 20 := by
  have h0 : aC [] = [] ∧ aN [] = 0 := aC_no (by decide)
  have := aC_frs [abc, abc] [] (by decide)
  rw [h0.1, h0.2] at this
  simpa [frs, frameB_length, show abc.length = 3 from rfl] using this
theorem wiki : sumB [87, 105, 107, 105, 112, 101, 100, 105, 97] = 300286872 := by decide

set_option maxRecDepth 100000 in
set_option maxHeartbeats 1000000 in
theorem alive_c (w : World) : Calls Try.prog 10 #[] w fun e w' => e = .returned (.bool true) ∧ Below w.heap.size w w' := by
  obtain ⟨i0, Hi, Hz, Hz1, Hz2⟩ := info_hid
  have p4 : 0 < 1 := by omega
  have hba := cellsU8 (w := w) (l := abc) 5 [.int .u8 97, .int .u8 98, .int .u8 99] (3, 3 + 1) 3 rfl rfl (by simp [maxLen])
  have hb0 := (Below.refl w.heap.size w).alloc (Nat.le_refl _) (.cells #[.int .u8 97, .int .u8 98, .int .u8 99] 5 (3, 3 + 1))
  have kc := fun (w : World) (C : Array Value) (n c : Nat) => Lib.run_convert_bytes_const (P := Try.prog) w 22 5 C n c Try.underlying22 Try.underlying5
  go_enter Try.func10, Try.ntmps10
  go_wp2_with fail
  refine (frame_c _ 3 3 abc _ hba).mono ?_
  rintro e w1 ⟨A1, n1, c1, G1, he1, hs1, hb1, _⟩
  rw [abc_e] at he1
  rw [abc_f] at hs1
  subst he1
  obtain rfl : n1 = 10 := by have := hs1.1; rw [bc_length, abc_l] at this; omega
  have hbr1 := BR.of_seg hs1
  have hc1 := hs1.2.1
  have hb01 : Below w.heap.size w w1 := hb0.trans (hb1.mono hb0.size)
  clear hba hb0 hb1 hs1
  go_wp2_with fail
  refine (first_c A1 10 c1 _ w1 hbr1).mono ?_
  rintro e w2 ⟨A2, n2, c2, he2, hbx, hb2⟩
  rw [abc_1.1, abc_1.2.2] at he2
  rw [abc_1.2.1] at hbx
  subst he2
  have hb02 : Below w.heap.size w w2 := hb01.trans (hb2.mono hb01.size)
  have hbr2 := (hbr1.below hb2 (Nat.le_refl _)).more hb2.size
  clear hb2 hb01 hbr1
  have p1 : 0 + 10 ≤ maxLen := by simp only [maxLen]; omega
  have p2 : (0 + 10) * 1 ≤ 140737488355328 := by omega
  have q1 : 10 + 10 ≤ maxLen := by simp only [maxLen]; omega
  have q2 : (10 + 10) * 1 ≤ 140737488355328 := by omega
  go_wp2_with (first
    | (at_builtin; refine wpList_append_src _ rfl (.const (.slice none 0 0)) (.tmp 24) _ rfl 5 i0 _ 1 1 Try.underlying22 Hi.out Hz.out Hz1.out Hz2.out rfl p4 rfl (Seg.nil w2 _ _) rfl hbr2.src (bc_one _) p1 p2 ?_; intro A3 c3 G3 w3 hs3 hg3 hm3; rw [List.nil_append, Nat.zero_add] at hs3; have hb23 := grown_below hg3 (Nat.le_refl _) (fun g e => by cases e); have hbr3 := (hbr2.below hb23 (Nat.le_refl _)))
    | (at_builtin; refine wpList_append_src _ rfl (.tmp 25) (.tmp 26) _ rfl 5 i0 _ 1 1 Try.underlying22 Hi.out Hz.out Hz1.out Hz2.out rfl p4 rfl hs3 rfl hbr3.src (bc_one _) q1 q2 ?_; intro A4 c4 G4 w4 hs4 hg4 hm4; rw [← bc_append] at hs4))
  have hb24 : Below w2.heap.size w2 w4 := grown_below (grown_trans hg3 hm3 hg4) (Nat.le_refl _) (fun g e => by cases e)
  have hb04 : Below w.heap.size w w4 := hb02.trans (hb24.mono hb02.size)
  have hbr4 := (hbr2.below hb24 (Nat.le_refl _)).more hb24.size
  have hbx4 := (hbx.below hb24 (Nat.le_refl _)).more hb24.size
  have hby4 := BR.of_seg hs4
  clear hs3 hg3 hm3 hb23 hbr3 hs4 hg4 hm4 hb24 hb02 hbr2 hbx p1 p2 q1 q2
  refine (all_c A4 20 c4 _ w4 hby4 (by omega)).mono ?_
  rintro e w5 ⟨A5, n5, c5, he5, hl5, hb5⟩
  rw [abc_2.2] at he5
  rw [abc_2.1] at hl5
  subst he5
  obtain rfl : n5 = 2 := hl5.1.symm
  have hb05 : Below w.heap.size w w5 := hb04.trans (hb5.mono hb04.size)
  have hbr5 := (hbr4.below hb5 (Nat.le_refl _)).more hb5.size
  have hbx5 := (hbx4.below hb5 (Nat.le_refl _)).more hb5.size
  obtain ⟨hcut6, hbr6⟩ := cut_upto hbr5 5 5 rfl (by omega)
  clear hl5 hb5 hb04 hbr4 hbx4 hby4
  go_wp2_with fail
  refine (first_c A1 5 c1 _ w5 hbr6).mono ?_
  rintro e w6 ⟨A6, n6, c6, he6, hb6, hbl6⟩
  rw [abc_s] at he6
  subst he6
  have hb06 : Below w.heap.size w w6 := hb05.trans (hbl6.mono hb05.size)
  have hbx6 := (hbx5.below hbl6 (Nat.le_refl _)).more hbl6.size
  have hbw := cellsU8 (w := w6) (l := [87, 105, 107, 105, 112, 101, 100, 105, 97]) 5 [.int .u8 87, .int .u8 105, .int .u8 107, .int .u8 105, .int .u8 112, .int .u8 101, .int .u8 100, .int .u8 105, .int .u8 97] (9, 9 + 1) 9 rfl rfl (by simp [maxLen])
  have hb07 := hb06.alloc hb06.size (.cells #[.int .u8 87, .int .u8 105, .int .u8 107, .int .u8 105, .int .u8 112, .int .u8 101, .int .u8 100, .int .u8 105, .int .u8 97] 5 (9, 9 + 1))
  have hcv := conv_br (hbx6.below ((Below.refl _ w6).alloc (Nat.le_refl _) (.cells #[.int .u8 87, .int .u8 105, .int .u8 107, .int .u8 105, .int .u8 112, .int .u8 101, .int .u8 100, .int .u8 105, .int .u8 97] 5 (9, 9 + 1))) (Nat.le_refl _))
  have x1 : (mkS abc).toList = [97, 98, 99] := by rw [tl_bl]; rfl
  clear hb6 hbl6 hb05 hbr5 hbx5 hbr6 hb06
  generalize fK ((frameB abc).take 5) = K6 at *
  go_wp2_with (first
    | (go_at_call 13; (with_reducible refine (sum_c _ _ 9 9 _ _ hbw).mono ?_); rw [wiki]; rintro e w7 ⟨rfl, rfl⟩)
    | (go_at_call 13; (with_reducible refine (sum_c 0 none 0 0 [] _ (BR.nil _ _)).mono ?_); rw [show sumB [] = 1 from rfl]; rintro e w8 ⟨rfl, rfl⟩))
  go_ret
  exact ⟨rfl, hb07⟩
end Go.Proofs.Ytalkmjdjdeoedaa
