/-
  Frame of package sum and of the document's answer: they return the document's frame, or its error. Conditions: the bytes can be read.
-/
import Derived.Test.YtcfdfimkgehdfaaNSumA
namespace Go.Proofs.Ytcfdfimkgehdfaa.Dk
set_option maxRecDepth 100000
open Go.RowKit

theorem srcs (w : World) (t : TypeId) (vs : List Value) : Src (w.alloc (.cells vs.toArray t)) 1 (some ⟨w.heap.size, 0, none⟩) vs.length vs := by
  refine ⟨by simp, fun _ => ⟨_, rfl, fun j u hj => ?_⟩⟩
  rw [Addr.add_lit, (CB.new w _ vs.toArray).cell]
  simpa using hj

theorem info_hid : ∃ i0, Hid (Try.prog.info? 5 = some i0) ∧ Hid (i0.zero = some (.int .u8 0)) ∧ Hid (i0.size = 1) ∧ Hid (i0.bytes = 1) := by
  obtain ⟨i0, hi0, hz0, hz1, hz2⟩ := info_parts Try.infoB
  exact ⟨i0, hi0, hz0, hz1, hz2⟩

theorem u8c (k : Nat) : (((UInt8.ofNat k).toNat : Nat) : Int) = (k : Int) % 256 := by rw [UInt8.toNat_ofNat']; rfl
theorem num2 (n : Nat) (h : n ≤ 4000) : [Value.int .u8 1, .int .u8 ((n : Int) / 256), .int .u8 ((n : Int) % 256)] = bc (1 :: num n 2) := by
  simp only [bc, num, List.map_cons, List.map_nil, u8c, Nat.pow_one, Nat.pow_zero, Nat.div_one]
  congr 3
  · omega
theorem num4 (q : Nat) (h : q < 4294967296) : [Value.int .u8 ((q : Int) / 16777216), .int .u8 ((q : Int) / 65536 % 256), .int .u8 ((q : Int) / 256 % 256), .int .u8 ((q : Int) % 256)] = bc (num q 4) := by
  simp only [bc, num, List.map_cons, List.map_nil, u8c, Nat.pow_one, Nat.pow_zero, Nat.div_one]
  have e3 : (256 : Nat) ^ 3 = 16777216 := rfl
  have e2 : (256 : Nat) ^ 2 = 65536 := rfl
  rw [e3, e2]
  congr 2
  · omega
theorem grown_one {w w1 w2 : World} {g : Nat} (h : w.grownBy w1 none) (hg : w.heap.size ≤ g) (k : w1.grownBy w2 (some g)) : w.grownBy w2 none := grown_trans h (.inr ⟨g, rfl, hg⟩) k

set_option maxRecDepth 100000 in
set_option maxHeartbeats 1000000 in
theorem frame_c (A : Option Addr) (n c : Nat) (bs : List UInt8) (w : World) (hb : BR w w.heap.size A n c bs) :
    Calls Try.prog 56 #[.slice A n c] w (EPost w (bF bs) (eF bs)) := by
  have hn := hb.1
  have hnm := hb.max
  by_cases hbig : (4000 : Int) < (n : Int)
  · have H := Lib.hid (show EPost w (bF bs) (eF bs) (.returned (.tuple #[.slice none 0 0, .int .i64 3])) w by
      obtain ⟨h1, h2⟩ := eF_big (l := bs) (by omega)
      rw [h1, h2]
      exact ⟨none, 0, 0, none, rfl, Seg.nil _ _ _, Below.refl _ _, fun g e => by cases e⟩)
    go_enter Try.func56, Try.ntmps56
    go_wp2
    go_ret2
    exact H.out
  · obtain ⟨i0, Hi, Hz, Hz1, Hz2⟩ := info_hid
    have hmk : ∃ A1 w1 G1, (Instr.makeSlice 30 (.int .i64 0) (.int .i64 (3 + (n : Int) + 4))).run Try.prog w = .ok (.slice A1 0 (n + 7)) w1 ∧ Seg w1 5 1 A1 0 (n + 7) (bc []) G1 ∧ Moved w none G1 ∧ w.grownBy w1 none := by
      obtain ⟨w1, hrun, hseg1, hg1⟩ := run_make_seg (P := Try.prog) w 30 5 i0 _ 1 Try.underlying30 Hi.out Hz.out Hz1.out (n + 7) (by rw [Hz2.out]; omega) (by simp only [maxLen]; omega)
      refine ⟨_, w1, _, ?_, hseg1, .inr ⟨_, rfl, Nat.le_refl _⟩, hg1⟩
      rw [show 3 + (n : Int) + 4 = ((n + 7 : Nat) : Int) by omega]
      exact hrun
    obtain ⟨A1, w1, G1, hrun, hs1, hm1, hg1⟩ := hmk
    have p1 : 0 + 3 ≤ maxLen := by simp only [maxLen]; omega
    have p2 : (0 + 3) * 1 ≤ 140737488355328 := by omega
    have p4 : 0 < 1 := by omega
    have q1 : 3 + n ≤ maxLen := by simp only [maxLen]; omega
    have q2 : (3 + n) * 1 ≤ 140737488355328 := by omega
    have r1 : 3 + n + 4 ≤ maxLen := by simp only [maxLen]; omega
    have r2 : (3 + n + 4) * 1 ≤ 140737488355328 := by omega
    have H2 := Lib.hid (num2 n (by omega))
    have HH := Lib.hid (show bc [] ++ bc (1 :: num n 2) ++ bc bs = bc (headB bs) by unfold headB; rw [hn, ← bc_append, ← bc_append]; rfl)
    have hbig' : n ≤ 4000 := by omega
    go_enter Try.func56, Try.ntmps56
    go_wp2_with (first
      | (at_builtin; refine wpList_append_src _ rfl (.tmp 14) (.tmp 22) _ rfl 5 i0 _ 1 1 Try.underlying30 Hi.out Hz.out Hz1.out Hz2.out rfl p4 rfl (hs1.alloc _) rfl (srcs w1 _ [.int .u8 1, .int .u8 ((n : Int) / 256), .int .u8 ((n : Int) % 256)]) (by rw [H2.out]; exact bc_one _) p1 p2 ?_; intro A2 c2 G2 w2 hs2 hg2 hm2; rw [H2.out, Nat.zero_add] at hs2; replace hg2 := grown_trans (grown_alloc hg1 _) hm1 hg2; replace hm2 := hm1.trans (hm2.of_size (by simp)) hg1.size; have hb2 := hb.grown hg2 (Nat.le_refl _) (fun g e => by cases e); clear hs1 hg1 hm1 hb)
      | (at_builtin; refine wpList_append_src _ rfl (.tmp 24) (.tmp 25) _ rfl 5 i0 _ 1 1 Try.underlying30 Hi.out Hz.out Hz1.out Hz2.out rfl p4 rfl hs2 rfl hb2.src (bc_one _) q1 q2 ?_; intro A3 c3 G3 w3 hs3 hg3 hm3; rw [HH.out] at hs3; replace hg3 := grown_trans hg2 hm2 hg3; replace hm3 := hm2.trans hm3 hg2.size; clear hs2 hg2 hm2 hb2))
    refine (sum_c _ A3 (3 + n) c3 (headB bs) w3 (BR.of_seg hs3)).mono ?_
    rintro e w3' ⟨rfl, rfl⟩
    have HF := Lib.hid (show bc (headB bs) ++ bc (num (sumB (headB bs)) 4) = bc (bF bs) by rw [← bc_append, (eF_ok (l := bs) (by omega)).2]; rfl)
    have HE := Lib.hid (show eF bs = 0 from (eF_ok (l := bs) (by omega)).1)
    have hsl := sumB_lt (headB bs)
    generalize sumB (headB bs) = S at *
    have H4 := Lib.hid (num4 S hsl)
    clear hrun
    go_wp2_with (at_builtin; refine wpList_append_src _ rfl (.tmp 29) (.tmp 41) _ rfl 5 i0 _ 1 1 Try.underlying30 Hi.out Hz.out Hz1.out Hz2.out rfl p4 rfl (hs3.alloc _) rfl (srcs w3 _ [.int .u8 ((S : Int) / 16777216), .int .u8 ((S : Int) / 65536 % 256), .int .u8 ((S : Int) / 256 % 256), .int .u8 ((S : Int) % 256)]) (by rw [H4.out]; exact bc_one _) r1 r2 ?_; intro A4 c4 G4 w4 hs4 hg4 hm4; rw [H4.out, HF.out] at hs4; replace hm4 : Moved w none G4 := hm3.trans (hm4.of_size (by simp)) hg3.size; replace hg4 := grown_trans (grown_alloc hg3 _) hm3 hg4; clear hs3 hg3 hm3)
    have H := Lib.hid (show EPost w (bF bs) (eF bs) (.returned (.tuple #[.slice A4 (3 + n + 4) c4, .int .i64 0])) w4 by
      rw [HE.out]
      exact ⟨A4, _, c4, G4, rfl, hs4, grown_below hg4 (Nat.le_refl _) (fun g e => by cases e), hm4.ge (Nat.le_refl _) (fun g e => by cases e)⟩)
    clear hs4 hg4 hm4
    go_wp2_with fail
    go_ret2
    exact H.out

theorem Seg.lit (w : World) (e : TypeId) (vs : List Value) (h : vs.length ≤ maxLen) : Seg (w.alloc (.cells vs.toArray e)) e 1 (some ⟨w.heap.size, 0, none⟩) vs.length vs.length vs (some w.heap.size) :=
  ⟨by simp, Nat.le_refl _, h, .inr ⟨w.heap.size, 0, vs.toArray, rfl, rfl, CB.new _ _ _, by simp, fun j u hu => by simpa using hu⟩⟩

end Go.Proofs.Ytcfdfimkgehdfaa.Dk
