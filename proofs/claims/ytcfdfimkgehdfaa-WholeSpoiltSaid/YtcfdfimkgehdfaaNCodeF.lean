/-
  The reader of package code: text and value. Conditions: the reader's struct is a block of its own, the bytes that it reads lie below it.
-/
import Derived.Test.YtcfdfimkgehdfaaNCodeE
namespace Go.Proofs.Ytcfdfimkgehdfaa.Dk
set_option maxRecDepth 100000
open Go.RowKit

def NoPost (w : World) (B rb : Nat) (e : Ending) (w' : World) : Prop := ∃ v r, NPost w B rb v false r e w'

set_option maxHeartbeats 400000 in
theorem text_ok (B rb n : Nat) (bs : List UInt8) (w : World) (hr : RD w B rb bs) (h2 : 2 ≤ bs.length) (hn : Hid (val (bs.take 2) = n)) (hn2 : n ≤ 2000) (hl : n ≤ (bs.drop 2).length) :
    Calls Try.prog 88 #[.pointer (some ⟨rb, 0, none⟩), .int .i64 2] w (NPost w B rb ⟨0, mkS ((bs.drop 2).take n)⟩ true ((bs.drop 2).drop n)) := by
  have hrb := hr.lt
  have hz := hr.1
  generalize Htx : (bs.drop 2).take n = tx
  generalize Hrs : (bs.drop 2).drop n = rs
  have HT := Lib.hid Htx
  have HR := Lib.hid Hrs
  clear Htx Hrs
  go_enter Try.func88, Try.ntmps88
  go_wp2_with fail
  refine (number_ok B rb 2 bs _ (hr.alloc _) (by omega) h2).mono ?_
  rintro e w2 ⟨rfl, hr2, hg2⟩
  rw [hn.out]
  have z2 : w.heap.size < w2.heap.size := by have := hg2.size; simp at this; omega
  have hcb4 : CB w2 w.heap.size 142 #[.int .u64 0, .string (mkS [])] := (CB.new w _ _).grown hg2 (by simp; omega)
  have hg0 : w.grownBy w2 (some rb) := grown_trans (grown_alloc (World.grownBy.refl w _) _) (.inl rfl) hg2
  have hcb4' := hcb4.alloc (.cells #[.int .u64 n, .string (mkS [])] 142)
  have hr3 := hr2.alloc (.cells #[.int .u64 n, .string (mkS [])] 142)
  have hg3 := grown_alloc hg0 (.cells #[.int .u64 n, .string (mkS [])] 142)
  clear hr h2 hn hg2 hr2 hg0 hcb4
  go_wp2_with fail
  refine (take_ok B rb n _ _ hr3 hl).mono ?_
  rintro e w4 ⟨A4, c4, rfl, hb4, hr4, hg4⟩
  rw [HT.out] at hb4
  rw [HR.out] at hr4
  have hcv := conv_br hb4
  have hcbA : CB w4 w.heap.size 142 #[.int .u64 0, .string (mkS [])] := hcb4'.grown hg4 (by simp; omega)
  have hgA : w.grownBy w4 (some rb) := grown_trans hg3 (.inl rfl) hg4
  have e0 := hcbA.cell 0
  have e1 := hcbA.cell 1
  have g0 := hcbA.frozen 0
  have g1 := hcbA.frozen 1
  simp at e0 e1
  have hcbF : CB ((w4.setCell ⟨w.heap.size, 0, none⟩ (.int .u64 0)).setCell ⟨w.heap.size, 1, none⟩ (.string (mkS tx))) w.heap.size 142 #[.int .u64 0, .string (mkS tx)] := by simpa using (hcbA.put 0 (.int .u64 0)).put 1 (.string (mkS tx))
  have hrF : RD ((w4.setCell ⟨w.heap.size, 0, none⟩ (.int .u64 0)).setCell ⟨w.heap.size, 1, none⟩ (.string (mkS tx))) B rb rs := (hr4.far (by simp only; omega) _).far (by simp only; omega) _
  have hgF : w.grownBy ((w4.setCell ⟨w.heap.size, 0, none⟩ (.int .u64 0)).setCell ⟨w.heap.size, 1, none⟩ (.string (mkS tx))) (some rb) := grown_new (grown_new hgA (by simp only; omega) _) (by simp only; omega) _
  clear hcbA hgA hcb4' hr3 hg3 hb4 hr4 hg4 hl
  go_wp2_with fail
  generalize (w4.setCell ⟨w.heap.size, 0, none⟩ (.int .u64 0)).setCell ⟨w.heap.size, 1, none⟩ (.string (mkS tx)) = W' at *
  have x0 := hcbF.cell 0
  have x1 := hcbF.cell 1
  simp at x0 x1
  exact bodyPost_ret (v := .tuple #[.agg #[.int .u64 0, .string (mkS tx)], .bool true]) (by simp [results, Try.results88, go_sem, x0, x1]) rfl ⟨rfl, hrF, hgF⟩

set_option maxHeartbeats 400000 in
theorem text_no1 (B rb : Nat) (bs : List UInt8) (w : World) (hr : RD w B rb bs) (h2 : bs.length < 2) :
    Calls Try.prog 88 #[.pointer (some ⟨rb, 0, none⟩), .int .i64 2] w (NoPost w B rb) := by
  have hrb := hr.lt
  have hz := hr.1
  go_enter Try.func88, Try.ntmps88
  go_wp2_with fail
  refine (number_no B rb 2 bs _ (hr.alloc _) h2).mono ?_
  rintro e w2 ⟨rfl, hr2, hg2⟩
  have z2 : w.heap.size < w2.heap.size := by have := hg2.size; simp at this; omega
  have hcb4 : CB w2 w.heap.size 142 #[.int .u64 0, .string (mkS [])] := (CB.new w _ _).grown hg2 (by simp; omega)
  have hg0 : w.grownBy w2 (some rb) := grown_trans (grown_alloc (World.grownBy.refl w _) _) (.inl rfl) hg2
  have hcbF := ((hcb4.put 0 (.int .u64 0)).put 1 (.string ⟨#[]⟩)).alloc (.cells #[.int .u64 0, .string (mkS [])] 142)
  have hrF := ((hr2.far (p := ⟨w.heap.size, 0, none⟩) (by simp only; omega) (.int .u64 0)).far (p := ⟨w.heap.size, 1, none⟩) (by simp only; omega) (.string ⟨#[]⟩)).alloc (.cells #[.int .u64 0, .string (mkS [])] 142)
  have hgF := grown_alloc (grown_new (grown_new hg0 (p := ⟨w.heap.size, 0, none⟩) (by simp only; omega) (.int .u64 0)) (p := ⟨w.heap.size, 1, none⟩) (by simp only; omega) (.string ⟨#[]⟩)) (.cells #[.int .u64 0, .string (mkS [])] 142)
  have e0 := hcb4.cell 0
  have e1 := hcb4.cell 1
  have g0 := hcb4.frozen 0
  have g1 := hcb4.frozen 1
  simp at e0 e1
  clear hr h2 hg2 hr2 hg0 hcb4
  go_wp2_with fail
  exact bodyPost_ret (v := .tuple #[.agg #[.int .u64 0, .string ⟨#[]⟩], .bool false]) (by simp [results, Try.results88, go_sem, z2, e0, e1]) rfl ⟨⟨0, ⟨#[]⟩⟩, bs, rfl, hrF, hgF⟩

set_option maxHeartbeats 400000 in
theorem text_no2 (B rb n : Nat) (bs : List UInt8) (w : World) (hr : RD w B rb bs) (h2 : 2 ≤ bs.length) (hn : Hid (val (bs.take 2) = n)) (hn2 : 2000 < n) (hn3 : n < 65536) :
    Calls Try.prog 88 #[.pointer (some ⟨rb, 0, none⟩), .int .i64 2] w (NoPost w B rb) := by
  have hrb := hr.lt
  have hz := hr.1
  generalize Hrs : bs.drop 2 = rs
  have HR := Lib.hid Hrs
  clear Hrs
  go_enter Try.func88, Try.ntmps88
  go_wp2_with fail
  refine (number_ok B rb 2 bs _ (hr.alloc _) (by omega) h2).mono ?_
  rintro e w2 ⟨rfl, hr2, hg2⟩
  rw [hn.out]
  rw [HR.out] at hr2
  have z2 : w.heap.size < w2.heap.size := by have := hg2.size; simp at this; omega
  have hcb4 : CB w2 w.heap.size 142 #[.int .u64 0, .string (mkS [])] := (CB.new w _ _).grown hg2 (by simp; omega)
  have hg0 : w.grownBy w2 (some rb) := grown_trans (grown_alloc (World.grownBy.refl w _) _) (.inl rfl) hg2
  have hcbF := ((hcb4.put 0 (.int .u64 0)).put 1 (.string ⟨#[]⟩)).alloc (.cells #[.int .u64 n, .string (mkS [])] 142)
  have hrF := ((hr2.far (p := ⟨w.heap.size, 0, none⟩) (by simp only; omega) (.int .u64 0)).far (p := ⟨w.heap.size, 1, none⟩) (by simp only; omega) (.string ⟨#[]⟩)).alloc (.cells #[.int .u64 n, .string (mkS [])] 142)
  have hgF := grown_alloc (grown_new (grown_new hg0 (p := ⟨w.heap.size, 0, none⟩) (by simp only; omega) (.int .u64 0)) (p := ⟨w.heap.size, 1, none⟩) (by simp only; omega) (.string ⟨#[]⟩)) (.cells #[.int .u64 n, .string (mkS [])] 142)
  have e0 := hcb4.cell 0
  have e1 := hcb4.cell 1
  have g0 := hcb4.frozen 0
  have g1 := hcb4.frozen 1
  simp at e0 e1
  clear hr h2 hg2 hr2 hg0 hcb4 hn
  go_wp2_with fail
  exact bodyPost_ret (v := .tuple #[.agg #[.int .u64 0, .string ⟨#[]⟩], .bool false]) (by simp [results, Try.results88, go_sem, z2, e0, e1]) rfl ⟨⟨0, ⟨#[]⟩⟩, rs, rfl, hrF, hgF⟩

set_option maxHeartbeats 400000 in
theorem text_no3 (B rb n : Nat) (bs : List UInt8) (w : World) (hr : RD w B rb bs) (h2 : 2 ≤ bs.length) (hn : Hid (val (bs.take 2) = n)) (hn2 : n ≤ 2000) (hl : (bs.drop 2).length < n) :
    Calls Try.prog 88 #[.pointer (some ⟨rb, 0, none⟩), .int .i64 2] w (NoPost w B rb) := by
  have hrb := hr.lt
  have hz := hr.1
  generalize Hrs : bs.drop 2 = rs at hl
  have HR := Lib.hid Hrs
  clear Hrs
  go_enter Try.func88, Try.ntmps88
  go_wp2_with fail
  refine (number_ok B rb 2 bs _ (hr.alloc _) (by omega) h2).mono ?_
  rintro e w2 ⟨rfl, hr2, hg2⟩
  rw [hn.out]
  rw [HR.out] at hr2
  have z2 : w.heap.size < w2.heap.size := by have := hg2.size; simp at this; omega
  have hcb4 : CB w2 w.heap.size 142 #[.int .u64 0, .string (mkS [])] := (CB.new w _ _).grown hg2 (by simp; omega)
  have hg0 : w.grownBy w2 (some rb) := grown_trans (grown_alloc (World.grownBy.refl w _) _) (.inl rfl) hg2
  have hr3 := hr2.alloc (.cells #[.int .u64 n, .string (mkS [])] 142)
  have hcbF := ((hcb4.put 0 (.int .u64 0)).put 1 (.string ⟨#[]⟩)).alloc (.cells #[.int .u64 n, .string (mkS [])] 142)
  have hrF := ((hr2.far (p := ⟨w.heap.size, 0, none⟩) (by simp only; omega) (.int .u64 0)).far (p := ⟨w.heap.size, 1, none⟩) (by simp only; omega) (.string ⟨#[]⟩)).alloc (.cells #[.int .u64 n, .string (mkS [])] 142)
  have hgF := grown_alloc (grown_new (grown_new hg0 (p := ⟨w.heap.size, 0, none⟩) (by simp only; omega) (.int .u64 0)) (p := ⟨w.heap.size, 1, none⟩) (by simp only; omega) (.string ⟨#[]⟩)) (.cells #[.int .u64 n, .string (mkS [])] 142)
  have e0 := hcb4.cell 0
  have e1 := hcb4.cell 1
  have g0 := hcb4.frozen 0
  have g1 := hcb4.frozen 1
  simp at e0 e1
  clear hr h2 hg2 hr2 hg0 hcb4 hn
  go_wp2_with fail
  refine (take_no B rb n _ _ hr3 hl).mono ?_
  rintro e w' ⟨rfl, rfl⟩
  have hcv : ∀ W : World, (convert 30 9 (.slice none 0 0)).run Try.prog W = .ok (.string ⟨#[]⟩) W := fun W => conv_br (BR.nil W 0)
  clear hr3 hl
  go_wp2_with fail
  exact bodyPost_ret (v := .tuple #[.agg #[.int .u64 0, .string ⟨#[]⟩], .bool false]) (by simp [results, Try.results88, go_sem, z2, e0, e1]) rfl ⟨⟨0, ⟨#[]⟩⟩, rs, rfl, hrF, hgF⟩
end Go.Proofs.Ytcfdfimkgehdfaa.Dk
