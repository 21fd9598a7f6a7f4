/-
  The reader's method value, and Decode of package code: it returns the document's values, or the document's error. Conditions: the shape is such as memory can hold, the bytes can be read.
-/
import Derived.Test.YtcfdfimkgehdfaaNCodeF
namespace Go.Proofs.Ytcfdfimkgehdfaa.Dk
set_option maxRecDepth 100000
open Go.RowKit

/-- What a value off the front may be. -/
def VS (c : UInt8) (bs : List UInt8) (v : CV) (ok : Bool) (r : List UInt8) : Prop := (ok = true ∧ decV c bs = some (v, r)) ∨ (ok = false ∧ decV c bs = none)
def VPost (w : World) (B rb : Nat) (c : UInt8) (bs : List UInt8) (e : Ending) (w' : World) : Prop := ∃ v ok r, VS c bs v ok r ∧ NPost w B rb v ok r e w'

theorem text_any (B rb : Nat) (bs : List UInt8) (w : World) (hr : RD w B rb bs) :
    Calls Try.prog 88 #[.pointer (some ⟨rb, 0, none⟩), .int .i64 2] w (VPost w B rb 116 bs) := by
  by_cases h2 : bs.length < 2
  · exact (text_no1 B rb bs w hr h2).mono fun e w' ⟨v, r, h⟩ => ⟨v, false, r, .inr ⟨rfl, by unfold decV; rw [if_pos rfl, if_pos h2]⟩, h⟩
  · have h3 : val (bs.take 2) < 65536 := by
      have := val_lt (bs.take 2)
      rwa [List.length_take, Nat.min_eq_left (by omega)] at this
    by_cases h4 : 2000 < val (bs.take 2)
    · exact (text_no2 B rb _ bs w hr (by omega) (Lib.hid rfl) h4 h3).mono fun e w' ⟨v, r, h⟩ => ⟨v, false, r, .inr ⟨rfl, by unfold decV; rw [if_pos rfl, if_neg h2, if_pos h4]⟩, h⟩
    · by_cases h5 : (bs.drop 2).length < val (bs.take 2)
      · exact (text_no3 B rb _ bs w hr (by omega) (Lib.hid rfl) (by omega) h5).mono fun e w' ⟨v, r, h⟩ => ⟨v, false, r, .inr ⟨rfl, by unfold decV; rw [if_pos rfl, if_neg h2, if_neg h4, if_pos h5]⟩, h⟩
      · exact (text_ok B rb _ bs w hr (by omega) (Lib.hid rfl) (by omega) (by omega)).mono fun e w' h => ⟨_, true, _, .inl ⟨rfl, by unfold decV; rw [if_pos rfl, if_neg h2, if_neg h4, if_neg h5]⟩, h⟩

theorem number_any (B rb : Nat) (c : UInt8) (bs : List UInt8) (w : World) (hr : RD w B rb bs) (hc : ¬ c = 116) :
    Calls Try.prog 87 #[.pointer (some ⟨rb, 0, none⟩), .int .i64 (wd c)] w (VPost w B rb c bs) := by
  by_cases h2 : bs.length < wd c
  · exact (number_no B rb _ bs w hr h2).mono fun e w' h => ⟨_, false, _, .inr ⟨rfl, by unfold decV; rw [if_neg hc, if_pos h2]⟩, h⟩
  · exact (number_ok B rb _ bs w hr (wd_le c) (by omega)).mono fun e w' h => ⟨_, true, _, .inl ⟨rfl, by unfold decV; rw [if_neg hc, if_neg h2]⟩, h⟩

set_option maxHeartbeats 400000 in
theorem value_any (B rb : Nat) (c : UInt8) (bs : List UInt8) (w : World) (hr : RD w B rb bs) :
    Calls Try.prog 82 #[.pointer (some ⟨rb, 0, none⟩), .int .u8 c.toNat] w (VPost w B rb c bs) := by
  have hrb := hr.lt
  have hz := hr.1
  by_cases hc : c = 116
  · have e3 : ((c.toNat : Int) == 116) = true := by rw [hc]; rfl
    have Hc := Lib.hid hc
    clear hc
    go_enter Try.func82, Try.ntmps82
    go_wp2_with fail
    refine (width_c c _).mono ?_
    rintro e w' ⟨rfl, rfl⟩
    rw [show wd c = 2 by rw [Hc.out]; rfl]
    go_wp2_with fail
    refine (text_any B rb bs _ (hr.alloc _)).mono ?_
    rintro e w2 ⟨v, ok, r, hS, rfl, hr2, hg2⟩
    rw [← Hc.out] at hS
    have z2 : w.heap.size < w2.heap.size := by have := hg2.size; simp at this; omega
    have hcb4 : CB w2 w.heap.size 142 #[.int .u64 0, .string (mkS [])] := (CB.new w _ _).grown hg2 (by simp; omega)
    have hg0 : w.grownBy w2 (some rb) := grown_trans (grown_alloc (World.grownBy.refl w _) _) (.inl rfl) hg2
    have e0 := hcb4.cell 0
    have e1 := hcb4.cell 1
    have g0 := hcb4.frozen 0
    have g1 := hcb4.frozen 1
    simp at e0 e1
    have hcbF : CB ((w2.setCell ⟨w.heap.size, 0, none⟩ (.int .u64 v.n)).setCell ⟨w.heap.size, 1, none⟩ (.string v.s)) w.heap.size 142 #[.int .u64 v.n, .string v.s] := by simpa using (hcb4.put 0 (.int .u64 v.n)).put 1 (.string v.s)
    have hrF := (hr2.far (p := ⟨w.heap.size, 0, none⟩) (by simp only; omega) (.int .u64 v.n)).far (p := ⟨w.heap.size, 1, none⟩) (by simp only; omega) (.string v.s)
    have hgF := grown_new (grown_new hg0 (p := ⟨w.heap.size, 0, none⟩) (by simp only; omega) (.int .u64 v.n)) (p := ⟨w.heap.size, 1, none⟩) (by simp only; omega) (.string v.s)
    clear hr hg2 hr2 hg0 hcb4
    go_wp2_with fail
    generalize (w2.setCell ⟨w.heap.size, 0, none⟩ (.int .u64 v.n)).setCell ⟨w.heap.size, 1, none⟩ (.string v.s) = W' at *
    have x0 := hcbF.cell 0
    have x1 := hcbF.cell 1
    simp at x0 x1
    exact bodyPost_ret (v := .tuple #[.agg #[.int .u64 v.n, .string v.s], .bool ok]) (by simp [results, Try.results82, go_sem, x0, x1]) rfl ⟨v, ok, r, hS, rfl, hrF, hgF⟩
  · have e3 := u8ne 116 116 rfl hc
    have Hc := Lib.hid hc
    clear hc
    go_enter Try.func82, Try.ntmps82
    go_wp2_with fail
    refine (width_c c _).mono ?_
    rintro e w' ⟨rfl, rfl⟩
    go_wp2_with fail
    refine (number_any B rb c bs _ (hr.alloc _) Hc.out).mono ?_
    rintro e w2 ⟨v, ok, r, hS, rfl, hr2, hg2⟩
    have z2 : w.heap.size < w2.heap.size := by have := hg2.size; simp at this; omega
    have hcb4 : CB w2 w.heap.size 142 #[.int .u64 0, .string (mkS [])] := (CB.new w _ _).grown hg2 (by simp; omega)
    have hg0 : w.grownBy w2 (some rb) := grown_trans (grown_alloc (World.grownBy.refl w _) _) (.inl rfl) hg2
    have e0 := hcb4.cell 0
    have e1 := hcb4.cell 1
    have g0 := hcb4.frozen 0
    have g1 := hcb4.frozen 1
    simp at e0 e1
    have hcbF : CB ((w2.setCell ⟨w.heap.size, 0, none⟩ (.int .u64 v.n)).setCell ⟨w.heap.size, 1, none⟩ (.string v.s)) w.heap.size 142 #[.int .u64 v.n, .string v.s] := by simpa using (hcb4.put 0 (.int .u64 v.n)).put 1 (.string v.s)
    have hrF := (hr2.far (p := ⟨w.heap.size, 0, none⟩) (by simp only; omega) (.int .u64 v.n)).far (p := ⟨w.heap.size, 1, none⟩) (by simp only; omega) (.string v.s)
    have hgF := grown_new (grown_new hg0 (p := ⟨w.heap.size, 0, none⟩) (by simp only; omega) (.int .u64 v.n)) (p := ⟨w.heap.size, 1, none⟩) (by simp only; omega) (.string v.s)
    clear hr hg2 hr2 hg0 hcb4
    go_wp2_with fail
    generalize (w2.setCell ⟨w.heap.size, 0, none⟩ (.int .u64 v.n)).setCell ⟨w.heap.size, 1, none⟩ (.string v.s) = W' at *
    have x0 := hcbF.cell 0
    have x1 := hcbF.cell 1
    simp at x0 x1
    exact bodyPost_ret (v := .tuple #[.agg #[.int .u64 v.n, .string v.s], .bool ok]) (by simp [results, Try.results82, go_sem, x0, x1]) rfl ⟨v, ok, r, hS, rfl, hrF, hgF⟩
end Go.Proofs.Ytcfdfimkgehdfaa.Dk
