/-
  The reader of package code: text and value. Conditions: the reader's struct is a block of its own, the bytes that it reads lie below it.
-/
import Derived.Test.YtfdboahcaiolgaaMgC
namespace Go.Proofs.Ytfdboahcaiolgaa.Dk
set_option maxRecDepth 100000
open Go.RowKit

def NoPost (w : World) (B rb : Nat) (e : Ending) (w' : World) : Prop := ∃ v r, NPost w B rb v false r e w'

set_option maxHeartbeats 400000 in
theorem text_ok (B rb n : Nat) (bs : List UInt8) (w : World) (hr : RD w B rb bs) (h2 : 2 ≤ bs.length) (hn : Hid (val (bs.take 2) = n)) (hn2 : n ≤ 2000) (hl : n ≤ (bs.drop 2).length) :
    Calls Try.prog 87 #[.pointer (some ⟨rb, 0, none⟩), .int .i64 2] w (NPost w B rb ⟨0, mkS ((bs.drop 2).take n)⟩ true ((bs.drop 2).drop n)) := by
  have hrb := hr.lt
  have hz := hr.1
  generalize Htx : (bs.drop 2).take n = tx
  generalize Hrs : (bs.drop 2).drop n = rs
  have HT := Lib.hid Htx
  have HR := Lib.hid Hrs
  clear Htx Hrs
  go_enter Try.func87, Try.ntmps87
  go_wp2_with fail
  refine (number_ok B rb 2 bs _ (hr.alloc _) (by omega) h2).mono ?_
  rintro e w2 ⟨rfl, hr2, hg2⟩
  rw [hn.out]
  have z2 : w.heap.size < w2.heap.size := by have := hg2.size; simp at this; omega
  have hcb4 : CB w2 w.heap.size 96 #[.int .u64 0, .string (mkS [])] := (CB.new w _ _).grown hg2 (by simp; omega)
  have hg0 : w.grownBy w2 (some rb) := grown_trans (grown_alloc (World.grownBy.refl w _) _) (.inl rfl) hg2
  have hcb4' := hcb4.alloc (.cells #[.int .u64 n, .string (mkS [])] 96)
  have hr3 := hr2.alloc (.cells #[.int .u64 n, .string (mkS [])] 96)
  have hg3 := grown_alloc hg0 (.cells #[.int .u64 n, .string (mkS [])] 96)
  clear hr h2 hn hg2 hr2 hg0 hcb4
  go_wp2_with fail
  refine (take_ok B rb n _ _ hr3 hl).mono ?_
  rintro e w4 ⟨A4, c4, rfl, hb4, hr4, hg4⟩
  rw [HT.out] at hb4
  rw [HR.out] at hr4
  have hcv := conv_br hb4
  have hcbA : CB w4 w.heap.size 96 #[.int .u64 0, .string (mkS [])] := hcb4'.grown hg4 (by simp; omega)
  have hgA : w.grownBy w4 (some rb) := grown_trans hg3 (.inl rfl) hg4
  have e0 := hcbA.cell 0
  have e1 := hcbA.cell 1
  have g0 := hcbA.frozen 0
  have g1 := hcbA.frozen 1
  simp at e0 e1
  have hcbF : CB ((w4.setCell ⟨w.heap.size, 0, none⟩ (.int .u64 0)).setCell ⟨w.heap.size, 1, none⟩ (.string (mkS tx))) w.heap.size 96 #[.int .u64 0, .string (mkS tx)] := by simpa using (hcbA.put 0 (.int .u64 0)).put 1 (.string (mkS tx))
  have hrF : RD ((w4.setCell ⟨w.heap.size, 0, none⟩ (.int .u64 0)).setCell ⟨w.heap.size, 1, none⟩ (.string (mkS tx))) B rb rs := (hr4.far (by simp only; omega) _).far (by simp only; omega) _
  have hgF : w.grownBy ((w4.setCell ⟨w.heap.size, 0, none⟩ (.int .u64 0)).setCell ⟨w.heap.size, 1, none⟩ (.string (mkS tx))) (some rb) := grown_new (grown_new hgA (by simp only; omega) _) (by simp only; omega) _
  clear hcbA hgA hcb4' hr3 hg3 hb4 hr4 hg4 hl
  go_wp2_with fail
  generalize (w4.setCell ⟨w.heap.size, 0, none⟩ (.int .u64 0)).setCell ⟨w.heap.size, 1, none⟩ (.string (mkS tx)) = W' at *
  have x0 := hcbF.cell 0
  have x1 := hcbF.cell 1
  simp at x0 x1
  exact bodyPost_ret (v := .tuple #[.agg #[.int .u64 0, .string (mkS tx)], .bool true]) (by simp [results, Try.results87, go_sem, x0, x1]) rfl ⟨rfl, hrF, hgF⟩

set_option maxHeartbeats 400000 in
theorem text_no1 (B rb : Nat) (bs : List UInt8) (w : World) (hr : RD w B rb bs) (h2 : bs.length < 2) :
    Calls Try.prog 87 #[.pointer (some ⟨rb, 0, none⟩), .int .i64 2] w (NoPost w B rb) := by
  have hrb := hr.lt
  have hz := hr.1
  go_enter Try.func87, Try.ntmps87
  go_wp2_with fail
  refine (number_no B rb 2 bs _ (hr.alloc _) h2).mono ?_
  rintro e w2 ⟨rfl, hr2, hg2⟩
  have z2 : w.heap.size < w2.heap.size := by have := hg2.size; simp at this; omega
  have hcb4 : CB w2 w.heap.size 96 #[.int .u64 0, .string (mkS [])] := (CB.new w _ _).grown hg2 (by simp; omega)
  have hg0 : w.grownBy w2 (some rb) := grown_trans (grown_alloc (World.grownBy.refl w _) _) (.inl rfl) hg2
  have hcbF := ((hcb4.put 0 (.int .u64 0)).put 1 (.string ⟨#[]⟩)).alloc (.cells #[.int .u64 0, .string (mkS [])] 96)
  have hrF := ((hr2.far (p := ⟨w.heap.size, 0, none⟩) (by simp only; omega) (.int .u64 0)).far (p := ⟨w.heap.size, 1, none⟩) (by simp only; omega) (.string ⟨#[]⟩)).alloc (.cells #[.int .u64 0, .string (mkS [])] 96)
  have hgF := grown_alloc (grown_new (grown_new hg0 (p := ⟨w.heap.size, 0, none⟩) (by simp only; omega) (.int .u64 0)) (p := ⟨w.heap.size, 1, none⟩) (by simp only; omega) (.string ⟨#[]⟩)) (.cells #[.int .u64 0, .string (mkS [])] 96)
  have e0 := hcb4.cell 0
  have e1 := hcb4.cell 1
  have g0 := hcb4.frozen 0
  have g1 := hcb4.frozen 1
  simp at e0 e1
  clear hr h2 hg2 hr2 hg0 hcb4
  go_wp2_with fail
  exact bodyPost_ret (v := .tuple #[.agg #[.int .u64 0, .string ⟨#[]⟩], .bool false]) (by simp [results, Try.results87, go_sem, z2, e0, e1]) rfl ⟨⟨0, ⟨#[]⟩⟩, bs, rfl, hrF, hgF⟩

set_option maxHeartbeats 400000 in
theorem text_no2 (B rb n : Nat) (bs : List UInt8) (w : World) (hr : RD w B rb bs) (h2 : 2 ≤ bs.length) (hn : Hid (val (bs.take 2) = n)) (hn2 : 2000 < n) (hn3 : n < 65536) :
    Calls Try.prog 87 #[.pointer (some ⟨rb, 0, none⟩), .int .i64 2] w (NoPost w B rb) := by
  have hrb := hr.lt
  have hz := hr.1
  generalize Hrs : bs.drop 2 = rs
  have HR := Lib.hid Hrs
  clear Hrs
  go_enter Try.func87, Try.ntmps87
  go_wp2_with fail
  refine (number_ok B rb 2 bs _ (hr.alloc _) (by omega) h2).mono ?_
  rintro e w2 ⟨rfl, hr2, hg2⟩
  rw [hn.out]
  rw [HR.out] at hr2
  have z2 : w.heap.size < w2.heap.size := by have := hg2.size; simp at this; omega
  have hcb4 : CB w2 w.heap.size 96 #[.int .u64 0, .string (mkS [])] := (CB.new w _ _).grown hg2 (by simp; omega)
  have hg0 : w.grownBy w2 (some rb) := grown_trans (grown_alloc (World.grownBy.refl w _) _) (.inl rfl) hg2
  have hcbF := ((hcb4.put 0 (.int .u64 0)).put 1 (.string ⟨#[]⟩)).alloc (.cells #[.int .u64 n, .string (mkS [])] 96)
  have hrF := ((hr2.far (p := ⟨w.heap.size, 0, none⟩) (by simp only; omega) (.int .u64 0)).far (p := ⟨w.heap.size, 1, none⟩) (by simp only; omega) (.string ⟨#[]⟩)).alloc (.cells #[.int .u64 n, .string (mkS [])] 96)
  have hgF := grown_alloc (grown_new (grown_new hg0 (p := ⟨w.heap.size, 0, none⟩) (by simp only; omega) (.int .u64 0)) (p := ⟨w.heap.size, 1, none⟩) (by simp only; omega) (.string ⟨#[]⟩)) (.cells #[.int .u64 n, .string (mkS [])] 96)
  have e0 := hcb4.cell 0
  have e1 := hcb4.cell 1
  have g0 := hcb4.frozen 0
  have g1 := hcb4.frozen 1
  simp at e0 e1
  clear hr h2 hg2 hr2 hg0 hcb4 hn
  go_wp2_with fail
  exact bodyPost_ret (v := .tuple #[.agg #[.int .u64 0, .string ⟨#[]⟩], .bool false]) (by simp [results, Try.results87, go_sem, z2, e0, e1]) rfl ⟨⟨0, ⟨#[]⟩⟩, rs, rfl, hrF, hgF⟩

set_option maxHeartbeats 400000 in
theorem text_no3 (B rb n : Nat) (bs : List UInt8) (w : World) (hr : RD w B rb bs) (h2 : 2 ≤ bs.length) (hn : Hid (val (bs.take 2) = n)) (hn2 : n ≤ 2000) (hl : (bs.drop 2).length < n) :
    Calls Try.prog 87 #[.pointer (some ⟨rb, 0, none⟩), .int .i64 2] w (NoPost w B rb) := by
  have hrb := hr.lt
  have hz := hr.1
  generalize Hrs : bs.drop 2 = rs at hl
  have HR := Lib.hid Hrs
  clear Hrs
  go_enter Try.func87, Try.ntmps87
  go_wp2_with fail
  refine (number_ok B rb 2 bs _ (hr.alloc _) (by omega) h2).mono ?_
  rintro e w2 ⟨rfl, hr2, hg2⟩
  rw [hn.out]
  rw [HR.out] at hr2
  have z2 : w.heap.size < w2.heap.size := by have := hg2.size; simp at this; omega
  have hcb4 : CB w2 w.heap.size 96 #[.int .u64 0, .string (mkS [])] := (CB.new w _ _).grown hg2 (by simp; omega)
  have hg0 : w.grownBy w2 (some rb) := grown_trans (grown_alloc (World.grownBy.refl w _) _) (.inl rfl) hg2
  have hr3 := hr2.alloc (.cells #[.int .u64 n, .string (mkS [])] 96)
  have hcbF := ((hcb4.put 0 (.int .u64 0)).put 1 (.string ⟨#[]⟩)).alloc (.cells #[.int .u64 n, .string (mkS [])] 96)
  have hrF := ((hr2.far (p := ⟨w.heap.size, 0, none⟩) (by simp only; omega) (.int .u64 0)).far (p := ⟨w.heap.size, 1, none⟩) (by simp only; omega) (.string ⟨#[]⟩)).alloc (.cells #[.int .u64 n, .string (mkS [])] 96)
  have hgF := grown_alloc (grown_new (grown_new hg0 (p := ⟨w.heap.size, 0, none⟩) (by simp only; omega) (.int .u64 0)) (p := ⟨w.heap.size, 1, none⟩) (by simp only; omega) (.string ⟨#[]⟩)) (.cells #[.int .u64 n, .string (mkS [])] 96)
  have e0 := hcb4.cell 0
  have e1 := hcb4.cell 1
  have g0 := hcb4.frozen 0
  have g1 := hcb4.frozen 1
  simp at e0 e1
  clear hr h2 hg2 hr2 hg0 hcb4 hn
  go_wp2_with fail
  refine (take_no B rb n _ _ hr3 hl).mono ?_
  rintro e w' ⟨rfl, rfl⟩
  have hcv : ∀ W : World, (convert 77 9 (.slice none 0 0)).run Try.prog W = .ok (.string ⟨#[]⟩) W := fun W => conv_br (BR.nil W 0)
  clear hr3 hl
  go_wp2_with fail
  exact bodyPost_ret (v := .tuple #[.agg #[.int .u64 0, .string ⟨#[]⟩], .bool false]) (by simp [results, Try.results87, go_sem, z2, e0, e1]) rfl ⟨⟨0, ⟨#[]⟩⟩, rs, rfl, hrF, hgF⟩
end Go.Proofs.Ytfdboahcaiolgaa.Dk

/-
  The reader's method value, and Decode of package code: it returns the document's values, or the document's error. Conditions: the shape is such as memory can hold, the bytes can be read.
-/
namespace Go.Proofs.Ytfdboahcaiolgaa.Dk
set_option maxRecDepth 100000
open Go.RowKit

/-- What a value off the front may be. -/
def VS (c : UInt8) (bs : List UInt8) (v : CV) (ok : Bool) (r : List UInt8) : Prop := (ok = true ∧ decV c bs = some (v, r)) ∨ (ok = false ∧ decV c bs = none)
def VPost (w : World) (B rb : Nat) (c : UInt8) (bs : List UInt8) (e : Ending) (w' : World) : Prop := ∃ v ok r, VS c bs v ok r ∧ NPost w B rb v ok r e w'

theorem text_any (B rb : Nat) (bs : List UInt8) (w : World) (hr : RD w B rb bs) :
    Calls Try.prog 87 #[.pointer (some ⟨rb, 0, none⟩), .int .i64 2] w (VPost w B rb 116 bs) := by
  by_cases h2 : bs.length < 2
  · exact (text_no1 B rb bs w hr h2).mono fun e w' ⟨v, r, h⟩ => ⟨v, false, r, .inr ⟨rfl, by unfold decV; rw [if_pos rfl, if_pos h2]⟩, h⟩
  · have h3 : val (bs.take 2) < 65536 := by
      have := val_lt (bs.take 2)
      rwa [List.length_take, Nat.min_eq_left (by omega)] at this
    by_cases h4 : 2000 < val (bs.take 2)
    · exact (text_no2 B rb _ bs w hr (by omega) (Lib.hid rfl) h4 h3).mono fun e w' ⟨v, r, h⟩ => ⟨v, false, r, .inr ⟨rfl, by unfold decV; rw [if_pos rfl, if_neg h2, if_pos h4]⟩, h⟩
    · by_cases h5 : (bs.drop 2).length < val (bs.take 2)
      · exact (text_no3 B rb _ bs w hr (by omega) (Lib.hid rfl) (by omega) h5).mono fun e w' ⟨v, r, h⟩ => ⟨v, false, r, .inr ⟨rfl, by unfold decV; rw [if_pos rfl, if_neg h2, if_neg h4, if_pos h5]⟩, h⟩
      · exact (text_ok B rb _ bs w hr (by omega) (Lib.hid rfl) (by omega) (by omega)).mono fun e w' h => ⟨_, true, _, .inl ⟨rfl, by unfold decV; rw [if_pos rfl, if_neg h2, if_neg h4, if_neg h5]⟩, h⟩

theorem number_any (B rb : Nat) (c : UInt8) (bs : List UInt8) (w : World) (hr : RD w B rb bs) (hc : ¬ c = 116) :
    Calls Try.prog 86 #[.pointer (some ⟨rb, 0, none⟩), .int .i64 (wd c)] w (VPost w B rb c bs) := by
  by_cases h2 : bs.length < wd c
  · exact (number_no B rb _ bs w hr h2).mono fun e w' h => ⟨_, false, _, .inr ⟨rfl, by unfold decV; rw [if_neg hc, if_pos h2]⟩, h⟩
  · exact (number_ok B rb _ bs w hr (wd_le c) (by omega)).mono fun e w' h => ⟨_, true, _, .inl ⟨rfl, by unfold decV; rw [if_neg hc, if_neg h2]⟩, h⟩

set_option maxHeartbeats 400000 in
theorem value_any (B rb : Nat) (c : UInt8) (bs : List UInt8) (w : World) (hr : RD w B rb bs) :
    Calls Try.prog 61 #[.pointer (some ⟨rb, 0, none⟩), .int .u8 c.toNat] w (VPost w B rb c bs) := by
  have hrb := hr.lt
  have hz := hr.1
  by_cases hc : c = 116
  · have e3 : ((c.toNat : Int) == 116) = true := by rw [hc]; rfl
    have Hc := Lib.hid hc
    clear hc
    go_enter Try.func61, Try.ntmps61
    go_wp2_with fail
    refine (width_c c _).mono ?_
    rintro e w' ⟨rfl, rfl⟩
    rw [show wd c = 2 by rw [Hc.out]; rfl]
    go_wp2_with fail
    refine (text_any B rb bs _ (hr.alloc _)).mono ?_
    rintro e w2 ⟨v, ok, r, hS, rfl, hr2, hg2⟩
    rw [← Hc.out] at hS
    have z2 : w.heap.size < w2.heap.size := by have := hg2.size; simp at this; omega
    have hcb4 : CB w2 w.heap.size 96 #[.int .u64 0, .string (mkS [])] := (CB.new w _ _).grown hg2 (by simp; omega)
    have hg0 : w.grownBy w2 (some rb) := grown_trans (grown_alloc (World.grownBy.refl w _) _) (.inl rfl) hg2
    have e0 := hcb4.cell 0
    have e1 := hcb4.cell 1
    have g0 := hcb4.frozen 0
    have g1 := hcb4.frozen 1
    simp at e0 e1
    have hcbF : CB ((w2.setCell ⟨w.heap.size, 0, none⟩ (.int .u64 v.n)).setCell ⟨w.heap.size, 1, none⟩ (.string v.s)) w.heap.size 96 #[.int .u64 v.n, .string v.s] := by simpa using (hcb4.put 0 (.int .u64 v.n)).put 1 (.string v.s)
    have hrF := (hr2.far (p := ⟨w.heap.size, 0, none⟩) (by simp only; omega) (.int .u64 v.n)).far (p := ⟨w.heap.size, 1, none⟩) (by simp only; omega) (.string v.s)
    have hgF := grown_new (grown_new hg0 (p := ⟨w.heap.size, 0, none⟩) (by simp only; omega) (.int .u64 v.n)) (p := ⟨w.heap.size, 1, none⟩) (by simp only; omega) (.string v.s)
    clear hr hg2 hr2 hg0 hcb4
    go_wp2_with fail
    generalize (w2.setCell ⟨w.heap.size, 0, none⟩ (.int .u64 v.n)).setCell ⟨w.heap.size, 1, none⟩ (.string v.s) = W' at *
    have x0 := hcbF.cell 0
    have x1 := hcbF.cell 1
    simp at x0 x1
    exact bodyPost_ret (v := .tuple #[.agg #[.int .u64 v.n, .string v.s], .bool ok]) (by simp [results, Try.results61, go_sem, x0, x1]) rfl ⟨v, ok, r, hS, rfl, hrF, hgF⟩
  · have e3 := u8ne 116 116 rfl hc
    have Hc := Lib.hid hc
    clear hc
    go_enter Try.func61, Try.ntmps61
    go_wp2_with fail
    refine (width_c c _).mono ?_
    rintro e w' ⟨rfl, rfl⟩
    go_wp2_with fail
    refine (number_any B rb c bs _ (hr.alloc _) Hc.out).mono ?_
    rintro e w2 ⟨v, ok, r, hS, rfl, hr2, hg2⟩
    have z2 : w.heap.size < w2.heap.size := by have := hg2.size; simp at this; omega
    have hcb4 : CB w2 w.heap.size 96 #[.int .u64 0, .string (mkS [])] := (CB.new w _ _).grown hg2 (by simp; omega)
    have hg0 : w.grownBy w2 (some rb) := grown_trans (grown_alloc (World.grownBy.refl w _) _) (.inl rfl) hg2
    have e0 := hcb4.cell 0
    have e1 := hcb4.cell 1
    have g0 := hcb4.frozen 0
    have g1 := hcb4.frozen 1
    simp at e0 e1
    have hcbF : CB ((w2.setCell ⟨w.heap.size, 0, none⟩ (.int .u64 v.n)).setCell ⟨w.heap.size, 1, none⟩ (.string v.s)) w.heap.size 96 #[.int .u64 v.n, .string v.s] := by simpa using (hcb4.put 0 (.int .u64 v.n)).put 1 (.string v.s)
    have hrF := (hr2.far (p := ⟨w.heap.size, 0, none⟩) (by simp only; omega) (.int .u64 v.n)).far (p := ⟨w.heap.size, 1, none⟩) (by simp only; omega) (.string v.s)
    have hgF := grown_new (grown_new hg0 (p := ⟨w.heap.size, 0, none⟩) (by simp only; omega) (.int .u64 v.n)) (p := ⟨w.heap.size, 1, none⟩) (by simp only; omega) (.string v.s)
    clear hr hg2 hr2 hg0 hcb4
    go_wp2_with fail
    generalize (w2.setCell ⟨w.heap.size, 0, none⟩ (.int .u64 v.n)).setCell ⟨w.heap.size, 1, none⟩ (.string v.s) = W' at *
    have x0 := hcbF.cell 0
    have x1 := hcbF.cell 1
    simp at x0 x1
    exact bodyPost_ret (v := .tuple #[.agg #[.int .u64 v.n, .string v.s], .bool ok]) (by simp [results, Try.results61, go_sem, x0, x1]) rfl ⟨v, ok, r, hS, rfl, hrF, hgF⟩
end Go.Proofs.Ytfdboahcaiolgaa.Dk

/-
  Decode of package code: it returns the document's values, or the document's error. Conditions: the shape is such as memory can hold, the bytes can be read.
-/
namespace Go.Proofs.Ytfdboahcaiolgaa.Dk
set_option maxRecDepth 100000
open Go.RowKit

/-- Values as cells. -/
def vc (l : List CV) : List Value := l.flatMap fun v => [.int .u64 v.n, .string v.s]
theorem vc_append (l m : List CV) : vc (l ++ m) = vc l ++ vc m := List.flatMap_append
theorem vc_cons (v : CV) (l : List CV) : vc (v :: l) = .int .u64 v.n :: .string v.s :: vc l := rfl
theorem vc_length : ∀ l : List CV, (vc l).length = l.length * 2
  | [] => rfl
  | v :: l => by rw [vc_cons]; simp only [List.length_cons, vc_length l]; omega
theorem vc_get : ∀ (l : List CV) (i : Nat) (v : CV), l[i]? = some v → (vc l)[i * 2]? = some (.int .u64 v.n) ∧ (vc l)[i * 2 + 1]? = some (.string v.s)
  | [], i, v, h => by simp at h
  | u :: l, 0, v, h => by
    simp only [List.getElem?_cons_zero, Option.some.injEq] at h
    subst h
    exact ⟨rfl, rfl⟩
  | u :: l, i + 1, v, h => by
    have := vc_get l i v (by simpa using h)
    rw [vc_cons, show (i + 1) * 2 = i * 2 + 1 + 1 by omega]
    simpa using this
theorem vc_one (l : List CV) : ∀ u ∈ vc l, u.oneCell' = true := by
  intro u hu
  simp only [vc, List.mem_flatMap] at hu
  obtain ⟨v, _, hv⟩ := hu
  simp only [List.mem_cons, List.not_mem_nil, or_false] at hv
  rcases hv with rfl | rfl <;> rfl

def okV (l : List CV) : Prop := ∀ v ∈ l, v.n < 18446744073709551616 ∧ v.s.size ≤ maxLen
theorem okV.snoc {l : List CV} (h : okV l) {v : CV} (h1 : v.n < 18446744073709551616) (h2 : v.s.size ≤ maxLen) : okV (l ++ [v]) := by
  intro u hu
  rw [List.mem_append, List.mem_singleton] at hu
  rcases hu with hu | rfl
  · exact h u hu
  · exact ⟨h1, h2⟩

theorem VR.of_seg {w : World} {t : TypeId} {A : Option Addr} {n c : Nat} {l : List CV} {G : Option Nat} (h : Seg w t 2 A n c (vc l) G) (ho : okV l) : n = l.length ∧ VR w A l := by
  have h1 := h.1
  rw [vc_length] at h1
  refine ⟨by omega, fun i v hv => ?_⟩
  obtain ⟨k1, k2⟩ := ho v (List.mem_of_getElem? hv)
  obtain ⟨v0, v1⟩ := vc_get l i v hv
  obtain ⟨g, off, rfl, rfl, hc0⟩ := h.at_ v0
  obtain ⟨g', off', ha, hg, hc1⟩ := h.at_ v1
  cases ha
  exact ⟨k1, k2, g, off, rfl, World.block_lt_of_cell? w _ hc0, hc0, hc1⟩

theorem decs_append (s1 s2 : List UInt8) : ∀ b, decs (s1 ++ s2) b = (match decs s1 b with
    | none => none
    | some (l, r) => (match decs s2 r with
      | none => none
      | some (l2, r2) => some (l ++ l2, r2))) := by
  induction s1 with
  | nil => intro b; simp only [List.nil_append, decs]; split <;> simp_all
  | cons c cs ih =>
    intro b
    simp only [List.cons_append, decs]
    cases decV c b with
    | none => rfl
    | some p =>
      obtain ⟨v, r⟩ := p
      simp only [ih r]
      cases decs cs r with
      | none => rfl
      | some q =>
        obtain ⟨l, r'⟩ := q
        simp only
        cases decs s2 r' with
        | none => rfl
        | some q2 => rfl
theorem decs_one (c : UInt8) (b : List UInt8) : decs [c] b = (match decV c b with | none => none | some (v, r) => some ([v], r)) := by
  simp only [decs]
  cases decV c b with
  | none => rfl
  | some p => rfl
theorem RD.grown {w w' : World} {B rb : Nat} {bs : List UInt8} (h : RD w B rb bs) {G : Option Nat} (hg : w.grownBy w' G) (hne : ∀ g, G = some g → rb < g) : RD w' B rb bs := by
  have hlt := h.lt
  obtain ⟨h1, A, n, c, hcb, hbr⟩ := h
  exact ⟨h1, A, n, c, hcb.same (hg.block _ hlt (fun e => by have := hne _ e.symm; omega)), hbr.grown hg (by omega) (fun g e => by have := hne _ e; omega)⟩
theorem decs_snoc {sh b : List UInt8} {k : Nat} {c : UInt8} {l : List CV} {r r' : List UInt8} {v : CV} (hc : sh[k]? = some c) (h : decs (sh.take k) b = some (l, r)) (hv : decV c r = some (v, r')) : decs (sh.take (k + 1)) b = some (l ++ [v], r') := by
  obtain ⟨h1, rfl⟩ := List.getElem?_eq_some_iff.1 hc
  rw [List.take_succ_eq_append_getElem h1, decs_append, h]
  simp only [decs_one, hv]
theorem decs_stop {sh b : List UInt8} {k : Nat} {c : UInt8} {l : List CV} {r : List UInt8} (hc : sh[k]? = some c) (h : decs (sh.take k) b = some (l, r)) (hv : decV c r = none) : decs sh b = none := by
  obtain ⟨h1, rfl⟩ := List.getElem?_eq_some_iff.1 hc
  have : sh = sh.take k ++ ([sh[k]] ++ sh.drop (k + 1)) := by
    conv => lhs; rw [← List.take_append_drop k sh, List.drop_eq_getElem_cons h1]
    rfl
  rw [this, decs_append, h]
  simp only [List.singleton_append, decs, hv]
theorem decV_ok {c : UInt8} {b r : List UInt8} {v : CV} (h : decV c b = some (v, r)) : v.n < 18446744073709551616 ∧ v.s.size ≤ 2000 := by
  obtain ⟨_, hf⟩ := enc_decV c b v r h
  refine ⟨?_, fitB_size hf⟩
  unfold fitB at hf
  split at hf
  · simp only [Bool.and_eq_true, beq_iff_eq] at hf
    rw [hf.1]
    decide
  · simp only [Bool.and_eq_true, decide_eq_true_eq] at hf
    have h2 : 256 ^ wd c ≤ 256 ^ 8 := Nat.pow_le_pow_right (by omega) (wd_le c)
    exact Nat.lt_of_lt_of_le hf.2 h2

/-- A call gave values and a number back. -/
def DPost (w : World) (l : List CV) (k : Nat) (e : Ending) (w' : World) : Prop :=
  ∃ A c, e = .returned (.tuple #[.slice A l.length c, .int .i64 (k : Int)]) ∧ VR w' A l ∧ okV l ∧ Below w.heap.size w w'
theorem dpost_nil {w w' : World} {sh b : List UInt8} {k : Nat} (h1 : eD sh b = k) (h2 : lD sh b = []) (hb : Below w.heap.size w w') : DPost w (lD sh b) (eD sh b) (.returned (.tuple #[.slice none 0 0, .int .i64 (k : Int)])) w' := by
  rw [h1, h2]
  exact ⟨none, 0, rfl, fun i v hv => by simp at hv, fun v hv => by simp at hv, hb⟩
theorem eD_no {sh b : List UInt8} (hp : properB sh = true) (h : okD sh b = none) : eD sh b = 4 ∧ lD sh b = [] := by
  unfold eD lD
  rw [hp, h]
  exact ⟨rfl, rfl⟩
theorem eD_yes {sh b : List UInt8} {l : List CV} (hp : properB sh = true) (h : okD sh b = some l) : eD sh b = 0 ∧ lD sh b = l := by
  unfold eD lD
  rw [hp, h]
  exact ⟨rfl, rfl⟩
theorem eD_bad {sh b : List UInt8} (hp : properB sh = false) : eD sh b = 2 ∧ lD sh b = [] := by
  unfold eD lD
  rw [hp]
  exact ⟨rfl, rfl⟩

theorem Try.infoV : (Try.prog.info? 96).map (fun i => (i.zero, i.size, i.bytes)) = some (some (.agg #[.int .u64 0, .string ⟨#[]⟩]), 2, 24) := by kernel_rfl
theorem src2 (w : World) (t : TypeId) (v : CV) : Src (w.alloc (.cells #[.int .u64 v.n, .string v.s] t)) 2 (some ⟨w.heap.size, 0, none⟩) 1 (vc [v]) := by
  refine ⟨rfl, fun _ => ⟨_, rfl, fun j u hj => ?_⟩⟩
  have hcb := CB.new w t #[.int .u64 v.n, .string v.s]
  rw [Addr.add_lit, Nat.zero_add, hcb.cell j]
  rw [← hj]
  simp [vc]

set_option maxRecDepth 100000 in
set_option maxHeartbeats 1000000 in
theorem decode_c (s : ByteArray) (A : Option Addr) (n cap : Nat) (bs : List UInt8) (w : World) (hs : s.size ≤ maxLen) (hb : BR w w.heap.size A n cap bs) :
    Calls Try.prog 34 #[.string s, .slice A n cap] w (DPost w (lD (bl s) bs) (eD (bl s) bs)) := by
  have hs0 := hs
  unfold maxLen at hs
  have hbl := bl_length s
  have hbn := hb.1
  have hcm : n ≤ 9223372036854775807 := by have h1 := hb.2.1; have h2 := hb.2.2.1; simp only [maxLen] at h2; omega
  by_cases hp : properB (bl s) = false
  · have H := Lib.hid (dpost_nil (w := w) (w' := w) (eD_bad (b := bs) hp).1 (eD_bad (b := bs) hp).2 (Below.refl _ _))
    have Hp := Lib.hid hp
    clear hp hbl
    go_enter Try.func34, Try.ntmps34
    go_wp2_with fail
    refine (proper_c s _ hs0).mono ?_
    rintro e w' ⟨rfl, rfl⟩
    rw [Hp.out]
    go_wp2_with fail
    go_ret2
    exact H.out
  have hp' : properB (bl s) = true := by simpa using hp
  have hp100 : s.size ≤ 100 := by
    unfold properB at hp'
    simp only [Bool.and_eq_true, decide_eq_true_eq] at hp'
    omega
  have Hp := Lib.hid hp'
  clear hp hp'
  by_cases hbig : (4000 : Int) < (n : Int)
  · have hno := eD_no (b := bs) Hp.out (by unfold okD; rw [if_neg (by omega)])
    have H := Lib.hid (dpost_nil (w := w) (w' := w) hno.1 hno.2 (Below.refl _ _))
    clear hno hbn hbl
    go_enter Try.func34, Try.ntmps34
    go_wp2_with fail
    refine (proper_c s _ hs0).mono ?_
    rintro e w' ⟨rfl, rfl⟩
    rw [Hp.out]
    go_wp2_with fail
    go_ret2
    exact H.out
  have Hb4 := Lib.hid (show bs.length ≤ 4000 by omega)
  have Hbl := Lib.hid hbl
  obtain ⟨i0, hi0, hz0, hz1, hz2⟩ := info_parts Try.infoV
  have hrd : RD (w.alloc (.cells #[.slice A n cap] 122)) w.heap.size w.heap.size bs := ⟨Nat.le_refl _, A, n, cap, CB.new _ _ _, hb.below ((Below.refl _ w).alloc (Nat.le_refl _) _) (Nat.le_refl _)⟩
  obtain ⟨w1, hrun, hseg1, hg1⟩ := run_make_seg (P := Try.prog) (w.alloc (.cells #[.slice A n cap] 122)) 81 96 i0 _ 2 Try.underlying81 hi0 hz0 hz1 s.size (by rw [hz2]; omega) hs0
  have hb01 : Below w.heap.size w w1 := ((Below.refl _ w).alloc (Nat.le_refl _) _).trans (grown_below hg1 (by simp) (fun g e => by cases e))
  have hrd1 : RD w1 w.heap.size w.heap.size bs := hrd.below (grown_below hg1 (Nat.le_refl _) (fun g e => by cases e)) (Nat.le_refl _)
  rw [show (w.alloc (.cells #[.slice A n cap] 122)).heap.size = w.heap.size + 1 by simp] at hseg1 hrun
  have Hi := Lib.hid hi0
  have Hz := Lib.hid hz0
  have Hz1 := Lib.hid hz1
  have Hz2 := Lib.hid hz2
  clear hi0 hz0 hz1 hz2 hbl hbn hb hrd hg1
  go_enter Try.func34, Try.ntmps34
  go_wp2_with fail
  refine (proper_c s _ hs0).mono ?_
  rintro e w' ⟨rfl, rfl⟩
  rw [Hp.out]
  go_wp2_with fail
  clear hrun
  go_loopw [7, 25] (fun b i wr => ∃ (k : Nat) (A' : Option Addr) (n' c' : Nat) (G' : Option Nat) (l : List CV) (r : List UInt8), k ≤ s.size ∧ i = .int .i64 k ∧ b = .slice A' n' c' ∧ n' ≤ k ∧ Seg wr 96 2 A' n' c' (vc l) G' ∧ (∀ g, G' = some g → w.heap.size < g) ∧ RD wr w.heap.size w.heap.size r ∧ Hid (decs ((bl s).take k) bs = some (l, r)) ∧ okV l ∧ Below w.heap.size w wr) (fun _ i _ => s.size - (intOf i).toNat)
  case atStart => exact ⟨0, _, 0, _, _, [], bs, by omega, rfl, rfl, by omega, by simpa [vc] using hseg1, (fun g e => by cases e; omega), hrd1, rfl, (fun v hv => by simp at hv), hb01⟩
  case round =>
    clear hseg1 hrd1 hb01
    obtain ⟨k, A', n', c', G', l, r, hk, rfl, rfl, hn', hs', hG', hrd, Hd, hok, hbw⟩ := hrel
    by_cases hlt : k < s.size
    · have Hg := Lib.hid (bl_get s k hlt)
      go_wp2_with fail
      refine (value_any w.heap.size w.heap.size s[k] r _ hrd).mono ?_
      rintro e w2 ⟨v, ok, r2, hS, rfl, hr2, hg2⟩
      have hb2 : Below w.heap.size w w2 := hbw.trans (grown_below hg2 hbw.size (fun g e => by cases e; exact Nat.le_refl _))
      have hsz2 := hg2.size
      rcases hS with ⟨rfl, hv⟩ | ⟨rfl, hv⟩
      · have hs2 := hs'.keep (w' := w2) (fun g hg => hg2.block g (hs'.lt g hg) (by have := hG' g hg; simp; omega))
        obtain ⟨v1, v2⟩ := decV_ok hv
        have Hd2 := Lib.hid (decs_snoc Hg.out Hd.out hv)
        have hok2 := hok.snoc v1 (v := v) (by simp only [maxLen]; omega)
        have hs3 := (hs2.alloc (.cells #[.int .u64 v.n, .string v.s] 96)).alloc (.cells #[.int .u64 v.n, .string v.s] 96)
        have hr3 := (hr2.alloc (.cells #[.int .u64 v.n, .string v.s] 96)).alloc (.cells #[.int .u64 v.n, .string v.s] 96)
        have hb3 := (hb2.alloc hb2.size (.cells #[.int .u64 v.n, .string v.s] 96)).alloc (by simp; have := hb2.size; omega) (.cells #[.int .u64 v.n, .string v.s] 96)
        have hsrc := src2 (w2.alloc (.cells #[.int .u64 v.n, .string v.s] 96)) 96 v
        rw [show (w2.alloc (.cells #[.int .u64 v.n, .string v.s] 96)).heap.size = w2.heap.size + 1 by simp] at hsrc
        have p1 : n' + 1 ≤ maxLen := by simp only [maxLen]; omega
        have p2 : (n' + 1) * 24 ≤ 140737488355328 := by omega
        have p4 : 0 < 2 := by omega
        clear hv hs' hs2 hr2 hb2 hg2 hrd Hd hok hbw Hg
        go_wp2_with (at_builtin; refine wpList_append_src _ rfl (.tmp 38) (.tmp 40) _ rfl 96 i0 _ 2 24 Try.underlying81 Hi.out Hz.out Hz1.out Hz2.out rfl p4 rfl hs3 rfl hsrc (vc_one _) p1 p2 ?_)
        intro A6 c6 G6 w6 hs6 hg6 hm6
        rw [← vc_append] at hs6
        have hr6 := hr3.grown hg6 hG'
        have hb6 : Below w.heap.size w w6 := hb3.trans (grown_below hg6 hb3.size (fun g e => by have := hG' g e; omega))
        have hG6 : ∀ g, G6 = some g → w.heap.size < g := by
          have z : w.heap.size + 1 ≤ ((w2.alloc (.cells #[.int .u64 v.n, .string v.s] 96)).alloc (.cells #[.int .u64 v.n, .string v.s] 96)).heap.size := by have := hr3.lt; omega
          intro g e
          have := Moved.ge hm6 z (fun g e => hG' g e) g e
          omega
        clear hs3 hr3 hb3 hg6 hm6 hG' hsrc p1 p2
        go_wp2_with fail
        go_roundw
        case rel => exact ⟨k + 1, A6, n' + 1, c6, G6, l ++ [v], r2, by omega, by go_num, rfl, by omega, hs6, hG6, hr6, Hd2, hok2, hb6⟩
        case measure => simp [intOf]; omega
      · have hno := eD_no (b := bs) Hp.out (by unfold okD; rw [if_pos Hb4.out, decs_stop Hg.out Hd.out hv])
        have H := Lib.hid (dpost_nil (w := w) (w' := w2.alloc (.cells #[.int .u64 v.n, .string v.s] 96)) hno.1 hno.2 (hb2.alloc hb2.size _))
        clear hno hv hs' hr2 hb2 hg2 hrd Hd hok hbw Hg
        go_wp2_with fail
        go_ret2
        exact H.out
    · obtain rfl : k = s.size := by omega
      rw [List.take_of_length_le (by rw [Hbl.out]; exact Nat.le_refl _)] at Hd
      obtain ⟨hz, Ar, nr, cr, hcbr, hbr⟩ := hrd
      have c0 := hcbr.cell 0
      simp at c0
      have hrl := hbr.1
      have hrm : nr ≤ 9223372036854775807 := by have h1 := hbr.2.1; have h2 := hbr.2.2.1; simp only [maxLen] at h2; omega
      by_cases hr0 : nr = 0
      · subst hr0
        obtain rfl : r = [] := List.eq_nil_of_length_eq_zero hrl
        have hyes := eD_yes (b := bs) (l := l) Hp.out (by unfold okD; rw [if_pos Hb4.out, Hd.out])
        have H := Lib.hid (show DPost w (lD (bl s) bs) (eD (bl s) bs) (.returned (.tuple #[.slice A' n' c', .int .i64 ((0 : Nat) : Int)])) wr by
          rw [hyes.1, hyes.2]
          obtain ⟨h1, h2⟩ := VR.of_seg hs' hok
          subst h1
          exact ⟨A', c', rfl, h2, hok, hbw⟩)
        clear hyes hs' hbr hcbr hrl hok hbw Hd
        go_wp2_with fail
        go_ret2
        exact H.out
      · have hno := eD_no (b := bs) Hp.out (by
          unfold okD
          rw [if_pos Hb4.out, Hd.out]
          cases r with
          | nil => exact absurd hrl.symm hr0
          | cons a q => rfl)
        have H := Lib.hid (dpost_nil (w := w) (w' := wr) hno.1 hno.2 hbw)
        have hr1 : (0 : Int) < (nr : Int) := by omega
        clear hno hs' hbr hcbr hrl hok hbw Hd hr0
        go_wp2_with fail
        go_ret2
        exact H.out
end Go.Proofs.Ytfdboahcaiolgaa.Dk

/-
  value and Decode of the document's answer for layer 2. Conditions: the shape is such as memory can hold, the bytes can be read.
-/
namespace Go.Proofs.Ytfdboahcaiolgaa.Dk
set_option maxRecDepth 100000
open Go.RowKit

theorem val_next {bs : List UInt8} {a j : Nat} {b : UInt8} (hb : bs[a + j]? = some b) : val ((bs.drop a).take (j + 1)) = val ((bs.drop a).take j) * 256 + b.toNat := by
  have h : (bs.drop a)[j]? = some b := by rw [List.getElem?_drop]; exact hb
  obtain ⟨h1, h2⟩ := List.getElem?_eq_some_iff.1 h
  rw [List.take_succ_eq_append_getElem h1, val_snoc, h2]

set_option maxHeartbeats 400000 in
theorem value_r (B : Nat) (A : Option Addr) (n c : Nat) (bs : List UInt8) (a k : Nat) (w : World) (hb : BR w B A n c bs) (hk : k ≤ 8) (ha : a ≤ 1000000000) :
    Calls Try.prog 63 #[.slice A n c, .int .i64 a, .int .i64 k] w fun e w' => e = .returned (.int .u64 ((val ((bs.drop a).take k) : Nat) : Int)) ∧ w = w' := by
  have hbn := Lib.hid hb.1
  have hnm : n ≤ 9223372036854775807 := by have h1 := hb.2.1; have h2 := hb.2.2.1; simp only [maxLen] at h2; omega
  obtain ⟨q0, Hq0⟩ : ∃ q0, Hid (val ((bs.drop a).take k) = q0) := ⟨_, rfl⟩
  rw [Hq0.out]
  go_enter Try.func63, Try.ntmps63
  go_wp2
  go_loop [7, 8] (fun m i => ∃ j q : Nat, j ≤ k ∧ i = .int .i64 ((a + j : Nat) : Int) ∧ m = .int .u64 q ∧ Hid (q = val ((bs.drop a).take j))) (fun _ i => a + k - (intOf i).toNat)
  case atStart => exact ⟨0, 0, by omega, by simp, rfl, rfl⟩
  case round =>
    obtain ⟨j, q, hj, rfl, rfl, Hq⟩ := hrel
    by_cases hjk : j < k
    · by_cases hlt : a + j < n
      · obtain ⟨g, off, b, rfl, hgB, Hb, cb⟩ := hb.at_ hlt
        have HV := Lib.hid (val_next Hb.out)
        have h64 := val_lt64 ((bs.drop a).take (j + 1)) (by rw [List.length_take]; omega)
        have hq64 : q * 256 + b.toNat < 18446744073709551616 := by rw [Hq.out, ← HV.out]; exact h64
        have hb8 : b.toNat < 256 := b.toNat_lt
        clear h64
        have hlt1 : ((a + j : Nat) : Int) < ((a + k : Nat) : Int) := by omega
        have hlt2 : ((a + j : Nat) : Int) < (n : Int) := by omega
        go_wp2_with fail
        go_round
        case rel => exact ⟨j + 1, q * 256 + b.toNat, by omega, by go_num, by go_num, show _ = _ by rw [HV.out, Hq.out]⟩
        case measure => simp [intOf]; omega
      · have hlt1 : ((a + j : Nat) : Int) < ((a + k : Nat) : Int) := by omega
        have hlt2 : ¬ ((a + j : Nat) : Int) < (n : Int) := by omega
        have HQ := Lib.hid (show q = q0 by
          rw [Hq.out, ← Hq0.out, List.take_of_length_le (by rw [List.length_drop, hbn.out]; omega), List.take_of_length_le (by rw [List.length_drop, hbn.out]; omega)])
        rw [HQ.out]
        go_wp2_with fail
        go_ret
        exact ⟨rfl, rfl⟩
    · obtain rfl : j = k := by omega
      have HQ := Lib.hid (show q = q0 by rw [Hq.out, ← Hq0.out])
      rw [HQ.out]
      go_wp2_with fail
      go_ret
      exact ⟨rfl, rfl⟩

def lenR : List UInt8 → List UInt8 → List UInt8
  | [], b => b
  | c :: cs, b => lenR cs (lenV c b).2
theorem lens_append (s1 s2 : List UInt8) : ∀ b, lens (s1 ++ s2) b = lens s1 b ++ lens s2 (lenR s1 b) := by
  induction s1 with
  | nil => intro b; rfl
  | cons c cs ih => intro b; simp only [List.cons_append, lens, lenR, ih]
theorem lenR_append (s1 s2 : List UInt8) : ∀ b, lenR (s1 ++ s2) b = lenR s2 (lenR s1 b) := by
  induction s1 with
  | nil => intro b; rfl
  | cons c cs ih => intro b; simp only [List.cons_append, lenR, ih]
theorem lens_snoc {sh bs : List UInt8} {k a : Nat} {c : UInt8} {l : List CV} {v : CV} {r : List UInt8} (hc : sh[k]? = some c) (h1 : lens (sh.take k) bs = l) (h2 : lenR (sh.take k) bs = bs.drop a) (hv : lenV c (bs.drop a) = (v, r)) :
    lens (sh.take (k + 1)) bs = l ++ [v] ∧ lenR (sh.take (k + 1)) bs = r := by
  obtain ⟨h3, rfl⟩ := List.getElem?_eq_some_iff.1 hc
  rw [List.take_succ_eq_append_getElem h3, lens_append, lenR_append, h1, h2]
  simp only [lens, lenR, hv, and_self]

theorem sub_br {w : World} {B : Nat} {A : Option Addr} {n c : Nat} {bs : List UInt8} (h : BR w B A n c bs) (lo hi : Nat) (h1 : lo ≤ hi) (h2 : hi ≤ n) :
    ∃ A1 m c1, (∀ W, (Instr.slice 77 (.slice A n c) (some (.int .i64 lo)) (some (.int .i64 hi)) none).run Try.prog W = .ok (.slice A1 m c1) W) ∧ (convert 77 9 (.slice A1 m c1)).run Try.prog w = .ok (.string (mkS ((bs.drop lo).take (hi - lo)))) w := by
  have hnc := h.2.1
  exact ⟨_, _, _, fun W => run_cut_both (P := Try.prog) 77 5 Try.underlying77 1 Try.sizeB A n c lo hi h1 (by omega) W, conv_br ((h.cut (k := lo) (by omega)).upto (k := hi - lo) (by omega))⟩
theorem sub_eq {bs : List UInt8} {n a q F H : Nat} (hn : bs.length = n) (hF : F = min (a + 2) n) (hH : H = min (F + q) n) : (bs.drop F).take (H - F) = ((bs.drop a).drop 2).take q := by
  rw [List.drop_drop]
  by_cases h : a + 2 ≤ n
  · obtain rfl : F = a + 2 := by omega
    by_cases h2 : a + 2 + q ≤ n
    · rw [show H - (a + 2) = q by omega]
    · rw [List.take_of_length_le (by rw [List.length_drop]; omega), List.take_of_length_le (by rw [List.length_drop]; omega)]
  · obtain rfl : F = n := by omega
    rw [List.drop_eq_nil_of_le (by omega), List.drop_eq_nil_of_le (by omega)]
    simp

theorem Try.infoW : (Try.prog.info? 87).map (fun i => (i.zero, i.size, i.bytes)) = some (some (.agg #[.int .u64 0, .string ⟨#[]⟩]), 2, 24) := by kernel_rfl

set_option maxRecDepth 100000 in
set_option maxHeartbeats 1000000 in
theorem decode_r (s : ByteArray) (A : Option Addr) (n cap : Nat) (bs : List UInt8) (w : World) (hs : s.size ≤ maxLen) (hb : BR w w.heap.size A n cap bs) (hn5 : n ≤ 5000) :
    Calls Try.prog 37 #[.string s, .slice A n cap] w (DPost w (lD (bl s) bs) (eD (bl s) bs)) := by
  have hs0 := hs
  unfold maxLen at hs
  have hbl := bl_length s
  have hbn := hb.1
  by_cases hp : properB (bl s) = false
  · have H := Lib.hid (dpost_nil (w := w) (w' := w) (eD_bad (b := bs) hp).1 (eD_bad (b := bs) hp).2 (Below.refl _ _))
    have Hp := Lib.hid hp
    clear hp hbl
    go_enter Try.func37, Try.ntmps37
    go_wp2_with fail
    refine (shape_r s _ hs0).mono ?_
    rintro e w' ⟨rfl, rfl⟩
    rw [Hp.out]
    go_wp2_with fail
    go_ret2
    exact H.out
  have hp' : properB (bl s) = true := by simpa using hp
  have hp100 : s.size ≤ 100 := by
    unfold properB at hp'
    simp only [Bool.and_eq_true, decide_eq_true_eq] at hp'
    omega
  have Hp := Lib.hid hp'
  have hlet : ∀ (k : Nat) (c : UInt8), (bl s)[k]? = some c → 0 < wd c := by
    intro k c hc
    unfold properB at hp'
    simp only [Bool.and_eq_true] at hp'
    have := List.all_eq_true.1 hp'.2 c (List.mem_of_getElem? hc)
    unfold letB at this
    simp only [bne_iff_ne] at this
    omega
  clear hp hp'
  have Hbl := Lib.hid hbl
  have Hlet := Lib.hid hlet
  have Hbn := Lib.hid hbn
  obtain ⟨i0, hi0, hz0, hz1, hz2⟩ := info_parts Try.infoW
  have Hi := Lib.hid hi0
  have Hz := Lib.hid hz0
  have Hz1 := Lib.hid hz1
  have Hz2 := Lib.hid hz2
  clear hi0 hz0 hz1 hz2 hbl hbn hlet
  go_enter Try.func37, Try.ntmps37
  go_wp2_with fail
  refine (shape_r s _ hs0).mono ?_
  rintro e w' ⟨rfl, rfl⟩
  rw [Hp.out]
  go_wp2_with fail
  go_loopw [6, 7, 8] (fun b at_ i wr => ∃ (k a : Nat) (A' : Option Addr) (n' c' : Nat) (G' : Option Nat) (l : List CV), k ≤ s.size ∧ i = .int .i64 k ∧ at_ = .int .i64 a ∧ a ≤ 70000 * k ∧ b = .slice A' n' c' ∧ n' ≤ k ∧ Seg wr 87 2 A' n' c' (vc l) G' ∧ (∀ g, G' = some g → w.heap.size ≤ g) ∧ Hid (lens ((bl s).take k) bs = l) ∧ Hid (lenR ((bl s).take k) bs = bs.drop a) ∧ okV l ∧ Below w.heap.size w wr) (fun _ _ i _ => s.size - (intOf i).toNat)
  case atStart => exact ⟨0, 0, none, 0, 0, none, [], by omega, rfl, rfl, by omega, rfl, by omega, by simpa [vc] using Seg.nil w _ _, (fun g e => by cases e), rfl, rfl, (fun v hv => by simp at hv), Below.refl _ _⟩
  case round =>
    obtain ⟨k, a, A', n', c', G', l, hk, rfl, rfl, ha, rfl, hn', hs', hG', Hl, Hr, hok, hbw⟩ := hrel
    have hbr := hb.below hbw (Nat.le_refl _)
    by_cases hlt : k < s.size
    · have Hg := Lib.hid (bl_get s k hlt)
      have p1 : n' + 1 ≤ maxLen := by simp only [maxLen]; omega
      have p2 : (n' + 1) * 24 ≤ 140737488355328 := by omega
      have p4 : 0 < 2 := by omega
      have hw0 := Hlet.out k _ Hg.out
      by_cases hc : s[k] = 116
      · have Hw := Lib.hid (show wrf s[k] = 0 by rw [hc]; rfl)
        have HL := Lib.hid (show lenV s[k] (bs.drop a) = (⟨0, mkS (((bs.drop a).drop 2).take (val ((bs.drop a).take 2)))⟩, (bs.drop a).drop (2 + val ((bs.drop a).take 2))) from if_pos hc)
        clear hc
        obtain ⟨q, Hq⟩ : ∃ q, Hid (val ((bs.drop a).take 2) = q) := ⟨_, rfl⟩
        have hq : q < 65536 := by
          have h1 := val_lt ((bs.drop a).take 2)
          have h2 : 256 ^ ((bs.drop a).take 2).length ≤ 256 ^ 2 := Nat.pow_le_pow_right (by omega) (by rw [List.length_take]; omega)
          rw [Hq.out] at h1
          omega
        rw [Hq.out] at HL
        obtain ⟨tx, Htx⟩ : ∃ tx, Hid (((bs.drop a).drop 2).take q = tx) := ⟨_, rfl⟩
        rw [Htx.out] at HL
        have htl : tx.length < 65536 := by
          rw [← Htx.out, List.length_take]
          omega
        have hok2 := hok.snoc (v := ⟨0, mkS tx⟩) (show (0 : Nat) < 18446744073709551616 by decide) (by rw [mkS_size]; simp only [maxLen]; omega)
        have HL2 := Lib.hid (lens_snoc Hg.out Hl.out Hr.out HL.out)
        rw [List.drop_drop] at HL2
        have hs3 := hs'.alloc (.cells #[.int .u64 0, .string (mkS tx)] 87)
        have hsrc : Src (wr.alloc (.cells #[.int .u64 0, .string (mkS tx)] 87)) 2 _ 1 _ := src2 wr 87 ⟨0, mkS tx⟩
        have hb3 := hbw.alloc hbw.size (.cells #[.int .u64 0, .string (mkS tx)] 87)
        go_wp2_with fail
        refine (width_r s[k] _).mono ?_
        rintro e w' ⟨rfl, rfl⟩
        rw [Hw.out]
        go_wp2_with fail
        refine (value_r _ _ _ _ bs a 2 _ hbr (by omega) (by omega)).mono ?_
        rintro e w' ⟨rfl, rfl⟩
        rw [Hq.out]
        by_cases hn1 : (n : Int) < (a : Int) + 2
        · by_cases hq0 : q = 0
          · have hq1 : ¬ (n : Int) < (n : Int) + (q : Int) := by omega
            obtain ⟨A1, m1, c1, hcut, hcv⟩ := sub_br hbr (n) (n + q) (by omega) (by omega)
            rw [sub_eq (q := q) (a := a) Hbn.out (by omega) (by omega), Htx.out] at hcv
            rw [show ((n + q : Nat) : Int) = (n : Int) + (q : Int) by omega] at hcut
            clear hq0
            go_wp2_with (at_builtin; refine wpList_append_src _ rfl (.tmp 49) (.tmp 61) _ rfl 87 i0 _ 2 24 Try.underlying84 Hi.out Hz.out Hz1.out Hz2.out rfl p4 rfl hs3 rfl hsrc (vc_one _) p1 p2 ?_)
            intro A6 c6 G6 w6 hs6 hg6 hm6
            rw [← vc_append] at hs6
            have hb6 : Below w.heap.size w w6 := hb3.trans (grown_below hg6 hb3.size hG')
            have hG6 := Moved.ge hm6 hb3.size hG'
            clear hs3 hsrc hb3 hg6 hm6 hbr hs' hG' hbw Hl Hr hok hcut hcv
            go_wp2_with fail
            go_roundw
            case rel => exact ⟨k + 1, a + (2 + q), A6, n' + 1, c6, G6, l ++ [⟨0, mkS tx⟩], by omega, by go_num, by go_num, by omega, rfl, by omega, hs6, hG6, Lib.hid HL2.out.1, Lib.hid HL2.out.2, hok2, hb6⟩
            case measure => simp [intOf]; omega
          · have hq1 : (n : Int) < (n : Int) + (q : Int) := by omega
            obtain ⟨A1, m1, c1, hcut, hcv⟩ := sub_br hbr (n) (n) (by omega) (by omega)
            rw [sub_eq (q := q) (a := a) Hbn.out (by omega) (by omega), Htx.out] at hcv
            go_wp2_with (at_builtin; refine wpList_append_src _ rfl (.tmp 49) (.tmp 61) _ rfl 87 i0 _ 2 24 Try.underlying84 Hi.out Hz.out Hz1.out Hz2.out rfl p4 rfl hs3 rfl hsrc (vc_one _) p1 p2 ?_)
            intro A6 c6 G6 w6 hs6 hg6 hm6
            rw [← vc_append] at hs6
            have hb6 : Below w.heap.size w w6 := hb3.trans (grown_below hg6 hb3.size hG')
            have hG6 := Moved.ge hm6 hb3.size hG'
            clear hs3 hsrc hb3 hg6 hm6 hbr hs' hG' hbw Hl Hr hok hcut hcv
            go_wp2_with fail
            go_roundw
            case rel => exact ⟨k + 1, a + (2 + q), A6, n' + 1, c6, G6, l ++ [⟨0, mkS tx⟩], by omega, by go_num, by go_num, by omega, rfl, by omega, hs6, hG6, Lib.hid HL2.out.1, Lib.hid HL2.out.2, hok2, hb6⟩
            case measure => simp [intOf]; omega
        · by_cases hn2 : (n : Int) < (a : Int) + 2 + (q : Int)
          · have hz : 0 = 0 := rfl
            obtain ⟨A1, m1, c1, hcut, hcv⟩ := sub_br hbr (a + 2) (n) (by omega) (by omega)
            rw [sub_eq (q := q) (a := a) Hbn.out (by omega) (by omega), Htx.out] at hcv
            rw [show ((a + 2 : Nat) : Int) = (a : Int) + 2 by omega] at hcut
            go_wp2_with (at_builtin; refine wpList_append_src _ rfl (.tmp 49) (.tmp 61) _ rfl 87 i0 _ 2 24 Try.underlying84 Hi.out Hz.out Hz1.out Hz2.out rfl p4 rfl hs3 rfl hsrc (vc_one _) p1 p2 ?_)
            intro A6 c6 G6 w6 hs6 hg6 hm6
            rw [← vc_append] at hs6
            have hb6 : Below w.heap.size w w6 := hb3.trans (grown_below hg6 hb3.size hG')
            have hG6 := Moved.ge hm6 hb3.size hG'
            clear hs3 hsrc hb3 hg6 hm6 hbr hs' hG' hbw Hl Hr hok hcut hcv
            go_wp2_with fail
            go_roundw
            case rel => exact ⟨k + 1, a + (2 + q), A6, n' + 1, c6, G6, l ++ [⟨0, mkS tx⟩], by omega, by go_num, by go_num, by omega, rfl, by omega, hs6, hG6, Lib.hid HL2.out.1, Lib.hid HL2.out.2, hok2, hb6⟩
            case measure => simp [intOf]; omega
          · have hz : 0 = 0 := rfl
            obtain ⟨A1, m1, c1, hcut, hcv⟩ := sub_br hbr (a + 2) (a + 2 + q) (by omega) (by omega)
            rw [sub_eq (q := q) (a := a) Hbn.out (by omega) (by omega), Htx.out] at hcv
            rw [show ((a + 2 : Nat) : Int) = (a : Int) + 2 by omega, show ((a + 2 + q : Nat) : Int) = (a : Int) + 2 + (q : Int) by omega] at hcut
            go_wp2_with (at_builtin; refine wpList_append_src _ rfl (.tmp 49) (.tmp 61) _ rfl 87 i0 _ 2 24 Try.underlying84 Hi.out Hz.out Hz1.out Hz2.out rfl p4 rfl hs3 rfl hsrc (vc_one _) p1 p2 ?_)
            intro A6 c6 G6 w6 hs6 hg6 hm6
            rw [← vc_append] at hs6
            have hb6 : Below w.heap.size w w6 := hb3.trans (grown_below hg6 hb3.size hG')
            have hG6 := Moved.ge hm6 hb3.size hG'
            clear hs3 hsrc hb3 hg6 hm6 hbr hs' hG' hbw Hl Hr hok hcut hcv
            go_wp2_with fail
            go_roundw
            case rel => exact ⟨k + 1, a + (2 + q), A6, n' + 1, c6, G6, l ++ [⟨0, mkS tx⟩], by omega, by go_num, by go_num, by omega, rfl, by omega, hs6, hG6, Lib.hid HL2.out.1, Lib.hid HL2.out.2, hok2, hb6⟩
            case measure => simp [intOf]; omega
      · have Hw := Lib.hid (wr_ne hc)
        have HL := Lib.hid (show lenV s[k] (bs.drop a) = (⟨val ((bs.drop a).take (wd s[k])), mkS []⟩, (bs.drop a).drop (wd s[k])) from if_neg hc)
        have hw8 := wd_le s[k]
        clear hc
        obtain ⟨q, Hq⟩ : ∃ q, Hid (val ((bs.drop a).take (wd s[k])) = q) := ⟨_, Lib.hid rfl⟩
        have hq : q < 18446744073709551616 := by rw [← Hq.out]; exact val_lt64 _ (by rw [List.length_take]; omega)
        rw [Hq.out] at HL
        have hok2 := hok.snoc (v := ⟨q, mkS []⟩) hq (by rw [mkS_size]; exact Nat.zero_le _)
        have HL2 := Lib.hid (lens_snoc Hg.out Hl.out Hr.out HL.out)
        rw [List.drop_drop] at HL2
        go_wp2_with fail
        refine (width_r s[k] _).mono ?_
        rintro e w' ⟨rfl, rfl⟩
        rw [Hw.out]
        have hw0' : (0 : Int) < (wd s[k] : Int) := by omega
        go_wp2_with fail
        refine (value_r _ _ _ _ bs a (wd s[k]) _ hbr hw8 (by omega)).mono ?_
        rintro e w' ⟨rfl, rfl⟩
        rw [Hq.out]
        have hs3 := hs'.alloc (.cells #[.int .u64 q, .string (mkS [])] 87)
        have hsrc := src2 wr 87 ⟨q, mkS []⟩
        have hb3 := hbw.alloc hbw.size (.cells #[.int .u64 q, .string (mkS [])] 87)
        go_wp2_with (at_builtin; refine wpList_append_src _ rfl (.tmp 29) (.tmp 35) _ rfl 87 i0 _ 2 24 Try.underlying84 Hi.out Hz.out Hz1.out Hz2.out rfl p4 rfl hs3 rfl hsrc (vc_one _) p1 p2 ?_)
        intro A6 c6 G6 w6 hs6 hg6 hm6
        rw [← vc_append] at hs6
        have hb6 : Below w.heap.size w w6 := hb3.trans (grown_below hg6 hb3.size hG')
        have hG6 := Moved.ge hm6 hb3.size hG'
        clear hs3 hsrc hb3 hg6 hm6 hbr hs' hG' hbw HL Hl Hr hok
        go_wp2_with fail
        go_roundw
        case rel => exact ⟨k + 1, a + wd s[k], A6, n' + 1, c6, G6, l ++ [⟨q, mkS []⟩], by omega, by go_num, by go_num, by omega, rfl, by omega, hs6, hG6, Lib.hid HL2.out.1, Lib.hid HL2.out.2, hok2, hb6⟩
        case measure => simp [intOf]; omega
    · obtain rfl : k = s.size := by omega
      rw [List.take_of_length_le (by rw [Hbl.out]; exact Nat.le_refl _)] at Hl
      obtain ⟨h1, hvr⟩ := VR.of_seg hs' hok
      have Hn := Lib.hid h1
      clear h1
      go_wp2_with fail
      rw [Hn.out]
      refine (encode_r s A' c' l _ hs0 hvr).mono ?_
      rintro e w2 ⟨A2, n2, c2, G2, rfl, hs2, hb2⟩
      have hcv1 := conv_br (BR.of_seg hs2)
      have hcv2 := conv_br (hbr.below (hb2.mono hbw.size) (Nat.le_refl _))
      have hb02 : Below w.heap.size w w2 := hbw.trans (hb2.mono hbw.size)
      have hvr2 := hvr.below hb2 (Nat.le_refl _)
      have hdl := okD_lens (bl s) bs Hp.out
      rw [Hl.out] at hdl
      by_cases he : eE (bl s) l = 0
      · have HE := Lib.hid he
        have HB := Lib.hid (show bE (bl s) l = enc (bl s) l by unfold bE; rw [if_pos he])
        rw [HB.out] at hcv1
        by_cases hbe : enc (bl s) l = bs
        · have hyes := eD_yes (b := bs) (l := l) Hp.out (by
            rcases hdl with h | h
            · exact h.2.2
            · exact absurd ⟨he, hbe⟩ h.1)
          have H := Lib.hid (show DPost w (lD (bl s) bs) (eD (bl s) bs) (.returned (.tuple #[.slice A' l.length c', .int .i64 ((0 : Nat) : Int)])) w2 by
            rw [hyes.1, hyes.2]
            exact ⟨A', c', rfl, hvr2, hok, hb02⟩)
          rw [hbe] at hcv1
          rw [he]
          have hee : ((mkS bs).toList == (mkS bs).toList) = true := beq_self_eq_true _
          clear hyes hdl he hbe hs' hvr hvr2 hb02 hb2 hs2 hok hbw HE HB hb hbr
          go_wp2_with fail
          go_ret2
          exact H.out
        · have hno := eD_no (b := bs) Hp.out (by
            rcases hdl with h | h
            · exact absurd h.2.1 hbe
            · exact h.2)
          have H := Lib.hid (dpost_nil (w := w) (w' := w2) hno.1 hno.2 hb02)
          rw [he]
          have hee : ((mkS (enc (bl s) l)).toList == (mkS bs).toList) = false := by
            rw [tl_bl, tl_bl, bl_mkS, bl_mkS, beq_eq_false_iff_ne]
            exact hbe
          generalize enc (bl s) l = en at *
          clear hno hdl he hbe hs' hvr hvr2 hb02 hb2 hs2 hok hbw HE HB hb hbr
          go_wp2_with fail
          go_ret2
          exact H.out
      · have hno := eD_no (b := bs) Hp.out (by
          rcases hdl with h | h
          · exact absurd h.1 he
          · exact h.2)
        have H := Lib.hid (dpost_nil (w := w) (w' := w2) hno.1 hno.2 hb02)
        have hee : ((eE (bl s) l : Int) != 0) = true := by rw [bne_iff_ne]; omega
        clear hno hdl he hs' hvr hvr2 hb02 hb2 hs2 hok hbw hb hbr
        go_wp2_with fail
        go_ret2
        exact H.out
end Go.Proofs.Ytfdboahcaiolgaa.Dk
