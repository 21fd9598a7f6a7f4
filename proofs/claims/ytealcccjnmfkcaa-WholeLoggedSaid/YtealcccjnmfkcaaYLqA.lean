/-
  Holds in memory; before, inRange, mayFollow and the function literals of package lock, and may of the document's answer. No condition but those that each theorem names.
-/
import Derived.Test.YtealcccjnmfkcaaRows
import Derived.Test.YtealcccjnmfkcaaLqM
import Derived.Test.YtealcccjnmfkcaaYRow
set_option linter.unusedVariables false
set_option linter.unusedSimpArgs false
namespace Go.Proofs.Ytealcccjnmfkcaa
open Go.RowKit

/-- A hold's cells. -/
def hc (x : Hd) : List Value := [.int .u8 x.k, .int .i64 x.t, .bool x.w]
instance : Nonempty (EncOk hc 3) := ⟨⟨fun _ => rfl, fun x u hu => by
  simp [hc] at hu
  rcases hu with rfl | rfl | rfl <;> rfl, by omega⟩⟩
abbrev HR (w : World) (A : Option Addr) (n c : Nat) (L : List Hd) : Prop := RR w hc 3 A n c L
abbrev HS (w : World) (T : TypeId) (A : Option Addr) (n c : Nat) (L : List Hd) : Prop := RS w T hc 3 A n c L
theorem tkK_some {L : List Hd} {k : Nat} {x : Hd} (h : L[k]? = some x) : tkK L k = x := by unfold tkK; rw [h]; rfl
theorem RR.at3 {w : World} {A : Option Addr} {n c : Nat} {L : List Hd} (h : HR w A n c L) {k : Nat} (hk : k < n) : ∃ g off, A = some ⟨g, off, none⟩ ∧ w.cell? ⟨g, off + k * 3, none⟩ = some (.int .u8 (tkK L k).k) ∧ w.cell? ⟨g, off + k * 3 + 1, none⟩ = some (.int .i64 (tkK L k).t) ∧ w.cell? ⟨g, off + k * 3 + 2, none⟩ = some (.bool (tkK L k).w) := by
  obtain ⟨g, off, x, h1, h2, h3⟩ := h.at_ hk
  rw [tkK_some h1]
  exact ⟨g, off, h2, h3 0 _ rfl, h3 1 _ rfl, h3 2 _ rfl⟩
theorem Try.infoH : (Try.prog.info? 166).map (fun i => (i.zero, i.size, i.bytes)) = some (some (.agg #[.int .u8 0, .int .i64 0, .bool false]), 3, 24) := by kernel_rfl
theorem Try.infoR : (Try.prog.info? 172).map (fun i => (i.zero, i.size, i.bytes)) = some (some (.agg #[.int .u8 0, .int .i64 0, .bool false]), 3, 24) := by kernel_rfl
theorem size_H (w : World) : (sizeOf 166).run Try.prog w = .ok 3 w := by
  obtain ⟨i0, hi0, hz0, hz1, hz2⟩ := info_parts Try.infoH
  simp [sizeOf, typeInfo, hi0, hz1]
/-- A hold as a value. -/
abbrev hv (x : Hd) : Value := .agg #[.int .u8 x.k, .int .i64 x.t, .bool x.w]
theorem bel_one (w : World) (o : Obj) : Below w.heap.size w (w.alloc o) := belA w o
theorem bel_two (w : World) (o o' : Obj) : Below w.heap.size w ((w.alloc o).alloc o') := ((Below.refl _ _).alloc (Nat.le_refl _) _).alloc (by simp) _

set_option maxHeartbeats 1000000 in
theorem before_c (a b : Hd) (w : World) : Calls Try.prog 124 #[hv a, hv b] w fun e w' => e = .returned (.bool (befB a b)) ∧ Below w.heap.size w w' := by
  have hbl : ∀ cs ds, Below w.heap.size w ((w.alloc (.cells cs 166)).alloc (.cells ds 166)) := fun _ _ => bel_two w _ _
  go_enter Try.func124, Try.ntmps124
  go_wp2_with fail
  all_goals go_ret
  all_goals refine ⟨ret_bool ?_, hbl _ _⟩
  all_goals (rw [Bool.eq_iff_iff, befB_iff]; unfold bef; simp only [decide_eq_true_eq, true_iff, Bool.false_eq_true, false_iff]; omega)

set_option maxHeartbeats 1000000 in
theorem inRange_c (a : Hd) (w : World) : Calls Try.prog 110 #[hv a] w fun e w' => e = .returned (.bool (okB a)) ∧ Below w.heap.size w w' := by
  have hbl : ∀ cs, Below w.heap.size w (w.alloc (.cells cs 166)) := fun _ => bel_one w _
  go_enter Try.func110, Try.ntmps110
  go_wp2_with fail
  all_goals go_ret
  all_goals refine ⟨ret_bool ?_, hbl _⟩
  all_goals (rw [Bool.eq_iff_iff, okB_iff]; unfold okH; simp only [decide_eq_true_eq, true_iff, Bool.false_eq_true, false_iff]; omega)

set_option maxHeartbeats 1000000 in
theorem may_c (k t : Int) (b : Bool) (w : World) : Calls Try.prog 102 #[.int .i64 t, .int .u8 k] w fun e w' => e = .returned (.bool (okB ⟨k, t, b⟩)) ∧ Below w.heap.size w w' := by
  go_enter Try.func102, Try.ntmps102
  go_wp2_with fail
  all_goals go_ret
  all_goals refine ⟨ret_bool ?_, Below.refl _ _⟩
  all_goals (rw [Bool.eq_iff_iff, okB_iff]; unfold okH; simp only [decide_eq_true_eq, true_iff, Bool.false_eq_true, false_iff]; omega)

set_option maxHeartbeats 1000000 in
theorem way_c (tx key : Int) (wr : Bool) (bk bt bw : Nat) (x : Hd) (w : World) (h1 : w.cell? ⟨bk, 0, none⟩ = some (.int .u8 key)) (h2 : w.cell? ⟨bt, 0, none⟩ = some (.int .i64 tx)) (h3 : w.cell? ⟨bw, 0, none⟩ = some (.bool wr)) :
    Calls Try.prog 113 #[hv x, .pointer (some ⟨bk, 0, none⟩), .pointer (some ⟨bt, 0, none⟩), .pointer (some ⟨bw, 0, none⟩)] w fun e w' => e = .returned (.bool (way tx key wr x)) ∧ Below w.heap.size w w' := by
  have hbl : ∀ cs, Below w.heap.size w (w.alloc (.cells cs 166)) := fun _ => bel_one w _
  have k1 := fun cs => cell_on (hbl cs) h1
  have k2 := fun cs => cell_on (hbl cs) h2
  have k3 := fun cs => cell_on (hbl cs) h3
  obtain ⟨xk, xt, xw⟩ := x
  go_enter Try.func113, Try.ntmps113
  go_wp2_with fail
  all_goals go_ret
  all_goals refine ⟨ret_bool ?_, hbl _⟩
  all_goals (unfold way; simp_all)

set_option maxHeartbeats 1000000 in
theorem isH_c (tx key : Int) (bk bt : Nat) (x : Hd) (w : World) (h1 : w.cell? ⟨bk, 0, none⟩ = some (.int .u8 key)) (h2 : w.cell? ⟨bt, 0, none⟩ = some (.int .i64 tx)) :
    Calls Try.prog 122 #[hv x, .pointer (some ⟨bk, 0, none⟩), .pointer (some ⟨bt, 0, none⟩)] w fun e w' => e = .returned (.bool (isH tx key x)) ∧ Below w.heap.size w w' := by
  have hbl : ∀ cs, Below w.heap.size w (w.alloc (.cells cs 166)) := fun _ => bel_one w _
  have k1 := fun cs => cell_on (hbl cs) h1
  have k2 := fun cs => cell_on (hbl cs) h2
  obtain ⟨xk, xt, xw⟩ := x
  go_enter Try.func122, Try.ntmps122
  go_wp2_with fail
  all_goals go_ret
  all_goals refine ⟨ret_bool ?_, hbl _⟩
  all_goals (unfold isH; first | (simp_all; done) | (simp_all; rfl))

set_option maxHeartbeats 1000000 in
theorem fol_c (a b : Hd) (w : World) : Calls Try.prog 121 #[hv a, hv b] w fun e w' => e = .returned (.bool (folB a b)) ∧ Below w.heap.size w w' := by
  obtain ⟨W, hW⟩ : ∃ W, (w.alloc (.cells #[.int .u8 a.k, .int .i64 a.t, .bool a.w] 166)).alloc (.cells #[.int .u8 b.k, .int .i64 b.t, .bool b.w] 166) = W := ⟨_, rfl⟩
  have hbW : Below w.heap.size w W := by rw [← hW]; exact bel_two w _ _
  have c1 : CB W w.heap.size 166 #[.int .u8 a.k, .int .i64 a.t, .bool a.w] := by rw [← hW]; exact (CB.new w _ _).alloc _
  have c2 : CB W (w.heap.size + 1) 166 #[.int .u8 b.k, .int .i64 b.t, .bool b.w] := by
    rw [← hW]
    have := CB.new (w.alloc (.cells #[.int .u8 a.k, .int .i64 a.t, .bool a.w] 166)) 166 #[.int .u8 b.k, .int .i64 b.t, .bool b.w]
    simpa using this
  have HW := Lib.hid hW
  clear hW
  obtain ⟨ak, at_, aw⟩ := a
  obtain ⟨bk, bt, bw⟩ := b
  simp only at c1 c2
  go_enter Try.func121, Try.ntmps121
  go_wp2_with fail
  rw [HW.out]
  refine (before_c ⟨ak, at_, aw⟩ ⟨bk, bt, bw⟩ W).mono ?_
  rintro e w1 ⟨rfl, hb1⟩
  have d1 := c1.same (hb1.block _ c1.lt)
  have d2 := c2.same (hb1.block _ c2.lt)
  have e0 := d1.cell 0
  have e1 := d1.cell 1
  have e2 := d1.cell 2
  have f0 := d2.cell 0
  have f1 := d2.cell 1
  have f2 := d2.cell 2
  have hbl := bel2 hbW hb1
  simp only [List.getElem?_toArray, List.getElem?_cons_zero, List.getElem?_cons_succ] at e0 e1 e2 f0 f1 f2
  clear c1 c2 d1 d2 hb1 hbW HW
  cases hb : befB ⟨ak, at_, aw⟩ ⟨bk, bt, bw⟩ with
  | false =>
    have Hf := Lib.hid (show folB ⟨ak, at_, aw⟩ ⟨bk, bt, bw⟩ = false by unfold folB; rw [decide_eq_false_iff_not]; exact fun h => befB_no.1 hb h.1)
    go_wp2_with fail
    go_ret
    exact ⟨ret_bool Hf.out.symm, hbl⟩
  | true =>
    have Hf := Lib.hid (show folB ⟨ak, at_, aw⟩ ⟨bk, bt, bw⟩ = decide (cl ⟨ak, at_, aw⟩ ⟨bk, bt, bw⟩) by unfold folB; rw [Bool.eq_iff_iff]; simp [befB_iff.1 hb])
    clear hb
    go_wp2_with fail
    all_goals go_ret
    all_goals refine ⟨ret_bool ?_, hbl⟩
    all_goals rw [Hf.out]
    all_goals (unfold cl; simp_all)
theorem ge_c (o x : Hd) (bo : Nat) (w : World) (T : TypeId) (h : CB w bo T #[.int .u8 o.k, .int .i64 o.t, .bool o.w]) :
    Calls Try.prog 123 #[hv x, .pointer (some ⟨bo, 0, none⟩)] w fun e w' => e = .returned (.bool (!befB x o)) ∧ Below w.heap.size w w' := by
  have hbl := bel_one w (.cells #[.int .u8 x.k, .int .i64 x.t, .bool x.w] 166)
  have k0 := cell_on hbl (h.cell 0)
  have k1 := cell_on hbl (h.cell 1)
  have k2 := cell_on hbl (h.cell 2)
  have hb := before_c x o (w.alloc (.cells #[.int .u8 x.k, .int .i64 x.t, .bool x.w] 166))
  go_enter Try.func123, Try.ntmps123
  go_wp2_with fail
  refine hb.mono ?_
  rintro e w1 ⟨rfl, hb1⟩
  have hbb := bel2 hbl hb1
  clear hb1 hbl k0 k1 k2 hb
  go_wp2_with fail
  go_ret
  exact ⟨rfl, hbb⟩
theorem lt_c (o x : Hd) (bo : Nat) (w : World) (T : TypeId) (h : CB w bo T #[.int .u8 o.k, .int .i64 o.t, .bool o.w]) :
    Calls Try.prog 125 #[hv x, .pointer (some ⟨bo, 0, none⟩)] w fun e w' => e = .returned (.bool (befB o x)) ∧ Below w.heap.size w w' := by
  have hbl := bel_one w (.cells #[.int .u8 x.k, .int .i64 x.t, .bool x.w] 166)
  have k0 := cell_on hbl (h.cell 0)
  have k1 := cell_on hbl (h.cell 1)
  have k2 := cell_on hbl (h.cell 2)
  have hb := before_c o x (w.alloc (.cells #[.int .u8 x.k, .int .i64 x.t, .bool x.w] 166))
  go_enter Try.func125, Try.ntmps125
  go_wp2_with fail
  refine hb.mono ?_
  rintro e w1 ⟨rfl, hb1⟩
  have hbb := bel2 hbl hb1
  clear hb1 hbl k0 k1 k2 hb
  go_wp2_with fail
  go_ret
  exact ⟨rfl, hbb⟩
end Go.Proofs.Ytealcccjnmfkcaa
