/-
  The walk of the law CellsNobody, and the calls of package cells at texts and numbers on cells that New did not create (nil, or a zero struct). Conditions: the key is a text.
-/
import Derived.Test.YtopgnjnnijhpkaaCellH
import Derived.Test.YtopgnjnnijhpkaaRange0
namespace Go.Proofs.Ytopgnjnnijhpkaa
open Go.RowKit Go.Shelf
attribute [local go_sem] Oper.semAt_some

/-- Cells that New did not create. -/
def NZ (w : World) (p : Option Addr) : Prop := p = none ∨ ∃ b, p = some ⟨b, 0, none⟩ ∧ CB w b 59 #[.int .i64 0, .map none, .map none]

theorem createdS (p : Option Addr) (w : World) (h : NZ w p) :
    Calls Try.prog 41 #[.pointer p] w fun e w' => e = .returned (.bool false) ∧ w = w' := by
  rcases h with rfl | ⟨b, rfl, hb⟩
  · go_enter Try.func41, Try.ntmps41
    go_wp2
    go_ret
    exact ⟨rfl, rfl⟩
  · have c0 := hb.cell 0
    simp at c0
    go_enter Try.func41, Try.ntmps41
    go_wp2
    go_ret
    exact ⟨rfl, rfl⟩

theorem lenS (p : Option Addr) (w : World) (h : NZ w p) :
    Calls Try.prog 31 #[.pointer p] w fun e w' => e = .returned (.int .i64 0) ∧ w = w' := by
  go_enter Try.func31, Try.ntmps31
  go_wp2_with (go_at_call 41; refine (createdS p _ h).mono ?_; rintro e w' ⟨rfl, rfl⟩)
  go_ret
  exact ⟨rfl, rfl⟩

theorem setS (p : Option Addr) (k : ByteArray) (v : Int) (w : World) (h : NZ w p) :
    Calls Try.prog 27 #[.pointer p, .string k, .int .i64 v] w fun e w' => e = .returned (.int .i64 1) ∧ w = w' := by
  go_enter Try.func27, Try.ntmps27
  go_wp2_with (go_at_call 41; refine (createdS p _ h).mono ?_; rintro e w' ⟨rfl, rfl⟩)
  go_ret
  exact ⟨rfl, rfl⟩

theorem getS (p : Option Addr) (k : ByteArray) (w : World) (h : NZ w p) :
    Calls Try.prog 25 #[.pointer p, .string k] w fun e w' => e = .returned (.tuple #[.int .i64 0, .int .i64 1]) ∧ w = w' := by
  go_enter Try.func25, Try.ntmps25
  go_wp2_with (go_at_call 41; refine (createdS p _ h).mono ?_; rintro e w' ⟨rfl, rfl⟩)
  go_ret2
  exact ⟨rfl, rfl⟩

theorem dropS (p : Option Addr) (k : ByteArray) (w : World) (h : NZ w p) :
    Calls Try.prog 28 #[.pointer p, .string k] w fun e w' => e = .returned (.int .i64 1) ∧ w = w' := by
  go_enter Try.func28, Try.ntmps28
  go_wp2_with (go_at_call 25; refine (getS p k _ h).mono ?_; rintro e w' ⟨rfl, rfl⟩)
  go_ret
  exact ⟨rfl, rfl⟩

theorem syncS (p : Option Addr) (w : World) (h : NZ w p) :
    Calls Try.prog 29 #[.pointer p] w fun e w' => e = .returned (.int .i64 1) ∧ w = w' := by
  go_enter Try.func29, Try.ntmps29
  go_wp2_with (go_at_call 41; refine (createdS p _ h).mono ?_; rintro e w' ⟨rfl, rfl⟩)
  go_ret
  exact ⟨rfl, rfl⟩

theorem crashS (p : Option Addr) (w : World) (h : NZ w p) :
    Calls Try.prog 30 #[.pointer p] w fun e w' => e = .returned (.int .i64 1) ∧ w = w' := by
  go_enter Try.func30, Try.ntmps30
  go_wp2_with (go_at_call 41; refine (createdS p _ h).mono ?_; rintro e w' ⟨rfl, rfl⟩)
  go_ret
  exact ⟨rfl, rfl⟩

theorem allS (p : Option Addr) (w : World) (h : NZ w p) :
    Calls Try.prog 26 #[.pointer p] w fun e w' => e = .returned (.func (.func 43) #[.slice none 0 0] #[]) ∧ w = w' := by
  go_enter Try.func26, Try.ntmps26
  go_wp2_with (go_at_call 41; refine (createdS p _ h).mono ?_; rintro e w' ⟨rfl, rfl⟩)
  go_ret
  exact ⟨rfl, rfl⟩

set_option maxRecDepth 100000 in
theorem eachS_iter : Iter Try.prog 43 (fun y => #[.slice none 0 0] ++ #[y]) 0 (fun _ => #[.string ⟨#[]⟩, .int .i64 0]) (fun _ => True) := by
  intro l J Jx W hN hY h0
  refine callsIn_of_wp Try.func43 rfl trivial ?_ rfl
  simp only [Try.ntmps43, List.size_toArray, List.length_cons, List.length_nil, Nat.reduceAdd, Nat.reduceSub, Array.replicate_succ, Array.replicate_zero, List.push_toArray, List.append_toArray, List.nil_append, List.cons_append]
  gi_wp2
  gi_loopw [8] (fun i wr => i = .int .i64 0 ∧ wr = W) (fun _ _ => 0)
  case atStart => exact ⟨rfl, rfl⟩
  case round =>
    obtain ⟨rfl, rfl⟩ := hrel
    clear hY hN
    gi_wp2
    go_end0
    exact ⟨⟨_, rfl⟩, .inl h0⟩

/-- The law's end: the two books are shut, and the result is read. -/
theorem nobody_leave (w : World) (s D1 D2 : Nat) (W : World) (tmps : Array Value) (cr : CB W s 4 #[.bool true]) (k1 : W.heap[D1]? = some (.deferred (some []))) (k2 : W.heap[D2]? = some (.deferred (some []))) (hne : D1 < D2) (hs1 : s ≤ D1) (low : Below s w W)
    (ht : tmps[2]? = some (.pointer (some ⟨s, 0, none⟩))) :
    LeavesInM Fence.wide 0 Try.prog Try.f6 tmps (fun e w' => e = .returned (.bool true) ∧ Below s w w') [{ target := .collected D2, args := #[] }, { target := .collected D1, args := #[] }] .returning W := by
  have k3 : (W.putObj D2 (.deferred none)).heap[D1]? = some (.deferred (some [])) := (World.putObj_heap_other (by omega)).trans k1
  refine ⟨by simp, .inl ⟨_, _, rfl, run_takeDeferred k2, ?_⟩⟩
  refine ⟨by simp, .inl ⟨_, _, rfl, run_takeDeferred k3, ?_⟩⟩
  have hc := ((cr.putBook (.inr ⟨_, k2⟩) (.deferred none)).putBook (.inr ⟨_, k3⟩) (.deferred none)).cell 0
  simp only [List.getElem?_toArray, List.getElem?_cons_zero] at hc
  refine ⟨.bool true, ?_, rfl, below_putObj (below_putObj low (by omega) _) hs1 _⟩
  simp [results, Try.results6, go_sem, hc, ht]

set_option maxRecDepth 100000 in
set_option maxHeartbeats 2000000 in
theorem nobody_walk (k : ByteArray) (w : World) (hm0 : k.size ≤ maxLen) :
    Calls Try.prog 6 #[.string k] w fun e w' => e = .returned (.bool true) ∧ Below w.heap.size w w' := by
  unfold maxLen at hm0
  have kr := CB.new w 4 #[.bool false]
  have kB : Below w.heap.size w (w.alloc (.cells #[.bool false] 4)) := (Below.refl _ _).alloc (Nat.le_refl _) _
  refine (callsIn_wide (n := 0)).1 ?_
  refine callsIn_of_wp_marks Try.func6 rfl trivial ?_ rfl
  simp only [Try.ntmps6, List.size_toArray, List.length_cons, List.length_nil, Nat.reduceAdd, Nat.reduceSub, Array.replicate_succ, Array.replicate_zero, List.push_toArray, List.append_toArray, List.nil_append, List.cons_append]
  gi_wp2_with fail
  refine ⟨trivial, rfl, (callsIn_wide.2 (alive_c _)).mono ?_⟩
  rintro e w1 ⟨rfl, hb1⟩
  have j1 := kr.same (hb1.block _ kr.lt)
  have jB : Below w.heap.size w w1 := kB.trans (hb1.mono (by simp))
  have jz : w.heap.size + 1 ≤ w1.heap.size := by have := hb1.size; simpa using this
  clear kr kB hb1
  have c3 := j1.cell 0
  have f3 := j1.frozen 0
  simp only [List.getElem?_toArray, List.getElem?_cons_zero] at c3
  by_cases hbig : (1000 : Int) < (k.size : Int)
  · gi_wp2_with fail
    have hc5 := (j1.put 0 (.bool true)).cell 0
    simp only [Array.getElem?_setIfInBounds, List.size_toArray, List.length_cons, List.length_nil, if_true, Nat.zero_add, Nat.zero_lt_one] at hc5
    refine ⟨.bool true, ?_, rfl, jB.setCell (p := ⟨w.heap.size, 0, none⟩) (Nat.le_refl _) _⟩
    simp [results, Try.results6, go_sem, hc5]
  clear c3 f3
  have m0 := CB.new w1 59 #[.int .i64 0, .map none, .map none]
  obtain ⟨w2, hw2⟩ : ∃ w2, w2 = (w1.alloc (.cells #[.int .i64 0, .map none, .map none] 59)).alloc (.cells #[.pointer none, .pointer (some ⟨w1.heap.size, 0, none⟩)] 55) := ⟨_, rfl⟩
  have m1 : CB w2 w1.heap.size 59 #[.int .i64 0, .map none, .map none] := by rw [hw2]; exact m0.alloc _
  have m2 : CB w2 (w1.heap.size + 1) 55 #[.pointer none, .pointer (some ⟨w1.heap.size, 0, none⟩)] := by
    rw [hw2]
    have := CB.new (w1.alloc (.cells #[.int .i64 0, .map none, .map none] 59)) 55 #[.pointer none, .pointer (some ⟨w1.heap.size, 0, none⟩)]
    simpa using this
  have m3 : CB w2 w.heap.size 4 #[.bool false] := by rw [hw2]; exact (j1.alloc _).alloc _
  have mB : Below w.heap.size w w2 := by rw [hw2]; exact (jB.alloc (by omega) _).alloc (by simp; omega) _
  have mz : w1.heap.size + 2 = w2.heap.size := by rw [hw2]; simp
  have Hw2 := Lib.hid hw2
  have Hmz := Lib.hid mz
  clear hw2 mz j1 jB m0
  gi_wp2_with fail
  refine wpIn_loop_rounds 3 ?_
  rw [roundsIn_succ]
  rw [← Hw2.out]
  have szw2 : w1.heap.size + 2 ≤ w2.heap.size := by have := Hmz.out; omega
  rename CB w2 w1.heap.size 59 #[.int .i64 0, .map none, .map none] => m1w2
  rename CB w2 (w1.heap.size + 1) 55 #[.pointer none, .pointer (some ⟨w1.heap.size, 0, none⟩)] => m2w2
  rename CB w2 w.heap.size 4 #[.bool false] => m3w2
  rename Below w.heap.size w w2 => mBw2
  clear Hmz Hw2
  have nz1 : NZ w2 none := .inl rfl
  have f1 := m2w2.cell 0
  simp only [List.getElem?_toArray, List.getElem?_cons_succ, List.getElem?_cons_zero] at f1
  gi_wp2_with fail
  refine ⟨trivial, rfl, (callsIn_wide.2 (getS _ k w2 nz1)).mono ?_⟩
  rintro e wq ⟨rfl, rfl⟩
  gi_wp2_with fail
  refine ⟨trivial, rfl, (callsIn_wide.2 (allS _ w2 nz1)).mono ?_⟩
  rintro e wq ⟨rfl, rfl⟩
  gi_wp2_with fail
  refine range_none (gf := 43) (fb := #[.slice none 0 0]) rfl (enters_of Try.func43 (by kernel_rfl) rfl) eachS_iter ?_
  intro w3 hbb1 hD1
  have m1w3 := m1w2.same (hbb1.block _ m1w2.lt)
  have m2w3 := m2w2.same (hbb1.block _ m2w2.lt)
  have m3w3 := m3w2.same (hbb1.block _ m3w2.lt)
  have mBw3 : Below w.heap.size w w3 := mBw2.trans (hbb1.mono (by omega))
  have szw3 : w1.heap.size + 2 ≤ w3.heap.size := Nat.le_trans szw2 hbb1.size
  have szv1 : w1.heap.size + 2 ≤ w2.heap.size := szw2
  generalize hdv1 : w2.heap.size = D1 at *
  have nzz1 : NZ w3 none := .inl rfl
  clear hbb1 nz1 f1 hdv1 m1w2 m2w2 m3w2 mBw2 szw2
  gi_wp2_with fail
  refine ⟨trivial, rfl, (callsIn_wide.2 (setS _ k 1 w3 nzz1)).mono ?_⟩
  rintro e wq ⟨rfl, rfl⟩
  gi_wp2_with fail
  refine ⟨trivial, rfl, (callsIn_wide.2 (dropS _ k w3 nzz1)).mono ?_⟩
  rintro e wq ⟨rfl, rfl⟩
  gi_wp2_with fail
  refine ⟨trivial, rfl, (callsIn_wide.2 (syncS _ w3 nzz1)).mono ?_⟩
  rintro e wq ⟨rfl, rfl⟩
  gi_wp2_with fail
  refine ⟨trivial, rfl, (callsIn_wide.2 (crashS _ w3 nzz1)).mono ?_⟩
  rintro e wq ⟨rfl, rfl⟩
  gi_wp2_with fail
  refine ⟨trivial, rfl, (callsIn_wide.2 (lenS _ w3 nzz1)).mono ?_⟩
  rintro e wq ⟨rfl, rfl⟩
  clear nzz1
  gi_wp2_with fail
  rw [roundsIn_succ]
  have nz2 : NZ w3 (some ⟨w1.heap.size, 0, none⟩) := .inr ⟨_, rfl, m1w3⟩
  have f2 := m2w3.cell 1
  simp only [List.getElem?_toArray, List.getElem?_cons_succ, List.getElem?_cons_zero] at f2
  gi_wp2_with fail
  refine ⟨trivial, rfl, (callsIn_wide.2 (getS _ k w3 nz2)).mono ?_⟩
  rintro e wq ⟨rfl, rfl⟩
  gi_wp2_with fail
  refine ⟨trivial, rfl, (callsIn_wide.2 (allS _ w3 nz2)).mono ?_⟩
  rintro e wq ⟨rfl, rfl⟩
  gi_wp2_with fail
  refine range_none (gf := 43) (fb := #[.slice none 0 0]) rfl (enters_of Try.func43 (by kernel_rfl) rfl) eachS_iter ?_
  intro w4 hbb2 hD2
  have m1w4 := m1w3.same (hbb2.block _ m1w3.lt)
  have m2w4 := m2w3.same (hbb2.block _ m2w3.lt)
  have m3w4 := m3w3.same (hbb2.block _ m3w3.lt)
  have mBw4 : Below w.heap.size w w4 := mBw3.trans (hbb2.mono (by omega))
  have szw4 : w1.heap.size + 2 ≤ w4.heap.size := Nat.le_trans szw3 hbb2.size
  have hDD : D1 < w3.heap.size := (Array.getElem?_eq_some_iff.1 hD1).1
  have hD1' := (hbb2.block _ (Array.getElem?_eq_some_iff.1 hD1).1).trans hD1
  have szv2 : w1.heap.size + 2 ≤ w3.heap.size := szw3
  generalize hdv2 : w3.heap.size = D2 at *
  have nzz2 : NZ w4 (some ⟨w1.heap.size, 0, none⟩) := .inr ⟨_, rfl, m1w4⟩
  clear hbb2 nz2 f2 hdv2 m1w3 m2w3 m3w3 mBw3 szw3 hD1
  gi_wp2_with fail
  refine ⟨trivial, rfl, (callsIn_wide.2 (setS _ k 1 w4 nzz2)).mono ?_⟩
  rintro e wq ⟨rfl, rfl⟩
  gi_wp2_with fail
  refine ⟨trivial, rfl, (callsIn_wide.2 (dropS _ k w4 nzz2)).mono ?_⟩
  rintro e wq ⟨rfl, rfl⟩
  gi_wp2_with fail
  refine ⟨trivial, rfl, (callsIn_wide.2 (syncS _ w4 nzz2)).mono ?_⟩
  rintro e wq ⟨rfl, rfl⟩
  gi_wp2_with fail
  refine ⟨trivial, rfl, (callsIn_wide.2 (crashS _ w4 nzz2)).mono ?_⟩
  rintro e wq ⟨rfl, rfl⟩
  gi_wp2_with fail
  refine ⟨trivial, rfl, (callsIn_wide.2 (lenS _ w4 nzz2)).mono ?_⟩
  rintro e wq ⟨rfl, rfl⟩
  clear nzz2
  gi_wp2_with fail
  rw [roundsIn_succ]
  have hs1 : w.heap.size ≤ D1 := by omega
  have c3 := m3w4.cell 0
  have f3 := m3w4.frozen 0
  simp only [List.getElem?_toArray, List.getElem?_cons_zero] at c3
  gi_wp2_with fail
  have hbk1 : Book w4 D1 := .inr ⟨_, hD1'⟩
  have hbk2 : Book w4 D2 := .inr ⟨_, hD2⟩
  exact nobody_leave w w.heap.size D1 D2 _ _ (m3w4.put 0 (.bool true)) ((Below.heap_setCell _ _ _ _ (m3w4.noBook hbk1).symm).trans hD1') ((Below.heap_setCell _ _ _ _ (m3w4.noBook hbk2).symm).trans hD2) hDD hs1 (mBw4.setCell (p := ⟨w.heap.size, 0, none⟩) (Nat.le_refl _) _) rfl
end Go.Proofs.Ytopgnjnnijhpkaa
