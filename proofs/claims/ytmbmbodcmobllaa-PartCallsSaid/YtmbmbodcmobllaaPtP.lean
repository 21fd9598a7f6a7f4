/-
  The walk of PartCalls: it returns true. Condition: the part's deltas can be read.
-/
import Derived.Test.YtmbmbodcmobllaaPtK
import Derived.Deep.CutRange
import Derived.Deep.RegionHeld3
set_option linter.unusedVariables false
set_option linter.unusedSimpArgs false
namespace Go.Proofs.Ytmbmbodcmobllaa
open Go.RowKit

set_option maxRecDepth 100000 in
set_option maxHeartbeats 4000000 in
theorem calls_walk (s : Int) (A : Option Addr) (n c : Nat) (l : Bool) (o : Int) (L : List Dl) (a : Ac) (w : World) (h : DR w A n c L) :
    Calls Try.prog 3 #[.agg #[.int .i64 s, .slice A n c, .bool l, .int .i64 o], av a] w fun e w' => e = .returned (.bool true) ∧ Below w.heap.size w w' := by
  obtain ⟨W, hW⟩ : ∃ W, (w.alloc (.cells #[.int .i64 s, .slice A n c, .bool l, .int .i64 o] 24)).alloc (.cells #[.int .u8 a.kd, .int .u8 a.dk, .int .i64 a.db, .bool a.y, .int .i64 a.u] 28) = W := ⟨_, rfl⟩
  have hp : PB W (w.heap.size) 24 s A n c l o := by
    rw [← hW]
    have := ((PB.new w 24 s A n c l o).alloc (.cells #[.int .u8 a.kd, .int .u8 a.dk, .int .i64 a.db, .bool a.y, .int .i64 a.u] 28))
    simpa using this
  have ha : CB W (w.heap.size + 1) 28 #[.int .u8 a.kd, .int .u8 a.dk, .int .i64 a.db, .bool a.y, .int .i64 a.u] := by
    rw [← hW]
    have := (CB.new (w.alloc (.cells #[.int .i64 s, .slice A n c, .bool l, .int .i64 o] 24)) 28 #[.int .u8 a.kd, .int .u8 a.dk, .int .i64 a.db, .bool a.y, .int .i64 a.u])
    simpa using this
  have hb : Below w.heap.size w W := by rw [← hW]; exact bel2 (belA _ _) (belA _ _)
  have hS := Lib.hid (show W.heap.size = w.heap.size + 2 by rw [← hW]; simp)
  have HW := Lib.hid hW
  clear hW
  clear hS
  have hd := h.on hb
  have hc := alive_c W
  go_enter Try.func3, Try.ntmps3
  go_upto_region 1 with fail
  rw [HW.out]
  go_wp2_with fail
  refine hc.mono ?_
  rintro e w1 ⟨rfl, b1⟩
  have r1_p := hp.on b1
  have r1_a := ha.on b1
  have r1_d := hd.on b1
  have l1 := bel2 hb b1
  clear hc b1 hp ha hd hb
  obtain ⟨cp0, cp1, cp2, cp3⟩ := r1_p.cells
  by_cases hn : 80 < n
  · have hn1 : (80 : Int) < (n : Int) := by omega
    have H := Lib.hid l1
    go_wp2_with fail
    go_ret
    exact ⟨rfl, H.out⟩
  have hn1 : ¬ (80 : Int) < (n : Int) := by omega
  have hn2 : n ≤ 1000 := by omega
  have Hn2 := Lib.hid hn2
  clear hn
  have a0 := r1_a.cell 0
  have a1 := r1_a.cell 1
  have a2 := r1_a.cell 2
  have a3 := r1_a.cell 3
  have a4 := r1_a.cell 4
  simp only [List.getElem?_toArray, List.getElem?_cons_zero, List.getElem?_cons_succ] at a0 a1 a2 a3 a4
  have hc := does_c s A n c l o L A n c a w1 r1_d hn2 r1_d
  obtain ⟨X, hX⟩ : ∃ X, stp ⟨s, L, l, o⟩ a = X := ⟨_, rfl⟩
  obtain ⟨E, hE⟩ : ∃ E, chg ⟨s, L, l, o⟩ a = E := ⟨_, rfl⟩
  rw [hX, hE] at hc
  clear hX hE hn2
  go_wp2_with fail
  refine hc.mono ?_
  rintro e w2 ⟨A1, n1, c1, Y, A2, n2, c2, A3, n3, c3, ok, rfl, d1, d2, d3, b2, _, rfl, rfl⟩
  clear cp0 cp1 cp2 cp3
  clear hc a0 a1 a2 a3 a4 d3
  have r2_p := r1_p.on b2
  have r2_d := r1_d.on b2
  have l2 := bel2 l1 b2
  clear b2 r1_p r1_a r1_d l1
  obtain ⟨V, hV⟩ : ∃ V, (w2.alloc (.cells #[.int .i64 Y.st, .slice A1 n1 c1, .bool Y.lo, .int .i64 Y.ou] 30)).alloc (.cells #[.int .i64 Y.st, .slice A2 n2 c2, .bool Y.lo, .int .i64 Y.ou] 24) = V := ⟨_, rfl⟩
  have xV : PB V w2.heap.size 30 Y.st A1 n1 c1 Y.lo Y.ou := by rw [← hV]; exact (PB.new w2 30 Y.st A1 n1 c1 Y.lo Y.ou).alloc _
  have yV : PB V (w2.heap.size + 1) 24 Y.st A2 n2 c2 Y.lo Y.ou := by
    rw [← hV]
    have := PB.new (w2.alloc (.cells #[.int .i64 Y.st, .slice A1 n1 c1, .bool Y.lo, .int .i64 Y.ou] 30)) 24 Y.st A2 n2 c2 Y.lo Y.ou
    simpa using this
  have bV : Below w2.heap.size w2 V := by rw [← hV]; exact bel2 (belA _ _) (belA _ _)
  have HV := Lib.hid hV
  clear hV
  have r3_p := r2_p.on bV
  have r3_d := r2_d.on bV
  have r3_x1 := d1.on bV
  have r3_y1 := d2.on bV
  have l3 := bel2 l2 bV
  clear bV r2_p r2_d d1 d2 l2
  have Hc := Lib.hid (show (V.cell? ⟨w2.heap.size, 0, none⟩ = some (.int .i64 Y.st) ∧ V.cell? ⟨w2.heap.size, 1, none⟩ = some (.slice A1 n1 c1) ∧ V.cell? ⟨w2.heap.size, 2, none⟩ = some (.bool Y.lo) ∧ V.cell? ⟨w2.heap.size, 3, none⟩ = some (.int .i64 Y.ou)) ∧ (V.cell? ⟨(w2.heap.size + 1), 0, none⟩ = some (.int .i64 Y.st) ∧ V.cell? ⟨(w2.heap.size + 1), 1, none⟩ = some (.slice A2 n2 c2) ∧ V.cell? ⟨(w2.heap.size + 1), 2, none⟩ = some (.bool Y.lo) ∧ V.cell? ⟨(w2.heap.size + 1), 3, none⟩ = some (.int .i64 Y.ou)) ∧ (V.cell? ⟨w.heap.size, 0, none⟩ = some (.int .i64 s) ∧ V.cell? ⟨w.heap.size, 1, none⟩ = some (.slice A n c) ∧ V.cell? ⟨w.heap.size, 2, none⟩ = some (.bool l) ∧ V.cell? ⟨w.heap.size, 3, none⟩ = some (.int .i64 o)) from ⟨xV.cells, yV.cells, (r3_p).cells⟩)
  have HC := Lib.hid (fun U (b : Below V.heap.size V U) => (show (U.cell? ⟨w2.heap.size, 0, none⟩ = some (.int .i64 Y.st) ∧ U.cell? ⟨w2.heap.size, 1, none⟩ = some (.slice A1 n1 c1) ∧ U.cell? ⟨w2.heap.size, 2, none⟩ = some (.bool Y.lo) ∧ U.cell? ⟨w2.heap.size, 3, none⟩ = some (.int .i64 Y.ou)) ∧ (U.cell? ⟨(w2.heap.size + 1), 0, none⟩ = some (.int .i64 Y.st) ∧ U.cell? ⟨(w2.heap.size + 1), 1, none⟩ = some (.slice A2 n2 c2) ∧ U.cell? ⟨(w2.heap.size + 1), 2, none⟩ = some (.bool Y.lo) ∧ U.cell? ⟨(w2.heap.size + 1), 3, none⟩ = some (.int .i64 Y.ou)) ∧ (U.cell? ⟨w.heap.size, 0, none⟩ = some (.int .i64 s) ∧ U.cell? ⟨w.heap.size, 1, none⟩ = some (.slice A n c) ∧ U.cell? ⟨w.heap.size, 2, none⟩ = some (.bool l) ∧ U.cell? ⟨w.heap.size, 3, none⟩ = some (.int .i64 o)) from ⟨(xV.on b).cells, (yV.on b).cells, ((r3_p).on b).cells⟩))
  have e1 : (okP ⟨s, L, l, o⟩ == okP ⟨s, L, l, o⟩) = true := by simp
  generalize okP ⟨s, L, l, o⟩ = K at e1
  go_upto_region 6 with fail
  rw [HV.out]
  go_region_held3 (fun W' => (W'.cell? ⟨w2.heap.size, 0, none⟩ = some (.int .i64 Y.st) ∧ W'.cell? ⟨w2.heap.size, 1, none⟩ = some (.slice A1 n1 c1) ∧ W'.cell? ⟨w2.heap.size, 2, none⟩ = some (.bool Y.lo) ∧ W'.cell? ⟨w2.heap.size, 3, none⟩ = some (.int .i64 Y.ou)) ∧ (W'.cell? ⟨(w2.heap.size + 1), 0, none⟩ = some (.int .i64 Y.st) ∧ W'.cell? ⟨(w2.heap.size + 1), 1, none⟩ = some (.slice A2 n2 c2) ∧ W'.cell? ⟨(w2.heap.size + 1), 2, none⟩ = some (.bool Y.lo) ∧ W'.cell? ⟨(w2.heap.size + 1), 3, none⟩ = some (.int .i64 Y.ou)) ∧ (W'.cell? ⟨w.heap.size, 0, none⟩ = some (.int .i64 s) ∧ W'.cell? ⟨w.heap.size, 1, none⟩ = some (.slice A n c) ∧ W'.cell? ⟨w.heap.size, 2, none⟩ = some (.bool l) ∧ W'.cell? ⟨w.heap.size, 3, none⟩ = some (.int .i64 o))) (first | exact Hc.out | exact g1.out | exact g2.out | exact g3.out | exact g4.out | exact g5.out | exact g6.out) (first
    | (go_at_call 11; (with_reducible refine (same_c Y.st A1 n1 c1 A2 n2 c2 Y.lo Y.ou Y.ad V.drew r3_x1.drew r3_y1.drew).mono ?_); rintro e u1 ⟨rfl, q1⟩; have t1 : Below V.heap.size V u1 := below_drew (W := V) q1; have g1 := Lib.hid (HC.out _ t1))
    | (go_at_call 12; (with_reducible refine (right_c s A n c l o L u1 (r3_d.on t1)).mono ?_); rintro e u2 ⟨rfl, q2⟩; have t2 : Below V.heap.size V u2 := bel2 t1 q2; have g2 := Lib.hid (HC.out _ t2))
    | (go_at_call 13; (with_reducible refine (rightR_c s A n c l o L u2 (r3_d.on t2)).mono ?_); rintro e u3 ⟨rfl, q3⟩; have t3 : Below V.heap.size V u3 := bel2 t2 q3; have g3 := Lib.hid (HC.out _ t3))
    | (go_at_call 15; (with_reducible refine (effect_c s A n c l o L u3 (r3_d.on t3) Hn2.out).mono ?_); rintro e u4 ⟨A5, n5, c5, rfl, s5, q4⟩; have t4 : Below V.heap.size V u4 := bel2 t3 q4; have g4 := Lib.hid (HC.out _ t4))
    | (go_at_call 16; (with_reducible refine (effectR_c s A n c l o L u4 (r3_d.on t4) Hn2.out).mono ?_); rintro e u5 ⟨A6, n6, c6, rfl, s6, q5⟩; have t5 : Below V.heap.size V u5 := bel2 t4 q5; have g5 := Lib.hid (HC.out _ t5))
    | (go_at_call 14; (with_reducible refine (deltas_c A5 A6 n5 c5 n6 c6 _ u5 (s5.rr.on q5) s6).mono ?_); rintro e u6 ⟨rfl, q6⟩; have t6 : Below V.heap.size V u6 := bel2 t5 q6; have g6 := Lib.hid (HC.out _ t6)))
  have H := Lib.hid (bel2 l3 t6)
  clear q1 q2 q3 q4 q5 q6 g1 g2 g3 g4 g5 g6 t1 t2 t3 t4 t5 t6 s5 s6
  go_wp2_with fail
  go_ret
  exact ⟨rfl, H.out⟩
end Go.Proofs.Ytmbmbodcmobllaa
