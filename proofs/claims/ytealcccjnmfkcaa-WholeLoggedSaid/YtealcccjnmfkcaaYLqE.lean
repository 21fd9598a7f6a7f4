/-
  Take of package lock. Condition: the holds can be read, a hundred thousand at most.
-/
import Derived.Test.YtealcccjnmfkcaaYLqD
set_option linter.unusedVariables false
set_option linter.unusedSimpArgs false
namespace Go.Proofs.Ytealcccjnmfkcaa
open Go.RowKit

/-- A call gave holds of its own and a number back. -/
def TPostk (w : World) (T : TypeId) (L : List Hd) (k : Int) (e : Ending) (w' : World) : Prop :=
  ∃ A n c, e = .returned (.tuple #[.slice A n c, .int .i64 k]) ∧ HS w' T A n c L ∧ Below w.heap.size w w'

/-- The variables at the beginning of Take. -/
structure TB (w W : World) (tx key : Int) (wr ww : Bool) : Prop where
  t : CB W w.heap.size 3 #[.int .i64 tx]
  k : CB W (w.heap.size + 1) 5 #[.int .u8 key]
  b : CB W (w.heap.size + 1 + 1) 4 #[.bool wr]
  o : CB W (w.heap.size + 1 + 1 + 1) 166 #[.int .u8 key, .int .i64 tx, .bool ww]
  low : Below w.heap.size w W
theorem TB.on {w W W' : World} {tx key : Int} {wr ww : Bool} (h : TB w W tx key wr ww) (hb : Below W.heap.size W W') : TB w W' tx key wr ww :=
  ⟨h.t.same (hb.block _ h.t.lt), h.k.same (hb.block _ h.k.lt), h.b.same (hb.block _ h.b.lt), h.o.same (hb.block _ h.o.lt), bel2 h.low hb⟩
theorem TB.cells {w W : World} {tx key : Int} {wr ww : Bool} (h : TB w W tx key wr ww) : W.cell? ⟨w.heap.size, 0, none⟩ = some (.int .i64 tx) ∧ W.cell? ⟨w.heap.size + 1, 0, none⟩ = some (.int .u8 key) ∧ W.cell? ⟨w.heap.size + 1 + 1, 0, none⟩ = some (.bool wr) ∧
    W.cell? ⟨w.heap.size + 1 + 1 + 1, 0, none⟩ = some (.int .u8 key) ∧ W.cell? ⟨w.heap.size + 1 + 1 + 1, 1, none⟩ = some (.int .i64 tx) ∧ W.cell? ⟨w.heap.size + 1 + 1 + 1, 2, none⟩ = some (.bool ww) :=
  ⟨h.t.cell 0, h.k.cell 0, h.b.cell 0, h.o.cell 0, h.o.cell 1, h.o.cell 2⟩
theorem TB.put {w W : World} {tx key : Int} {wr ww : Bool} (h : TB w W tx key wr ww) (b : Bool) : ∃ V, W.setCell ⟨w.heap.size + 1 + 1 + 1, 2, none⟩ (.bool b) = V ∧ TB w V tx key wr b :=
  ⟨_, rfl, h.t.far (p := ⟨w.heap.size + 1 + 1 + 1, 2, none⟩) (by simp; omega) _, h.k.far (p := ⟨w.heap.size + 1 + 1 + 1, 2, none⟩) (by simp) _, h.b.far (p := ⟨w.heap.size + 1 + 1 + 1, 2, none⟩) (by simp) _, h.o.put 2 (.bool b), h.low.setCell (p := ⟨w.heap.size + 1 + 1 + 1, 2, none⟩) (by simp; omega) _⟩
theorem TB.new (w : World) (tx key : Int) (wr : Bool) : ∃ W, (((w.alloc (.cells #[.int .i64 tx] 3)).alloc (.cells #[.int .u8 key] 5)).alloc (.cells #[.bool wr] 4)).alloc (.cells #[.int .u8 key, .int .i64 tx, .bool wr] 166) = W ∧ TB w W tx key wr wr := by
  refine ⟨_, rfl, ?_, ?_, ?_, ?_, ?_⟩
  · exact (((CB.new w _ _).alloc _).alloc _).alloc _
  · have := ((CB.new (w.alloc (.cells #[.int .i64 tx] 3)) 5 #[.int .u8 key]).alloc (.cells #[.bool wr] 4)).alloc (.cells #[.int .u8 key, .int .i64 tx, .bool wr] 166)
    simpa using this
  · have := (CB.new ((w.alloc (.cells #[.int .i64 tx] 3)).alloc (.cells #[.int .u8 key] 5)) 4 #[.bool wr]).alloc (.cells #[.int .u8 key, .int .i64 tx, .bool wr] 166)
    simpa using this
  · have := CB.new (((w.alloc (.cells #[.int .i64 tx] 3)).alloc (.cells #[.int .u8 key] 5)).alloc (.cells #[.bool wr] 4)) 166 #[.int .u8 key, .int .i64 tx, .bool wr]
    simpa using this
  · exact bel2 (bel2 (bel2 (belA _ _) (belA _ _)) (belA _ _)) (belA _ _)

set_option maxRecDepth 100000 in
set_option maxHeartbeats 2000000 in
theorem take_c (A : Option Addr) (n c : Nat) (tx key : Int) (wr : Bool) (L : List Hd) (w : World) (h : HR w A n c L) (hn : n ≤ 100000) :
    Calls Try.prog 97 #[.slice A n c, .int .i64 tx, .int .u8 key, .bool wr] w (TPostk w 166 (sTake L tx key wr) (eTake L tx key wr)) := by
  obtain ⟨W, hW, hT⟩ := TB.new w tx key wr
  have HW := Lib.hid hW
  have hmf : ∀ (fn : Fn) (first cap : Array Value) (w : World), (Instr.makeFunc fn first cap).run Try.prog w = .ok (.func fn first cap) w := fun _ _ _ _ => rfl
  have hri := rightK_c A n c L W (h.on hT.low) hn
  clear hW
  go_enter Try.func97, Try.ntmps97
  go_wp2_with fail
  rw [HW.out]
  refine hri.mono ?_
  rintro e w1 ⟨rfl, hb1⟩
  have hT1 := hT.on hb1
  obtain ⟨c0, c1, c2, c3, c4, c5⟩ := hT1.cells
  clear hri hb1 hT HW
  cases hr : rightKB L with
  | false =>
    have He := Lib.hid (show eTake L tx key wr = 2 by unfold eTake; rw [if_pos (.inl hr)])
    have Hs := Lib.hid (show sTake L tx key wr = L from sTake_err (by rw [He.out]; omega))
    go_wp2_with fail
    refine (copyK_c A n c L w1 (h.on hT1.low) hn).mono ?_
    rintro e w2 ⟨A9, n9, c9, rfl, hs2, hb2⟩
    have H := Lib.hid (show TPostk w 166 (sTake L tx key wr) (eTake L tx key wr) (.returned (.tuple #[.slice A9 n9 c9, .int .i64 2])) w2 by rw [He.out, Hs.out]; exact ⟨A9, n9, c9, rfl, hs2, bel2 hT1.low hb2⟩)
    clear hs2 hb2 hT1 h
    go_wp2_with fail
    go_ret2
    exact H.out
  | true =>
    go_wp2_with fail
    refine (inRange_c ⟨key, tx, wr⟩ w1).mono ?_
    rintro e w2 ⟨rfl, hb2⟩
    have hT2 := hT1.on hb2
    clear c0 c1 c2 c3 c4 c5 hb2 hT1
    obtain ⟨c0, c1, c2, c3, c4, c5⟩ := hT2.cells
    cases hok : okB ⟨key, tx, wr⟩ with
    | false =>
      have He := Lib.hid (show eTake L tx key wr = 2 by unfold eTake; rw [if_pos (.inr hok)])
      have Hs := Lib.hid (show sTake L tx key wr = L from sTake_err (by rw [He.out]; omega))
      go_wp2_with fail
      refine (copyK_c A n c L w2 (h.on hT2.low) hn).mono ?_
      rintro e w3 ⟨A9, n9, c9, rfl, hs2, hb2⟩
      have H := Lib.hid (show TPostk w 166 (sTake L tx key wr) (eTake L tx key wr) (.returned (.tuple #[.slice A9 n9 c9, .int .i64 2])) w3 by rw [He.out, Hs.out]; exact ⟨A9, n9, c9, rfl, hs2, bel2 hT2.low hb2⟩)
      clear hs2 hb2 hT2 h
      go_wp2_with fail
      go_ret2
      exact H.out
    | true =>
      have hTl : Tells w2 113 #[.pointer (some ⟨w.heap.size + 1, 0, none⟩), .pointer (some ⟨w.heap.size, 0, none⟩), .pointer (some ⟨w.heap.size + 1 + 1, 0, none⟩)] (way tx key wr) := fun V x hV =>
        way_c tx key wr (w.heap.size + 1) w.heap.size (w.heap.size + 1 + 1) x V (cell_on hV c1) (cell_on hV c0) (cell_on hV c2)
      have hE : Enters Try.prog 113 := enters_of Try.func113 (by kernel_rfl) rfl
      have hf := first_c _ _ _ A n c L w2 (h.on hT2.low) hn hE hTl
      have hle : L.findIdx (way tx key wr) ≤ n := by have := List.findIdx_le_length (p := way tx key wr) (xs := L); rw [h.len] at this; exact this
      have Hany := Lib.hid (show L.any (way tx key wr) = true ↔ L.findIdx (way tx key wr) < n by rw [← h.len, List.findIdx_lt_length]; simp)
      clear hE hTl
      generalize L.findIdx (way tx key wr) = i at *
      go_wp2_with fail
      refine hf.mono ?_
      rintro e w3 ⟨rfl, hb3⟩
      have hT3 := hT2.on hb3
      clear c0 c1 c2 c3 c4 c5 hb3 hT2 hf hmf
      obtain ⟨c0, c1, c2, c3, c4, c5⟩ := hT3.cells
      by_cases hi : i < n
      · have He := Lib.hid (show eTake L tx key wr = 9 by unfold eTake; rw [if_neg (by rw [hr, hok]; simp), Hany.out.2 hi]; rfl)
        have Hs := Lib.hid (show sTake L tx key wr = L from sTake_err (by rw [He.out]; omega))
        go_wp2_with fail
        refine (copyK_c A n c L w3 (h.on hT3.low) hn).mono ?_
        rintro e w4 ⟨A9, n9, c9, rfl, hs2, hb2⟩
        have H := Lib.hid (show TPostk w 166 (sTake L tx key wr) (eTake L tx key wr) (.returned (.tuple #[.slice A9 n9 c9, .int .i64 9])) w4 by rw [He.out, Hs.out]; exact ⟨A9, n9, c9, rfl, hs2, bel2 hT3.low hb2⟩)
        clear hs2 hb2 hT3 h
        go_wp2_with fail
        go_ret2
        exact H.out
      · have He := Lib.hid (show eTake L tx key wr = 0 by
          unfold eTake
          rw [if_neg (by rw [hr, hok]; simp)]
          cases ha : L.any (way tx key wr) with
          | false => rfl
          | true => exact absurd (Hany.out.1 ha) hi)
        have Hs := Lib.hid (show sTake L tx key wr = putT (ownH L tx key wr) L from sTake_ok He.out)
        have ho := Lib.hid ((rightKB_iff.1 hr).2.1)
        have hf3 := hT3.o.frozen 2
        cases wr with
        | true =>
          have Ho := Lib.hid (show ownH L tx key true = ⟨key, tx, true⟩ by unfold ownH; simp)
          obtain ⟨V, hV, hTn⟩ := hT3.put true
          obtain ⟨e0, e1, e2, e3, e4, e5⟩ := hTn.cells
          have HV := Lib.hid hV
          clear hV hT3
          go_wp2_with fail
          rw [HV.out]
          refine (putK_c A n c ⟨key, tx, true⟩ L V (h.on hTn.low) hn ho.out).mono ?_
          rintro e w4 ⟨A9, n9, c9, rfl, hs2, hb2⟩
          have H := Lib.hid (show TPostk w 166 (sTake L tx key true) (eTake L tx key true) (.returned (.tuple #[.slice A9 n9 c9, .int .i64 0])) w4 by rw [He.out, Hs.out, Ho.out]; exact ⟨A9, n9, c9, rfl, hs2, bel2 hTn.low hb2⟩)
          clear hs2 hb2 hTn h HV c0 c1 c2 c3 c4 c5 hf3 e0 e1 e2 e3 e4 e5
          go_wp2_with fail
          go_ret2
          exact H.out
        | false =>
          have hho := holds_c A n c tx key L w3 (h.on hT3.low) hn
          have Ho := Lib.hid (show ownH L tx key false = ⟨key, tx, (hold L tx key == 2)⟩ by unfold ownH; rw [Bool.false_or]; rfl)
          generalize hold L tx key = hh at *
          go_wp2_with fail
          refine hho.mono ?_
          rintro e w4 ⟨rfl, hb4⟩
          have hT4 := hT3.on hb4
          clear c0 c1 c2 c3 c4 c5 hb4 hT3 hho hf3
          obtain ⟨c0, c1, c2, c3, c4, c5⟩ := hT4.cells
          have hf3 := hT4.o.frozen 2
          obtain ⟨V, hV, hTn⟩ := hT4.put (hh == 2)
          obtain ⟨e0, e1, e2, e3, e4, e5⟩ := hTn.cells
          have HV := Lib.hid hV
          clear hV hT4
          go_wp2_with fail
          rw [HV.out]
          refine (putK_c A n c ⟨key, tx, (hh == 2)⟩ L V (h.on hTn.low) hn ho.out).mono ?_
          rintro e w5 ⟨A9, n9, c9, rfl, hs2, hb2⟩
          have H := Lib.hid (show TPostk w 166 (sTake L tx key false) (eTake L tx key false) (.returned (.tuple #[.slice A9 n9 c9, .int .i64 0])) w5 by rw [He.out, Hs.out, Ho.out]; exact ⟨A9, n9, c9, rfl, hs2, bel2 hTn.low hb2⟩)
          clear hs2 hb2 hTn h HV c0 c1 c2 c3 c4 c5 hf3 e0 e1 e2 e3 e4 e5
          go_wp2_with fail
          go_ret2
          exact H.out
end Go.Proofs.Ytealcccjnmfkcaa
