/-
  The walk of LockAgain: it returns true. Condition: the holds can be read.
-/
import Derived.Test.YtifppmpknnpmpaaLkI
import Derived.Test.YtifppmpknnpmpaaLkN
import Derived.Test.YtifppmpknnpmpaaLkO
set_option linter.unusedVariables false
set_option linter.unusedSimpArgs false
namespace Go.Proofs.Ytifppmpknnpmpaa
open Go.RowKit

/-- An act in a variable. -/
def AB (W : World) (b : Nat) (a : ActV) : Prop := CB W b 24 #[.int .u8 a.kind, .int .i64 a.tx, .int .u8 a.key, .bool a.w]
section
variable {W W' : World} {b : Nat} {a : ActV}
theorem AB.lt (h : AB W b a) : b < W.heap.size := CB.lt h
theorem AB.on (h : AB W b a) (hb : Below W.heap.size W W') : AB W' b a := CB.same h (hb.block _ (CB.lt h))
theorem AB.drew (h : AB W b a) : AB W.drew b a := h
theorem AB.cells (h : AB W b a) : W.cell? ⟨b, 0, none⟩ = some (.int .u8 a.kind) ∧ W.cell? ⟨b, 1, none⟩ = some (.int .i64 a.tx) ∧ W.cell? ⟨b, 2, none⟩ = some (.int .u8 a.key) ∧ W.cell? ⟨b, 3, none⟩ = some (.bool a.w) :=
  ⟨CB.cell h 0, CB.cell h 1, CB.cell h 2, CB.cell h 3⟩
theorem AB.three (h : AB W b a) : W.cell? ⟨b, 1, none⟩ = some (.int .i64 a.tx) ∧ W.cell? ⟨b, 2, none⟩ = some (.int .u8 a.key) ∧ W.cell? ⟨b, 3, none⟩ = some (.bool a.w) := h.cells.2
end
theorem AB.new (w : World) (a : ActV) : ∃ W, w.alloc (.cells #[.int .u8 a.kind, .int .i64 a.tx, .int .u8 a.key, .bool a.w] 24) = W ∧ AB W w.heap.size a ∧ Below w.heap.size w W := ⟨_, rfl, CB.new _ _ _, belA _ _⟩

set_option maxRecDepth 100000 in
set_option maxHeartbeats 4000000 in
theorem again_walk (A : Option Addr) (n c : Nat) (a : ActV) (L : List Hd) (w : World) (h : HR w A n c L) :
    Calls Try.prog 6 #[.slice A n c, av a] w fun e w' => e = .returned (.bool true) ∧ Below w.heap.size w w' := by
  have hlen := Lib.hid h.len
  have hmx : n ≤ maxLen := Nat.le_trans h.cap h.max
  simp only [maxLen] at hmx
  obtain ⟨W, hW, ab, hbW⟩ := AB.new w a
  have HW := Lib.hid hW
  clear hW
  go_enter Try.func6, Try.ntmps6
  go_wp2_with fail
  rw [HW.out]
  refine (alive_c W).mono ?_
  rintro e w1 ⟨rfl, hb1⟩
  have ab1 := ab.on hb1
  have hl1 := bel2 hbW hb1
  clear ab hbW hb1 HW
  by_cases hbig : 100 < n
  · have hbi : (100 : Int) < (n : Int) := by omega
    go_wp2_with fail
    go_ret
    exact ⟨rfl, hl1⟩
  have hbi : ¬ (100 : Int) < (n : Int) := by omega
  have hn : n ≤ 100000 := by omega
  have hrr := rightR_c A n c L w1 (h.on hl1) hn
  go_wp2_with fail
  refine hrr.mono ?_
  rintro e w2 ⟨rfl, hb2⟩
  have ab2 := ab1.on hb2
  have hl2 := bel2 hl1 hb2
  clear hrr hb2 ab1 hl1
  cases hR : rightB L with
  | false =>
    go_wp2_with fail
    go_ret
    exact ⟨rfl, hl2⟩
  | true =>
    have hrW := h.on hl2
    obtain ⟨t1, t2, t3⟩ := ab2.three
    go_wp2_with fail
    go_region_held3 (fun W' => W'.cell? ⟨w.heap.size, 1, none⟩ = some (.int .i64 a.tx) ∧ W'.cell? ⟨w.heap.size, 2, none⟩ = some (.int .u8 a.key) ∧ W'.cell? ⟨w.heap.size, 3, none⟩ = some (.bool a.w)) (first | exact ⟨t1, t2, t3⟩ | exact (ab2.drew.on y1).three | exact ((ab2.drew.on y1).on y2).three) (first
      | (go_at_call 12; refine (theirs_c _ n c L w2.drew hrW.drew hn).mono ?_; rintro e w3 ⟨A3, n3, c3, rfl, hs3, y1⟩; have hn3 : n3 ≤ 100000 := by (rw [← hs3.len, hlen.out]; exact hn))
      | (go_at_call 11; refine (take_c A3 n3 c3 a.tx a.key a.w L w3 hs3.rr hn3).mono ?_; rintro e w4 ⟨A4, n4, c4, rfl, hs4, y2⟩))
    have y3 := bel2 (below_drew (W := w2) y1) y2
    have hl4 := bel2 hl2 y3
    have ab4 := ab2.on y3
    have hn4 : n4 ≤ 100000 := by have := sTake_len L a.tx a.key a.w; rw [hs4.len, hlen.out] at this; omega
    clear hs3 y1 y2 y3 hrW ab2 hl2 t1 t2 t3
    by_cases he : eTake L a.tx a.key a.w = 0
    · obtain ⟨ag1, ag2⟩ := again he
      have Hht := Lib.hid (hold_take he)
      have tk2 := take_c A4 n4 c4 a.tx a.key false _ w4 hs4.rr hn4
      rw [ag1, ag2] at tk2
      have he1 : (eTake L a.tx a.key a.w != 0) = false := by simp [he]
      clear ag1 ag2 he
      obtain ⟨t0, t1, t2, t3⟩ := ab4.cells
      generalize eTake L a.tx a.key a.w = ee at *
      go_wp2_with fail
      refine tk2.mono ?_
      rintro e w5 ⟨A5, n5, c5, rfl, hs5, y1⟩
      have ab5 := ab4.on y1
      have hl5 := bel2 hl4 y1
      have hs45 := hs4.on y1
      have hn5 : n5 ≤ 100000 := by rw [← hs5.len, hs4.len]; exact hn4
      clear tk2 t0 t1 t2 t3 hs4 hl4 y1 ab4
      obtain ⟨t0, t1, t2, t3⟩ := ab5.cells
      have hho := holdsR_c A n c a.tx a.key L w5 (h.on hl5) hn
      have hv := hold_vals L a.tx a.key
      generalize hold L a.tx a.key = hh at *
      go_wp2_with fail
      refine hho.mono ?_
      rintro e w6 ⟨rfl, y1⟩
      have ab6 := ab5.on y1
      have hl6 := bel2 hl5 y1
      have hs46 := hs45.on y1
      have hs56 := hs5.on y1
      clear hho t0 t1 t2 t3 y1 ab5 hl5 hs45 hs5
      obtain ⟨t0, t1, t2, t3⟩ := ab6.cells
      have Hv := Lib.hid hv
      clear hv
      rcases (show a.w = true ∨ a.w = false by cases a.w <;> simp) with hw | hw
      · have Hw := Lib.hid (show hold (sTake L a.tx a.key a.w) a.tx a.key = 2 by rw [Hht.out, hw]; rfl)
        rw [hw] at t3
        clear hw Hht
        by_cases hm : hh < 1
        · have hm1 : hh < 1 := hm
          go_wp2_with fail
          refine (ours_c A4 n4 c4 _ w6 hs46.rr hn4).mono ?_
          rintro e w7 ⟨A7, n7, c7, rfl, hs7, y1⟩
          have ab7 := ab6.on y1
          have hl7 := bel2 hl6 y1
          have hs47 := hs46.on y1
          have hs57 := hs56.on y1
          clear y1 ab6 hl6 hs46 hs56 t0 t1 t2 t3
          go_wp2_with fail
          refine (ours_c A5 n5 c5 _ w7 hs57.rr hn5).mono ?_
          rintro e w8 ⟨A8, n8, c8, rfl, hs8, y1⟩
          have ab8 := ab7.on y1
          have hl8 := bel2 hl7 y1
          have hs48 := hs47.on y1
          have hs78 := hs7.on y1
          clear y1 ab7 hl7 hs47 hs57 hs7
          go_wp2_with fail
          refine (same_c A7 A8 n7 c7 n8 c8 _ w8 hs78.rr hs8.rr).mono ?_
          rintro e w9 ⟨rfl, y1⟩
          have ab9 := ab8.on y1
          have hl9 := bel2 hl8 y1
          have hs49 := hs48.on y1
          clear y1 ab8 hl8 hs48 hs78 hs8
          obtain ⟨t0, t1, t2, t3⟩ := ab9.cells
          have hho := holds_c A4 n4 c4 a.tx a.key _ w9 hs49.rr hn4
          rw [Hw.out] at hho
          go_wp2_with fail
          refine hho.mono ?_
          rintro e w10 ⟨rfl, y1⟩
          have hl10 := bel2 hl9 y1
          clear hho y1 hl9 hs49 ab9 t0 t1 t2 t3
          go_wp2_with fail
          go_ret
          exact ⟨rfl, hl10⟩
        · have hm1 : ¬ hh < 1 := hm
          go_wp2_with fail
          refine (ours_c A4 n4 c4 _ w6 hs46.rr hn4).mono ?_
          rintro e w7 ⟨A7, n7, c7, rfl, hs7, y1⟩
          have ab7 := ab6.on y1
          have hl7 := bel2 hl6 y1
          have hs47 := hs46.on y1
          have hs57 := hs56.on y1
          clear y1 ab6 hl6 hs46 hs56 t0 t1 t2 t3
          go_wp2_with fail
          refine (ours_c A5 n5 c5 _ w7 hs57.rr hn5).mono ?_
          rintro e w8 ⟨A8, n8, c8, rfl, hs8, y1⟩
          have ab8 := ab7.on y1
          have hl8 := bel2 hl7 y1
          have hs48 := hs47.on y1
          have hs78 := hs7.on y1
          clear y1 ab7 hl7 hs47 hs57 hs7
          go_wp2_with fail
          refine (same_c A7 A8 n7 c7 n8 c8 _ w8 hs78.rr hs8.rr).mono ?_
          rintro e w9 ⟨rfl, y1⟩
          have ab9 := ab8.on y1
          have hl9 := bel2 hl8 y1
          have hs49 := hs48.on y1
          clear y1 ab8 hl8 hs48 hs78 hs8
          obtain ⟨t0, t1, t2, t3⟩ := ab9.cells
          have hho := holds_c A4 n4 c4 a.tx a.key _ w9 hs49.rr hn4
          rw [Hw.out] at hho
          go_wp2_with fail
          refine hho.mono ?_
          rintro e w10 ⟨rfl, y1⟩
          have hl10 := bel2 hl9 y1
          clear hho y1 hl9 hs49 ab9 t0 t1 t2 t3
          go_wp2_with fail
          go_ret
          exact ⟨rfl, hl10⟩
      · by_cases hm : hh < 1
        · have Hw := Lib.hid (show hold (sTake L a.tx a.key a.w) a.tx a.key = 1 by rw [Hht.out, hw]; simp; omega)
          rw [hw] at t3
          clear hw Hht
          go_wp2_with fail
          refine (ours_c A4 n4 c4 _ w6 hs46.rr hn4).mono ?_
          rintro e w7 ⟨A7, n7, c7, rfl, hs7, y1⟩
          have ab7 := ab6.on y1
          have hl7 := bel2 hl6 y1
          have hs47 := hs46.on y1
          have hs57 := hs56.on y1
          clear y1 ab6 hl6 hs46 hs56 t0 t1 t2 t3
          go_wp2_with fail
          refine (ours_c A5 n5 c5 _ w7 hs57.rr hn5).mono ?_
          rintro e w8 ⟨A8, n8, c8, rfl, hs8, y1⟩
          have ab8 := ab7.on y1
          have hl8 := bel2 hl7 y1
          have hs48 := hs47.on y1
          have hs78 := hs7.on y1
          clear y1 ab7 hl7 hs47 hs57 hs7
          go_wp2_with fail
          refine (same_c A7 A8 n7 c7 n8 c8 _ w8 hs78.rr hs8.rr).mono ?_
          rintro e w9 ⟨rfl, y1⟩
          have ab9 := ab8.on y1
          have hl9 := bel2 hl8 y1
          have hs49 := hs48.on y1
          clear y1 ab8 hl8 hs48 hs78 hs8
          obtain ⟨t0, t1, t2, t3⟩ := ab9.cells
          have hho := holds_c A4 n4 c4 a.tx a.key _ w9 hs49.rr hn4
          rw [Hw.out] at hho
          go_wp2_with fail
          refine hho.mono ?_
          rintro e w10 ⟨rfl, y1⟩
          have hl10 := bel2 hl9 y1
          clear hho y1 hl9 hs49 ab9 t0 t1 t2 t3
          go_wp2_with fail
          go_ret
          exact ⟨rfl, hl10⟩
        · have Hw := Lib.hid (show hold (sTake L a.tx a.key a.w) a.tx a.key = hh by rw [Hht.out, hw]; simp; omega)
          have hq : (hh == hh) = true := by simp
          rw [hw] at t3
          clear hw Hht
          go_wp2_with fail
          refine (ours_c A4 n4 c4 _ w6 hs46.rr hn4).mono ?_
          rintro e w7 ⟨A7, n7, c7, rfl, hs7, y1⟩
          have ab7 := ab6.on y1
          have hl7 := bel2 hl6 y1
          have hs47 := hs46.on y1
          have hs57 := hs56.on y1
          clear y1 ab6 hl6 hs46 hs56 t0 t1 t2 t3
          go_wp2_with fail
          refine (ours_c A5 n5 c5 _ w7 hs57.rr hn5).mono ?_
          rintro e w8 ⟨A8, n8, c8, rfl, hs8, y1⟩
          have ab8 := ab7.on y1
          have hl8 := bel2 hl7 y1
          have hs48 := hs47.on y1
          have hs78 := hs7.on y1
          clear y1 ab7 hl7 hs47 hs57 hs7
          go_wp2_with fail
          refine (same_c A7 A8 n7 c7 n8 c8 _ w8 hs78.rr hs8.rr).mono ?_
          rintro e w9 ⟨rfl, y1⟩
          have ab9 := ab8.on y1
          have hl9 := bel2 hl8 y1
          have hs49 := hs48.on y1
          clear y1 ab8 hl8 hs48 hs78 hs8
          obtain ⟨t0, t1, t2, t3⟩ := ab9.cells
          have hho := holds_c A4 n4 c4 a.tx a.key _ w9 hs49.rr hn4
          rw [Hw.out] at hho
          go_wp2_with fail
          refine hho.mono ?_
          rintro e w10 ⟨rfl, y1⟩
          have hl10 := bel2 hl9 y1
          clear hho y1 hl9 hs49 ab9 t0 t1 t2 t3
          go_wp2_with fail
          go_ret
          exact ⟨rfl, hl10⟩
    · have he1 : (eTake L a.tx a.key a.w != 0) = true := by simp [he]
      generalize eTake L a.tx a.key a.w = ee at *
      clear he
      go_wp2_with fail
      go_ret
      exact ⟨rfl, hl4⟩
end Go.Proofs.Ytifppmpknnpmpaa
