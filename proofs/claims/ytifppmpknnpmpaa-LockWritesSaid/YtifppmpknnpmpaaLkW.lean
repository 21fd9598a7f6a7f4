/-
  The walk of LockWrites: it returns true. Condition: the two numbers are below 65536, the key below 256.
-/
import Derived.Test.YtifppmpknnpmpaaLkI
set_option linter.unusedVariables false
set_option linter.unusedSimpArgs false
namespace Go.Proofs.Ytifppmpknnpmpaa
open Go.RowKit

theorem wr_1 {a key : Int} (ha : 0 ≤ a ∧ a < 1000) (hk : key < 64) (b : Bool) : eTake [] a key b = 0 ∧ sTake [] a key b = [⟨key, a, b⟩] := by
  have h : eTake [] a key b = 0 := eTake_ok.2 ⟨right_nil, ⟨hk, ha⟩, by simp⟩
  exact ⟨h, by rw [sTake_ok h]; simp [putT, ownH, hold]⟩
theorem wr_2 {a b key : Int} (ha : 0 ≤ a ∧ a < 1000) (hb : 0 ≤ b ∧ b < 1000) (hk : key < 64) (v : Bool) (e : a = b) : eTake [⟨key, a, true⟩] b key v = 0 :=
  eTake_ok.2 ⟨right_one.2 ⟨hk, ha⟩, ⟨hk, hb⟩, fun p hp => by simp at hp; subst hp; simp [way, e]⟩
theorem wr_3 {a b key : Int} (ha : 0 ≤ a ∧ a < 1000) (hb : 0 ≤ b ∧ b < 1000) (hk : key < 64) (v : Bool) (e : a ≠ b) : eTake [⟨key, a, true⟩] b key v = 9 :=
  eTake_lock.2 ⟨right_one.2 ⟨hk, ha⟩, ⟨hk, hb⟩, ⟨key, a, true⟩, by simp, by simp [way, e]⟩
theorem wr_4 (a key : Int) : fre [⟨key, a, true⟩] a = [] := by simp [fre]

set_option maxRecDepth 100000 in
set_option maxHeartbeats 4000000 in
theorem writes_walk (k0 k1 : Nat) (key : Int) (w : World) (h0 : k0 < 65536) (h1 : k1 < 65536) (hk : 0 ≤ key ∧ key ≤ 255) :
    Calls Try.prog 9 #[.agg #[.int .u16 (k0 : Int), .int .u16 (k1 : Int)], .int .u8 key] w fun e w' => e = .returned (.bool true) ∧ Below w.heap.size w w' := by
  obtain ⟨W, hW⟩ : ∃ W, w.alloc (.cells #[.int .u16 (k0 : Int), .int .u16 (k1 : Int)] 53) = W := ⟨_, rfl⟩
  have hbW : Below w.heap.size w W := by rw [← hW]; exact belA w _
  have cx : CB W w.heap.size 53 #[.int .u16 (k0 : Int), .int .u16 (k1 : Int)] := by rw [← hW]; exact CB.new w _ _
  have HW := Lib.hid hW
  clear hW
  go_enter Try.func9, Try.ntmps9
  go_wp2_with fail
  rw [HW.out]
  refine (alive_c W).mono ?_
  rintro e w1 ⟨rfl, hb1⟩
  have cx1 := cx.same (hb1.block _ cx.lt)
  have hl1 := bel2 hbW hb1
  clear cx hbW hb1 HW
  have x0 := cx1.cell 0
  have x1 := cx1.cell 1
  simp only [List.getElem?_toArray, List.getElem?_cons_zero, List.getElem?_cons_succ] at x0 x1
  go_wp2_with fail
  go_region
  obtain ⟨a, ha⟩ : ∃ a : Int, (k0 : Int) % 1000 = a := ⟨_, rfl⟩
  obtain ⟨b, hb⟩ : ∃ b : Int, (k1 : Int) % 1000 = b := ⟨_, rfl⟩
  obtain ⟨q, hq⟩ : ∃ q : Int, key % 64 = q := ⟨_, rfl⟩
  have ha1 : 0 ≤ a ∧ a < 1000 := by omega
  have hb1 : 0 ≤ b ∧ b < 1000 := by omega
  have hq1 : q < 64 := by omega
  rw [ha, hb]
  have hl2 := belowD hl1
  clear ha hb hl1 x0 x1 cx1 h0 h1
  generalize w1.drew = w2 at *
  have Ha := Lib.hid ha1
  have Hb := Lib.hid hb1
  have Hq := Lib.hid hq1
  clear ha1 hb1 hq1
  have tk1 := take_c none 0 0 a q true [] w2 (RR.nil w2 hc 3) (by omega)
  rw [(wr_1 Ha.out Hq.out true).1, (wr_1 Ha.out Hq.out true).2] at tk1
  go_wp2_with fail
  try rw [hq]
  refine tk1.mono ?_
  rintro e w3 ⟨A3, n3, c3, rfl, hs3, y1⟩
  obtain rfl : n3 = 1 := hs3.len.symm
  have hl3 := bel2 hl2 y1
  clear tk1 hl2 y1
  by_cases hab : a = b
  · have hab1 : (a == b) = true := by simp [hab]
    have tk2 := take_c A3 1 c3 b q false _ w3 hs3.rr (by omega)
    rw [wr_2 Ha.out Hb.out Hq.out false hab] at tk2
    have E3 := Lib.hid (wr_2 Ha.out Hb.out Hq.out true hab)
    clear hab
    go_wp2_with fail
    try rw [hq]
    refine tk2.mono ?_
    rintro e w4 ⟨A4, n4, c4, rfl, hs4, y1⟩
    have hl4 := bel2 hl3 y1
    have hs34 := hs3.on y1
    clear tk2 hl3 y1 hs4 hs3
    have tk3 := take_c A3 1 c3 b q true _ w4 hs34.rr (by omega)
    rw [E3.out] at tk3
    go_wp2_with fail
    try rw [hq]
    refine tk3.mono ?_
    rintro e w5 ⟨A5, n5, c5, rfl, hs5, y1⟩
    have hl5 := bel2 hl4 y1
    have hs35 := hs34.on y1
    clear tk3 hl4 y1 hs5 hs34
    have fr := free_c A3 1 c3 a _ w5 hs35.rr (by omega)
    rw [wr_4] at fr
    go_wp2_with fail
    refine fr.mono ?_
    rintro e w6 ⟨A6, n6, c6, rfl, hs6, y1⟩
    obtain rfl : n6 = 0 := hs6.len.symm
    have hl6 := bel2 hl5 y1
    clear fr hl5 y1 hs35
    have tk4 := take_c A6 0 c6 b q true [] w6 hs6.rr (by omega)
    rw [(wr_1 Hb.out Hq.out true).1, (wr_1 Hb.out Hq.out true).2] at tk4
    go_wp2_with fail
    try rw [hq]
    refine tk4.mono ?_
    rintro e w7 ⟨A7, n7, c7, rfl, hs7, y1⟩
    have hl7 := bel2 hl6 y1
    clear tk4 hl6 y1 hs6 hs7
    go_wp2_with fail
    go_ret
    exact ⟨rfl, hl7⟩
  · have hab1 : (a == b) = false := by simp [hab]
    have tk2 := take_c A3 1 c3 b q false _ w3 hs3.rr (by omega)
    rw [wr_3 Ha.out Hb.out Hq.out false hab] at tk2
    have E3 := Lib.hid (wr_3 Ha.out Hb.out Hq.out true hab)
    clear hab
    go_wp2_with fail
    try rw [hq]
    refine tk2.mono ?_
    rintro e w4 ⟨A4, n4, c4, rfl, hs4, y1⟩
    have hl4 := bel2 hl3 y1
    have hs34 := hs3.on y1
    clear tk2 hl3 y1 hs4 hs3
    have tk3 := take_c A3 1 c3 b q true _ w4 hs34.rr (by omega)
    rw [E3.out] at tk3
    go_wp2_with fail
    try rw [hq]
    refine tk3.mono ?_
    rintro e w5 ⟨A5, n5, c5, rfl, hs5, y1⟩
    have hl5 := bel2 hl4 y1
    have hs35 := hs34.on y1
    clear tk3 hl4 y1 hs5 hs34
    have fr := free_c A3 1 c3 a _ w5 hs35.rr (by omega)
    rw [wr_4] at fr
    go_wp2_with fail
    refine fr.mono ?_
    rintro e w6 ⟨A6, n6, c6, rfl, hs6, y1⟩
    obtain rfl : n6 = 0 := hs6.len.symm
    have hl6 := bel2 hl5 y1
    clear fr hl5 y1 hs35
    have tk4 := take_c A6 0 c6 b q true [] w6 hs6.rr (by omega)
    rw [(wr_1 Hb.out Hq.out true).1, (wr_1 Hb.out Hq.out true).2] at tk4
    go_wp2_with fail
    try rw [hq]
    refine tk4.mono ?_
    rintro e w7 ⟨A7, n7, c7, rfl, hs7, y1⟩
    have hl7 := bel2 hl6 y1
    clear tk4 hl6 y1 hs6 hs7
    go_wp2_with fail
    go_ret
    exact ⟨rfl, hl7⟩
end Go.Proofs.Ytifppmpknnpmpaa
