/-
  The document's Right, Deltas, Same and Effect of layer 9. Condition: the deltas can be read, a thousand at most where they are copied.
-/
import Derived.Test.YtealcccjnmfkcaaYPtE
import Derived.Deep.CutRange
set_option linter.unusedVariables false
set_option linter.unusedSimpArgs false
namespace Go.Proofs.Ytealcccjnmfkcaa
open Go.RowKit

theorem ok_calc {s : Int} {L : List Dl} {l : Bool} {o : Int} (hk : KeysP L) (hn : L.length ≤ 50) : okP ⟨s, L, l, o⟩ = (stB s && loB s l && ouB s o) := by
  unfold okP
  rw [show adB L = true from ad_of hn hk]
  simp
theorem ok_keys_no {s : Int} {L : List Dl} {l : Bool} {o : Int} (hk : ¬ KeysP L) : okP ⟨s, L, l, o⟩ = false := ok_no2 (by
  cases h : adB L with
  | false => rfl
  | true => exact absurd (ad_len h).2 hk)
theorem ok_len_no {s : Int} {L : List Dl} {l : Bool} {o : Int} (hk : ¬ L.length ≤ 50) : okP ⟨s, L, l, o⟩ = false := ok_no2 (by
  cases h : adB L with
  | false => rfl
  | true => exact absurd (ad_len h).1 hk)

set_option maxRecDepth 100000 in
set_option maxHeartbeats 2000000 in
theorem rightR_c (s : Int) (A : Option Addr) (n c : Nat) (l : Bool) (o : Int) (L : List Dl) (w : World) (h : DR w A n c L) :
    Calls Try.prog 104 #[.agg #[.int .i64 s, .slice A n c, .bool l, .int .i64 o]] w fun e w' => e = .returned (.bool (okP ⟨s, L, l, o⟩)) ∧ Below w.heap.size w w' := by
  have hlen := Lib.hid h.len
  have hmx : n ≤ maxLen := Nat.le_trans h.cap h.max
  simp only [maxLen] at hmx
  obtain ⟨W, hW⟩ : ∃ W, w.alloc (.cells #[.int .i64 s, .slice A n c, .bool l, .int .i64 o] 95) = W := ⟨_, rfl⟩
  have hp : PB W (w.heap.size) 95 s A n c l o := by
    rw [← hW]
    have := (PB.new w 95 s A n c l o)
    simpa using this
  have hb : Below w.heap.size w W := by rw [← hW]; exact belA _ _
  have hS := Lib.hid (show W.heap.size = w.heap.size + 1 by rw [← hW]; simp)
  have HW := Lib.hid hW
  clear hW
  have hd := h.on hb
  clear hS
  go_enter Try.func104, Try.ntmps104
  go_wp2_with fail
  rw [HW.out]
  go_loopw [3] (fun i wr => ∃ j : Nat, j ≤ n ∧ i = .int .i64 j ∧ KeysP (L.take j) ∧ wr = W) (fun i _ => n - (intOf i).toNat)
  case atStart => exact ⟨0, by omega, rfl, keys_nil, rfl⟩
  case round =>
    obtain ⟨j, hj, rfl, hal, rfl⟩ := hrel
    obtain ⟨c0, c1, c2, c3⟩ := hp.cells
    have Hal := Lib.hid hal
    have Hb := Lib.hid hb
    have Hp := Lib.hid hp
    clear hal hb hp HW
    by_cases hlt : j < n
    · obtain ⟨g, off, rfl, d1, d2⟩ := hd.at2 hlt
      have htk := Lib.hid (tk_take (L := L) (j := j) (by rw [hlen.out]; exact hlt))
      generalize tk L j = x at *
      by_cases hk : x.k < 64
      · have hk1 : ¬ (64 : Int) ≤ x.k := by omega
        have Hn := Lib.hid (show KeysP (L.take (j + 1)) by rw [htk.out]; exact keys_snoc.2 ⟨Hal.out, hk⟩)
        clear hk
        go_wp2_with fail
        go_roundw
        case rel => exact ⟨j + 1, by omega, by go_num, Hn.out, trivial⟩
        case measure => simp [intOf]; omega
      · have hk1 : (64 : Int) ≤ x.k := by omega
        have Hf := Lib.hid (show okP ⟨s, L, l, o⟩ = false from ok_keys_no (keys_no_pre (j := j + 1) (by rw [htk.out]; exact fun k => hk (keys_snoc.1 k).2)))
        clear hk
        go_wp2_with fail
        go_ret
        exact ⟨by rw [Hf.out]; rfl, Hb.out⟩
    · obtain rfl : j = n := by omega
      have Hk := Lib.hid (show KeysP L by have := Hal.out; rw [take_all hlen.out] at this; exact this)
      clear Hal hj hlt
      have hjj : ¬ (j : Int) < (j : Int) := by omega
      by_cases hs1 : s < 0
      · have H := Lib.hid (show okP ⟨s, L, l, o⟩ = false from ok_no1 (by unfold stB; simp; omega))
        have q1 : decide (s < 0) = true := by simp; omega
        clear hs1
        go_wp2_with fail
        go_ret
        exact ⟨by rw [H.out]; rfl, Hb.out⟩
      have q1 : decide (s < 0) = false := by simp; omega
      by_cases hs2 : 3 < s
      · have H := Lib.hid (show okP ⟨s, L, l, o⟩ = false from ok_no1 (by unfold stB; simp; omega))
        have q2 : decide (3 < s) = true := by simp; omega
        clear hs1 hs2
        go_wp2_with fail
        go_ret
        exact ⟨by rw [H.out]; rfl, Hb.out⟩
      have q2 : decide (3 < s) = false := by simp; omega
      by_cases hn : 50 < j
      · have H := Lib.hid (show okP ⟨s, L, l, o⟩ = false from ok_len_no (by rw [hlen.out]; omega))
        have q3 : (50 : Int) < (j : Int) := by omega
        clear hs1 hs2 hn
        go_wp2_with fail
        go_ret
        exact ⟨by rw [H.out]; rfl, Hb.out⟩
      have q3 : ¬ (50 : Int) < (j : Int) := by omega
      have Ho := Lib.hid (show okP ⟨s, L, l, o⟩ = (stB s && loB s l && ouB s o) from ok_calc Hk.out (by rw [hlen.out]; omega))
      clear hn Hk
      rcases (show s = 0 ∨ s = 1 ∨ s = 2 ∨ s = 3 by omega) with rfl | rfl | rfl | rfl
      · cases l with
        | true =>
          have H := Lib.hid (Ho.out.trans (show _ = false by rfl))
          clear Ho hs1 hs2
          go_wp2_with fail
          go_ret
          exact ⟨by rw [H.out]; rfl, Hb.out⟩
        | false =>
          have H := Lib.hid (Ho.out.trans (show _ = (o == 0) by simp [stB, loB, ouB]))
          clear Ho hs1 hs2
          go_wp2_with fail
          go_ret
          exact ⟨by rw [H.out]; rfl, Hb.out⟩
      · cases l with
        | true =>
          have H := Lib.hid (Ho.out.trans (show _ = (o == 0) by simp [stB, loB, ouB]))
          clear Ho hs1 hs2
          go_wp2_with fail
          go_ret
          exact ⟨by rw [H.out]; rfl, Hb.out⟩
        | false =>
          have H := Lib.hid (Ho.out.trans (show _ = (o == 0) by simp [stB, loB, ouB]))
          clear Ho hs1 hs2
          go_wp2_with fail
          go_ret
          exact ⟨by rw [H.out]; rfl, Hb.out⟩
      · cases l with
        | true =>
          have H := Lib.hid (Ho.out.trans (show _ = false by rfl))
          clear Ho hs1 hs2
          go_wp2_with fail
          go_ret
          exact ⟨by rw [H.out]; rfl, Hb.out⟩
        | false =>
          have H := Lib.hid (Ho.out.trans (show _ = (o == 0) by simp [stB, loB, ouB]))
          clear Ho hs1 hs2
          go_wp2_with fail
          go_ret
          exact ⟨by rw [H.out]; rfl, Hb.out⟩
      · cases l with
        | true =>
          by_cases ho : o = 1
          · have ho1 : (o == 1) = true := by simp [ho]
            have H := Lib.hid (Ho.out.trans (show _ = true by simp [stB, loB, ouB, deB, ho]))
            clear ho Ho hs1 hs2
            go_wp2_with fail
            go_ret
            exact ⟨by rw [H.out]; rfl, Hb.out⟩
          · have ho1 : (o == 1) = false := by simp [ho]
            have H := Lib.hid (Ho.out.trans (show _ = (o == 2) by simp [stB, loB, ouB, deB, ho]))
            clear ho Ho hs1 hs2
            go_wp2_with fail
            go_ret
            exact ⟨by rw [H.out]; rfl, Hb.out⟩
        | false =>
          by_cases ho : o = 1
          · have ho1 : (o == 1) = true := by simp [ho]
            have H := Lib.hid (Ho.out.trans (show _ = true by simp [stB, loB, ouB, deB, ho]))
            clear ho Ho hs1 hs2
            go_wp2_with fail
            go_ret
            exact ⟨by rw [H.out]; rfl, Hb.out⟩
          · have ho1 : (o == 1) = false := by simp [ho]
            have H := Lib.hid (Ho.out.trans (show _ = (o == 2) by simp [stB, loB, ouB, deB, ho]))
            clear ho Ho hs1 hs2
            go_wp2_with fail
            go_ret
            exact ⟨by rw [H.out]; rfl, Hb.out⟩

set_option maxRecDepth 100000 in
set_option maxHeartbeats 1000000 in
theorem deltas_c (A A' : Option Addr) (n c n' c' : Nat) (L : List Dl) (w : World) (h1 : DR w A n c L) (h2 : DR w A' n' c' L) :
    Calls Try.prog 61 #[.slice A n c, .slice A' n' c'] w fun e w' => e = .returned (.bool true) ∧ Below w.heap.size w w' := by
  obtain rfl : n = n' := h1.len.symm.trans h2.len
  have hmx : n ≤ maxLen := Nat.le_trans h1.cap h1.max
  simp only [maxLen] at hmx
  have hnn : ((n : Int) != (n : Int)) = false := by simp
  go_enter Try.func61, Try.ntmps61
  go_wp2_with fail
  go_loopw [5] (fun i wr => ∃ j : Nat, j ≤ n ∧ i = .int .i64 j ∧ Below w.heap.size w wr) (fun i _ => n - (intOf i).toNat)
  case atStart => exact ⟨0, by omega, rfl, Below.refl _ _⟩
  case round =>
    obtain ⟨j, hj, rfl, hlow⟩ := hrel
    by_cases hlt : j < n
    · obtain ⟨g, off, rfl, d1, d2⟩ := (h1.on hlow).at2 hlt
      obtain ⟨g', off', rfl, d4, d5⟩ := (h2.on hlow).at2 hlt
      generalize tk L j = x at *
      obtain ⟨xk, xb⟩ := x
      simp only at d1 d2 d4 d5
      go_wp2_with fail
      go_quiet (fail)
      have hl2 := Lib.hid (belowN hlow nq)
      clear hlow d1 d2 d4 d5
      go_wp2_with fail
      go_roundw
      case rel => exact ⟨j + 1, by omega, by go_num, hl2.out⟩
      case measure => simp [intOf]; omega
    · obtain rfl : j = n := by omega
      go_wp2_with fail
      go_ret
      exact ⟨rfl, hlow⟩

set_option maxRecDepth 100000 in
set_option maxHeartbeats 1000000 in
theorem same_c (s : Int) (A : Option Addr) (n c : Nat) (A' : Option Addr) (n' c' : Nat) (l : Bool) (o : Int) (L : List Dl) (w : World) (h1 : DR w A n c L) (h2 : DR w A' n' c' L) :
    Calls Try.prog 38 #[.agg #[.int .i64 s, .slice A n c, .bool l, .int .i64 o], .agg #[.int .i64 s, .slice A' n' c', .bool l, .int .i64 o]] w fun e w' => e = .returned (.bool true) ∧ Below w.heap.size w w' := by
  obtain ⟨W, hW⟩ : ∃ W, (w.alloc (.cells #[.int .i64 s, .slice A n c, .bool l, .int .i64 o] 95)).alloc (.cells #[.int .i64 s, .slice A' n' c', .bool l, .int .i64 o] 95) = W := ⟨_, rfl⟩
  have hp : PB W (w.heap.size) 95 s A n c l o := by
    rw [← hW]
    have := ((PB.new w 95 s A n c l o).alloc (.cells #[.int .i64 s, .slice A' n' c', .bool l, .int .i64 o] 95))
    simpa using this
  have hq : PB W (w.heap.size + 1) 95 s A' n' c' l o := by
    rw [← hW]
    have := (PB.new (w.alloc (.cells #[.int .i64 s, .slice A n c, .bool l, .int .i64 o] 95)) 95 s A' n' c' l o)
    simpa using this
  have hb : Below w.heap.size w W := by rw [← hW]; exact bel2 (belA _ _) (belA _ _)
  have hS := Lib.hid (show W.heap.size = w.heap.size + 2 by rw [← hW]; simp)
  have HW := Lib.hid hW
  clear hW
  have hc := deltas_c A A' n c n' c' L W (h1.on hb) (h2.on hb)
  obtain ⟨c0, c1, c2, c3⟩ := hp.cells
  obtain ⟨d0, d1, d2, d3⟩ := hq.cells
  have e0 : (s == s) = true := by simp
  have e1 : (l == l) = true := by simp
  have e2 : (o == o) = true := by simp
  have Hb := Lib.hid hb
  clear hS hb hp hq
  go_enter Try.func38, Try.ntmps38
  go_wp2_with fail
  rw [HW.out]
  go_wp2_with fail
  refine hc.mono ?_
  rintro e w1 ⟨rfl, b1⟩
  have H := Lib.hid (bel2 Hb.out b1)
  clear hc b1
  go_wp2_with fail
  go_ret
  exact ⟨rfl, H.out⟩

end Go.Proofs.Ytealcccjnmfkcaa
