/-
  Deltas in memory; keysInRange, Get, Right and copyOf of package ledger, keys of layer 8's laws. Condition: the deltas can be read, a hundred thousand at most.
-/
import Derived.Test.YtealcccjnmfkcaaYDlA
import Derived.Test.YtealcccjnmfkcaaRows
import Derived.Test.YtealcccjnmfkcaaLgM
import Derived.Test.YtealcccjnmfkcaaYRow
set_option linter.unusedVariables false
set_option linter.unusedSimpArgs false
namespace Go.Proofs.Ytealcccjnmfkcaa
open Go.RowKit

/-- A call gave a ledger and a number back. -/
def TPost (w : World) (L : List Dl) (k : Int) (e : Ending) (w' : World) : Prop :=
  ∃ A n c, e = .returned (.tuple #[.slice A n c, .int .i64 k]) ∧ DR w' A n c L ∧ Below w.heap.size w w'

set_option maxRecDepth 100000 in
set_option maxHeartbeats 1000000 in
theorem keysIn_c (A : Option Addr) (n c : Nat) (L : List Dl) (w : World) (h : DR w A n c L) (hn : n ≤ 100000) :
    Calls Try.prog 117 #[.slice A n c] w fun e w' => e = .returned (.bool (keysB L)) ∧ Below w.heap.size w w' := by
  have hlen := Lib.hid h.len
  go_enter Try.func117, Try.ntmps117
  go_wp2_with fail
  go_loopw [7] (fun i wr => ∃ j : Nat, j ≤ n ∧ i = .int .i64 j ∧ KeysP (L.take j) ∧ Below w.heap.size w wr) (fun i _ => n - (intOf i).toNat)
  case atStart => exact ⟨0, by omega, rfl, keys_nil, Below.refl _ _⟩
  case round =>
    obtain ⟨j, hj, rfl, hal, hlow⟩ := hrel
    have Hal := Lib.hid hal
    clear hal
    by_cases hlt : j < n
    · obtain ⟨g, off, rfl, d1, d2⟩ := (h.on hlow).at2 hlt
      have htk := Lib.hid (tk_take (L := L) (j := j) (by rw [hlen.out]; exact hlt))
      generalize tk L j = x at *
      have hl1 := Lib.hid (bel2 hlow (belA wr (.cells #[.int .u8 x.k, .int .i64 x.b] 102)))
      clear hlow
      by_cases hk : x.k < 64
      · have hk1 : ¬ (64 : Int) ≤ x.k := by omega
        have Hn := Lib.hid (show KeysP (L.take (j + 1)) by rw [htk.out]; exact keys_snoc.2 ⟨Hal.out, hk⟩)
        clear hk
        go_wp2_with fail
        go_roundw
        case rel => exact ⟨j + 1, by omega, by go_num, Hn.out, hl1.out⟩
        case measure => simp [intOf]; omega
      · have hk1 : (64 : Int) ≤ x.k := by omega
        have Hf := Lib.hid (show keysB L = false by rw [keysB_no]; exact keys_no_pre (j := j + 1) (by rw [htk.out]; exact fun k => hk (keys_snoc.1 k).2))
        clear hk
        go_wp2_with fail
        go_ret
        exact ⟨by rw [Hf.out]; rfl, hl1.out⟩
    · obtain rfl : j = n := by omega
      have Hr := Lib.hid (show keysB L = true by
        have := Hal.out
        rw [take_all hlen.out] at this
        exact keysB_iff.2 this)
      go_wp2_with fail
      go_ret
      exact ⟨by rw [Hr.out]; rfl, hlow⟩

set_option maxRecDepth 100000 in
set_option maxHeartbeats 1000000 in
theorem get_c (A : Option Addr) (n c : Nat) (k : Int) (L : List Dl) (w : World) (h : DR w A n c L) (hn : n ≤ 100000) :
    Calls Try.prog 39 #[.slice A n c, .int .u8 k] w fun e w' => e = .returned (.int .i64 (getD L k)) ∧ Below w.heap.size w w' := by
  have hlen := Lib.hid h.len
  go_enter Try.func39, Try.ntmps39
  go_wp2_with fail
  go_loopw [9] (fun i wr => ∃ j : Nat, j ≤ n ∧ i = .int .i64 j ∧ (∀ q ∈ L.take j, q.k ≠ k) ∧ Below w.heap.size w wr) (fun i _ => n - (intOf i).toNat)
  case atStart => exact ⟨0, by omega, rfl, fun q hq => by simp at hq, Below.refl _ _⟩
  case round =>
    obtain ⟨j, hj, rfl, hal, hlow⟩ := hrel
    have Hal := Lib.hid hal
    clear hal
    by_cases hlt : j < n
    · obtain ⟨g, off, rfl, d1, d2⟩ := (h.on hlow).at2 hlt
      have hjl : j < L.length := by rw [hlen.out]; exact hlt
      have htk := Lib.hid (tk_take (L := L) hjl)
      have Hst := Lib.hid (fun hx : (tk L j).k = k => get_stop hjl Hal.out hx)
      generalize tk L j = x at *
      have hl1 := Lib.hid (bel2 hlow (belA wr (.cells #[.int .u8 x.k, .int .i64 x.b] 102)))
      clear hlow
      by_cases hk : x.k = k
      · have hk1 : (x.k == k) = true := by simp [hk]
        have Hr := Lib.hid (Hst.out hk)
        clear hk Hst
        go_wp2_with fail
        go_ret
        exact ⟨by rw [Hr.out]; rfl, hl1.out⟩
      · have hk1 : (x.k == k) = false := by simp [hk]
        have Hn := Lib.hid (show ∀ q ∈ L.take (j + 1), q.k ≠ k by
          rw [htk.out]
          intro q hq
          rcases List.mem_append.1 hq with hq | hq
          · exact Hal.out q hq
          · simp at hq; subst hq; exact hk)
        clear hk Hst
        go_wp2_with fail
        go_roundw
        case rel => exact ⟨j + 1, by omega, by go_num, Hn.out, hl1.out⟩
        case measure => simp [intOf]; omega
    · obtain rfl : j = n := by omega
      have hr := Lib.hid (show getD L k = 0 by
        have := Hal.out
        rw [take_all hlen.out] at this
        exact get_miss this)
      go_wp2_with fail
      go_ret
      exact ⟨by rw [hr.out]; rfl, hlow⟩

set_option maxHeartbeats 400000 in
theorem copy_o (A : Option Addr) (n c : Nat) (L : List Dl) (w : World) (h : DR w A n c L) (hn : n ≤ 100000) :
    Calls Try.prog 118 #[.slice A n c] w fun e w' => ∃ v, e = .returned v ∧ OS w 102 2 (rc dc L) v w' := by
  obtain ⟨i0, hi0, hz0, hz1, hz2⟩ := info_parts Try.infoD
  have p1 : 0 + n ≤ maxLen := by simp only [maxLen]; omega
  have p2 : (0 + n) * 16 ≤ 140737488355328 := by omega
  have p03 : 0 < 2 := by omega
  have hsrc := h.src
  have hz := Nat.zero_add n
  clear h
  go_enter Try.func118, Try.ntmps118
  go_wp2_with (at_builtin; refine wpList_append_src _ rfl (.const (.slice none 0 0)) (.tmp 3) _ rfl 102 i0 _ 2 16 Try.underlying58 hi0 hz0 hz1 hz2 rfl p03 rfl (Seg.nil w _ _) rfl hsrc (rc_one 2 _) p1 p2 n hz ?_; intro A1 c1 G1 w1 hs1 hg1 hm1)
  rw [List.nil_append] at hs1
  have H := Lib.hid (OS.app (w := w) (Below.refl _ _) (fun g e => by cases e) hs1 hg1 hm1)
  clear hs1 hg1 hm1 hsrc
  go_wp2_with fail
  go_ret
  exact ⟨_, rfl, H.out⟩

theorem copyG_c (A : Option Addr) (n c : Nat) (L : List Dl) (w : World) (h : DR w A n c L) (hn : n ≤ 100000) :
    Calls Try.prog 118 #[.slice A n c] w (LPost w L) :=
  (copy_o A n c L w h hn).mono fun e w' ⟨v, h1, h2⟩ => by subst h1; exact RPost.of_os h2
end Go.Proofs.Ytealcccjnmfkcaa
/-
  Right of package ledger. Condition: the deltas can be read, a hundred thousand at most.
-/
set_option linter.unusedVariables false
set_option linter.unusedSimpArgs false
namespace Go.Proofs.Ytealcccjnmfkcaa
open Go.RowKit

theorem rightG_part {L : List Dl} (j : Nat) (h : ¬ RightP (L.take j)) : rightB L = false := rightB_no.2 (right_no_pre h)

set_option maxRecDepth 100000 in
set_option maxHeartbeats 2000000 in
theorem rightG_c (A : Option Addr) (n c : Nat) (L : List Dl) (w : World) (h : DR w A n c L) (hn : n ≤ 100000) :
    Calls Try.prog 116 #[.slice A n c] w fun e w' => e = .returned (.bool (rightB L)) ∧ Below w.heap.size w w' := by
  have hlen := Lib.hid h.len
  go_enter Try.func116, Try.ntmps116
  go_wp2_with fail
  go_loopw [7] (fun i wr => ∃ j : Nat, j ≤ n ∧ i = .int .i64 j ∧ RightP (L.take j) ∧ Below w.heap.size w wr) (fun i _ => n - (intOf i).toNat)
  case atStart => exact ⟨0, by omega, rfl, right_nil, Below.refl _ _⟩
  case round =>
    obtain ⟨j, hj, rfl, hal, hlow⟩ := hrel
    have Hal := Lib.hid hal
    clear hal
    by_cases hlt : j < n
    · obtain ⟨g, off, rfl, d1, d2⟩ := (h.on hlow).at2 hlt
      have hjl : j < L.length := by rw [hlen.out]; exact hlt
      have htk := Lib.hid (tk_take (L := L) hjl)
      generalize tk L j = x at *
      obtain ⟨W1, hW1⟩ : ∃ W1, wr.alloc (.cells #[.int .u8 x.k, .int .i64 x.b] 102) = W1 := ⟨_, rfl⟩
      have k1 : Below wr.heap.size wr W1 := by rw [← hW1]; exact belA wr _
      have cx : CB W1 wr.heap.size 102 #[.int .u8 x.k, .int .i64 x.b] := by rw [← hW1]; exact CB.new wr _ _
      have x0 := cx.cell 0
      have x1 := cx.cell 1
      simp only [List.getElem?_toArray, List.getElem?_cons_zero, List.getElem?_cons_succ] at x0 x1
      have hl1 := Lib.hid (bel2 hlow k1)
      have HW := Lib.hid hW1
      clear hW1 cx
      obtain ⟨i, hi⟩ : ∃ i, i = j - 1 := ⟨_, rfl⟩
      have hin : i < n := by omega
      obtain ⟨g9, off9, hA9, y0, y1⟩ := (h.on hl1.out).at2 hin
      cases hA9
      have htk2 := Lib.hid (fun hj0 : 0 < j => (show L.take j = L.take i ++ [tk L i] by
        have := tk_take (L := L) (j := i) (by omega)
        rwa [show i + 1 = j by omega] at this))
      generalize tk L i = y at *
      clear hlow k1
      by_cases hk : x.k < 64
      · have hk1 : decide ((64 : Int) ≤ x.k) = false := decide_eq_false (by omega)
        by_cases hb : x.b = 0
        · have Hf := Lib.hid (show rightB L = false from rightG_part (j + 1) (by
            rw [htk.out]
            exact fun k => (right_snoc.1 k).2.1.2 hb))
          have hb1 : (x.b == 0) = true := by simp [hb]
          clear hb hi hk
          go_wp2_with fail
          rw [HW.out]
          go_quiet (fail)
          have hl2 := Lib.hid (belowN hl1.out nq)
          clear x0 x1 d1 d2 y0 y1
          go_wp2_with fail
          go_ret
          exact ⟨by rw [Hf.out]; rfl, hl2.out⟩
        · have hb1 : (x.b == 0) = false := by simp [hb]
          by_cases hj0 : 0 < j
          · have hj1 : decide (0 < j) = true := by simp [hj0]
            have hj2 : decide ((0 : Int) < (j : Int)) = true := by simp; omega
            have hji : (j : Int) - 1 = (i : Int) := by omega
            have Htwo := Lib.hid (htk2.out hj0)
            by_cases hyx : x.k ≤ y.k
            · have Hf := Lib.hid (show rightB L = false from rightG_part (j + 1) (by
                rw [htk.out, Htwo.out]
                intro k
                have := (right_two (right_pre k)).1 k
                unfold ltD at this
                omega))
              have hyx1 : decide (x.k ≤ y.k) = true := decide_eq_true hyx
              clear hb hi hk htk2 hyx
              go_wp2_with fail
              rw [HW.out]
              go_quiet (fail)
              have hl2 := Lib.hid (belowN hl1.out nq)
              clear x0 x1 d1 d2 y0 y1
              go_wp2_with fail
              go_ret
              exact ⟨by rw [Hf.out]; rfl, hl2.out⟩
            · have Hn := Lib.hid (show RightP (L.take (j + 1)) by
                rw [htk.out, Htwo.out]
                have hal := Hal.out
                rw [Htwo.out] at hal
                exact (right_two hal).2 ⟨⟨hk, hb⟩, by unfold ltD; omega⟩)
              have hyx1 : decide (x.k ≤ y.k) = false := decide_eq_false hyx
              clear hb hi hk htk2 hyx
              go_wp2_with fail
              rw [HW.out]
              go_quiet (fail)
              have hl2 := Lib.hid (belowN hl1.out nq)
              clear x0 x1 d1 d2 y0 y1
              go_wp2_with fail
              go_roundw
              case rel => exact ⟨j + 1, by omega, by go_num, Hn.out, hl2.out⟩
              case measure => simp [intOf]; omega
          · have hj1 : decide (0 < j) = false := by simp; omega
            have hj2 : decide ((0 : Int) < (j : Int)) = false := by simp; omega
            have Hn := Lib.hid (show RightP (L.take (j + 1)) by
              rw [htk.out]
              obtain rfl : j = 0 := by omega
              exact right_one.2 ⟨hk, hb⟩)
            clear hb hi hk htk2
            go_wp2_with fail
            rw [HW.out]
            go_quiet (fail)
            have hl2 := Lib.hid (belowN hl1.out nq)
            clear x0 x1 d1 d2 y0 y1
            go_wp2_with fail
            go_roundw
            case rel => exact ⟨j + 1, by omega, by go_num, Hn.out, hl2.out⟩
            case measure => simp [intOf]; omega
      · have hk1 : decide ((64 : Int) ≤ x.k) = true := decide_eq_true (by omega)
        have Hf := Lib.hid (show rightB L = false from rightG_part (j + 1) (by
          rw [htk.out]
          exact fun k => hk (right_snoc.1 k).2.1.1))
        clear hi hk
        go_wp2_with fail
        rw [HW.out]
        go_quiet (fail)
        have hl2 := Lib.hid (belowN hl1.out nq)
        clear x0 x1 d1 d2 y0 y1
        go_wp2_with fail
        go_ret
        exact ⟨by rw [Hf.out]; rfl, hl2.out⟩
    · obtain rfl : j = n := by omega
      have Hr := Lib.hid (show rightB L = true by
        have := Hal.out
        rw [take_all hlen.out] at this
        exact rightB_iff.2 this)
      go_wp2_with fail
      go_ret
      exact ⟨by rw [Hr.out]; rfl, hlow⟩
end Go.Proofs.Ytealcccjnmfkcaa
