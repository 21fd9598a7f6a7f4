/-
  Next of package wheel; without, Right and Same of the document's answer. Condition: the timers can be read, a hundred thousand at most.
-/
import Derived.Test.YtgpmgghjcocfmaaWhE
set_option linter.unusedVariables false
set_option linter.unusedSimpArgs false
namespace Go.Proofs.Ytgpmgghjcocfmaa
open Go.RowKit

def xNext (now : Int) (L : List (Int × Int)) : Int := if rightB now L = true ∧ 0 < L.length then (tk L 0).2 - now else 0
def bNext (now : Int) (L : List (Int × Int)) : Bool := rightB now L && decide (0 < L.length)

set_option maxRecDepth 100000 in
set_option maxHeartbeats 2000000 in
theorem next_w (now : Int) (A : Option Addr) (n c : Nat) (L : List (Int × Int)) (w : World) (h : TR w A n c L) (hn : n ≤ 100000) :
    Calls Try.prog 18 #[.agg #[.int .i64 now, .slice A n c]] w fun e w' => e = .returned (.tuple #[.int .i64 (xNext now L), .bool (bNext now L)]) ∧ Below w.heap.size w w' := by
  obtain ⟨W, hW, bx, hb0⟩ := boxed w 28 now A n c
  have HW := Lib.hid hW
  clear hW
  have hr := right_w now A n c L W (h.on hb0) hn
  have hTL := h.len
  cases hR : rightB now L with
  | false =>
    have e1 : xNext now L = 0 := by unfold xNext; rw [hR]; simp
    have e2 : bNext now L = false := by unfold bNext; rw [hR]; rfl
    rw [e1, e2]
    rw [hR] at hr
    clear e1 e2 hR
    go_enter Try.func18, Try.ntmps18
    go_wp2_with fail
    rw [HW.out]
    refine hr.mono ?_
    rintro e w1 ⟨rfl, hb1⟩
    have hbl1 := bel2 hb0 hb1
    clear hr bx hb0 hb1 h
    go_wp2_with fail
    go_ret2
    exact ⟨rfl, hbl1⟩
  | true =>
    rw [hR] at hr
    obtain ⟨_, n0, n1, hA, _, _⟩ := rightB_iff.1 hR
    simp only [lastT] at n1
    rcases Nat.eq_zero_or_pos n with h0 | h0
    · have e1 : xNext now L = 0 := by unfold xNext; rw [hTL, h0]; simp
      have e2 : bNext now L = false := by unfold bNext; rw [hR, hTL, h0]; rfl
      rw [e1, e2]
      subst h0
      clear e1 e2 hR hA
      go_enter Try.func18, Try.ntmps18
      go_wp2_with fail
      rw [HW.out]
      refine hr.mono ?_
      rintro e w1 ⟨rfl, hb1⟩
      have bx1 := bx.on hb1 bx.lt
      obtain ⟨d0, d1⟩ := bx1.cells
      have hbl1 := bel2 hb0 hb1
      clear hr bx hb0 hb1 h
      go_wp2_with fail
      go_ret2
      exact ⟨rfl, hbl1⟩
    · have hL0 : 0 < L.length := by omega
      have e1 : xNext now L = (tk L 0).2 - now := by unfold xNext; rw [if_pos ⟨hR, hL0⟩]
      have e2 : bNext now L = true := by unfold bNext; rw [hR]; simp; omega
      have hA0 := hA _ (tk_mem hL0)
      simp only [lastT] at hA0
      rw [e1, e2]
      obtain ⟨xk, xv, hx⟩ : ∃ xk xv, tk L 0 = (xk, xv) := ⟨_, _, rfl⟩
      rw [hx] at hA0 ⊢
      simp only at hA0 ⊢
      clear e1 e2 hR hA
      have hnz : ((n : Int) == 0) = false := by rw [beq_eq_false_iff_ne]; omega
      go_enter Try.func18, Try.ntmps18
      go_wp2_with fail
      rw [HW.out]
      refine hr.mono ?_
      rintro e w1 ⟨rfl, hb1⟩
      have bx1 := bx.on hb1 bx.lt
      obtain ⟨d0, d1⟩ := bx1.cells
      have hbl1 := bel2 hb0 hb1
      obtain ⟨g, off, rfl, _, z0, z1⟩ := (h.on hbl1).at_ h0
      simp only [Nat.zero_mul, Nat.add_zero] at z0 z1
      rw [hx] at z0 z1
      simp only at z0 z1
      clear hx hr bx hb0 hb1 h
      go_wp2_with fail
      go_quiet (fail)
      go_wp2_with fail
      go_ret2
      exact ⟨rfl, belowN hbl1 _⟩

/-- What the document's 'without' answers. -/
def UPost (w : World) (L : List (Int × Int)) (b : Bool) (e : Ending) (w' : World) : Prop :=
  ∃ A n c, e = .returned (.tuple #[.slice A n c, .bool b]) ∧ TS w' 46 A n c L ∧ Below w.heap.size w w'
theorem UPost.of_os {w : World} {L : List (Int × Int)} {b : Bool} {v : Value} {W : World} (h : OS w 46 2 (tc L) v W) (hw : wfL L) : UPost w L b (.returned (.tuple #[v, .bool b])) W := by
  obtain ⟨⟨A, m, c, G, h1, h2, h3⟩, h4⟩ := h
  exact ⟨A, m, c, by rw [h1], ⟨hw, G, h2⟩, h4⟩
theorem has_snoc (M : List (Int × Int)) (x : Int × Int) (id : Int) : hasL (M ++ [x]) id = (hasL M id || x.1 == id) := by simp [hasL]

set_option maxRecDepth 100000 in
set_option maxHeartbeats 1000000 in
theorem without_r (A : Option Addr) (n c : Nat) (id : Int) (L : List (Int × Int)) (w : World) (h : TR w A n c L) (hn : n ≤ 100000) :
    Calls Try.prog 27 #[.slice A n c, .int .i64 id] w (UPost w (delL L id) (hasL L id)) := by
  have hlen := Lib.hid h.len
  obtain ⟨i0, hi0, hz0, hz1, hz2⟩ := info_parts Try.infoR
  go_enter Try.func27, Try.ntmps27
  go_wp2_with fail
  go_loopw [6, 7, 8] (fun v b i wr => ∃ j : Nat, j ≤ n ∧ i = .int .i64 j ∧ b = .bool (hasL (L.take j) id) ∧ OS w 46 2 (tc (delL (L.take j) id)) v wr) (fun _ _ i _ => n - (intOf i).toNat)
  case atStart => exact ⟨0, by omega, rfl, rfl, OS.start w _ _ (Below.refl _ _)⟩
  case round =>
    obtain ⟨j, hj, rfl, rfl, hos⟩ := hrel
    by_cases hlt : j < n
    · obtain ⟨g, off, rfl, _, d1, d2⟩ := (h.on hos.low).at_ hlt
      have htk := Lib.hid (tk_take (L := L) (j := j) (by rw [hlen.out]; exact hlt))
      have hlow := hos.low
      have hml := Lib.hid (show (delL (L.take j) id).length ≤ j by have := length_del_le (L.take j) id; rw [List.length_take] at this; omega)
      obtain ⟨A0, m, c0, G, rfl, hsg, hG⟩ := hos.out
      have hm := hml.out
      rw [tc_len2 hsg] at hm
      generalize tk L j = x at *
      obtain ⟨xk, xv⟩ := x
      simp only at d1 d2
      have Hh := Lib.hid (show hasL (L.take (j + 1)) id = (hasL (L.take j) id || xk == id) by rw [htk.out]; exact has_snoc _ _ _)
      generalize hasL (L.take j) id = bb at *
      by_cases hxk : xk = id
      · have Hnx := Lib.hid (show delL (L.take (j + 1)) id = delL (L.take j) id by rw [htk.out]; exact del_skip hxk)
        have Hh2 := Lib.hid (show hasL (L.take (j + 1)) id = true by rw [Hh.out, hxk]; simp)
        have hne : (xk == id) = true := by simp [hxk]
        have hnos := Lib.hid hos
        clear hxk hlow hsg hos hG
        go_wp2_with fail
        go_roundw
        case rel => exact ⟨j + 1, by omega, by go_num, by rw [Hh2.out], by rw [Hnx.out]; exact hnos.out⟩
        case measure => simp [intOf]; omega
      · have Hnx := Lib.hid (show delL (L.take (j + 1)) id = delL (L.take j) id ++ [(xk, xv)] by rw [htk.out]; exact del_take hxk)
        have hne : (xk == id) = false := by simp [hxk]
        have Hh2 := Lib.hid (show hasL (L.take (j + 1)) id = bb by rw [Hh.out, hne]; simp)
        have p0 : 0 < 1 := by omega
        have p02 : 0 < 2 := by omega
        have p3 : m + 1 ≤ maxLen := by simp only [maxLen]; omega
        have p4 : (m + 1) * 16 ≤ 140737488355328 := by omega
        have hlow2 := Lib.hid (hlow.alloc hlow.size (.cells #[.int .i64 xk, .int .i64 xv] 46))
        clear hxk hlow hos hml
        generalize delL (L.take j) id = M at *
        go_wp2_with (at_builtin; refine wpList_append_seg _ rfl (.tmp 22) (.tmp 27) _ rfl 46 i0 _ 2 16 Try.underlying22 hi0 hz0 hz1 hz2 rfl p02 rfl (hsg.alloc _) ⟨wr.heap.size, 0, none⟩ 1 1 [.int .i64 xk, .int .i64 xv] rfl rfl (cell_two_new _ _ _ _) (two_one _ _) p0 p3 p4 ?_; intro A1 c1 G1 w1 n1 m1 r1)
        rw [tc_snoc] at n1
        have hnext := Lib.hid (OS.app hlow2.out hG n1 m1 r1)
        clear hsg n1 m1 r1 d1 d2 hlow2
        go_wp2_with fail
        go_roundw
        case rel => exact ⟨j + 1, by omega, by go_num, by rw [Hh2.out], by rw [Hnx.out]; exact hnext.out⟩
        case measure => simp [intOf]; omega
    · obtain rfl : j = n := by omega
      rw [List.take_of_length_le (by rw [hlen.out]; exact Nat.le_refl _)] at hos ⊢
      have Hos := Lib.hid hos
      obtain ⟨A0, m, c0, G, rfl, hsg, hG⟩ := hos.out
      have hwf := Lib.hid h.wf
      clear hos hsg h
      generalize hasL L id = bb at *
      go_wp2_with fail
      go_ret2
      exact UPost.of_os Hos.out (hwf.out.sub (del_sub L id))

set_option maxRecDepth 100000 in
set_option maxHeartbeats 1000000 in
theorem same_r (now : Int) (A A' : Option Addr) (n c n' c' : Nat) (L : List (Int × Int)) (w : World) (h1 : TR w A n c L) (h2 : TR w A' n' c' L) (hn : n ≤ 100000) :
    Calls Try.prog 21 #[.agg #[.int .i64 now, .slice A n c], .agg #[.int .i64 now, .slice A' n' c']] w fun e w' => e = .returned (.bool true) ∧ Below w.heap.size w w' := by
  obtain rfl : n = n' := h1.len.symm.trans h2.len
  obtain ⟨W1, hW1, b1, k1⟩ := boxed w 24 now A n c
  obtain ⟨W, hW, b2, k2⟩ := boxed W1 24 now A' n c'
  have e1 : W1.heap.size = w.heap.size + 1 := by rw [← hW1]; simp
  rw [e1] at b2
  have hbl := bel2 k1 k2
  have b1' := b1.on k2 b1.lt
  have HW := Lib.hid (show (w.alloc (.cells #[.int .i64 now, .slice A n c] 24)).alloc (.cells #[.int .i64 now, .slice A' n c'] 24) = W by rw [hW1, hW])
  obtain ⟨x0, x1⟩ := b1'.cells
  obtain ⟨y0, y1⟩ := b2.cells
  have hd : ((now : Int) != now) = false := by simp
  clear hW1 hW k1 k2 b1 e1
  go_enter Try.func21, Try.ntmps21
  go_wp2_with fail
  rw [HW.out]
  clear HW x0 x1 y0 y1
  go_loopw [5] (fun i wr => ∃ j : Nat, j ≤ n ∧ i = .int .i64 j ∧ Below W.heap.size W wr) (fun i _ => n - (intOf i).toNat)
  case atStart => exact ⟨0, by omega, rfl, Below.refl _ _⟩
  case round =>
    obtain ⟨j, hj, rfl, hlow⟩ := hrel
    obtain ⟨x0, x1⟩ := (b1'.on hlow b1'.lt).cells
    obtain ⟨y0, y1⟩ := (b2.on hlow b2.lt).cells
    by_cases hlt : j < n
    · obtain ⟨g, off, rfl, _, d1, d2⟩ := ((h1.on hbl).on hlow).at_ hlt
      obtain ⟨g', off', rfl, _, d3, d4⟩ := ((h2.on hbl).on hlow).at_ hlt
      generalize tk L j = x at *
      obtain ⟨xk, xv⟩ := x
      simp only at d1 d2 d3 d4
      go_wp2_with fail
      go_quiet (fail)
      have hl2 := Lib.hid (belowN hlow nq)
      clear hlow d1 d2 d3 d4 x0 x1 y0 y1
      go_wp2_with fail
      go_roundw
      case rel => exact ⟨j + 1, by omega, by go_num, hl2.out⟩
      case measure => simp [intOf]; omega
    · obtain rfl : j = n := by omega
      go_wp2_with fail
      go_ret
      exact ⟨rfl, bel2 hbl hlow⟩
end Go.Proofs.Ytgpmgghjcocfmaa
