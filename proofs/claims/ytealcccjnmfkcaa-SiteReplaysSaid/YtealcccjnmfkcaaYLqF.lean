/-
  Free, Same and Holds of the document's answer, theirs and ours of layer 7's laws. Condition: the holds can be read, a hundred thousand at most.
-/
import Derived.Test.YtealcccjnmfkcaaYLqE
set_option linter.unusedVariables false
set_option linter.unusedSimpArgs false
namespace Go.Proofs.Ytealcccjnmfkcaa
open Go.RowKit

set_option maxRecDepth 100000 in
set_option maxHeartbeats 1000000 in
theorem freeR_c (A : Option Addr) (n c : Nat) (tx : Int) (L : List Hd) (w : World) (h : HR w A n c L) (hn : n ≤ 100000) :
    Calls Try.prog 106 #[.slice A n c, .int .i64 tx] w (DPost w (fre L tx)) := by
  have hlen := Lib.hid h.len
  obtain ⟨i0, hi0, hz0, hz1, hz2⟩ := info_parts Try.infoR
  go_enter Try.func106, Try.ntmps106
  go_wp2_with fail
  go_loopw [5, 6] (fun v i wr => ∃ j : Nat, j ≤ n ∧ i = .int .i64 j ∧ OS w 172 3 (rc hc (fre (L.take j) tx)) v wr) (fun _ i _ => n - (intOf i).toNat)
  case atStart => exact ⟨0, by omega, rfl, OS.start w _ _ (Below.refl _ _)⟩
  case round =>
    obtain ⟨j, hj, rfl, hos⟩ := hrel
    by_cases hlt : j < n
    · obtain ⟨g, off, rfl, d1, d2, d3⟩ := (h.on hos.low).at3 hlt
      have htk := Lib.hid (tkK_take (L := L) (j := j) (by rw [hlen.out]; exact hlt))
      generalize tkK L j = x at *
      have hlow := hos.low
      have hml := Lib.hid (show (fre (L.take j) tx).length ≤ j by have := (fre_sub (L.take j) tx).length_le; rw [List.length_take] at this; omega)
      obtain ⟨A0, m, c0, G, rfl, hsg, hG⟩ := hos.out
      have hm := hml.out
      rw [rc_len hsg] at hm
      by_cases hx : x.t = tx
      · have Hnx := Lib.hid (show fre (L.take (j + 1)) tx = fre (L.take j) tx by rw [htk.out]; exact fre_skip hx)
        have hne : (x.t != tx) = false := by simp [hx]
        have hnos := Lib.hid hos
        clear hx hlow hsg hos hG
        go_wp2_with fail
        go_roundw
        case rel => exact ⟨j + 1, by omega, by go_num, by rw [Hnx.out]; exact hnos.out⟩
        case measure => simp [intOf]; omega
      · have Hnx := Lib.hid (show fre (L.take (j + 1)) tx = fre (L.take j) tx ++ [x] by rw [htk.out]; exact fre_more hx)
        have hne : (x.t != tx) = true := by simp [hx]
        have p0 : 0 < 1 := by omega
        have p03 : 0 < 3 := by omega
        obtain ⟨p3, p4⟩ := app3 (n := m) (by omega)
        have hlow2 := Lib.hid (hlow.alloc hlow.size (.cells #[.int .u8 x.k, .int .i64 x.t, .bool x.w] 172))
        clear hx hlow hos hml
        generalize fre (L.take j) tx = M at *
        go_wp2_with (at_builtin; refine wpList_append_seg _ rfl (.tmp 20) (.tmp 25) _ rfl 172 i0 _ 3 24 Try.underlying27 hi0 hz0 hz1 hz2 rfl p03 rfl (hsg.alloc _) ⟨wr.heap.size, 0, none⟩ 1 1 (hc x) rfl rfl (cells_at _ _ (hc x) _ rfl) (hc_one x) p0 p3 p4 ?_; intro A1 c1 G1 w1 n1 m1 r1)
        rw [rc_snoc] at n1
        have hnext := Lib.hid (OS.app hlow2.out hG n1 m1 r1)
        clear hsg n1 m1 r1 d1 d2 d3 hlow2
        go_wp2_with fail
        go_roundw
        case rel => exact ⟨j + 1, by omega, by go_num, by rw [Hnx.out]; exact hnext.out⟩
        case measure => simp [intOf]; omega
    · obtain rfl : j = n := by omega
      rw [List.take_of_length_le (by rw [hlen.out]; exact Nat.le_refl _)] at hos
      have Hos := Lib.hid hos
      obtain ⟨A0, m, c0, G, rfl, hsg, hG⟩ := hos.out
      clear hos hsg h
      go_wp2_with fail
      go_ret
      exact RPost.of_os Hos.out

theorem hold_stop {L : List Hd} {tx key : Int} {j : Nat} (hj : j < L.length) (h1 : ∀ q ∈ L.take j, isH tx key q = false) (h2 : isH tx key (tkK L j) = true) : hold L tx key = wv (tkK L j).w := by
  rw [hold_fi, fi_stop hj h1 h2, if_pos hj]
theorem hold_end {L : List Hd} {tx key : Int} (h1 : ∀ q ∈ L, isH tx key q = false) : hold L tx key = 0 := by
  rw [hold_fi, fi_end h1, if_neg (by omega)]

set_option maxRecDepth 100000 in
set_option maxHeartbeats 1000000 in
theorem holdsR_c (A : Option Addr) (n c : Nat) (tx key : Int) (L : List Hd) (w : World) (h : HR w A n c L) (hn : n ≤ 100000) :
    Calls Try.prog 103 #[.slice A n c, .int .i64 tx, .int .u8 key] w fun e w' => e = .returned (.int .i64 (hold L tx key)) ∧ Below w.heap.size w w' := by
  have hlen := Lib.hid h.len
  go_enter Try.func103, Try.ntmps103
  go_wp2_with fail
  go_loopw [7] (fun i wr => ∃ j : Nat, j ≤ n ∧ i = .int .i64 j ∧ (∀ q ∈ L.take j, isH tx key q = false) ∧ Below w.heap.size w wr) (fun i _ => n - (intOf i).toNat)
  case atStart => exact ⟨0, by omega, rfl, fun q hq => by simp at hq, Below.refl _ _⟩
  case round =>
    obtain ⟨j, hj, rfl, hal, hlow⟩ := hrel
    have Hal := Lib.hid hal
    clear hal
    by_cases hlt : j < n
    · obtain ⟨g, off, rfl, d1, d2, d3⟩ := (h.on hlow).at3 hlt
      have hjl : j < L.length := by rw [hlen.out]; exact hlt
      have htk := Lib.hid (tkK_take (L := L) hjl)
      have Hst := Lib.hid (fun hx : isH tx key (tkK L j) = true => hold_stop hjl Hal.out hx)
      generalize tkK L j = x at *
      have Hn := Lib.hid (fun hx : isH tx key x = false => (show ∀ q ∈ L.take (j + 1), isH tx key q = false by
        rw [htk.out]
        intro q hq
        rcases List.mem_append.1 hq with hq | hq
        · exact Hal.out q hq
        · simp at hq; subst hq; exact hx))
      by_cases hk : x.k = key
      · by_cases ht : x.t = tx
        · have hr := Lib.hid (Hst.out (isH_iff.2 ⟨hk, ht⟩))
          have hk1 : (x.k == key) = true := by simp [hk]
          have ht1 : (x.t == tx) = true := by simp [ht]
          cases hw : x.w with
          | true =>
            rw [hw] at d3
            have hr2 := Lib.hid (show hold L tx key = 2 by rw [hr.out, hw]; rfl)
            clear hk ht hw
            go_wp2_with fail
            go_ret
            exact ⟨by rw [hr2.out]; rfl, hlow⟩
          | false =>
            rw [hw] at d3
            have hr2 := Lib.hid (show hold L tx key = 1 by rw [hr.out, hw]; rfl)
            clear hk ht hw
            go_wp2_with fail
            go_ret
            exact ⟨by rw [hr2.out]; rfl, hlow⟩
        · have Hn2 := Lib.hid (Hn.out (by unfold isH; simp [ht]))
          have hk1 : (x.k == key) = true := by simp [hk]
          have ht1 : (x.t == tx) = false := by simp [ht]
          clear hk ht
          go_wp2_with fail
          go_roundw
          case rel => exact ⟨j + 1, by omega, by go_num, Hn2.out, hlow⟩
          case measure => simp [intOf]; omega
      · have Hn2 := Lib.hid (Hn.out (by unfold isH; simp [hk]))
        have hk1 : (x.k == key) = false := by simp [hk]
        clear hk
        go_wp2_with fail
        go_roundw
        case rel => exact ⟨j + 1, by omega, by go_num, Hn2.out, hlow⟩
        case measure => simp [intOf]; omega
    · obtain rfl : j = n := by omega
      have hr := Lib.hid (show hold L tx key = 0 by
        have := Hal.out
        rw [List.take_of_length_le (by rw [hlen.out]; exact Nat.le_refl _)] at this
        exact hold_end this)
      go_wp2_with fail
      go_ret
      exact ⟨by rw [hr.out]; rfl, hlow⟩
end Go.Proofs.Ytealcccjnmfkcaa
