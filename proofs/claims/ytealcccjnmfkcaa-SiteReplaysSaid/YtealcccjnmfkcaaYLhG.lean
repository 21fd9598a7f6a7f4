/-
  The document's answer for layer 8, more: Put, Less and Sum. Condition: the deltas can be read, a hundred thousand at most.
-/
import Derived.Test.YtealcccjnmfkcaaYLhF
set_option linter.unusedVariables false
set_option linter.unusedSimpArgs false
namespace Go.Proofs.Ytealcccjnmfkcaa
open Go.RowKit

set_option maxRecDepth 100000 in
set_option maxHeartbeats 2000000 in
theorem putR_c (A : Option Addr) (n c : Nat) (L : List Dl) (A' : Option Addr) (n' c' : Nat) (M : List Dl) (w : World) (h : DR w A n c L) (h' : DR w A' n' c' M) (hn : n ≤ 100000) (hn' : n' ≤ 100000) :
    Calls Try.prog 105 #[.slice A n c, .slice A' n' c'] w (TPost w (sPut L M) (ePut L M)) := by
  have hlen := Lib.hid h.len
  have hlen' := Lib.hid h'.len
  obtain ⟨i0, hi0, hz0, hz1, hz2⟩ := info_parts Try.infoD
  go_enter Try.func105, Try.ntmps105
  go_wp2_with fail
  refine (rightRG_c A n c L w h hn).mono ?_
  rintro e w1 ⟨rfl, b1⟩
  cases hr : rightB L with
  | false =>
    have Hs := Lib.hid (show sPut L M = L ∧ ePut L M = 2 by unfold sPut ePut; rw [if_neg (fun k => rightB_no.1 hr k.1), if_neg (fun k => rightB_no.1 hr k.1)]; exact ⟨rfl, rfl⟩)
    have H := Lib.hid (show TPost w (sPut L M) (ePut L M) (.returned (.tuple #[.slice A n c, .int .i64 2])) w1 by rw [Hs.out.1, Hs.out.2]; exact ⟨A, n, c, rfl, h.on b1, b1⟩)
    clear hr
    go_wp2_with fail
    go_ret2
    exact H.out
  | true =>
    have Hr := Lib.hid (rightB_iff.1 hr)
    clear hr
    go_wp2_with fail
    go_loopw [6] (fun i wr => ∃ j : Nat, j ≤ n' ∧ i = .int .i64 j ∧ KeysP (M.take j) ∧ Below w.heap.size w wr) (fun i _ => n' - (intOf i).toNat)
    case atStart => exact ⟨0, by omega, rfl, keys_nil, b1⟩
    case round =>
      clear b1
      obtain ⟨j, hj, rfl, hal, hlow⟩ := hrel
      have Hal := Lib.hid hal
      clear hal
      by_cases hlt : j < n'
      · obtain ⟨g, off, rfl, d1, d2⟩ := (h'.on hlow).at2 hlt
        have htk := Lib.hid (tk_take (L := M) (j := j) (by rw [hlen'.out]; exact hlt))
        generalize tk M j = x at *
        by_cases hk : x.k < 64
        · have hk1 : ¬ (64 : Int) ≤ x.k := by omega
          have Hn := Lib.hid (show KeysP (M.take (j + 1)) by rw [htk.out]; exact keys_snoc.2 ⟨Hal.out, hk⟩)
          clear hk
          go_wp2_with fail
          go_roundw
          case rel => exact ⟨j + 1, by omega, by go_num, Hn.out, hlow⟩
          case measure => simp [intOf]; omega
        · have hk1 : (64 : Int) ≤ x.k := by omega
          have Hf := Lib.hid (show ¬ KeysP M from keys_no_pre (j := j + 1) (by rw [htk.out]; exact fun k => hk (keys_snoc.1 k).2))
          have Hs := Lib.hid (show sPut L M = L ∧ ePut L M = 2 by unfold sPut ePut; rw [if_neg (fun k => Hf.out k.2), if_neg (fun k => Hf.out k.2)]; exact ⟨rfl, rfl⟩)
          have H := Lib.hid (show TPost w (sPut L M) (ePut L M) (.returned (.tuple #[.slice A n c, .int .i64 2])) wr by rw [Hs.out.1, Hs.out.2]; exact ⟨A, n, c, rfl, h.on hlow, hlow⟩)
          clear hk
          go_wp2_with fail
          go_ret2
          exact H.out
      · obtain rfl : j = n' := by omega
        have Hs := Lib.hid (show sPut L M = ofD (L ++ M) ∧ ePut L M = 0 by
          have := Hal.out
          rw [take_all hlen'.out] at this
          unfold sPut ePut
          rw [if_pos ⟨Hr.out, this⟩, if_pos ⟨Hr.out, this⟩]; exact ⟨rfl, rfl⟩)
        have p03 : 0 < 2 := by omega
        have q1 : 0 + n ≤ maxLen := by simp only [maxLen]; omega
        have q2 : (0 + n) * 16 ≤ 140737488355328 := by omega
        have q3 : n + j ≤ maxLen := by simp only [maxLen]; omega
        have q4 : (n + j) * 16 ≤ 140737488355328 := by omega
        have z0 := Nat.zero_add n
        obtain ⟨W1, hW1⟩ : ∃ W1, wr.alloc (.cells #[] 102) = W1 := ⟨_, rfl⟩
        have k1 : Below wr.heap.size wr W1 := by rw [← hW1]; exact belA wr _
        have cb : CB W1 wr.heap.size 102 #[] := by rw [← hW1]; exact CB.new wr _ _
        have hs0 : Seg W1 102 2 (some ⟨wr.heap.size, 0, none⟩) 0 0 [] (some wr.heap.size) := ⟨rfl, Nat.le_refl _, Nat.zero_le _, .inr ⟨_, 0, #[], rfl, rfl, cb, by simp, fun j u hu => by simp at hu⟩⟩
        have b2 := bel2 hlow k1
        have hsr1 := (h.on b2).src
        have hwr := hlow.size
        have HW1 := Lib.hid hW1
        obtain ⟨N, hN⟩ : ∃ N, n + j = N := ⟨_, rfl⟩
        have HN := Lib.hid hN
        have hNs : N ≤ 300000 := by omega
        clear hW1 k1 cb hlow hN
        go_wp2_with (at_builtin; try rw [HW1.out]; refine wpList_append_src _ rfl (.tmp 25) (.tmp 26) _ rfl 102 i0 _ 2 16 Try.underlying26 hi0 hz0 hz1 hz2 rfl p03 rfl hs0 rfl hsr1 (rc_one 2 _) q1 q2 n z0 ?_; intro A4 c4 G4 w4 hs4 hg4 hm4; refine Stay.mk ?_)
        refine Stay.open_ ?_
        rw [List.nil_append] at hs4
        have hb4 := b2.grown hg4 b2.size (fun g hg => by cases hg; exact hwr)
        have hG4 := hm4.ge (B := w.heap.size) b2.size (fun g hg => by cases hg; exact hwr)
        have hsr4 := (h'.on hb4).src
        clear hs0 hsr1 hg4 hm4 b2 HW1 hwr z0
        go_wp2_with (at_builtin; refine wpList_append_src _ rfl (.tmp 28) (.tmp 29) _ rfl 102 i0 _ 2 16 Try.underlying26 hi0 hz0 hz1 hz2 rfl p03 rfl hs4 rfl hsr4 (rc_one 2 _) q3 q4 N HN.out ?_; intro A5 c5 G5 w5 hs5 hg5 hm5; refine Stay.mk ?_)
        refine Stay.open_ ?_
        rw [← rc_append] at hs5
        have hb5 := hb4.grown hg5 hb4.size hG4
        have hof := of_c A5 N c5 (L ++ M) w5 (RR.of_seg hs5) hNs
        clear hs4 hsr4 hg5 hm5 hb4 hG4 hs5
        go_wp2_with fail
        refine hof.mono ?_
        rintro e w6 ⟨A6, n6, c6, rfl, hs6, b6⟩
        have H := Lib.hid (show TPost w (sPut L M) (ePut L M) (.returned (.tuple #[.slice A6 n6 c6, .int .i64 0])) w6 by rw [Hs.out.1, Hs.out.2]; exact ⟨A6, n6, c6, rfl, hs6.rr, bel2 hb5 b6⟩)
        clear hof hs6 b6 hb5
        go_wp2_with fail
        go_ret2
        exact H.out

end Go.Proofs.Ytealcccjnmfkcaa
