/-
  Put, Add, Sum and Less of package ledger. Condition: the deltas can be read, a hundred thousand at most, and are such as a program can have.
-/
import Derived.Test.YtdekijaognfjcaaLgD
set_option linter.unusedVariables false
set_option linter.unusedSimpArgs false
namespace Go.Proofs.Ytdekijaognfjcaa
open Go.RowKit

set_option maxRecDepth 100000 in
set_option maxHeartbeats 2000000 in
theorem put_c (A : Option Addr) (n c : Nat) (L : List Dl) (A' : Option Addr) (n' c' : Nat) (M : List Dl) (w : World) (h : DR w A n c L) (h' : DR w A' n' c' M) (hn : n ≤ 100000) (hn' : n' ≤ 100000) (wL : WfL L) (wM : WfL M) :
    Calls Try.prog 10 #[.slice A n c, .slice A' n' c'] w (TPost w (sPut L M) (ePut L M)) := by
  have WL := Lib.hid wL
  have WM := Lib.hid wM
  clear wL wM
  go_enter Try.func10, Try.ntmps10
  go_wp2_with fail
  refine (right_c A n c L w h hn).mono ?_
  rintro e w1 ⟨rfl, b1⟩
  cases hr : rightB L with
  | false =>
    have Hs := Lib.hid (show sPut L M = L ∧ ePut L M = 2 by unfold sPut ePut; rw [if_neg (fun k => rightB_no.1 hr k.1), if_neg (fun k => rightB_no.1 hr k.1)]; exact ⟨rfl, rfl⟩)
    have hcp := copy_c A n c L w1 (h.on b1) hn
    clear hr
    go_wp2_with fail
    refine hcp.mono ?_
    rintro e w2 ⟨A2, n2, c2, rfl, hs2, b2⟩
    have H := Lib.hid (show TPost w (sPut L M) (ePut L M) (.returned (.tuple #[.slice A2 n2 c2, .int .i64 2])) w2 by rw [Hs.out.1, Hs.out.2]; exact ⟨A2, n2, c2, rfl, hs2.rr, bel2 b1 b2⟩)
    clear hs2 b2 b1 hcp
    go_wp2_with fail
    go_ret2
    exact H.out
  | true =>
    have hki := keysIn_c A' n' c' M w1 (h'.on b1) hn'
    have Hr := Lib.hid (rightB_iff.1 hr)
    clear hr
    go_wp2_with fail
    refine hki.mono ?_
    rintro e w2 ⟨rfl, b2⟩
    have bb := bel2 b1 b2
    clear b1 b2 hki
    cases hk : keysB M with
    | false =>
      have Hs := Lib.hid (show sPut L M = L ∧ ePut L M = 2 by unfold sPut ePut; rw [if_neg (fun k => keysB_no.1 hk k.2), if_neg (fun k => keysB_no.1 hk k.2)]; exact ⟨rfl, rfl⟩)
      have hcp := copy_c A n c L w2 (h.on bb) hn
      clear hk
      go_wp2_with fail
      refine hcp.mono ?_
      rintro e w3 ⟨A3, n3, c3, rfl, hs3, b3⟩
      have H := Lib.hid (show TPost w (sPut L M) (ePut L M) (.returned (.tuple #[.slice A3 n3 c3, .int .i64 2])) w3 by rw [Hs.out.1, Hs.out.2]; exact ⟨A3, n3, c3, rfl, hs3.rr, bel2 bb b3⟩)
      clear hs3 b3 bb hcp
      go_wp2_with fail
      go_ret2
      exact H.out
    | true =>
      have hk' := keysB_iff.1 hk
      have Hs := Lib.hid (show sPut L M = ofD (L ++ M) ∧ ePut L M = 0 by unfold sPut ePut; rw [if_pos ⟨Hr.out, hk'⟩, if_pos ⟨Hr.out, hk'⟩]; exact ⟨rfl, rfl⟩)
      have hsm := sumOf_c A n c L A' n' c' M w2 (h.on bb) (h'.on bb) hn hn' WL.out WM.out (right_keys Hr.out) hk'
      clear hk hk'
      go_wp2_with fail
      refine hsm.mono ?_
      rintro e w3 ⟨A3, n3, c3, rfl, hs3, b3⟩
      have H := Lib.hid (show TPost w (sPut L M) (ePut L M) (.returned (.tuple #[.slice A3 n3 c3, .int .i64 0])) w3 by rw [Hs.out.1, Hs.out.2]; exact ⟨A3, n3, c3, rfl, hs3.rr, bel2 bb b3⟩)
      clear hs3 b3 bb hsm
      go_wp2_with fail
      go_ret2
      exact H.out

set_option maxRecDepth 100000 in
set_option maxHeartbeats 1000000 in
theorem add_c (A : Option Addr) (n c : Nat) (L : List Dl) (k b : Int) (w : World) (h : DR w A n c L) (hn : n ≤ 100000) (wL : WfL L) (hx : inD ⟨k, b⟩) :
    Calls Try.prog 12 #[.slice A n c, .int .u8 k, .int .i64 b] w (TPost w (sPut L [⟨k, b⟩]) (ePut L [⟨k, b⟩])) := by
  have hl1 := lit1 w k b 24
  have hb1 := belA w (.cells #[.int .u8 k, .int .i64 b] 24)
  have hp := put_c A n c L _ 1 1 [⟨k, b⟩] _ (h.on hb1) hl1 hn (by omega) wL (fun x hx' => by simp at hx'; subst hx'; exact hx)
  clear wL hx hl1
  generalize sPut L [⟨k, b⟩] = R at *
  generalize ePut L [⟨k, b⟩] = E at *
  go_enter Try.func12, Try.ntmps12
  go_wp2_with fail
  refine hp.mono ?_
  rintro e w2 ⟨A2, n2, c2, rfl, hs2, b2⟩
  have H := Lib.hid (show TPost w R E (.returned (.tuple #[.slice A2 n2 c2, .int .i64 E])) w2 from ⟨A2, n2, c2, rfl, hs2, bel2 hb1 b2⟩)
  clear hp hs2 b2 hb1
  go_wp2_with fail
  go_ret2
  exact H.out

set_option maxRecDepth 100000 in
set_option maxHeartbeats 2000000 in
theorem sum_c (A : Option Addr) (n c : Nat) (L : List Dl) (A' : Option Addr) (n' c' : Nat) (M : List Dl) (w : World) (h : DR w A n c L) (h' : DR w A' n' c' M) (hn : n ≤ 100000) (hn' : n' ≤ 100000) (wL : WfL L) (wM : WfL M) :
    Calls Try.prog 13 #[.slice A n c, .slice A' n' c'] w (TPost w (sSum L M) (eSum L M)) := by
  have WL := Lib.hid wL
  have WM := Lib.hid wM
  clear wL wM
  go_enter Try.func13, Try.ntmps13
  go_wp2_with fail
  refine (right_c A n c L w h hn).mono ?_
  rintro e w1 ⟨rfl, b1⟩
  cases hr : rightB L with
  | false =>
    have Hs := Lib.hid (show sSum L M = [] ∧ eSum L M = 2 by unfold sSum eSum; rw [if_neg (fun k => rightB_no.1 hr k.1), if_neg (fun k => rightB_no.1 hr k.1)]; exact ⟨rfl, rfl⟩)
    have H := Lib.hid (show TPost w (sSum L M) (eSum L M) (.returned (.tuple #[.slice none 0 0, .int .i64 2])) w1 by rw [Hs.out.1, Hs.out.2]; exact ⟨none, 0, 0, rfl, RR.nil _ _ _, b1⟩)
    clear hr
    go_wp2_with fail
    go_ret2
    exact H.out
  | true =>
    have hki := right_c A' n' c' M w1 (h'.on b1) hn'
    have Hr := Lib.hid (rightB_iff.1 hr)
    clear hr
    go_wp2_with fail
    refine hki.mono ?_
    rintro e w2 ⟨rfl, b2⟩
    have bb := bel2 b1 b2
    clear b1 b2 hki
    cases hk : rightB M with
    | false =>
      have Hs := Lib.hid (show sSum L M = [] ∧ eSum L M = 2 by unfold sSum eSum; rw [if_neg (fun k => rightB_no.1 hk k.2), if_neg (fun k => rightB_no.1 hk k.2)]; exact ⟨rfl, rfl⟩)
      have H := Lib.hid (show TPost w (sSum L M) (eSum L M) (.returned (.tuple #[.slice none 0 0, .int .i64 2])) w2 by rw [Hs.out.1, Hs.out.2]; exact ⟨none, 0, 0, rfl, RR.nil _ _ _, bb⟩)
      clear hk
      go_wp2_with fail
      go_ret2
      exact H.out
    | true =>
      have hk' := rightB_iff.1 hk
      have Hs := Lib.hid (show sSum L M = ofD (L ++ M) ∧ eSum L M = 0 by unfold sSum eSum; rw [if_pos ⟨Hr.out, hk'⟩, if_pos ⟨Hr.out, hk'⟩]; exact ⟨rfl, rfl⟩)
      have hsm := sumOf_c A n c L A' n' c' M w2 (h.on bb) (h'.on bb) hn hn' WL.out WM.out (right_keys Hr.out) (right_keys hk')
      clear hk hk'
      go_wp2_with fail
      refine hsm.mono ?_
      rintro e w3 ⟨A3, n3, c3, rfl, hs3, b3⟩
      have H := Lib.hid (show TPost w (sSum L M) (eSum L M) (.returned (.tuple #[.slice A3 n3 c3, .int .i64 0])) w3 by rw [Hs.out.1, Hs.out.2]; exact ⟨A3, n3, c3, rfl, hs3.rr, bel2 bb b3⟩)
      clear hs3 b3 bb hsm
      go_wp2_with fail
      go_ret2
      exact H.out

theorem rc_set (b' : Int) (x : Dl) (D : List Dl) : ∀ P : List Dl, (rc dc (P ++ x :: D)).set (P.length * 2 + 1) (.int .i64 b') = rc dc (P ++ ⟨x.k, b'⟩ :: D)
  | [] => rfl
  | p :: r => by
    have ih := rc_set b' x D r
    rw [List.cons_append, rc_cons, List.length_cons, List.cons_append, rc_cons, ← ih, show (r.length + 1) * 2 + 1 = (r.length * 2 + 1) + 1 + 1 by omega]
    rfl
theorem drop_tk {L : List Dl} {j : Nat} (h : j < L.length) : L.drop j = tk L j :: L.drop (j + 1) := by
  rw [List.drop_eq_getElem_cons h]
  congr 1
  unfold tk
  rw [List.getElem?_eq_getElem h]; rfl

set_option maxRecDepth 100000 in
set_option maxHeartbeats 2000000 in
theorem less_c (A : Option Addr) (n c : Nat) (L : List Dl) (w : World) (h : DR w A n c L) (hn : n ≤ 100000) :
    Calls Try.prog 15 #[.slice A n c] w (TPost w (sLess L) (eLess L)) := by
  have hlen := Lib.hid h.len
  go_enter Try.func15, Try.ntmps15
  go_wp2_with fail
  refine (right_c A n c L w h hn).mono ?_
  rintro e w1 ⟨rfl, b1⟩
  cases hr : rightB L with
  | false =>
    have Hs := Lib.hid (show sLess L = [] ∧ eLess L = 2 by unfold sLess eLess; rw [if_neg (rightB_no.1 hr), if_neg (rightB_no.1 hr)]; exact ⟨rfl, rfl⟩)
    have H := Lib.hid (show TPost w (sLess L) (eLess L) (.returned (.tuple #[.slice none 0 0, .int .i64 2])) w1 by rw [Hs.out.1, Hs.out.2]; exact ⟨none, 0, 0, rfl, RR.nil _ _ _, b1⟩)
    clear hr
    go_wp2_with fail
    go_ret2
    exact H.out
  | true =>
    have Hs := Lib.hid (show sLess L = L.map negD ∧ eLess L = 0 by unfold sLess eLess; rw [if_pos (rightB_iff.1 hr), if_pos (rightB_iff.1 hr)]; exact ⟨rfl, rfl⟩)
    have hcp := copy_o A n c L w1 (h.on b1) hn
    clear hr
    go_wp2_with fail
    refine hcp.mono ?_
    rintro e w2 ⟨v2, rfl, hos⟩
    obtain ⟨⟨A2, n2, c2, G, rfl, hsg, hG⟩, b2⟩ := hos
    obtain rfl : n2 = n := (rc_len hsg).symm.trans hlen.out
    have bb := bel2 b1 b2
    have HG := Lib.hid (fun g e => Nat.le_trans b1.size (hG g e))
    clear b1 b2 hcp hG
    go_wp2_with fail
    go_loopw [13] (fun i wr => ∃ j : Nat, j ≤ n2 ∧ i = .int .i64 j ∧ Seg wr 24 2 A2 n2 c2 (rc dc ((L.take j).map negD ++ L.drop j)) G ∧ Below w.heap.size w wr) (fun i _ => n2 - (intOf i).toNat)
    case atStart => exact ⟨0, by omega, rfl, by rw [List.take_zero, List.drop_zero]; exact hsg, bb⟩
    case round =>
      clear hsg bb
      obtain ⟨j, hj, rfl, hsg, bb⟩ := hrel
      by_cases hlt : j < n2
      · have hjl : j < L.length := by rw [hlen.out]; exact hlt
        have hd := Lib.hid (drop_tk hjl)
        have ht := Lib.hid (tk_take hjl)
        have hpl := Lib.hid (show ((L.take j).map negD).length = j by rw [List.length_map, List.length_take]; omega)
        rw [hd.out] at hsg
        have hset := fun v => rc_set v (tk L j) (L.drop (j + 1)) ((L.take j).map negD)
        rw [hpl.out] at hset
        obtain ⟨g, off, rfl, rfl, hf, hc, hst⟩ := hsg.slot (j * 2 + 1) (by omega)
        have y1 := hc (.int .i64 (tk L j).b) (by
          refine rc_at 2 _ (k := j) (x := tk L j) (i := 1) ?_ rfl
          rw [List.getElem?_append_right (by rw [hpl.out]; exact Nat.le_refl _), hpl.out, Nat.sub_self]; rfl)
        have hnx := hst (.int .i64 (wrap64 (-(tk L j).b)))
        rw [hset] at hnx
        have Hnx := Lib.hid (show Seg (wr.setCell ⟨g, off + j * 2 + 1, none⟩ (.int .i64 (wrap64 (-(tk L j).b)))) 24 2 (some ⟨g, off, none⟩) n2 c2 (rc dc ((L.take (j + 1)).map negD ++ L.drop (j + 1))) (some g) by
          rw [ht.out, List.map_append, List.append_assoc]
          rw [← Nat.add_assoc] at hnx
          exact hnx)
        have Hb := Lib.hid (bb.setCell (p := ⟨g, off + j * 2 + 1, none⟩) (HG.out g rfl) (.int .i64 (wrap64 (-(tk L j).b))))
        rw [← Nat.add_assoc] at hf y1
        clear hc hst hset hnx hsg bb
        generalize tk L j = x at *
        go_wp2_with fail
        go_roundw
        case rel => exact ⟨j + 1, by omega, by go_num, Hnx.out, Hb.out⟩
        case measure => simp [intOf]; omega
      · obtain rfl : j = n2 := by omega
        have H := Lib.hid (show TPost w (sLess L) (eLess L) (.returned (.tuple #[.slice A2 j c2, .int .i64 0])) wr by
          rw [Hs.out.1, Hs.out.2]
          refine ⟨A2, j, c2, rfl, ?_, bb⟩
          rw [take_all hlen.out, List.drop_eq_nil_of_le (by rw [hlen.out]; exact Nat.le_refl _), List.append_nil] at hsg
          exact RR.of_seg hsg)
        clear hsg bb
        go_wp2_with fail
        go_ret2
        exact H.out
end Go.Proofs.Ytdekijaognfjcaa
