/-
  Append and Renew of the document's answer. Conditions: the bytes can be read, there are a million of them at most.
-/
import Derived.Test.YtdelllkgllfcdaaDiskF
namespace Go.Proofs.Ytdelllkgllfcdaa
open Go.RowKit

set_option maxRecDepth 100000 in
set_option maxHeartbeats 2000000 in
theorem append_r (A : Option Addr) (n c r : Nat) (s : Int) (bs : List UInt8) (Ar : Option Addr) (nr cr : Nat) (rs : List UInt8) (w : World) (hb : BR w w.heap.size A n c bs) (hr : BR w w.heap.size Ar nr cr rs) (hn : n ≤ 1000000) (hrm : r ≤ 2000000) :
    Calls Try.prog 12 #[.agg #[.slice A n c, .int .i64 s, .int .i64 r], .slice Ar nr cr] w (TPost w s r (bA r bs rs) (eA n r rs)) := by
  obtain ⟨W, hW, ha, hbox, hbl, hS⟩ := two_boxes w 24 24 A n c s r
  have hrW := hr.on hbl
  have hnl := hb.1
  have hrl := hr.1
  have hrx := hr.max
  obtain ⟨i0, Hi, Hz, Hz1, Hz2⟩ := info_hid
  have p4 : 0 < 1 := by omega
  go_enter Try.func12, Try.ntmps12
  go_wp2_with fail
  rw [← hW]
  clear hW
  refine (frame_r Ar nr cr rs W hrW).mono ?_
  rintro e w1 ⟨A1, n1, c1, G1, rfl, hs1, hb1, _⟩
  have hf1 := BR.of_seg hs1
  have ha1 := ha.on hb1 ha.lt
  have hbox1 := hbox.on hb1 hbox.lt
  have hbl1 := hbl.trans (hb1.mono hbl.size)
  have hb1' := hb.on hbl1
  clear hs1 hrW ha hbox hbl hb1
  obtain ⟨d0, d1, d2⟩ := ha1.cells
  obtain ⟨g0, g1, g2⟩ := ha1.froz
  obtain ⟨z0, z1, z2⟩ := hbox1.cells
  obtain ⟨f0, f1, f2⟩ := hbox1.froz
  obtain ⟨w3, hw3, ⟨v0, v1, v2⟩, hx3, hb3⟩ := dpost_end hbox1 hbl1 (by omega) hb1' s r
  have Hw3 := Lib.hid hw3
  clear hw3
  by_cases hbig : 4000 < rs.length
  · obtain ⟨e1, e2⟩ := eF_big hbig
    have HE := Lib.hid (eA_big (n := n) (r := r) hbig)
    have HB := Lib.hid (bA_bad (r := r) (bs := bs) (rec := rs) (by rw [eA_big hbig]; omega))
    rw [e1]
    clear e1 e2 hbig hf1 hnl hrl
    go_wp2_with fail
    rw [Hw3.out]
    exact bodyPost_ret (v := .tuple #[.agg #[.slice A n c, .int .i64 s, .int .i64 r], .int .i64 3]) (by simp [results, Try.results12, go_sem, v0, v1, v2]) rfl ⟨A, n, c, by rw [HE.out]; rfl, by rw [HB.out]; exact hx3, hb3⟩
  obtain ⟨e1, e2⟩ := eF_ok hbig
  rw [e2] at hf1
  obtain rfl : n1 = nr + 7 := by have h5 := hf1.1; rw [frameB_length] at h5; omega
  rw [e1]
  have hbg : nr ≤ 4000 := by omega
  by_cases hfull : r < n + (nr + 7)
  · have HE := Lib.hid (eA_full (n := n) (r := r) hbig (by rw [hrl]; exact hfull))
    have HB := Lib.hid (bA_bad (r := r) (bs := bs) (rec := rs) (by rw [hnl, HE.out]; omega))
    have hfi : (r : Int) < (n : Int) + ((nr : Int) + 7) := by omega
    clear e1 e2 hbig hf1 hnl hrl
    go_wp2_with fail
    rw [Hw3.out]
    exact bodyPost_ret (v := .tuple #[.agg #[.slice A n c, .int .i64 s, .int .i64 r], .int .i64 6]) (by simp [results, Try.results12, go_sem, v0, v1, v2]) rfl ⟨A, n, c, by rw [HE.out]; rfl, by rw [HB.out]; exact hx3, hb3⟩
  · have HE := Lib.hid (eA_ok (n := n) (r := r) hbig (by rw [hrl]; exact hfull))
    have HB := Lib.hid (bA_ok (r := r) (bs := bs) (rec := rs) (by rw [hnl, HE.out]))
    have hfi : ¬ (r : Int) < (n : Int) + ((nr : Int) + 7) := by omega
    clear e1 e2 hbig hnl hrl v0 v1 v2 hx3 hb3 Hw3
    generalize frameB rs = fs at *
    have haL := (ha1.alloc (.cells #[] 5)).cells
    obtain ⟨l0, l1, l2⟩ := haL
    have hbL : Below w1.heap.size w1 (w1.alloc (.cells #[] 5)) := (Below.refl _ _).alloc (Nat.le_refl _) _
    have hgL : w1.grownBy (w1.alloc (.cells #[] 5)) none := grown_alloc (World.grownBy.refl w1 none) _
    have hsrcL := (hb1'.on hbL).src
    have hsL := Seg.lit w1 5 [] (by simp [maxLen])
    have q1 : 0 + n ≤ maxLen := by simp only [maxLen]; omega
    have q2 : (0 + n) * 1 ≤ 140737488355328 := by omega
    have r1 : n + (nr + 7) ≤ maxLen := by simp only [maxLen]; omega
    have r2 : (n + (nr + 7)) * 1 ≤ 140737488355328 := by omega
    have hsL' : Seg (w1.alloc (.cells #[] 5)) 5 1 (some ⟨w1.heap.size, 0, none⟩) 0 0 [] (some w1.heap.size) := hsL
    clear z0 z1 z2 f0 f1 f2 g0 g1 g2 hsL
    go_wp2_with (first
      | (at_builtin; refine wpList_append_src _ rfl (.tmp 27) (.tmp 29) _ rfl 5 i0 _ 1 1 Try.underlying22 Hi.out Hz.out Hz1.out Hz2.out rfl p4 rfl hsL' rfl hsrcL (bc_one _) q1 q2 ?_; intro A4 c4 G4 w4 hs4 hg4 hm4; rw [List.nil_append, Nat.zero_add] at hs4; replace hg4 := grown_one hgL (Nat.le_refl _) hg4; replace hm4 : Moved w1 none G4 := Moved.trans (w := w1) (.inr ⟨_, rfl, Nat.le_refl _⟩) hm4 (by simp); have hf4 := (hf1.on (grown_below hg4 (Nat.le_refl _) (fun g e => by cases e))).src)
      | (at_builtin; refine wpList_append_src _ rfl (.tmp 31) (.tmp 32) _ rfl 5 i0 _ 1 1 Try.underlying22 Hi.out Hz.out Hz1.out Hz2.out rfl p4 rfl hs4 rfl hf4 (bc_one _) r1 r2 ?_; intro A5 c5 G5 w5 hs5 hg5 hm5; rw [← bc_append] at hs5; replace hg5 := grown_trans hg4 hm4 hg5; have hb5 := grown_below hg5 (Nat.le_refl _) (fun g e => by cases e); have ha5 := ha1.on hb5 ha1.lt; have hd5 := hbox1.on hb5 hbox1.lt; obtain ⟨dd0, dd1, dd2⟩ := ha5.cells; obtain ⟨g0, g1, g2⟩ := ha5.froz; obtain ⟨z0, z1, z2⟩ := hd5.cells; obtain ⟨f0, f1, f2⟩ := hd5.froz; clear hs4 hg4 hm4 hf4))
    obtain ⟨w6, hw6, ⟨v0, v1, v2⟩, hx6, hb6⟩ := dpost_end (hd5.far1 (by omega) 0 (.slice A5 (n + (nr + 7)) c5)) (((hbl1.trans (hb5.mono hbl1.size)).setCell (p := ⟨w.heap.size, 0, none⟩) (Nat.le_refl _) (.slice A5 (n + (nr + 7)) c5))) (by omega) ((BR.of_seg hs5).far1 ha5 0 (.slice A5 (n + (nr + 7)) c5)) s r
    rw [hw6]
    clear hw6
    exact bodyPost_ret (v := .tuple #[.agg #[.slice A5 (n + (nr + 7)) c5, .int .i64 s, .int .i64 r], .int .i64 0]) (by simp [results, Try.results12, go_sem, v0, v1, v2]) rfl ⟨A5, _, c5, by rw [HE.out]; rfl, by rw [HB.out]; exact hx6, hb6⟩

set_option maxRecDepth 100000 in
set_option maxHeartbeats 2000000 in
theorem renew_r (A : Option Addr) (n c r : Nat) (s : Int) (bs : List UInt8) (Al : Option Addr) (nl cl : Nat) (ls : List (List UInt8)) (w : World) (hb : BR w w.heap.size A n c bs) (hl : LR w w.heap.size Al nl cl ls) (hm : nl ≤ 100) :
    Calls Try.prog 25 #[.agg #[.slice A n c, .int .i64 s, .int .i64 r], .slice Al nl cl] w (TPost w (sR s r ls) r (bR bs r ls) (eR r ls)) := by
  obtain ⟨W, hW, ha, hbox, hbl, hS⟩ := two_boxes w 24 24 A n c s r
  have hlW := hl.on hbl
  have hnm := hl.max
  have HL := Lib.hid hl.1
  obtain ⟨i0, Hi, Hz, Hz1, Hz2⟩ := info_hid
  have p4 : 0 < 1 := by omega
  go_enter Try.func25, Try.ntmps25
  go_wp2_with fail
  rw [← hW]
  clear hW
  have HK : KI W [] none 0 0 W := ⟨⟨none, Seg.nil _ _ _, fun g e => by cases e⟩, Below.refl _ _⟩
  go_loopw [6, 7] (fun a i wr => ∃ (k n' : Nat) (A' : Option Addr) (c' : Nat) (xs : List UInt8), k ≤ nl ∧ i = .int .i64 k ∧ a = .slice A' n' c' ∧ n' ≤ 4007 * k ∧ KI W xs A' n' c' wr ∧ Hid (frs (ls.take k) = xs) ∧ Hid (∀ j l, j < k → ls[j]? = some l → l.length ≤ 4000)) (fun _ i _ => nl - (intOf i).toNat)
  case atStart => exact ⟨0, 0, none, 0, [], Nat.zero_le _, rfl, rfl, Nat.zero_le _, HK, rfl, fun j l h => absurd h (Nat.not_lt_zero _)⟩
  case round =>
    clear HK
    obtain ⟨k, n', A', c', xs, hk, rfl, rfl, hnk, HK, HX, HS⟩ := hrel
    obtain ⟨G', hs', hG'⟩ := HK.ex
    have hxl : xs.length = n' := by have := hs'.1; rw [bc_length] at this; omega
    have hbl1 := hbl.trans (HK.bl.mono hbl.size)
    by_cases hlt : k < nl
    · obtain ⟨g, off, A2, n2, c2, l, rfl, Hl, cl, hb2⟩ := (hlW.below HK.bl (Nat.le_refl _)).at_ hlt
      have Hn2 := Lib.hid hb2.1
      have hn2 := hb2.max
      go_wp2_with fail
      refine (frame_r A2 n2 c2 l wr (hb2.more HK.bl.size)).mono ?_
      rintro e w3 ⟨A3, n3, c3, G3, rfl, hs3, hb3, _⟩
      have hbl3 : Below W.heap.size W w3 := HK.bl.trans (hb3.mono HK.bl.size)
      have ha3 := ha.on hbl3 ha.lt
      have hbox3 := hbox.on hbl3 hbox.lt
      have hbl03 := hbl.trans (hbl3.mono hbl.size)
      by_cases hbig : 4000 < l.length
      · obtain ⟨e1, e2⟩ := eF_big hbig
        have h3 := eR_big (r := r) (bigB_yes Hl.out hbig)
        have HE := Lib.hid h3
        have HS' := Lib.hid (show sR s r ls = s from if_neg (by rw [h3]; omega))
        have HB := Lib.hid (show bR bs r ls = bs from if_neg (by rw [h3]; omega))
        obtain ⟨d0, d1, d2⟩ := ha3.cells
        obtain ⟨z0, z1, z2⟩ := hbox3.cells
        obtain ⟨f0, f1, f2⟩ := hbox3.froz
        obtain ⟨w4, hw4, ⟨v0, v1, v2⟩, hx4, hb4⟩ := dpost_end hbox3 hbl03 (by omega) (hb.on hbl03) s r
        have Hw4 := Lib.hid hw4
        rw [e1]
        clear hw4 e1 e2 h3 hbig hs3 HK hs' hxl hb2
        go_wp2_with fail
        rw [Hw4.out]
        exact bodyPost_ret (v := .tuple #[.agg #[.slice A n c, .int .i64 s, .int .i64 r], .int .i64 3]) (by simp [results, Try.results25, go_sem, v0, v1, v2]) rfl ⟨A, n, c, by rw [HE.out, HS'.out]; rfl, by rw [HB.out]; exact hx4, hb4⟩
      · obtain ⟨e1, e2⟩ := eF_ok hbig
        rw [e2] at hs3
        rw [e1]
        obtain rfl : n3 = n2 + 7 := by have h5 := hs3.1; rw [bc_length, frameB_length, Hn2.out] at h5; omega
        have HN := Lib.hid (show frs (ls.take (k + 1)) = xs ++ frameB l by rw [frs_next Hl.out, HX.out])
        have HS2 := Lib.hid (show ∀ j l, j < k + 1 → ls[j]? = some l → l.length ≤ 4000 by
          intro j l' hj hl'
          rcases Nat.lt_or_eq_of_le (Nat.lt_succ_iff.1 hj) with hj | rfl
          · exact HS.out j l' hj hl'
          · rw [Hl.out] at hl'; cases hl'; omega)
        have hq2 : n2 ≤ 4000 := by have h5 := Hn2.out; omega
        have hsrc := hs3.src
        have hs'' := hs'.below hb3 (Nat.le_refl _)
        have HK3 : KI W xs A' n' c' w3 := ⟨⟨G', hs'', hG'⟩, hbl3⟩
        have p1 : n' + (n2 + 7) ≤ maxLen := by simp only [maxLen]; omega
        have p2 : (n' + (n2 + 7)) * 1 ≤ 140737488355328 := by omega
        have HNX := Lib.hid (fun A4 c4 G4 w4 => HK3.next (ys := frameB l) (zs := xs ++ frameB l) (w3 := w4) (A3 := A4) (m := n' + (n2 + 7)) (c3 := c4) (G3 := G4) hG')
        clear HK3 hxl HK hbig e1 e2 hs3 hs' hb2 ha3 hbox3 HS
        go_wp2_with (at_builtin; refine wpList_append_src _ rfl (.tmp 27) (.tmp 28) _ rfl 5 i0 _ 1 1 Try.underlying22 Hi.out Hz.out Hz1.out Hz2.out rfl p4 rfl hs'' rfl hsrc (bc_one _) p1 p2 ?_; intro A4 c4 G4 w4 hs4 hg4 hm4; have HK := Lib.hid (HNX.out _ _ _ _ hs4 hg4 hm4 (by first | rfl | trivial)); clear hs4 hg4 hm4)
        go_roundw
        case rel => exact ⟨k + 1, n' + (n2 + 7), A4, c4, xs ++ frameB l, by omega, by go_num, rfl, by omega, HK.out, HN.out, HS2.out⟩
        case measure => simp [intOf]; omega
    · obtain rfl : k = nl := by omega
      have hxe : frs ls = xs := by rw [← HX.out, List.take_of_length_le (by rw [HL.out]; exact Nat.le_refl _)]
      have hsm := small_all HL.out HS.out
      have hn' : n' ≤ 1000000 := by omega
      have ha3 := ha.on HK.bl ha.lt
      have hbox3 := hbox.on HK.bl hbox.lt
      obtain ⟨d0, d1, d2⟩ := ha3.cells
      obtain ⟨z0, z1, z2⟩ := hbox3.cells
      obtain ⟨f0, f1, f2⟩ := hbox3.froz
      by_cases hful : r < n'
      · have h3 := eR_full (r := r) hsm (by rw [hxe, hxl]; exact hful)
        have HE := Lib.hid h3
        have HS' := Lib.hid (show sR s r ls = s from if_neg (by rw [h3]; omega))
        have HB := Lib.hid (show bR bs r ls = bs from if_neg (by rw [h3]; omega))
        obtain ⟨w4, hw4, ⟨v0, v1, v2⟩, hx4, hb4⟩ := dpost_end hbox3 hbl1 (by omega) (hb.on hbl1) s r
        have Hw4 := Lib.hid hw4
        clear hw4 h3 HK hs' hxl hxe HX HS hsm
        go_wp2_with fail
        rw [Hw4.out]
        exact bodyPost_ret (v := .tuple #[.agg #[.slice A n c, .int .i64 s, .int .i64 r], .int .i64 6]) (by simp [results, Try.results25, go_sem, v0, v1, v2]) rfl ⟨A, n, c, by rw [HE.out, HS'.out]; rfl, by rw [HB.out]; exact hx4, hb4⟩
      · have h3 := eR_ok (r := r) hsm (by rw [hxe, hxl]; exact hful)
        have HE := Lib.hid h3
        have HS' := Lib.hid (show sR s r ls = (n' : Int) by unfold sR; rw [if_pos h3, hxe, hxl])
        have HB := Lib.hid (show bR bs r ls = xs by unfold bR; rw [if_pos h3, hxe])
        obtain ⟨w4, hw4, ⟨v0, v1, v2⟩, hx4, hb4⟩ := dpost_end hbox3 hbl1 (by omega) (BR.of_seg hs') n' r
        have Hw4 := Lib.hid hw4
        clear hw4 h3 HK hs' hxl hxe HX HS hsm
        go_wp2_with fail
        rw [Hw4.out]
        exact bodyPost_ret (v := .tuple #[.agg #[.slice A' n' c', .int .i64 n', .int .i64 r], .int .i64 0]) (by simp [results, Try.results25, go_sem, v0, v1, v2]) rfl ⟨A', n', c', by rw [HE.out, HS'.out]; rfl, by rw [HB.out]; exact hx4, hb4⟩
end Go.Proofs.Ytdelllkgllfcdaa
