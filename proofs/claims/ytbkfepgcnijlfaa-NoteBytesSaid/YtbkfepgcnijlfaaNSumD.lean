/-
  First of the document's answer. Conditions: the bytes can be read.
-/
import Derived.Test.YtbkfepgcnijlfaaNSumC
namespace Go.Proofs.Ytbkfepgcnijlfaa.Dk
set_option maxRecDepth 100000
open Go.RowKit

theorem two_bytes {bs : List UInt8} {a b : UInt8} (h1 : bs[1]? = some a) (h2 : bs[2]? = some b) : fN bs = a.toNat * 256 + b.toNat := by
  unfold fN
  match bs, h1, h2 with
  | [], h1, _ => simp at h1
  | [_], h1, _ => simp at h1
  | [_, _], _, h2 => simp at h2
  | x :: y :: z :: r, h1, h2 =>
    simp at h1 h2
    subst h1 h2
    simp [val]
theorem cells_far {w : World} {B : Nat} {g off n c : Nat} {bs : List UInt8} (hb : BR w B (some ⟨g, off, none⟩) n c bs) (i : Nat) (hi : i < n) : ∃ b : UInt8, Hid (bs[i]? = some b) ∧ w.cell? ⟨g, off + i, none⟩ = some (.int .u8 (b.toNat : Int)) := by
  obtain ⟨g', off', b, e, _, h1, h2⟩ := hb.at_ hi
  cases e
  exact ⟨b, h1, h2⟩
theorem str_ne {l m : List UInt8} (h : ¬ l = m) : ((mkS l).toList == (mkS m).toList) = false := by
  rw [tl_bl, tl_bl, bl_mkS, bl_mkS, beq_eq_false_iff_ne]
  exact h

/-- The document's way: the frame of what is in it is there. -/
theorem frame_there {bs : List UInt8} {N : Nat} (hf : ¬ (¬ bs[0]? = some 1 ∨ bs.length < 3)) (hN : fN bs = N) (hg : ¬ (4000 < N ∨ bs.length < N + 7)) : (bF ((bs.drop 3).take N) = bs.take (N + 7)) ↔ fE bs = 0 := by
  have hl : ((bs.drop 3).take N).length = N := by rw [List.length_take, List.length_drop]; omega
  have hbF : bF ((bs.drop 3).take N) = frameB ((bs.drop 3).take N) := (eF_ok (by omega)).2
  rw [hbF]
  constructor
  · intro h
    have h1 := (frame_first ((bs.drop 3).take N) (bs.drop (N + 7)) (by omega)).1
    rwa [h, List.take_append_drop] at h1
  · intro h
    have h1 := (first_frame h).1
    rw [fC_ok h, hN] at h1
    exact h1.symm

set_option maxRecDepth 100000 in
set_option maxHeartbeats 1000000 in
theorem first_r (B : Nat) (A : Option Addr) (n c : Nat) (bs : List UInt8) (w : World) (hb : BR w B A n c bs) (hB : B ≤ w.heap.size) :
    Calls Try.prog 27 #[.slice A n c] w (CPost w B bs) := by
  have hn := hb.1
  have hnm := hb.max
  by_cases h0 : n = 0
  · have H := Lib.hid (cpost_bad (w := w) (w' := w) (B := B) (k := 6) (fE_none (b := bs) (by omega)) (Below.refl _ _))
    subst h0
    go_enter Try.func27, Try.ntmps27
    go_wp2
    go_ret3
    exact H.out
  have h0' : ((n : Int) == 0) = false := by rw [beq_eq_false_iff_ne]; omega
  have hl0 : ¬ bs.length = 0 := by omega
  obtain ⟨g, off, b, rfl, hgB, Hb, cb⟩ := hb.at_ (show 0 < n by omega)
  rw [Nat.add_zero] at cb
  by_cases hf : ¬ bs[0]? = some 1 ∨ bs.length < 3
  · have H := Lib.hid (cpost_bad (w := w) (w' := w) (B := B) (k := 3) (fE_form1 hl0 hf) (Below.refl _ _))
    by_cases h1 : b = 1
    · subst h1
      replace cb : w.cell? ⟨g, off, none⟩ = some (.int .u8 1) := cb
      have h3 : (n : Int) < 3 := by have := Hb.out; rcases hf with hf | hf; exact absurd this hf; omega
      clear hf
      go_enter Try.func27, Try.ntmps27
      go_wp2
      go_ret3
      exact H.out
    · have e1 := u8ne 1 1 rfl h1
      have e2 : ((b.toNat : Int) != 1) = true := by rw [bne, e1]; rfl
      clear hf h1
      go_enter Try.func27, Try.ntmps27
      go_wp2
      go_ret3
      exact H.out
  have Hf := Lib.hid hf
  have h1 : b = 1 := by
    refine Classical.byContradiction fun hc => hf (.inl ?_)
    rw [Hb.out]
    exact fun e => hc (Option.some.inj e)
  have h3 : ¬ (n : Int) < 3 := by omega
  subst h1
  replace cb : w.cell? ⟨g, off, none⟩ = some (.int .u8 1) := cb
  obtain ⟨b1, Hb1, cb1⟩ := cells_far hb 1 (by omega)
  obtain ⟨b2, Hb2, cb2⟩ := cells_far hb 2 (by omega)
  have hx1 : b1.toNat < 256 := b1.toNat_lt
  have hx2 : b2.toNat < 256 := b2.toNat_lt
  obtain ⟨N, hN⟩ : ∃ N, b1.toNat * 256 + b2.toNat = N := ⟨_, rfl⟩
  have HN := Lib.hid (show fN bs = N by rw [two_bytes Hb1.out Hb2.out, hN])
  have hNi : (b1.toNat : Int) * 256 + (b2.toNat : Int) = (N : Int) := by omega
  have hN6 : N < 65536 := by omega
  clear hf
  have w1 : IntKind.i64.wrap ((b1.toNat : Int) * 256) = (b1.toNat : Int) * 256 := IntWalk.i64_in _ (by omega)
  have w2 : IntKind.i64.wrap ((b1.toNat : Int) * 256 + (b2.toNat : Int)) = (b1.toNat : Int) * 256 + (b2.toNat : Int) := IntWalk.i64_in _ (by omega)
  go_enter Try.func27, Try.ntmps27
  go_wp2_with fail
  go_quiet (fail)
  clear w1 w2 hNi cb1 cb2 hx1 hx2 hN
  have hbl : Below w.heap.size w (w.drewN nq) := belowN (Below.refl _ _) _
  have hb' : BR (w.drewN nq) (w.drewN nq).heap.size (some ⟨g, off, none⟩) n c bs := (hb.more hB).drewN nq
  have hsz : w.heap.size ≤ (w.drewN nq).heap.size := Nat.le_refl _
  generalize w.drewN nq = W at *
  by_cases hg : 4000 < N ∨ n < N + 7
  · have H := Lib.hid (cpost_bad (w := w) (w' := W) (B := B) (k := 3) (fE_form2 hl0 Hf.out (by rw [HN.out, hn]; exact hg)) hbl)
    have hg' : ¬ (4000 : Int) < (N : Int) → (n : Int) < (N : Int) + 7 := by omega
    clear hg hb hb'
    by_cases hg1 : (4000 : Int) < (N : Int)
    · go_wp2_with fail
      go_ret3
      exact H.out
    · have hg2 := hg' hg1
      go_wp2_with fail
      go_ret3
      exact H.out
  have hg1 : ¬ (4000 : Int) < (N : Int) := by omega
  have hg2 : ¬ (n : Int) < (N : Int) + 7 := by omega
  have hg3 : N + 7 ≤ n := by omega
  have hg4 : N ≤ 4000 := by omega
  have HT := Lib.hid (frame_there Hf.out HN.out (by rw [hn]; exact hg))
  have Hg := Lib.hid hg
  clear hg
  obtain ⟨A2, c2, hcut2, hb2⟩ := cut_both hb' 3 (N + 3) 3 ((N : Int) + 3) (by omega) (by omega) (by omega) (by omega) N (by omega)
  go_wp2_with fail
  refine (frame_r A2 N c2 _ W hb2).mono ?_
  rintro e w2 ⟨A3, n3, c3, G3, rfl, hs3, hbl3, _⟩
  have hb3 := BR.of_seg hs3
  have hbl2 : Below w.heap.size w w2 := hbl.trans (hbl3.mono hsz)
  have hb4 : BR w2 B (some ⟨g, off, none⟩) n c bs := hb.below hbl2 hB
  obtain ⟨hcut5, hb5⟩ := cut_upto hb4 (N + 7) ((N : Int) + 7) (by omega) (by omega)
  obtain ⟨A6, c6, hcut6, hb6⟩ := cut_both hb4 3 (N + 3) 3 ((N : Int) + 3) (by omega) (by omega) (by omega) (by omega) N (by omega)
  have hcv1 : ∀ k, (convert 26 9 (.slice A3 n3 c3)).run Try.prog (w2.drewN k) = _ := fun k => conv_br (hb3.drewN k)
  have hcv2 : ∀ k, (convert 26 9 (.slice (some ⟨g, off, none⟩) (N + 7) c)).run Try.prog (w2.drewN k) = _ := fun k => conv_br (hb5.drewN k)
  have HE := Lib.hid (show eF ((bs.drop 3).take N) = 0 from (eF_ok (by have := hb2.1; omega)).1)
  rw [HE.out]
  generalize bF ((bs.drop 3).take N) = FF at *
  clear hs3 hbl3 hb2 hb' hbl hcut2 hb3 hb hb5 HE cb
  go_wp2_with fail
  go_quiet (fail)
  have hbl7 : Below w.heap.size w (w2.drewN nq) := belowN hbl2 _
  by_cases hs : FF = bs.take (N + 7)
  · have h00 : fE bs = 0 := HT.out.1 hs
    have H := Lib.hid (cpost_ok (w := w) (w' := w2.drewN nq) (B := B) (A := A6) (n := N) (c := c6) (x := (N : Int) + 7) h00 (by rw [fC_ok h00, HN.out]; exact hb6.drewN _) (by rw [fK_ok h00, HN.out]; omega) hbl7)
    rw [show (!(mkS FF).toList == (mkS (bs.take (N + 7))).toList) = false by rw [hs]; simp]
    generalize bs.take (N + 7) = S at *
    clear hs h00 hb6 hb4 hbl2 hbl7 HT hcv1 hcv2
    go_wp2_with fail
    go_ret3
    exact H.out
  · have H := Lib.hid (cpost_bad (w := w) (w' := w2.drewN nq) (B := B) (k := 4) (fE_sum hl0 Hf.out (by rw [HN.out, hn]; exact Hg.out) (fun hc => hs (HT.out.2 (fE_ok hl0 Hf.out (by rw [HN.out, hn]; exact Hg.out) hc)))) hbl7)
    rw [show (!(mkS FF).toList == (mkS (bs.take (N + 7))).toList) = true by rw [str_ne hs]; rfl]
    generalize bs.take (N + 7) = S at *
    clear hs hb6 hb4 hbl2 hbl7 HT hcv1 hcv2
    go_wp2_with fail
    go_ret3
    exact H.out
end Go.Proofs.Ytbkfepgcnijlfaa.Dk
