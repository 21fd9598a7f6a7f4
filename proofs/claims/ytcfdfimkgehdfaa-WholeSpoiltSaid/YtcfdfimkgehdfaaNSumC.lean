/-
  cut of package sum: it returns what stands in the frame at the beginning of bytes, its size, and the document's error. Conditions: the bytes can be read.
-/
import Derived.Test.YtcfdfimkgehdfaaNSumB
namespace Go.Proofs.Ytcfdfimkgehdfaa.Dk
set_option maxRecDepth 100000
open Go.RowKit

theorem run_cut_three {P : Program} (t e : TypeId) (ht : P.underlying t = some (.slice e)) (size : Nat) (hz : ∀ w, (sizeOf e).run P w = .ok size w) (A : Option Addr) (n c lo hi : Nat) (h1 : lo ≤ hi) (h2 : hi ≤ c) (w : World) :
    (Instr.slice t (.slice A n c) (some (.int .i64 lo)) (some (.int .i64 hi)) (some (.int .i64 hi))).run P w = .ok (.slice (if hi = lo then A else A.map (·.add (lo * size))) (hi - lo) (hi - lo)) w := by
  simp [Instr.slice, run_underlying ht, Instr.sliceBounds, hz, go_sem, h1, h2]

theorem cut_both {w : World} {B : Nat} {A : Option Addr} {n c : Nat} {bs : List UInt8} (h : BR w B A n c bs) (lo hi : Nat) (x y : Int) (hx : x = lo) (hy : y = hi) (h1 : lo ≤ hi) (h2 : hi ≤ n) (m : Nat) (hm : hi = lo + m) :
    ∃ A1 c1, (∀ W, (Instr.slice 30 (.slice A n c) (some (.int .i64 x)) (some (.int .i64 y)) none).run Try.prog W = .ok (.slice A1 m c1) W) ∧ BR w B A1 m c1 ((bs.drop lo).take m) := by
  have hnc := h.2.1
  subst hx hy hm
  have h3 := (h.cut (k := lo) (by omega)).upto (k := m) (by omega)
  refine ⟨_, _, fun W => ?_, h3⟩
  rw [run_cut_both (P := Try.prog) 30 5 Try.underlying30 1 Try.sizeB A n c lo (lo + m) h1 (by omega) W, Nat.add_sub_cancel_left]
theorem cut_three {w : World} {B : Nat} {A : Option Addr} {n c : Nat} {bs : List UInt8} (h : BR w B A n c bs) (lo hi : Nat) (x y : Int) (hx : x = lo) (hy : y = hi) (h1 : lo ≤ hi) (h2 : hi ≤ n) (m : Nat) (hm : hi = lo + m) :
    ∃ A1, (∀ W, (Instr.slice 30 (.slice A n c) (some (.int .i64 x)) (some (.int .i64 y)) (some (.int .i64 y))).run Try.prog W = .ok (.slice A1 m m) W) ∧ BR w B A1 m m ((bs.drop lo).take m) := by
  have hnc := h.2.1
  have hcm := h.2.2.1
  subst hx hy hm
  have h3 := (h.cut (k := lo) (by omega)).upto (k := m) (by omega)
  refine ⟨if lo + m = lo then A else A.map (fun x : Addr => x.add (lo * 1)), fun W => ?_, h3.1, Nat.le_refl _, by omega, fun hm => ?_⟩
  · rw [run_cut_three (P := Try.prog) 30 5 Try.underlying30 1 Try.sizeB A n c lo (lo + m) h1 (by omega) W, Nat.add_sub_cancel_left]
  · rw [if_neg (by omega)]
    have := h3.2.2.2 hm
    rwa [if_neg (by omega)] at this
theorem cut_upto {w : World} {B : Nat} {A : Option Addr} {n c : Nat} {bs : List UInt8} (h : BR w B A n c bs) (hi : Nat) (y : Int) (hy : y = hi) (h2 : hi ≤ n) :
    (∀ W, (Instr.slice 30 (.slice A n c) none (some (.int .i64 y)) none).run Try.prog W = .ok (.slice A hi c) W) ∧ BR w B A hi c (bs.take hi) := by
  have hnc := h.2.1
  subst hy
  exact ⟨fun W => run_cut_upto (P := Try.prog) 30 5 Try.underlying30 1 Try.sizeB A n c hi (by omega) W, h.upto h2⟩
theorem cut_from {w : World} {B : Nat} {A : Option Addr} {n c : Nat} {bs : List UInt8} (h : BR w B A n c bs) (lo : Nat) (x : Int) (hx : x = lo) (h2 : lo ≤ n) :
    ∃ A1 c1, (∀ W, (Instr.slice 30 (.slice A n c) (some (.int .i64 x)) none none).run Try.prog W = .ok (.slice A1 (n - lo) c1) W) ∧ BR w B A1 (n - lo) c1 (bs.drop lo) := by
  subst hx
  exact ⟨_, _, fun W => run_cut_from (P := Try.prog) 30 5 Try.underlying30 1 Try.sizeB A n c lo h2 W, h.cut h2⟩

theorem BR.drewN {w : World} {B : Nat} {A : Option Addr} {n c : Nat} {bs : List UInt8} (h : BR w B A n c bs) (k : Nat) : BR (w.drewN k) B A n c bs := h.keep fun _ _ => rfl
theorem BR.drew {w : World} {B : Nat} {A : Option Addr} {n c : Nat} {bs : List UInt8} (h : BR w B A n c bs) : BR w.drew B A n c bs := h.keep fun _ _ => rfl

/-- A call gave a piece of bytes back that lies below B, its frame's size and an error. -/
def CPost (w : World) (B : Nat) (bs : List UInt8) (e : Ending) (w' : World) : Prop :=
  ∃ A' n' c', e = .returned (.tuple #[.slice A' n' c', .int .i64 (fK bs : Int), .int .i64 (fE bs : Int)]) ∧ BR w' B A' n' c' (fC bs) ∧ Below w.heap.size w w'
theorem cpost_bad {w w' : World} {B : Nat} {bs : List UInt8} {k : Nat} (h : fE bs = k + 1) (hb : Below w.heap.size w w') : CPost w B bs (.returned (.tuple #[.slice none 0 0, .int .i64 0, .int .i64 ((k + 1 : Nat) : Int)])) w' := by
  have h0 : ¬ fE bs = 0 := by omega
  refine ⟨none, 0, 0, ?_, ?_, hb⟩
  · rw [fK_bad h0, h]; rfl
  · rw [fC_bad h0]; exact BR.nil _ _
theorem cpost_ok {w w' : World} {B : Nat} {bs : List UInt8} {A : Option Addr} {n c : Nat} {x : Int} (h : fE bs = 0) (hb : BR w' B A n c (fC bs)) (hK : x = fK bs) (hbl : Below w.heap.size w w') : CPost w B bs (.returned (.tuple #[.slice A n c, .int .i64 x, .int .i64 0])) w' := by
  refine ⟨A, n, c, ?_, hb, hbl⟩
  rw [h, hK]; rfl

set_option maxRecDepth 100000 in
set_option maxHeartbeats 1000000 in
theorem cut_c (B : Nat) (A : Option Addr) (n c : Nat) (bs : List UInt8) (w : World) (hb : BR w B A n c bs) :
    Calls Try.prog 80 #[.slice A n c] w (CPost w B bs) := by
  have hn := hb.1
  have hnm := hb.max
  by_cases h0 : n = 0
  · have H := Lib.hid (cpost_bad (w := w) (w' := w) (B := B) (k := 6) (fE_none (b := bs) (by omega)) (Below.refl _ _))
    subst h0
    go_enter Try.func80, Try.ntmps80
    go_wp2
    go_ret3
    exact H.out
  have h0' : ((n : Int) == 0) = false := by rw [beq_eq_false_iff_ne]; omega
  have hl0 : ¬ bs.length = 0 := by omega
  obtain ⟨g, off, b, rfl, hgB, Hb, cb⟩ := hb.at_ (show 0 < n by omega)
  rw [Nat.add_zero] at cb
  by_cases hf : ¬ bs[0]? = some 1 ∨ bs.length < 3
  · have H := Lib.hid (cpost_bad (w := w) (w' := w) (B := B) (k := 3) (fE_form1 hl0 hf) (Below.refl _ _))
    by_cases h1 : b = 1
    · subst h1
      replace cb : w.cell? ⟨g, off, none⟩ = some (.int .u8 1) := cb
      have h3 : (n : Int) < 3 := by have := Hb.out; rcases hf with hf | hf; exact absurd this hf; omega
      clear hf
      go_enter Try.func80, Try.ntmps80
      go_wp2
      go_ret3
      exact H.out
    · have e1 := u8ne 1 1 rfl h1
      have e2 : ((b.toNat : Int) != 1) = true := by rw [bne, e1]; rfl
      clear hf h1
      go_enter Try.func80, Try.ntmps80
      go_wp2
      go_ret3
      exact H.out
  have Hf := Lib.hid hf
  have h1 : b = 1 := by
    refine Classical.byContradiction fun hc => hf (.inl ?_)
    rw [Hb.out]
    exact fun e => hc (Option.some.inj e)
  have h3 : ¬ (n : Int) < 3 := by omega
  subst h1
  replace cb : w.cell? ⟨g, off, none⟩ = some (.int .u8 1) := cb
  obtain ⟨A1, c1, hcut1, hb1⟩ := cut_both hb 1 3 1 3 rfl rfl (by omega) (by omega) 2 (by omega)
  obtain ⟨N, hN⟩ : ∃ N, fN bs = N := ⟨_, rfl⟩
  have HN := Lib.hid hN
  have HV := Lib.hid (show val ((bs.drop 1).take 2) = N from hN)
  have hN6 : N < 65536 := by rw [← hN]; have := val_lt ((bs.drop 1).take 2); have h2 : ((bs.drop 1).take 2).length = 2 := hb1.1; rw [h2] at this; exact this
  clear hf hN
  by_cases hg : 4000 < N ∨ n < N + 7
  · have H := Lib.hid (cpost_bad (w := w) (w' := w) (B := B) (k := 3) (fE_form2 hl0 Hf.out (by rw [HN.out, hn]; exact hg)) (Below.refl _ _))
    have hg' : ¬ (4000 : Int) < (N : Int) → (n : Int) < 3 + (N : Int) + 4 := by omega
    clear hg
    by_cases hg1 : (4000 : Int) < (N : Int)
    · go_enter Try.func80, Try.ntmps80
      go_wp2_with fail
      refine (number_c B A1 2 c1 _ _ hb1 (by omega)).mono ?_
      rintro e w' ⟨rfl, rfl⟩
      rw [HV.out]
      go_wp2_with fail
      go_ret3
      exact H.out
    · have hg2 := hg' hg1
      go_enter Try.func80, Try.ntmps80
      go_wp2_with fail
      refine (number_c B A1 2 c1 _ _ hb1 (by omega)).mono ?_
      rintro e w' ⟨rfl, rfl⟩
      rw [HV.out]
      go_wp2_with fail
      go_ret3
      exact H.out
  have hg1 : ¬ (4000 : Int) < (N : Int) := by omega
  have hg2 : ¬ (n : Int) < 3 + (N : Int) + 4 := by omega
  have hg3 : N + 7 ≤ n := by omega
  have Hg := Lib.hid hg
  clear hg
  obtain ⟨A2, c2, hcut2, hb2⟩ := cut_both hb (N + 3) (N + 7) (3 + (N : Int)) (3 + (N : Int) + 4) (by omega) (by omega) (by omega) (by omega) 4 (by omega)
  obtain ⟨hcut3, hb3⟩ := cut_upto hb (N + 3) (3 + (N : Int)) (by omega) (by omega)
  obtain ⟨A4, hcut4, hb4⟩ := cut_three hb 3 (N + 3) 3 (3 + (N : Int)) rfl (by omega) (by omega) (by omega) N (by omega)
  go_enter Try.func80, Try.ntmps80
  go_wp2_with fail
  refine (number_c B A1 2 c1 _ _ hb1 (by omega)).mono ?_
  rintro e w' ⟨rfl, rfl⟩
  rw [HV.out]
  go_wp2_with fail
  go_quiet (first
    | (go_at_call 86; exact Calls.quiet_of_same ((number_c B A2 4 c2 _ _ (hb2.drewN _) (by omega)).mono fun e w' hh => ⟨hh.1, hh.2.symm⟩))
    | (go_at_call 78; exact Calls.quiet_of_same ((sum_c B _ (N + 3) c _ _ (hb3.drewN _)).mono fun e w' hh => ⟨hh.1, hh.2.symm⟩)))
  by_cases hs : val ((bs.drop (N + 3)).take 4) = sumB (bs.take (N + 3))
  · have h00 : fE bs = 0 := fE_ok hl0 Hf.out (by rw [HN.out, hn]; exact Hg.out) (by rw [HN.out]; exact hs)
    have H := Lib.hid (cpost_ok (w := w) (w' := w.drewN nq) (B := B) (A := A4) (n := N) (c := N) (x := 3 + (N : Int) + 4) h00 (by rw [fC_ok h00, HN.out]; exact hb4.drewN _) (by rw [fK_ok h00, HN.out]; omega) (belowN (Below.refl _ _) _))
    rw [hs]
    have hee : (((sumB (bs.take (N + 3)) : Nat) : Int) != ((sumB (bs.take (N + 3)) : Nat) : Int)) = false := by simp
    generalize sumB (bs.take (N + 3)) = S at *
    clear hs h00 hb2 hb3 hb1 hb4
    go_wp2_with fail
    go_ret3
    exact H.out
  · have H := Lib.hid (cpost_bad (w := w) (w' := w.drewN nq) (B := B) (k := 4) (fE_sum hl0 Hf.out (by rw [HN.out, hn]; exact Hg.out) (by rw [HN.out]; exact hs)) (belowN (Below.refl _ _) _))
    have hee : (((val ((bs.drop (N + 3)).take 4) : Nat) : Int) != ((sumB (bs.take (N + 3)) : Nat) : Int)) = true := by rw [bne_iff_ne]; omega
    generalize sumB (bs.take (N + 3)) = S at *
    generalize val ((bs.drop (N + 3)).take 4) = V at *
    clear hs hb2 hb3 hb1 hb4
    go_wp2_with fail
    go_ret3
    exact H.out
end Go.Proofs.Ytcfdfimkgehdfaa.Dk
