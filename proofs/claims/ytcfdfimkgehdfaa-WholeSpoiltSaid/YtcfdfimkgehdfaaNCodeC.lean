/-
  Encode of package code: it returns the document's bytes, or the document's error. Conditions: the shape and the strings are such as memory can hold, the values are readable.
-/
import Derived.Test.YtcfdfimkgehdfaaNCodeB
import Derived.Laws.MakeOwn
namespace Go.Proofs.Ytcfdfimkgehdfaa.Dk
set_option maxRecDepth 100000
open Go.RowKit

/-- A slice of values that can be read. -/
def VR (w : World) (A : Option Addr) (l : List CV) : Prop :=
  ∀ (i : Nat) (v : CV), l[i]? = some v → v.n < 18446744073709551616 ∧ v.s.size ≤ maxLen ∧ ∃ g off, A = some ⟨g, off, none⟩ ∧ g < w.heap.size ∧
    w.cell? ⟨g, off + i * 2, none⟩ = some (.int .u64 v.n) ∧ w.cell? ⟨g, off + i * 2 + 1, none⟩ = some (.string v.s)
theorem VR.below {w w' : World} {A : Option Addr} {l : List CV} {B : Nat} (h : VR w A l) (hb : Below B w w') (hB : w.heap.size ≤ B) : VR w' A l := by
  intro i v hv
  obtain ⟨h1, h2, g, off, h3, h4, h5, h6⟩ := h i v hv
  exact ⟨h1, h2, g, off, h3, by have := hb.size; omega, (hb.cell (p := ⟨g, _, none⟩) (by simp only; omega)).trans h5, (hb.cell (p := ⟨g, _, none⟩) (by simp only; omega)).trans h6⟩
theorem VR.at_ {w : World} {A : Option Addr} {l : List CV} (h : VR w A l) {i : Nat} (hi : i < l.length) :
    ∃ (v : CV) (g off : Nat), Hid (l[i]? = some v) ∧ v.n < 18446744073709551616 ∧ v.s.size ≤ maxLen ∧ A = some ⟨g, off, none⟩ ∧
    w.cell? ⟨g, off + i * 2, none⟩ = some (.int .u64 v.n) ∧ w.cell? ⟨g, off + i * 2 + 1, none⟩ = some (.string v.s) := by
  obtain ⟨h1, h2, g, off, h3, h4, h5, h6⟩ := h i l[i] (List.getElem?_eq_getElem hi)
  exact ⟨l[i], g, off, List.getElem?_eq_getElem hi, h1, h2, h3, h5, h6⟩

/-- A call gave bytes and a number back. -/
def EPostC (w : World) (bs : List UInt8) (k : Nat) (e : Ending) (w' : World) : Prop :=
  ∃ A n c G, e = .returned (.tuple #[.slice A n c, .int .i64 (k : Int)]) ∧ Seg w' 5 1 A n c (bc bs) G ∧ Below w.heap.size w w'

theorem eE_bad {sh : List UInt8} {l : List CV} (h : okE sh l = false) : eE sh l = 2 ∧ bE sh l = [] := by
  have : eE sh l = 2 := by unfold eE; rw [h]; rfl
  exact ⟨this, by unfold bE; rw [this]; rfl⟩
theorem eE_big {sh : List UInt8} {l : List CV} (h : okE sh l = true) (h2 : 4000 < (enc sh l).length) : eE sh l = 3 ∧ bE sh l = [] := by
  have : eE sh l = 3 := by unfold eE; rw [h, if_pos rfl, if_pos h2]
  exact ⟨this, by unfold bE; rw [this]; rfl⟩
theorem eE_ok {sh : List UInt8} {l : List CV} (h : okE sh l = true) (h2 : ¬ 4000 < (enc sh l).length) : eE sh l = 0 ∧ bE sh l = enc sh l := by
  have : eE sh l = 0 := by unfold eE; rw [h, if_pos rfl, if_neg h2]
  exact ⟨this, by unfold bE; rw [if_pos this]⟩
theorem epost_nil {w w' : World} {sh : List UInt8} {l : List CV} {k : Nat} (h : eE sh l = k ∧ bE sh l = []) (hb : Below w.heap.size w w') : EPostC w (bE sh l) (eE sh l) (.returned (.tuple #[.slice none 0 0, .int .i64 (k : Int)])) w' := by
  rw [h.1, h.2]
  exact ⟨none, 0, 0, none, rfl, Seg.nil _ _ _, hb⟩
theorem ret2_eq {w w' : World} {bs : List UInt8} {k : Nat} {e e' : Ending} (h : EPostC w bs k e' w') (he : e = e') : EPostC w bs k e w' := by rw [he]; exact h
theorem fitB_size {c : UInt8} {v : CV} (h : fitB c v = true) : v.s.size ≤ 2000 := by
  unfold fitB at h
  split at h <;> simp only [Bool.and_eq_true, beq_iff_eq, decide_eq_true_eq] at h <;> omega

set_option maxRecDepth 100000 in
set_option maxHeartbeats 1000000 in
theorem encode_c (s : ByteArray) (A : Option Addr) (cap : Nat) (l : List CV) (w : World) (hs : s.size ≤ maxLen) (hl : VR w A l) :
    Calls Try.prog 54 #[.string s, .slice A l.length cap] w (EPostC w (bE (bl s) l) (eE (bl s) l)) := by
  have hs0 := hs
  unfold maxLen at hs
  have hbl := bl_length s
  by_cases hp : properB (bl s) = false
  · have H := Lib.hid (epost_nil (w := w) (w' := w) (eE_bad (l := l) (by unfold okE; rw [hp]; rfl)) (Below.refl _ _))
    have Hp := Lib.hid hp
    clear hp hbl
    go_enter Try.func54, Try.ntmps54
    go_wp2_with fail
    refine (proper_c s _ hs0).mono ?_
    rintro e w' ⟨rfl, rfl⟩
    rw [Hp.out]
    go_wp2_with fail
    go_ret2
    exact H.out
  have hp' : properB (bl s) = true := by simpa using hp
  have hp100 : s.size ≤ 100 := by
    unfold properB at hp'
    simp only [Bool.and_eq_true, decide_eq_true_eq] at hp'
    omega
  have Hp := Lib.hid hp'
  clear hp
  by_cases hne : l.length = s.size
  case neg =>
    have H := Lib.hid (epost_nil (w := w) (w' := w) (eE_bad (sh := bl s) (l := l) (by unfold okE; rw [show (l.length == (bl s).length) = false by rw [hbl]; simpa using hne]; simp)) (Below.refl _ _))
    have hne' : ((l.length : Int) != (s.size : Int)) = true := by rw [bne_iff_ne]; omega
    clear hp' hbl hne
    go_enter Try.func54, Try.ntmps54
    go_wp2_with fail
    refine (proper_c s _ hs0).mono ?_
    rintro e w' ⟨rfl, rfl⟩
    rw [Hp.out]
    go_wp2_with fail
    go_ret2
    exact H.out
  have Hlen := Lib.hid hne
  have hln : l.length ≤ 100 := by omega
  have hln' : s.size ≤ l.length := by omega
  have hln2 : l.length ≤ s.size := by omega
  have hne' : ((l.length : Int) != (s.size : Int)) = false := by rw [bne_eq_false_iff_eq]; omega
  have Hbl := Lib.hid hbl
  clear hp' hbl hne
  go_enter Try.func54, Try.ntmps54
  go_wp2_with fail
  refine (proper_c s _ hs0).mono ?_
  rintro e w' ⟨rfl, rfl⟩
  rw [Hp.out]
  go_wp2_with fail
  clear hne'
  go_loopw [6, 24] (fun sz i wr => ∃ k q : Nat, k ≤ l.length ∧ i = .int .i64 k ∧ sz = .int .i64 q ∧ q ≤ 2010 * k ∧ Hid (q = (enc ((bl s).take k) (l.take k)).length) ∧ Hid (fitsB ((bl s).take k) (l.take k) = true) ∧ Below w.heap.size w wr) (fun _ i _ => l.length - (intOf i).toNat)
  case atStart => exact ⟨0, 0, by omega, rfl, rfl, by omega, rfl, rfl, Below.refl _ _⟩
  case round =>
    obtain ⟨k, q, hk, rfl, rfl, hq, Hq, Hf, hbw⟩ := hrel
    by_cases hlt : k < l.length
    · obtain ⟨v, g, off, Hv, hv1, hv2, rfl, c0, c1⟩ := (hl.below hbw (Nat.le_refl _)).at_ hlt
      have hks : k < s.size := by omega
      have Hg := Lib.hid (bl_get s k hks)
      have hcb := CB.new wr 142 #[.int .u64 v.n, .string v.s]
      have hb1 : Below w.heap.size w (wr.alloc (.cells #[.int .u64 v.n, .string v.s] 142)) := hbw.alloc hbw.size _
      go_wp2_with fail
      generalize wr.alloc (.cells #[.int .u64 v.n, .string v.s] 142) = W at *
      have d0 := hcb.cell 0
      have d1 := hcb.cell 1
      simp at d0 d1
      go_still_tail 4, (by kernel_rfl)
      change wpList _ _ _ _ _ W.drew
      go_wp2_with fail
      refine (fits_c s[k] v _ hv1 hv2).mono ?_
      rintro e w2 ⟨rfl, hb2⟩
      have hcb2 : CB w2 wr.heap.size 142 #[.int .u64 v.n, .string v.s] := hcb.drew.same (hb2.block _ hcb.lt)
      have hbw2 : Below w.heap.size w w2 := hb1.drew.trans (hb2.mono hb1.size)
      clear hb2 hcb hb1 d0 d1 c0 c1
      cases hfit : fitB s[k] v
      · have H := Lib.hid (epost_nil (w := w) (w' := w2) (eE_bad (sh := bl s) (l := l) (by unfold okE; rw [fitsB_false (by rw [Hlen.out, Hbl.out]) Hg.out Hv.out hfit, Bool.and_false])) hbw2)
        clear hfit
        go_wp2_with fail
        go_ret2
        exact H.out
      · have hsz := fitB_size hfit
        have hw8 := wd_le s[k]
        have d1 := hcb2.cell 1
        simp at d1
        have HL := Lib.hid (show (enc ((bl s).take (k + 1)) (l.take (k + 1))).length = q + (wd s[k] + v.s.size) by rw [enc_snoc Hg.out Hv.out, List.length_append, ← Hq.out, encV_length hfit])
        have HF := Lib.hid (show fitsB ((bl s).take (k + 1)) (l.take (k + 1)) = true by rw [fitsB_snoc Hg.out Hv.out, Hf.out, hfit]; rfl)
        clear hfit Hq Hf Hg Hv hcb2
        go_wp2_with fail
        have e1 : IntKind.i64.wrap ((wd s[k] : Int) + (v.s.size : Int)) = (wd s[k] : Int) + (v.s.size : Int) := IntWalk.i64_in _ (by omega)
        have e2 : IntKind.i64.wrap ((q : Int) + ((wd s[k] : Int) + (v.s.size : Int))) = (q : Int) + ((wd s[k] : Int) + (v.s.size : Int)) := IntWalk.i64_in _ (by omega)
        go_quiet ((go_at_call 76; exact Calls.quiet_of_same ((width_c s[k] _).mono fun e w' hh => ⟨hh.1, hh.2.symm⟩)))
        clear e1 e2
        go_wp2_with fail
        go_roundw
        case rel => exact ⟨k + 1, q + (wd s[k] + v.s.size), by omega, by go_num, by go_num, by omega, HL.out.symm, HF.out, belowN hbw2 _⟩
        case measure => simp [intOf]; omega
    · obtain rfl : k = l.length := by omega
      have HF := Lib.hid (show fitsB (bl s) l = true by have := Hf.out; rwa [List.take_length, List.take_of_length_le (by rw [Hbl.out]; omega)] at this)
      have HQ := Lib.hid (show q = (enc (bl s) l).length by have := Hq.out; rwa [List.take_length, List.take_of_length_le (by rw [Hbl.out]; omega)] at this)
      have HO := Lib.hid (show okE (bl s) l = true by unfold okE; rw [Hp.out, HF.out, Hlen.out, Hbl.out]; simp)
      clear Hf Hq
      by_cases hbig : (4000 : Int) < (q : Int)
      · have H := Lib.hid (epost_nil (w := w) (w' := wr) (eE_big HO.out (by rw [← HQ.out]; omega)) hbw)
        go_wp2_with fail
        go_ret2
        exact H.out
      · obtain ⟨i0, hi0, hz0, hz1, hz2⟩ := info_parts Try.infoB
        obtain ⟨w3, hrun, hseg3, hg3⟩ := run_make_seg (P := Try.prog) wr 30 5 i0 _ 1 Try.underlying30 hi0 hz0 hz1 q (by rw [hz2]; omega) (by simp only [maxLen]; omega)
        have HE := Lib.hid (eE_ok HO.out (by rw [← HQ.out]; omega))
        have hb3 : Below w.heap.size w w3 := hbw.trans (grown_below hg3 hbw.size (fun g e => by cases e))
        have hG3 : w.heap.size ≤ wr.heap.size := hbw.size
        clear hi0 hz0 hz1 hz2 HQ hg3
        go_wp2_with fail
        clear hrun
        go_loopw [9, 52] (fun b i wq => ∃ (k : Nat) (A' : Option Addr) (n' c' : Nat) (G' : Option Nat), k ≤ l.length ∧ i = .int .i64 k ∧ b = .slice A' n' c' ∧ n' ≤ 2010 * k ∧ Seg wq 5 1 A' n' c' (bc (enc ((bl s).take k) (l.take k))) G' ∧ (∀ g, G' = some g → w.heap.size ≤ g) ∧ Below w.heap.size w wq) (fun _ i _ => l.length - (intOf i).toNat)
        case atStart => exact ⟨0, _, 0, q, _, by omega, rfl, rfl, by omega, by simpa [bc, enc] using hseg3, fun g e => by cases e; exact hG3, hb3⟩
        case round =>
          clear hseg3 hb3 hbw
          obtain ⟨k, A', n', c', G', hk', rfl, rfl, hn', hs', hG', hbq⟩ := hrel
          by_cases hlt' : k < l.length
          · obtain ⟨v, g, off, Hv, hv1, hv2, rfl, c0, c1⟩ := (hl.below hbq (Nat.le_refl _)).at_ hlt'
            have hks : k < s.size := by omega
            have Hg := Lib.hid (bl_get s k hks)
            have Hfit := Lib.hid (show fitB s[k] v = true by
              cases hfit : fitB s[k] v
              · have := fitsB_false (by rw [Hlen.out, Hbl.out]) Hg.out Hv.out hfit
                rw [HF.out] at this
                cases this
              · rfl)
            have hsz := fitB_size Hfit.out
            have hw8 := wd_le s[k]
            have HL := Lib.hid (enc_snoc Hg.out Hv.out)
            have hel := Lib.hid (encV_length Hfit.out)
            have hcb := CB.new wr 142 #[.int .u64 v.n, .string v.s]
            have hb1 : Below w.heap.size w (wr.alloc (.cells #[.int .u64 v.n, .string v.s] 142)) := hbq.alloc hbq.size _
            have hs1 := hs'.alloc (.cells #[.int .u64 v.n, .string v.s] 142)
            clear Hv Hg hs' hbq Hfit
            go_wp2_with fail
            generalize wr.alloc (.cells #[.int .u64 v.n, .string v.s] 142) = W at *
            have d0 := hcb.cell 0
            have d1 := hcb.cell 1
            simp at d0 d1
            go_still_tail 5, (by kernel_rfl)
            change wpList _ _ _ _ _ W.drew
            go_wp2_with fail
            refine (appendValue_c A' n' c' _ G' s[k] v _ hs1.drew hv1 hsz (by omega)).mono ?_
            rintro e w2 ⟨A2, n2, c2, G2, rfl, hs2, hg2, hm2⟩
            have hn2 : n2 ≤ 2010 * (k + 1) := by
              have h1 := hs1.1
              have h2 := hs2.1
              rw [bc_length] at h1 h2
              rw [List.length_append, hel.out] at h2
              omega
            rw [← HL.out] at hs2
            have hb2 : Below w.heap.size w w2 := hb1.drew.trans (grown_below hg2 hb1.size hG')
            have hG2 := Moved.ge hm2 hb1.size hG'
            clear hb1 hg2 hm2 hcb hs1 d0 d1 c0 c1 hG'
            go_wp2_with fail
            go_roundw
            case rel => exact ⟨k + 1, A2, n2, c2, G2, by omega, by go_num, rfl, hn2, hs2, hG2, hb2⟩
            case measure => simp [intOf]; omega
          · obtain rfl : k = l.length := by omega
            have H := Lib.hid (show EPostC w (bE (bl s) l) (eE (bl s) l) (.returned (.tuple #[.slice A' n' c', .int .i64 ((0 : Nat) : Int)])) wr by
              rw [HE.out.1, HE.out.2]
              rw [List.take_length, List.take_of_length_le (by rw [Hbl.out]; omega)] at hs'
              exact ⟨A', n', c', G', rfl, hs', hbq⟩)
            go_wp2_with fail
            go_ret2
            exact H.out
end Go.Proofs.Ytcfdfimkgehdfaa.Dk
