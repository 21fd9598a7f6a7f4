/-
  Encode of the document's answer for layer 2: it returns the bytes bE and the number eE. Conditions: the shape and the strings are such as memory can hold, the values are readable.
-/
import Derived.Test.YtbkfepgcnijlfaaNCodeC
import Derived.Lib.ConvBytes
import Derived.Deep.RegionHeld3
namespace Go.Proofs.Ytbkfepgcnijlfaa.Dk
set_option maxRecDepth 100000
open Go.RowKit

theorem conv_bytes {P : Program} (w : World) (src dst e : TypeId) (s : ByteArray) {u : TypeDesc} (hs : P.underlying src = some u) (hd : P.underlying dst = some (.slice e)) (he : P.underlying e = some (.int .u8)) :
    ∃ c w', (convert src dst (.string s)).run P w = .ok (.slice (some ⟨w.heap.size, 0, none⟩) s.size c) w' ∧ Src w' 1 (some ⟨w.heap.size, 0, none⟩) s.size (bc (bl s)) ∧ Below w.heap.size w w' := by
  refine ⟨_, _, Lib.run_convert_string_bytes (P := P) w src dst e s hs hd he, ⟨by rw [bc_length, bl_length]; omega, fun _ => ⟨_, rfl, fun j v hj => ?_⟩⟩, ⟨rfl, rfl, rfl, by rw [Lib.bytesWorld_size]; omega, fun i hi => Lib.bytesWorld_at_old w e s i hi⟩⟩
  have hjl : j < (bc (bl s)).length := (List.getElem?_eq_some_iff.1 hj).1
  have hj2 : j < s.size := by rw [bc_length, bl_length] at hjl; exact hjl
  rw [Addr.add_lit, Nat.zero_add, Lib.bytesWorld_cell w e s j hj2]
  unfold bc at hj
  rw [List.getElem?_map] at hj
  unfold bl at hj
  rw [List.getD_eq_getElem?_getD]
  cases hx : s.data.toList[j]? with
  | none => rw [hx] at hj; cases hj
  | some x => rw [hx] at hj; simpa using hj

set_option maxRecDepth 100000 in
set_option maxHeartbeats 1000000 in
theorem encode_r (s : ByteArray) (A : Option Addr) (cap : Nat) (l : List CV) (w : World) (hs : s.size ≤ maxLen) (hl : VR w A l) :
    Calls Try.prog 21 #[.string s, .slice A l.length cap] w (EPostC w (bE (bl s) l) (eE (bl s) l)) := by
  have hs0 := hs
  unfold maxLen at hs
  have hbl := bl_length s
  by_cases hp : properB (bl s) = false
  · have H := Lib.hid (epost_nil (w := w) (w' := w) (eE_bad (l := l) (by unfold okE; rw [hp]; rfl)) (Below.refl _ _))
    have Hp := Lib.hid hp
    clear hp hbl
    go_enter Try.func21, Try.ntmps21
    go_wp2_with fail
    refine (shape_r s _ hs0).mono ?_
    rintro e w' ⟨rfl, rfl⟩
    rw [Hp.out]
    go_wp2_with fail
    go_ret2
    exact H.out
  have hp' : properB (bl s) = true := by simpa using hp
  have hp100 : s.size ≤ 100 := by
    unfold properB at hp'
    simp only [Bool.and_eq_true, decide_eq_true_eq] at hp'
    omega
  have Hp := Lib.hid hp'
  clear hp
  by_cases hne : l.length = s.size
  case neg =>
    have H := Lib.hid (epost_nil (w := w) (w' := w) (eE_bad (sh := bl s) (l := l) (by unfold okE; rw [show (l.length == (bl s).length) = false by rw [hbl]; simpa using hne]; simp)) (Below.refl _ _))
    have hne' : ((l.length : Int) != (s.size : Int)) = true := by rw [bne_iff_ne]; omega
    clear hp' hbl hne
    go_enter Try.func21, Try.ntmps21
    go_wp2_with fail
    refine (shape_r s _ hs0).mono ?_
    rintro e w' ⟨rfl, rfl⟩
    rw [Hp.out]
    go_wp2_with fail
    go_ret2
    exact H.out
  have Hlen := Lib.hid hne
  have hln : l.length ≤ 100 := by omega
  have hln' : s.size ≤ l.length := by omega
  have hln2 : l.length ≤ s.size := by omega
  have hne' : ((l.length : Int) != (s.size : Int)) = false := by rw [bne_eq_false_iff_eq]; omega
  have Hbl := Lib.hid hbl
  obtain ⟨i0, hi0, hz0, hz1, hz2⟩ := info_parts Try.infoB
  have Hi := Lib.hid hi0
  have Hz := Lib.hid hz0
  have Hz1 := Lib.hid hz1
  have Hz2 := Lib.hid hz2
  clear hi0 hz0 hz1 hz2
  clear hp' hbl hne
  go_enter Try.func21, Try.ntmps21
  go_wp2_with fail
  refine (shape_r s _ hs0).mono ?_
  rintro e w' ⟨rfl, rfl⟩
  rw [Hp.out]
  go_wp2_with fail
  clear hne'
  go_loopw [6, 7] (fun b i wr => ∃ (k : Nat) (A' : Option Addr) (n' c' : Nat) (G' : Option Nat), k ≤ l.length ∧ i = .int .i64 k ∧ b = .slice A' n' c' ∧ n' ≤ 2010 * k ∧ Seg wr 5 1 A' n' c' (bc (enc ((bl s).take k) (l.take k))) G' ∧ (∀ g, G' = some g → w.heap.size ≤ g) ∧ Hid (fitsB ((bl s).take k) (l.take k) = true) ∧ Below w.heap.size w wr) (fun _ i _ => l.length - (intOf i).toNat)
  case atStart => exact ⟨0, none, 0, 0, none, by omega, rfl, rfl, by omega, by simpa [bc, enc] using Seg.nil w _ _, (fun g e => by cases e), rfl, Below.refl _ _⟩
  case round =>
    obtain ⟨k, A', n', c', G', hk, rfl, rfl, hn', hs', hG', Hf, hbw⟩ := hrel
    by_cases hlt : k < l.length
    · obtain ⟨v, g, off, Hv, hv1, hv2, rfl, c0, c1⟩ := (hl.below hbw (Nat.le_refl _)).at_ hlt
      have hks : k < s.size := by omega
      have Hg := Lib.hid (bl_get s k hks)
      go_wp2_with fail
      go_still_tail 7, (by kernel_rfl)
      change wpList _ _ _ _ _ wr.drew
      go_wp2_with fail
      refine (fits_r s[k] v _ hv1 hv2).mono ?_
      rintro e w2 ⟨rfl, hb2⟩
      have hbw2 : Below w.heap.size w w2 := hbw.drew.trans (hb2.mono hbw.size)
      cases hfit : fitB s[k] v
      · have H := Lib.hid (epost_nil (w := w) (w' := w2) (eE_bad (sh := bl s) (l := l) (by unfold okE; rw [fitsB_false (by rw [Hlen.out, Hbl.out]) Hg.out Hv.out hfit, Bool.and_false])) hbw2)
        clear hfit
        go_wp2_with fail
        go_ret2
        exact H.out
      · have hsz := fitB_size hfit
        have HL := Lib.hid (enc_snoc Hg.out Hv.out)
        have HF := Lib.hid (show fitsB ((bl s).take (k + 1)) (l.take (k + 1)) = true by rw [fitsB_snoc Hg.out Hv.out, Hf.out, hfit]; rfl)
        have hel := Lib.hid (encV_length hfit)
        have hw8 := wd_le s[k]
        have hs2 := (hs'.drew).below hb2 (Nat.le_refl _)
        have d0 := (hb2.cell (p := ⟨g, off + k * 2, none⟩) (World.block_lt_of_cell? wr _ c0)).trans c0
        have d1 := (hb2.cell (p := ⟨g, off + k * 2 + 1, none⟩) (World.block_lt_of_cell? wr _ c1)).trans c1
        clear hfit Hf Hg hs' hbw hb2 c0 c1
        by_cases hc : s[k] = 116
        · have e3 : ((s[k].toNat : Int) == 116) = true := by rw [hc]; rfl
          have HE := Lib.hid (show encV s[k] v = num v.s.size 2 ++ bl v.s by rw [hc]; exact encV_t)
          clear hc
          go_wp2_with fail
          refine (number_r v.s.size 2 _ (by omega) (by omega)).mono ?_
          rintro e w3 ⟨A3, n3, c3, G3, rfl, hs3, hg3, hm3⟩
          have hb3 : Below w2.heap.size w2 w3 := grown_below hg3 (Nat.le_refl _) (fun g e => by cases e)
          have hbw3 : Below w.heap.size w w3 := hbw2.trans (hb3.mono hbw2.size)
          have hs2' := hs2.below hb3 (Nat.le_refl _)
          have hn3 : n3 = 2 := by have := hs3.1; rw [bc_length, num_length] at this; omega
          subst hn3
          have d1' := (hb3.cell (p := ⟨g, off + k * 2 + 1, none⟩) (World.block_lt_of_cell? w2 _ d1)).trans d1
          have p1 : n' + 2 ≤ maxLen := by simp only [maxLen]; omega
          have p2 : (n' + 2) * 1 ≤ 140737488355328 := by omega
          have p4 : 0 < 1 := by omega
          have hsr3 := hs3.src
          clear hs3 hs2 hg3 hm3 d0 d1 hbw2
          go_wp2_with (at_builtin; refine wpList_append_src _ rfl (.tmp 37) (.tmp 45) _ rfl 5 i0 _ 1 1 Try.underlying26 Hi.out Hz.out Hz1.out Hz2.out rfl p4 rfl hs2' rfl hsr3 (bc_one _) p1 p2 ?_)
          intro A4 c4 G4 w4 hs4 hg4 hm4
          have hb4 : Below w.heap.size w3 w4 := grown_below hg4 hbw3.size hG'
          have hbw4 : Below w.heap.size w w4 := hbw3.trans hb4
          have hG4 := Moved.ge hm4 hbw3.size hG'
          obtain ⟨v', g', off', Hv', hv1', hv2', ha', d0', d1''⟩ := (hl.below hbw4 (Nat.le_refl _)).at_ hlt
          cases ha'
          obtain rfl : v = v' := by have := Hv.out.symm.trans Hv'.out; simpa using this
          obtain ⟨c5, w5, hcv, hsr5, hb5⟩ := conv_bytes (P := Try.prog) w4 9 26 5 v.s Try.underlying9 Try.underlying26 Try.underlying5
          have hbw5 : Below w.heap.size w w5 := hbw4.trans (hb5.mono hbw4.size)
          have hs5 := hs4.below hb5 (Nat.le_refl _)
          have q1 : n' + 2 + v.s.size ≤ maxLen := by simp only [maxLen]; omega
          have q2 : (n' + 2 + v.s.size) * 1 ≤ 140737488355328 := by omega
          clear hs2' hsr3 hg4 hm4 hs4 hb4 hb5 hbw4 hbw3 hb3 d0' d1' hG' Hv' Hv hv2' hv1' p1 p2
          go_wp2_with (at_builtin; refine wpList_append_src _ rfl (.tmp 47) (.tmp 53) _ rfl 5 i0 _ 1 1 Try.underlying26 Hi.out Hz.out Hz1.out Hz2.out rfl p4 rfl hs5 rfl hsr5 (bc_one _) q1 q2 ?_)
          intro A6 c6 G6 w6 hs6 hg6 hm6
          rw [← bc_append, ← bc_append, ← HE.out, ← HL.out] at hs6
          have hbw6 : Below w.heap.size w w6 := hbw5.trans (grown_below hg6 hbw5.size hG4)
          have hG6 := Moved.ge hm6 hbw5.size hG4
          clear hs5 hg6 hm6 hbw5 hG4 hcv hsr5 d1'' q1 q2
          go_wp2_with fail
          go_roundw
          case rel => exact ⟨k + 1, A6, _, c6, G6, by omega, by go_num, rfl, by omega, hs6, hG6, HF.out, hbw6⟩
          case measure => simp [intOf]; omega
        · have e3 := u8ne 116 116 rfl hc
          have HE := Lib.hid (show encV s[k] v = num v.n (wd s[k]) from encV_n hc)
          have Hw := Lib.hid (wr_ne hc)
          clear hc
          have hw8' := wr_le s[k]
          have hgl : g < w.heap.size := by
            obtain ⟨_, _, g1, off1, h3, h4, _⟩ := hl k v Hv.out
            cases h3
            exact h4
          obtain ⟨N, hN⟩ : ∃ N, n' + wrf s[k] = N := ⟨_, rfl⟩
          have p1 : n' + wrf s[k] ≤ maxLen := by simp only [maxLen]; omega
          have p2 : (n' + wrf s[k]) * 1 ≤ 140737488355328 := by omega
          have p4 : 0 < 1 := by omega
          have p5 : N ≤ 2010 * (k + 1) := by omega
          have HN := Lib.hid hN
          clear hN
          go_wp2_with fail
          go_region_held3 (fun W' => W'.cell? ⟨g, off + k * 2, none⟩ = some (.int .u64 v.n)) (first | exact d0 | exact d3 | exact d6) (first
            | (go_at_call 42; refine (width_r s[k] _).mono ?_; rintro e w' ⟨rfl, rfl⟩)
            | (go_at_call 41; refine (number_r v.n (wrf s[k]) _ hv1 hw8').mono ?_; rintro e w3 ⟨A3, n3, c3, G3, rfl, hs3, hg3, hm3⟩; obtain rfl : n3 = wrf s[k] := (by have := hs3.1; rw [bc_length, num_length] at this; omega); have hb3 : Below w2.heap.size w2 w3 := ⟨hg3.os, hg3.tape, hg3.output, hg3.size, fun i hi => hg3.block i hi (by simp)⟩; have hbw3 : Below w.heap.size w w3 := hbw2.trans (hb3.mono hbw2.size); have hs2' := hs2.below hb3 (Nat.le_refl _); have hsr3 := hs3.src; have d3 := (hb3.cell (p := ⟨g, off + k * 2, none⟩) (World.block_lt_of_cell? w2 _ d0)).trans d0)
            | (refine step_append_src _ (.tmp 55) (.tmp 65) _ (by rfl) 5 i0 _ 1 1 Try.underlying26 Hi.out Hz.out Hz1.out Hz2.out rfl p4 (by rfl) hs2' (by rfl) hsr3 (bc_one _) p1 p2 (by rfl) N HN.out ?_; intro A6 c6 G6 w6 hs6 hg6 hm6; have d6 := ((grown_below hg6 hbw3.size hG').cell (p := ⟨g, off + k * 2, none⟩) hgl).trans d3))
          rw [Hw.out] at hs6
          rw [← bc_append, ← HE.out, ← HL.out] at hs6
          have hbw6 : Below w.heap.size w w6 := hbw3.trans (grown_below hg6 hbw3.size hG')
          have hG6 := Moved.ge hm6 hbw3.size hG'
          clear hs2' hg6 hm6 hbw3 hG' hsr3 p1 p2
          go_wp2_with fail
          go_roundw
          case rel => exact ⟨k + 1, A6, N, c6, G6, by omega, by go_num, rfl, p5, hs6, hG6, HF.out, hbw6⟩
          case measure => simp [intOf]; omega
    · obtain rfl : k = l.length := by omega
      have HF := Lib.hid (show fitsB (bl s) l = true by have := Hf.out; rwa [List.take_length, List.take_of_length_le (by rw [Hbl.out]; omega)] at this)
      have HO := Lib.hid (show okE (bl s) l = true by unfold okE; rw [Hp.out, HF.out, Hlen.out, Hbl.out]; simp)
      rw [List.take_length, List.take_of_length_le (by rw [Hbl.out]; omega)] at hs'
      have HQ := Lib.hid (show n' = (enc (bl s) l).length by have := hs'.1; rw [bc_length] at this; omega)
      by_cases hbig : (4000 : Int) < (n' : Int)
      · have H := Lib.hid (epost_nil (w := w) (w' := wr) (eE_big HO.out (by rw [← HQ.out]; omega)) hbw)
        go_wp2_with fail
        go_ret2
        exact H.out
      · have HE := eE_ok HO.out (by rw [← HQ.out]; omega)
        have H := Lib.hid (show EPostC w (bE (bl s) l) (eE (bl s) l) (.returned (.tuple #[.slice A' n' c', .int .i64 ((0 : Nat) : Int)])) wr by
          rw [HE.1, HE.2]
          exact ⟨A', n', c', G', rfl, hs', hbw⟩)
        clear HE
        go_wp2_with fail
        go_ret2
        exact H.out
end Go.Proofs.Ytbkfepgcnijlfaa.Dk
