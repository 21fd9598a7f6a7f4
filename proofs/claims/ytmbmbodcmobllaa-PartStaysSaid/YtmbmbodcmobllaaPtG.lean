/-
  The document's Right, Deltas, Same and Effect of layer 9. Condition: the deltas can be read, a thousand at most where they are copied.
-/
import Derived.Test.YtmbmbodcmobllaaPtE
import Derived.Deep.CutRange
set_option linter.unusedVariables false
set_option linter.unusedSimpArgs false
namespace Go.Proofs.Ytmbmbodcmobllaa
open Go.RowKit

theorem ok_calc {s : Int} {L : List Dl} {l : Bool} {o : Int} (hk : KeysP L) (hn : L.length ≤ 50) : okP ⟨s, L, l, o⟩ = (stB s && loB s l && ouB s o) := by
  unfold okP
  rw [show adB L = true from ad_of hn hk]
  simp
theorem ok_keys_no {s : Int} {L : List Dl} {l : Bool} {o : Int} (hk : ¬ KeysP L) : okP ⟨s, L, l, o⟩ = false := ok_no2 (by
  cases h : adB L with
  | false => rfl
  | true => exact absurd (ad_len h).2 hk)
theorem ok_len_no {s : Int} {L : List Dl} {l : Bool} {o : Int} (hk : ¬ L.length ≤ 50) : okP ⟨s, L, l, o⟩ = false := ok_no2 (by
  cases h : adB L with
  | false => rfl
  | true => exact absurd (ad_len h).1 hk)

set_option maxRecDepth 100000 in
set_option maxHeartbeats 2000000 in
theorem rightR_c (s : Int) (A : Option Addr) (n c : Nat) (l : Bool) (o : Int) (L : List Dl) (w : World) (h : DR w A n c L) :
    Calls Try.prog 13 #[.agg #[.int .i64 s, .slice A n c, .bool l, .int .i64 o]] w fun e w' => e = .returned (.bool (okP ⟨s, L, l, o⟩)) ∧ Below w.heap.size w w' := by
  have hlen := Lib.hid h.len
  have hmx : n ≤ maxLen := Nat.le_trans h.cap h.max
  simp only [maxLen] at hmx
  obtain ⟨W, hW⟩ : ∃ W, w.alloc (.cells #[.int .i64 s, .slice A n c, .bool l, .int .i64 o] 24) = W := ⟨_, rfl⟩
  have hp : PB W (w.heap.size) 24 s A n c l o := by
    rw [← hW]
    have := (PB.new w 24 s A n c l o)
    simpa using this
  have hb : Below w.heap.size w W := by rw [← hW]; exact belA _ _
  have hS := Lib.hid (show W.heap.size = w.heap.size + 1 by rw [← hW]; simp)
  have HW := Lib.hid hW
  clear hW
  have hd := h.on hb
  clear hS
  go_enter Try.func13, Try.ntmps13
  go_wp2_with fail
  rw [HW.out]
  go_loopw [3] (fun i wr => ∃ j : Nat, j ≤ n ∧ i = .int .i64 j ∧ KeysP (L.take j) ∧ wr = W) (fun i _ => n - (intOf i).toNat)
  case atStart => exact ⟨0, by omega, rfl, keys_nil, rfl⟩
  case round =>
    obtain ⟨j, hj, rfl, hal, rfl⟩ := hrel
    obtain ⟨c0, c1, c2, c3⟩ := hp.cells
    have Hal := Lib.hid hal
    have Hb := Lib.hid hb
    have Hp := Lib.hid hp
    clear hal hb hp HW
    by_cases hlt : j < n
    · obtain ⟨g, off, rfl, d1, d2⟩ := hd.at2 hlt
      have htk := Lib.hid (tk_take (L := L) (j := j) (by rw [hlen.out]; exact hlt))
      generalize tk L j = x at *
      by_cases hk : x.k < 64
      · have hk1 : ¬ (64 : Int) ≤ x.k := by omega
        have Hn := Lib.hid (show KeysP (L.take (j + 1)) by rw [htk.out]; exact keys_snoc.2 ⟨Hal.out, hk⟩)
        clear hk
        go_wp2_with fail
        go_roundw
        case rel => exact ⟨j + 1, by omega, by go_num, Hn.out, trivial⟩
        case measure => simp [intOf]; omega
      · have hk1 : (64 : Int) ≤ x.k := by omega
        have Hf := Lib.hid (show okP ⟨s, L, l, o⟩ = false from ok_keys_no (keys_no_pre (j := j + 1) (by rw [htk.out]; exact fun k => hk (keys_snoc.1 k).2)))
        clear hk
        go_wp2_with fail
        go_ret
        exact ⟨by rw [Hf.out]; rfl, Hb.out⟩
    · obtain rfl : j = n := by omega
      have Hk := Lib.hid (show KeysP L by have := Hal.out; rw [take_all hlen.out] at this; exact this)
      clear Hal hj hlt
      have hjj : ¬ (j : Int) < (j : Int) := by omega
      by_cases hs1 : s < 0
      · have H := Lib.hid (show okP ⟨s, L, l, o⟩ = false from ok_no1 (by unfold stB; simp; omega))
        have q1 : decide (s < 0) = true := by simp; omega
        clear hs1
        go_wp2_with fail
        go_ret
        exact ⟨by rw [H.out]; rfl, Hb.out⟩
      have q1 : decide (s < 0) = false := by simp; omega
      by_cases hs2 : 3 < s
      · have H := Lib.hid (show okP ⟨s, L, l, o⟩ = false from ok_no1 (by unfold stB; simp; omega))
        have q2 : decide (3 < s) = true := by simp; omega
        clear hs1 hs2
        go_wp2_with fail
        go_ret
        exact ⟨by rw [H.out]; rfl, Hb.out⟩
      have q2 : decide (3 < s) = false := by simp; omega
      by_cases hn : 50 < j
      · have H := Lib.hid (show okP ⟨s, L, l, o⟩ = false from ok_len_no (by rw [hlen.out]; omega))
        have q3 : (50 : Int) < (j : Int) := by omega
        clear hs1 hs2 hn
        go_wp2_with fail
        go_ret
        exact ⟨by rw [H.out]; rfl, Hb.out⟩
      have q3 : ¬ (50 : Int) < (j : Int) := by omega
      have Ho := Lib.hid (show okP ⟨s, L, l, o⟩ = (stB s && loB s l && ouB s o) from ok_calc Hk.out (by rw [hlen.out]; omega))
      clear hn Hk
      rcases (show s = 0 ∨ s = 1 ∨ s = 2 ∨ s = 3 by omega) with rfl | rfl | rfl | rfl
      · cases l with
        | true =>
          have H := Lib.hid (Ho.out.trans (show _ = false by rfl))
          clear Ho hs1 hs2
          go_wp2_with fail
          go_ret
          exact ⟨by rw [H.out]; rfl, Hb.out⟩
        | false =>
          have H := Lib.hid (Ho.out.trans (show _ = (o == 0) by simp [stB, loB, ouB]))
          clear Ho hs1 hs2
          go_wp2_with fail
          go_ret
          exact ⟨by rw [H.out]; rfl, Hb.out⟩
      · cases l with
        | true =>
          have H := Lib.hid (Ho.out.trans (show _ = (o == 0) by simp [stB, loB, ouB]))
          clear Ho hs1 hs2
          go_wp2_with fail
          go_ret
          exact ⟨by rw [H.out]; rfl, Hb.out⟩
        | false =>
          have H := Lib.hid (Ho.out.trans (show _ = (o == 0) by simp [stB, loB, ouB]))
          clear Ho hs1 hs2
          go_wp2_with fail
          go_ret
          exact ⟨by rw [H.out]; rfl, Hb.out⟩
      · cases l with
        | true =>
          have H := Lib.hid (Ho.out.trans (show _ = false by rfl))
          clear Ho hs1 hs2
          go_wp2_with fail
          go_ret
          exact ⟨by rw [H.out]; rfl, Hb.out⟩
        | false =>
          have H := Lib.hid (Ho.out.trans (show _ = (o == 0) by simp [stB, loB, ouB]))
          clear Ho hs1 hs2
          go_wp2_with fail
          go_ret
          exact ⟨by rw [H.out]; rfl, Hb.out⟩
      · cases l with
        | true =>
          by_cases ho : o = 1
          · have ho1 : (o == 1) = true := by simp [ho]
            have H := Lib.hid (Ho.out.trans (show _ = true by simp [stB, loB, ouB, deB, ho]))
            clear ho Ho hs1 hs2
            go_wp2_with fail
            go_ret
            exact ⟨by rw [H.out]; rfl, Hb.out⟩
          · have ho1 : (o == 1) = false := by simp [ho]
            have H := Lib.hid (Ho.out.trans (show _ = (o == 2) by simp [stB, loB, ouB, deB, ho]))
            clear ho Ho hs1 hs2
            go_wp2_with fail
            go_ret
            exact ⟨by rw [H.out]; rfl, Hb.out⟩
        | false =>
          by_cases ho : o = 1
          · have ho1 : (o == 1) = true := by simp [ho]
            have H := Lib.hid (Ho.out.trans (show _ = true by simp [stB, loB, ouB, deB, ho]))
            clear ho Ho hs1 hs2
            go_wp2_with fail
            go_ret
            exact ⟨by rw [H.out]; rfl, Hb.out⟩
          · have ho1 : (o == 1) = false := by simp [ho]
            have H := Lib.hid (Ho.out.trans (show _ = (o == 2) by simp [stB, loB, ouB, deB, ho]))
            clear ho Ho hs1 hs2
            go_wp2_with fail
            go_ret
            exact ⟨by rw [H.out]; rfl, Hb.out⟩

set_option maxRecDepth 100000 in
set_option maxHeartbeats 1000000 in
theorem deltas_c (A A' : Option Addr) (n c n' c' : Nat) (L : List Dl) (w : World) (h1 : DR w A n c L) (h2 : DR w A' n' c' L) :
    Calls Try.prog 14 #[.slice A n c, .slice A' n' c'] w fun e w' => e = .returned (.bool true) ∧ Below w.heap.size w w' := by
  obtain rfl : n = n' := h1.len.symm.trans h2.len
  have hmx : n ≤ maxLen := Nat.le_trans h1.cap h1.max
  simp only [maxLen] at hmx
  have hnn : ((n : Int) != (n : Int)) = false := by simp
  go_enter Try.func14, Try.ntmps14
  go_wp2_with fail
  go_loopw [5] (fun i wr => ∃ j : Nat, j ≤ n ∧ i = .int .i64 j ∧ Below w.heap.size w wr) (fun i _ => n - (intOf i).toNat)
  case atStart => exact ⟨0, by omega, rfl, Below.refl _ _⟩
  case round =>
    obtain ⟨j, hj, rfl, hlow⟩ := hrel
    by_cases hlt : j < n
    · obtain ⟨g, off, rfl, d1, d2⟩ := (h1.on hlow).at2 hlt
      obtain ⟨g', off', rfl, d4, d5⟩ := (h2.on hlow).at2 hlt
      generalize tk L j = x at *
      obtain ⟨xk, xb⟩ := x
      simp only at d1 d2 d4 d5
      go_wp2_with fail
      go_quiet (fail)
      have hl2 := Lib.hid (belowN hlow nq)
      clear hlow d1 d2 d4 d5
      go_wp2_with fail
      go_roundw
      case rel => exact ⟨j + 1, by omega, by go_num, hl2.out⟩
      case measure => simp [intOf]; omega
    · obtain rfl : j = n := by omega
      go_wp2_with fail
      go_ret
      exact ⟨rfl, hlow⟩

set_option maxRecDepth 100000 in
set_option maxHeartbeats 1000000 in
theorem same_c (s : Int) (A : Option Addr) (n c : Nat) (A' : Option Addr) (n' c' : Nat) (l : Bool) (o : Int) (L : List Dl) (w : World) (h1 : DR w A n c L) (h2 : DR w A' n' c' L) :
    Calls Try.prog 11 #[.agg #[.int .i64 s, .slice A n c, .bool l, .int .i64 o], .agg #[.int .i64 s, .slice A' n' c', .bool l, .int .i64 o]] w fun e w' => e = .returned (.bool true) ∧ Below w.heap.size w w' := by
  obtain ⟨W, hW⟩ : ∃ W, (w.alloc (.cells #[.int .i64 s, .slice A n c, .bool l, .int .i64 o] 24)).alloc (.cells #[.int .i64 s, .slice A' n' c', .bool l, .int .i64 o] 24) = W := ⟨_, rfl⟩
  have hp : PB W (w.heap.size) 24 s A n c l o := by
    rw [← hW]
    have := ((PB.new w 24 s A n c l o).alloc (.cells #[.int .i64 s, .slice A' n' c', .bool l, .int .i64 o] 24))
    simpa using this
  have hq : PB W (w.heap.size + 1) 24 s A' n' c' l o := by
    rw [← hW]
    have := (PB.new (w.alloc (.cells #[.int .i64 s, .slice A n c, .bool l, .int .i64 o] 24)) 24 s A' n' c' l o)
    simpa using this
  have hb : Below w.heap.size w W := by rw [← hW]; exact bel2 (belA _ _) (belA _ _)
  have hS := Lib.hid (show W.heap.size = w.heap.size + 2 by rw [← hW]; simp)
  have HW := Lib.hid hW
  clear hW
  have hc := deltas_c A A' n c n' c' L W (h1.on hb) (h2.on hb)
  obtain ⟨c0, c1, c2, c3⟩ := hp.cells
  obtain ⟨d0, d1, d2, d3⟩ := hq.cells
  have e0 : (s == s) = true := by simp
  have e1 : (l == l) = true := by simp
  have e2 : (o == o) = true := by simp
  have Hb := Lib.hid hb
  clear hS hb hp hq
  go_enter Try.func11, Try.ntmps11
  go_wp2_with fail
  rw [HW.out]
  go_wp2_with fail
  refine hc.mono ?_
  rintro e w1 ⟨rfl, b1⟩
  have H := Lib.hid (bel2 Hb.out b1)
  clear hc b1
  go_wp2_with fail
  go_ret
  exact ⟨rfl, H.out⟩

set_option maxRecDepth 100000 in
set_option maxHeartbeats 2000000 in
theorem effectR_c (s : Int) (A : Option Addr) (n c : Nat) (l : Bool) (o : Int) (L : List Dl) (w : World) (h : DR w A n c L) (hn : n ≤ 1000) :
    Calls Try.prog 16 #[.agg #[.int .i64 s, .slice A n c, .bool l, .int .i64 o]] w (GPost w (eff ⟨s, L, l, o⟩)) := by
  obtain ⟨W, hW⟩ : ∃ W, w.alloc (.cells #[.int .i64 s, .slice A n c, .bool l, .int .i64 o] 24) = W := ⟨_, rfl⟩
  have hp : PB W (w.heap.size) 24 s A n c l o := by
    rw [← hW]
    have := (PB.new w 24 s A n c l o)
    simpa using this
  have hb : Below w.heap.size w W := by rw [← hW]; exact belA _ _
  have hS := Lib.hid (show W.heap.size = w.heap.size + 1 by rw [← hW]; simp)
  have HW := Lib.hid hW
  clear hW
  have hd := h.on hb
  obtain ⟨c0, c1, c2, c3⟩ := hp.cells
  have hc := rightR_c s A n c l o L W hd
  go_enter Try.func16, Try.ntmps16
  go_wp2_with fail
  rw [HW.out]
  go_wp2_with fail
  refine hc.mono ?_
  rintro e w1 ⟨rfl, b1⟩
  have hp1 := hp.on b1
  have hd1 := hd.on b1
  have hb1 := bel2 hb b1
  clear hc b1 hp hd hb c0 c1 c2 c3 hS
  obtain ⟨c0, c1, c2, c3⟩ := hp1.cells
  have Hnil := Lib.hid (fun (e : eff ⟨s, L, l, o⟩ = []) => (show GPost w (eff ⟨s, L, l, o⟩) (.returned (.slice none 0 0)) w1 by rw [e]; exact ⟨none, 0, 0, rfl, RR.nil _ _ _, hb1⟩))
  have Hcopy := Lib.hid (fun (e : eff ⟨s, L, l, o⟩ = L) => (show GPost w (eff ⟨s, L, l, o⟩) (.returned (.slice A n c)) w1 by rw [e]; exact ⟨A, n, c, rfl, hd1, hb1⟩))
  cases hok : okP ⟨s, L, l, o⟩ with
  | false =>
    have H := Lib.hid (Hnil.out (by unfold eff; rw [if_pos hok]))
    clear Hnil Hcopy hok
    go_wp2_with fail
    go_ret
    exact H.out
  | true =>
    have hne : ¬ okP ⟨s, L, l, o⟩ = false := by rw [hok]; simp
    clear hok
    by_cases h1 : s = 1
    · have h1a : (s == 1) = true := by simp [h1]
      have h3a : (s == 3) = false := by simp [h1]
      cases l with
      | true =>
        have H := Lib.hid (Hcopy.out (by unfold eff; rw [if_neg hne, if_pos (.inr ⟨h1, rfl⟩)]))
        clear Hnil Hcopy hne h1
        go_wp2_with fail
        go_ret
        exact H.out
      | false =>
        have H := Lib.hid (Hnil.out (by unfold eff; rw [if_neg hne, if_neg (by show ¬ (s = 3 ∧ o = 1 ∨ s = 1 ∧ false = true); rw [h1]; simp), if_neg (by simp)]))
        clear Hnil Hcopy hne h1
        go_wp2_with fail
        go_ret
        exact H.out
    · have h1a : (s == 1) = false := by simp [h1]
      by_cases h3 : s = 3
      · have h3a : (s == 3) = true := by simp [h3]
        by_cases ho : o = 1
        · have hoa : (o == 1) = true := by simp [ho]
          have H := Lib.hid (Hcopy.out (by unfold eff; rw [if_neg hne, if_pos (.inl ⟨h3, ho⟩)]))
          clear Hnil Hcopy hne h1 h3 ho
          go_wp2_with fail
          go_ret
          exact H.out
        · have hoa : (o == 1) = false := by simp [ho]
          cases l with
          | true =>
            have He := Lib.hid (show eff ⟨s, L, true, o⟩ = L ++ opp L by unfold eff; rw [if_neg hne, if_neg (by show ¬ (s = 3 ∧ o = 1 ∨ s = 1 ∧ true = true); simp [h1, ho]), if_pos ⟨h3, rfl⟩])
            clear Hnil Hcopy hne h1 h3 ho
            obtain ⟨i0, hi0, hz0, hz1, hz2⟩ := info_parts Try.infoD
            have p03 : 0 < 2 := by omega
            have q1 : 0 + n ≤ maxLen := by simp only [maxLen]; omega
            have q2 : (0 + n) * 16 ≤ 140737488355328 := by omega
            have q3 : n + n ≤ maxLen := by simp only [maxLen]; omega
            have q4 : (n + n) * 16 ≤ 140737488355328 := by omega
            have z0 := Nat.zero_add n
            obtain ⟨W1, hW1⟩ : ∃ W1, w1.alloc (.cells #[] 26) = W1 := ⟨_, rfl⟩
            have k1 : Below w1.heap.size w1 W1 := by rw [← hW1]; exact belA w1 _
            have cb : CB W1 w1.heap.size 26 #[] := by rw [← hW1]; exact CB.new w1 _ _
            have hs0 : Seg W1 26 2 (some ⟨w1.heap.size, 0, none⟩) 0 0 [] (some w1.heap.size) := ⟨rfl, Nat.le_refl _, Nat.zero_le _, .inr ⟨_, 0, #[], rfl, rfl, cb, by simp, fun j u hu => by simp at hu⟩⟩
            have b2 := bel2 hb1 k1
            have hsr1 := (hd1.on k1).src
            have hwr := hb1.size
            have hpw := hp1.lt
            have HW1 := Lib.hid hW1
            obtain ⟨N, hN⟩ : ∃ N, n + n = N := ⟨_, rfl⟩
            have HN := Lib.hid hN
            have p2 := hp1.on k1
            have d2 := hd1.on k1
            obtain ⟨a0, a1, a2, a3⟩ := (hp1.alloc (.cells #[] 26)).cells
            clear hW1 k1 cb hN
            go_wp2_with (at_builtin; try rw [HW1.out]; refine wpList_append_src _ rfl (.tmp 34) (.tmp 36) _ rfl 26 i0 _ 2 16 Try.underlying22 hi0 hz0 hz1 hz2 rfl p03 rfl hs0 rfl hsr1 (rc_one 2 _) q1 q2 n z0 ?_; intro A4 c4 G4 w4 hs4 hg4 hm4; refine Stay.mk ?_)
            refine Stay.open_ ?_
            rw [List.nil_append] at hs4
            have hb4 := b2.grown hg4 b2.size (fun g hg => by cases hg; exact hwr)
            have hG4 := hm4.ge (B := w.heap.size + 1) (by have := p2.lt; omega) (fun g hg => by cases hg; omega)
            have p4 : PB w4 w.heap.size 24 s A n c true o := CB.same p2 (hg4.block _ p2.lt (fun e => by have := Option.some.inj e; omega))
            have d4 := d2.keep fun g off hA hn' hlt => hg4.block g hlt (fun e => by have := Option.some.inj e; have := hd1.lt hA hn'; omega)
            clear c0 c1 c2 c3 a0 a1 a2 a3 hs0 hsr1 hg4 hm4 b2 HW1 hwr z0 p2 d2 hd1 hp1
            obtain ⟨c0, c1, c2, c3⟩ := p4.cells
            have hc := opposites_c A n c L w4 d4 hn
            go_wp2_with fail
            refine hc.mono ?_
            rintro e w5 ⟨A5, c5, rfl, hos⟩
            obtain ⟨⟨A9, m9, c9, G, hv, hs5, hG⟩, b5⟩ := hos
            cases hv
            have hs4' := hs4.on b5
            have hb5 := bel2 hb4 b5
            have hr5 := hs5.src
            clear hc hs4 hb4 b5 hs5 hG c0 c1 c2 c3 p4 d4
            go_wp2_with (at_builtin; refine wpList_append_src _ rfl (.tmp 38) (.tmp 41) _ rfl 26 i0 _ 2 16 Try.underlying22 hi0 hz0 hz1 hz2 rfl p03 rfl hs4' rfl hr5 (rc_one 2 _) q3 q4 N HN.out ?_; intro A6 c6 G6 w6 hs6 hg6 hm6; refine Stay.mk ?_)
            refine Stay.open_ ?_
            rw [← rc_append] at hs6
            have H := Lib.hid (show GPost w (eff ⟨s, L, true, o⟩) (.returned (.slice A6 N c6)) w6 by
              rw [He.out]
              exact ⟨A6, N, c6, rfl, RR.of_seg hs6, hb5.grown hg6 hb5.size (fun g e => by have := hG4 g e; omega)⟩)
            clear hs6 hg6 hm6 hs4' hr5 hb5 hG4
            go_wp2_with fail
            go_ret
            exact H.out
          | false =>
            have H := Lib.hid (Hnil.out (by unfold eff; rw [if_neg hne, if_neg (by show ¬ (s = 3 ∧ o = 1 ∨ s = 1 ∧ false = true); simp [h1, ho]), if_neg (by simp)]))
            clear Hnil Hcopy hne h1 h3 ho
            go_wp2_with fail
            go_ret
            exact H.out
      · have h3a : (s == 3) = false := by simp [h3]
        have H := Lib.hid (Hnil.out (eff_other h1 h3))
        clear Hnil Hcopy hne h1 h3
        go_wp2_with fail
        go_ret
        exact H.out
end Go.Proofs.Ytmbmbodcmobllaa
