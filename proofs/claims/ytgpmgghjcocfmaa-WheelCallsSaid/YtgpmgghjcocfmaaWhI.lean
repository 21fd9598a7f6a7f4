/-
  Tick of the document's answer for wheels. Condition: the timers can be read, a hundred thousand at most.
-/
import Derived.Test.YtgpmgghjcocfmaaWhH
set_option linter.unusedVariables false
set_option linter.unusedSimpArgs false
namespace Go.Proofs.Ytgpmgghjcocfmaa
open Go.RowKit

theorem fr_snoc (M : List (Int × Int)) (x : Int × Int) (m : Int) : fr (M ++ [x]) m = if x.2 ≤ m then fr M m ++ [x] else fr M m := by unfold fr; rw [List.filter_append]; split <;> rename_i h <;> simp [h]
theorem lf_snoc (M : List (Int × Int)) (x : Int × Int) (m : Int) : lf (M ++ [x]) m = if x.2 ≤ m then lf M m else lf M m ++ [x] := by unfold lf; rw [List.filter_append]; split <;> rename_i h <;> simp [h]

set_option maxRecDepth 100000 in
set_option maxHeartbeats 4000000 in
theorem tick_r (now : Int) (A : Option Addr) (n c : Nat) (by_ : Int) (L : List (Int × Int)) (w : World) (h : TR w A n c L) (hn : n ≤ 100000) :
    Calls Try.prog 17 #[.agg #[.int .i64 now, .slice A n c], .int .i64 by_] w (RTPost w (nTick now L by_) (sTick now L by_) (rTick now L by_) (eTick now L by_)) := by
  obtain ⟨W, hW, ha, hbox, hbl, hS⟩ := two_boxes w 24 24 now A n c
  have HW := Lib.hid hW
  clear hW
  have hr := right_r now A n c L W (h.on hbl) hn
  have hTL := h.len
  cases hR : rightB now L with
  | false =>
    rw [hR] at hr
    have he : eTick now L by_ = 2 := by unfold eTick; rw [hR]; simp
    have hs : sTick now L by_ = L := by unfold sTick; rw [he]; rfl
    have hq : nTick now L by_ = now := by unfold nTick; rw [he]; rfl
    have hl : rTick now L by_ = [] := by unfold rTick; rw [he]; rfl
    rw [he, hs, hq, hl]
    clear he hs hR hq hl
    go_enter Try.func17, Try.ntmps17
    go_wp2_with fail
    rw [← HW.out]
    refine hr.mono ?_
    rintro e w1 ⟨rfl, hb1⟩
    have ha1 := ha.on hb1 ha.lt
    have rb1 := hbox.on hb1 hbox.lt
    have hbl1 := bel2 hbl hb1
    have h1 := h.on hbl1
    obtain ⟨d0, d1⟩ := ha1.cells
    clear hr ha hbox hbl hb1 h
    obtain ⟨z0, z1⟩ := rb1.cells
    obtain ⟨f0, f1⟩ := rb1.froz
    obtain ⟨w9, hw9, b9, _, _, kb, kt, _, _, _⟩ := store_end rb1 now A n c
    have hx9 := kt _ _ _ _ h1
    have hb9 := kb _ _ hbl1 (show w.heap.size ≤ w.heap.size + 1 by omega)
    obtain ⟨v0, v1⟩ := b9.cells
    have Hw9 := Lib.hid hw9
    clear hw9 kb kt b9
    go_wp2_with fail
    rw [Hw9.out]
    exact bodyPost_ret (v := .tuple #[.agg #[.int .i64 now, .slice A n c], .slice none 0 0, .int .i64 2]) (by simp [results, Try.results17, go_sem, v0, v1]) rfl ⟨A, n, c, none, 0, 0, rfl, hx9, IS.nil _, hb9⟩
  | true =>
    rw [hR] at hr
    by_cases hneg : by_ < 0
    · have hh := hneg
      have he : eTick now L by_ = 2 := by unfold eTick; rw [if_pos (.inr hneg)]
      have hs : sTick now L by_ = L := by unfold sTick; rw [he]; rfl
      have hq : nTick now L by_ = now := by unfold nTick; rw [he]; rfl
      have hl : rTick now L by_ = [] := by unfold rTick; rw [he]; rfl
      rw [he, hs, hq, hl]
      clear he hs hR hq hl
      go_enter Try.func17, Try.ntmps17
      go_wp2_with fail
      rw [← HW.out]
      refine hr.mono ?_
      rintro e w1 ⟨rfl, hb1⟩
      have ha1 := ha.on hb1 ha.lt
      have rb1 := hbox.on hb1 hbox.lt
      have hbl1 := bel2 hbl hb1
      have h1 := h.on hbl1
      obtain ⟨d0, d1⟩ := ha1.cells
      clear hr ha hbox hbl hb1 h
      obtain ⟨z0, z1⟩ := rb1.cells
      obtain ⟨f0, f1⟩ := rb1.froz
      obtain ⟨w9, hw9, b9, _, _, kb, kt, _, _, _⟩ := store_end rb1 now A n c
      have hx9 := kt _ _ _ _ h1
      have hb9 := kb _ _ hbl1 (show w.heap.size ≤ w.heap.size + 1 by omega)
      obtain ⟨v0, v1⟩ := b9.cells
      have Hw9 := Lib.hid hw9
      clear hw9 kb kt b9
      go_wp2_with fail
      rw [Hw9.out]
      exact bodyPost_ret (v := .tuple #[.agg #[.int .i64 now, .slice A n c], .slice none 0 0, .int .i64 2]) (by simp [results, Try.results17, go_sem, v0, v1]) rfl ⟨A, n, c, none, 0, 0, rfl, hx9, IS.nil _, hb9⟩
    · obtain ⟨_, n0, n1, _, hO, _⟩ := rightB_iff.1 hR
      simp only [lastT] at n1
      by_cases hbig : 1099511627776 - now < by_
      · have hh := hbig
        have he : eTick now L by_ = 3 := by unfold eTick; rw [hR, if_neg (by simp; omega), if_pos hbig]
        have hs : sTick now L by_ = L := by unfold sTick; rw [he]; rfl
        have hq : nTick now L by_ = now := by unfold nTick; rw [he]; rfl
        have hl : rTick now L by_ = [] := by unfold rTick; rw [he]; rfl
        rw [he, hs, hq, hl]
        clear he hs hR hq hl
        go_enter Try.func17, Try.ntmps17
        go_wp2_with fail
        rw [← HW.out]
        refine hr.mono ?_
        rintro e w1 ⟨rfl, hb1⟩
        have ha1 := ha.on hb1 ha.lt
        have rb1 := hbox.on hb1 hbox.lt
        have hbl1 := bel2 hbl hb1
        have h1 := h.on hbl1
        obtain ⟨d0, d1⟩ := ha1.cells
        clear hr ha hbox hbl hb1 h
        obtain ⟨z0, z1⟩ := rb1.cells
        obtain ⟨f0, f1⟩ := rb1.froz
        obtain ⟨w9, hw9, b9, _, _, kb, kt, _, _, _⟩ := store_end rb1 now A n c
        have hx9 := kt _ _ _ _ h1
        have hb9 := kb _ _ hbl1 (show w.heap.size ≤ w.heap.size + 1 by omega)
        obtain ⟨v0, v1⟩ := b9.cells
        have Hw9 := Lib.hid hw9
        clear hw9 kb kt b9
        go_wp2_with fail
        rw [Hw9.out]
        exact bodyPost_ret (v := .tuple #[.agg #[.int .i64 now, .slice A n c], .slice none 0 0, .int .i64 3]) (by simp [results, Try.results17, go_sem, v0, v1]) rfl ⟨A, n, c, none, 0, 0, rfl, hx9, IS.nil _, hb9⟩
      · have he : eTick now L by_ = 0 := eTick_ok.2 ⟨rightB_iff.1 hR, by omega, by simp only [lastT]; omega⟩
        have hs : sTick now L by_ = lf L (now + by_) := by unfold sTick; rw [if_pos he]
        have hq : nTick now L by_ = now + by_ := by unfold nTick; rw [if_pos he]
        have hl : rTick now L by_ = (fr L (now + by_)).map (·.1) := by unfold rTick; rw [if_pos he]
        rw [he, hs, hq, hl]
        obtain ⟨nw, hnw⟩ : ∃ nw, now + by_ = nw := ⟨_, rfl⟩
        have Hnw := Lib.hid hnw
        obtain ⟨i0, hi0, hz0, hz1, hz2⟩ := info_parts Try.infoR
        obtain ⟨j0, hj0, jz0, jz1, jz2⟩ := info_parts Try.infoI
        obtain ⟨SL, hSL⟩ : ∃ l, lf L (now + by_) = l := ⟨_, rfl⟩
        obtain ⟨RL, hRL⟩ : ∃ l, (fr L (now + by_)).map (·.1) = l := ⟨_, rfl⟩
        rw [hSL, hRL]
        rw [hnw] at hSL hRL ⊢
        have HSL := Lib.hid hSL
        have HRL := Lib.hid hRL
        have Hlen := Lib.hid hTL
        clear he hs hR hq hl hSL hRL hTL
        go_enter Try.func17, Try.ntmps17
        go_wp2_with fail
        rw [← HW.out]
        refine hr.mono ?_
        rintro e w1 ⟨rfl, hb1⟩
        have ha1 := ha.on hb1 ha.lt
        have rb1 := hbox.on hb1 hbox.lt
        have hbl1 := bel2 hbl hb1
        have h1 := h.on hbl1
        obtain ⟨d0, d1⟩ := ha1.cells
        clear hr ha hbox hbl hb1 h
        go_wp2_with fail
        go_loopw [8, 9, 10] (fun r v i wr => ∃ j : Nat, j ≤ n ∧ i = .int .i64 j ∧ OS w1 3 1 (ic ((fr (L.take j) nw).map (·.1))) r wr ∧ OS w1 46 2 (tc (lf (L.take j) nw)) v wr) (fun _ _ i _ => n - (intOf i).toNat)
        case atStart => exact ⟨0, by omega, rfl, OS.start w1 _ _ (Below.refl _ _), OS.start w1 _ _ (Below.refl _ _)⟩
        case round =>
          obtain ⟨j, hj, rfl, hor, hol⟩ := hrel
          have hlow := hol.low
          have haR := ha1.on hlow ha1.lt
          clear d0 d1
          obtain ⟨d0, d1⟩ := haR.cells
          by_cases hlt : j < n
          · obtain ⟨g, off, rfl, _, e1, e2⟩ := (h1.on hlow).at_ hlt
            have hjl : j < L.length := by rw [Hlen.out]; exact hlt
            have htk := Lib.hid (tk_take (L := L) hjl)
            have mr := Lib.hid (show ((fr (L.take j) nw).map (·.1)).length ≤ j by have := fr_le (L := L.take j) (m := nw); rw [List.length_take] at this; rw [List.length_map]; omega)
            have ml := Lib.hid (show (lf (L.take j) nw).length ≤ j by have := List.length_filter_le (fun p : Int × Int => !decide (p.2 ≤ nw)) (L.take j); rw [List.length_take] at this; unfold lf; omega)
            generalize tk L j = x at *
            obtain ⟨xk, xv⟩ := x
            simp only at e1 e2
            have p0 : 0 < 1 := by omega
            have p02 : 0 < 2 := by omega
            by_cases hx : xv ≤ nw
            · obtain ⟨A0, m, c0, G, rfl, hsg, hG⟩ := hor.out
              obtain ⟨A8, m8, c8, G8, rfl, hsg8, hG8⟩ := hol.out
              have hm : m ≤ j := by
                have q1 := mr.out
                have q2 := hsg.1
                rw [ic, List.length_map] at q2
                omega
              have Hnx := Lib.hid (show (fr (L.take (j + 1)) nw).map (·.1) = (fr (L.take j) nw).map (·.1) ++ [xk] by rw [htk.out, fr_snoc, if_pos hx]; simp)
              have Hny := Lib.hid (show lf (L.take (j + 1)) nw = lf (L.take j) nw by rw [htk.out, lf_snoc, if_pos hx])
              have p3 : m + 1 ≤ maxLen := by simp only [maxLen]; omega
              have p4 : (m + 1) * 8 ≤ 140737488355328 := by omega
              have hap := hsg8.apart hsg (by decide)
              have hl7 := hlow.alloc hlow.size (.cells #[.int .i64 xk] 3)
              have Hl7 := Lib.hid hl7
              have hxx := hx
              clear hor hol hl7
              go_wp2_with (at_builtin; refine wpList_append_seg _ rfl (.tmp 44) (.tmp 51) _ rfl 3 j0 _ 1 8 Try.underlying37 hj0 jz0 jz1 jz2 rfl p0 rfl (hsg.alloc _) ⟨wr.heap.size, 0, none⟩ 1 1 [.int .i64 xk] rfl rfl (cell_one_at _ _ _ _ rfl) (by simp [Value.oneCell']) p0 p3 p4 ?_; intro A1 c1 G1 w7 n1 m1 r1; refine Stay.mk ?_)
              refine Stay.open_ ?_
              rw [ic_snoc] at n1
              have hnext := OS.app Hl7.out hG n1 m1 r1
              have hnex2 : OS w1 46 2 (tc (lf (L.take j) nw)) (.slice A8 m8 c8) w7 := ⟨⟨A8, m8, c8, G8, rfl, (hsg8.alloc (.cells #[.int .i64 xk] 3)).keep (fun k hk => m1.block k ((hsg8.alloc (.cells #[.int .i64 xk] 3)).lt k hk) (hap k hk)), hG8⟩, hnext.low⟩
              have H1 := Lib.hid hnext
              have H2 := Lib.hid hnex2
              clear hsg hsg8 n1 m1 r1 e1 e2 hnext hnex2 hlow haR d0 d1
              go_wp2_with fail
              go_roundw
              case rel => exact ⟨j + 1, by omega, by go_num, by rw [Hnx.out]; exact H1.out, by rw [Hny.out]; exact H2.out⟩
              case measure => simp [intOf]; omega
            · obtain ⟨A0, m, c0, G, rfl, hsg, hG⟩ := hol.out
              obtain ⟨A8, m8, c8, G8, rfl, hsg8, hG8⟩ := hor.out
              have hm : m ≤ j := by have q1 := ml.out; rw [tc_len2 hsg] at q1; exact q1
              have Hnx := Lib.hid (show lf (L.take (j + 1)) nw = lf (L.take j) nw ++ [(xk, xv)] by rw [htk.out, lf_snoc, if_neg hx])
              have Hny := Lib.hid (show (fr (L.take (j + 1)) nw).map (·.1) = (fr (L.take j) nw).map (·.1) by rw [htk.out, fr_snoc, if_neg hx])
              have p3 : m + 1 ≤ maxLen := by simp only [maxLen]; omega
              have p4 : (m + 1) * 16 ≤ 140737488355328 := by omega
              have hap := hsg8.apart hsg (by decide)
              have hl7 := hlow.alloc hlow.size (.cells #[.int .i64 xk, .int .i64 xv] 46)
              have Hl7 := Lib.hid hl7
              clear hor hol hl7
              go_wp2_with (at_builtin; refine wpList_append_seg _ rfl (.tmp 53) (.tmp 59) _ rfl 46 i0 _ 2 16 Try.underlying22 hi0 hz0 hz1 hz2 rfl p02 rfl (hsg.alloc _) ⟨wr.heap.size, 0, none⟩ 1 1 [.int .i64 xk, .int .i64 xv] rfl rfl (cell_two_new _ _ _ _) (two_one _ _) p0 p3 p4 ?_; intro A1 c1 G1 w7 n1 m1 r1; refine Stay.mk ?_)
              refine Stay.open_ ?_
              rw [tc_snoc] at n1
              have hnext := OS.app Hl7.out hG n1 m1 r1
              have hnex2 : OS w1 3 1 (ic ((fr (L.take j) nw).map (·.1))) (.slice A8 m8 c8) w7 := ⟨⟨A8, m8, c8, G8, rfl, (hsg8.alloc (.cells #[.int .i64 xk, .int .i64 xv] 46)).keep (fun k hk => m1.block k ((hsg8.alloc (.cells #[.int .i64 xk, .int .i64 xv] 46)).lt k hk) (hap k hk)), hG8⟩, hnext.low⟩
              have H1 := Lib.hid hnext
              have H2 := Lib.hid hnex2
              clear hsg hsg8 n1 m1 r1 e1 e2 hnext hnex2 hlow haR d0 d1
              go_wp2_with fail
              go_roundw
              case rel => exact ⟨j + 1, by omega, by go_num, by rw [Hny.out]; exact H2.out, by rw [Hnx.out]; exact H1.out⟩
              case measure => simp [intOf]; omega
          · obtain rfl : j = n := by omega
            have hte : L.take j = L := List.take_of_length_le (by rw [Hlen.out]; exact Nat.le_refl _)
            rw [hte, HRL.out] at hor
            rw [hte, HSL.out] at hol
            have rbR := rb1.on hlow rb1.lt
            have hblR := bel2 hbl1 hlow
            obtain ⟨A0, m, c0, G, rfl, hsg, hG⟩ := hol.out
            obtain ⟨A8, m8, c8, G8, rfl, hsg8, hG8⟩ := hor.out
            have hTS : TS wr 46 A0 m c0 SL := ⟨by rw [← HSL.out]; exact h1.wf.sub List.filter_sublist, G, hsg⟩
            have hIS : IS wr A8 m8 c8 RL := ⟨G8, hsg8⟩
            obtain ⟨z0, z1⟩ := rbR.cells
            obtain ⟨f0, f1⟩ := rbR.froz
            obtain ⟨w9, hw9, b9, _, _, kb, kt, _, ki, _⟩ := store_end rbR nw A0 m c0
            have hx9 := kt _ _ _ _ hTS.tr
            have hi9 := ki _ _ _ _ (by decide) hIS
            have hb9 := kb _ _ hblR (show w.heap.size ≤ w.heap.size + 1 by omega)
            obtain ⟨v0, v1⟩ := b9.cells
            have Hw9 := Lib.hid hw9
            clear hw9 kb kt ki b9 hor hol hsg hsg8 hTS hIS hlow hte rbR hblR
            go_wp2_with fail
            rw [Hw9.out]
            exact bodyPost_ret (v := .tuple #[.agg #[.int .i64 nw, .slice A0 m c0], .slice A8 m8 c8, .int .i64 0]) (by simp [results, Try.results17, go_sem, v0, v1]) rfl ⟨A0, m, c0, A8, m8, c8, rfl, hx9, hi9, hb9⟩
end Go.Proofs.Ytgpmgghjcocfmaa
