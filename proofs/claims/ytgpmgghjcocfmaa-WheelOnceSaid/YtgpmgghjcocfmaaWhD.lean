/-
  insert and firedBy of package wheel. Conditions: the timers stand in order in a block of the caller's own (insert), or can be read (firedBy); a hundred thousand at most.
-/
import Derived.Test.YtgpmgghjcocfmaaWhC
set_option linter.unusedVariables false
set_option linter.unusedSimpArgs false
namespace Go.Proofs.Ytgpmgghjcocfmaa
open Go.RowKit

set_option maxRecDepth 100000 in
set_option maxHeartbeats 2000000 in
theorem insert_w (A : Option Addr) (n c : Nat) (G : Option Nat) (id at_ : Int) (M : List (Int × Int)) (w : World) (h : Seg w 66 2 A n c (tc M) G) (hn : n ≤ 100000) (ho : OrdP M) :
    Calls Try.prog 26 #[.slice A n c, .agg #[.int .i64 id, .int .i64 at_]] w (InsPost w G (insT (id, at_) M)) := by
  obtain ⟨i0, hi0, hz0, hz1, hz2⟩ := info_parts Try.infoW
  have p0 : 0 < 1 := by omega
  have p02 : 0 < 2 := by omega
  have p3 : n + 1 ≤ maxLen := by simp only [maxLen]; omega
  have p4 : (n + 1) * 16 ≤ 140737488355328 := by omega
  have hml := Lib.hid (tc_len2 h)
  have Ho := Lib.hid ho
  clear ho
  go_enter Try.func26, Try.ntmps26
  go_wp2_with (at_builtin; refine wpList_append_seg _ rfl (.tmp 6) (.tmp 8) _ rfl 66 i0 _ 2 16 Try.underlying26 hi0 hz0 hz1 hz2 rfl p02 rfl ((h.alloc _).alloc _) ⟨w.heap.size + 1, 0, none⟩ 1 1 [.int .i64 id, .int .i64 at_] rfl rfl (cell_two_at _ _ _ _ _ (by simp)) (two_one _ _) p0 p3 p4 ?_; intro A1 c1 G1 w1 n1 m1 r1)
  rw [tc_snoc] at n1
  have hgr : w.grownBy w1 G := ⟨m1.os, m1.tape, m1.output, Nat.le_trans (by simp; omega) m1.size, fun i hi hne => (m1.block i (by simp; omega) hne).trans ((Below.heap_alloc _ _ i (by simp; omega)).trans (Below.heap_alloc _ _ i hi))⟩
  have hmv : ∀ g, G1 = some g → G = some g ∨ w.heap.size ≤ g := by
    intro g hg
    rcases r1 with e | ⟨g', e, hg'⟩
    · exact .inl (by rw [← e]; exact hg)
    · rw [e] at hg; cases hg; simp at hg'; exact .inr (by omega)
  clear m1 r1 h
  have hl0 := n1.1
  go_wp2_with fail
  go_loopw [5] (fun i wr => ∃ j : Nat, j ≤ n ∧ i = .int .i64 j ∧ Seg wr 66 2 A1 (n + 1) c1 (tc (M.take j ++ (id, at_) :: M.drop j)) G1 ∧ (∀ p ∈ M.drop j, bef (id, at_) p) ∧ w.grownBy wr G) (fun i _ => (intOf i).toNat)
  case atStart =>
    refine ⟨n, Nat.le_refl _, by go_num, ?_, fun p hp => ?_, hgr⟩
    · rw [List.take_of_length_le (by rw [hml.out]; exact Nat.le_refl _), List.drop_eq_nil_of_le (by rw [hml.out]; exact Nat.le_refl _)]
      exact n1
    · rw [List.drop_eq_nil_of_le (by rw [hml.out]; exact Nat.le_refl _)] at hp
      simp at hp
  case round =>
    clear n1 hgr
    obtain ⟨j, hj, rfl, hsg, hbf, hgr⟩ := hrel
    have Hbf := Lib.hid hbf
    clear hbf
    rcases Nat.eq_zero_or_pos j with hj0 | hj0
    · subst hj0
      have Hres := Lib.hid (show insT (id, at_) M = M.take 0 ++ (id, at_) :: M.drop 0 by
        have := insT_parts (M := M.take 0) (N := M.drop 0) (t := (id, at_)) (fun p hp => by simp at hp) Hbf.out
        simpa using this)
      have hlz : ¬ (0 : Int) < 0 := by omega
      have Hsg := Lib.hid hsg
      have Hgr := Lib.hid hgr
      clear hsg hgr
      go_wp2_with fail
      go_quiet (fail)
      go_wp2_with fail
      go_ret
      exact ⟨A1, n + 1, c1, G1, rfl, by rw [Hres.out]; exact Hsg.out.drewN _, ⟨Hgr.out.os, Hgr.out.tape, Hgr.out.output, Hgr.out.size, Hgr.out.block⟩⟩
    · obtain ⟨i, hij⟩ : ∃ i, i + 1 = j := ⟨j - 1, by omega⟩
      have hiM : i < M.length := by rw [hml.out]; omega
      have e1 : M.take j ++ (id, at_) :: M.drop j = M.take i ++ tk M i :: (id, at_) :: M.drop j := by
        rw [← hij, tk_take hiM]
        simp
      have e3 := Lib.hid (show M.take i ++ (id, at_) :: M.drop i = M.take i ++ (id, at_) :: tk M i :: M.drop j by rw [tk_drop hiM, hij])
      have Hd := Lib.hid (show M.drop i = tk M i :: M.drop j by rw [tk_drop hiM, hij])
      have Hlt := Lib.hid (show ∀ p ∈ M.take j, p = tk M i ∨ bef p (tk M i) by
        rw [← hij, tk_take hiM]
        intro p hp
        have hox : OrdP (M.take i ++ [tk M i]) := by rw [← tk_take hiM]; exact Ho.out.sub (List.take_sublist _ _)
        rcases List.mem_append.1 hp with hp | hp
        · exact .inr ((ord_snoc.1 hox).2 p hp)
        · simp at hp; exact .inl hp)
      have Hsg0 := Lib.hid hsg
      have He1 := Lib.hid e1
      rw [e1] at hsg
      obtain ⟨g, off, rfl, rfl, _, ⟨d1, d2, d3, d4⟩, hfz, ⟨cs, hcb⟩, hsw⟩ := hsg.swap (i := i) (by rw [List.length_take]; omega)
      rw [hij] at d3 d4
      generalize tk M i = y at *
      obtain ⟨yk, yv⟩ := y
      simp only at d1 d2 d3 d4 hsw
      have q1 : IntKind.i64.wrap ((j : Int) - 1) = (i : Int) := by rw [show (j : Int) - 1 = (i : Int) by omega]; exact IntWalk.i64_in _ (by omega)
      have hi0 : (0 : Int) ≤ (i : Int) := by omega
      have hi1 : (i : Int) < (n : Int) + 1 := by omega
      have hi3 : i < n + 1 := by omega
      have hj1 : j < n + 1 := by omega
      have hj2 : (0 : Int) < (j : Int) := by omega
      have hj3 : (j : Int) < (n : Int) + 1 := by omega
      clear e1 hsg
      cases hb : befB (id, at_) (yk, yv) with
      | false =>
        have Hres := Lib.hid (show insT (id, at_) M = M.take j ++ (id, at_) :: M.drop j by
          have := insT_parts (M := M.take j) (N := M.drop j) (t := (id, at_)) (fun p hp => by
            rcases Hlt.out p hp with rfl | hp
            · exact befB_no.1 hb
            · exact fun h => befB_no.1 hb (bef_trans h hp)) Hbf.out
          simpa using this)
        go_wp2_with fail
        go_region_held3 (fun W' => W'.cell? ⟨g, off + i * 2, none⟩ = some (.int .i64 yk) ∧ W'.cell? ⟨g, off + i * 2 + 1, none⟩ = some (.int .i64 yv) ∧ W'.cell? ⟨g, off + j * 2, none⟩ = some (.int .i64 id) ∧ W'.cell? ⟨g, off + j * 2 + 1, none⟩ = some (.int .i64 at_)) (first | exact ⟨d1, d2, d3, d4⟩ | exact ⟨cell_on hb1 d1, cell_on hb1 d2, cell_on hb1 d3, cell_on hb1 d4⟩) (first
          | (go_at_call 34; refine (before_c id at_ yk yv wr.drew).mono ?_; rintro e w2 ⟨rfl, hb1⟩; rw [hb]))
        have hgr2 := Lib.hid (show w.grownBy w2 G by
          have hb2 := below_drew hb1
          exact ⟨hb2.os.trans hgr.os, hb2.tape.trans hgr.tape, hb2.output.trans hgr.output, Nat.le_trans hgr.size hb2.size, fun k hk hne => (hb2.block k (Nat.lt_of_lt_of_le hk hgr.size)).trans (hgr.block k hk hne)⟩)
        have hsg2 := Lib.hid (Hsg0.out.keep (w' := w2) fun k hk => (below_drew hb1).block k (Hsg0.out.lt k hk))
        clear hb1 d1 d2 d3 d4 q1 hgr hsw hcb
        go_wp2_with fail
        go_ret
        exact ⟨_, n + 1, c1, some g, rfl, by rw [Hres.out]; exact hsg2.out, hgr2.out⟩
      | true =>
        have Hnb := Lib.hid (show ∀ p ∈ M.drop i, bef (id, at_) p by
          rw [Hd.out]
          intro p hp
          rcases List.mem_cons.1 hp with rfl | hp
          · exact befB_iff.1 hb
          · exact Hbf.out p hp)
        have hgg := hmv g rfl
        go_wp2_with fail
        go_region_held3 (fun W' => W'.cell? ⟨g, off + i * 2, none⟩ = some (.int .i64 yk) ∧ W'.cell? ⟨g, off + i * 2 + 1, none⟩ = some (.int .i64 yv) ∧ W'.cell? ⟨g, off + j * 2, none⟩ = some (.int .i64 id) ∧ W'.cell? ⟨g, off + j * 2 + 1, none⟩ = some (.int .i64 at_)) (first | exact ⟨d1, d2, d3, d4⟩ | exact ⟨cell_on hb1 d1, cell_on hb1 d2, cell_on hb1 d3, cell_on hb1 d4⟩) (first
          | (go_at_call 34; refine (before_c id at_ yk yv wr.drew).mono ?_; rintro e w2 ⟨rfl, hb1⟩; rw [hb]))
        have hgr2 := Lib.hid (show w.grownBy w2 G by
          have hb2 := below_drew hb1
          exact ⟨hb2.os.trans hgr.os, hb2.tape.trans hgr.tape, hb2.output.trans hgr.output, Nat.le_trans hgr.size hb2.size, fun k hk hne => (hb2.block k (Nat.lt_of_lt_of_le hk hgr.size)).trans (hgr.block k hk hne)⟩)
        have hsg2 := Hsg0.out.keep (w' := w2) fun k hk => (below_drew hb1).block k (Hsg0.out.lt k hk)
        clear hb1 hgr hsw hcb d1 d2 d3 d4 hfz
        rw [He1.out] at hsg2
        obtain ⟨g9, off9, eA, _, _, ⟨d1, d2, d3, d4⟩, hfz, ⟨cs9, hcb⟩, hsw⟩ := hsg2.swap (i := i) (by rw [List.length_take]; omega)
        cases eA
        rw [hij] at d3 d4
        simp only at d1 d2 d3 d4 hsw
        rw [← e3.out] at hsw
        have hnj : off + i * 2 + 2 = off + j * 2 := by omega
        unfold put4 at hsw
        rw [show off + i * 2 + 3 = off + j * 2 + 1 by omega, hnj] at hsw
        have hgr3 := grown_put (grown_put (grown_put (grown_put hgr2.out hgg (off + i * 2) (.int .i64 id)) hgg (off + i * 2 + 1) (.int .i64 at_)) hgg (off + j * 2) (.int .i64 yk)) hgg (off + j * 2 + 1) (.int .i64 yv)
        have Hsw := Lib.hid hsw
        have Hgr3 := Lib.hid hgr3
        have b1 := hcb.put (off + i * 2) (.int .i64 id)
        have b2 := b1.put (off + i * 2 + 1) (.int .i64 at_)
        have b3 := b2.put (off + j * 2) (.int .i64 yk)
        have f0 := hcb.frozen (off + i * 2)
        have f1 := b1.frozen (off + i * 2 + 1)
        have f2 := b2.frozen (off + j * 2)
        have f3 := b3.frozen (off + j * 2 + 1)
        have ff1 := hcb.frozen (off + i * 2 + 1)
        have ff2 := hcb.frozen (off + j * 2)
        have ff3 := hcb.frozen (off + j * 2 + 1)
        clear hsw hgr3 b1 b2 b3 hcb hsg2 hfz hnj
        go_wp2_with fail
        go_region
        have hs9 := Lib.hid Hsw.out.drew
        have hg9 := Lib.hid (grown_drew Hgr3.out)
        clear Hsw Hgr3 d1 d2 d3 d4 f0 f1 f2 f3 ff1 ff2 ff3
        generalize ((((w2.setCell ⟨g, off + i * 2, none⟩ (.int .i64 id)).setCell ⟨g, off + i * 2 + 1, none⟩ (.int .i64 at_)).setCell ⟨g, off + j * 2, none⟩ (.int .i64 yk)).setCell ⟨g, off + j * 2 + 1, none⟩ (.int .i64 yv)).drew = W9 at *
        have hji : wrap64 ((j : Int) - 1) = (i : Int) := by unfold wrap64; omega
        clear q1
        go_wp2_with fail
        go_roundw
        case rel => exact ⟨i, by omega, by first | go_num | (simp; omega), hs9.out, Hnb.out, hg9.out⟩
        case measure => simp [intOf]; omega

/-- A call gave ids of its own back. -/
def IPost (w : World) (l : List Int) (e : Ending) (w' : World) : Prop :=
  ∃ A n c, e = .returned (.slice A n c) ∧ IS w' A n c l ∧ Below w.heap.size w w'
theorem IPost.of_os {w : World} {l : List Int} {v : Value} {W : World} (h : OS w 3 1 (ic l) v W) : IPost w l (.returned v) W := by
  obtain ⟨⟨A, m, c, G, h1, h2, h3⟩, h4⟩ := h
  exact ⟨A, m, c, by rw [h1], ⟨G, h2⟩, h4⟩

set_option maxRecDepth 100000 in
set_option maxHeartbeats 1000000 in
theorem fired_w (A : Option Addr) (n c : Nat) (now : Int) (L : List (Int × Int)) (w : World) (h : TR w A n c L) (hn : n ≤ 100000) (ho : OrdP L) :
    Calls Try.prog 29 #[.slice A n c, .int .i64 now] w (IPost w ((fr L now).map (·.1))) := by
  have hlen := Lib.hid h.len
  have Ho := Lib.hid ho
  clear ho
  obtain ⟨i0, hi0, hz0, hz1, hz2⟩ := info_parts Try.infoI
  go_enter Try.func29, Try.ntmps29
  go_wp2_with fail
  go_loopw [5, 10] (fun v i wr => ∃ j : Nat, j ≤ n ∧ i = .int .i64 j ∧ (∀ p ∈ L.take j, p.2 ≤ now) ∧ OS w 3 1 (ic ((L.take j).map (·.1))) v wr) (fun _ i _ => n - (intOf i).toNat)
  case atStart => exact ⟨0, by omega, rfl, fun p hp => by simp at hp, OS.start w _ _ (Below.refl _ _)⟩
  case round =>
    obtain ⟨j, hj, rfl, hal, hos⟩ := hrel
    have Hal := Lib.hid hal
    clear hal
    by_cases hlt : j < n
    · obtain ⟨g, off, rfl, _, d1, d2⟩ := (h.on hos.low).at_ hlt
      have hjl : j < L.length := by rw [hlen.out]; exact hlt
      have htk := Lib.hid (tk_take (L := L) hjl)
      have hlow := hos.low.alloc hos.low.size (.cells #[.int .i64 (tk L j).1, .int .i64 (tk L j).2] 66)
      have hml := Lib.hid (show ((L.take j).map (·.1)).length ≤ j by rw [List.length_map, List.length_take]; omega)
      have Hst := Lib.hid (fun hx : now < (tk L j).2 => fr_stop Ho.out hjl Hal.out hx)
      by_cases hx : (tk L j).2 ≤ now
      · obtain ⟨A0, m, c0, G, rfl, hsg, hG⟩ := hos.out
        have hm : m ≤ j := by
          have h1 := hml.out
          have h2 := hsg.1
          rw [ic, List.length_map] at h2
          omega
        generalize tk L j = x at *
        obtain ⟨xk, xv⟩ := x
        simp only at d1 d2 hlow hx
        have Hal2 := Lib.hid (show ∀ p ∈ L.take (j + 1), p.2 ≤ now by
          rw [htk.out]
          intro p hp
          rcases List.mem_append.1 hp with hp | hp
          · exact Hal.out p hp
          · simp at hp; subst hp; exact hx)
        have Hnx := Lib.hid (show (L.take (j + 1)).map (·.1) = (L.take j).map (·.1) ++ [xk] by rw [htk.out]; simp)
        have hxn : ¬ now < xv := by omega
        have p0 : 0 < 1 := by omega
        have p3 : m + 1 ≤ maxLen := by simp only [maxLen]; omega
        have p4 : (m + 1) * 8 ≤ 140737488355328 := by omega
        have hlow2 := Lib.hid (hlow.alloc hlow.size (.cells #[.int .i64 xk] 3))
        clear hx hlow hos hml Hst Hal
        generalize (L.take j).map (·.1) = M at *
        go_wp2_with (at_builtin; refine wpList_append_seg _ rfl (.tmp 18) (.tmp 21) _ rfl 3 i0 _ 1 8 Try.underlying37 hi0 hz0 hz1 hz2 rfl p0 rfl ((hsg.alloc _).alloc _) ⟨wr.heap.size + 1, 0, none⟩ 1 1 [.int .i64 xk] rfl rfl (cell_one_at _ _ _ _ (by simp)) (by simp [Value.oneCell']) p0 p3 p4 ?_; intro A1 c1 G1 w1 n1 m1 r1)
        rw [ic_snoc] at n1
        have hnext := Lib.hid (OS.app hlow2.out hG n1 m1 r1)
        clear hsg n1 m1 r1 d1 d2 hlow2
        go_wp2_with fail
        go_roundw
        case rel => exact ⟨j + 1, by omega, by go_num, Hal2.out, by rw [Hnx.out]; exact hnext.out⟩
        case measure => simp [intOf]; omega
      · have hres := Lib.hid (show fr L now = L.take j from Hst.out (by omega))
        generalize tk L j = x at *
        obtain ⟨xk, xv⟩ := x
        simp only at d1 d2 hlow hx
        have hxn : now < xv := by omega
        have hnos := hos.on ((Below.refl _ _).alloc (Nat.le_refl _) (.cells #[.int .i64 xk, .int .i64 xv] 66))
        have Hos := Lib.hid hnos
        obtain ⟨A0, m, c0, G, rfl, hsg, hG⟩ := hos.out
        clear hx hlow hos hml Hst Hal hsg hnos
        go_wp2_with fail
        go_ret
        rw [hres.out]
        exact IPost.of_os Hos.out
    · obtain rfl : j = n := by omega
      have hte : L.take j = L := List.take_of_length_le (by rw [hlen.out]; exact Nat.le_refl _)
      rw [hte] at hos
      have hal := Hal.out
      rw [hte] at hal
      have hres := Lib.hid (fr_whole hal)
      have Hos := Lib.hid hos
      obtain ⟨A0, m, c0, G, rfl, hsg, hG⟩ := hos.out
      clear hos hsg h hte hal
      go_wp2_with fail
      go_ret
      rw [hres.out]
      exact IPost.of_os Hos.out
end Go.Proofs.Ytgpmgghjcocfmaa
