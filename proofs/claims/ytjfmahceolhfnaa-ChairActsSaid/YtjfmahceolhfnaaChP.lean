/-
  Do of package chair. Conditions: the chair is one that its log made, its log has not a hundred thousand records, the bits are a byte.
-/
import Derived.Test.YtjfmahceolhfnaaChL
import Derived.Test.YtjfmahceolhfnaaChN
set_option linter.unusedVariables false
set_option linter.unusedSimpArgs false
namespace Go.Proofs.Ytjfmahceolhfnaa
open Go.RowKit

theorem ld_slice {w : World} {g i : Nat} {A : Option Addr} {n c : Nat} (h : w.cell? ⟨g, i, none⟩ = some (.slice A n c)) : (loadVar 53 ⟨g, i, none⟩).run Try.prog w = .ok (.slice A n c) w := by
  have ha := Try.isAgg53 w
  simp [loadVar, Sem.run_bind, ha, h, go_sem]
theorem Try.infoK2 : (Try.prog.info? 33).map (fun i => (i.zero, i.size)) = some (some (.agg (rA zeroR)), 8) := by kernel_rfl
theorem one_sl : (Try.prog.info? 53).map (·.size) = some 1 := by kernel_rfl
theorem Out.cb {w w' : World} {S : Nat → Prop} (h : Out w w' S) {g : Nat} {T : TypeId} {cs : Array Value} (hc : CB w g T cs) (hs : ¬ S g) : CB w' g T cs := CB.same hc (h.block g hc.lt hs)
/-- Behind Do. -/
def DoPost (w : World) (b m : Nat) (G : Option Nat) (D : DM) (log : List Rd) (r : Rd) (e : Ending) (w' : World) : Prop :=
  e = .returned (.tuple #[.int .i64 ((nDoC D r : Nat) : Int), .int .i64 ((eDoC D r : Nat) : Int)]) ∧
    ∃ G', CR w' b m G' (sDoC D r) (lDoC D log r) ∧ Out w w' (Own b m G) ∧ ∀ g, G' = some g → G = some g ∨ w.heap.size ≤ g
/-- A chair's struct. -/
structure Sc where
  m : Nat
  A : Option Addr
  n : Nat
  c : Nat
def sA (s : Sc) : Array Value := #[.map (some s.m), .slice s.A s.n s.c]
set_option maxRecDepth 100000 in
set_option maxHeartbeats 4000000 in
theorem do_c (b m : Nat) (G : Option Nat) (D : DM) (log : List Rd) (r : Rd) (w : World) (h : CR w b m G D log) (hw : r.who < 256) (hl : log.length ≤ 99999) : Calls Try.prog 12 #[.pointer (some ⟨b, 0, none⟩), .agg (rA r)] w (DoPost w b m G D log r) := by
  have hg := h.good
  have cu := CU.start h.cm
  have hcr := fun (W : World) (h : CM W b m G D log) => created_c b m G D log W h
  have hin := fun W => inrange_c r W
  have Hgd := Lib.hid (good_do (r := r) hg hw)
  have Hlo := Lib.hid (log_do (r := r) h.lo)
  clear h
  by_cases hok : okR r
  · rw [decide_eq_true hok] at hin
    have hR := fun (W : World) (h : CM W b m G D log) => run_c b m G D log r W h hg hok hw
    obtain ⟨E, hE⟩ : ∃ E, eDoC D r = E := ⟨_, rfl⟩
    obtain ⟨N, hN⟩ : ∃ N, nDoC D r = N := ⟨_, rfl⟩
    have hR : ∀ (W : World), CM W b m G D log → Calls Try.prog 25 #[.pointer (some ⟨b, 0, none⟩), .agg (rA r)] W fun e w' => e = .returned (.tuple #[.int .i64 (N : Int), .int .i64 (E : Int)]) ∧ CM w' b m G (sDoC D r) log ∧ Out W w' (fun i => i = m) := fun W h => by have := hR W h; unfold RnPost at this; rw [hE, hN] at this; exact this
    have HE := Lib.hid hE
    have HN := Lib.hid hN
    clear hE hN
    go_enter Try.func12, Try.ntmps12
    go_wp2_with (first | ((with_reducible refine st_box 33 _ (rA r) ?_ ?_); exact rfl))
    refine ⟨fun V1 g1 n1 f1 => ?_⟩
    have up1 : w.heap.size ≤ g1 := Nat.le_of_eq f1.at_
    have bl1 := f1.bel
    clear f1
    have r2_cu := (cu).on bl1
    have l2 := Out.tr (Out.refl _ (Own b m G)) bl1
    clear cu
    clear bl1
    go_wp2_with fail
    (with_reducible refine (hcr _ r2_cu.cm).mono ?_)
    rintro e w2 ⟨rfl, rfl⟩
    go_wp2_with (first | ((with_reducible refine st_load 33 _ g1 ?_ n1 Try.underlying33 ?_ ?_ ?_); exact rfl; exact rfl; exact Try.zRk))
    refine (hin _).mono ?_
    rintro e w3 ⟨rfl, b3⟩
    have r4_r := le_on n1 b3
    have r4_cu := (r2_cu).on b3
    have l4 := Out.tr l2 b3
    clear n1 r2_cu l2
    clear b3
    go_wp2_with (first | ((with_reducible refine st_load 33 _ g1 ?_ r4_r Try.underlying33 ?_ ?_ ?_); exact rfl; exact rfl; exact Try.zRk))
    (with_reducible refine (hR _ r4_cu.cm).mono ?_)
    rintro e w5 ⟨rfl, p1, p2⟩
    have hrm : g1 ≠ m := r4_cu.cm.md.ne r4_r
    have n5 := p2.cb r4_r hrm
    have p3 := Out.trans l4 p2 (fun i _ e => .inr (.inl e))
    have lo := r4_cu.lo
    clear p2 hR hrm hin hcr r4_r r4_cu
    by_cases he : E = 0
    · subst he
      have HL := Lib.hid (lDoC_z log HE.out)
      obtain ⟨A, n, c, k1, k2, k3⟩ := p1.len
      have hne : b ≠ m := p1.md.ne k1
      have Hmd := Lib.hid p1.md
      have hGb : ∀ g, G = some g → g ≠ b := fun g e => by
        subst e
        obtain ⟨cs, hc⟩ := seg_type k2
        exact hc.ne_ k1 Try.neRC
      have hGm : ∀ g, G = some g → g ≠ m := fun g e => by
        subst e
        obtain ⟨cs, hc⟩ := seg_type k2
        exact p1.md.ne hc
      have hgb : g1 ≠ b := by have := lo b (.inl rfl); have := up1; omega
      have hGr : ∀ g, G = some g → g ≠ g1 := fun g e => by have := lo g (.inr (.inr e)); have := up1; omega
      clear p1
      have k1 : CB w5 b 65 (sA ⟨m, A, n, c⟩) := k1
      have hnl : n ≤ 100000 := by omega
      have kmd := Hmd.out
      clear Hmd
      go_wp2_with fail
      have y6 := Lib.hid (show (fun V : World => CB V g1 33 (rA r)) w5.drew from CB.drew n5)
      refine wp_region_held_drew (S := (fun V : World => CB V g1 33 (rA r))) (by kernel_rfl) y6.out (fun hHeld => ?_)
      obtain ⟨D6, hD6⟩ : ∃ V, w5.drew = V := ⟨_, rfl⟩
      have b6 : Below w5.heap.size w5 D6 := by rw [← hD6]; exact le_dr (Below.refl _ _)
      rw [hD6] at hHeld ⊢
      clear hD6
      have r7_r := le_on n5 b6
      have r7_s := le_on k1 b6
      have r7_lg := (k2).on b6
      have r7_md := (kmd).on b6
      have l7 := Out.tr p3 b6
      clear n5 k1 k2 kmd p3
      clear b6
      refine wpAnyH_takeL (i := 0) (d := some 24) (v := .pointer (some ⟨b, 0, none⟩)) rfl rfl (by kernel_rfl) (by kernel_rfl) (by kernel_rfl) (fun _ _ _ h => h) (Or.inl ⟨by rfl, ?_⟩) hHeld ?_
      · intro w hSw; (try dsimp only at hSw); go_simp
      try simp only [Act.put, List.setIfInBounds_toArray, List.set_cons_zero, List.set_cons_succ]
      refine wpAnyH_takeL (i := 1) (d := some 25) (v := .pointer (some ⟨b, 0, none⟩)) rfl rfl (by kernel_rfl) (by kernel_rfl) (by kernel_rfl) (fun _ _ _ h => h) (Or.inl ⟨by rfl, ?_⟩) hHeld ?_
      · intro w hSw; (try dsimp only at hSw); go_simp
      try simp only [Act.put, List.setIfInBounds_toArray, List.set_cons_zero, List.set_cons_succ]
      refine wpAnyH_takeL (i := 2) (d := some 26) (v := .pointer (some ⟨b, 0, none⟩)) rfl rfl (by kernel_rfl) (by kernel_rfl) (by kernel_rfl) (fun _ _ _ h => h) (Or.inl ⟨by rfl, ?_⟩) hHeld ?_
      · intro w hSw; (try dsimp only at hSw); go_simp
      try simp only [Act.put, List.setIfInBounds_toArray, List.set_cons_zero, List.set_cons_succ]
      refine wpAnyH_takeL (i := 3) (d := some 27) (v := .pointer (some ⟨b, 1, none⟩)) rfl rfl (by kernel_rfl) (by kernel_rfl) (by kernel_rfl) (fun _ _ _ h => h) (Or.inl ⟨by rfl, ?_⟩) hHeld ?_
      · intro w hSw; (try dsimp only at hSw); go_simp
      try simp only [Act.put, List.setIfInBounds_toArray, List.set_cons_zero, List.set_cons_succ]
      refine wpAnyH_takeL (i := 5) (d := some 29) (v := .agg (rA r)) rfl rfl (by kernel_rfl) (by kernel_rfl) (by kernel_rfl) (fun _ _ _ h => h) (Or.inl ⟨by rfl, ?_⟩) hHeld ?_
      · intro w hSw; exact yl_whole 33 _ g1 rfl hSw Try.underlying33 rfl Try.zRk
      try simp only [Act.put, List.setIfInBounds_toArray, List.set_cons_zero, List.set_cons_succ]
      refine wpAnyH_ready (rs := [4, 6]) (by kernel_rfl) (by simp) ?_
      refine AllReadyH.cons rfl (fun K hK => ?_) (AllReadyH.cons rfl (fun K hK => ?_) AllReadyH.nil)
      · skip
        refine rd_load rfl 53 _ rfl (some 28) rfl (.slice A n c) b 1 rfl (ld_slice (CB.cell r7_s 1)) ?_
        refine ⟨?_⟩
        have y8 := Lib.hid (show (fun V : World => CB V g1 33 (rA r)) D6 from r7_r)
        refine hK.out _ _ y8.out (fun hHeld => ?_)
        clear hK K y8
        try simp only [Act.put, List.setIfInBounds_toArray, List.set_cons_zero, List.set_cons_succ]
        refine wpAnyH_ready (rs := [6]) (by kernel_rfl) (by simp) ?_
        refine AllReadyH.cons rfl (fun K hK => ?_) AllReadyH.nil
        refine rd_lit1 rfl 53 33 _ rfl (some 30) rfl (rA r) rfl Try.underlying53 Try.infoK2 rfl (by decide) (by decide) ?_
        refine ⟨fun V9 g9 n9 f9 => ?_⟩
        have ne9_r := f9.ne r7_r
        have ne9_s := f9.ne r7_s
        have up9 : w.heap.size ≤ g9 := f9.upO l7
        have bl9 := f9.bel
        clear f9
        have r10_r := le_on r7_r bl9
        have r10_s := le_on r7_s bl9
        have r10_lg := (r7_lg).on bl9
        have r10_md := (r7_md).on bl9
        have l10 := Out.tr l7 bl9
        clear r7_r r7_s r7_lg r7_md l7
        clear bl9
        have y11 := Lib.hid (show (fun V : World => CB V g1 33 (rA r)) V9 from r10_r)
        refine hK.out _ _ y11.out (fun hHeld => ?_)
        clear hK K y11
        try simp only [Act.put, List.setIfInBounds_toArray, List.set_cons_zero, List.set_cons_succ]
        refine wpAnyH_ready (rs := [7]) (by kernel_rfl) (by simp) ?_
        refine AllReadyH.cons rfl (fun K hK => ?_) AllReadyH.nil
        refine rd_app rfl (.tmp 28) (.tmp 30) 53 rfl (some 31) rfl 33 Try.underlying53 Try.infoK rfl (by decide) rfl r10_lg rfl (Src.box n9 rfl) (all_list (rA_one r)) (by simp only [maxLen]; omega) (by omega) (n + 1) rfl ?_
        refine ⟨fun A1 c1 G1 w12 s1 s2 s3 => ?_⟩
        have s1 : Seg w12 33 8 A1 (n + 1) c1 (rc kcl (log ++ [r])) G1 := by rw [← rc_snoc]; exact s1
        have e12_s := CB.same r10_s (s2.block b (r10_s).lt (fun e => hGb b e.symm rfl))
        have e12_r := CB.same r10_r (s2.block g1 (r10_r).lt (fun e => hGr _ e.symm rfl))
        have e12_md := MD.same r10_md (s2.block m (MD.lt r10_md) (fun e => hGm m e.symm rfl))
        have e12_sz := l10.size
        have e12_low := Out.grown l10 s2 (fun g e _ => .inr (.inr e))
        have e12_G : ∀ g, G1 = some g → G = some g ∨ w.heap.size ≤ g := fun g e => by
          rcases s3 with e' | ⟨g', e', hg'⟩
          · exact .inl (e' ▸ e)
          · rw [e'] at e; cases e; exact .inr (Nat.le_trans e12_sz hg')
        clear s2 s3 e12_sz r10_s r10_r l10 n9 r10_lg r10_md
        have y13 := Lib.hid (show (fun V : World => CB V g1 33 (rA r)) w12 from e12_r)
        refine hK.out _ _ y13.out (fun hHeld => ?_)
        clear hK K y13
        try simp only [Act.put, List.setIfInBounds_toArray, List.set_cons_zero, List.set_cons_succ]
        refine wpAnyH_takeL (i := 8) (d := some 32) (v := .pointer (some ⟨b, 0, none⟩)) rfl rfl (by kernel_rfl) (by kernel_rfl) (by kernel_rfl) (fun _ _ _ h => h) (Or.inl ⟨by rfl, ?_⟩) hHeld ?_
        · intro w hSw; (try dsimp only at hSw); go_simp
        try simp only [Act.put, List.setIfInBounds_toArray, List.set_cons_zero, List.set_cons_succ]
        refine wpAnyH_takeL (i := 9) (d := some 33) (v := .pointer (some ⟨b, 1, none⟩)) rfl rfl (by kernel_rfl) (by kernel_rfl) (by kernel_rfl) (fun _ _ _ h => h) (Or.inl ⟨by rfl, ?_⟩) hHeld ?_
        · intro w hSw; (try dsimp only at hSw); go_simp
        try simp only [Act.put, List.setIfInBounds_toArray, List.set_cons_zero, List.set_cons_succ]
        refine wpAnyH_ready (rs := [10]) (by kernel_rfl) (by simp) ?_
        refine AllReadyH.cons rfl (fun K hK => ?_) AllReadyH.nil
        refine rd_cell rfl 53 _ _ rfl none rfl b 1 (.slice A1 (n + 1) c1) rfl rfl e12_s (by show 1 < 2; decide) (new := #[.map (some m), .slice A1 (n + 1) c1]) rfl one_sl rfl rfl ?_
        refine ⟨fun V14 n14 k14 => ?_⟩
        have m14_r := k14.on e12_r hgb
        have m14_md := MD.wr e12_md k14 e12_s
        have m14_lg := s1.keep fun g e => k14.far g (fun e' => by
          subst e e'
          obtain ⟨cs, hc⟩ := seg_type s1
          exact hc.ne_ e12_s Try.neRC rfl)
        have m14_low := Out.wrS e12_low k14 (.inl rfl)
        clear k14 s1 e12_s e12_r e12_md e12_low
        have y15 := Lib.hid (show (fun V : World => CB V g1 33 (rA r)) V14 from m14_r)
        refine hK.out _ _ y15.out (fun hHeld => ?_)
        clear hK K y15
        try simp only [Act.put, List.setIfInBounds_toArray, List.set_cons_zero, List.set_cons_succ]
        refine wpAnyH_done (by kernel_rfl) ?_ _
        go_wp2_with fail
        go_ret2
        refine ⟨by rw [HN.out, HE.out] <;> rfl, G1, ⟨⟨⟨A1, n + 1, c1, n14, ?_⟩, m14_md⟩, Hgd.out, Hlo.out⟩, m14_low, e12_G⟩
        rw [HL.out]
        exact m14_lg
      · skip
        refine rd_lit1 rfl 53 33 _ rfl (some 30) rfl (rA r) rfl Try.underlying53 Try.infoK2 rfl (by decide) (by decide) ?_
        refine ⟨fun V8 g8 n8 f8 => ?_⟩
        have ne8_r := f8.ne r7_r
        have ne8_s := f8.ne r7_s
        have up8 : w.heap.size ≤ g8 := f8.upO l7
        have bl8 := f8.bel
        clear f8
        have r9_r := le_on r7_r bl8
        have r9_s := le_on r7_s bl8
        have r9_lg := (r7_lg).on bl8
        have r9_md := (r7_md).on bl8
        have l9 := Out.tr l7 bl8
        clear r7_r r7_s r7_lg r7_md l7
        clear bl8
        have y10 := Lib.hid (show (fun V : World => CB V g1 33 (rA r)) V8 from r9_r)
        refine hK.out _ _ y10.out (fun hHeld => ?_)
        clear hK K y10
        try simp only [Act.put, List.setIfInBounds_toArray, List.set_cons_zero, List.set_cons_succ]
        refine wpAnyH_ready (rs := [4]) (by kernel_rfl) (by simp) ?_
        refine AllReadyH.cons rfl (fun K hK => ?_) AllReadyH.nil
        refine rd_load rfl 53 _ rfl (some 28) rfl (.slice A n c) b 1 rfl (ld_slice (CB.cell r9_s 1)) ?_
        refine ⟨?_⟩
        have y11 := Lib.hid (show (fun V : World => CB V g1 33 (rA r)) V8 from r9_r)
        refine hK.out _ _ y11.out (fun hHeld => ?_)
        clear hK K y11
        try simp only [Act.put, List.setIfInBounds_toArray, List.set_cons_zero, List.set_cons_succ]
        refine wpAnyH_ready (rs := [7]) (by kernel_rfl) (by simp) ?_
        refine AllReadyH.cons rfl (fun K hK => ?_) AllReadyH.nil
        refine rd_app rfl (.tmp 28) (.tmp 30) 53 rfl (some 31) rfl 33 Try.underlying53 Try.infoK rfl (by decide) rfl r9_lg rfl (Src.box n8 rfl) (all_list (rA_one r)) (by simp only [maxLen]; omega) (by omega) (n + 1) rfl ?_
        refine ⟨fun A1 c1 G1 w12 s1 s2 s3 => ?_⟩
        have s1 : Seg w12 33 8 A1 (n + 1) c1 (rc kcl (log ++ [r])) G1 := by rw [← rc_snoc]; exact s1
        have e12_s := CB.same r9_s (s2.block b (r9_s).lt (fun e => hGb b e.symm rfl))
        have e12_r := CB.same r9_r (s2.block g1 (r9_r).lt (fun e => hGr _ e.symm rfl))
        have e12_md := MD.same r9_md (s2.block m (MD.lt r9_md) (fun e => hGm m e.symm rfl))
        have e12_sz := l9.size
        have e12_low := Out.grown l9 s2 (fun g e _ => .inr (.inr e))
        have e12_G : ∀ g, G1 = some g → G = some g ∨ w.heap.size ≤ g := fun g e => by
          rcases s3 with e' | ⟨g', e', hg'⟩
          · exact .inl (e' ▸ e)
          · rw [e'] at e; cases e; exact .inr (Nat.le_trans e12_sz hg')
        clear s2 s3 e12_sz r9_s r9_r l9 n8 r9_lg r9_md
        have y13 := Lib.hid (show (fun V : World => CB V g1 33 (rA r)) w12 from e12_r)
        refine hK.out _ _ y13.out (fun hHeld => ?_)
        clear hK K y13
        try simp only [Act.put, List.setIfInBounds_toArray, List.set_cons_zero, List.set_cons_succ]
        refine wpAnyH_takeL (i := 8) (d := some 32) (v := .pointer (some ⟨b, 0, none⟩)) rfl rfl (by kernel_rfl) (by kernel_rfl) (by kernel_rfl) (fun _ _ _ h => h) (Or.inl ⟨by rfl, ?_⟩) hHeld ?_
        · intro w hSw; (try dsimp only at hSw); go_simp
        try simp only [Act.put, List.setIfInBounds_toArray, List.set_cons_zero, List.set_cons_succ]
        refine wpAnyH_takeL (i := 9) (d := some 33) (v := .pointer (some ⟨b, 1, none⟩)) rfl rfl (by kernel_rfl) (by kernel_rfl) (by kernel_rfl) (fun _ _ _ h => h) (Or.inl ⟨by rfl, ?_⟩) hHeld ?_
        · intro w hSw; (try dsimp only at hSw); go_simp
        try simp only [Act.put, List.setIfInBounds_toArray, List.set_cons_zero, List.set_cons_succ]
        refine wpAnyH_ready (rs := [10]) (by kernel_rfl) (by simp) ?_
        refine AllReadyH.cons rfl (fun K hK => ?_) AllReadyH.nil
        refine rd_cell rfl 53 _ _ rfl none rfl b 1 (.slice A1 (n + 1) c1) rfl rfl e12_s (by show 1 < 2; decide) (new := #[.map (some m), .slice A1 (n + 1) c1]) rfl one_sl rfl rfl ?_
        refine ⟨fun V14 n14 k14 => ?_⟩
        have m14_r := k14.on e12_r hgb
        have m14_md := MD.wr e12_md k14 e12_s
        have m14_lg := s1.keep fun g e => k14.far g (fun e' => by
          subst e e'
          obtain ⟨cs, hc⟩ := seg_type s1
          exact hc.ne_ e12_s Try.neRC rfl)
        have m14_low := Out.wrS e12_low k14 (.inl rfl)
        clear k14 s1 e12_s e12_r e12_md e12_low
        have y15 := Lib.hid (show (fun V : World => CB V g1 33 (rA r)) V14 from m14_r)
        refine hK.out _ _ y15.out (fun hHeld => ?_)
        clear hK K y15
        try simp only [Act.put, List.setIfInBounds_toArray, List.set_cons_zero, List.set_cons_succ]
        refine wpAnyH_done (by kernel_rfl) ?_ _
        go_wp2_with fail
        go_ret2
        refine ⟨by rw [HN.out, HE.out] <;> rfl, G1, ⟨⟨⟨A1, n + 1, c1, n14, ?_⟩, m14_md⟩, Hgd.out, Hlo.out⟩, m14_low, e12_G⟩
        rw [HL.out]
        exact m14_lg
    have hz : ¬ eDoC D r = 0 := by rw [HE.out]; exact he
    have HL := Lib.hid (lDoC_n log hz)
    have q5 : ((E : Int) == 0) = false := by simp [he]
    have q6 : (E == 0) = false := by simp [he]
    clear hz he
    go_wp2_with fail
    go_ret2
    exact ⟨by rw [HN.out, HE.out] <;> rfl, G, ⟨⟨by rw [HL.out]; exact p1.ex, p1.md⟩, Hgd.out, Hlo.out⟩, p3, fun g e => .inl e⟩
  · rw [decide_eq_false hok] at hin
    have hz := eDoC_2 (D := D) hok
    have HE := Lib.hid hz
    have hzn : ¬ eDoC D r = 0 := by rw [hz]; decide
    have HN := Lib.hid (nDoC_n hzn)
    have HS := Lib.hid (sDoC_n hzn)
    have HL := Lib.hid (lDoC_n log hzn)
    clear hz hzn
    go_enter Try.func12, Try.ntmps12
    go_wp2_with (first | ((with_reducible refine st_box 33 _ (rA r) ?_ ?_); exact rfl))
    refine ⟨fun V901 g901 n901 f901 => ?_⟩
    have up901 : w.heap.size ≤ g901 := Nat.le_of_eq f901.at_
    have bl901 := f901.bel
    clear f901
    have r902_cu := (cu).on bl901
    have l902 := Out.tr (Out.refl _ (Own b m G)) bl901
    clear cu
    clear bl901
    go_wp2_with fail
    (with_reducible refine (hcr _ r902_cu.cm).mono ?_)
    rintro e w2 ⟨rfl, rfl⟩
    go_wp2_with (first | ((with_reducible refine st_load 33 _ g901 ?_ n901 Try.underlying33 ?_ ?_ ?_); exact rfl; exact rfl; exact Try.zRk))
    refine (hin _).mono ?_
    rintro e w903 ⟨rfl, b903⟩
    have r904_r := le_on n901 b903
    have r904_cu := (r902_cu).on b903
    have l904 := Out.tr l902 b903
    clear n901 r902_cu l902
    clear b903
    go_wp2_with fail
    go_ret2
    exact ⟨by rw [HN.out, HE.out] <;> rfl, G, ⟨by rw [HL.out, HS.out] <;> exact r904_cu.cm, Hgd.out, Hlo.out⟩, l904, fun g e => .inl e⟩
end Go.Proofs.Ytjfmahceolhfnaa
