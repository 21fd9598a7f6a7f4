/-
  WholeTalk's function literal that sends. Conditions: the packet is small.
-/
import Derived.Test.YtcfdfimkgehdfaaTkA
set_option linter.unusedVariables false
set_option linter.unusedSimpArgs false
namespace Go.Proofs.Ytcfdfimkgehdfaa
open Go.RowKit

theorem one_pa : (Try.prog.info? 24).map (·.size) = some 1 := by kernel_rfl
set_option maxRecDepth 100000 in
set_option maxHeartbeats 4000000 in
theorem send_t (F : Nat → Prop) (ga ba k : Nat) (Q : Qs) (s : ByteArray) (w : World) (hcb : CB w ga 24 (ptA ba)) (ha : AO F ba 1000 Q w) (hno : ¬ F ga) (hk : k < 256) (hs : s.size ≤ 100) : Calls Try.prog 25 #[.agg (pA ⟨(k : Int), s⟩), .pointer (some ⟨ga, 0, none⟩)] w (APost w F ba 1000 (sSn 1000 Q (ltr k s)) (.tuple #[])) := by
  have hlo := ha.lt
  have wk : IntKind.u8.wrap (k : Int) = (k : Int) := IntWalk.u8_in _ (by omega)
  have hga : ¬ F ga := fun e => hno e
  clear hno
  have ha0 := hcb
  clear hcb
  go_enter Try.func25, Try.ntmps25
  go_wp2_with (first | ((with_reducible refine st_box 70 _ (pA ⟨(k : Int), s⟩) ?_ ?_); exact rfl))
  refine ⟨fun V1 g1 n1 f1 => ?_⟩
  have ne1_a := f1.ne ha0
  have nn1_oa := ha.fresh (Nat.le_of_eq f1.at_)
  have up1 : w.heap.size ≤ g1 := Nat.le_of_eq f1.at_
  have bl1 := f1.bel
  clear f1
  have r2_oa := ha.on bl1
  have r4_a := le_on ha0 bl1
  have l4 := le_tr (Below.refl _ _) bl1
  clear ha0
  clear ha
  clear bl1
  go_wp2_with fail
  have y5 := Lib.hid (show (fun V : World => CB V ga 24 (ptA ba) ∧ CB V g1 70 (pA ⟨(k : Int), s⟩)) V1.drew from ⟨CB.drew r4_a, CB.drew n1⟩)
  refine wp_region_held_drew (S := (fun V : World => CB V ga 24 (ptA ba) ∧ CB V g1 70 (pA ⟨(k : Int), s⟩))) (by kernel_rfl) y5.out (fun hHeld => ?_)
  obtain ⟨D5, hD5⟩ : ∃ V, V1.drew = V := ⟨_, rfl⟩
  have b5 : Below V1.heap.size V1 D5 := by rw [← hD5]; exact le_dr (Below.refl _ _)
  rw [hD5] at hHeld ⊢
  clear hD5
  have r6_oa := r2_oa.on b5
  have r8_a := le_on r4_a b5
  have r8_p := le_on n1 b5
  have l8 := le_tr l4 b5
  clear r4_a n1 l4
  clear r2_oa
  clear b5
  refine wpAnyH_takeL (i := 0) (d := some 3) (v := .pointer (some ⟨ba, 0, none⟩)) rfl rfl (by kernel_rfl) (by kernel_rfl) (by kernel_rfl) (fun _ _ _ h => h) (Or.inl ⟨by rfl, ?_⟩) hHeld ?_
  · intro w hSw; (try dsimp only at hSw); have hcc : w.cell? ⟨ga, 0, none⟩ = some (.pointer (some ⟨ba, 0, none⟩)) := CB.cell hSw.1 0; go_simp
  try simp only [Act.put, List.setIfInBounds_toArray, List.set_cons_zero, List.set_cons_succ]
  refine wpAnyH_takeL (i := 1) (d := some 4) (v := .pointer (some ⟨g1, 0, none⟩)) rfl rfl (by kernel_rfl) (by kernel_rfl) (by kernel_rfl) (fun _ _ _ h => h) (Or.inl ⟨by rfl, ?_⟩) hHeld ?_
  · intro w hSw; (try dsimp only at hSw); go_simp
  try simp only [Act.put, List.setIfInBounds_toArray, List.set_cons_zero, List.set_cons_succ]
  refine wpAnyH_takeL (i := 2) (d := some 5) (v := .int .i64 (k : Int)) rfl rfl (by kernel_rfl) (by kernel_rfl) (by kernel_rfl) (fun _ _ _ h => h) (Or.inl ⟨by rfl, ?_⟩) hHeld ?_
  · intro w hSw; (try dsimp only at hSw); have hcc : w.cell? ⟨g1, 0, none⟩ = some (.int .i64 (k : Int)) := CB.cell hSw.2 0; go_simp
  try simp only [Act.put, List.setIfInBounds_toArray, List.set_cons_zero, List.set_cons_succ]
  refine wpAnyH_takeL (i := 3) (d := some 6) (v := .int .u8 (k : Int)) rfl rfl (by kernel_rfl) (by kernel_rfl) (by kernel_rfl) (fun _ _ _ h => h) (Or.inl ⟨by rfl, ?_⟩) hHeld ?_
  · intro w hSw; (try dsimp only at hSw); go_simp
  try simp only [Act.put, List.setIfInBounds_toArray, List.set_cons_zero, List.set_cons_succ]
  refine wpAnyH_takeL (i := 5) (d := some 8) (v := .pointer (some ⟨g1, 1, none⟩)) rfl rfl (by kernel_rfl) (by kernel_rfl) (by kernel_rfl) (fun _ _ _ h => h) (Or.inl ⟨by rfl, ?_⟩) hHeld ?_
  · intro w hSw; (try dsimp only at hSw); go_simp
  try simp only [Act.put, List.setIfInBounds_toArray, List.set_cons_zero, List.set_cons_succ]
  refine wpAnyH_takeL (i := 6) (d := some 9) (v := .string s) rfl rfl (by kernel_rfl) (by kernel_rfl) (by kernel_rfl) (fun _ _ _ h => h) (Or.inl ⟨by rfl, ?_⟩) hHeld ?_
  · intro w hSw; (try dsimp only at hSw); have hcc : w.cell? ⟨g1, 1, none⟩ = some (.string s) := CB.cell hSw.2 1; go_simp
  try simp only [Act.put, List.setIfInBounds_toArray, List.set_cons_zero, List.set_cons_succ]
  refine wpAnyH_ready (rs := [4]) (by kernel_rfl) (by simp) ?_
  refine AllReadyH.cons rfl (fun K hK => ?_) AllReadyH.nil
  refine rd_litv rfl 30 5 _ rfl (some 7) rfl (.int .u8 (k : Int)) (ubA k) rfl rfl Try.underlying30 Try.infoU2 rfl (by decide) (by decide) ?_
  refine ⟨fun V9 g9 n9 f9 => ?_⟩
  have ne9_a := f9.ne r8_a
  have ne9_p := f9.ne r8_p
  have nn9_oa := r6_oa.fresh (Nat.le_of_eq f9.at_)
  have up9 : w.heap.size ≤ g9 := f9.up l8
  have bl9 := f9.bel
  clear f9
  have r10_oa := r6_oa.on bl9
  have r12_a := le_on r8_a bl9
  have r12_p := le_on r8_p bl9
  have l12 := le_tr l8 bl9
  clear r8_a r8_p l8
  clear r6_oa
  clear bl9
  have y13 := Lib.hid (show (fun V : World => CB V ga 24 (ptA ba) ∧ CB V g1 70 (pA ⟨(k : Int), s⟩)) V9 from ⟨r12_a, r12_p⟩)
  refine hK.out _ _ y13.out (fun hHeld => ?_)
  clear hK K y13
  try simp only [Act.put, List.setIfInBounds_toArray, List.set_cons_zero, List.set_cons_succ]
  refine wpAnyH_ready (rs := [7]) (by kernel_rfl) (by simp) ?_
  refine AllReadyH.cons rfl (fun K hK => ?_) AllReadyH.nil
  refine rd_apps rfl (.tmp 7) (.tmp 9) 30 9 rfl (some 10) rfl 5 Try.underlying30 underS Try.infoU (A := some ⟨g9, 0, none⟩) (n := 1) (c := 1) (G := some g9) rfl (Seg.ofOne n9) (st := s) rfl (by simp only [maxLen]; omega) (by omega) (1 + s.size) rfl ?_
  refine ⟨fun B9 m9 q9 w9 s9 h9 k9 => ?_⟩
  have ne9 : ga ≠ g9 := ne9_a
  have a9 := CB.same r12_a (h9.block _ (CB.lt r12_a) (fun e => ne9 (by cases e; rfl)))
  have p9 := CB.same r12_p (h9.block _ (CB.lt r12_p) (fun e => ne9_p (by cases e; rfl)))
  have o9 := r10_oa.grow h9 (fun g e => by cases e; exact nn9_oa)
  have l9 := (l12).grown h9 (l12).size (fun g e => by cases e; exact up9)
  have s9' : RR w9 bcl 1 B9 (1 + s.size) m9 (UInt8.ofNat k :: Dk.bl s) := by
    have e : [Value.int .u8 (k : Int)] ++ Lib.strCells s = rc bcl (UInt8.ofNat k :: Dk.bl s) := by
      rw [rc_bcl, Dk.bc_str]
      show _ = Value.int .u8 ((UInt8.ofNat k).toNat : Int) :: _
      rw [ofNat_u8 (by omega)]
      rfl
    rw [e] at s9
    exact RR.of_seg s9
  clear s9 h9 k9 r12_a r12_p r10_oa l12 ne9
  have y14 := Lib.hid (show (fun V : World => CB V ga 24 (ptA ba) ∧ CB V g1 70 (pA ⟨(k : Int), s⟩)) w9 from ⟨a9, p9⟩)
  refine hK.out _ _ y14.out (fun hHeld => ?_)
  clear hK K y14
  try simp only [Act.put, List.setIfInBounds_toArray, List.set_cons_zero, List.set_cons_succ]
  refine wpAnyH_takeL (i := 8) (d := some 11) (v := .agg (lA ⟨0, 3, UInt8.ofNat k :: Dk.bl s, B9, 1 + s.size, m9⟩)) rfl rfl (by kernel_rfl) (by kernel_rfl) (by kernel_rfl) (fun _ _ _ h => h) (Or.inl ⟨by rfl, ?_⟩) hHeld ?_
  · intro w hSw; exact yl_build2 40 _ _ _ _ _ _ _ rfl rfl (built_l2 _ _ _ _)
  try simp only [Act.put, List.setIfInBounds_toArray, List.set_cons_zero, List.set_cons_succ]
  refine wpAnyH_ready (rs := [9]) (by kernel_rfl) (by simp) ?_
  refine AllReadyH.cons rfl (fun K hK => ?_) AllReadyH.nil
  go_simp
  have cc9 := send_k (room := 1000) (Q := Q) (ba := ba) (z := _) (⟨0, 3, UInt8.ofNat k :: Dk.bl s, B9, 1 + s.size, m9⟩ : Lm) o9 s9' (l := ltr k s) rfl rfl rfl
  (with_reducible refine cc9.mono ?_)
  clear cc9
  rintro e u9 ⟨rfl, S9, ao9, ou9, nw9⟩
  have a10 := ou9.box a9 hga
  have p10 := ou9.box p9 nn1_oa
  have O9 : Out w u9 F := (Out.of F l9).trans ou9 (fun _ _ h => h)
  have N9 : ∀ i, S9 i → F i ∨ w.heap.size ≤ i := fun i e => (nw9 i e).imp id (fun e => Nat.le_trans (l9).size e)
  clear ou9 nw9 s9' a9 p9
  go_wp2_with fail
  have y15 := Lib.hid (show (fun V : World => CB V ga 24 (ptA ba) ∧ CB V g1 70 (pA ⟨(k : Int), s⟩)) u9 from ⟨a10, p10⟩)
  refine hK.out _ _ y15.out (fun hHeld => ?_)
  clear hK K y15
  try simp only [Act.put, List.setIfInBounds_toArray, List.set_cons_zero, List.set_cons_succ]
  refine wpAnyH_done (by kernel_rfl) ?_ _
  exact bodyPost_end (v := .tuple #[]) (by simp [results, Try.results25, go_sem]) rfl ⟨rfl, S9, ao9, O9, N9⟩
end Go.Proofs.Ytcfdfimkgehdfaa
