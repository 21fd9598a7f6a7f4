/-
  Layer 16: Acked, Hear of package party, the document's Hear. Conditions: what waits can be read and is right, what is told back is no more than was said.
-/
import Derived.Test.YtcfdfimkgehdfaaQaD
set_option linter.unusedVariables false
set_option linter.unusedSimpArgs false
namespace Go.Proofs.Ytcfdfimkgehdfaa
open Go.RowKit

section
variable {P : Program} {ev : Operand → Value} {dst : Option Tmp} {ty : TypeId} {pos : String} {aft : Array Edge} {gd : Option (Nat × Bool)} {w : World}
end
theorem hea_n {h : Int} {p : Pk} {k : Nat} (he : eHea h p = k) (hk : k ≠ 0) : sHea h p = h ∧ tHea h p = ByteArray.empty := by
  subst he
  exact ⟨by unfold sHea; rw [if_neg hk], by unfold tHea; rw [if_neg hk]⟩
theorem hea_z {h : Int} {p : Pk} (he : eHea h p = 0) : sHea h p = h + 1 ∧ tHea h p = p.tx := ⟨by unfold sHea; rw [if_pos he], by unfold tHea; rw [if_pos he]⟩
/-- Behind Hear. -/
def HPost (w : World) (h : Int) (p : Pk) (e : Ending) (w' : World) : Prop := e = .returned (.tuple #[.agg (hA (sHea h p)), .string (tHea h p), .int .i64 ((eHea h p : Nat) : Int)]) ∧ Below w.heap.size w w'
theorem HPost.no {w : World} {h : Int} {p : Pk} {k : Nat} {w' : World} (he : eHea h p = k) (hk : k ≠ 0) (hb : Below w.heap.size w w') : HPost w h p (.returned (.tuple #[.agg (hA h), .string ByteArray.empty, .int .i64 (k : Int)])) w' := by
  obtain ⟨h1, h2⟩ := hea_n he hk
  exact ⟨by rw [h1, h2, he], hb⟩
theorem HPost.yes {w : World} {h : Int} {p : Pk} {w' : World} (he : eHea h p = 0) (hb : Below w.heap.size w w') : HPost w h p (.returned (.tuple #[.agg (hA (h + 1)), .string p.tx, .int .i64 0])) w' := by
  obtain ⟨h1, h2⟩ := hea_z he
  exact ⟨by rw [h1, h2, he]; rfl, hb⟩
set_option maxRecDepth 100000 in
set_option maxHeartbeats 4000000 in
theorem acked_c (nx : Int) (A : Option Addr) (n c : Nat) (L : List Pk) (rm : Int) (k : Int) (w : World) (h : RR w pcl 2 A n c L) (hR : RightO ⟨nx, L, rm⟩) (hk0 : 0 ≤ k) (hk1 : k ≤ nx) : Calls Try.prog 27 #[.agg (oA ⟨nx, A, n, c, rm⟩), .int .i64 k] w (APostP w ⟨nx, L, rm⟩ k) := by
  have hlen := h.len
  have hl := RL.start h
  obtain ⟨ha1, ha2⟩ := hR.2.1
  obtain ⟨hn1, hn2⟩ := hR.2.2.1
  have hlr := hR.2.2.2
  simp only at ha1 ha2 hn1 hn2 hlr
  rw [hlen] at hlr
  have hn3 : n ≤ 1000 := by omega
  have R1 := fun (V : World) (h : RR V pcl 2 A n c L) => right_t nx A n c L rm V h hR
  have C1 := fun (V : World) (h : RR V pcl 2 A n c L) => from_c A n c L k V h hn3
  have he0 : eAck ⟨nx, L, rm⟩ k = 0 := by unfold eAck; rw [if_neg]; exact fun hx => hx.elim (fun h1 => h1 hR) (fun hx => hx.elim (fun h1 => by omega) (fun h1 => by have h2 : nx < k := h1; omega))
  have HE := Lib.hid (show (sAck ⟨nx, L, rm⟩ k).wait = L.filter (fun p => decide (k ≤ p.seq)) by unfold sAck; rw [if_pos he0])
  have q1 : decide (k < 0) = false := by simp; omega
  have q2 : decide (nx < k) = false := by simp; omega
  have q3 : decide (k > nx) = false := by simp; omega
  clear hR h he0 hlr
  go_enter Try.func27, Try.ntmps27
  go_wp2_with (first | ((with_reducible refine st_box 64 _ (oA ⟨nx, A, n, c, rm⟩) ?_ ?_); exact rfl))
  refine ⟨fun V1 g1 n1 f1 => ?_⟩
  have up1 : w.heap.size ≤ g1 := Nat.le_of_eq f1.at_
  have bl1 := f1.bel
  clear f1
  have r3_l := (hl).on bl1
  have l3 := le_tr (Below.refl _ _) bl1
  clear hl
  clear bl1
  go_wp2_with (first | ((with_reducible refine st_alloc 64 (oA zeroO) ?_ ?_); exact zero_ou))
  refine ⟨fun V4 g4 n4 f4 => ?_⟩
  have ne4_o := f4.ne n1
  have up4 : w.heap.size ≤ g4 := f4.up l3
  have bl4 := f4.bel
  clear f4
  have r6_o := le_on n1 bl4
  have r6_l := (r3_l).on bl4
  have l6 := le_tr l3 bl4
  clear n1 r3_l l3
  clear bl4
  go_wp2_with (first | ((with_reducible refine st_load 64 _ g1 ?_ r6_o Try.underlying64 ?_ ?_ ?_); exact rfl; exact rfl; exact Try.zOu))
  (with_reducible refine (R1 _ (r6_l).rr).mono ?_)
  rintro e w7 ⟨rfl, b7⟩
  have r9_o := le_on r6_o b7
  have r9_r := le_on n4 b7
  have r9_l := (r6_l).on b7
  have l9 := le_tr l6 b7
  clear r6_o n4 r6_l l6
  clear b7
  have c10 : w7.cell? ⟨g1, 0, none⟩ = some (.int .i64 nx) := CB.cell r9_o 0
  go_wp2_with fail
  clear c10
  have y11 := Lib.hid (show (fun V : World => CB V g1 64 (oA ⟨nx, A, n, c, rm⟩)) w7.drew from CB.drew r9_o)
  refine wp_region_held_drew (S := (fun V : World => CB V g1 64 (oA ⟨nx, A, n, c, rm⟩))) (by kernel_rfl) y11.out (fun hHeld => ?_)
  obtain ⟨D11, hD11⟩ : ∃ V, w7.drew = V := ⟨_, rfl⟩
  have b11 : Below w7.heap.size w7 D11 := by rw [← hD11]; exact le_dr (Below.refl _ _)
  rw [hD11] at hHeld ⊢
  clear hD11
  have r13_o := le_on r9_o b11
  have r13_r := le_on r9_r b11
  have r13_l := (r9_l).on b11
  have l13 := le_tr l9 b11
  clear r9_o r9_r r9_l l9
  clear b11
  refine wpAnyH_takeL (i := 0) (d := some 20) (v := .pointer (some ⟨g1, 0, none⟩)) rfl rfl (by kernel_rfl) (by kernel_rfl) (by kernel_rfl) (fun _ _ _ h => h) (Or.inl ⟨by rfl, ?_⟩) hHeld ?_
  · intro w hSw; (try dsimp only at hSw); go_simp
  try simp only [Act.put, List.setIfInBounds_toArray, List.set_cons_zero, List.set_cons_succ]
  refine wpAnyH_takeL (i := 1) (d := some 21) (v := .int .i64 nx) rfl rfl (by kernel_rfl) (by kernel_rfl) (by kernel_rfl) (fun _ _ _ h => h) (Or.inl ⟨by rfl, ?_⟩) hHeld ?_
  · intro w hSw; (try dsimp only at hSw); have hcc : w.cell? ⟨g1, 0, none⟩ = some (.int .i64 nx) := CB.cell hSw 0; go_simp
  try simp only [Act.put, List.setIfInBounds_toArray, List.set_cons_zero, List.set_cons_succ]
  refine wpAnyH_takeL (i := 2) (d := some 22) (v := .pointer (some ⟨g1, 1, none⟩)) rfl rfl (by kernel_rfl) (by kernel_rfl) (by kernel_rfl) (fun _ _ _ h => h) (Or.inl ⟨by rfl, ?_⟩) hHeld ?_
  · intro w hSw; (try dsimp only at hSw); go_simp
  try simp only [Act.put, List.setIfInBounds_toArray, List.set_cons_zero, List.set_cons_succ]
  refine wpAnyH_takeL (i := 3) (d := some 23) (v := .slice A n c) rfl rfl (by kernel_rfl) (by kernel_rfl) (by kernel_rfl) (fun _ _ _ h => h) (Or.inl ⟨by rfl, ?_⟩) hHeld ?_
  · intro w hSw; (try dsimp only at hSw); have hcc : w.cell? ⟨g1, 1, none⟩ = some (.slice A n c) := CB.cell hSw 1; go_simp
  try simp only [Act.put, List.setIfInBounds_toArray, List.set_cons_zero, List.set_cons_succ]
  refine wpAnyH_takeL (i := 4) (d := some 24) (v := .int .i64 k) rfl rfl (by kernel_rfl) (by kernel_rfl) (by kernel_rfl) (fun _ _ _ h => h) (Or.inl ⟨by rfl, ?_⟩) hHeld ?_
  · intro w hSw; (try dsimp only at hSw); go_simp
  try simp only [Act.put, List.setIfInBounds_toArray, List.set_cons_zero, List.set_cons_succ]
  refine wpAnyH_takeL (i := 6) (d := some 26) (v := .pointer (some ⟨g1, 2, none⟩)) rfl rfl (by kernel_rfl) (by kernel_rfl) (by kernel_rfl) (fun _ _ _ h => h) (Or.inl ⟨by rfl, ?_⟩) hHeld ?_
  · intro w hSw; (try dsimp only at hSw); go_simp
  try simp only [Act.put, List.setIfInBounds_toArray, List.set_cons_zero, List.set_cons_succ]
  refine wpAnyH_takeL (i := 7) (d := some 27) (v := .int .i64 rm) rfl rfl (by kernel_rfl) (by kernel_rfl) (by kernel_rfl) (fun _ _ _ h => h) (Or.inl ⟨by rfl, ?_⟩) hHeld ?_
  · intro w hSw; (try dsimp only at hSw); have hcc : w.cell? ⟨g1, 2, none⟩ = some (.int .i64 rm) := CB.cell hSw 2; go_simp
  try simp only [Act.put, List.setIfInBounds_toArray, List.set_cons_zero, List.set_cons_succ]
  refine wpAnyH_ready (rs := [5]) (by kernel_rfl) (by simp) ?_
  refine AllReadyH.cons rfl (fun K hK => ?_) AllReadyH.nil
  go_simp
  have lt14_o := CB.lt r13_o
  have lt14_r := CB.lt r13_r
  have lb14 := (l13).size
  (with_reducible refine (C1 _ (r13_l).rr).mono ?_)
  rintro e u14 ⟨A1, n1, c1, G1, rfl, so1, b14⟩
  have r16_o := le_on r13_o b14
  have r16_r := le_on r13_r b14
  have r16_l := (r13_l).on b14
  have l16 := le_tr l13 b14
  clear r13_o r13_r r13_l l13
  clear b14
  have na17 := SO.above so1 lt14_o
  have na18 := SO.above so1 lt14_r
  have sm14 := SO.mono so1 lb14
  clear so1 lb14 lt14_o lt14_r
  go_wp2_with fail
  have y19 := Lib.hid (show (fun V : World => CB V g1 64 (oA ⟨nx, A, n, c, rm⟩)) u14 from r16_o)
  refine hK.out _ _ y19.out (fun hHeld => ?_)
  clear hK K y19
  try simp only [Act.put, List.setIfInBounds_toArray, List.set_cons_zero, List.set_cons_succ]
  refine wpAnyH_takeL (i := 8) (d := some 28) (v := .agg (oA ⟨nx, A1, n1, c1, rm⟩)) rfl rfl (by kernel_rfl) (by kernel_rfl) (by kernel_rfl) (fun _ _ _ h => h) (Or.inl ⟨by rfl, ?_⟩) hHeld ?_
  · intro w hSw; exact yl_build3 64 _ _ _ _ _ _ _ rfl rfl rfl (built_o _ _ _ _ _)
  try simp only [Act.put, List.setIfInBounds_toArray, List.set_cons_zero, List.set_cons_succ]
  refine wpAnyH_ready (rs := [9]) (by kernel_rfl) (by simp) ?_
  refine AllReadyH.cons rfl (fun K hK => ?_) AllReadyH.nil
  refine rd_store rfl 64 _ _ rfl none rfl g4 (oA ⟨nx, A1, n1, c1, rm⟩) rfl rfl r16_r Try.zOu rfl (oA_one _) ?_
  refine ⟨fun V20 n20 k20 => ?_⟩
  have m20_o := k20.on r16_o ne4_o
  have m20_l := (r16_l).wr k20 up4
  have m20_s := SO.wr sm14 k20 na18
  have o20 := k20.bel _ _ l16 up4
  clear k20
  clear r16_r r16_o r16_l sm14 l16
  have y21 := Lib.hid (show (fun V : World => CB V g1 64 (oA ⟨nx, A, n, c, rm⟩)) V20 from m20_o)
  refine hK.out _ _ y21.out (fun hHeld => ?_)
  clear hK K y21
  try simp only [Act.put, List.setIfInBounds_toArray, List.set_cons_zero, List.set_cons_succ]
  refine wpAnyH_takeL (i := 10) (d := some 5) (v := .int .i64 0) rfl rfl (by kernel_rfl) (by kernel_rfl) (by kernel_rfl) (fun _ _ _ h => h) (Or.inl ⟨by rfl, ?_⟩) hHeld ?_
  · intro w hSw; (try dsimp only at hSw); go_simp
  try simp only [Act.put, List.setIfInBounds_toArray, List.set_cons_zero, List.set_cons_succ]
  refine wpAnyH_done (by kernel_rfl) ?_ _
  go_wp2_with fail
  exact bodyPost_ret (v := .tuple #[.agg (oA ⟨nx, A1, n1, c1, rm⟩), .int .i64 0]) (res_two Try.results27 rfl rfl n20 Try.underlying64 rfl Try.zOu) rfl ⟨A1, n1, c1, G1, rfl, by rw [HE.out]; exact m20_s, o20⟩
set_option maxRecDepth 100000 in
set_option maxHeartbeats 4000000 in
theorem hear_c (h : Int) (p : Pk) (w : World) : Calls Try.prog 24 #[.agg (hA h), .agg (pA p)] w (HPost w h p) := by
  have G1 := fun V => range_c h V
  have G2 := fun V => range_c p.seq V
  have F1 := fun V => fits_c p.tx V
  by_cases h1 : 0 ≤ h ∧ h ≤ 1048576
  · skip
    rw [show decide (0 ≤ h ∧ h ≤ 1048576) = true by simp [h1]] at G1
    by_cases h2 : 0 ≤ p.seq ∧ p.seq ≤ 1048576
    · skip
      rw [show decide (0 ≤ p.seq ∧ p.seq ≤ 1048576) = true by simp [h2]] at G2
      by_cases h3 : p.tx.size ≤ 500
      · skip
        rw [show decide (p.tx.size ≤ 500) = true by simp [h3]] at F1
        by_cases h4 : p.seq < h
        · have HE := Lib.hid (show eHea h p = 10 by unfold eHea; rw [if_neg (by omega), if_pos h4])
          have q6 : decide (p.seq < h) = true := by simp [h4]
          clear h1 h2 h3 h4
          go_enter Try.func24, Try.ntmps24
          go_wp2_with (first | ((with_reducible refine st_box 66 _ (hA h) ?_ ?_); exact rfl))
          refine ⟨fun V1 g1 n1 f1 => ?_⟩
          have up1 : w.heap.size ≤ g1 := Nat.le_of_eq f1.at_
          have bl1 := f1.bel
          clear f1
          have l3 := le_tr (Below.refl _ _) bl1
          clear bl1
          go_wp2_with (first | ((with_reducible refine st_box 70 _ (pA p) ?_ ?_); exact rfl))
          refine ⟨fun V4 g4 n4 f4 => ?_⟩
          have ne4_i := f4.ne n1
          have up4 : w.heap.size ≤ g4 := f4.up l3
          have bl4 := f4.bel
          clear f4
          have r6_i := le_on n1 bl4
          have l6 := le_tr l3 bl4
          clear n1 l3
          clear bl4
          go_wp2_with (first | ((with_reducible refine st_alloc 66 (hA (0)) ?_ ?_); exact zero_in))
          refine ⟨fun V7 g7 n7 f7 => ?_⟩
          have ne7_i := f7.ne r6_i
          have ne7_p := f7.ne n4
          have up7 : w.heap.size ≤ g7 := f7.up l6
          have bl7 := f7.bel
          clear f7
          have r9_i := le_on r6_i bl7
          have r9_p := le_on n4 bl7
          have l9 := le_tr l6 bl7
          clear r6_i n4 l6
          clear bl7
          have c10 : V7.cell? ⟨g1, 0, none⟩ = some (.int .i64 h) := CB.cell r9_i 0
          go_wp2_with fail
          (with_reducible refine (G1 _).mono ?_)
          rintro e w11 ⟨rfl, b11⟩
          clear c10
          have r13_i := le_on r9_i b11
          have r13_p := le_on r9_p b11
          have r13_r := le_on n7 b11
          have l13 := le_tr l9 b11
          clear r9_i r9_p n7 l9
          clear b11
          have c14 : w11.cell? ⟨g4, 0, none⟩ = some (.int .i64 (p.seq)) := CB.cell r13_p 0
          go_wp2_with fail
          (with_reducible refine (G2 _).mono ?_)
          rintro e w15 ⟨rfl, b15⟩
          clear c14
          have r17_i := le_on r13_i b15
          have r17_p := le_on r13_p b15
          have r17_r := le_on r13_r b15
          have l17 := le_tr l13 b15
          clear r13_i r13_p r13_r l13
          clear b15
          have c18 : w15.cell? ⟨g4, 1, none⟩ = some (.string (p.tx)) := CB.cell r17_p 1
          go_wp2_with fail
          (with_reducible refine (F1 _).mono ?_)
          rintro e w19 ⟨rfl, b19⟩
          clear c18
          have r21_i := le_on r17_i b19
          have r21_p := le_on r17_p b19
          have r21_r := le_on r17_r b19
          have l21 := le_tr l17 b19
          clear r17_i r17_p r17_r l17
          clear b19
          have c22 : w19.cell? ⟨g1, 0, none⟩ = some (.int .i64 h) := CB.cell r21_i 0
          have c23 : w19.cell? ⟨g4, 0, none⟩ = some (.int .i64 (p.seq)) := CB.cell r21_p 0
          go_wp2_with (first | ((with_reducible refine st_load 66 _ g1 ?_ r21_i Try.underlying66 ?_ ?_ ?_); exact rfl; exact rfl; exact Try.zIn) | ((with_reducible refine st_store 66 _ _ g7 (hA h) ?_ ?_ r21_r ?_ ?_ ?_ ?_); exact rfl; exact rfl; exact Try.zIn; exact rfl; exact hA_one _))
          refine ⟨fun V24 n24 k24 => ?_⟩
          clear c22 c23
          have m24_i := k24.on r21_i ne7_i
          have m24_p := k24.on r21_p ne7_p
          have o24 := k24.bel _ _ l21 up7
          clear k24
          clear r21_r r21_i r21_p l21
          go_wp2_with fail
          exact bodyPost_ret (v := .tuple #[.agg (hA h), .string ByteArray.empty, .int .i64 10]) (res_ctt Try.results24 rfl rfl rfl n24 Try.underlying66 rfl Try.zIn) rfl (HPost.no HE.out (by decide) o24)
        have q6 : decide (p.seq < h) = false := by simp; omega
        by_cases h5 : h < p.seq
        · have HE := Lib.hid (show eHea h p = 7 by unfold eHea; rw [if_neg (by omega), if_neg h4, if_pos h5])
          have q7 : decide (h < p.seq) = true := by simp [h5]
          have q8 : decide (p.seq > h) = true := by simp [h5]
          clear h1 h2 h3 h4 h5
          go_enter Try.func24, Try.ntmps24
          go_wp2_with (first | ((with_reducible refine st_box 66 _ (hA h) ?_ ?_); exact rfl))
          refine ⟨fun V1 g1 n1 f1 => ?_⟩
          have up1 : w.heap.size ≤ g1 := Nat.le_of_eq f1.at_
          have bl1 := f1.bel
          clear f1
          have l3 := le_tr (Below.refl _ _) bl1
          clear bl1
          go_wp2_with (first | ((with_reducible refine st_box 70 _ (pA p) ?_ ?_); exact rfl))
          refine ⟨fun V4 g4 n4 f4 => ?_⟩
          have ne4_i := f4.ne n1
          have up4 : w.heap.size ≤ g4 := f4.up l3
          have bl4 := f4.bel
          clear f4
          have r6_i := le_on n1 bl4
          have l6 := le_tr l3 bl4
          clear n1 l3
          clear bl4
          go_wp2_with (first | ((with_reducible refine st_alloc 66 (hA (0)) ?_ ?_); exact zero_in))
          refine ⟨fun V7 g7 n7 f7 => ?_⟩
          have ne7_i := f7.ne r6_i
          have ne7_p := f7.ne n4
          have up7 : w.heap.size ≤ g7 := f7.up l6
          have bl7 := f7.bel
          clear f7
          have r9_i := le_on r6_i bl7
          have r9_p := le_on n4 bl7
          have l9 := le_tr l6 bl7
          clear r6_i n4 l6
          clear bl7
          have c10 : V7.cell? ⟨g1, 0, none⟩ = some (.int .i64 h) := CB.cell r9_i 0
          go_wp2_with fail
          (with_reducible refine (G1 _).mono ?_)
          rintro e w11 ⟨rfl, b11⟩
          clear c10
          have r13_i := le_on r9_i b11
          have r13_p := le_on r9_p b11
          have r13_r := le_on n7 b11
          have l13 := le_tr l9 b11
          clear r9_i r9_p n7 l9
          clear b11
          have c14 : w11.cell? ⟨g4, 0, none⟩ = some (.int .i64 (p.seq)) := CB.cell r13_p 0
          go_wp2_with fail
          (with_reducible refine (G2 _).mono ?_)
          rintro e w15 ⟨rfl, b15⟩
          clear c14
          have r17_i := le_on r13_i b15
          have r17_p := le_on r13_p b15
          have r17_r := le_on r13_r b15
          have l17 := le_tr l13 b15
          clear r13_i r13_p r13_r l13
          clear b15
          have c18 : w15.cell? ⟨g4, 1, none⟩ = some (.string (p.tx)) := CB.cell r17_p 1
          go_wp2_with fail
          (with_reducible refine (F1 _).mono ?_)
          rintro e w19 ⟨rfl, b19⟩
          clear c18
          have r21_i := le_on r17_i b19
          have r21_p := le_on r17_p b19
          have r21_r := le_on r17_r b19
          have l21 := le_tr l17 b19
          clear r17_i r17_p r17_r l17
          clear b19
          have c22 : w19.cell? ⟨g1, 0, none⟩ = some (.int .i64 h) := CB.cell r21_i 0
          have c23 : w19.cell? ⟨g4, 0, none⟩ = some (.int .i64 (p.seq)) := CB.cell r21_p 0
          go_wp2_with (first | ((with_reducible refine st_load 66 _ g1 ?_ r21_i Try.underlying66 ?_ ?_ ?_); exact rfl; exact rfl; exact Try.zIn) | ((with_reducible refine st_store 66 _ _ g7 (hA h) ?_ ?_ r21_r ?_ ?_ ?_ ?_); exact rfl; exact rfl; exact Try.zIn; exact rfl; exact hA_one _))
          refine ⟨fun V24 n24 k24 => ?_⟩
          clear c22 c23
          have m24_i := k24.on r21_i ne7_i
          have m24_p := k24.on r21_p ne7_p
          have o24 := k24.bel _ _ l21 up7
          clear k24
          clear r21_r r21_i r21_p l21
          go_wp2_with fail
          exact bodyPost_ret (v := .tuple #[.agg (hA h), .string ByteArray.empty, .int .i64 7]) (res_ctt Try.results24 rfl rfl rfl n24 Try.underlying66 rfl Try.zIn) rfl (HPost.no HE.out (by decide) o24)
        have HE := Lib.hid (show eHea h p = 0 by unfold eHea; rw [if_neg (by omega), if_neg h4, if_neg h5])
        have q7 : decide (h < p.seq) = false := by simp; omega
        have q8 : decide (p.seq > h) = false := by simp; omega
        have q9 : IntKind.i64.wrap (h + 1) = h + 1 := IntWalk.i64_in _ (by omega)
        clear h1 h2 h3 h4 h5
        go_enter Try.func24, Try.ntmps24
        go_wp2_with (first | ((with_reducible refine st_box 66 _ (hA h) ?_ ?_); exact rfl))
        refine ⟨fun V1 g1 n1 f1 => ?_⟩
        have up1 : w.heap.size ≤ g1 := Nat.le_of_eq f1.at_
        have bl1 := f1.bel
        clear f1
        have l3 := le_tr (Below.refl _ _) bl1
        clear bl1
        go_wp2_with (first | ((with_reducible refine st_box 70 _ (pA p) ?_ ?_); exact rfl))
        refine ⟨fun V4 g4 n4 f4 => ?_⟩
        have ne4_i := f4.ne n1
        have up4 : w.heap.size ≤ g4 := f4.up l3
        have bl4 := f4.bel
        clear f4
        have r6_i := le_on n1 bl4
        have l6 := le_tr l3 bl4
        clear n1 l3
        clear bl4
        go_wp2_with (first | ((with_reducible refine st_alloc 66 (hA (0)) ?_ ?_); exact zero_in))
        refine ⟨fun V7 g7 n7 f7 => ?_⟩
        have ne7_i := f7.ne r6_i
        have ne7_p := f7.ne n4
        have up7 : w.heap.size ≤ g7 := f7.up l6
        have bl7 := f7.bel
        clear f7
        have r9_i := le_on r6_i bl7
        have r9_p := le_on n4 bl7
        have l9 := le_tr l6 bl7
        clear r6_i n4 l6
        clear bl7
        have c10 : V7.cell? ⟨g1, 0, none⟩ = some (.int .i64 h) := CB.cell r9_i 0
        go_wp2_with fail
        (with_reducible refine (G1 _).mono ?_)
        rintro e w11 ⟨rfl, b11⟩
        clear c10
        have r13_i := le_on r9_i b11
        have r13_p := le_on r9_p b11
        have r13_r := le_on n7 b11
        have l13 := le_tr l9 b11
        clear r9_i r9_p n7 l9
        clear b11
        have c14 : w11.cell? ⟨g4, 0, none⟩ = some (.int .i64 (p.seq)) := CB.cell r13_p 0
        go_wp2_with fail
        (with_reducible refine (G2 _).mono ?_)
        rintro e w15 ⟨rfl, b15⟩
        clear c14
        have r17_i := le_on r13_i b15
        have r17_p := le_on r13_p b15
        have r17_r := le_on r13_r b15
        have l17 := le_tr l13 b15
        clear r13_i r13_p r13_r l13
        clear b15
        have c18 : w15.cell? ⟨g4, 1, none⟩ = some (.string (p.tx)) := CB.cell r17_p 1
        go_wp2_with fail
        (with_reducible refine (F1 _).mono ?_)
        rintro e w19 ⟨rfl, b19⟩
        clear c18
        have r21_i := le_on r17_i b19
        have r21_p := le_on r17_p b19
        have r21_r := le_on r17_r b19
        have l21 := le_tr l17 b19
        clear r17_i r17_p r17_r l17
        clear b19
        have c22 : w19.cell? ⟨g1, 0, none⟩ = some (.int .i64 h) := CB.cell r21_i 0
        have c23 : w19.cell? ⟨g4, 0, none⟩ = some (.int .i64 (p.seq)) := CB.cell r21_p 0
        go_wp2_with fail
        clear c22 c23
        have y24 := Lib.hid (show (fun V : World => CB V g1 66 (hA h) ∧ CB V g4 70 (pA p)) w19.drew from ⟨CB.drew r21_i, CB.drew r21_p⟩)
        refine wp_region_held_drew (S := (fun V : World => CB V g1 66 (hA h) ∧ CB V g4 70 (pA p))) (by kernel_rfl) y24.out (fun hHeld => ?_)
        obtain ⟨D24, hD24⟩ : ∃ V, w19.drew = V := ⟨_, rfl⟩
        have b24 : Below w19.heap.size w19 D24 := by rw [← hD24]; exact le_dr (Below.refl _ _)
        rw [hD24] at hHeld ⊢
        clear hD24
        have r26_i := le_on r21_i b24
        have r26_p := le_on r21_p b24
        have r26_r := le_on r21_r b24
        have l26 := le_tr l21 b24
        clear r21_i r21_p r21_r l21
        clear b24
        refine wpAnyH_takeL (i := 0) (d := some 35) (v := .pointer (some ⟨g1, 0, none⟩)) rfl rfl (by kernel_rfl) (by kernel_rfl) (by kernel_rfl) (fun _ _ _ h => h) (Or.inl ⟨by rfl, ?_⟩) hHeld ?_
        · intro w hSw; (try dsimp only at hSw); go_simp
        try simp only [Act.put, List.setIfInBounds_toArray, List.set_cons_zero, List.set_cons_succ]
        refine wpAnyH_takeL (i := 1) (d := some 36) (v := .int .i64 h) rfl rfl (by kernel_rfl) (by kernel_rfl) (by kernel_rfl) (fun _ _ _ h => h) (Or.inl ⟨by rfl, ?_⟩) hHeld ?_
        · intro w hSw; (try dsimp only at hSw); have hcc : w.cell? ⟨g1, 0, none⟩ = some (.int .i64 h) := CB.cell hSw.1 0; go_simp
        try simp only [Act.put, List.setIfInBounds_toArray, List.set_cons_zero, List.set_cons_succ]
        refine wpAnyH_takeL (i := 2) (d := some 37) (v := .int .i64 (h + 1)) rfl rfl (by kernel_rfl) (by kernel_rfl) (by kernel_rfl) (fun _ _ _ h => h) (Or.inl ⟨by rfl, ?_⟩) hHeld ?_
        · intro w hSw; (try dsimp only at hSw); go_simp
        try simp only [Act.put, List.setIfInBounds_toArray, List.set_cons_zero, List.set_cons_succ]
        refine wpAnyH_takeL (i := 3) (d := some 38) (v := .agg (hA (h + 1))) rfl rfl (by kernel_rfl) (by kernel_rfl) (by kernel_rfl) (fun _ _ _ h => h) (Or.inl ⟨by rfl, ?_⟩) hHeld ?_
        · intro w hSw; exact yl_build1 66 _ _ _ _ rfl (built_i _)
        try simp only [Act.put, List.setIfInBounds_toArray, List.set_cons_zero, List.set_cons_succ]
        refine wpAnyH_takeL (i := 4) (d := some 39) (v := .pointer (some ⟨g4, 1, none⟩)) rfl rfl (by kernel_rfl) (by kernel_rfl) (by kernel_rfl) (fun _ _ _ h => h) (Or.inl ⟨by rfl, ?_⟩) hHeld ?_
        · intro w hSw; (try dsimp only at hSw); go_simp
        try simp only [Act.put, List.setIfInBounds_toArray, List.set_cons_zero, List.set_cons_succ]
        refine wpAnyH_takeL (i := 5) (d := some 40) (v := .string (p.tx)) rfl rfl (by kernel_rfl) (by kernel_rfl) (by kernel_rfl) (fun _ _ _ h => h) (Or.inl ⟨by rfl, ?_⟩) hHeld ?_
        · intro w hSw; (try dsimp only at hSw); have hcc : w.cell? ⟨g4, 1, none⟩ = some (.string (p.tx)) := CB.cell hSw.2 1; go_simp
        try simp only [Act.put, List.setIfInBounds_toArray, List.set_cons_zero, List.set_cons_succ]
        refine wpAnyH_ready (rs := [6]) (by kernel_rfl) (by simp) ?_
        refine AllReadyH.cons rfl (fun K hK => ?_) AllReadyH.nil
        refine rd_store rfl 66 _ _ rfl none rfl g7 (hA (h + 1)) rfl rfl r26_r Try.zIn rfl (hA_one _) ?_
        refine ⟨fun V27 n27 k27 => ?_⟩
        have m27_i := k27.on r26_i ne7_i
        have m27_p := k27.on r26_p ne7_p
        have o27 := k27.bel _ _ l26 up7
        clear k27
        clear r26_r r26_i r26_p l26
        have y28 := Lib.hid (show (fun V : World => CB V g1 66 (hA h) ∧ CB V g4 70 (pA p)) V27 from ⟨m27_i, m27_p⟩)
        refine hK.out _ _ y28.out (fun hHeld => ?_)
        clear hK K y28
        try simp only [Act.put, List.setIfInBounds_toArray, List.set_cons_zero, List.set_cons_succ]
        refine wpAnyH_takeL (i := 7) (d := some 5) (v := .string p.tx) rfl rfl (by kernel_rfl) (by kernel_rfl) (by kernel_rfl) (fun _ _ _ h => h) (Or.inl ⟨by rfl, ?_⟩) hHeld ?_
        · intro w hSw; (try dsimp only at hSw); go_simp
        try simp only [Act.put, List.setIfInBounds_toArray, List.set_cons_zero, List.set_cons_succ]
        refine wpAnyH_takeL (i := 8) (d := some 6) (v := .int .i64 0) rfl rfl (by kernel_rfl) (by kernel_rfl) (by kernel_rfl) (fun _ _ _ h => h) (Or.inl ⟨by rfl, ?_⟩) hHeld ?_
        · intro w hSw; (try dsimp only at hSw); go_simp
        try simp only [Act.put, List.setIfInBounds_toArray, List.set_cons_zero, List.set_cons_succ]
        refine wpAnyH_done (by kernel_rfl) ?_ _
        go_wp2_with fail
        exact bodyPost_ret (v := .tuple #[.agg (hA (h + 1)), .string p.tx, .int .i64 0]) (res_ctt Try.results24 rfl rfl rfl n27 Try.underlying66 rfl Try.zIn) rfl (HPost.yes HE.out o27)
      have HE := Lib.hid (show eHea h p = 2 by unfold eHea; rw [if_pos (by omega)])
      rw [show decide (p.tx.size ≤ 500) = false by simp; omega] at F1
      clear h1 h2 h3
      go_enter Try.func24, Try.ntmps24
      go_wp2_with (first | ((with_reducible refine st_box 66 _ (hA h) ?_ ?_); exact rfl))
      refine ⟨fun V1 g1 n1 f1 => ?_⟩
      have up1 : w.heap.size ≤ g1 := Nat.le_of_eq f1.at_
      have bl1 := f1.bel
      clear f1
      have l3 := le_tr (Below.refl _ _) bl1
      clear bl1
      go_wp2_with (first | ((with_reducible refine st_box 70 _ (pA p) ?_ ?_); exact rfl))
      refine ⟨fun V4 g4 n4 f4 => ?_⟩
      have ne4_i := f4.ne n1
      have up4 : w.heap.size ≤ g4 := f4.up l3
      have bl4 := f4.bel
      clear f4
      have r6_i := le_on n1 bl4
      have l6 := le_tr l3 bl4
      clear n1 l3
      clear bl4
      go_wp2_with (first | ((with_reducible refine st_alloc 66 (hA (0)) ?_ ?_); exact zero_in))
      refine ⟨fun V7 g7 n7 f7 => ?_⟩
      have ne7_i := f7.ne r6_i
      have ne7_p := f7.ne n4
      have up7 : w.heap.size ≤ g7 := f7.up l6
      have bl7 := f7.bel
      clear f7
      have r9_i := le_on r6_i bl7
      have r9_p := le_on n4 bl7
      have l9 := le_tr l6 bl7
      clear r6_i n4 l6
      clear bl7
      have c10 : V7.cell? ⟨g1, 0, none⟩ = some (.int .i64 h) := CB.cell r9_i 0
      go_wp2_with fail
      (with_reducible refine (G1 _).mono ?_)
      rintro e w11 ⟨rfl, b11⟩
      clear c10
      have r13_i := le_on r9_i b11
      have r13_p := le_on r9_p b11
      have r13_r := le_on n7 b11
      have l13 := le_tr l9 b11
      clear r9_i r9_p n7 l9
      clear b11
      have c14 : w11.cell? ⟨g4, 0, none⟩ = some (.int .i64 (p.seq)) := CB.cell r13_p 0
      go_wp2_with fail
      (with_reducible refine (G2 _).mono ?_)
      rintro e w15 ⟨rfl, b15⟩
      clear c14
      have r17_i := le_on r13_i b15
      have r17_p := le_on r13_p b15
      have r17_r := le_on r13_r b15
      have l17 := le_tr l13 b15
      clear r13_i r13_p r13_r l13
      clear b15
      have c18 : w15.cell? ⟨g4, 1, none⟩ = some (.string (p.tx)) := CB.cell r17_p 1
      go_wp2_with fail
      (with_reducible refine (F1 _).mono ?_)
      rintro e w19 ⟨rfl, b19⟩
      clear c18
      have r21_i := le_on r17_i b19
      have r21_p := le_on r17_p b19
      have r21_r := le_on r17_r b19
      have l21 := le_tr l17 b19
      clear r17_i r17_p r17_r l17
      clear b19
      go_wp2_with (first | ((with_reducible refine st_load 66 _ g1 ?_ r21_i Try.underlying66 ?_ ?_ ?_); exact rfl; exact rfl; exact Try.zIn) | ((with_reducible refine st_store 66 _ _ g7 (hA h) ?_ ?_ r21_r ?_ ?_ ?_ ?_); exact rfl; exact rfl; exact Try.zIn; exact rfl; exact hA_one _))
      refine ⟨fun V22 n22 k22 => ?_⟩
      have m22_i := k22.on r21_i ne7_i
      have m22_p := k22.on r21_p ne7_p
      have o22 := k22.bel _ _ l21 up7
      clear k22
      clear r21_r r21_i r21_p l21
      go_wp2_with fail
      exact bodyPost_ret (v := .tuple #[.agg (hA h), .string ByteArray.empty, .int .i64 2]) (res_ctt Try.results24 rfl rfl rfl n22 Try.underlying66 rfl Try.zIn) rfl (HPost.no HE.out (by decide) o22)
    have HE := Lib.hid (show eHea h p = 2 by unfold eHea; rw [if_pos (by omega)])
    rw [show decide (0 ≤ p.seq ∧ p.seq ≤ 1048576) = false by simp; omega] at G2
    clear h1 h2
    go_enter Try.func24, Try.ntmps24
    go_wp2_with (first | ((with_reducible refine st_box 66 _ (hA h) ?_ ?_); exact rfl))
    refine ⟨fun V1 g1 n1 f1 => ?_⟩
    have up1 : w.heap.size ≤ g1 := Nat.le_of_eq f1.at_
    have bl1 := f1.bel
    clear f1
    have l3 := le_tr (Below.refl _ _) bl1
    clear bl1
    go_wp2_with (first | ((with_reducible refine st_box 70 _ (pA p) ?_ ?_); exact rfl))
    refine ⟨fun V4 g4 n4 f4 => ?_⟩
    have ne4_i := f4.ne n1
    have up4 : w.heap.size ≤ g4 := f4.up l3
    have bl4 := f4.bel
    clear f4
    have r6_i := le_on n1 bl4
    have l6 := le_tr l3 bl4
    clear n1 l3
    clear bl4
    go_wp2_with (first | ((with_reducible refine st_alloc 66 (hA (0)) ?_ ?_); exact zero_in))
    refine ⟨fun V7 g7 n7 f7 => ?_⟩
    have ne7_i := f7.ne r6_i
    have ne7_p := f7.ne n4
    have up7 : w.heap.size ≤ g7 := f7.up l6
    have bl7 := f7.bel
    clear f7
    have r9_i := le_on r6_i bl7
    have r9_p := le_on n4 bl7
    have l9 := le_tr l6 bl7
    clear r6_i n4 l6
    clear bl7
    have c10 : V7.cell? ⟨g1, 0, none⟩ = some (.int .i64 h) := CB.cell r9_i 0
    go_wp2_with fail
    (with_reducible refine (G1 _).mono ?_)
    rintro e w11 ⟨rfl, b11⟩
    clear c10
    have r13_i := le_on r9_i b11
    have r13_p := le_on r9_p b11
    have r13_r := le_on n7 b11
    have l13 := le_tr l9 b11
    clear r9_i r9_p n7 l9
    clear b11
    have c14 : w11.cell? ⟨g4, 0, none⟩ = some (.int .i64 (p.seq)) := CB.cell r13_p 0
    go_wp2_with fail
    (with_reducible refine (G2 _).mono ?_)
    rintro e w15 ⟨rfl, b15⟩
    clear c14
    have r17_i := le_on r13_i b15
    have r17_p := le_on r13_p b15
    have r17_r := le_on r13_r b15
    have l17 := le_tr l13 b15
    clear r13_i r13_p r13_r l13
    clear b15
    go_wp2_with (first | ((with_reducible refine st_load 66 _ g1 ?_ r17_i Try.underlying66 ?_ ?_ ?_); exact rfl; exact rfl; exact Try.zIn) | ((with_reducible refine st_store 66 _ _ g7 (hA h) ?_ ?_ r17_r ?_ ?_ ?_ ?_); exact rfl; exact rfl; exact Try.zIn; exact rfl; exact hA_one _))
    refine ⟨fun V18 n18 k18 => ?_⟩
    have m18_i := k18.on r17_i ne7_i
    have m18_p := k18.on r17_p ne7_p
    have o18 := k18.bel _ _ l17 up7
    clear k18
    clear r17_r r17_i r17_p l17
    go_wp2_with fail
    exact bodyPost_ret (v := .tuple #[.agg (hA h), .string ByteArray.empty, .int .i64 2]) (res_ctt Try.results24 rfl rfl rfl n18 Try.underlying66 rfl Try.zIn) rfl (HPost.no HE.out (by decide) o18)
  have HE := Lib.hid (show eHea h p = 2 by unfold eHea; rw [if_pos (by omega)])
  rw [show decide (0 ≤ h ∧ h ≤ 1048576) = false by simp; omega] at G1
  clear h1
  go_enter Try.func24, Try.ntmps24
  go_wp2_with (first | ((with_reducible refine st_box 66 _ (hA h) ?_ ?_); exact rfl))
  refine ⟨fun V1 g1 n1 f1 => ?_⟩
  have up1 : w.heap.size ≤ g1 := Nat.le_of_eq f1.at_
  have bl1 := f1.bel
  clear f1
  have l3 := le_tr (Below.refl _ _) bl1
  clear bl1
  go_wp2_with (first | ((with_reducible refine st_box 70 _ (pA p) ?_ ?_); exact rfl))
  refine ⟨fun V4 g4 n4 f4 => ?_⟩
  have ne4_i := f4.ne n1
  have up4 : w.heap.size ≤ g4 := f4.up l3
  have bl4 := f4.bel
  clear f4
  have r6_i := le_on n1 bl4
  have l6 := le_tr l3 bl4
  clear n1 l3
  clear bl4
  go_wp2_with (first | ((with_reducible refine st_alloc 66 (hA (0)) ?_ ?_); exact zero_in))
  refine ⟨fun V7 g7 n7 f7 => ?_⟩
  have ne7_i := f7.ne r6_i
  have ne7_p := f7.ne n4
  have up7 : w.heap.size ≤ g7 := f7.up l6
  have bl7 := f7.bel
  clear f7
  have r9_i := le_on r6_i bl7
  have r9_p := le_on n4 bl7
  have l9 := le_tr l6 bl7
  clear r6_i n4 l6
  clear bl7
  have c10 : V7.cell? ⟨g1, 0, none⟩ = some (.int .i64 h) := CB.cell r9_i 0
  go_wp2_with fail
  (with_reducible refine (G1 _).mono ?_)
  rintro e w11 ⟨rfl, b11⟩
  clear c10
  have r13_i := le_on r9_i b11
  have r13_p := le_on r9_p b11
  have r13_r := le_on n7 b11
  have l13 := le_tr l9 b11
  clear r9_i r9_p n7 l9
  clear b11
  go_wp2_with (first | ((with_reducible refine st_load 66 _ g1 ?_ r13_i Try.underlying66 ?_ ?_ ?_); exact rfl; exact rfl; exact Try.zIn) | ((with_reducible refine st_store 66 _ _ g7 (hA h) ?_ ?_ r13_r ?_ ?_ ?_ ?_); exact rfl; exact rfl; exact Try.zIn; exact rfl; exact hA_one _))
  refine ⟨fun V14 n14 k14 => ?_⟩
  have m14_i := k14.on r13_i ne7_i
  have m14_p := k14.on r13_p ne7_p
  have o14 := k14.bel _ _ l13 up7
  clear k14
  clear r13_r r13_i r13_p l13
  go_wp2_with fail
  exact bodyPost_ret (v := .tuple #[.agg (hA h), .string ByteArray.empty, .int .i64 2]) (res_ctt Try.results24 rfl rfl rfl n14 Try.underlying66 rfl Try.zIn) rfl (HPost.no HE.out (by decide) o14)
end Go.Proofs.Ytcfdfimkgehdfaa
