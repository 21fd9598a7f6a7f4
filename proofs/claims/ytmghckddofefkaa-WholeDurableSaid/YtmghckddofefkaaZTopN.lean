/-
  works of waystationtop: it returns true. No condition.
-/
import Derived.Test.YtmghckddofefkaaZTopA
import Derived.Test.YtmghckddofefkaaRow
import Derived.Test.YtmghckddofefkaaLeA
set_option linter.unusedVariables false
set_option linter.unusedSimpArgs false
namespace Go.Proofs.Ytmghckddofefkaa
open Go.RowKit

set_option maxRecDepth 100000 in
set_option maxHeartbeats 1000000 in
theorem sitenew_c (w : World) : Calls Try.prog 56 #[] w fun e w' => ∃ b, e = .returned (.pointer (some ⟨b, 0, none⟩)) ∧ Below w.heap.size w w' := by
  obtain ⟨W, hW⟩ : ∃ W, w.alloc (.map #[] 0) = W := ⟨_, rfl⟩
  have hb : Below w.heap.size w W := by rw [← hW]; exact le_al _ _
  obtain ⟨V, hV⟩ : ∃ V, W.alloc (.cells #[.slice none 0 0, .slice none 0 0, .map (some w.heap.size), .slice none 0 0] 146) = V := ⟨_, rfl⟩
  have hb2 : Below W.heap.size W V := by rw [← hV]; exact le_al _ _
  have e1 : W.heap.size = w.heap.size + 1 := by rw [← hW]; simp
  have H := Lib.hid (le_tr hb hb2)
  have hmk : (Instr.makeMap 139 none).run Try.prog w = .ok (.map (some w.heap.size)) (w.alloc (.map #[] 0)) := run_makeMap _ w
  have HW := Lib.hid hW
  have HV := Lib.hid hV
  clear hW hV hb hb2 e1
  go_enter Try.func56, Try.ntmps56
  go_wp2_with fail
  rw [HW.out, HV.out]
  go_wp2_with fail
  go_ret
  exact ⟨_, rfl, H.out⟩

set_option maxRecDepth 100000 in
set_option maxHeartbeats 2000000 in
theorem works_c (w : World) : Calls Try.prog 26 #[] w fun e w' => e = .returned (.bool true) ∧ Below w.heap.size w w' := by
  have hf : Dk.Fit 3 300 3 (-5) := ⟨by omega, by omega, by omega, by omega⟩
  obtain ⟨rb, hrb⟩ : ∃ l, Dk.encR 3 300 3 (-5) = l := ⟨_, rfl⟩
  have hlen : rb.length = 12 := by rw [← hrb]; exact Dk.encR_len _ _ _ _
  obtain ⟨W, hW⟩ : ∃ W, w.alloc (.cells #[.int .i64 3, .int .i64 300, .int .u8 3, .int .i64 (-5)] 93) = W := ⟨_, rfl⟩
  have cW : CB W w.heap.size 93 #[.int .i64 3, .int .i64 300, .int .u8 3, .int .i64 (-5)] := by rw [← hW]; exact CB.new _ _ _
  have bW : Below w.heap.size w W := by rw [← hW]; exact belA _ _
  have HW := Lib.hid hW
  have hby := Dk.bytes_c 3 300 3 (-5) W hf
  rw [hrb] at hby
  have Hq := Lib.hid (fun (U : World) (hb : Below W.heap.size W U) => show U.cell? ⟨w.heap.size, 0, none⟩ = some (.int .i64 3) ∧ U.cell? ⟨w.heap.size, 1, none⟩ = some (.int .i64 300) ∧ U.cell? ⟨w.heap.size, 2, none⟩ = some (.int .u8 3) ∧ U.cell? ⟨w.heap.size, 3, none⟩ = some (.int .i64 (-5)) from ⟨(le_on cW hb).cell 0, (le_on cW hb).cell 1, (le_on cW hb).cell 2, (le_on cW hb).cell 3⟩)
  obtain ⟨q0, q1, q2, q3⟩ := Hq.out W (Below.refl _ _)
  have Hrb := Lib.hid hrb
  clear hW cW hrb
  go_enter Try.func26, Try.ntmps26
  go_upto_region 2 with fail
  rw [HW.out]
  go_wp2_with fail
  (with_reducible refine hby.mono ?_)
  rintro e w1 ⟨A1, n1, c1, G1, rfl, hsg, b1⟩
  have hb1 := Dk.BR.of_seg hsg
  have e0 : Dk.eA 0 1000 rb = 0 := Dk.eA_ok (by omega) (by omega)
  have e1 : Dk.bA 1000 [] rb = Dk.frameB rb := by
    rw [Dk.bA_ok (show Dk.eA ([] : List UInt8).length 1000 rb = 0 from e0)]
    rfl
  have hap : Calls Try.prog 51 #[.agg #[.slice none 0 0, .int .i64 0, .int .i64 1000], .slice A1 n1 c1] w1 (Dk.TPostF w1 0 1000 (Dk.frameB rb) 0) := by
    have h := Dk.append_f none 0 0 1000 0 [] A1 n1 c1 rb w1 (Dk.BR.nil _ _) hb1 (by omega) (by omega)
    rw [e0, e1] at h
    exact h
  have l1 := Lib.hid (bel2 bW b1)
  have b1h := Lib.hid b1
  clear hby hsg b1 e0 e1
  go_wp2_with fail
  (with_reducible refine hap.mono ?_)
  rintro e w2 ⟨A2, n2, c2, rfl, hb2, b2, _⟩
  have hl2 : n2 ≤ 100 := by
    have h1 := hb2.1
    simp [Dk.frameB, Dk.headB, Dk.num_length] at h1
    omega
  obtain ⟨X, hX⟩ : ∃ V, w2.alloc (.cells #[.slice A2 n2 c2, .int .i64 0, .int .i64 1000] 96) = V := ⟨_, rfl⟩
  have cX : CB X w2.heap.size 96 #[.slice A2 n2 c2, .int .i64 0, .int .i64 1000] := by rw [← hX]; exact CB.new _ _ _
  have bX : Below w2.heap.size w2 X := by rw [← hX]; exact belA _ _
  have lX := Lib.hid (bel2 (bel2 b1h.out b2) bX)
  have hbX := Dk.BR.on hb2 bX
  obtain ⟨s0, s1, s2⟩ : X.cell? ⟨w2.heap.size, 0, none⟩ = some (.slice A2 n2 c2) ∧ X.cell? ⟨w2.heap.size, 1, none⟩ = some (.int .i64 0) ∧ X.cell? ⟨w2.heap.size, 2, none⟩ = some (.int .i64 1000) := ⟨cX.cell 0, cX.cell 1, cX.cell 2⟩
  have hsy : Calls Try.prog 54 #[.agg #[.slice A2 n2 c2, .int .i64 0, .int .i64 1000]] X (Dk.DPost X n2 n2 1000 (Dk.frameB rb)) := Dk.sync_d A2 n2 c2 0 1000 _ X hbX (by omega)
  have hlf := hb2.1
  have HX := Lib.hid hX
  clear hap hX bX hb2 b2 hbX cX q0 q1 q2 q3
  go_upto_region 4 with fail
  rw [HX.out]
  go_wp2_with fail
  (with_reducible refine hsy.mono ?_)
  rintro e w3 ⟨A3, c3, rfl, hb3, b3⟩
  have hcr : Calls Try.prog 53 #[.agg #[.slice A3 n2 c3, .int .i64 n2, .int .i64 1000], .int .u16 0] w3 (Dk.DPost w3 n2 n2 1000 (Dk.frameB rb)) := by
    have h := Dk.crash_d A3 n2 c3 n2 0 1000 (Dk.frameB rb) w3 hb3 (by omega) (Nat.le_refl _) (by omega)
    rw [show Dk.kC n2 n2 0 = n2 by simp [Dk.kC], List.take_of_length_le (by omega)] at h
    exact h
  have l3 := Lib.hid (bel2 lX.out b3)
  clear hsy b3 hb3 s0 s1 s2
  go_wp2_with fail
  (with_reducible refine hcr.mono ?_)
  rintro e w4 ⟨A4, c4, rfl, hb4, b4⟩
  have hrc := (Dk.records_d A4 n2 c4 n2 1000 (Dk.frameB rb) w4 hb4 (by omega)).mono (fun _ _ h => h.toA)
  have ha := (Dk.aC_all (ls := [rb]) (by intro l hl; simp at hl; subst hl; omega)).1
  rw [show Dk.frs [rb] = Dk.frameB rb by simp [Dk.frs]] at ha
  have l4 := Lib.hid (bel2 l3.out b4)
  clear hcr b4 hb4
  go_wp2_with fail
  (with_reducible refine hrc.mono ?_)
  rintro e w5 ⟨A5, n5, c5, rfl, hl5, b5⟩
  rw [ha] at hl5
  obtain rfl : n5 = 1 := hl5.1.symm
  obtain ⟨g, off, A', n', c', l, rfl, hl, v0, hbr⟩ := hl5.at_ (i := 0) (by omega)
  obtain rfl : l = rb := by have := hl.out; simp at this; exact this.symm
  have hre := Dk.record_c A' n' c' 3 300 3 (-5) w5 hf (by rw [Hrb.out]; exact hbr)
  have l5 := Lib.hid (bel2 l4.out b5)
  clear hrc b5 hl5 hl ha hbr
  rw [Nat.add_zero] at v0
  go_wp2_with fail
  (with_reducible refine hre.mono ?_)
  rintro e w6 ⟨rfl, b6⟩
  obtain ⟨Y, hY⟩ : ∃ V, w6.alloc (.cells #[.int .i64 3, .int .i64 300, .int .u8 3, .int .i64 (-5)] 93) = V := ⟨_, rfl⟩
  have cY : CB Y w6.heap.size 93 #[.int .i64 3, .int .i64 300, .int .u8 3, .int .i64 (-5)] := by rw [← hY]; exact CB.new _ _ _
  have bY : Below w6.heap.size w6 Y := by rw [← hY]; exact belA _ _
  have lY := Lib.hid (bel2 (bel2 l5.out b6) bY)
  have HY := Lib.hid hY
  clear hre b6 hY bY v0
  go_upto_region 8 with fail
  rw [HY.out]
  go_wp2_with fail
  (with_reducible refine (sitenew_c Y).mono ?_)
  rintro e w7 ⟨b, rfl, b7⟩
  have l7 := Lib.hid (bel2 lY.out b7)
  obtain ⟨o0, o1, o2, o3⟩ : w7.cell? ⟨w6.heap.size, 0, none⟩ = some (.int .i64 3) ∧ w7.cell? ⟨w6.heap.size, 1, none⟩ = some (.int .i64 300) ∧ w7.cell? ⟨w6.heap.size, 2, none⟩ = some (.int .u8 3) ∧ w7.cell? ⟨w6.heap.size, 3, none⟩ = some (.int .i64 (-5)) := ⟨(le_on cY b7).cell 0, (le_on cY b7).cell 1, (le_on cY b7).cell 2, (le_on cY b7).cell 3⟩
  obtain ⟨q0, q1, q2, q3⟩ := Hq.out w7 l7.out
  clear b7 cY
  go_wp2_with fail
  go_ret
  exact ⟨rfl, bel2 bW l7.out⟩
end Go.Proofs.Ytmghckddofefkaa
