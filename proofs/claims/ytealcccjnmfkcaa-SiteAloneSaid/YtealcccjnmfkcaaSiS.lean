/-
  The walk of SiteAlone: it returns true. Condition: the calls can be read, the numbers such as their types hold.
-/
import Derived.Test.YtealcccjnmfkcaaSiJ
import Derived.RegionTactic
import Derived.BigQuiet
set_option linter.unusedVariables false
set_option linter.unusedSimpArgs false
namespace Go.Proofs.Ytealcccjnmfkcaa
open Go.RowKit

set_option maxRecDepth 100000 in
set_option maxHeartbeats 4000000 in
theorem alone_walk (A : Option Addr) (n c : Nat) (L : List Rc) (k0 k1 k2 : Int) (w : World) (h : KR w A n c L) (hr : ∀ r ∈ L, RcOk r) (hk0 : 0 ≤ k0 ∧ k0 ≤ 255) (hk1 : 0 ≤ k1 ∧ k1 ≤ 255) (hk2 : 0 ≤ k2 ∧ k2 ≤ 255) :
    Calls Try.prog 9 #[.slice A n c, .agg #[.int .u8 k0, .int .u8 k1, .int .u8 k2]] w fun e w' => e = .returned (.bool true) ∧ Below w.heap.size w w' := by
  obtain ⟨W, hW⟩ : ∃ W, w.alloc (.cells #[.int .u8 k0, .int .u8 k1, .int .u8 k2] 66) = W := ⟨_, rfl⟩
  have aW : CB W w.heap.size 66 #[.int .u8 k0, .int .u8 k1, .int .u8 k2] := by rw [← hW]; exact CB.new _ _ _
  have bW : Below w.heap.size w W := by rw [← hW]; exact belA _ _
  have HW := Lib.hid hW
  clear hW
  have e0 : wrap64 k0 = k0 := IntWalk.wrap64_in _ (by omega)
  have e1 : wrap64 k1 = k1 := IntWalk.wrap64_in _ (by omega)
  have e2 : wrap64 k2 = k2 := IntWalk.wrap64_in _ (by omega)
  go_enter Try.func9, Try.ntmps9
  go_upto_region 1 with fail
  rw [HW.out]
  go_wp2_with fail
  (with_reducible refine (alive_c W).mono ?_)
  rintro e w1 ⟨rfl, b1⟩
  have hB1 := bel2 bW b1
  have hp := played_c A n c L w1 (h.on hB1) hr
  go_wp2_with fail
  (with_reducible refine hp.mono ?_)
  rintro e w2 ⟨b, m, G, rfl, hst⟩
  have a2 := (aW.on b1).on hst.low
  have HB1 := Lib.hid hB1
  have hK : (logs si0 (L.take 120)).length ≤ 120 := by have := logs_len si0 (L.take 120); rw [List.length_take] at this; omega
  generalize plays si0 (L.take 120) = S at *
  generalize logs si0 (L.take 120) = K at *
  clear hp aW bW b1 hB1
  have q0 := a2.cell 0
  have q1 := a2.cell 1
  have q2 := a2.cell 2
  simp only [List.getElem?_toArray, List.getElem?_cons_zero, List.getElem?_cons_succ] at q0 q1 q2
  have okA : RcOk ⟨3, k0, k2, 1⟩ := ⟨by show (-9223372036854775808 : Int) ≤ 3 ∧ (3 : Int) ≤ 9223372036854775807; omega, by show (-9223372036854775808 : Int) ≤ k0 ∧ (k0 : Int) ≤ 9223372036854775807; omega, by show (0 : Int) ≤ k2 ∧ (k2 : Int) ≤ 255; omega, by show (-9223372036854775808 : Int) ≤ 1 ∧ (1 : Int) ≤ 9223372036854775807; omega⟩
  have okB : RcOk ⟨2, k1, k2, 0⟩ := ⟨by show (-9223372036854775808 : Int) ≤ 2 ∧ (2 : Int) ≤ 9223372036854775807; omega, by show (-9223372036854775808 : Int) ≤ k1 ∧ (k1 : Int) ≤ 9223372036854775807; omega, by show (0 : Int) ≤ k2 ∧ (k2 : Int) ≤ 255; omega, by show (-9223372036854775808 : Int) ≤ 0 ∧ (0 : Int) ≤ 9223372036854775807; omega⟩
  have okC : RcOk ⟨3, k1, k2, 1⟩ := ⟨by show (-9223372036854775808 : Int) ≤ 3 ∧ (3 : Int) ≤ 9223372036854775807; omega, by show (-9223372036854775808 : Int) ≤ k1 ∧ (k1 : Int) ≤ 9223372036854775807; omega, by show (0 : Int) ≤ k2 ∧ (k2 : Int) ≤ 255; omega, by show (-9223372036854775808 : Int) ≤ 1 ∧ (1 : Int) ≤ 9223372036854775807; omega⟩
  have okD : RcOk ⟨6, k0, 0, 2⟩ := ⟨by show (-9223372036854775808 : Int) ≤ 6 ∧ (6 : Int) ≤ 9223372036854775807; omega, by show (-9223372036854775808 : Int) ≤ k0 ∧ (k0 : Int) ≤ 9223372036854775807; omega, by show (0 : Int) ≤ 0 ∧ (0 : Int) ≤ 255; omega, by show (-9223372036854775808 : Int) ≤ 2 ∧ (2 : Int) ≤ 9223372036854775807; omega⟩
  have Hlaw := Lib.hid (fun p q (ha : fnd S.pts k0 = some p) (hb : fnd S.pts k1 = some q) hab hp hq => alone_law (k := k2) hst.sr.good.inv ha hb hab hp hq)
  have hst := hst.drew
  go_upto_region 6 with fail
  go_region
  clear q0 q1 q2 a2
  have hpt := spart_c b m G S K k0 w2.drew hst.sr (by omega)
  obtain ⟨p0', hp0⟩ : ∃ p, (fnd S.pts k0).getD p0 = p := ⟨_, rfl⟩
  obtain ⟨is0, hi0⟩ : ∃ b, (fnd S.pts k0).isSome = b := ⟨_, rfl⟩
  rw [hp0, hi0] at hpt
  have Hp0 := Lib.hid hp0
  have Hi0 := Lib.hid hi0
  clear hp0 hi0
  go_wp2_with fail
  (with_reducible refine hpt.mono ?_)
  rintro e y0 ⟨A0, n0, c0, rfl, _, d0, _⟩
  obtain ⟨P, hP⟩ : ∃ V, y0.alloc (.cells #[.int .i64 p0'.st, .slice A0 n0 c0, .bool p0'.lo, .int .i64 p0'.ou] 40) = V := ⟨_, rfl⟩
  have oP : PB P y0.heap.size 40 p0'.st A0 n0 c0 p0'.lo p0'.ou := by rw [← hP]; exact PB.new _ _ _ _ _ _ _ _
  have bP : Below y0.heap.size y0 P := by rw [← hP]; exact belA _ _
  have sP := (hst.onw d0).onw bP
  have HP := Lib.hid hP
  clear hP hpt hst
  clear d0 bP
  go_upto_region 8 with fail
  rw [HP.out]
  have hpt := spart_c b m G S K k1 P sP.sr (by omega)
  obtain ⟨p1', hp1⟩ : ∃ p, (fnd S.pts k1).getD p0 = p := ⟨_, rfl⟩
  obtain ⟨is1, hi1⟩ : ∃ b, (fnd S.pts k1).isSome = b := ⟨_, rfl⟩
  rw [hp1, hi1] at hpt
  have Hp1 := Lib.hid hp1
  have Hi1 := Lib.hid hi1
  clear hp1 hi1
  go_wp2_with fail
  (with_reducible refine hpt.mono ?_)
  rintro e y1 ⟨A1, n1, c1, rfl, _, d1, _⟩
  obtain ⟨Q, hQ⟩ : ∃ V, y1.alloc (.cells #[.int .i64 p1'.st, .slice A1 n1 c1, .bool p1'.lo, .int .i64 p1'.ou] 40) = V := ⟨_, rfl⟩
  have oQ : PB Q y1.heap.size 40 p1'.st A1 n1 c1 p1'.lo p1'.ou := by rw [← hQ]; exact PB.new _ _ _ _ _ _ _ _
  have bQ : Below y1.heap.size y1 Q := by rw [← hQ]; exact belA _ _
  have sQ := (sP.onw d1).onw bQ
  have HQ := Lib.hid hQ
  clear hQ hpt sP
  have oP := (oP.on d1).on bQ
  clear d1 bQ
  go_upto_region 9 with fail
  rw [HQ.out]
  obtain ⟨o0, _, _, _⟩ := oP.cells
  obtain ⟨u0, _, _, _⟩ := oQ.cells
  have hz := sQ.low
  have Hz := Lib.hid (bel2 HB1.out hz)
  clear hz oP oQ
  cases is0 with
  | false =>
    go_wp2_with fail
    go_ret
    exact ⟨rfl, Hz.out⟩
  | true =>
    cases is1 with
    | false =>
      go_wp2_with fail
      go_ret
      exact ⟨rfl, Hz.out⟩
    | true =>
      by_cases hab : k0 = k1
      · have hab1 : (k0 == k1) = true := by simp [hab]
        clear hab
        go_wp2_with fail
        go_ret
        exact ⟨rfl, Hz.out⟩
      have hab1 : (k0 == k1) = false := by simp [hab]
      have Hab := Lib.hid hab
      clear hab
      by_cases hs0 : p0'.st = 0
      rotate_left
      · have hs1 : (p0'.st != 0) = true := by simp [hs0]
        clear hs0
        go_wp2_with fail
        go_ret
        exact ⟨rfl, Hz.out⟩
      have hs1 : (p0'.st != 0) = false := by simp [hs0]
      have Hs0 := Lib.hid hs0
      clear hs0
      by_cases hs0 : p1'.st = 0
      rotate_left
      · have hs2 : (p1'.st != 0) = true := by simp [hs0]
        clear hs0
        go_wp2_with fail
        go_ret
        exact ⟨rfl, Hz.out⟩
      have hs2 : (p1'.st != 0) = false := by simp [hs0]
      have Hs1 := Lib.hid hs0
      clear hs0
      have Hl := Lib.hid (Hlaw.out p0' p1' (by
        have h1 := Hp0.out
        have h2 := Hi0.out
        cases hf : fnd S.pts k0 with
        | none => rw [hf] at h2; cases h2
        | some p => rw [hf] at h1; rw [← h1]; rfl) (by
        have h1 := Hp1.out
        have h2 := Hi1.out
        cases hf : fnd S.pts k1 with
        | none => rw [hf] at h2; cases h2
        | some p => rw [hf] at h1; rw [← h1]; rfl) Hab.out Hs0.out Hs1.out)
      clear Hlaw Hab Hp0 Hi0 Hp1 Hi1 Hs0 Hs1
      have hdo := do_c b m G S K ⟨3, k0, k2, 1⟩ Q sQ.sr okA (by omega)
      go_wp2_with fail
      (with_reducible refine hdo.mono ?_)
      intro e x1 hp
      obtain ⟨rfl, G1, sx1, hk, _, hz1⟩ := sQ.done hp (Nat.le_refl _)
      clear hp hdo hk hz1 sQ
      have Hz := Lib.hid (bel2 HB1.out sx1.low)
      by_cases he : eDo S ⟨3, k0, k2, 1⟩ = 0
      rotate_left
      · have he1 : (eDo S ⟨3, k0, k2, 1⟩ != 0) = true := by simp [he]
        clear he
        go_wp2_with fail
        go_ret
        exact ⟨rfl, Hz.out⟩
      have he1 : (eDo S ⟨3, k0, k2, 1⟩ != 0) = false := by simp [he]
      obtain ⟨L1, L2, L3, L4⟩ := Hl.out he
      rw [if_pos he] at sx1
      clear Hl he
      generalize sDo S ⟨3, k0, k2, 1⟩ = S1 at *
      generalize nDo S ⟨3, k0, k2, 1⟩ = x0 at *
      generalize eDo S ⟨3, k0, k2, 1⟩ = e9 at *
      have hK1 : (K ++ [(⟨3, k0, k2, 1⟩ : Rc)]).length ≤ 121 := by simp; omega
      generalize K ++ [(⟨3, k0, k2, 1⟩ : Rc)] = K1 at *
      have M1 := Lib.hid L1
      have M2 := Lib.hid L2
      have M3 := Lib.hid L3
      have M4 := Lib.hid L4
      clear L1 L2 L3 L4
      have hdo := do_c b m G1 S1 K1 ⟨2, k1, k2, 0⟩ x1 sx1.sr okB (by omega)
      go_wp2_with fail
      (with_reducible refine hdo.mono ?_)
      intro e x2 hp
      obtain ⟨rfl, G2, sx2, hk, _, hz2⟩ := sx1.done hp (Nat.le_refl _)
      clear hp hdo hk hz2 sx1
      rw [if_neg (by rw [M1.out]; omega), sDo_err (by rw [M1.out]; omega)] at sx2
      rw [M1.out, nDo_err (by rw [M1.out]; omega)]
      have hdo := do_c b m G2 S1 K1 ⟨3, k1, k2, 1⟩ x2 sx2.sr okC (by omega)
      go_wp2_with fail
      (with_reducible refine hdo.mono ?_)
      intro e x3 hp
      obtain ⟨rfl, G3, sx3, hk, _, hz3⟩ := sx2.done hp (Nat.le_refl _)
      clear hp hdo hk hz3 sx2
      rw [if_neg (by rw [M2.out]; omega), sDo_err (by rw [M2.out]; omega)] at sx3
      rw [M2.out, nDo_err (by rw [M2.out]; omega)]
      have hdo := do_c b m G3 S1 K1 ⟨6, k0, 0, 2⟩ x3 sx3.sr okD (by omega)
      go_wp2_with fail
      (with_reducible refine hdo.mono ?_)
      intro e x4 hp
      obtain ⟨rfl, G4, sx4, hk, _, hz4⟩ := sx3.done hp (Nat.le_refl _)
      clear hp hdo hk hz4 sx3
      rw [if_pos M3.out] at sx4
      rw [M3.out]
      generalize sDo S1 ⟨6, k0, 0, 2⟩ = S2 at *
      generalize nDo S1 ⟨6, k0, 0, 2⟩ = x1 at *
      have hK2 : (K1 ++ [(⟨6, k0, 0, 2⟩ : Rc)]).length ≤ 122 := by simp; omega
      generalize K1 ++ [(⟨6, k0, 0, 2⟩ : Rc)] = K2 at *
      have hdo := do_c b m G4 S2 K2 ⟨2, k1, k2, 0⟩ x4 sx4.sr okB (by omega)
      go_wp2_with fail
      (with_reducible refine hdo.mono ?_)
      intro e x5 hp
      obtain ⟨rfl, G5, sx5, hk, _, hz5⟩ := sx4.done hp (Nat.le_refl _)
      clear hp hdo hk hz5 sx4
      have Hz := Lib.hid (bel2 HB1.out sx5.low)
      rw [M4.out]
      clear sx5
      generalize nDo S2 ⟨2, k1, k2, 0⟩ = x2 at *
      go_wp2_with fail
      go_ret
      exact ⟨rfl, Hz.out⟩
end Go.Proofs.Ytealcccjnmfkcaa
