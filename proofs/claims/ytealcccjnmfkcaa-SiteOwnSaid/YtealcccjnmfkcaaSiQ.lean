/-
  The walk of SiteOwn: it returns true. Condition: the calls can be read, the numbers such as their types hold.
-/
import Derived.Test.YtealcccjnmfkcaaSiJ
import Derived.RegionTactic
import Derived.BigQuiet
set_option linter.unusedVariables false
set_option linter.unusedSimpArgs false
namespace Go.Proofs.Ytealcccjnmfkcaa
open Go.RowKit

set_option maxRecDepth 100000 in
set_option maxHeartbeats 4000000 in
theorem own_walk (A : Option Addr) (n c : Nat) (L : List Rc) (k0 k1 v : Int) (w : World) (h : KR w A n c L) (hr : ∀ r ∈ L, RcOk r) (hk0 : 0 ≤ k0 ∧ k0 ≤ 255) (hk1 : 0 ≤ k1 ∧ k1 ≤ 255) (hv : -9223372036854775808 ≤ v ∧ v ≤ 9223372036854775807) :
    Calls Try.prog 10 #[.slice A n c, .agg #[.int .u8 k0, .int .u8 k1], .int .i64 v] w fun e w' => e = .returned (.bool true) ∧ Below w.heap.size w w' := by
  obtain ⟨W, hW⟩ : ∃ W, w.alloc (.cells #[.int .u8 k0, .int .u8 k1] 56) = W := ⟨_, rfl⟩
  have aW : CB W w.heap.size 56 #[.int .u8 k0, .int .u8 k1] := by rw [← hW]; exact CB.new _ _ _
  have bW : Below w.heap.size w W := by rw [← hW]; exact belA _ _
  have HW := Lib.hid hW
  clear hW
  have e0 : wrap64 k0 = k0 := IntWalk.wrap64_in _ (by omega)
  have e1 : wrap64 k1 = k1 := IntWalk.wrap64_in _ (by omega)
  go_enter Try.func10, Try.ntmps10
  go_upto_region 1 with fail
  rw [HW.out]
  go_wp2_with fail
  (with_reducible refine (alive_c W).mono ?_)
  rintro e w1 ⟨rfl, b1⟩
  have hB1 := bel2 bW b1
  have hp := played_c A n c L w1 (h.on hB1) hr
  go_wp2_with fail
  (with_reducible refine hp.mono ?_)
  rintro e w2 ⟨b, m, G, rfl, hst⟩
  have a2 := (aW.on b1).on hst.low
  have HB1 := Lib.hid hB1
  have hK : (logs si0 (L.take 120)).length ≤ 120 := by have := logs_len si0 (L.take 120); rw [List.length_take] at this; omega
  generalize plays si0 (L.take 120) = S at *
  generalize logs si0 (L.take 120) = K at *
  clear hp aW bW b1 hB1
  have q0 := a2.cell 0
  have q1 := a2.cell 1
  simp only [List.getElem?_toArray, List.getElem?_cons_zero, List.getElem?_cons_succ] at q0 q1
  have ok1 : RcOk ⟨2, k0, k1, 0⟩ := ⟨by show (-9223372036854775808 : Int) ≤ 2 ∧ (2 : Int) ≤ 9223372036854775807; omega, by show -9223372036854775808 ≤ k0 ∧ k0 ≤ 9223372036854775807; omega, hk1, by show (-9223372036854775808 : Int) ≤ 0 ∧ (0 : Int) ≤ 9223372036854775807; omega⟩
  have ok2 : RcOk ⟨3, k0, k1, v⟩ := ⟨by show (-9223372036854775808 : Int) ≤ 3 ∧ (3 : Int) ≤ 9223372036854775807; omega, by show -9223372036854775808 ≤ k0 ∧ k0 ≤ 9223372036854775807; omega, hk1, hv⟩
  have Hlaw := Lib.hid (own_law hst.sr.good.inv k0 k1 v)
  obtain ⟨V, hV⟩ : ∃ V, w2.alloc (.cells (kcs ⟨2, k0, k1, 0⟩) 35) = V := ⟨_, rfl⟩
  have cV : CB V w2.heap.size 35 (kcs ⟨2, k0, k1, 0⟩) := by rw [← hV]; exact CB.new _ _ _
  have bV : Below w2.heap.size w2 V := by rw [← hV]; exact belA _ _
  have sV := hst.add (R := w2.heap.size) bV (Nat.le_refl _) cV.lt
  have HV := Lib.hid hV
  clear hV bV hst
  obtain ⟨r0, r1, r2, r3⟩ := rec_cells cV
  go_upto_region 7 with fail
  rw [HV.out]
  clear q0 q1
  have hdo := do_c b m G S K ⟨2, k0, k1, 0⟩ V sV.sr ok1 (by omega)
  go_wp2_with fail
  (with_reducible refine hdo.mono ?_)
  intro e x1 hp
  obtain ⟨rfl, G1, sx1, hk, _, hz1⟩ := sV.done hp (Nat.le_refl _)
  have cV := cV.same (hk _ (.inr rfl))
  clear hp hdo hk hz1 sV
  clear r0 r1 r2 r3
  obtain ⟨r0, r1, r2, r3⟩ := rec_cells cV
  have hK1 : (if eDo S ⟨2, k0, k1, 0⟩ = 0 then K ++ [⟨2, k0, k1, 0⟩] else K).length ≤ 121 := by have := logIf_len (eDo S ⟨2, k0, k1, 0⟩ = 0) K ⟨2, k0, k1, 0⟩; omega
  by_cases he : eDo S ⟨2, k0, k1, 0⟩ = 0
  · have he1 : (eDo S ⟨2, k0, k1, 0⟩ != 0) = false := by simp [he]
    obtain ⟨L1, L2⟩ := Hlaw.out he
    clear he Hlaw
    generalize hS1 : sDo S ⟨2, k0, k1, 0⟩ = S1 at *
    generalize hK1' : (if eDo S ⟨2, k0, k1, 0⟩ = 0 then K ++ [⟨2, k0, k1, 0⟩] else K) = K1 at *
    generalize hN : nDo S ⟨2, k0, k1, 0⟩ = was at *
    generalize eDo S ⟨2, k0, k1, 0⟩ = e0 at *
    clear hS1 hK1' hN
    have hdo := do_c b m G1 S1 K1 ⟨3, k0, k1, v⟩ x1 sx1.sr ok2 (by omega)
    go_wp2_with fail
    (with_reducible refine hdo.mono ?_)
    intro e x2 hp
    obtain ⟨rfl, G2, sx2, hk, _, hz2⟩ := sx1.done hp (Nat.le_refl _)
    have cV := cV.same (hk _ (.inr rfl))
    clear hp hdo hk hz2 sx1
    clear r0 r1 r2 r3
    obtain ⟨r0, r1, r2, r3⟩ := rec_cells cV
    have hK2 : (if eDo S1 ⟨3, k0, k1, v⟩ = 0 then K1 ++ [⟨3, k0, k1, v⟩] else K1).length ≤ 122 := by have := logIf_len (eDo S1 ⟨3, k0, k1, v⟩ = 0) K1 ⟨3, k0, k1, v⟩; omega
    obtain ⟨f0, hf0⟩ : ∃ f0, eDo S1 ⟨3, k0, k1, v⟩ = f0 := ⟨_, rfl⟩
    rw [hf0] at L2 hK2 sx2 ⊢
    clear hf0
    generalize sDo S1 ⟨3, k0, k1, v⟩ = S2 at *
    generalize (if f0 = 0 then K1 ++ [⟨3, k0, k1, v⟩] else K1) = K2 at *
    generalize nDo S1 ⟨3, k0, k1, v⟩ = x0 at *
    have Hl := Lib.hid L1
    have Hl2 := Lib.hid L2
    clear L1 L2
    have hdo := do_c b m G2 S2 K2 ⟨2, k0, k1, 0⟩ x2 sx2.sr ok1 (by omega)
    go_wp2_with fail
    (with_reducible refine hdo.mono ?_)
    intro e x3 hp
    obtain ⟨rfl, G3, sx3, hk, _, hz3⟩ := sx2.done hp (Nat.le_refl _)
    clear hp hdo hk hz3 sx2
    have hz := (sx3).low
    rw [Hl.out, Hl2.out]
    clear sx3 cV r0 r1 r2 r3
    by_cases h0 : f0 = 0
    · have h01 : (f0 != 0) = false := by simp [h0]
      rw [if_pos h0]
      clear h0 Hl2 Hl
      go_wp2_with fail
      go_ret
      exact ⟨rfl, bel2 HB1.out hz⟩
    · have h01 : (f0 != 0) = true := by simp [h0]
      rw [if_neg h0]
      clear h0 Hl2 Hl
      go_wp2_with fail
      go_ret
      exact ⟨rfl, bel2 HB1.out hz⟩
  · have he1 : (eDo S ⟨2, k0, k1, 0⟩ != 0) = true := by simp [he]
    have hz := sx1.low
    rw [nDo_err he]
    clear he Hlaw sx1 cV r0 r1 r2 r3
    go_wp2_with fail
    go_ret
    exact ⟨rfl, bel2 HB1.out hz⟩
end Go.Proofs.Ytealcccjnmfkcaa
