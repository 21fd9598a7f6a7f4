/-
  The walk of SiteReads: it returns true. Condition: the calls can be read, the numbers such as their types hold.
-/
import Derived.Test.YtealcccjnmfkcaaSiJ
import Derived.RegionTactic
import Derived.BigQuiet
set_option linter.unusedVariables false
set_option linter.unusedSimpArgs false
namespace Go.Proofs.Ytealcccjnmfkcaa
open Go.RowKit

set_option maxRecDepth 100000 in
set_option maxHeartbeats 4000000 in
theorem reads_walk (A : Option Addr) (n c : Nat) (L : List Rc) (A' : Option Addr) (n' c' : Nat) (M : List Rc) (k0 k1 : Int) (w : World) (h : KR w A n c L) (hr : ∀ r ∈ L, RcOk r) (h' : KR w A' n' c' M) (hr' : ∀ r ∈ M, RcOk r) (hk0 : 0 ≤ k0 ∧ k0 ≤ 255) (hk1 : 0 ≤ k1 ∧ k1 ≤ 255) :
    Calls Try.prog 7 #[.slice A n c, .slice A' n' c', .agg #[.int .u8 k0, .int .u8 k1]] w fun e w' => e = .returned (.bool true) ∧ Below w.heap.size w w' := by
  obtain ⟨W, hW⟩ : ∃ W, w.alloc (.cells #[.int .u8 k0, .int .u8 k1] 56) = W := ⟨_, rfl⟩
  have aW : CB W w.heap.size 56 #[.int .u8 k0, .int .u8 k1] := by rw [← hW]; exact CB.new _ _ _
  have bW : Below w.heap.size w W := by rw [← hW]; exact belA _ _
  have HW := Lib.hid hW
  clear hW
  have e0 : wrap64 k0 = k0 := IntWalk.wrap64_in _ (by omega)
  have e1 : wrap64 k1 = k1 := IntWalk.wrap64_in _ (by omega)
  go_enter Try.func7, Try.ntmps7
  go_upto_region 1 with fail
  rw [HW.out]
  go_wp2_with fail
  (with_reducible refine (alive_c W).mono ?_)
  rintro e w1 ⟨rfl, b1⟩
  have hB1 := bel2 bW b1
  have hp := played_c A n c L w1 (h.on hB1) hr
  go_wp2_with fail
  (with_reducible refine hp.mono ?_)
  rintro e w2 ⟨b, m, G, rfl, hst⟩
  have a2 := (aW.on b1).on hst.low
  have HB1 := Lib.hid hB1
  have hK : (logs si0 (L.take 120)).length ≤ 120 := by have := logs_len si0 (L.take 120); rw [List.length_take] at this; omega
  generalize plays si0 (L.take 120) = S at *
  generalize logs si0 (L.take 120) = K at *
  clear hp aW bW b1 hB1
  have q0 := a2.cell 0
  have q1 := a2.cell 1
  simp only [List.getElem?_toArray, List.getElem?_cons_zero, List.getElem?_cons_succ] at q0 q1
  have hlen := Lib.hid h'.len
  have hmx : n' ≤ maxLen := Nat.le_trans h'.cap h'.max
  simp only [maxLen] at hmx
  have hw1 := h'.on HB1.out
  clear h' h
  have ok1 : RcOk ⟨2, k0, k1, 0⟩ := ⟨by show (-9223372036854775808 : Int) ≤ 2 ∧ (2 : Int) ≤ 9223372036854775807; omega, by show (-9223372036854775808 : Int) ≤ k0 ∧ (k0 : Int) ≤ 9223372036854775807; omega, by show (0 : Int) ≤ k1 ∧ (k1 : Int) ≤ 255; omega, by show (-9223372036854775808 : Int) ≤ 0 ∧ (0 : Int) ≤ 9223372036854775807; omega⟩
  obtain ⟨V, hV⟩ : ∃ V, w2.alloc (.cells (kcs ⟨2, k0, k1, 0⟩) 35) = V := ⟨_, rfl⟩
  have cV : CB V w2.heap.size 35 (kcs ⟨2, k0, k1, 0⟩) := by rw [← hV]; exact CB.new _ _ _
  have bV : Below w2.heap.size w2 V := by rw [← hV]; exact belA _ _
  have sV := hst.add (R := w2.heap.size) bV (Nat.le_refl _) cV.lt
  have HV := Lib.hid hV
  clear hV bV hst
  obtain ⟨r0, r1, r2, r3⟩ := rec_cells cV
  have Hruns := Lib.hid (fun he : eDo S ⟨2, k0, k1, 0⟩ = 0 => runs_of he)
  go_upto_region 7 with fail
  rw [HV.out]
  clear q0 q1 a2
  have hdo := do_c b m G S K ⟨2, k0, k1, 0⟩ V sV.sr ok1 (by omega)
  go_wp2_with fail
  (with_reducible refine hdo.mono ?_)
  intro e x1 hp
  obtain ⟨rfl, G1, sx1, hk, _, hz1⟩ := sV.done hp (Nat.le_refl _)
  have cV := cV.same (hk _ (.inr rfl))
  clear hp hdo hk hz1 sV
  clear r0 r1 r2 r3
  have hK1 : (if eDo S ⟨2, k0, k1, 0⟩ = 0 then K ++ [⟨2, k0, k1, 0⟩] else K).length ≤ 121 := by have := logIf_len (eDo S ⟨2, k0, k1, 0⟩ = 0) K ⟨2, k0, k1, 0⟩; omega
  by_cases he : eDo S ⟨2, k0, k1, 0⟩ = 0
  rotate_left
  · have he1 : (eDo S ⟨2, k0, k1, 0⟩ != 0) = true := by simp [he]
    have Hz := Lib.hid (bel2 HB1.out sx1.low)
    clear he sx1 cV Hruns
    go_wp2_with fail
    go_ret
    exact ⟨rfl, Hz.out⟩
  have he1 : (eDo S ⟨2, k0, k1, 0⟩ != 0) = false := by simp [he]
  obtain ⟨p, hf, hn, hrun, hled⟩ := Hruns.out he
  clear he Hruns hf
  obtain ⟨X, hX⟩ : ∃ X, getD (sDo S ⟨2, k0, k1, 0⟩).led k1 = X := ⟨_, rfl⟩
  have hwas : nDo S ⟨2, k0, k1, 0⟩ = wrap64 (X + tot p.ad k1) := by rw [hn]; unfold sees; rw [← hX, hled]
  rw [hwas]
  generalize sDo S ⟨2, k0, k1, 0⟩ = S1 at *
  generalize (if eDo S ⟨2, k0, k1, 0⟩ = 0 then K ++ [(⟨2, k0, k1, 0⟩ : Rc)] else K) = K1 at *
  generalize eDo S ⟨2, k0, k1, 0⟩ = e9 at *
  clear hn hled hwas
  obtain ⟨was, hwas⟩ : ∃ x, wrap64 (X + tot p.ad k1) = x := ⟨_, rfl⟩
  rw [hwas]
  have Hwas := Lib.hid hwas
  have Hz1 := Lib.hid sx1.low
  clear hwas
  go_wp2_with fail
  go_loopw [11] (fun i wr => ∃ (j : Nat) (G' : Option Nat) (S' : Si) (K' : List Rc), j ≤ n' ∧ j ≤ 120 ∧ i = .int .i64 j ∧ ST w1.heap.size w1 wr (fun x => False ∨ x = w2.heap.size) b m G' S' K' ∧ K'.length ≤ 121 + j ∧ CB wr w2.heap.size 35 (kcs ⟨2, k0, k1, 0⟩) ∧ Runs S' k0 k1 p ∧ getD S'.led k1 = X) (fun i _ => n' - (intOf i).toNat)
  case atStart => exact ⟨0, G1, S1, K1, by omega, by omega, rfl, sx1, by omega, cV, hrun, hX⟩
  case round =>
    clear sx1 cV hrun hX hK1
    obtain ⟨j, G', S', K', hj, hj2, rfl, hst, hK, cV, hrun, hX⟩ := hrel
    have hex : ∀ (f1 : (decide ((j : Int) < (n' : Int)) && decide ((j : Int) < 120)) = false), True := fun _ => trivial
    by_cases hgo : j < n' ∧ j < 120
    · obtain ⟨hlt, hl4⟩ := hgo
      have hlt1 : (j : Int) < (n' : Int) := by omega
      have hl5 : (j : Int) < 120 := by omega
      have hjl : j < M.length := by rw [hlen.out]; exact hlt
      obtain ⟨g, off, rfl, d0, d1, d2, d3⟩ := (hw1.on hst.low).at4 hlt
      have hok := hr' _ (tkR_mem hjl)
      generalize tkR M j = x at *
      clear hex
      obtain ⟨Y, hY⟩ : ∃ V, wr.alloc (.cells (kcs x) 36) = V := ⟨_, rfl⟩
      have cY : CB Y wr.heap.size 36 (kcs x) := by rw [← hY]; exact CB.new _ _ _
      have bY : Below wr.heap.size wr Y := by rw [← hY]; exact belA _ _
      have sY := hst.add (R := wr.heap.size) bY (Nat.le_refl _) cY.lt
      have cV := cV.on bY
      have HY := Lib.hid hY
      have hpt := spart_c b m G' S' K' x.tx Y sY.sr hok.tx
      obtain ⟨pp, hpp⟩ : ∃ q, (fnd S'.pts x.tx).getD p0 = q := ⟨_, rfl⟩
      rw [hpp] at hpt
      have Hpp := Lib.hid (fun q (e : fnd S'.pts x.tx = some q) => show q = pp by rw [← hpp, e]; rfl)
      have x1 := cY.cell 1
      simp only [List.getElem?_toArray, List.getElem?_cons_zero, List.getElem?_cons_succ] at x1
      clear hY bY hpp hst
      go_upto_region 14 with fail
      rw [HY.out]
      go_wp2_with fail
      (with_reducible refine hpt.mono ?_)
      rintro e y1 ⟨A1, n1, c1, rfl, _, b3, _⟩
      obtain ⟨P, hP⟩ : ∃ V, y1.alloc (.cells #[.int .i64 pp.st, .slice A1 n1 c1, .bool pp.lo, .int .i64 pp.ou] 40) = V := ⟨_, rfl⟩
      have oP : PB P y1.heap.size 40 pp.st A1 n1 c1 pp.lo pp.ou := by rw [← hP]; exact PB.new _ _ _ _ _ _ _ _
      have bP : Below y1.heap.size y1 P := by rw [← hP]; exact belA _ _
      have sP := (sY.onw b3).onw bP
      have cV := (cV.on b3).on bP
      have cY := (cY.on b3).on bP
      have HP := Lib.hid hP
      clear hP hpt b3 bP sY x1
      obtain ⟨_, _, o2, _⟩ := oP.cells
      have x0 := cY.cell 0
      have x1 := cY.cell 1
      have x2 := cY.cell 2
      have x3 := cY.cell 3
      have v1 := cV.cell 1
      simp only [List.getElem?_toArray, List.getElem?_cons_zero, List.getElem?_cons_succ] at x0 x1 x2 x3 v1
      clear d0 d1 d2 d3 oP
      have hkeep := Lib.hid (fun h1 h2 => keep_step sP.sr.good.inv hrun x h1 h2)
      have Hrun := Lib.hid hrun
      have HX := Lib.hid hX
      clear hrun hX
      go_upto_region 15 with fail
      rw [HP.out]
      by_cases c1 : x.tx = k0
      · have c1' : (x.tx == k0) = true := by simp [c1]
        by_cases c2 : x.kd = 2
        · have c2' : (x.kd != 2) = false := by simp [c2]
          have c3' : (x.kd == 6) = false := by simp [c2]
          have Hc := Lib.hid c2
          clear c1 c2
          have hks := hkeep.out (.inr Hc.out) (fun h6 => by rw [Hc.out] at h6; omega)
          obtain ⟨hrun2, hX2⟩ := hks
          have hdo := do_c b m G' S' K' x P sP.sr hok (by omega)
          have HR2 := Lib.hid hrun2
          have HX2 := Lib.hid (hX2.trans HX.out)
          have hK2 := logIf_len (eDo S' x = 0) K' x
          clear hrun2 hX2
          go_wp2_with fail
          (with_reducible refine hdo.mono ?_)
          intro e y2 hp
          obtain ⟨rfl, G2, s2, hk, _, _⟩ := sP.done hp (Nat.le_refl _)
          have cV := cV.same (hk _ (.inl (.inr rfl)))
          have Ht := Lib.hid (s2.less (Rs' := fun x => False ∨ x = w2.heap.size) (fun x hx => .inl hx))
          clear hp hdo hk s2 sP x0 x1 x2 x3 v1 o2
          go_wp2_with fail
          go_roundw
          case rel => exact ⟨j + 1, G2, _, _, by omega, by omega, by go_num, Ht.out, by omega, cV, HR2.out, HX2.out⟩
          case measure => simp [intOf]; omega
        · have c2' : (x.kd != 2) = true := by simp [c2]
          clear c1 c2
          have Ht := Lib.hid (sP.less (Rs' := fun x => False ∨ x = w2.heap.size) (fun x hx => .inl hx))
          clear sP
          go_wp2_with fail
          go_roundw
          case rel => exact ⟨j + 1, G', S', K', by omega, by omega, by go_num, Ht.out, by omega, cV, Hrun.out, HX.out⟩
          case measure => simp [intOf]; omega
      · have c1' : (x.tx == k0) = false := by simp [c1]
        have Hc := Lib.hid c1
        clear c1
        by_cases c3 : x.kd = 6
        · have c3' : (x.kd == 6) = true := by simp [c3]
          clear c3
          cases hlo : pp.lo with
          | true =>
            rw [hlo] at o2
            clear hlo
            have Ht := Lib.hid (sP.less (Rs' := fun x => False ∨ x = w2.heap.size) (fun x hx => .inl hx))
            clear sP
            go_wp2_with fail
            go_roundw
            case rel => exact ⟨j + 1, G', S', K', by omega, by omega, by go_num, Ht.out, by omega, cV, Hrun.out, HX.out⟩
            case measure => simp [intOf]; omega
          | false =>
            rw [hlo] at o2
            have Hlo := Lib.hid hlo
            clear hlo
            have hks := hkeep.out (.inl Hc.out) (fun _ q e => by rw [Hpp.out q e]; exact Hlo.out)
            obtain ⟨hrun2, hX2⟩ := hks
            have hdo := do_c b m G' S' K' x P sP.sr hok (by omega)
            have HR2 := Lib.hid hrun2
            have HX2 := Lib.hid (hX2.trans HX.out)
            have hK2 := logIf_len (eDo S' x = 0) K' x
            clear hrun2 hX2
            go_wp2_with fail
            (with_reducible refine hdo.mono ?_)
            intro e y2 hp
            obtain ⟨rfl, G2, s2, hk, _, _⟩ := sP.done hp (Nat.le_refl _)
            have cV := cV.same (hk _ (.inl (.inr rfl)))
            have Ht := Lib.hid (s2.less (Rs' := fun x => False ∨ x = w2.heap.size) (fun x hx => .inl hx))
            clear hp hdo hk s2 sP x0 x1 x2 x3 v1 o2
            go_wp2_with fail
            go_roundw
            case rel => exact ⟨j + 1, G2, _, _, by omega, by omega, by go_num, Ht.out, by omega, cV, HR2.out, HX2.out⟩
            case measure => simp [intOf]; omega
        · have c3' : (x.kd == 6) = false := by simp [c3]
          have Hc3 := Lib.hid c3
          clear c3
          have hks := hkeep.out (.inl Hc.out) (fun h6 => absurd h6 Hc3.out)
          obtain ⟨hrun2, hX2⟩ := hks
          have hdo := do_c b m G' S' K' x P sP.sr hok (by omega)
          have HR2 := Lib.hid hrun2
          have HX2 := Lib.hid (hX2.trans HX.out)
          have hK2 := logIf_len (eDo S' x = 0) K' x
          clear hrun2 hX2
          go_wp2_with fail
          (with_reducible refine hdo.mono ?_)
          intro e y2 hp
          obtain ⟨rfl, G2, s2, hk, _, _⟩ := sP.done hp (Nat.le_refl _)
          have cV := cV.same (hk _ (.inl (.inr rfl)))
          have Ht := Lib.hid (s2.less (Rs' := fun x => False ∨ x = w2.heap.size) (fun x hx => .inl hx))
          clear hp hdo hk s2 sP x0 x1 x2 x3 v1 o2
          go_wp2_with fail
          go_roundw
          case rel => exact ⟨j + 1, G2, _, _, by omega, by omega, by go_num, Ht.out, by omega, cV, HR2.out, HX2.out⟩
          case measure => simp [intOf]; omega
    · by_cases hlt : j < n'
      · have hlt1 : (j : Int) < (n' : Int) := by omega
        have hl5 : ¬ (j : Int) < 120 := by omega
        clear hgo hex
        obtain ⟨L1, L2, _, _⟩ := hrun.read hst.sr.good.inv 0
        have hdo := do_c b m G' S' K' ⟨2, k0, k1, 0⟩ wr hst.sr ok1 (by omega)
        obtain ⟨r0, r1, r2, r3⟩ := rec_cells cV
        have L3 : nDo S' ⟨2, k0, k1, 0⟩ = was := by rw [L2, ← Hwas.out, ← hX]; rfl
        have M1 := Lib.hid L1
        have M3 := Lib.hid L3
        clear L1 L2 L3 hrun hX
        go_wp2_with fail
        (with_reducible refine hdo.mono ?_)
        intro e y2 hp
        obtain ⟨rfl, G2, s2, _⟩ := hst.done hp (Nat.le_refl _)
        have Hz := Lib.hid (bel2 HB1.out s2.low)
        rw [M1.out, M3.out]
        clear hp hdo s2 hst cV r0 r1 r2 r3
        go_wp2_with fail
        go_ret
        exact ⟨rfl, Hz.out⟩
      · have hlt1 : ¬ (j : Int) < (n' : Int) := by omega
        clear hgo hex
        obtain ⟨L1, L2, _, _⟩ := hrun.read hst.sr.good.inv 0
        have hdo := do_c b m G' S' K' ⟨2, k0, k1, 0⟩ wr hst.sr ok1 (by omega)
        obtain ⟨r0, r1, r2, r3⟩ := rec_cells cV
        have L3 : nDo S' ⟨2, k0, k1, 0⟩ = was := by rw [L2, ← Hwas.out, ← hX]; rfl
        have M1 := Lib.hid L1
        have M3 := Lib.hid L3
        clear L1 L2 L3 hrun hX
        go_wp2_with fail
        (with_reducible refine hdo.mono ?_)
        intro e y2 hp
        obtain ⟨rfl, G2, s2, _⟩ := hst.done hp (Nat.le_refl _)
        have Hz := Lib.hid (bel2 HB1.out s2.low)
        rw [M1.out, M3.out]
        clear hp hdo s2 hst cV r0 r1 r2 r3
        go_wp2_with fail
        go_ret
        exact ⟨rfl, Hz.out⟩
end Go.Proofs.Ytealcccjnmfkcaa
