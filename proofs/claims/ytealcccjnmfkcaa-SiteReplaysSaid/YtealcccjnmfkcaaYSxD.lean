/-
  The document's site: end. Conditions: as for access.
-/
import Derived.Test.YtealcccjnmfkcaaYSxC
import Derived.Deep.RegionHeld3
set_option linter.unusedVariables false
set_option linter.unusedSimpArgs false
namespace Go.Proofs.Ytealcccjnmfkcaa
open Go.RowKit

theorem DW.putS {w W : World} {A1 : Option Addr} {n1 c1 : Nat} {A2 : Option Addr} {n2 c2 : Nat} {A3 : Option Addr} {n3 c3 : Nat} {A4 : Option Addr} {n4 c4 : Nat} {s : Si} {log : List Rc} {r : Rc} (h : DW w W A1 n1 c1 A2 n2 c2 A3 n3 c3 A4 n4 c4 s log r) {B1 : Option Addr} {m1 d1 : Nat} {B2 : Option Addr} {m2 d2 : Nat} {B3 : Option Addr} {m3 d3 : Nat} {B4 : Option Addr} {m4 d4 : Nat} {s' : Si} {log' : List Rc} (hm : DM W B1 m1 d1 B2 m2 d2 B3 m3 d3 B4 m4 d4 s' log') :
    ∃ V, (((W.setCell ⟨w.heap.size, 0, none⟩ (.slice B1 m1 d1)).setCell ⟨w.heap.size, 1, none⟩ (.slice B2 m2 d2)).setCell ⟨w.heap.size, 2, none⟩ (.slice B3 m3 d3)).setCell ⟨w.heap.size, 3, none⟩ (.slice B4 m4 d4) = V ∧ DW w V B1 m1 d1 B2 m2 d2 B3 m3 d3 B4 m4 d4 s' log' r ∧ Just w.heap.size W V := by
  obtain ⟨V, hV, hb, hj⟩ := site_all h.c B1 m1 d1 B2 m2 d2 B3 m3 d3 B4 m4 d4
  exact ⟨V, hV, ⟨hb, hj.cb h.r (by omega), hj.cb h.z (by omega), hm.just h.c hj, hj.low h.low (Nat.le_refl _)⟩, hj⟩
theorem SFin2 {w W : World} {A1 : Option Addr} {n1 c1 : Nat} {A2 : Option Addr} {n2 c2 : Nat} {A3 : Option Addr} {n3 c3 : Nat} {A4 : Option Addr} {n4 c4 : Nat} {s : Si} {log : List Rc} {d : Nat} (hz : CB W d 30 dz) (hl : Below w.heap.size w W) (hd : w.heap.size ≤ d) (h : DM W A1 n1 c1 A2 n2 c2 A3 n3 c3 A4 n4 c4 s log) :
    ∃ V, (((W.setCell ⟨d, 0, none⟩ (.slice A1 n1 c1)).setCell ⟨d, 1, none⟩ (.slice A2 n2 c2)).setCell ⟨d, 2, none⟩ (.slice A3 n3 c3)).setCell ⟨d, 3, none⟩ (.slice A4 n4 c4) = V ∧
      (V.cell? ⟨d, 0, none⟩ = some (.slice A1 n1 c1) ∧ V.cell? ⟨d, 1, none⟩ = some (.slice A2 n2 c2) ∧ V.cell? ⟨d, 2, none⟩ = some (.slice A3 n3 c3) ∧ V.cell? ⟨d, 3, none⟩ = some (.slice A4 n4 c4)) ∧ DM V A1 n1 c1 A2 n2 c2 A3 n3 c3 A4 n4 c4 s log ∧ Below w.heap.size w V ∧ Just d W V := by
  obtain ⟨V, hV, hb, hj⟩ := site_all hz A1 n1 c1 A2 n2 c2 A3 n3 c3 A4 n4 c4
  exact ⟨V, hV, (d_cells hb).1, h.just hz hj, hj.low hl hd, hj⟩
/-- What the site becomes where a part is put and the changes too. -/
theorem end_site {s : Si} {r : Rc} {p q : Pt} {D : List Dl} (hi : Inv s) (ha : fnd s.pts r.tx = some p) (hk : KeysP D) : (⟨sPut s.led D, fre s.lk r.tx, s.pts.set (idx s.pts r.tx) (r.tx, q)⟩ : Si) = ⟨ofD (s.led ++ D), fre s.lk r.tx, upd s.pts r.tx q⟩ := by
  rw [(put_yes hi.right hk).2, set_upd hi.tx ha]

set_option maxRecDepth 100000 in
set_option maxHeartbeats 4000000 in
theorem end_c (A1 : Option Addr) (n1 c1 : Nat) (A2 : Option Addr) (n2 c2 : Nat) (A3 : Option Addr) (n3 c3 : Nat) (A4 : Option Addr) (n4 c4 : Nat) (s : Si) (log : List Rc) (r : Rc) (p : Pt) (w : World) (h : DM w A1 n1 c1 A2 n2 c2 A3 n3 c3 A4 n4 c4 s log) (hh : Here s log r p) (hk1 : r.kd ≠ 1) (hk2 : r.kd ≠ 2) (hk3 : r.kd ≠ 3) :
    Calls Try.prog 60 #[dsv A1 n1 c1 A2 n2 c2 A3 n3 c3 A4 n4 c4, .int .i64 (idx s.pts r.tx), kv r] w (SEPost w (sDo s r) log (eDo s r)) := by
  obtain ⟨W, hW, hD⟩ := DW.new h r
  have HW := Lib.hid hW
  obtain ⟨kk1, kk2, kk3⟩ := hh.kl h
  obtain ⟨hi1, hi2⟩ := idx_some hh.at_
  have hin := inR_iff.1 hh.inr
  have hed := eDo_some hin hh.at_
  have hok := hh.okp
  have hlt : idx s.pts r.tx < n3 := by have := h.pts.len; omega
  obtain ⟨g, off, B, m, d, o, e3, ho, dp, t0, t1, t2, t3, t4⟩ := OX.at5 hD.m.pts hlt
  rw [hi1] at ho
  cases ho
  subst e3
  have kd' : p.ad.length = m := dp.len
  have hol := ok_len hok
  obtain ⟨i, hidx⟩ : ∃ i, idx s.pts r.tx = i := ⟨_, rfl⟩
  rw [hidx] at hlt t0 t1 t2 t3 t4 hi1 ⊢
  have hlt1 : (i : Int) < (n3 : Int) := by omega
  have Hidx := Lib.hid hidx
  rw [if_neg hk1, if_neg hk2, if_neg hk3] at hed
  have hdone : eDo s r = 0 → sDo s r = (if r.kd = 4 then ⟨s.led, if r.nn = 0 then fre s.lk r.tx else s.lk, upd s.pts r.tx (sVote p (decide (r.nn ≠ 0)))⟩ else if r.kd = 5 then ⟨ofD (s.led ++ dLoc p), fre s.lk r.tx, upd s.pts r.tx (sLoc p)⟩ else ⟨ofD (s.led ++ dDec p (outc r.nn)), fre s.lk r.tx, upd s.pts r.tx (sDec p (outc r.nn))⟩) := fun e0 => by
    rw [sDo_some (p := p) e0 hh.at_]
    unfold sDone
    rw [if_neg hk2, if_neg hk3]
  have Hed := Lib.hid hed
  have Hdone := Lib.hid hdone
  have hK1 : (r.kd == 1) = false := by simp [hk1]
  clear hW h hidx hed hdone hk1 hk2 hk3
  obtain ⟨⟨q0, q1, q2, q3⟩, _⟩ := d_cells hD.c
  obtain ⟨r0, r1, r2, r3⟩ := r10_cells hD.r
  go_enter Try.func60, Try.ntmps60
  go_upto_region 1 with fail
  rw [HW.out]
  obtain ⟨P, hP⟩ : ∃ V, W.alloc (.cells #[.int .i64 p.st, .slice B m d, .bool p.lo, .int .i64 p.ou] 95) = V := ⟨_, rfl⟩
  have oP : PB P W.heap.size 95 p.st B m d p.lo p.ou := by rw [← hP]; exact PB.new _ _ _ _ _ _ _ _
  have bP : Below W.heap.size W P := by rw [← hP]; exact belA _ _
  have DP := hD.on bP
  have dP := dp.on bP
  have HP := Lib.hid hP
  clear hP bP hD dp
  go_upto_region 2 with fail
  rw [HP.out]
  clear t0 t1 t2 t3 t4
  clear q0 q1 q2 q3 r0 r1 r2 r3
  obtain ⟨⟨q0, q1, q2, q3⟩, _⟩ := d_cells DP.c
  obtain ⟨r0, r1, r2, r3⟩ := r10_cells DP.r
  obtain ⟨o0, o1, o2, o3⟩ := oP.cells
  by_cases k4 : r.kd = 4
  · have k41 : (r.kd == 4) = true := by simp [k4]
    have He := Lib.hid (show eDo s r = eVote p by rw [Hed.out, if_pos k4])
    have Hd := Lib.hid (fun e0 => by have := Hdone.out e0; rw [if_pos k4] at this; exact this)
    clear k4 Hed Hdone
    have hc : Calls Try.prog 88 #[pv B m d p, .bool (r.nn != 0)] P (APost P 0 (sVote p (r.nn != 0)) (eVote p)) := voteR_c p.st B m d p.lo p.ou (r.nn != 0) p.ad P dP (by omega)
    obtain ⟨q', hq'⟩ : ∃ q, sVote p (r.nn != 0) = q := ⟨_, rfl⟩
    obtain ⟨k', hk'⟩ : ∃ k, eVote p = k := ⟨_, rfl⟩
    rw [hq', hk'] at hc
    have Hq := Lib.hid (show sVote p (decide (r.nn ≠ 0)) = q' by rw [← hq', show decide (r.nn ≠ 0) = (r.nn != 0) by by_cases k : r.nn = 0 <;> simp [k]])
    have He := Lib.hid (He.out.trans hk')
    clear hq' hk'
    go_wp2_with fail
    (with_reducible refine hc.mono ?_)
    rintro e w3 ⟨A6, n6, c6, rfl, d6, b3, _⟩
    obtain ⟨Y, hY⟩ : ∃ V, w3.alloc (.cells #[.int .i64 q'.st, .slice A6 n6 c6, .bool q'.lo, .int .i64 q'.ou] 95) = V := ⟨_, rfl⟩
    have oY : PB Y w3.heap.size 95 q'.st A6 n6 c6 q'.lo q'.ou := by rw [← hY]; exact PB.new _ _ _ _ _ _ _ _
    have bY : Below w3.heap.size w3 Y := by rw [← hY]; exact belA _ _
    have DY := (DP.on b3).on bY
    have dY := d6.on bY
    have HY := Lib.hid hY
    clear hY bY b3 hc DP dP oP d6 o0 o1 o2 o3
    clear q0 q1 q2 q3 r0 r1 r2 r3
    go_upto_region 5 with fail
    rw [HY.out]
    obtain ⟨⟨q0, q1, q2, q3⟩, _⟩ := d_cells DY.c
    obtain ⟨r0, r1, r2, r3⟩ := r10_cells DY.r
    by_cases h0 : k' = 0
    rotate_left
    · have h01 : (k' != 0) = true := by simp [h0]
      have Hn := Lib.hid h0
      clear h0
      obtain ⟨⟨y0, y1, y2, y3⟩, f0, f1, f2, f3⟩ := d_cells DY.z
      obtain ⟨U, hU, ⟨v0, v1, v2, v3⟩, mU, lU⟩ := SFin DY.z DY.low (by omega) DY.m
      have HU := Lib.hid hU
      have H := Lib.hid (show SEPost w (sDo s r) log (eDo s r) (.returned (.tuple #[dsv A1 n1 c1 A2 n2 c2 (some ⟨g, off, none⟩) n3 c3 A4 n4 c4, .int .i64 k'])) U from by
        rw [sDo_err (by rw [He.out]; exact Hn.out), He.out]
        exact ⟨_, _, _, _, _, _, _, _, _, _, _, _, rfl, mU, lU⟩)
      clear hU mU lU DY oY dY
      go_wp2_with fail
      rw [HU.out]
      exact bodyPost_ret (v := .tuple #[dsv A1 n1 c1 A2 n2 c2 (some ⟨g, off, none⟩) n3 c3 A4 n4 c4, .int .i64 k']) (by simp [results, Try.results60, go_sem, v0, v1, v2, v3]) rfl H.out
    have h01 : (k' != 0) = false := by simp [h0]
    have He0 := Lib.hid (show eDo s r = 0 by rw [He.out]; exact h0)
    clear h0
    obtain ⟨o0, o1, o2, o3⟩ := oY.cells
    have hc := with_c A1 n1 c1 A2 n2 c2 (some ⟨g, off, none⟩) n3 c3 A4 n4 c4 s log i q' A6 n6 c6 r.tx p Y DY.m dY hi1 kk3
    go_wp2_with fail
    (with_reducible refine hc.mono ?_)
    rintro e w4 ⟨E1, E1', E1'', E2, E2', E2'', E3, E3', E3'', E4, E4', E4'', rfl, m4, b4⟩
    have D4 := DY.on b4
    clear hc DY oY dY b4 o0 o1 o2 o3
    clear q0 q1 q2 q3 r0 r1 r2 r3
    obtain ⟨X, hX, DX, _⟩ := D4.putS m4
    have HX := Lib.hid hX
    clear hX
    obtain ⟨⟨q0, q1, q2, q3⟩, f0, f1, f2, f3⟩ := d_cells D4.c
    clear m4 D4
    go_upto_region 8 with fail
    rw [HX.out]
    clear q0 q1 q2 q3 f0 f1 f2 f3
    obtain ⟨⟨q0, q1, q2, q3⟩, _⟩ := d_cells DX.c
    obtain ⟨r0, r1, r2, r3⟩ := r10_cells DX.r
    by_cases hn0 : r.nn = 0
    · have hn1 : (r.nn == 0) = true := by simp [hn0]
      have Hn0 := Lib.hid hn0
      clear hn0
      have kx1 : E1' ≤ 100000 ∧ E2' ≤ 100000 := by
        have h1 := DX.m.led.len
        have h2 := DX.m.lk.len
        have h4 := right_len hh.good.inv.right hh.good.inv.wf
        have h5 := hh.good.lk
        have h6 := hh.len
        exact ⟨by have : s.led.length = E1' := h1; omega, by have : s.lk.length = E2' := h2; omega⟩
      have hc := change_c E1 E1' E1'' E2 E2' E2'' E3 E3' E3'' E4 E4' E4'' _ log r.tx none 0 0 [] X DX.m (RR.nil _ _ _) kx1.1 kx1.2 (by omega)
      go_wp2_with fail
      (with_reducible refine hc.mono ?_)
      rintro e w5 ⟨F1, F1', F1'', F2, F2', F2'', F3, F3', F3'', F4, F4', F4'', rfl, m5, b5⟩
      have D5 := DX.on b5
      clear hc DX b5
      clear q0 q1 q2 q3 r0 r1 r2 r3
      obtain ⟨Z, hZ, DZ, _⟩ := D5.putS m5
      have HZ := Lib.hid hZ
      clear hZ
      obtain ⟨⟨q0, q1, q2, q3⟩, f0, f1, f2, f3⟩ := d_cells D5.c
      clear m5 D5
      go_upto_region 10 with fail
      rw [HZ.out]
      clear q0 q1 q2 q3 f0 f1 f2 f3
      obtain ⟨⟨q0, q1, q2, q3⟩, _⟩ := d_cells DZ.c
      obtain ⟨r0, r1, r2, r3⟩ := r10_cells DZ.r
      have mz : DM Z F1 F1' F1'' F2 F2' F2'' F3 F3' F3'' F4 F4' F4'' (sDo s r) log := by
        have e1 := Hd.out He0.out
        rw [if_pos Hn0.out, ← set_upd hh.good.inv.tx hh.at_, Hidx.out, Hq.out] at e1
        rw [e1]
        have hz := DZ.m
        have e2 : sPut s.led [] = s.led := by rw [(put_yes hh.good.inv.right keys_nil).2]; exact led_nil hh.good.inv
        simp only [e2] at hz
        exact hz
      obtain ⟨⟨y0, y1, y2, y3⟩, f0, f1, f2, f3⟩ := d_cells DZ.z
      obtain ⟨U, hU, ⟨v0, v1, v2, v3⟩, mU, lU⟩ := SFin DZ.z DZ.low (by omega) mz
      have HU := Lib.hid hU
      have H := Lib.hid (show SEPost w (sDo s r) log (eDo s r) (.returned (.tuple #[dsv F1 F1' F1'' F2 F2' F2'' F3 F3' F3'' F4 F4' F4'', .int .i64 0])) U from by
        rw [He0.out]
        exact ⟨_, _, _, _, _, _, _, _, _, _, _, _, rfl, mU, lU⟩)
      clear hU mU lU DZ mz
      go_wp2_with fail
      rw [HU.out]
      exact bodyPost_ret (v := .tuple #[dsv F1 F1' F1'' F2 F2' F2'' F3 F3' F3'' F4 F4' F4'', .int .i64 0]) (by simp [results, Try.results60, go_sem, v0, v1, v2, v3]) rfl H.out
    · have hn1 : (r.nn == 0) = false := by simp [hn0]
      have Hn0 := Lib.hid hn0
      clear hn0
      have mz : DM X E1 E1' E1'' E2 E2' E2'' E3 E3' E3'' E4 E4' E4'' (sDo s r) log := by
        have e1 := Hd.out He0.out
        rw [if_neg Hn0.out, ← set_upd hh.good.inv.tx hh.at_, Hidx.out, Hq.out] at e1
        rw [e1]
        exact DX.m
      obtain ⟨⟨y0, y1, y2, y3⟩, f0, f1, f2, f3⟩ := d_cells DX.z
      obtain ⟨U, hU, ⟨v0, v1, v2, v3⟩, mU, lU⟩ := SFin DX.z DX.low (by omega) mz
      have HU := Lib.hid hU
      have H := Lib.hid (show SEPost w (sDo s r) log (eDo s r) (.returned (.tuple #[dsv E1 E1' E1'' E2 E2' E2'' E3 E3' E3'' E4 E4' E4'', .int .i64 0])) U from by
        rw [He0.out]
        exact ⟨_, _, _, _, _, _, _, _, _, _, _, _, rfl, mU, lU⟩)
      clear hU mU lU DX mz
      go_wp2_with fail
      rw [HU.out]
      exact bodyPost_ret (v := .tuple #[dsv E1 E1' E1'' E2 E2' E2'' E3 E3' E3'' E4 E4' E4'', .int .i64 0]) (by simp [results, Try.results60, go_sem, v0, v1, v2, v3]) rfl H.out
  have k41 : (r.kd == 4) = false := by simp [k4]
  by_cases k5 : r.kd = 5
  · have k51 : (r.kd == 5) = true := by simp [k5]
    have He := Lib.hid (show eDo s r = eLoc p by rw [Hed.out, if_neg k4, if_pos k5])
    have Hd := Lib.hid (fun e0 => by have := Hdone.out e0; rw [if_neg k4, if_pos k5] at this; exact this)
    clear k4 k5 Hed Hdone
    have hc : Calls Try.prog 90 #[pv B m d p] P (BPost P 0 (sLoc p) (dLoc p) (eLoc p)) := localR_c p.st B m d p.lo p.ou p.ad P dP (by omega)
    obtain ⟨q', hq'⟩ : ∃ q, sLoc p = q := ⟨_, rfl⟩
    obtain ⟨D', hD'⟩ : ∃ D, dLoc p = D := ⟨_, rfl⟩
    obtain ⟨k', hk'⟩ : ∃ k, eLoc p = k := ⟨_, rfl⟩
    rw [hq', hk', hD'] at hc
    have Hq := Lib.hid hq'
    have HD := Lib.hid hD'
    have hDl : D'.length ≤ 50 := by rw [← hD']; exact dLoc_len hok
    have HDk := Lib.hid (show KeysP D' by rw [← hD']; exact dLoc_keys hok)
    have He := Lib.hid (He.out.trans hk')
    clear hq' hk' hD'
    go_wp2_with fail
    (with_reducible refine hc.mono ?_)
    rintro e w3 ⟨A6, n6, c6, A7, n7, c7, rfl, d6, d7, b3, _⟩
    obtain ⟨Y, hY⟩ : ∃ V, w3.alloc (.cells #[.int .i64 q'.st, .slice A6 n6 c6, .bool q'.lo, .int .i64 q'.ou] 95) = V := ⟨_, rfl⟩
    have oY : PB Y w3.heap.size 95 q'.st A6 n6 c6 q'.lo q'.ou := by rw [← hY]; exact PB.new _ _ _ _ _ _ _ _
    have bY : Below w3.heap.size w3 Y := by rw [← hY]; exact belA _ _
    have DY := (DP.on b3).on bY
    have dY := d6.on bY
    have HY := Lib.hid hY
    have eY := d7.on bY
    have hz3 := (DP.on b3).z.lt
    have hl7 := d7.len
    clear d7
    clear hY bY b3 hc DP dP oP d6 o0 o1 o2 o3
    clear q0 q1 q2 q3 r0 r1 r2 r3
    go_upto_region 13 with fail
    rw [HY.out]
    obtain ⟨⟨q0, q1, q2, q3⟩, _⟩ := d_cells DY.c
    obtain ⟨r0, r1, r2, r3⟩ := r10_cells DY.r
    by_cases h0 : k' = 0
    rotate_left
    · have h01 : (k' != 0) = true := by simp [h0]
      have Hn := Lib.hid h0
      clear h0
      obtain ⟨⟨y0, y1, y2, y3⟩, f0, f1, f2, f3⟩ := d_cells DY.z
      obtain ⟨U, hU, ⟨v0, v1, v2, v3⟩, mU, lU⟩ := SFin DY.z DY.low (by omega) DY.m
      have HU := Lib.hid hU
      have H := Lib.hid (show SEPost w (sDo s r) log (eDo s r) (.returned (.tuple #[dsv A1 n1 c1 A2 n2 c2 (some ⟨g, off, none⟩) n3 c3 A4 n4 c4, .int .i64 k'])) U from by
        rw [sDo_err (by rw [He.out]; exact Hn.out), He.out]
        exact ⟨_, _, _, _, _, _, _, _, _, _, _, _, rfl, mU, lU⟩)
      clear hU mU lU DY oY dY eY
      go_wp2_with fail
      rw [HU.out]
      exact bodyPost_ret (v := .tuple #[dsv A1 n1 c1 A2 n2 c2 (some ⟨g, off, none⟩) n3 c3 A4 n4 c4, .int .i64 k']) (by simp [results, Try.results60, go_sem, v0, v1, v2, v3]) rfl H.out
    have h01 : (k' != 0) = false := by simp [h0]
    have He0 := Lib.hid (show eDo s r = 0 by rw [He.out]; exact h0)
    clear h0
    obtain ⟨o0, o1, o2, o3⟩ := oY.cells
    have Hev := Lib.hid (fun (U : World) (hc : CB U w.heap.size 30 (dcs A1 n1 c1 A2 n2 c2 (some ⟨g, off, none⟩) n3 c3 A4 n4 c4)) (hr : CB U (w.heap.size + 1) 36 (kcs r)) (ho : PB U w3.heap.size 95 q'.st A6 n6 c6 q'.lo q'.ou) => show (fun W' : World => (W'.cell? ⟨w.heap.size, 0, none⟩ = some (.slice A1 n1 c1) ∧ W'.cell? ⟨w.heap.size, 1, none⟩ = some (.slice A2 n2 c2) ∧ W'.cell? ⟨w.heap.size, 2, none⟩ = some (.slice (some ⟨g, off, none⟩) n3 c3) ∧ W'.cell? ⟨w.heap.size, 3, none⟩ = some (.slice A4 n4 c4)) ∧ (W'.cell? ⟨w3.heap.size, 0, none⟩ = some (.int .i64 q'.st) ∧ W'.cell? ⟨w3.heap.size, 1, none⟩ = some (.slice A6 n6 c6) ∧ W'.cell? ⟨w3.heap.size, 2, none⟩ = some (.bool q'.lo) ∧ W'.cell? ⟨w3.heap.size, 3, none⟩ = some (.int .i64 q'.ou)) ∧ W'.cell? ⟨w.heap.size + 1, 1, none⟩ = some (.int .i64 r.tx)) U from ⟨(d_cells hc).1, ho.cells, (r10_cells hr).2.1⟩)
    have Hc := Lib.hid (Hev.out Y DY.c DY.r oY)
    have hyz := Lib.hid (show w.heap.size + 1 + 1 < w3.heap.size from hz3)
    have hc := with_c A1 n1 c1 A2 n2 c2 (some ⟨g, off, none⟩) n3 c3 A4 n4 c4 s log i q' A6 n6 c6 r.tx p Y.drew (DY.m.on (belowD (Below.refl _ _))) (dY.on (belowD (Below.refl _ _))) hi1 kk3
    have kx := Lib.hid (show ∀ (V : World) (e1 e2 : Nat) (b1 b2 : Option Addr) (b3 b4 : Nat), DR V b1 e1 b3 s.led → HR V b2 e2 b4 s.lk → e1 ≤ 100000 ∧ e2 ≤ 100000 from fun V e1 e2 b1 b2 b3 b4 l1 l2 => by
      have h1 := l1.len
      have h2 := l2.len
      have h4 := right_len hh.good.inv.right hh.good.inv.wf
      have h5 := hh.good.lk
      have h6 := hh.len
      omega)
    go_upto_region 15 with fail
    go_region_held3 (fun W' => (W'.cell? ⟨w.heap.size, 0, none⟩ = some (.slice A1 n1 c1) ∧ W'.cell? ⟨w.heap.size, 1, none⟩ = some (.slice A2 n2 c2) ∧ W'.cell? ⟨w.heap.size, 2, none⟩ = some (.slice (some ⟨g, off, none⟩) n3 c3) ∧ W'.cell? ⟨w.heap.size, 3, none⟩ = some (.slice A4 n4 c4)) ∧ (W'.cell? ⟨w3.heap.size, 0, none⟩ = some (.int .i64 q'.st) ∧ W'.cell? ⟨w3.heap.size, 1, none⟩ = some (.slice A6 n6 c6) ∧ W'.cell? ⟨w3.heap.size, 2, none⟩ = some (.bool q'.lo) ∧ W'.cell? ⟨w3.heap.size, 3, none⟩ = some (.int .i64 q'.ou)) ∧ W'.cell? ⟨w.heap.size + 1, 1, none⟩ = some (.int .i64 r.tx)) (first | exact Hc.out | exact x1.out | exact x2.out | exact x3.out) (first
      | (go_at_call 87; (with_reducible refine hc.mono ?_); rintro e u1 ⟨E1, E1', E1'', E2, E2', E2'', E3, E3', E3'', E4, E4', E4'', rfl, m1, d1⟩; have b1 : Below Y.heap.size Y u1 := below_drew (W := Y) d1; have D1 := DY.on b1; have o1' := oY.on b1; have x1 := Lib.hid (Hev.out u1 D1.c D1.r o1'); have y1 := kx.out u1 _ _ _ _ _ _ m1.led m1.lk; have hc2 := change_c E1 E1' E1'' E2 E2' E2'' E3 E3' E3'' E4 E4' E4'' _ log r.tx A7 n7 c7 D' u1 m1 (eY.on b1) y1.1 y1.2 (by omega))
      | (go_at_call 89; (with_reducible refine hc2.mono ?_); rintro e u2 ⟨F1, F1', F1'', F2, F2', F2'', F3, F3', F3'', F4, F4', F4'', rfl, m2, d2⟩; have D2 := D1.on d2; have o2' := o1'.on d2; have x2 := Lib.hid (Hev.out u2 D2.c D2.r o2'); obtain ⟨⟨y0, y1, y2, y3⟩, f0, f1, f2, f3⟩ := d_cells D2.z; obtain ⟨U, hU, ⟨v0, v1, v2, v3⟩, mU, lU, jU⟩ := SFin2 D2.z D2.low (by omega) m2; have x3 := Lib.hid (Hev.out U (jU.cb D2.c (by omega)) (jU.cb D2.r (by omega)) (jU.cb o2' (by have := hyz.out; omega)))))
    have HU := Lib.hid hU
    have H := Lib.hid (show SEPost w (sDo s r) log (eDo s r) (.returned (.tuple #[dsv F1 F1' F1'' F2 F2' F2'' F3 F3' F3'' F4 F4' F4'', .int .i64 0])) U from by
      rw [He0.out, show sDo s r = ⟨sPut s.led D', fre s.lk r.tx, s.pts.set i (r.tx, q')⟩ by rw [Hd.out He0.out, HD.out, Hq.out, ← Hidx.out]; exact (end_site hh.good.inv hh.at_ HDk.out).symm]
      exact ⟨_, _, _, _, _, _, _, _, _, _, _, _, rfl, mU, lU⟩)
    clear hU mU lU jU x1 x2 x3 D1 D2 o1' o2' m1 m2 d2 d1 b1 DY oY dY eY hc hc2 Hev Hc
    try rw [HU.out]
    go_wp2_with fail
    exact bodyPost_ret (v := .tuple #[dsv F1 F1' F1'' F2 F2' F2'' F3 F3' F3'' F4 F4' F4'', .int .i64 0]) (by simp [results, Try.results60, go_sem, v0, v1, v2, v3]) rfl H.out
  have k51 : (r.kd == 5) = false := by simp [k5]
  by_cases c1 : r.nn = 1
  · have c11 : (r.nn == 1) = true := by simp [c1]
    have hu : outc r.nn = r.nn := by unfold outc; rw [if_pos (.inl c1)]
    clear c1
    have He := Lib.hid (show eDo s r = eDec p (r.nn) by rw [Hed.out, if_neg k4, if_neg k5, hu])
    have Hd := Lib.hid (fun e0 => by have := Hdone.out e0; rw [if_neg k4, if_neg k5, hu] at this; exact this)
    clear k4 k5 Hed Hdone hu
    have hc : Calls Try.prog 91 #[pv B m d p, .int .i64 (r.nn)] P (BPost P 0 (sDec p (r.nn)) (dDec p (r.nn)) (eDec p (r.nn))) := decideR_c p.st B m d p.lo p.ou (r.nn) p.ad P dP (by omega)
    obtain ⟨q', hq'⟩ : ∃ q, sDec p (r.nn) = q := ⟨_, rfl⟩
    obtain ⟨D', hD'⟩ : ∃ D, dDec p (r.nn) = D := ⟨_, rfl⟩
    obtain ⟨k', hk'⟩ : ∃ k, eDec p (r.nn) = k := ⟨_, rfl⟩
    rw [hq', hk', hD'] at hc
    have Hq := Lib.hid hq'
    have HD := Lib.hid hD'
    have hDl : D'.length ≤ 50 := by rw [← hD']; exact dDec_len hok _
    have HDk := Lib.hid (show KeysP D' by rw [← hD']; exact dDec_keys hok _)
    have He := Lib.hid (He.out.trans hk')
    clear hq' hk' hD'
    go_wp2_with fail
    (with_reducible refine hc.mono ?_)
    rintro e w3 ⟨A6, n6, c6, A7, n7, c7, rfl, d6, d7, b3, _⟩
    obtain ⟨Y, hY⟩ : ∃ V, w3.alloc (.cells #[.int .i64 q'.st, .slice A6 n6 c6, .bool q'.lo, .int .i64 q'.ou] 95) = V := ⟨_, rfl⟩
    have oY : PB Y w3.heap.size 95 q'.st A6 n6 c6 q'.lo q'.ou := by rw [← hY]; exact PB.new _ _ _ _ _ _ _ _
    have bY : Below w3.heap.size w3 Y := by rw [← hY]; exact belA _ _
    have DY := (DP.on b3).on bY
    have dY := d6.on bY
    have HY := Lib.hid hY
    have eY := d7.on bY
    have hz3 := (DP.on b3).z.lt
    have hl7 := d7.len
    clear d7
    clear hY bY b3 hc DP dP oP d6 o0 o1 o2 o3
    clear q0 q1 q2 q3 r0 r1 r2 r3
    go_upto_region 20 with fail
    rw [HY.out]
    obtain ⟨⟨q0, q1, q2, q3⟩, _⟩ := d_cells DY.c
    obtain ⟨r0, r1, r2, r3⟩ := r10_cells DY.r
    by_cases h0 : k' = 0
    rotate_left
    · have h01 : (k' != 0) = true := by simp [h0]
      have Hn := Lib.hid h0
      clear h0
      obtain ⟨⟨y0, y1, y2, y3⟩, f0, f1, f2, f3⟩ := d_cells DY.z
      obtain ⟨U, hU, ⟨v0, v1, v2, v3⟩, mU, lU⟩ := SFin DY.z DY.low (by omega) DY.m
      have HU := Lib.hid hU
      have H := Lib.hid (show SEPost w (sDo s r) log (eDo s r) (.returned (.tuple #[dsv A1 n1 c1 A2 n2 c2 (some ⟨g, off, none⟩) n3 c3 A4 n4 c4, .int .i64 k'])) U from by
        rw [sDo_err (by rw [He.out]; exact Hn.out), He.out]
        exact ⟨_, _, _, _, _, _, _, _, _, _, _, _, rfl, mU, lU⟩)
      clear hU mU lU DY oY dY eY
      go_wp2_with fail
      rw [HU.out]
      exact bodyPost_ret (v := .tuple #[dsv A1 n1 c1 A2 n2 c2 (some ⟨g, off, none⟩) n3 c3 A4 n4 c4, .int .i64 k']) (by simp [results, Try.results60, go_sem, v0, v1, v2, v3]) rfl H.out
    have h01 : (k' != 0) = false := by simp [h0]
    have He0 := Lib.hid (show eDo s r = 0 by rw [He.out]; exact h0)
    clear h0
    obtain ⟨o0, o1, o2, o3⟩ := oY.cells
    have Hev := Lib.hid (fun (U : World) (hc : CB U w.heap.size 30 (dcs A1 n1 c1 A2 n2 c2 (some ⟨g, off, none⟩) n3 c3 A4 n4 c4)) (hr : CB U (w.heap.size + 1) 36 (kcs r)) (ho : PB U w3.heap.size 95 q'.st A6 n6 c6 q'.lo q'.ou) => show (fun W' : World => (W'.cell? ⟨w.heap.size, 0, none⟩ = some (.slice A1 n1 c1) ∧ W'.cell? ⟨w.heap.size, 1, none⟩ = some (.slice A2 n2 c2) ∧ W'.cell? ⟨w.heap.size, 2, none⟩ = some (.slice (some ⟨g, off, none⟩) n3 c3) ∧ W'.cell? ⟨w.heap.size, 3, none⟩ = some (.slice A4 n4 c4)) ∧ (W'.cell? ⟨w3.heap.size, 0, none⟩ = some (.int .i64 q'.st) ∧ W'.cell? ⟨w3.heap.size, 1, none⟩ = some (.slice A6 n6 c6) ∧ W'.cell? ⟨w3.heap.size, 2, none⟩ = some (.bool q'.lo) ∧ W'.cell? ⟨w3.heap.size, 3, none⟩ = some (.int .i64 q'.ou)) ∧ W'.cell? ⟨w.heap.size + 1, 1, none⟩ = some (.int .i64 r.tx)) U from ⟨(d_cells hc).1, ho.cells, (r10_cells hr).2.1⟩)
    have Hc := Lib.hid (Hev.out Y DY.c DY.r oY)
    have hyz := Lib.hid (show w.heap.size + 1 + 1 < w3.heap.size from hz3)
    have hc := with_c A1 n1 c1 A2 n2 c2 (some ⟨g, off, none⟩) n3 c3 A4 n4 c4 s log i q' A6 n6 c6 r.tx p Y.drew (DY.m.on (belowD (Below.refl _ _))) (dY.on (belowD (Below.refl _ _))) hi1 kk3
    have kx := Lib.hid (show ∀ (V : World) (e1 e2 : Nat) (b1 b2 : Option Addr) (b3 b4 : Nat), DR V b1 e1 b3 s.led → HR V b2 e2 b4 s.lk → e1 ≤ 100000 ∧ e2 ≤ 100000 from fun V e1 e2 b1 b2 b3 b4 l1 l2 => by
      have h1 := l1.len
      have h2 := l2.len
      have h4 := right_len hh.good.inv.right hh.good.inv.wf
      have h5 := hh.good.lk
      have h6 := hh.len
      omega)
    go_upto_region 22 with fail
    go_region_held3 (fun W' => (W'.cell? ⟨w.heap.size, 0, none⟩ = some (.slice A1 n1 c1) ∧ W'.cell? ⟨w.heap.size, 1, none⟩ = some (.slice A2 n2 c2) ∧ W'.cell? ⟨w.heap.size, 2, none⟩ = some (.slice (some ⟨g, off, none⟩) n3 c3) ∧ W'.cell? ⟨w.heap.size, 3, none⟩ = some (.slice A4 n4 c4)) ∧ (W'.cell? ⟨w3.heap.size, 0, none⟩ = some (.int .i64 q'.st) ∧ W'.cell? ⟨w3.heap.size, 1, none⟩ = some (.slice A6 n6 c6) ∧ W'.cell? ⟨w3.heap.size, 2, none⟩ = some (.bool q'.lo) ∧ W'.cell? ⟨w3.heap.size, 3, none⟩ = some (.int .i64 q'.ou)) ∧ W'.cell? ⟨w.heap.size + 1, 1, none⟩ = some (.int .i64 r.tx)) (first | exact Hc.out | exact x1.out | exact x2.out | exact x3.out) (first
      | (go_at_call 87; (with_reducible refine hc.mono ?_); rintro e u1 ⟨E1, E1', E1'', E2, E2', E2'', E3, E3', E3'', E4, E4', E4'', rfl, m1, d1⟩; have b1 : Below Y.heap.size Y u1 := below_drew (W := Y) d1; have D1 := DY.on b1; have o1' := oY.on b1; have x1 := Lib.hid (Hev.out u1 D1.c D1.r o1'); have y1 := kx.out u1 _ _ _ _ _ _ m1.led m1.lk; have hc2 := change_c E1 E1' E1'' E2 E2' E2'' E3 E3' E3'' E4 E4' E4'' _ log r.tx A7 n7 c7 D' u1 m1 (eY.on b1) y1.1 y1.2 (by omega))
      | (go_at_call 89; (with_reducible refine hc2.mono ?_); rintro e u2 ⟨F1, F1', F1'', F2, F2', F2'', F3, F3', F3'', F4, F4', F4'', rfl, m2, d2⟩; have D2 := D1.on d2; have o2' := o1'.on d2; have x2 := Lib.hid (Hev.out u2 D2.c D2.r o2'); obtain ⟨⟨y0, y1, y2, y3⟩, f0, f1, f2, f3⟩ := d_cells D2.z; obtain ⟨U, hU, ⟨v0, v1, v2, v3⟩, mU, lU, jU⟩ := SFin2 D2.z D2.low (by omega) m2; have x3 := Lib.hid (Hev.out U (jU.cb D2.c (by omega)) (jU.cb D2.r (by omega)) (jU.cb o2' (by have := hyz.out; omega)))))
    have HU := Lib.hid hU
    have H := Lib.hid (show SEPost w (sDo s r) log (eDo s r) (.returned (.tuple #[dsv F1 F1' F1'' F2 F2' F2'' F3 F3' F3'' F4 F4' F4'', .int .i64 0])) U from by
      rw [He0.out, show sDo s r = ⟨sPut s.led D', fre s.lk r.tx, s.pts.set i (r.tx, q')⟩ by rw [Hd.out He0.out, HD.out, Hq.out, ← Hidx.out]; exact (end_site hh.good.inv hh.at_ HDk.out).symm]
      exact ⟨_, _, _, _, _, _, _, _, _, _, _, _, rfl, mU, lU⟩)
    clear hU mU lU jU x1 x2 x3 D1 D2 o1' o2' m1 m2 d2 d1 b1 DY oY dY eY hc hc2 Hev Hc
    try rw [HU.out]
    go_wp2_with fail
    exact bodyPost_ret (v := .tuple #[dsv F1 F1' F1'' F2 F2' F2'' F3 F3' F3'' F4 F4' F4'', .int .i64 0]) (by simp [results, Try.results60, go_sem, v0, v1, v2, v3]) rfl H.out
  have c11 : (r.nn == 1) = false := by simp [c1]
  by_cases c2 : r.nn = 2
  · have c21 : (r.nn == 2) = true := by simp [c2]
    have hu : outc r.nn = r.nn := by unfold outc; rw [if_pos (.inr c2)]
    clear c1 c2
    have He := Lib.hid (show eDo s r = eDec p (r.nn) by rw [Hed.out, if_neg k4, if_neg k5, hu])
    have Hd := Lib.hid (fun e0 => by have := Hdone.out e0; rw [if_neg k4, if_neg k5, hu] at this; exact this)
    clear k4 k5 Hed Hdone hu
    have hc : Calls Try.prog 91 #[pv B m d p, .int .i64 (r.nn)] P (BPost P 0 (sDec p (r.nn)) (dDec p (r.nn)) (eDec p (r.nn))) := decideR_c p.st B m d p.lo p.ou (r.nn) p.ad P dP (by omega)
    obtain ⟨q', hq'⟩ : ∃ q, sDec p (r.nn) = q := ⟨_, rfl⟩
    obtain ⟨D', hD'⟩ : ∃ D, dDec p (r.nn) = D := ⟨_, rfl⟩
    obtain ⟨k', hk'⟩ : ∃ k, eDec p (r.nn) = k := ⟨_, rfl⟩
    rw [hq', hk', hD'] at hc
    have Hq := Lib.hid hq'
    have HD := Lib.hid hD'
    have hDl : D'.length ≤ 50 := by rw [← hD']; exact dDec_len hok _
    have HDk := Lib.hid (show KeysP D' by rw [← hD']; exact dDec_keys hok _)
    have He := Lib.hid (He.out.trans hk')
    clear hq' hk' hD'
    go_wp2_with fail
    (with_reducible refine hc.mono ?_)
    rintro e w3 ⟨A6, n6, c6, A7, n7, c7, rfl, d6, d7, b3, _⟩
    obtain ⟨Y, hY⟩ : ∃ V, w3.alloc (.cells #[.int .i64 q'.st, .slice A6 n6 c6, .bool q'.lo, .int .i64 q'.ou] 95) = V := ⟨_, rfl⟩
    have oY : PB Y w3.heap.size 95 q'.st A6 n6 c6 q'.lo q'.ou := by rw [← hY]; exact PB.new _ _ _ _ _ _ _ _
    have bY : Below w3.heap.size w3 Y := by rw [← hY]; exact belA _ _
    have DY := (DP.on b3).on bY
    have dY := d6.on bY
    have HY := Lib.hid hY
    have eY := d7.on bY
    have hz3 := (DP.on b3).z.lt
    have hl7 := d7.len
    clear d7
    clear hY bY b3 hc DP dP oP d6 o0 o1 o2 o3
    clear q0 q1 q2 q3 r0 r1 r2 r3
    go_upto_region 20 with fail
    rw [HY.out]
    obtain ⟨⟨q0, q1, q2, q3⟩, _⟩ := d_cells DY.c
    obtain ⟨r0, r1, r2, r3⟩ := r10_cells DY.r
    by_cases h0 : k' = 0
    rotate_left
    · have h01 : (k' != 0) = true := by simp [h0]
      have Hn := Lib.hid h0
      clear h0
      obtain ⟨⟨y0, y1, y2, y3⟩, f0, f1, f2, f3⟩ := d_cells DY.z
      obtain ⟨U, hU, ⟨v0, v1, v2, v3⟩, mU, lU⟩ := SFin DY.z DY.low (by omega) DY.m
      have HU := Lib.hid hU
      have H := Lib.hid (show SEPost w (sDo s r) log (eDo s r) (.returned (.tuple #[dsv A1 n1 c1 A2 n2 c2 (some ⟨g, off, none⟩) n3 c3 A4 n4 c4, .int .i64 k'])) U from by
        rw [sDo_err (by rw [He.out]; exact Hn.out), He.out]
        exact ⟨_, _, _, _, _, _, _, _, _, _, _, _, rfl, mU, lU⟩)
      clear hU mU lU DY oY dY eY
      go_wp2_with fail
      rw [HU.out]
      exact bodyPost_ret (v := .tuple #[dsv A1 n1 c1 A2 n2 c2 (some ⟨g, off, none⟩) n3 c3 A4 n4 c4, .int .i64 k']) (by simp [results, Try.results60, go_sem, v0, v1, v2, v3]) rfl H.out
    have h01 : (k' != 0) = false := by simp [h0]
    have He0 := Lib.hid (show eDo s r = 0 by rw [He.out]; exact h0)
    clear h0
    obtain ⟨o0, o1, o2, o3⟩ := oY.cells
    have Hev := Lib.hid (fun (U : World) (hc : CB U w.heap.size 30 (dcs A1 n1 c1 A2 n2 c2 (some ⟨g, off, none⟩) n3 c3 A4 n4 c4)) (hr : CB U (w.heap.size + 1) 36 (kcs r)) (ho : PB U w3.heap.size 95 q'.st A6 n6 c6 q'.lo q'.ou) => show (fun W' : World => (W'.cell? ⟨w.heap.size, 0, none⟩ = some (.slice A1 n1 c1) ∧ W'.cell? ⟨w.heap.size, 1, none⟩ = some (.slice A2 n2 c2) ∧ W'.cell? ⟨w.heap.size, 2, none⟩ = some (.slice (some ⟨g, off, none⟩) n3 c3) ∧ W'.cell? ⟨w.heap.size, 3, none⟩ = some (.slice A4 n4 c4)) ∧ (W'.cell? ⟨w3.heap.size, 0, none⟩ = some (.int .i64 q'.st) ∧ W'.cell? ⟨w3.heap.size, 1, none⟩ = some (.slice A6 n6 c6) ∧ W'.cell? ⟨w3.heap.size, 2, none⟩ = some (.bool q'.lo) ∧ W'.cell? ⟨w3.heap.size, 3, none⟩ = some (.int .i64 q'.ou)) ∧ W'.cell? ⟨w.heap.size + 1, 1, none⟩ = some (.int .i64 r.tx)) U from ⟨(d_cells hc).1, ho.cells, (r10_cells hr).2.1⟩)
    have Hc := Lib.hid (Hev.out Y DY.c DY.r oY)
    have hyz := Lib.hid (show w.heap.size + 1 + 1 < w3.heap.size from hz3)
    have hc := with_c A1 n1 c1 A2 n2 c2 (some ⟨g, off, none⟩) n3 c3 A4 n4 c4 s log i q' A6 n6 c6 r.tx p Y.drew (DY.m.on (belowD (Below.refl _ _))) (dY.on (belowD (Below.refl _ _))) hi1 kk3
    have kx := Lib.hid (show ∀ (V : World) (e1 e2 : Nat) (b1 b2 : Option Addr) (b3 b4 : Nat), DR V b1 e1 b3 s.led → HR V b2 e2 b4 s.lk → e1 ≤ 100000 ∧ e2 ≤ 100000 from fun V e1 e2 b1 b2 b3 b4 l1 l2 => by
      have h1 := l1.len
      have h2 := l2.len
      have h4 := right_len hh.good.inv.right hh.good.inv.wf
      have h5 := hh.good.lk
      have h6 := hh.len
      omega)
    go_upto_region 22 with fail
    go_region_held3 (fun W' => (W'.cell? ⟨w.heap.size, 0, none⟩ = some (.slice A1 n1 c1) ∧ W'.cell? ⟨w.heap.size, 1, none⟩ = some (.slice A2 n2 c2) ∧ W'.cell? ⟨w.heap.size, 2, none⟩ = some (.slice (some ⟨g, off, none⟩) n3 c3) ∧ W'.cell? ⟨w.heap.size, 3, none⟩ = some (.slice A4 n4 c4)) ∧ (W'.cell? ⟨w3.heap.size, 0, none⟩ = some (.int .i64 q'.st) ∧ W'.cell? ⟨w3.heap.size, 1, none⟩ = some (.slice A6 n6 c6) ∧ W'.cell? ⟨w3.heap.size, 2, none⟩ = some (.bool q'.lo) ∧ W'.cell? ⟨w3.heap.size, 3, none⟩ = some (.int .i64 q'.ou)) ∧ W'.cell? ⟨w.heap.size + 1, 1, none⟩ = some (.int .i64 r.tx)) (first | exact Hc.out | exact x1.out | exact x2.out | exact x3.out) (first
      | (go_at_call 87; (with_reducible refine hc.mono ?_); rintro e u1 ⟨E1, E1', E1'', E2, E2', E2'', E3, E3', E3'', E4, E4', E4'', rfl, m1, d1⟩; have b1 : Below Y.heap.size Y u1 := below_drew (W := Y) d1; have D1 := DY.on b1; have o1' := oY.on b1; have x1 := Lib.hid (Hev.out u1 D1.c D1.r o1'); have y1 := kx.out u1 _ _ _ _ _ _ m1.led m1.lk; have hc2 := change_c E1 E1' E1'' E2 E2' E2'' E3 E3' E3'' E4 E4' E4'' _ log r.tx A7 n7 c7 D' u1 m1 (eY.on b1) y1.1 y1.2 (by omega))
      | (go_at_call 89; (with_reducible refine hc2.mono ?_); rintro e u2 ⟨F1, F1', F1'', F2, F2', F2'', F3, F3', F3'', F4, F4', F4'', rfl, m2, d2⟩; have D2 := D1.on d2; have o2' := o1'.on d2; have x2 := Lib.hid (Hev.out u2 D2.c D2.r o2'); obtain ⟨⟨y0, y1, y2, y3⟩, f0, f1, f2, f3⟩ := d_cells D2.z; obtain ⟨U, hU, ⟨v0, v1, v2, v3⟩, mU, lU, jU⟩ := SFin2 D2.z D2.low (by omega) m2; have x3 := Lib.hid (Hev.out U (jU.cb D2.c (by omega)) (jU.cb D2.r (by omega)) (jU.cb o2' (by have := hyz.out; omega)))))
    have HU := Lib.hid hU
    have H := Lib.hid (show SEPost w (sDo s r) log (eDo s r) (.returned (.tuple #[dsv F1 F1' F1'' F2 F2' F2'' F3 F3' F3'' F4 F4' F4'', .int .i64 0])) U from by
      rw [He0.out, show sDo s r = ⟨sPut s.led D', fre s.lk r.tx, s.pts.set i (r.tx, q')⟩ by rw [Hd.out He0.out, HD.out, Hq.out, ← Hidx.out]; exact (end_site hh.good.inv hh.at_ HDk.out).symm]
      exact ⟨_, _, _, _, _, _, _, _, _, _, _, _, rfl, mU, lU⟩)
    clear hU mU lU jU x1 x2 x3 D1 D2 o1' o2' m1 m2 d2 d1 b1 DY oY dY eY hc hc2 Hev Hc
    try rw [HU.out]
    go_wp2_with fail
    exact bodyPost_ret (v := .tuple #[dsv F1 F1' F1'' F2 F2' F2'' F3 F3' F3'' F4 F4' F4'', .int .i64 0]) (by simp [results, Try.results60, go_sem, v0, v1, v2, v3]) rfl H.out
  have c21 : (r.nn == 2) = false := by simp [c2]
  have hu : outc r.nn = 0 := by unfold outc; rw [if_neg (fun k => k.elim c1 c2)]
  clear c1 c2
  have He := Lib.hid (show eDo s r = eDec p (0) by rw [Hed.out, if_neg k4, if_neg k5, hu])
  have Hd := Lib.hid (fun e0 => by have := Hdone.out e0; rw [if_neg k4, if_neg k5, hu] at this; exact this)
  clear k4 k5 Hed Hdone hu
  have hc : Calls Try.prog 91 #[pv B m d p, .int .i64 (0)] P (BPost P 0 (sDec p (0)) (dDec p (0)) (eDec p (0))) := decideR_c p.st B m d p.lo p.ou (0) p.ad P dP (by omega)
  obtain ⟨q', hq'⟩ : ∃ q, sDec p (0) = q := ⟨_, rfl⟩
  obtain ⟨D', hD'⟩ : ∃ D, dDec p (0) = D := ⟨_, rfl⟩
  obtain ⟨k', hk'⟩ : ∃ k, eDec p (0) = k := ⟨_, rfl⟩
  rw [hq', hk', hD'] at hc
  have Hq := Lib.hid hq'
  have HD := Lib.hid hD'
  have hDl : D'.length ≤ 50 := by rw [← hD']; exact dDec_len hok _
  have HDk := Lib.hid (show KeysP D' by rw [← hD']; exact dDec_keys hok _)
  have He := Lib.hid (He.out.trans hk')
  clear hq' hk' hD'
  go_wp2_with fail
  (with_reducible refine hc.mono ?_)
  rintro e w3 ⟨A6, n6, c6, A7, n7, c7, rfl, d6, d7, b3, _⟩
  obtain ⟨Y, hY⟩ : ∃ V, w3.alloc (.cells #[.int .i64 q'.st, .slice A6 n6 c6, .bool q'.lo, .int .i64 q'.ou] 95) = V := ⟨_, rfl⟩
  have oY : PB Y w3.heap.size 95 q'.st A6 n6 c6 q'.lo q'.ou := by rw [← hY]; exact PB.new _ _ _ _ _ _ _ _
  have bY : Below w3.heap.size w3 Y := by rw [← hY]; exact belA _ _
  have DY := (DP.on b3).on bY
  have dY := d6.on bY
  have HY := Lib.hid hY
  have eY := d7.on bY
  have hz3 := (DP.on b3).z.lt
  have hl7 := d7.len
  clear d7
  clear hY bY b3 hc DP dP oP d6 o0 o1 o2 o3
  clear q0 q1 q2 q3 r0 r1 r2 r3
  go_upto_region 20 with fail
  rw [HY.out]
  obtain ⟨⟨q0, q1, q2, q3⟩, _⟩ := d_cells DY.c
  obtain ⟨r0, r1, r2, r3⟩ := r10_cells DY.r
  by_cases h0 : k' = 0
  rotate_left
  · have h01 : (k' != 0) = true := by simp [h0]
    have Hn := Lib.hid h0
    clear h0
    obtain ⟨⟨y0, y1, y2, y3⟩, f0, f1, f2, f3⟩ := d_cells DY.z
    obtain ⟨U, hU, ⟨v0, v1, v2, v3⟩, mU, lU⟩ := SFin DY.z DY.low (by omega) DY.m
    have HU := Lib.hid hU
    have H := Lib.hid (show SEPost w (sDo s r) log (eDo s r) (.returned (.tuple #[dsv A1 n1 c1 A2 n2 c2 (some ⟨g, off, none⟩) n3 c3 A4 n4 c4, .int .i64 k'])) U from by
      rw [sDo_err (by rw [He.out]; exact Hn.out), He.out]
      exact ⟨_, _, _, _, _, _, _, _, _, _, _, _, rfl, mU, lU⟩)
    clear hU mU lU DY oY dY eY
    go_wp2_with fail
    rw [HU.out]
    exact bodyPost_ret (v := .tuple #[dsv A1 n1 c1 A2 n2 c2 (some ⟨g, off, none⟩) n3 c3 A4 n4 c4, .int .i64 k']) (by simp [results, Try.results60, go_sem, v0, v1, v2, v3]) rfl H.out
  have h01 : (k' != 0) = false := by simp [h0]
  have He0 := Lib.hid (show eDo s r = 0 by rw [He.out]; exact h0)
  clear h0
  obtain ⟨o0, o1, o2, o3⟩ := oY.cells
  have Hev := Lib.hid (fun (U : World) (hc : CB U w.heap.size 30 (dcs A1 n1 c1 A2 n2 c2 (some ⟨g, off, none⟩) n3 c3 A4 n4 c4)) (hr : CB U (w.heap.size + 1) 36 (kcs r)) (ho : PB U w3.heap.size 95 q'.st A6 n6 c6 q'.lo q'.ou) => show (fun W' : World => (W'.cell? ⟨w.heap.size, 0, none⟩ = some (.slice A1 n1 c1) ∧ W'.cell? ⟨w.heap.size, 1, none⟩ = some (.slice A2 n2 c2) ∧ W'.cell? ⟨w.heap.size, 2, none⟩ = some (.slice (some ⟨g, off, none⟩) n3 c3) ∧ W'.cell? ⟨w.heap.size, 3, none⟩ = some (.slice A4 n4 c4)) ∧ (W'.cell? ⟨w3.heap.size, 0, none⟩ = some (.int .i64 q'.st) ∧ W'.cell? ⟨w3.heap.size, 1, none⟩ = some (.slice A6 n6 c6) ∧ W'.cell? ⟨w3.heap.size, 2, none⟩ = some (.bool q'.lo) ∧ W'.cell? ⟨w3.heap.size, 3, none⟩ = some (.int .i64 q'.ou)) ∧ W'.cell? ⟨w.heap.size + 1, 1, none⟩ = some (.int .i64 r.tx)) U from ⟨(d_cells hc).1, ho.cells, (r10_cells hr).2.1⟩)
  have Hc := Lib.hid (Hev.out Y DY.c DY.r oY)
  have hyz := Lib.hid (show w.heap.size + 1 + 1 < w3.heap.size from hz3)
  have hc := with_c A1 n1 c1 A2 n2 c2 (some ⟨g, off, none⟩) n3 c3 A4 n4 c4 s log i q' A6 n6 c6 r.tx p Y.drew (DY.m.on (belowD (Below.refl _ _))) (dY.on (belowD (Below.refl _ _))) hi1 kk3
  have kx := Lib.hid (show ∀ (V : World) (e1 e2 : Nat) (b1 b2 : Option Addr) (b3 b4 : Nat), DR V b1 e1 b3 s.led → HR V b2 e2 b4 s.lk → e1 ≤ 100000 ∧ e2 ≤ 100000 from fun V e1 e2 b1 b2 b3 b4 l1 l2 => by
    have h1 := l1.len
    have h2 := l2.len
    have h4 := right_len hh.good.inv.right hh.good.inv.wf
    have h5 := hh.good.lk
    have h6 := hh.len
    omega)
  go_upto_region 22 with fail
  go_region_held3 (fun W' => (W'.cell? ⟨w.heap.size, 0, none⟩ = some (.slice A1 n1 c1) ∧ W'.cell? ⟨w.heap.size, 1, none⟩ = some (.slice A2 n2 c2) ∧ W'.cell? ⟨w.heap.size, 2, none⟩ = some (.slice (some ⟨g, off, none⟩) n3 c3) ∧ W'.cell? ⟨w.heap.size, 3, none⟩ = some (.slice A4 n4 c4)) ∧ (W'.cell? ⟨w3.heap.size, 0, none⟩ = some (.int .i64 q'.st) ∧ W'.cell? ⟨w3.heap.size, 1, none⟩ = some (.slice A6 n6 c6) ∧ W'.cell? ⟨w3.heap.size, 2, none⟩ = some (.bool q'.lo) ∧ W'.cell? ⟨w3.heap.size, 3, none⟩ = some (.int .i64 q'.ou)) ∧ W'.cell? ⟨w.heap.size + 1, 1, none⟩ = some (.int .i64 r.tx)) (first | exact Hc.out | exact x1.out | exact x2.out | exact x3.out) (first
    | (go_at_call 87; (with_reducible refine hc.mono ?_); rintro e u1 ⟨E1, E1', E1'', E2, E2', E2'', E3, E3', E3'', E4, E4', E4'', rfl, m1, d1⟩; have b1 : Below Y.heap.size Y u1 := below_drew (W := Y) d1; have D1 := DY.on b1; have o1' := oY.on b1; have x1 := Lib.hid (Hev.out u1 D1.c D1.r o1'); have y1 := kx.out u1 _ _ _ _ _ _ m1.led m1.lk; have hc2 := change_c E1 E1' E1'' E2 E2' E2'' E3 E3' E3'' E4 E4' E4'' _ log r.tx A7 n7 c7 D' u1 m1 (eY.on b1) y1.1 y1.2 (by omega))
    | (go_at_call 89; (with_reducible refine hc2.mono ?_); rintro e u2 ⟨F1, F1', F1'', F2, F2', F2'', F3, F3', F3'', F4, F4', F4'', rfl, m2, d2⟩; have D2 := D1.on d2; have o2' := o1'.on d2; have x2 := Lib.hid (Hev.out u2 D2.c D2.r o2'); obtain ⟨⟨y0, y1, y2, y3⟩, f0, f1, f2, f3⟩ := d_cells D2.z; obtain ⟨U, hU, ⟨v0, v1, v2, v3⟩, mU, lU, jU⟩ := SFin2 D2.z D2.low (by omega) m2; have x3 := Lib.hid (Hev.out U (jU.cb D2.c (by omega)) (jU.cb D2.r (by omega)) (jU.cb o2' (by have := hyz.out; omega)))))
  have HU := Lib.hid hU
  have H := Lib.hid (show SEPost w (sDo s r) log (eDo s r) (.returned (.tuple #[dsv F1 F1' F1'' F2 F2' F2'' F3 F3' F3'' F4 F4' F4'', .int .i64 0])) U from by
    rw [He0.out, show sDo s r = ⟨sPut s.led D', fre s.lk r.tx, s.pts.set i (r.tx, q')⟩ by rw [Hd.out He0.out, HD.out, Hq.out, ← Hidx.out]; exact (end_site hh.good.inv hh.at_ HDk.out).symm]
    exact ⟨_, _, _, _, _, _, _, _, _, _, _, _, rfl, mU, lU⟩)
  clear hU mU lU jU x1 x2 x3 D1 D2 o1' o2' m1 m2 d2 d1 b1 DY oY dY eY hc hc2 Hev Hc
  try rw [HU.out]
  go_wp2_with fail
  exact bodyPost_ret (v := .tuple #[dsv F1 F1' F1'' F2 F2' F2'' F3 F3' F3'' F4 F4' F4'', .int .i64 0]) (by simp [results, Try.results60, go_sem, v0, v1, v2, v3]) rfl H.out
end Go.Proofs.Ytealcccjnmfkcaa
