/-
  What a call makes of a site, ahead of its being stored: after; the site's small functions: created, inRange. Conditions: the site is such as SR says, the call's numbers such as their types hold.
-/
import Derived.Test.YtealcccjnmfkcaaYSiD
import Derived.Deep.CutRange
import Derived.RegionTactic
set_option linter.unusedVariables false
set_option linter.unusedSimpArgs false
namespace Go.Proofs.Ytealcccjnmfkcaa
open Go.RowKit

theorem Ps.at_ {w : World} {f : Int → Option Value} {l : List (Int × Pt)} (h : Ps w f l) (tx : Int) : ∃ A n c, (f tx).getD pz = pv A n c ((fnd l tx).getD p0) ∧ DS w A n c ((fnd l tx).getD p0).ad ∧ (f tx).isSome = (fnd l tx).isSome := by
  have := h tx
  cases hf : fnd l tx with
  | none =>
    rw [hf] at this
    have h' : f tx = none := this
    rw [h']
    exact ⟨none, 0, 0, rfl, RS.nil _ _ _ _, rfl⟩
  | some p =>
    rw [hf] at this
    obtain ⟨A, n, c, h1, h2⟩ := this
    rw [h1]
    exact ⟨A, n, c, rfl, h2, rfl⟩
/-- A turn is stored as the result, wherever the result lies. -/
theorem fin_at {w W : World} {bz : Nat} (hz : CB W bz 92 tz) (hl : Below w.heap.size w W) (hb : w.heap.size ≤ bz) {A' : Option Addr} {n' c' : Nat} {A2' : Option Addr} {n2' c2' : Nat} {A3' : Option Addr} {n3' c3' : Nat} {t' : Tn} (hm : TM W A' n' c' A2' n2' c2' A3' n3' c3' t') (k : Int) :
    ∃ V, ((((((W.setCell ⟨bz, 0, none⟩ (.int .i64 t'.own.st)).setCell ⟨bz, 1, none⟩ (.slice A' n' c')).setCell ⟨bz, 2, none⟩ (.bool t'.own.lo)).setCell ⟨bz, 3, none⟩ (.int .i64 t'.own.ou)).setCell ⟨bz, 4, none⟩ (.slice A2' n2' c2')).setCell ⟨bz, 5, none⟩ (.slice A3' n3' c3')).setCell ⟨bz, 6, none⟩ (.int .i64 t'.sn) = V ∧
      (V.cell? ⟨bz, 0, none⟩ = some (.int .i64 t'.own.st) ∧ V.cell? ⟨bz, 1, none⟩ = some (.slice A' n' c') ∧ V.cell? ⟨bz, 2, none⟩ = some (.bool t'.own.lo) ∧ V.cell? ⟨bz, 3, none⟩ = some (.int .i64 t'.own.ou) ∧ V.cell? ⟨bz, 4, none⟩ = some (.slice A2' n2' c2') ∧ V.cell? ⟨bz, 5, none⟩ = some (.slice A3' n3' c3') ∧ V.cell? ⟨bz, 6, none⟩ = some (.int .i64 t'.sn)) ∧
      UPost w t' k (.returned (.tuple #[tv t'.own A' n' c' A2' n2' c2' A3' n3' c3' t'.sn, .int .i64 k])) V := by
  obtain ⟨V, hV, hb', hj⟩ := turn_all hz rfl t'.own A' n' c' A2' n2' c2' A3' n3' c3' t'.sn
  exact ⟨V, hV, ⟨hb'.cell 0, hb'.cell 1, hb'.cell 2, hb'.cell 3, hb'.cell 4, hb'.cell 5, hb'.cell 6⟩, A', n', c', A2', n2', c2', A3', n3', c3', rfl, hm.just hz Try.neDT Try.neHT hj, hj.low hl hb⟩
theorem z_cells {W : World} {bz : Nat} (h : CB W bz 92 tz) : (W.cell? ⟨bz, 0, none⟩ = some (.int .i64 0) ∧ W.cell? ⟨bz, 1, none⟩ = some (.slice none 0 0) ∧ W.cell? ⟨bz, 2, none⟩ = some (.bool false) ∧ W.cell? ⟨bz, 3, none⟩ = some (.int .i64 0) ∧ W.cell? ⟨bz, 4, none⟩ = some (.slice none 0 0) ∧ W.cell? ⟨bz, 5, none⟩ = some (.slice none 0 0) ∧ W.cell? ⟨bz, 6, none⟩ = some (.int .i64 0)) ∧
    W.frozen? ⟨bz, 0, none⟩ = false ∧ W.frozen? ⟨bz, 1, none⟩ = false ∧ W.frozen? ⟨bz, 2, none⟩ = false ∧ W.frozen? ⟨bz, 3, none⟩ = false ∧ W.frozen? ⟨bz, 4, none⟩ = false ∧ W.frozen? ⟨bz, 5, none⟩ = false ∧ W.frozen? ⟨bz, 6, none⟩ = false :=
  ⟨⟨h.cell 0, h.cell 1, h.cell 2, h.cell 3, h.cell 4, h.cell 5, h.cell 6⟩, h.frozen 0, h.frozen 1, h.frozen 2, h.frozen 3, h.frozen 4, h.frozen 5, h.frozen 6⟩
theorem t_cells {W : World} {d : Nat} {p : Pt} {A : Option Addr} {n c : Nat} {A2 : Option Addr} {n2 c2 : Nat} {A3 : Option Addr} {n3 c3 : Nat} {sn : Int} (h : CB W d 92 (tcs p A n c A2 n2 c2 A3 n3 c3 sn)) : W.cell? ⟨d, 0, none⟩ = some (.int .i64 p.st) ∧ W.cell? ⟨d, 1, none⟩ = some (.slice A n c) ∧ W.cell? ⟨d, 2, none⟩ = some (.bool p.lo) ∧ W.cell? ⟨d, 3, none⟩ = some (.int .i64 p.ou) ∧ W.cell? ⟨d, 4, none⟩ = some (.slice A2 n2 c2) ∧ W.cell? ⟨d, 5, none⟩ = some (.slice A3 n3 c3) ∧ W.cell? ⟨d, 6, none⟩ = some (.int .i64 sn) :=
  ⟨h.cell 0, h.cell 1, h.cell 2, h.cell 3, h.cell 4, h.cell 5, h.cell 6⟩

set_option maxRecDepth 100000 in
set_option maxHeartbeats 1000000 in
theorem created_c (b m : Nat) (u v x : Value) (w : World) (hb : CB w b 63 #[u, v, .map (some m), x]) :
    Calls Try.prog 34 #[.pointer (some ⟨b, 0, none⟩)] w fun e w' => e = .returned (.bool true) ∧ w' = w := by
  have c0 := hb.cell 2
  simp at c0
  have hne : ∀ W : World, (binOp BinOp.neq 61 (Value.map (some m)) (Value.map none)).run Try.prog W = .ok (.bool true) W := fun W => by rfl
  go_enter Try.func34, Try.ntmps34
  go_wp2_with fail
  go_ret
  exact ⟨rfl, rfl⟩

set_option maxHeartbeats 1000000 in
theorem inRange10_c (r : Rc) (w : World) : Calls Try.prog 35 #[kv r] w fun e w' => e = .returned (.bool (inR r)) ∧ Below w.heap.size w w' := by
  obtain ⟨W, hW⟩ : ∃ W, w.alloc (.cells (kcs r) 35) = W := ⟨_, rfl⟩
  have hr : CB W w.heap.size 35 (kcs r) := by rw [← hW]; exact CB.new _ _ _
  have hb : Below w.heap.size w W := by rw [← hW]; exact belA _ _
  obtain ⟨r0, r1, r2, r3⟩ := rec_cells hr
  have HW := Lib.hid hW
  have HR := Lib.hid (show inR r = (decide (1 ≤ r.kd) && decide (r.kd ≤ 6) && decide (0 ≤ r.tx) && decide (r.tx < 1000)) from rfl)
  generalize inR r = x at *
  clear hW hr
  go_enter Try.func35, Try.ntmps35
  by_cases h1 : 1 ≤ r.kd
  · have h1' : decide (1 ≤ r.kd) = true := decide_eq_true h1
    clear h1
    by_cases h2 : r.kd ≤ 6
    · have h2' : decide (r.kd ≤ 6) = true := decide_eq_true h2
      clear h2
      by_cases h3 : 0 ≤ r.tx
      · have h3' : decide (0 ≤ r.tx) = true := decide_eq_true h3
        clear h3
        have H := Lib.hid (show x = decide (r.tx < 1000) by rw [HR.out, h1', h2', h3']; rfl)
        go_upto_region 1 with fail
        rw [HW.out]
        go_wp2_with fail
        go_ret
        exact ⟨by rw [H.out]; rfl, hb⟩
      · have h3' : decide (0 ≤ r.tx) = false := decide_eq_false h3
        clear h3
        have H := Lib.hid (show x = false by rw [HR.out, h1', h2', h3']; rfl)
        go_upto_region 1 with fail
        rw [HW.out]
        go_wp2_with fail
        go_ret
        exact ⟨by rw [H.out]; rfl, hb⟩
    · have h2' : decide (r.kd ≤ 6) = false := decide_eq_false h2
      clear h2
      have H := Lib.hid (show x = false by rw [HR.out, h1', h2']; rfl)
      go_upto_region 1 with fail
      rw [HW.out]
      go_wp2_with fail
      go_ret
      exact ⟨by rw [H.out]; rfl, hb⟩
  · have h1' : decide (1 ≤ r.kd) = false := decide_eq_false h1
    clear h1
    have H := Lib.hid (show x = false by rw [HR.out, h1']; rfl)
    go_upto_region 1 with fail
    rw [HW.out]
    go_wp2_with fail
    go_ret
    exact ⟨by rw [H.out]; rfl, hb⟩

set_option maxRecDepth 100000 in
set_option maxHeartbeats 4000000 in
theorem after_c (b m : Nat) (G : Option Nat) (s : Si) (log : List Rc) (r : Rc) (w : World) (h : SR w b m G s log) (hr : RcOk r) (hl : log.length ≤ 5000) :
    Calls Try.prog 36 #[.pointer (some ⟨b, 0, none⟩), kv r] w (UPost w (tAft s r) (kAft s r)) := by
  have hto := Lib.hid (tIn_ok h.good hl r)
  obtain ⟨⟨A3, n3, c3, A2, n2, c2, A4, n4, c4, f, h1, h2, h3, h4, h5, h6⟩, hg⟩ := h
  obtain ⟨A, n, c, p1, p2, p3⟩ := h6.at_ r.tx
  obtain ⟨W, hW⟩ : ∃ W, (w.alloc (.cells (kcs r) 35)).alloc (.cells tz 92) = W := ⟨_, rfl⟩
  have bW : Below w.heap.size w W := by rw [← hW]; exact bel2 (belA _ _) (belA _ _)
  have rW : CB W w.heap.size 35 (kcs r) := by rw [← hW]; exact (CB.new _ _ _).alloc _
  have zW : CB W (w.heap.size + 1) 92 tz := by
    rw [← hW]
    have := CB.new (w.alloc (.cells (kcs r) 35)) 92 tz
    simpa using this
  have lW := Lib.hid (show W.heap.size = w.heap.size + 1 + 1 by rw [← hW]; simp)
  have HW := Lib.hid hW
  clear hW
  obtain ⟨own, how⟩ : ∃ own, (fnd s.pts r.tx).getD p0 = own := ⟨_, rfl⟩
  obtain ⟨is, his⟩ : ∃ is, (fnd s.pts r.tx).isSome = is := ⟨_, rfl⟩
  rw [how] at p1 p2
  rw [his] at p3
  have bX : Below W.heap.size W W.drew := belowD (Below.refl _ _)
  have look : (Instr.lookup 61 (.map (some m)) (.int .i64 r.tx) true).run Try.prog W.drew = .ok (.tuple #[pv A n c own, .bool is]) W.drew := by
    have := MF.look (w := W.drew) ((h4.on bW).on bX) (wfI hr.tx)
    rw [p1, p3] at this
    exact this
  have bY : Below W.heap.size W (W.alloc (.cells #[.int .i64 0, .slice none 0 0, .bool false, .int .i64 0] 40)).drew := belowD (belA _ _)
  have look2 : (Instr.lookup 61 (.map (some m)) (.int .i64 r.tx) true).run Try.prog (W.alloc (.cells #[.int .i64 0, .slice none 0 0, .bool false, .int .i64 0] 40)).drew = .ok (.tuple #[pv A n c own, .bool is]) (W.alloc (.cells #[.int .i64 0, .slice none 0 0, .bool false, .int .i64 0] 40)).drew := by
    have := MF.look (w := (W.alloc (.cells #[.int .i64 0, .slice none 0 0, .bool false, .int .i64 0] 40)).drew) ((h4.on bW).on bY) (wfI hr.tx)
    rw [p1, p3] at this
    exact this
  have hsW := h1.on bW
  have s0 := hsW.cell 0
  have s1 := hsW.cell 1
  have s2 := hsW.cell 2
  simp only [List.getElem?_toArray, List.getElem?_cons_zero, List.getElem?_cons_succ] at s0 s1 s2
  obtain ⟨r0, r1, r2, r3⟩ := rec_cells rW
  have s2' := (hsW.on bY).cell 2
  simp only [List.getElem?_toArray, List.getElem?_cons_zero, List.getElem?_cons_succ] at s2'
  obtain ⟨r0', r1', r2', r3'⟩ := rec_cells (rW.on bY)
  have htm : TM W A n c A2 n2 c2 A3 n3 c3 ⟨own, s.lk, s.led, 0⟩ := TM.on (W := w) ⟨p2, h3, h2⟩ bW
  have hti := Lib.hid (show tIn s r = ⟨own, s.lk, s.led, 0⟩ by unfold tIn; rw [how])
  have Ka := Lib.hid (show kAft s r = _ from rfl)
  have His := Lib.hid his
  clear h1 h2 h3 h4 h5 h6 hg p1 p2 p3 how his
  go_enter Try.func36, Try.ntmps36
  go_upto_region 1 with fail
  rw [HW.out]
  go_cut [6, 7] from 9 to 18 (fun s6 s7 wx => s6 = .pointer (some ⟨W.heap.size, 0, none⟩) ∧ s7 = .bool is ∧ PB wx W.heap.size 40 own.st A n c own.lo own.ou ∧ Below W.heap.size W wx)
  case first =>
    go_region
    all_goals (go_wp2_with fail; go_meet; case rel => exact ⟨rfl, rfl, PB.new W _ _ _ _ _ _ _, belowD (belA W _)⟩)
  case rest =>
    obtain ⟨rfl, rfl, po, bc⟩ := hcut
    have hlt := Lib.hid po.lt
    have hsV := hsW.on bc
    have rV := rW.on bc
    have zV := zW.on bc
    have tV := htm.on bc
    have lV := Lib.hid (bel2 bW bc)
    clear look look2 hsW rW zW htm bW bc s0 s1 s2 s2' r0 r1 r2 r3 r0' r1' r2' r3' bX bY
    have bY : Below wc.heap.size wc (wc.alloc (.cells tz 92)).drew := belowD (belA _ _)
    obtain ⟨o0, o1, o2, o3⟩ := po.cells
    have s0 := hsV.cell 0
    have s1 := hsV.cell 1
    have s0' := (hsV.on bY).cell 0
    have s1' := (hsV.on bY).cell 1
    simp only [List.getElem?_toArray, List.getElem?_cons_zero, List.getElem?_cons_succ] at s0 s1 s0' s1'
    obtain ⟨o0', o1', o2', o3'⟩ := (po.on bY).cells
    go_upto_region 2 with fail
    go_cut [8] from 19 to 28 (fun s8 wx => s8 = .pointer (some ⟨wc.heap.size, 0, none⟩) ∧ CB wx wc.heap.size 92 (tcs own A n c A2 n2 c2 A3 n3 c3 0) ∧ Below wc.heap.size wc wx)
    case first =>
      go_region
      all_goals (go_wp2_with fail; go_meet; case rel => exact ⟨rfl, CB.new wc _ _, belowD (belA wc _)⟩)
    case rest =>
      obtain ⟨rfl, nb, bc2⟩ := hcut
      have rX := rV.on bc2
      have zX := zV.on bc2
      have tX := tV.on bc2
      have lX := bel2 lV.out bc2
      have Hto : TOk ⟨own, s.lk, s.led, 0⟩ := by rw [← hti.out]; exact hto.out
      clear po hsV rV zV tV bY o0 o1 o2 o3 s0 s1 s0' s1' o0' o1' o2' o3' bc2 hto
      obtain ⟨q0, q1, q2, q3, q4, q5, q6⟩ := t_cells nb
      obtain ⟨r0, r1, r2, r3⟩ := rec_cells rX
      by_cases k1 : r.kd = 1
      · have k1' : (r.kd == 1) = true := by simp [k1]
        have hc := begin_c ⟨own, s.lk, s.led, 0⟩ A n c A2 n2 c2 A3 n3 c3 is wc tX Hto
        have Ht := Lib.hid (show tAft s r = tBeg ⟨own, s.lk, s.led, 0⟩ is by unfold tAft; rw [if_pos k1, hti.out, His.out])
        have Hk := Lib.hid (show kAft s r = kBeg is by unfold kAft; rw [if_pos k1, His.out])
        obtain ⟨t', ht'⟩ : ∃ t', tBeg ⟨own, s.lk, s.led, 0⟩ is = t' := ⟨_, rfl⟩
        obtain ⟨k', hk'⟩ : ∃ k', kBeg is = k' := ⟨_, rfl⟩
        rw [ht', hk'] at hc
        rw [ht'] at Ht
        rw [hk'] at Hk
        clear ht' hk' k1
        go_wp2_with fail
        (with_reducible refine hc.mono ?_)
        rintro e w1 ⟨A', n', c', A2', n2', c2', A3', n3', c3', rfl, hm1, b1⟩
        obtain ⟨⟨y0, y1, y2, y3, y4, y5, y6⟩, z0, z1, z2, z3, z4, z5, z6⟩ := z_cells (zX.on b1)
        obtain ⟨U, hU, ⟨v0, v1, v2, v3, v4, v5, v6⟩, hP⟩ := fin_at (w := w) (zX.on b1) (bel2 lX b1) (by omega) hm1 (k')
        have HU := Lib.hid hU
        have HP := Lib.hid hP
        clear hU hP
        clear hc b1 hm1
        clear nb rX zX tX lX
        go_wp2_with fail
        rw [HU.out]
        exact bodyPost_ret (v := .tuple #[tv (Tn.own t') A' n' c' A2' n2' c2' A3' n3' c3' (Tn.sn t'), .int .i64 (k')]) (by simp [results, Try.results36, go_sem, v0, v1, v2, v3, v4, v5, v6]) rfl (by rw [Hk.out, Ht.out]; exact HP.out)
      have k1' : (r.kd == 1) = false := by simp [k1]
      cases is with
      | false =>
        have Ht := Lib.hid (show tAft s r = ⟨own, s.lk, s.led, 0⟩ by unfold tAft; rw [if_neg k1, if_pos His.out, hti.out])
        have Hk := Lib.hid (show kAft s r = 7 by unfold kAft; rw [if_neg k1, if_pos His.out])
        obtain ⟨⟨y0, y1, y2, y3, y4, y5, y6⟩, z0, z1, z2, z3, z4, z5, z6⟩ := z_cells zX
        obtain ⟨U, hU, ⟨v0, v1, v2, v3, v4, v5, v6⟩, hP⟩ := fin_at (w := w) zX lX (by omega) tX (7)
        have HU := Lib.hid hU
        have HP := Lib.hid hP
        clear hU hP
        clear k1
        clear nb rX zX tX lX
        go_wp2_with fail
        rw [HU.out]
        exact bodyPost_ret (v := .tuple #[tv (Tn.own (⟨own, s.lk, s.led, 0⟩ : Tn)) A n c A2 n2 c2 A3 n3 c3 (Tn.sn (⟨own, s.lk, s.led, 0⟩ : Tn)), .int .i64 (7)]) (by simp [results, Try.results36, go_sem, v0, v1, v2, v3, v4, v5, v6]) rfl (by rw [Hk.out, Ht.out]; exact HP.out)
      | true =>
        have hi : ¬ (fnd s.pts r.tx).isSome = false := by rw [His.out]; simp
        by_cases k2 : r.kd = 2
        · have k2' : (r.kd == 2) = true := by simp [k2]
          have hc := read_c ⟨own, s.lk, s.led, 0⟩ A n c A2 n2 c2 A3 n3 c3 r wc tX Hto
          have Ht := Lib.hid (show tAft s r = tRead ⟨own, s.lk, s.led, 0⟩ r by unfold tAft; rw [if_neg k1, if_neg hi, if_pos k2, hti.out])
          have Hk := Lib.hid (show kAft s r = kHold ⟨own, s.lk, s.led, 0⟩ r false by unfold kAft; rw [if_neg k1, if_neg hi, if_pos k2, hti.out])
          obtain ⟨t', ht'⟩ : ∃ t', tRead ⟨own, s.lk, s.led, 0⟩ r = t' := ⟨_, rfl⟩
          obtain ⟨k', hk'⟩ : ∃ k', kHold ⟨own, s.lk, s.led, 0⟩ r false = k' := ⟨_, rfl⟩
          rw [ht', hk'] at hc
          rw [ht'] at Ht
          rw [hk'] at Hk
          clear ht' hk' k2
          go_wp2_with fail
          (with_reducible refine hc.mono ?_)
          rintro e w1 ⟨A', n', c', A2', n2', c2', A3', n3', c3', rfl, hm1, b1⟩
          obtain ⟨⟨y0, y1, y2, y3, y4, y5, y6⟩, z0, z1, z2, z3, z4, z5, z6⟩ := z_cells (zX.on b1)
          obtain ⟨U, hU, ⟨v0, v1, v2, v3, v4, v5, v6⟩, hP⟩ := fin_at (w := w) (zX.on b1) (bel2 lX b1) (by omega) hm1 (k')
          have HU := Lib.hid hU
          have HP := Lib.hid hP
          clear hU hP
          clear hc b1 hm1
          clear nb rX zX tX lX
          go_wp2_with fail
          rw [HU.out]
          exact bodyPost_ret (v := .tuple #[tv (Tn.own t') A' n' c' A2' n2' c2' A3' n3' c3' (Tn.sn t'), .int .i64 (k')]) (by simp [results, Try.results36, go_sem, v0, v1, v2, v3, v4, v5, v6]) rfl (by rw [Hk.out, Ht.out]; exact HP.out)
        have k2' : (r.kd == 2) = false := by simp [k2]
        by_cases k3 : r.kd = 3
        · have k3' : (r.kd == 3) = true := by simp [k3]
          have hc := tadd_c ⟨own, s.lk, s.led, 0⟩ A n c A2 n2 c2 A3 n3 c3 r wc tX Hto
          have Ht := Lib.hid (show tAft s r = tAdd ⟨own, s.lk, s.led, 0⟩ r by unfold tAft; rw [if_neg k1, if_neg hi, if_neg k2, if_pos k3, hti.out])
          have Hk := Lib.hid (show kAft s r = kAdd ⟨own, s.lk, s.led, 0⟩ r by unfold kAft; rw [if_neg k1, if_neg hi, if_neg k2, if_pos k3, hti.out])
          obtain ⟨t', ht'⟩ : ∃ t', tAdd ⟨own, s.lk, s.led, 0⟩ r = t' := ⟨_, rfl⟩
          obtain ⟨k', hk'⟩ : ∃ k', kAdd ⟨own, s.lk, s.led, 0⟩ r = k' := ⟨_, rfl⟩
          rw [ht', hk'] at hc
          rw [ht'] at Ht
          rw [hk'] at Hk
          clear ht' hk' k3
          go_wp2_with fail
          (with_reducible refine hc.mono ?_)
          rintro e w1 ⟨A', n', c', A2', n2', c2', A3', n3', c3', rfl, hm1, b1⟩
          obtain ⟨⟨y0, y1, y2, y3, y4, y5, y6⟩, z0, z1, z2, z3, z4, z5, z6⟩ := z_cells (zX.on b1)
          obtain ⟨U, hU, ⟨v0, v1, v2, v3, v4, v5, v6⟩, hP⟩ := fin_at (w := w) (zX.on b1) (bel2 lX b1) (by omega) hm1 (k')
          have HU := Lib.hid hU
          have HP := Lib.hid hP
          clear hU hP
          clear hc b1 hm1
          clear nb rX zX tX lX
          go_wp2_with fail
          rw [HU.out]
          exact bodyPost_ret (v := .tuple #[tv (Tn.own t') A' n' c' A2' n2' c2' A3' n3' c3' (Tn.sn t'), .int .i64 (k')]) (by simp [results, Try.results36, go_sem, v0, v1, v2, v3, v4, v5, v6]) rfl (by rw [Hk.out, Ht.out]; exact HP.out)
        have k3' : (r.kd == 3) = false := by simp [k3]
        by_cases k4 : r.kd = 4
        · have k4' : (r.kd == 4) = true := by simp [k4]
          have hc := tvote_c ⟨own, s.lk, s.led, 0⟩ A n c A2 n2 c2 A3 n3 c3 r wc tX Hto
          have Ht := Lib.hid (show tAft s r = tVote ⟨own, s.lk, s.led, 0⟩ r by unfold tAft; rw [if_neg k1, if_neg hi, if_neg k2, if_neg k3, if_pos k4, hti.out])
          have Hk := Lib.hid (show kAft s r = eVote (Tn.own ⟨own, s.lk, s.led, 0⟩) by unfold kAft; rw [if_neg k1, if_neg hi, if_neg k2, if_neg k3, if_pos k4, hti.out])
          obtain ⟨t', ht'⟩ : ∃ t', tVote ⟨own, s.lk, s.led, 0⟩ r = t' := ⟨_, rfl⟩
          obtain ⟨k', hk'⟩ : ∃ k', eVote (Tn.own ⟨own, s.lk, s.led, 0⟩) = k' := ⟨_, rfl⟩
          rw [ht', hk'] at hc
          rw [ht'] at Ht
          rw [hk'] at Hk
          clear ht' hk' k4
          go_wp2_with fail
          (with_reducible refine hc.mono ?_)
          rintro e w1 ⟨A', n', c', A2', n2', c2', A3', n3', c3', rfl, hm1, b1⟩
          obtain ⟨⟨y0, y1, y2, y3, y4, y5, y6⟩, z0, z1, z2, z3, z4, z5, z6⟩ := z_cells (zX.on b1)
          obtain ⟨U, hU, ⟨v0, v1, v2, v3, v4, v5, v6⟩, hP⟩ := fin_at (w := w) (zX.on b1) (bel2 lX b1) (by omega) hm1 (k')
          have HU := Lib.hid hU
          have HP := Lib.hid hP
          clear hU hP
          clear hc b1 hm1
          clear nb rX zX tX lX
          go_wp2_with fail
          rw [HU.out]
          exact bodyPost_ret (v := .tuple #[tv (Tn.own t') A' n' c' A2' n2' c2' A3' n3' c3' (Tn.sn t'), .int .i64 (k')]) (by simp [results, Try.results36, go_sem, v0, v1, v2, v3, v4, v5, v6]) rfl (by rw [Hk.out, Ht.out]; exact HP.out)
        have k4' : (r.kd == 4) = false := by simp [k4]
        by_cases k5 : r.kd = 5
        · have k5' : (r.kd == 5) = true := by simp [k5]
          have hc := tlocal_c ⟨own, s.lk, s.led, 0⟩ A n c A2 n2 c2 A3 n3 c3 r wc tX Hto
          have Ht := Lib.hid (show tAft s r = tLoc ⟨own, s.lk, s.led, 0⟩ r by unfold tAft; rw [if_neg k1, if_neg hi, if_neg k2, if_neg k3, if_neg k4, if_pos k5, hti.out])
          have Hk := Lib.hid (show kAft s r = kLoc ⟨own, s.lk, s.led, 0⟩ by unfold kAft; rw [if_neg k1, if_neg hi, if_neg k2, if_neg k3, if_neg k4, if_pos k5, hti.out])
          obtain ⟨t', ht'⟩ : ∃ t', tLoc ⟨own, s.lk, s.led, 0⟩ r = t' := ⟨_, rfl⟩
          obtain ⟨k', hk'⟩ : ∃ k', kLoc ⟨own, s.lk, s.led, 0⟩ = k' := ⟨_, rfl⟩
          rw [ht', hk'] at hc
          rw [ht'] at Ht
          rw [hk'] at Hk
          clear ht' hk' k5
          go_wp2_with fail
          (with_reducible refine hc.mono ?_)
          rintro e w1 ⟨A', n', c', A2', n2', c2', A3', n3', c3', rfl, hm1, b1⟩
          obtain ⟨⟨y0, y1, y2, y3, y4, y5, y6⟩, z0, z1, z2, z3, z4, z5, z6⟩ := z_cells (zX.on b1)
          obtain ⟨U, hU, ⟨v0, v1, v2, v3, v4, v5, v6⟩, hP⟩ := fin_at (w := w) (zX.on b1) (bel2 lX b1) (by omega) hm1 (k')
          have HU := Lib.hid hU
          have HP := Lib.hid hP
          clear hU hP
          clear hc b1 hm1
          clear nb rX zX tX lX
          go_wp2_with fail
          rw [HU.out]
          exact bodyPost_ret (v := .tuple #[tv (Tn.own t') A' n' c' A2' n2' c2' A3' n3' c3' (Tn.sn t'), .int .i64 (k')]) (by simp [results, Try.results36, go_sem, v0, v1, v2, v3, v4, v5, v6]) rfl (by rw [Hk.out, Ht.out]; exact HP.out)
        have k5' : (r.kd == 5) = false := by simp [k5]
        have hc := tdec_c ⟨own, s.lk, s.led, 0⟩ A n c A2 n2 c2 A3 n3 c3 r wc tX Hto hr.nn
        have Ht := Lib.hid (show tAft s r = tDec ⟨own, s.lk, s.led, 0⟩ r by unfold tAft; rw [if_neg k1, if_neg hi, if_neg k2, if_neg k3, if_neg k4, if_neg k5, hti.out])
        have Hk := Lib.hid (show kAft s r = kDec ⟨own, s.lk, s.led, 0⟩ r by unfold kAft; rw [if_neg k1, if_neg hi, if_neg k2, if_neg k3, if_neg k4, if_neg k5, hti.out])
        obtain ⟨t', ht'⟩ : ∃ t', tDec ⟨own, s.lk, s.led, 0⟩ r = t' := ⟨_, rfl⟩
        obtain ⟨k', hk'⟩ : ∃ k', kDec ⟨own, s.lk, s.led, 0⟩ r = k' := ⟨_, rfl⟩
        rw [ht', hk'] at hc
        rw [ht'] at Ht
        rw [hk'] at Hk
        clear ht' hk' 
        go_wp2_with fail
        (with_reducible refine hc.mono ?_)
        rintro e w1 ⟨A', n', c', A2', n2', c2', A3', n3', c3', rfl, hm1, b1⟩
        obtain ⟨⟨y0, y1, y2, y3, y4, y5, y6⟩, z0, z1, z2, z3, z4, z5, z6⟩ := z_cells (zX.on b1)
        obtain ⟨U, hU, ⟨v0, v1, v2, v3, v4, v5, v6⟩, hP⟩ := fin_at (w := w) (zX.on b1) (bel2 lX b1) (by omega) hm1 (k')
        have HU := Lib.hid hU
        have HP := Lib.hid hP
        clear hU hP
        clear hc b1 hm1
        clear nb rX zX tX lX
        go_wp2_with fail
        rw [HU.out]
        exact bodyPost_ret (v := .tuple #[tv (Tn.own t') A' n' c' A2' n2' c2' A3' n3' c3' (Tn.sn t'), .int .i64 (k')]) (by simp [results, Try.results36, go_sem, v0, v1, v2, v3, v4, v5, v6]) rfl (by rw [Hk.out, Ht.out]; exact HP.out)
end Go.Proofs.Ytealcccjnmfkcaa
