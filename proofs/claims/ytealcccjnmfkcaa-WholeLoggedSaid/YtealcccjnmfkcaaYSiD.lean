/-
  The steps of package site: read, add, vote, local, decide. Conditions: what the turn holds can be read, and is such as TOk says.
-/
import Derived.Test.YtealcccjnmfkcaaYSiC
import Derived.Deep.CutRange
import Derived.Deep.RegionHeld3
set_option linter.unusedVariables false
set_option linter.unusedSimpArgs false
namespace Go.Proofs.Ytealcccjnmfkcaa
open Go.RowKit

theorem tHold_own (t : Tn) (r : Rc) (wr : Bool) : (tHold t r wr).own = t.own ∧ (tHold t r wr).led = t.led := by unfold tHold; split <;> exact ⟨rfl, rfl⟩
theorem tRead_eq {t t' : Tn} {r : Rc} (h : tHold t r false = t') : tRead t r = ⟨t'.own, t'.lk, t'.led, wrap64 (getD t'.led r.ky + num t'.own.ad r.ky)⟩ := by
  unfold tRead
  rw [h]
  unfold num
  rw [wrap_right]
theorem tOk_own {t : Tn} (h : TOk t) {p : Pt} (ho : okP p = true) (hw : p.ad = t.own.ad) : TOk ⟨p, t.lk, t.led, t.sn⟩ := ⟨ho, by show WfL p.ad; rw [hw]; exact h.wf, h.led, h.wl, h.lk⟩

theorem drne_t {W : World} {d : Nat} {p : Pt} {A : Option Addr} {n c : Nat} {A2 : Option Addr} {n2 c2 : Nat} {A3 : Option Addr} {n3 c3 : Nat} {sn : Int} (h : CB W d 92 (tcs p A n c A2 n2 c2 A3 n3 c3 sn)) {A' : Option Addr} {n' c' : Nat} {L : List Dl} (hd : DR W A' n' c' L) : ∀ g off, A' = some ⟨g, off, none⟩ → 0 < n' → g ≠ d := by
  rintro g off rfl hn rfl
  obtain ⟨g', off', e, h1, h2⟩ := hd.at2 hn
  cases e
  rw [CB.cell h] at h1
  match hk : off + 0 * 2, h1 with
  | 0, h1 => simp at h1
  | 1, h1 => simp at h1
  | 2, h1 => simp at h1
  | 3, h1 => simp at h1
  | 4, h1 => simp at h1
  | 5, h1 => simp at h1
  | 6, h1 => simp at h1
  | k + 7, h1 => simp at h1

set_option maxRecDepth 100000 in
set_option maxHeartbeats 2000000 in
theorem read_c (t : Tn) (A : Option Addr) (n c : Nat) (A2 : Option Addr) (n2 c2 : Nat) (A3 : Option Addr) (n3 c3 : Nat) (r : Rc) (w : World) (hm : TM w A n c A2 n2 c2 A3 n3 c3 t) (hk : TOk t) :
    Calls Try.prog 54 #[tv t.own A n c A2 n2 c2 A3 n3 c3 t.sn, kv r] w (UPost w (tRead t r) (kHold t r false)) := by
  obtain ⟨W, hW, hT, hr⟩ := TW.new hm r
  have HW := Lib.hid hW
  clear hW
  obtain ⟨t', ht'⟩ : ∃ t', tHold t r false = t' := ⟨_, rfl⟩
  obtain ⟨kh, hkh⟩ : ∃ k, kHold t r false = k := ⟨_, rfl⟩
  have hc := hold_c t A n c A2 n2 c2 A3 n3 c3 r false W hT.m hk
  rw [ht', hkh] at hc
  have Hto := Lib.hid (show t'.own = t.own ∧ t'.led = t.led by rw [← ht']; exact tHold_own t r false)
  have Ht := Lib.hid ht'
  have Hkh := Lib.hid hkh
  clear ht' hkh hm
  have Hr := Lib.hid (tRead_eq Ht.out)
  obtain ⟨q0, q1, q2, q3, q4, q5, q6⟩ := hT.cells
  obtain ⟨r0, r1, r2, r3⟩ := rec_cells hr
  go_enter Try.func54, Try.ntmps54
  go_upto_region 1 with fail
  rw [HW.out]
  go_wp2_with fail
  refine hc.mono ?_
  rintro e w1 ⟨A', n', c', A2', n2', c2', A3', n3', c3', rfl, hm1, b1⟩
  clear q0 q1 q2 q3 q4 q5 q6 r0 r1 r2 r3
  have t_w1 := hT.on b1
  have r_w1 := hr.on b1
  clear hT hr
  obtain ⟨V, hV, tV, jV⟩ := t_w1.putT hm1
  have HV := Lib.hid hV
  obtain ⟨e0, e1, e2, e3, e4, e5, e6⟩ := t_w1.cells
  obtain ⟨f0, f1, f2, f3, f4, f5, f6⟩ := t_w1.froz
  have rV := jV.cb r_w1 (by omega)
  clear hc b1 hm1
  clear hV jV t_w1 r_w1
  go_upto_region 2 with fail
  rw [HV.out]
  clear e0 e1 e2 e3 e4 e5 e6 f0 f1 f2 f3 f4 f5 f6
  have hn3 := Lib.hid (show n3' ≤ 100000 by have := tV.m.led.len; rw [Hto.out.2] at this; have := right_len hk.led hk.wl; omega)
  have hg := get_c A3' n3' c3' r.ky t'.led V.drew tV.m.led.rr.drew hn3.out
  have hev : ∀ (U : World) (x : Tn), TW w U (w.heap.size + 1 + 1) A' n' c' A2' n2' c2' A3' n3' c3' x → x.own = t'.own → CB U (w.heap.size + 1) 35 (kcs r) → (fun W' : World => (W'.cell? ⟨w.heap.size, 0, none⟩ = some (.int .i64 t'.own.st) ∧ W'.cell? ⟨w.heap.size, 1, none⟩ = some (.slice A' n' c') ∧ W'.cell? ⟨w.heap.size, 2, none⟩ = some (.bool t'.own.lo) ∧ W'.cell? ⟨w.heap.size, 3, none⟩ = some (.int .i64 t'.own.ou) ∧ W'.cell? ⟨w.heap.size, 5, none⟩ = some (.slice A3' n3' c3')) ∧ (W'.cell? ⟨w.heap.size + 1, 2, none⟩ = some (.int .u8 r.ky))) U := fun U x hx ho hr => by
    obtain ⟨q0, q1, q2, q3, q4, q5, q6⟩ := hx.cells
    rw [ho] at q0 q2 q3
    exact ⟨⟨q0, q1, q2, q3, q5⟩, (rec_cells hr).2.2.1⟩
  have Hev := Lib.hid hev
  have Hc := Lib.hid (hev V t' tV rfl rV)
  clear hev
  go_region_held3 (fun W' => (W'.cell? ⟨w.heap.size, 0, none⟩ = some (.int .i64 t'.own.st) ∧ W'.cell? ⟨w.heap.size, 1, none⟩ = some (.slice A' n' c') ∧ W'.cell? ⟨w.heap.size, 2, none⟩ = some (.bool t'.own.lo) ∧ W'.cell? ⟨w.heap.size, 3, none⟩ = some (.int .i64 t'.own.ou) ∧ W'.cell? ⟨w.heap.size, 5, none⟩ = some (.slice A3' n3' c3')) ∧ (W'.cell? ⟨w.heap.size + 1, 2, none⟩ = some (.int .u8 r.ky))) (first | exact Hc.out | exact x1.out | exact x2.out | exact x3.out) (first
    | (go_at_call 39; (with_reducible refine hg.mono ?_); rintro e u1 ⟨rfl, d1⟩; have d1' : Below V.heap.size V u1 := below_drew (W := V) d1; have t1 := tV.on d1'; have s1 := rV.on d1'; have x1 := Lib.hid (Hev.out u1 t' t1 rfl s1); have ha := added_c t'.own A' n' c' r.ky u1 t1.m.ad.rr; clear d1 d1')
    | (go_at_call 77; (with_reducible refine ha.mono ?_); rintro e u2 ⟨rfl, d2⟩; have t2 := t1.on d2; have s2 := s1.on d2; have x2 := Lib.hid (Hev.out u2 t' t2 rfl s2); obtain ⟨X, hX, tX, jX⟩ := t2.putN (IntKind.i64.wrap (getD t'.led r.ky + num t'.own.ad r.ky)); have rX := jX.cb s2 (by omega); have x3 := Lib.hid (Hev.out X _ tX rfl rX); obtain ⟨g0, g1, g2, g3, g4, g5, g6⟩ := t2.froz; obtain ⟨q0, q1, q2, q3, q4, q5, q6⟩ := t2.cells))
  have tX : TW w X (w.heap.size + 1 + 1) A' n' c' A2' n2' c2' A3' n3' c3' ⟨t'.own, t'.lk, t'.led, wrap64 (getD t'.led r.ky + num t'.own.ad r.ky)⟩ := by rw [← IntWalk.i64_left]; exact tX
  have HX := Lib.hid hX
  clear hX x1 x2 x3 jX d2 t2 s2 t1 s1 ha hg tV rV g0 g1 g2 g3 g4 g5 g6 q0 q1 q2 q3 q4 q5 q6 Hc Hev
  try rw [HX.out]
  obtain ⟨q0, q1, q2, q3, q4, q5, q6⟩ := tX.cells
  obtain ⟨z0, z1, z2, z3, z4, z5, z6⟩ := tX.zfroz
  obtain ⟨y0, y1, y2, y3, y4, y5, y6⟩ := tX.zcells
  obtain ⟨U, hU, ⟨v0, v1, v2, v3, v4, v5, v6⟩, hP⟩ := tX.fin tX.m (kh)
  have HU := Lib.hid hU
  have HP := Lib.hid hP
  clear hU hP tX rX
  go_wp2_with fail
  rw [HU.out]
  exact bodyPost_ret (v := .tuple #[tv (t'.own) A' n' c' A2' n2' c2' A3' n3' c3' (wrap64 (getD t'.led r.ky + num t'.own.ad r.ky)), .int .i64 (kh)]) (by simp [results, Try.results54, go_sem, v0, v1, v2, v3, v4, v5, v6]) rfl (by rw [Hr.out, Hkh.out]; exact HP.out)

set_option maxRecDepth 100000 in
set_option maxHeartbeats 2000000 in
theorem tadd_c (t : Tn) (A : Option Addr) (n c : Nat) (A2 : Option Addr) (n2 c2 : Nat) (A3 : Option Addr) (n3 c3 : Nat) (r : Rc) (w : World) (hm : TM w A n c A2 n2 c2 A3 n3 c3 t) (hk : TOk t) :
    Calls Try.prog 55 #[tv t.own A n c A2 n2 c2 A3 n3 c3 t.sn, kv r] w (UPost w (tAdd t r) (kAdd t r)) := by
  obtain ⟨W, hW, hT, hr⟩ := TW.new hm r
  have HW := Lib.hid hW
  clear hW
  obtain ⟨t', ht'⟩ : ∃ t', tHold t r true = t' := ⟨_, rfl⟩
  obtain ⟨kh, hkh⟩ : ∃ k, kHold t r true = k := ⟨_, rfl⟩
  have hc := hold_c t A n c A2 n2 c2 A3 n3 c3 r true W hT.m hk
  rw [ht', hkh] at hc
  have Hto := Lib.hid (show t'.own = t.own ∧ t'.led = t.led by rw [← ht']; exact tHold_own t r true)
  have Ht := Lib.hid ht'
  have Hkh := Lib.hid hkh
  clear ht' hkh hm
  obtain ⟨q0, q1, q2, q3, q4, q5, q6⟩ := hT.cells
  obtain ⟨r0, r1, r2, r3⟩ := rec_cells hr
  go_enter Try.func55, Try.ntmps55
  go_upto_region 1 with fail
  rw [HW.out]
  go_wp2_with fail
  refine hc.mono ?_
  rintro e w1 ⟨A', n', c', A2', n2', c2', A3', n3', c3', rfl, hm1, b1⟩
  clear q0 q1 q2 q3 q4 q5 q6 r0 r1 r2 r3
  have t_w1 := hT.on b1
  have r_w1 := hr.on b1
  clear hT hr
  obtain ⟨V, hV, tV, jV⟩ := t_w1.putT hm1
  have HV := Lib.hid hV
  obtain ⟨e0, e1, e2, e3, e4, e5, e6⟩ := t_w1.cells
  obtain ⟨f0, f1, f2, f3, f4, f5, f6⟩ := t_w1.froz
  have rV := jV.cb r_w1 (by omega)
  clear hc b1 hm1
  clear hV jV t_w1 r_w1
  go_upto_region 2 with fail
  rw [HV.out]
  clear e0 e1 e2 e3 e4 e5 e6 f0 f1 f2 f3 f4 f5 f6
  have hn1 := Lib.hid (show n' ≤ 1000 by have := tV.m.ad.len; rw [Hto.out.1] at this; have := ok_len hk.ok; omega)
  by_cases h0 : kh = 0
  · have h1 : (kh != 0) = false := by simp [h0]
    have He := Lib.hid (show kAdd t r = eAdd t'.own ⟨r.ky, r.nn⟩ by unfold kAdd; rw [Hkh.out, if_neg (by simp [h0]), Ht.out])
    have Hp := Lib.hid (show tAdd t r = ⟨sAdd t'.own ⟨r.ky, r.nn⟩, t'.lk, t'.led, t'.sn⟩ by unfold tAdd; rw [Hkh.out, if_neg (by simp [h0]), Ht.out])
    clear h0
    have hc : Calls Try.prog 78 #[pv A' n' c' t'.own, .agg #[.int .u8 r.ky, .int .i64 r.nn]] V (APostS V V.heap.size (sAdd t'.own ⟨r.ky, r.nn⟩) (eAdd t'.own ⟨r.ky, r.nn⟩)) := addS_c t'.own.st A' n' c' t'.own.lo t'.own.ou r.ky r.nn t'.own.ad V tV.m.ad.rr hn1.out
    generalize sAdd t'.own ⟨r.ky, r.nn⟩ = p' at *
    generalize eAdd t'.own ⟨r.ky, r.nn⟩ = k' at *
    obtain ⟨q0, q1, q2, q3, q4, q5, q6⟩ := tV.cells
    obtain ⟨r0, r1, r2, r3⟩ := rec_cells rV
    go_wp2_with fail
    (with_reducible refine hc.mono ?_)
    rintro e w2 ⟨A5, n5, c5, rfl, hd5, b2, _⟩
    clear q0 q1 q2 q3 q4 q5 q6 r0 r1 r2 r3
    have t_w2 := tV.on b2
    have r_w2 := rV.on b2
    clear tV rV
    obtain ⟨X, hX, tX, jX⟩ := t_w2.putP (p := p') hd5
    have HX := Lib.hid hX
    obtain ⟨e0, e1, e2, e3, e4, e5, e6⟩ := t_w2.cells
    obtain ⟨f0, f1, f2, f3, f4, f5, f6⟩ := t_w2.froz
    have rX := jX.cb r_w2 (by omega)
    clear hc b2 hd5
    clear hX jX t_w2 r_w2
    go_upto_region 5 with fail
    rw [HX.out]
    clear e0 e1 e2 e3 e4 e5 e6 f0 f1 f2 f3 f4 f5 f6
    obtain ⟨q0, q1, q2, q3, q4, q5, q6⟩ := tX.cells
    obtain ⟨z0, z1, z2, z3, z4, z5, z6⟩ := tX.zfroz
    obtain ⟨y0, y1, y2, y3, y4, y5, y6⟩ := tX.zcells
    obtain ⟨U, hU, ⟨v0, v1, v2, v3, v4, v5, v6⟩, hP⟩ := tX.fin tX.m (k')
    have HU := Lib.hid hU
    have HP := Lib.hid hP
    clear hU hP tX rX
    go_wp2_with fail
    rw [HU.out]
    exact bodyPost_ret (v := .tuple #[tv (p') A5 n5 c5 A2' n2' c2' A3' n3' c3' (t'.sn), .int .i64 (k')]) (by simp [results, Try.results55, go_sem, v0, v1, v2, v3, v4, v5, v6]) rfl (by rw [He.out, Hp.out]; exact HP.out)
  · have h1 : (kh != 0) = true := by simp [h0]
    have He := Lib.hid (show kAdd t r = kh by unfold kAdd; rw [Hkh.out, if_pos h0])
    have Hp := Lib.hid (show tAdd t r = t' by unfold tAdd; rw [Hkh.out, if_pos h0, Ht.out])
    clear h0
    obtain ⟨q0, q1, q2, q3, q4, q5, q6⟩ := tV.cells
    obtain ⟨z0, z1, z2, z3, z4, z5, z6⟩ := tV.zfroz
    obtain ⟨y0, y1, y2, y3, y4, y5, y6⟩ := tV.zcells
    obtain ⟨U, hU, ⟨v0, v1, v2, v3, v4, v5, v6⟩, hP⟩ := tV.fin tV.m (kh)
    have HU := Lib.hid hU
    have HP := Lib.hid hP
    clear hU hP tV rV
    go_wp2_with fail
    rw [HU.out]
    exact bodyPost_ret (v := .tuple #[tv (t'.own) A' n' c' A2' n2' c2' A3' n3' c3' (t'.sn), .int .i64 (kh)]) (by simp [results, Try.results55, go_sem, v0, v1, v2, v3, v4, v5, v6]) rfl (by rw [He.out, Hp.out]; exact HP.out)

set_option maxRecDepth 100000 in
set_option maxHeartbeats 2000000 in
theorem tvote_c (t : Tn) (A : Option Addr) (n c : Nat) (A2 : Option Addr) (n2 c2 : Nat) (A3 : Option Addr) (n3 c3 : Nat) (r : Rc) (w : World) (hm : TM w A n c A2 n2 c2 A3 n3 c3 t) (hk : TOk t) :
    Calls Try.prog 56 #[tv t.own A n c A2 n2 c2 A3 n3 c3 t.sn, kv r] w (UPost w (tVote t r) (eVote t.own)) := by
  obtain ⟨W, hW, hT, hr⟩ := TW.new hm r
  have HW := Lib.hid hW
  clear hW
  have hn2 := Lib.hid (show n2 ≤ 100000 by have := hm.lk.len; have := hk.lk; omega)
  have hc : Calls Try.prog 79 #[pv A n c t.own, .bool (r.nn != 0)] W (APostS W W.heap.size (sVote t.own (r.nn != 0)) (eVote t.own)) := voteS_c t.own.st A n c t.own.lo t.own.ou (r.nn != 0) t.own.ad W hT.m.ad.rr (by have := hm.ad.len; have := ok_len hk.ok; omega)
  obtain ⟨p', hp'⟩ : ∃ p', sVote t.own (r.nn != 0) = p' := ⟨_, rfl⟩
  have Hp := Lib.hid (show tVote t r = ⟨p', if p'.st = 2 then fre t.lk r.tx else t.lk, t.led, t.sn⟩ by unfold tVote; rw [show decide (r.nn ≠ 0) = (r.nn != 0) by by_cases k : r.nn = 0 <;> simp [k], hp'])
  rw [hp'] at hc
  obtain ⟨k', hk'⟩ : ∃ k, eVote t.own = k := ⟨_, rfl⟩
  rw [hk'] at hc
  have Hk := Lib.hid hk'
  clear hk' hp' hm
  obtain ⟨q0, q1, q2, q3, q4, q5, q6⟩ := hT.cells
  obtain ⟨r0, r1, r2, r3⟩ := rec_cells hr
  go_enter Try.func56, Try.ntmps56
  go_upto_region 1 with fail
  rw [HW.out]
  go_wp2_with fail
  (with_reducible refine hc.mono ?_)
  rintro e w1 ⟨A5, n5, c5, rfl, hd5, b1, _⟩
  clear q0 q1 q2 q3 q4 q5 q6 r0 r1 r2 r3
  have t_w1 := hT.on b1
  have r_w1 := hr.on b1
  clear hT hr
  obtain ⟨V0, hV0⟩ : ∃ V, w1.alloc (.cells #[.int .i64 p'.st, .slice A5 n5 c5, .bool p'.lo, .int .i64 p'.ou] 40) = V := ⟨_, rfl⟩
  have oV0 : PB V0 w1.heap.size 40 p'.st A5 n5 c5 p'.lo p'.ou := by rw [← hV0]; exact PB.new _ _ _ _ _ _ _ _
  have bV0 : Below w1.heap.size w1 V0 := by rw [← hV0]; exact belA _ _
  have hne := Lib.hid (show w1.heap.size ≠ w.heap.size by have := t_w1.b.lt; omega)
  have HV0 := Lib.hid hV0
  clear hV0
  have t_V0 := t_w1.on bV0
  have r_V0 := r_w1.on bV0
  clear t_w1 r_w1
  obtain ⟨X, hX, tX, jX⟩ := t_V0.putP (p := p') (hd5.on bV0)
  have HX := Lib.hid hX
  obtain ⟨e0, e1, e2, e3, e4, e5, e6⟩ := t_V0.cells
  obtain ⟨f0, f1, f2, f3, f4, f5, f6⟩ := t_V0.froz
  have rX := jX.cb r_V0 (by omega)
  have oX : PB X w1.heap.size 40 p'.st A5 n5 c5 p'.lo p'.ou := jX.cb oV0 hne.out
  obtain ⟨o0, o1, o2, o3⟩ := oV0.cells
  clear hc b1 hd5 bV0
  go_upto_region 2 with fail
  rw [HV0.out]
  clear hX jX t_V0 r_V0
  go_upto_region 3 with fail
  rw [HX.out]
  clear o0 o1 o2 o3 oV0 e0 e1 e2 e3 e4 e5 e6 f0 f1 f2 f3 f4 f5 f6
  obtain ⟨o0, o1, o2, o3⟩ := oX.cells
  by_cases h2 : p'.st = 2
  · have h21 : (p'.st == 2) = true := by simp [h2]
    have Hq := Lib.hid (show tVote t r = ⟨p', fre t.lk r.tx, t.led, t.sn⟩ by rw [Hp.out, if_pos h2])
    clear h2
    have hc := free_c A2 n2 c2 r.tx t.lk X tX.m.lk.rr hn2.out
    obtain ⟨q0, q1, q2, q3, q4, q5, q6⟩ := tX.cells
    obtain ⟨r0, r1, r2, r3⟩ := rec_cells rX
    go_wp2_with fail
    (with_reducible refine hc.mono ?_)
    rintro e w2 ⟨A6, n6, c6, rfl, hl, b2⟩
    clear q0 q1 q2 q3 q4 q5 q6 r0 r1 r2 r3
    clear o0 o1 o2 o3 oX
    have t_w2 := tX.on b2
    have r_w2 := rX.on b2
    clear tX rX
    obtain ⟨Y, hY, tY, jY⟩ := t_w2.putL hl
    have HY := Lib.hid hY
    obtain ⟨e0, e1, e2, e3, e4, e5, e6⟩ := t_w2.cells
    obtain ⟨f0, f1, f2, f3, f4, f5, f6⟩ := t_w2.froz
    have rY := jY.cb r_w2 (by omega)
    clear hc b2 hl
    clear hY jY t_w2 r_w2
    go_upto_region 5 with fail
    rw [HY.out]
    clear e0 e1 e2 e3 e4 e5 e6 f0 f1 f2 f3 f4 f5 f6
    obtain ⟨q0, q1, q2, q3, q4, q5, q6⟩ := tY.cells
    obtain ⟨z0, z1, z2, z3, z4, z5, z6⟩ := tY.zfroz
    obtain ⟨y0, y1, y2, y3, y4, y5, y6⟩ := tY.zcells
    obtain ⟨U, hU, ⟨v0, v1, v2, v3, v4, v5, v6⟩, hP⟩ := tY.fin tY.m (k')
    have HU := Lib.hid hU
    have HP := Lib.hid hP
    clear hU hP tY rY
    go_wp2_with fail
    rw [HU.out]
    exact bodyPost_ret (v := .tuple #[tv (p') A5 n5 c5 A6 n6 c6 A3 n3 c3 (t.sn), .int .i64 (k')]) (by simp [results, Try.results56, go_sem, v0, v1, v2, v3, v4, v5, v6]) rfl (by rw [Hq.out, Hk.out]; exact HP.out)
  · have h21 : (p'.st == 2) = false := by simp [h2]
    have Hq := Lib.hid (show tVote t r = ⟨p', t.lk, t.led, t.sn⟩ by rw [Hp.out, if_neg h2])
    clear h2
    obtain ⟨q0, q1, q2, q3, q4, q5, q6⟩ := tX.cells
    obtain ⟨z0, z1, z2, z3, z4, z5, z6⟩ := tX.zfroz
    obtain ⟨y0, y1, y2, y3, y4, y5, y6⟩ := tX.zcells
    obtain ⟨U, hU, ⟨v0, v1, v2, v3, v4, v5, v6⟩, hP⟩ := tX.fin tX.m (k')
    have HU := Lib.hid hU
    have HP := Lib.hid hP
    clear hU hP tX rX
    go_wp2_with fail
    rw [HU.out]
    exact bodyPost_ret (v := .tuple #[tv (p') A5 n5 c5 A2 n2 c2 A3 n3 c3 (t.sn), .int .i64 (k')]) (by simp [results, Try.results56, go_sem, v0, v1, v2, v3, v4, v5, v6]) rfl (by rw [Hq.out, Hk.out]; exact HP.out)

set_option maxRecDepth 100000 in
set_option maxHeartbeats 2000000 in
theorem tlocal_c (t : Tn) (A : Option Addr) (n c : Nat) (A2 : Option Addr) (n2 c2 : Nat) (A3 : Option Addr) (n3 c3 : Nat) (r : Rc) (w : World) (hm : TM w A n c A2 n2 c2 A3 n3 c3 t) (hk : TOk t) :
    Calls Try.prog 57 #[tv t.own A n c A2 n2 c2 A3 n3 c3 t.sn, kv r] w (UPost w (tLoc t r) (kLoc t)) := by
  obtain ⟨W, hW, hT, hr⟩ := TW.new hm r
  have HW := Lib.hid hW
  clear hW
  have hc : Calls Try.prog 81 #[pv A n c t.own] W (BPostS W W.heap.size (sLoc t.own) (dLoc t.own) (eLoc t.own)) := localS_c t.own.st A n c t.own.lo t.own.ou t.own.ad W hT.m.ad.rr (by have := hm.ad.len; have := ok_len hk.ok; omega)
  obtain ⟨p', hp'⟩ : ∃ p', sLoc t.own = p' := ⟨_, rfl⟩
  obtain ⟨D', hD'⟩ : ∃ D, dLoc t.own = D := ⟨_, rfl⟩
  obtain ⟨k0, hk0⟩ : ∃ k, eLoc t.own = k := ⟨_, rfl⟩
  have Hts := Lib.hid (show TOk ⟨p', t.lk, t.led, t.sn⟩ by rw [← hp']; exact tOk_own hk (ok_loc hk.ok) (ad_same false 0).2.1)
  have HwD0 := Lib.hid (show WfL D' ∧ D'.length ≤ 1000 by rw [← hD']; exact ⟨dLoc_wf hk.wf, by have := dLoc_len hk.ok; omega⟩)
  rw [hp', hD', hk0] at hc
  have Hp := Lib.hid hp'
  have HD := Lib.hid hD'
  have Hk := Lib.hid hk0
  clear hp' hD' hk0 hm
  obtain ⟨q0, q1, q2, q3, q4, q5, q6⟩ := hT.cells
  obtain ⟨r0, r1, r2, r3⟩ := rec_cells hr
  go_enter Try.func57, Try.ntmps57
  go_upto_region 1 with fail
  rw [HW.out]
  go_wp2_with fail
  (with_reducible refine hc.mono ?_)
  rintro e w1 ⟨A5, n5, c5, A6, n6, c6, rfl, hd5, hd6, b1, _⟩
  have HwD := Lib.hid (And.intro HwD0.out.1 (show n6 ≤ 1000 by have := hd6.len; have := HwD0.out.2; omega))
  clear q0 q1 q2 q3 q4 q5 q6 r0 r1 r2 r3
  have t_w1 := hT.on b1
  have r_w1 := hr.on b1
  clear hT hr
  obtain ⟨V0, hV0⟩ : ∃ V, w1.alloc (.cells #[.int .i64 p'.st, .slice A5 n5 c5, .bool p'.lo, .int .i64 p'.ou] 40) = V := ⟨_, rfl⟩
  have oV0 : PB V0 w1.heap.size 40 p'.st A5 n5 c5 p'.lo p'.ou := by rw [← hV0]; exact PB.new _ _ _ _ _ _ _ _
  have bV0 : Below w1.heap.size w1 V0 := by rw [← hV0]; exact belA _ _
  have hne := Lib.hid (show w1.heap.size ≠ w.heap.size by have := t_w1.b.lt; omega)
  have HV0 := Lib.hid hV0
  clear hV0
  have t_V0 := t_w1.on bV0
  have r_V0 := r_w1.on bV0
  clear t_w1 r_w1
  have hd5 := hd5.on bV0
  have hd6 := hd6.on bV0
  have oV := oV0
  clear oV0 hc b1 bV0
  go_upto_region 2 with fail
  rw [HV0.out]
  by_cases h0 : k0 = 0
  · have h01 : (k0 != 0) = false := by simp [h0]
    have Hq := Lib.hid (show tLoc t r = tSet ⟨p', t.lk, t.led, t.sn⟩ r.tx D' by unfold tLoc; rw [Hk.out, if_neg (by simp [h0]), Hp.out, HD.out])
    have Hk2 := Lib.hid (show kLoc t = ePut (Tn.led ⟨p', t.lk, t.led, t.sn⟩) D' by unfold kLoc; rw [Hk.out, if_neg (by simp [h0]), HD.out])
    clear h0
    obtain ⟨X, hX, tX, jX⟩ := t_V0.putP (p := p') hd5
    have HX := Lib.hid hX
    obtain ⟨e0, e1, e2, e3, e4, e5, e6⟩ := t_V0.cells
    obtain ⟨f0, f1, f2, f3, f4, f5, f6⟩ := t_V0.froz
    have rX := jX.cb r_V0 (by omega)
    obtain ⟨o0, o1, o2, o3⟩ := oV.cells
    have hd6 := jX.dr hd6 (drne_t t_V0.b hd6)
    clear hX jX hd5 t_V0 r_V0
    go_upto_region 5 with fail
    rw [HX.out]
    clear o0 o1 o2 o3 oV e0 e1 e2 e3 e4 e5 e6 f0 f1 f2 f3 f4 f5 f6
    have hs := settle_c ⟨p', t.lk, t.led, t.sn⟩ A5 n5 c5 A2 n2 c2 A3 n3 c3 r.tx A6 n6 c6 D' X tX.m Hts.out hd6 HwD.out.1 HwD.out.2
    generalize tSet ⟨p', t.lk, t.led, t.sn⟩ r.tx D' = t' at *
    generalize ePut (Tn.led ⟨p', t.lk, t.led, t.sn⟩) D' = k' at *
    obtain ⟨q0, q1, q2, q3, q4, q5, q6⟩ := tX.cells
    obtain ⟨r0, r1, r2, r3⟩ := rec_cells rX
    go_wp2_with fail
    (with_reducible refine hs.mono ?_)
    rintro e w3 ⟨A', n', c', A2', n2', c2', A3', n3', c3', rfl, hm1, b3⟩
    clear q0 q1 q2 q3 q4 q5 q6 r0 r1 r2 r3
    have t_w3 := tX.on b3
    have r_w3 := rX.on b3
    clear tX rX
    obtain ⟨z0, z1, z2, z3, z4, z5, z6⟩ := t_w3.zfroz
    obtain ⟨y0, y1, y2, y3, y4, y5, y6⟩ := t_w3.zcells
    obtain ⟨U, hU, ⟨v0, v1, v2, v3, v4, v5, v6⟩, hP⟩ := t_w3.fin hm1 k'
    have HU := Lib.hid hU
    have HP := Lib.hid hP
    clear hU hP hs b3 hm1 t_w3 r_w3
    go_wp2_with fail
    rw [HU.out]
    exact bodyPost_ret (v := .tuple #[tv t'.own A' n' c' A2' n2' c2' A3' n3' c3' t'.sn, .int .i64 k']) (by simp [results, Try.results57, go_sem, v0, v1, v2, v3, v4, v5, v6]) rfl (by rw [Hq.out, Hk2.out]; exact HP.out)
  · have h01 : (k0 != 0) = true := by simp [h0]
    have Hq := Lib.hid (show tLoc t r = t by unfold tLoc; rw [Hk.out, if_pos h0])
    have Hk2 := Lib.hid (show kLoc t = k0 by unfold kLoc; rw [Hk.out, if_pos h0])
    clear h0 hd5 hd6 oV
    obtain ⟨q0, q1, q2, q3, q4, q5, q6⟩ := t_V0.cells
    obtain ⟨z0, z1, z2, z3, z4, z5, z6⟩ := t_V0.zfroz
    obtain ⟨y0, y1, y2, y3, y4, y5, y6⟩ := t_V0.zcells
    obtain ⟨U, hU, ⟨v0, v1, v2, v3, v4, v5, v6⟩, hP⟩ := t_V0.fin t_V0.m (k0)
    have HU := Lib.hid hU
    have HP := Lib.hid hP
    clear hU hP t_V0 r_V0
    go_wp2_with fail
    rw [HU.out]
    exact bodyPost_ret (v := .tuple #[tv (t.own) A n c A2 n2 c2 A3 n3 c3 (t.sn), .int .i64 (k0)]) (by simp [results, Try.results57, go_sem, v0, v1, v2, v3, v4, v5, v6]) rfl (by rw [Hq.out, Hk2.out]; exact HP.out)

set_option maxRecDepth 100000 in
set_option maxHeartbeats 2000000 in
theorem tdec_c (t : Tn) (A : Option Addr) (n c : Nat) (A2 : Option Addr) (n2 c2 : Nat) (A3 : Option Addr) (n3 c3 : Nat) (r : Rc) (w : World) (hm : TM w A n c A2 n2 c2 A3 n3 c3 t) (hk : TOk t) (hrn : -9223372036854775808 ≤ r.nn ∧ r.nn ≤ 9223372036854775807) :
    Calls Try.prog 58 #[tv t.own A n c A2 n2 c2 A3 n3 c3 t.sn, kv r] w (UPost w (tDec t r) (kDec t r)) := by
  obtain ⟨W, hW, hT, hr⟩ := TW.new hm r
  have HW := Lib.hid hW
  clear hW
  obtain ⟨u, hu⟩ : ∃ u, outc r.nn = u := ⟨_, rfl⟩
  have hn1 := Lib.hid (show n ≤ 1000 by have := hm.ad.len; have := ok_len hk.ok; omega)
  obtain ⟨p', hp'⟩ : ∃ p', sDec t.own u = p' := ⟨_, rfl⟩
  obtain ⟨D', hD'⟩ : ∃ D, dDec t.own u = D := ⟨_, rfl⟩
  obtain ⟨k0, hk0⟩ : ∃ k, eDec t.own u = k := ⟨_, rfl⟩
  have Hts := Lib.hid (show TOk ⟨p', t.lk, t.led, t.sn⟩ by rw [← hp']; exact tOk_own hk (ok_dec u hk.ok) (ad_same false u).2.2)
  have HwD0 := Lib.hid (show WfL D' ∧ D'.length ≤ 1000 by rw [← hD']; exact ⟨dDec_wf hk.wf u, by have := dDec_len hk.ok u; omega⟩)
  have hdc : ∀ U : World, DR U A n c t.own.ad → Calls Try.prog 83 #[pv A n c t.own, .int .i64 u] U (BPostS U U.heap.size p' D' k0) := fun U hd => by rw [← hp', ← hD', ← hk0]; exact decideS_c t.own.st A n c t.own.lo t.own.ou u t.own.ad U hd hn1.out
  have Hdc := Lib.hid hdc
  have Hp := Lib.hid (show sDec t.own (outc r.nn) = p' by rw [hu]; exact hp')
  have HD := Lib.hid (show dDec t.own (outc r.nn) = D' by rw [hu]; exact hD')
  have Hk := Lib.hid (show eDec t.own (outc r.nn) = k0 by rw [hu]; exact hk0)
  have Ho := Lib.hid (fun U : World => show Calls Try.prog 84 #[.int .i64 r.nn] U (fun e w' => e = .returned (.int .i64 u) ∧ Below U.heap.size U w') by rw [← hu]; exact outcome_c r.nn hrn U)
  clear hp' hD' hk0 hm hdc hu
  obtain ⟨q0, q1, q2, q3, q4, q5, q6⟩ := hT.cells
  obtain ⟨r0, r1, r2, r3⟩ := rec_cells hr
  go_enter Try.func58, Try.ntmps58
  go_upto_region 1 with fail
  rw [HW.out]
  have hlt := Lib.hid hT.b.lt
  have Hev := Lib.hid (fun (U : World) (hb : Below W.heap.size W U) => show (fun W' : World => (W'.cell? ⟨w.heap.size, 0, none⟩ = some (.int .i64 t.own.st) ∧ W'.cell? ⟨w.heap.size, 1, none⟩ = some (.slice A n c) ∧ W'.cell? ⟨w.heap.size, 2, none⟩ = some (.bool t.own.lo) ∧ W'.cell? ⟨w.heap.size, 3, none⟩ = some (.int .i64 t.own.ou)) ∧ W'.cell? ⟨w.heap.size + 1, 3, none⟩ = some (.int .i64 r.nn)) U from by
    obtain ⟨q0, q1, q2, q3, q4, q5, q6⟩ := (hT.on hb).cells
    exact ⟨⟨q0, q1, q2, q3⟩, (rec_cells (hr.on hb)).2.2.2⟩)
  have Hc := Lib.hid (Hev.out W (Below.refl _ _))
  have Hc2 := Lib.hid (Hev.out _ (belA W (.cells #[.int .i64 0, .slice none 0 0, .bool false, .int .i64 0] 40)))
  go_cut [6, 7, 8] from 9 to 18 (fun s6 s7 s8 wx => ∃ (bo : Nat) (A5 : Option Addr) (n5 c5 : Nat) (A6 : Option Addr) (n6 c6 : Nat), s6 = .pointer (some ⟨bo, 0, none⟩) ∧ s7 = .slice A6 n6 c6 ∧ s8 = .int .i64 k0 ∧ PB wx bo 40 p'.st A5 n5 c5 p'.lo p'.ou ∧ DS wx A5 n5 c5 p'.ad ∧ DR wx A6 n6 c6 D' ∧ Below W.heap.size W wx ∧ bo ≠ w.heap.size)
  case first =>
    go_region_held3 (fun W' => (W'.cell? ⟨w.heap.size, 0, none⟩ = some (.int .i64 t.own.st) ∧ W'.cell? ⟨w.heap.size, 1, none⟩ = some (.slice A n c) ∧ W'.cell? ⟨w.heap.size, 2, none⟩ = some (.bool t.own.lo) ∧ W'.cell? ⟨w.heap.size, 3, none⟩ = some (.int .i64 t.own.ou)) ∧ W'.cell? ⟨w.heap.size + 1, 3, none⟩ = some (.int .i64 r.nn)) (first | exact Hc.out | exact Hc2.out | exact x1.out | exact x2.out | exact x3.out | exact x4.out) (first
      | (go_at_call 84; (with_reducible refine (Ho.out W.drew).mono ?_); rintro e w1 ⟨rfl, d1⟩; have b1 : Below W.heap.size W w1 := below_drew (W := W) d1; have x1 := Lib.hid (Hev.out w1 b1); have x4 := Lib.hid (Hev.out _ (bel2 b1 (belA w1 (.cells #[.int .i64 0, .slice none 0 0, .bool false, .int .i64 0] 40)))))
      | (go_at_call 84; (with_reducible refine (Ho.out (W.alloc (.cells #[.int .i64 0, .slice none 0 0, .bool false, .int .i64 0] 40)).drew).mono ?_); rintro e w1 ⟨rfl, d1⟩; have b1 : Below W.heap.size W w1 := bel2 (belA W _) (below_drew (W := W.alloc (.cells #[.int .i64 0, .slice none 0 0, .bool false, .int .i64 0] 40)) d1); have x1 := Lib.hid (Hev.out w1 b1); have pb0 : PB w1 W.heap.size 40 0 none 0 0 false 0 := (PB.new W 40 0 none 0 0 false 0).on (below_drew (W := W.alloc (.cells #[.int .i64 0, .slice none 0 0, .bool false, .int .i64 0] 40)) d1))
      | (go_at_call 83; (with_reducible refine (Hdc.out w1 (hT.m.ad.rr.on b1)).mono ?_); rintro e w2 ⟨A5, n5, c5, A6, n6, c6, rfl, ⟨G5, hd5⟩, hd6, d2, _⟩; have b2 : Below W.heap.size W w2 := bel2 b1 d2; have x2 := Lib.hid (Hev.out w2 b2); have pb := pb0.on d2; obtain ⟨z0, z1, z2, z3⟩ := pb.cells; obtain ⟨y0, y1, y2, y3⟩ := pb.froz; obtain ⟨U, hU, oU, kU⟩ := store_end pb Try.neP p'.st A5 n5 c5 p'.lo p'.ou; have gU := kU.sg _ _ _ _ _ hd5; have eU := kU.dr _ _ _ _ hd6; have bU := kU.low _ _ b2 (Nat.le_refl _); have nU : W.heap.size ≠ w.heap.size := (by have := hlt.out; omega); have x3 := Lib.hid (Hev.out U bU))
      | (go_at_call 83; (with_reducible refine (Hdc.out w1 (hT.m.ad.rr.on b1)).mono ?_); rintro e w2 ⟨A5, n5, c5, A6, n6, c6, rfl, ⟨G5, hd5⟩, hd6, d2, _⟩; have b2 : Below W.heap.size W w2 := bel2 b1 d2; have x2 := Lib.hid (Hev.out w2 b2); have b4 : Below w2.heap.size w2 (w2.alloc (.cells #[.int .i64 0, .slice none 0 0, .bool false, .int .i64 0] 40)) := belA w2 _; have x4 := Lib.hid (Hev.out _ (bel2 b2 b4)); have b6 : Below w2.heap.size w2 (w2.alloc (.cells #[.int .i64 p'.st, .slice A5 n5 c5, .bool p'.lo, .int .i64 p'.ou] 40)) := belA w2 _; have oU := PB.new w2 40 p'.st A5 n5 c5 p'.lo p'.ou; have gU := hd5.on b6; have eU := hd6.on b6; have bU := bel2 b2 b6; have nU : w2.heap.size ≠ w.heap.size := (by have := hlt.out; have := b2.size; omega); have x3 := Lib.hid (Hev.out _ bU))
      | (go_at_call 83; (with_reducible refine (Hdc.out (w1.alloc (.cells #[.int .i64 0, .slice none 0 0, .bool false, .int .i64 0] 40)) (hT.m.ad.rr.on (bel2 b1 (belA w1 _)))).mono ?_); rintro e w2 ⟨A5, n5, c5, A6, n6, c6, rfl, ⟨G5, hd5⟩, hd6, d2, _⟩; have b2 : Below W.heap.size W w2 := bel2 (bel2 b1 (belA w1 _)) d2; have x2 := Lib.hid (Hev.out w2 b2); have pb := (PB.new w1 40 0 none 0 0 false 0).on d2; obtain ⟨z0, z1, z2, z3⟩ := pb.cells; obtain ⟨y0, y1, y2, y3⟩ := pb.froz; obtain ⟨U, hU, oU, kU⟩ := store_end pb Try.neP p'.st A5 n5 c5 p'.lo p'.ou; have gU := kU.sg _ _ _ _ _ hd5; have eU := kU.dr _ _ _ _ hd6; have bU := kU.low _ _ b2 b1.size; have nU : w1.heap.size ≠ w.heap.size := (by have := hlt.out; have := b1.size; omega); have x3 := Lib.hid (Hev.out U bU)))
    all_goals (go_wp2_with fail; go_meet; case rel => exact ⟨_, A5, n5, c5, A6, n6, c6, rfl, rfl, rfl, oU, ⟨_, gU⟩, eU, bU, nU⟩)
  case rest =>
    obtain ⟨bo, A5, n5, c5, A6, n6, c6, rfl, rfl, rfl, oV, hd5, hd6, bc, hne⟩ := hcut
    have HwD := Lib.hid (And.intro HwD0.out.1 (show n6 ≤ 1000 by have := hd6.len; have := HwD0.out.2; omega))
    have hne := Lib.hid hne
    have t_c := hT.on bc
    have r_c := hr.on bc
    clear hT hr bc Hc Hc2 Hev Ho Hdc q0 q1 q2 q3 q4 q5 q6 r0 r1 r2 r3
    by_cases h0 : k0 = 0
    · have h01 : (k0 != 0) = false := by simp [h0]
      have Hq := Lib.hid (show tDec t r = tSet ⟨p', t.lk, t.led, t.sn⟩ r.tx D' by unfold tDec; rw [Hk.out, if_neg (by simp [h0]), Hp.out, HD.out])
      have Hk2 := Lib.hid (show kDec t r = ePut (Tn.led ⟨p', t.lk, t.led, t.sn⟩) D' by unfold kDec; rw [Hk.out, if_neg (by simp [h0]), HD.out])
      clear h0
      obtain ⟨X, hX, tX, jX⟩ := t_c.putP (p := p') hd5
      have HX := Lib.hid hX
      obtain ⟨e0, e1, e2, e3, e4, e5, e6⟩ := t_c.cells
      obtain ⟨f0, f1, f2, f3, f4, f5, f6⟩ := t_c.froz
      have rX := jX.cb r_c (by omega)
      obtain ⟨o0, o1, o2, o3⟩ := oV.cells
      have hd6 := jX.dr hd6 (drne_t t_c.b hd6)
      clear hX jX hd5 t_c r_c
      go_upto_region 5 with fail
      rw [HX.out]
      clear o0 o1 o2 o3 oV e0 e1 e2 e3 e4 e5 e6 f0 f1 f2 f3 f4 f5 f6
      have hs := settle_c ⟨p', t.lk, t.led, t.sn⟩ A5 n5 c5 A2 n2 c2 A3 n3 c3 r.tx A6 n6 c6 D' X tX.m Hts.out hd6 HwD.out.1 HwD.out.2
      generalize tSet ⟨p', t.lk, t.led, t.sn⟩ r.tx D' = t' at *
      generalize ePut (Tn.led ⟨p', t.lk, t.led, t.sn⟩) D' = k' at *
      obtain ⟨q0, q1, q2, q3, q4, q5, q6⟩ := tX.cells
      obtain ⟨r0, r1, r2, r3⟩ := rec_cells rX
      go_wp2_with fail
      (with_reducible refine hs.mono ?_)
      rintro e w3 ⟨A', n', c', A2', n2', c2', A3', n3', c3', rfl, hm1, b3⟩
      clear q0 q1 q2 q3 q4 q5 q6 r0 r1 r2 r3
      have t_w3 := tX.on b3
      have r_w3 := rX.on b3
      clear tX rX
      obtain ⟨z0, z1, z2, z3, z4, z5, z6⟩ := t_w3.zfroz
      obtain ⟨y0, y1, y2, y3, y4, y5, y6⟩ := t_w3.zcells
      obtain ⟨U, hU, ⟨v0, v1, v2, v3, v4, v5, v6⟩, hP⟩ := t_w3.fin hm1 k'
      have HU := Lib.hid hU
      have HP := Lib.hid hP
      clear hU hP hs b3 hm1 t_w3 r_w3
      go_wp2_with fail
      rw [HU.out]
      exact bodyPost_ret (v := .tuple #[tv t'.own A' n' c' A2' n2' c2' A3' n3' c3' t'.sn, .int .i64 k']) (by simp [results, Try.results58, go_sem, v0, v1, v2, v3, v4, v5, v6]) rfl (by rw [Hq.out, Hk2.out]; exact HP.out)
    · have h01 : (k0 != 0) = true := by simp [h0]
      have Hq := Lib.hid (show tDec t r = t by unfold tDec; rw [Hk.out, if_pos h0])
      have Hk2 := Lib.hid (show kDec t r = k0 by unfold kDec; rw [Hk.out, if_pos h0])
      clear h0 hd5 hd6 oV
      obtain ⟨q0, q1, q2, q3, q4, q5, q6⟩ := t_c.cells
      obtain ⟨z0, z1, z2, z3, z4, z5, z6⟩ := t_c.zfroz
      obtain ⟨y0, y1, y2, y3, y4, y5, y6⟩ := t_c.zcells
      obtain ⟨U, hU, ⟨v0, v1, v2, v3, v4, v5, v6⟩, hP⟩ := t_c.fin t_c.m (k0)
      have HU := Lib.hid hU
      have HP := Lib.hid hP
      clear hU hP t_c r_c
      go_wp2_with fail
      rw [HU.out]
      exact bodyPost_ret (v := .tuple #[tv (t.own) A n c A2 n2 c2 A3 n3 c3 (t.sn), .int .i64 (k0)]) (by simp [results, Try.results58, go_sem, v0, v1, v2, v3, v4, v5, v6]) rfl (by rw [Hq.out, Hk2.out]; exact HP.out)

end Go.Proofs.Ytealcccjnmfkcaa
