/-
  The small steps of package site: hold, settle, added, outcome, begin. Conditions: what the turn holds can be read, and is such as TOk says.
-/
import Derived.Test.YtealcccjnmfkcaaYSiA
import Derived.Test.YtealcccjnmfkcaaYLhD
import Derived.Test.YtealcccjnmfkcaaYPuF
set_option linter.unusedVariables false
set_option linter.unusedSimpArgs false
namespace Go.Proofs.Ytealcccjnmfkcaa
open Go.RowKit

set_option maxRecDepth 100000 in
set_option maxHeartbeats 2000000 in
theorem hold_c (t : Tn) (A : Option Addr) (n c : Nat) (A2 : Option Addr) (n2 c2 : Nat) (A3 : Option Addr) (n3 c3 : Nat) (r : Rc) (wr : Bool) (w : World) (hm : TM w A n c A2 n2 c2 A3 n3 c3 t) (hk : TOk t) :
    Calls Try.prog 76 #[tv t.own A n c A2 n2 c2 A3 n3 c3 t.sn, kv r, .bool wr] w (UPost w (tHold t r wr) (kHold t r wr)) := by
  obtain ⟨W, hW, hT, hr⟩ := TW.new hm r
  have HW := Lib.hid hW
  clear hW
  have hn := Lib.hid (show n2 ≤ 100000 by have := hm.lk.len; have := hk.lk; omega)
  clear hm
  obtain ⟨q0, q1, q2, q3, q4, q5, q6⟩ := hT.cells
  obtain ⟨r0, r1, r2, r3⟩ := rec_cells hr
  go_enter Try.func76, Try.ntmps76
  by_cases hs : t.own.st = 0
  · have hs1 : (t.own.st != 0) = false := by simp [hs]
    have He := Lib.hid (show kHold t r wr = eTake t.lk r.tx r.ky wr by unfold kHold; rw [if_neg (by simp [hs])])
    have Ht := Lib.hid (show tHold t r wr = ⟨t.own, sTake t.lk r.tx r.ky wr, t.led, t.sn⟩ by unfold tHold; rw [if_neg (by simp [hs])])
    clear hs
    have hc := take_c A2 n2 c2 r.tx r.ky wr t.lk W hT.m.lk.rr hn.out
    go_upto_region 1 with fail
    rw [HW.out]
    go_wp2_with fail
    refine hc.mono ?_
    rintro e w1 ⟨A', n', c', rfl, hl, b1⟩
    clear q0 q1 q2 q3 q4 q5 q6 r0 r1 r2 r3
    have t_w1 := hT.on b1
    have r_w1 := hr.on b1
    clear hT hr
    obtain ⟨V, hV, tV, jV⟩ := t_w1.putL hl
    have HV := Lib.hid hV
    obtain ⟨e0, e1, e2, e3, e4, e5, e6⟩ := t_w1.cells
    obtain ⟨f0, f1, f2, f3, f4, f5, f6⟩ := t_w1.froz
    have rV := jV.cb r_w1 (by omega)
    clear hc b1 hl
    clear hV jV t_w1 r_w1
    go_upto_region 5 with fail
    rw [HV.out]
    clear e0 e1 e2 e3 e4 e5 e6 f0 f1 f2 f3 f4 f5 f6
    obtain ⟨q0, q1, q2, q3, q4, q5, q6⟩ := tV.cells
    obtain ⟨z0, z1, z2, z3, z4, z5, z6⟩ := tV.zfroz
    obtain ⟨y0, y1, y2, y3, y4, y5, y6⟩ := tV.zcells
    obtain ⟨U, hU, ⟨v0, v1, v2, v3, v4, v5, v6⟩, hP⟩ := tV.fin tV.m (eTake t.lk r.tx r.ky wr)
    have HU := Lib.hid hU
    have HP := Lib.hid hP
    clear hU hP tV rV
    go_wp2_with fail
    rw [HU.out]
    exact bodyPost_ret (v := .tuple #[tv (t.own) A n c A' n' c' A3 n3 c3 (t.sn), .int .i64 (eTake t.lk r.tx r.ky wr)]) (by simp [results, Try.results76, go_sem, v0, v1, v2, v3, v4, v5, v6]) rfl (by rw [He.out, Ht.out]; exact HP.out)
  · have hs1 : (t.own.st != 0) = true := by simp [hs]
    have He := Lib.hid (show kHold t r wr = 13 by unfold kHold; rw [if_pos hs])
    have Ht := Lib.hid (show tHold t r wr = t by unfold tHold; rw [if_pos hs])
    clear hs
    obtain ⟨z0, z1, z2, z3, z4, z5, z6⟩ := hT.zfroz
    obtain ⟨y0, y1, y2, y3, y4, y5, y6⟩ := hT.zcells
    obtain ⟨U, hU, ⟨v0, v1, v2, v3, v4, v5, v6⟩, hP⟩ := hT.fin hT.m (13)
    have HU := Lib.hid hU
    have HP := Lib.hid hP
    clear hU hP hT hr
    go_upto_region 1 with fail
    rw [HW.out]
    go_wp2_with fail
    rw [HU.out]
    exact bodyPost_ret (v := .tuple #[tv (t.own) A n c A2 n2 c2 A3 n3 c3 (t.sn), .int .i64 (13)]) (by simp [results, Try.results76, go_sem, v0, v1, v2, v3, v4, v5, v6]) rfl (by rw [He.out, Ht.out]; exact HP.out)

set_option maxRecDepth 100000 in
set_option maxHeartbeats 2000000 in
theorem settle_c (t : Tn) (A : Option Addr) (n c : Nat) (A2 : Option Addr) (n2 c2 : Nat) (A3 : Option Addr) (n3 c3 : Nat) (tx : Int) (A4 : Option Addr) (n4 c4 : Nat) (D : List Dl) (w : World) (hm : TM w A n c A2 n2 c2 A3 n3 c3 t) (hk : TOk t) (hd : DR w A4 n4 c4 D) (wD : WfL D) (kD : n4 ≤ 1000) :
    Calls Try.prog 82 #[tv t.own A n c A2 n2 c2 A3 n3 c3 t.sn, .int .i64 tx, .slice A4 n4 c4] w (UPost w (tSet t tx D) (ePut t.led D)) := by
  obtain ⟨W, hW, hT⟩ := TW.new2 hm
  have HW := Lib.hid hW
  clear hW
  have hn := Lib.hid (show n2 ≤ 100000 by have := hm.lk.len; have := hk.lk; omega)
  have hn3 := Lib.hid (show n3 ≤ 100000 by have := hm.led.len; have := right_len hk.led hk.wl; omega)
  clear hm
  have hc := putG_c A3 n3 c3 t.led A4 n4 c4 D W hT.m.led.rr (hd.on hT.low) hn3.out (by omega) hk.wl wD
  obtain ⟨q0, q1, q2, q3, q4, q5, q6⟩ := hT.cells
  go_enter Try.func82, Try.ntmps82
  go_upto_region 1 with fail
  rw [HW.out]
  go_wp2_with fail
  refine hc.mono ?_
  rintro e w1 ⟨A', n', c', rfl, hl, b1⟩
  clear q0 q1 q2 q3 q4 q5 q6
  have t_w1 := hT.on b1
  clear hT
  obtain ⟨V, hV, tV, jV⟩ := t_w1.putD hl
  have HV := Lib.hid hV
  obtain ⟨e0, e1, e2, e3, e4, e5, e6⟩ := t_w1.cells
  obtain ⟨f0, f1, f2, f3, f4, f5, f6⟩ := t_w1.froz
  clear hc b1 hl hd
  have hc := free_c A2 n2 c2 tx t.lk V tV.m.lk.rr hn.out
  clear hV jV t_w1
  go_upto_region 3 with fail
  rw [HV.out]
  clear e0 e1 e2 e3 e4 e5 e6 f0 f1 f2 f3 f4 f5 f6
  obtain ⟨q0, q1, q2, q3, q4, q5, q6⟩ := tV.cells
  go_wp2_with fail
  refine hc.mono ?_
  rintro e w2 ⟨A5, n5, c5, rfl, hl, b2⟩
  clear q0 q1 q2 q3 q4 q5 q6
  have t_w2 := tV.on b2
  clear tV
  obtain ⟨X, hX, tX, jX⟩ := t_w2.putL hl
  have HX := Lib.hid hX
  obtain ⟨e0, e1, e2, e3, e4, e5, e6⟩ := t_w2.cells
  obtain ⟨f0, f1, f2, f3, f4, f5, f6⟩ := t_w2.froz
  clear hc b2 hl
  clear hX jX t_w2
  go_upto_region 4 with fail
  rw [HX.out]
  clear e0 e1 e2 e3 e4 e5 e6 f0 f1 f2 f3 f4 f5 f6
  obtain ⟨q0, q1, q2, q3, q4, q5, q6⟩ := tX.cells
  obtain ⟨z0, z1, z2, z3, z4, z5, z6⟩ := tX.zfroz
  obtain ⟨y0, y1, y2, y3, y4, y5, y6⟩ := tX.zcells
  obtain ⟨U, hU, ⟨v0, v1, v2, v3, v4, v5, v6⟩, hP⟩ := tX.fin tX.m (ePut t.led D)
  have HU := Lib.hid hU
  have HP := Lib.hid hP
  clear hU hP tX
  go_wp2_with fail
  rw [HU.out]
  exact bodyPost_ret (v := .tuple #[tv (t.own) A n c A5 n5 c5 A' n' c' (t.sn), .int .i64 (ePut t.led D)]) (by simp [results, Try.results82, go_sem, v0, v1, v2, v3, v4, v5, v6]) rfl (by rw [show tSet t tx D = ⟨t.own, fre t.lk tx, sPut t.led D, t.sn⟩ from rfl]; exact HP.out)

set_option maxRecDepth 100000 in
set_option maxHeartbeats 2000000 in
theorem begin_c (t : Tn) (A : Option Addr) (n c : Nat) (A2 : Option Addr) (n2 c2 : Nat) (A3 : Option Addr) (n3 c3 : Nat) (is : Bool) (w : World) (hm : TM w A n c A2 n2 c2 A3 n3 c3 t) (hk : TOk t) :
    Calls Try.prog 53 #[tv t.own A n c A2 n2 c2 A3 n3 c3 t.sn, .bool is] w (UPost w (tBeg t is) (kBeg is)) := by
  obtain ⟨W, hW, hT⟩ := TW.new2 hm
  have HW := Lib.hid hW
  clear hW
  clear hm
  obtain ⟨q0, q1, q2, q3, q4, q5, q6⟩ := hT.cells
  go_enter Try.func53, Try.ntmps53
  cases is with
  | true =>
    obtain ⟨z0, z1, z2, z3, z4, z5, z6⟩ := hT.zfroz
    obtain ⟨y0, y1, y2, y3, y4, y5, y6⟩ := hT.zcells
    obtain ⟨U, hU, ⟨v0, v1, v2, v3, v4, v5, v6⟩, hP⟩ := hT.fin hT.m (8)
    have HU := Lib.hid hU
    have HP := Lib.hid hP
    clear hU hP hT
    go_upto_region 1 with fail
    rw [HW.out]
    go_wp2_with fail
    rw [HU.out]
    exact bodyPost_ret (v := .tuple #[tv (t.own) A n c A2 n2 c2 A3 n3 c3 (t.sn), .int .i64 (8)]) (by simp [results, Try.results53, go_sem, v0, v1, v2, v3, v4, v5, v6]) rfl (by rw [show tBeg t true = t from rfl, show kBeg true = 8 from rfl]; exact HP.out)
  | false =>
    have hl : DS W none 0 0 p0.ad := RS.nil _ _ _ _
    obtain ⟨V, hV, tV, jV⟩ := hT.putP (p := p0) hl
    have HV := Lib.hid hV
    obtain ⟨e0, e1, e2, e3, e4, e5, e6⟩ := hT.cells
    obtain ⟨f0, f1, f2, f3, f4, f5, f6⟩ := hT.froz
    clear hl
    simp only [p0] at HV
    clear q0 q1 q2 q3 q4 q5 q6 hV jV hT
    go_upto_region 1 with fail
    rw [HW.out]
    go_upto_region 4 with fail
    rw [HV.out]
    clear e0 e1 e2 e3 e4 e5 e6 f0 f1 f2 f3 f4 f5 f6
    obtain ⟨q0, q1, q2, q3, q4, q5, q6⟩ := tV.cells
    obtain ⟨z0, z1, z2, z3, z4, z5, z6⟩ := tV.zfroz
    obtain ⟨y0, y1, y2, y3, y4, y5, y6⟩ := tV.zcells
    obtain ⟨U, hU, ⟨v0, v1, v2, v3, v4, v5, v6⟩, hP⟩ := tV.fin tV.m (0)
    have HU := Lib.hid hU
    have HP := Lib.hid hP
    clear hU hP tV
    go_wp2_with fail
    rw [HU.out]
    exact bodyPost_ret (v := .tuple #[tv (p0) none 0 0 A2 n2 c2 A3 n3 c3 (t.sn), .int .i64 (0)]) (by simp [results, Try.results53, go_sem, v0, v1, v2, v3, v4, v5, v6]) rfl (by rw [show tBeg t false = ⟨p0, t.lk, t.led, t.sn⟩ from rfl, show kBeg false = 0 from rfl]; exact HP.out)

set_option maxHeartbeats 1000000 in
theorem outcome_c (x : Int) (hx : -9223372036854775808 ≤ x ∧ x ≤ 9223372036854775807) (w : World) : Calls Try.prog 84 #[.int .i64 x] w fun e w' => e = .returned (.int .i64 (outc x)) ∧ Below w.heap.size w w' := by
  go_enter Try.func84, Try.ntmps84
  by_cases h1 : x = 1
  · have h1' : (x == 1) = true := by simp [h1]
    have H := Lib.hid (show outc x = x by unfold outc; rw [if_pos (.inl h1)])
    clear h1
    go_wp2_with fail
    go_ret
    exact ⟨by rw [H.out]; rfl, Below.refl _ _⟩
  have h1' : (x == 1) = false := by simp [h1]
  by_cases h2 : x = 2
  · have h2' : (x == 2) = true := by simp [h2]
    have H := Lib.hid (show outc x = x by unfold outc; rw [if_pos (.inr h2)])
    clear h1 h2
    go_wp2_with fail
    go_ret
    exact ⟨by rw [H.out]; rfl, Below.refl _ _⟩
  have h2' : (x == 2) = false := by simp [h2]
  have H := Lib.hid (show outc x = 0 by unfold outc; rw [if_neg (fun k => k.elim h1 h2)])
  clear h1 h2
  go_wp2_with fail
  go_ret
  exact ⟨by rw [H.out]; rfl, Below.refl _ _⟩

set_option maxRecDepth 100000 in
set_option maxHeartbeats 1000000 in
theorem added_c (p : Pt) (A : Option Addr) (n c : Nat) (k : Int) (w : World) (h : DR w A n c p.ad) :
    Calls Try.prog 77 #[pv A n c p, .int .u8 k] w fun e w' => e = .returned (.int .i64 (num p.ad k)) ∧ Below w.heap.size w w' := by
  have hlen := Lib.hid h.len
  have hmx : n ≤ maxLen := Nat.le_trans h.cap h.max
  simp only [maxLen] at hmx
  obtain ⟨W, hW⟩ : ∃ W, w.alloc (.cells #[.int .i64 p.st, .slice A n c, .bool p.lo, .int .i64 p.ou] 40) = W := ⟨_, rfl⟩
  have hb : Below w.heap.size w W := by rw [← hW]; exact belA _ _
  have hp : PB W w.heap.size 40 p.st A n c p.lo p.ou := by rw [← hW]; exact PB.new _ _ _ _ _ _ _ _
  obtain ⟨p0, p1, p2, p3⟩ := hp.cells
  have HW := Lib.hid hW
  clear hW
  obtain ⟨L, hL⟩ : ∃ L, p.ad = L := ⟨_, rfl⟩
  rw [hL] at h hlen
  rw [hL]
  clear hL
  go_enter Try.func77, Try.ntmps77
  go_upto_region 1 with fail
  rw [HW.out]
  go_wp2_with fail
  go_loopw [5, 11] (fun a i wr => ∃ j : Nat, j ≤ n ∧ i = .int .i64 j ∧ a = .int .i64 (num (L.take j) k) ∧ Below w.heap.size w wr) (fun _ i _ => n - (intOf i).toNat)
  case atStart => exact ⟨0, by omega, rfl, by rw [List.take_zero, num_nil], hb⟩
  case round =>
    obtain ⟨j, hj, rfl, rfl, hlow⟩ := hrel
    by_cases hlt : j < n
    · obtain ⟨g, off, rfl, d1, d2⟩ := (h.on hlow).at2 hlt
      have htk := Lib.hid (tk_take (L := L) (j := j) (by rw [hlen.out]; exact hlt))
      generalize tk L j = x at *
      have hl1 := Lib.hid (bel2 hlow (belA wr (.cells #[.int .u8 x.k, .int .i64 x.b] 102)))
      clear hlow
      by_cases hk : x.k = k
      · have hk1 : (x.k == k) = true := by simp [hk]
        have Hn := Lib.hid (show num (L.take (j + 1)) k = wrap64 (num (L.take j) k + x.b) by rw [htk.out, num_hit hk])
        clear hk
        generalize num (L.take j) k = a at *
        go_wp2_with fail
        go_roundw
        case rel => exact ⟨j + 1, by omega, by go_num, by rw [Hn.out], hl1.out⟩
        case measure => simp [intOf]; omega
      · have hk1 : (x.k == k) = false := by simp [hk]
        have Hn := Lib.hid (show num (L.take (j + 1)) k = num (L.take j) k by rw [htk.out, num_miss hk])
        clear hk
        generalize num (L.take j) k = a at *
        go_wp2_with fail
        go_roundw
        case rel => exact ⟨j + 1, by omega, by go_num, by rw [Hn.out], hl1.out⟩
        case measure => simp [intOf]; omega
    · obtain rfl : j = n := by omega
      have Hr := Lib.hid (show num (L.take j) k = num L k by rw [take_all hlen.out])
      generalize num (L.take j) k = a at *
      go_wp2_with fail
      go_ret
      exact ⟨by rw [← Hr.out]; rfl, hlow⟩
end Go.Proofs.Ytealcccjnmfkcaa
