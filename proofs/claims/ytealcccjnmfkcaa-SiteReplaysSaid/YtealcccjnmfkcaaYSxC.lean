/-
  The document's site: what its calls' variables are, access. Conditions: the site can be read and is such as Good says, the log not long.
-/
import Derived.Test.YtealcccjnmfkcaaYSxB
import Derived.BigQuiet
set_option linter.unusedVariables false
set_option linter.unusedSimpArgs false
namespace Go.Proofs.Ytealcccjnmfkcaa
open Go.RowKit

theorem neSR : 30 ≠ 36 := by decide
theorem neSP : 30 ≠ 95 := by decide
/-- The boxes of the site, of the call and of the result. -/
structure DW (w W : World) (A1 : Option Addr) (n1 c1 : Nat) (A2 : Option Addr) (n2 c2 : Nat) (A3 : Option Addr) (n3 c3 : Nat) (A4 : Option Addr) (n4 c4 : Nat) (s : Si) (log : List Rc) (r : Rc) : Prop where
  c : CB W w.heap.size 30 (dcs A1 n1 c1 A2 n2 c2 A3 n3 c3 A4 n4 c4)
  r : CB W (w.heap.size + 1) 36 (kcs r)
  z : CB W (w.heap.size + 1 + 1) 30 dz
  m : DM W A1 n1 c1 A2 n2 c2 A3 n3 c3 A4 n4 c4 s log
  low : Below w.heap.size w W
theorem DW.new {w : World} {A1 : Option Addr} {n1 c1 : Nat} {A2 : Option Addr} {n2 c2 : Nat} {A3 : Option Addr} {n3 c3 : Nat} {A4 : Option Addr} {n4 c4 : Nat} {s : Si} {log : List Rc} (h : DM w A1 n1 c1 A2 n2 c2 A3 n3 c3 A4 n4 c4 s log) (r : Rc) : ∃ W, ((w.alloc (.cells (dcs A1 n1 c1 A2 n2 c2 A3 n3 c3 A4 n4 c4) 30)).alloc (.cells (kcs r) 36)).alloc (.cells dz 30) = W ∧ DW w W A1 n1 c1 A2 n2 c2 A3 n3 c3 A4 n4 c4 s log r := by
  have hb : Below w.heap.size w (((w.alloc (.cells (dcs A1 n1 c1 A2 n2 c2 A3 n3 c3 A4 n4 c4) 30)).alloc (.cells (kcs r) 36)).alloc (.cells dz 30)) := bel2 (bel2 (belA _ _) (belA _ _)) (belA _ _)
  refine ⟨_, rfl, ⟨((CB.new w _ _).alloc _).alloc _, ?_, ?_, h.on hb, hb⟩⟩
  · have := (CB.new (w.alloc (.cells (dcs A1 n1 c1 A2 n2 c2 A3 n3 c3 A4 n4 c4) 30)) 36 (kcs r)).alloc (.cells dz 30)
    simpa using this
  · have := CB.new ((w.alloc (.cells (dcs A1 n1 c1 A2 n2 c2 A3 n3 c3 A4 n4 c4) 30)).alloc (.cells (kcs r) 36)) 30 dz
    simpa using this
section
variable {w W W' : World} {A1 : Option Addr} {n1 c1 : Nat} {A2 : Option Addr} {n2 c2 : Nat} {A3 : Option Addr} {n3 c3 : Nat} {A4 : Option Addr} {n4 c4 : Nat} {s : Si} {log : List Rc} {r : Rc}
theorem DW.on (h : DW w W A1 n1 c1 A2 n2 c2 A3 n3 c3 A4 n4 c4 s log r) (hb : Below W.heap.size W W') : DW w W' A1 n1 c1 A2 n2 c2 A3 n3 c3 A4 n4 c4 s log r := ⟨h.c.on hb, h.r.on hb, h.z.on hb, h.m.on hb, bel2 h.low hb⟩
theorem DW.drewN (h : DW w W A1 n1 c1 A2 n2 c2 A3 n3 c3 A4 n4 c4 s log r) (k : Nat) : DW w (W.drewN k) A1 n1 c1 A2 n2 c2 A3 n3 c3 A4 n4 c4 s log r := h.on (belowN (Below.refl _ _) k)
theorem DW.just (h : DW w W A1 n1 c1 A2 n2 c2 A3 n3 c3 A4 n4 c4 s log r) {d : Nat} {B1 : Option Addr} {m1 d1 : Nat} {B2 : Option Addr} {m2 d2 : Nat} {B3 : Option Addr} {m3 d3 : Nat} {B4 : Option Addr} {m4 d4 : Nat} (hd : CB W d 30 (dcs B1 m1 d1 B2 m2 d2 B3 m3 d3 B4 m4 d4)) (hj : Just d W W') (hlt : w.heap.size + 1 + 1 < d) : DW w W' A1 n1 c1 A2 n2 c2 A3 n3 c3 A4 n4 c4 s log r :=
  ⟨hj.cb h.c (by omega), hj.cb h.r (by omega), hj.cb h.z (by omega), h.m.just hd hj, hj.low h.low (by omega)⟩
theorem r10_cells {b : Nat} (h : CB W b 36 (kcs r)) : W.cell? ⟨b, 0, none⟩ = some (.int .i64 r.kd) ∧ W.cell? ⟨b, 1, none⟩ = some (.int .i64 r.tx) ∧ W.cell? ⟨b, 2, none⟩ = some (.int .u8 r.ky) ∧ W.cell? ⟨b, 3, none⟩ = some (.int .i64 r.nn) := ⟨h.cell 0, h.cell 1, h.cell 2, h.cell 3⟩
theorem DR.offs {d : Nat} {A : Option Addr} {n c : Nat} {L : List Dl} (hd : CB W d 30 (dcs A1 n1 c1 A2 n2 c2 A3 n3 c3 A4 n4 c4)) (h : DR W A n c L) (hj : Just d W W') : DR W' A n c L := RR.just h (rr_off dc_int hd h) hj
end
theorem len_split (f : Int → Bool) (l : List Int) : l.length = (l.filter f).length + (l.filter (fun x => !(f x))).length := by
  induction l with
  | nil => rfl
  | cons a r ih =>
    cases h : f a <;> simp [h] <;> omega
/-- There are a thousand transactions at most. -/
theorem nodup_len : ∀ (n : Nat) (l : List Int), l.Pairwise (· ≠ ·) → (∀ x ∈ l, 0 ≤ x ∧ x < n) → l.length ≤ n := by
  intro n
  induction n with
  | zero =>
    intro l _ h
    cases l with
    | nil => simp
    | cons a r => have := h a (by simp); omega
  | succ n ih =>
    intro l hd h
    have h1 : (l.filter (fun x => !(x == (n : Int)))).length ≤ n := ih _ (hd.filter _) (fun x hx => by
      have h2 := List.mem_filter.1 hx
      have h3 := h x h2.1
      have h4 : x ≠ n := by simpa using h2.2
      omega)
    have h5 : (l.filter (fun x => x == (n : Int))).length ≤ 1 := by
      have hp : (l.filter (fun x => x == (n : Int))).Pairwise (· ≠ ·) := hd.filter _
      match hm : l.filter (fun x => x == (n : Int)), hp with
      | [], _ => simp
      | [_], _ => simp
      | a :: b :: r, hp =>
        have ha : a ∈ l.filter (fun x => x == (n : Int)) := by rw [hm]; simp
        have hb : b ∈ l.filter (fun x => x == (n : Int)) := by rw [hm]; simp
        have ha' := (List.mem_filter.1 ha).2
        have hb' := (List.mem_filter.1 hb).2
        have := (List.pairwise_cons.1 hp).1 b (by simp)
        simp at ha' hb'
        exact absurd (ha'.trans hb'.symm) this
    have h6 : l.length = (l.filter (fun x => x == (n : Int))).length + (l.filter (fun x => !(x == (n : Int)))).length := by
      exact len_split _ l
    omega
theorem pts_len {s : Si} (h : Inv s) : s.pts.length ≤ 1000 := by
  have := nodup_len 1000 (s.pts.map (·.1)) (txsD_map.1 h.tx) (fun x hx => by
    obtain ⟨o, ho, rfl⟩ := List.mem_map.1 hx
    have := (h.ok o ho).2
    omega)
  simpa using this
/-- What is the same for all of a call's ways. -/
structure Here (s : Si) (log : List Rc) (r : Rc) (p : Pt) : Prop where
  good : Good s log
  len : log.length ≤ 5000
  ok : RcOk r
  inr : inR r = true
  at_ : fnd s.pts r.tx = some p
theorem Here.okp {s : Si} {log : List Rc} {r : Rc} {p : Pt} (h : Here s log r p) : okP p = true := (h.good.inv.ok _ (fnd_mem h.at_)).1
theorem Here.kl {s : Si} {log : List Rc} {r : Rc} {p : Pt} (h : Here s log r p) {W : World} {A1 : Option Addr} {n1 c1 : Nat} {A2 : Option Addr} {n2 c2 : Nat} {A3 : Option Addr} {n3 c3 : Nat} {A4 : Option Addr} {n4 c4 : Nat} (m : DM W A1 n1 c1 A2 n2 c2 A3 n3 c3 A4 n4 c4 s log) : n1 ≤ 100000 ∧ n2 ≤ 100000 ∧ n3 ≤ 100000 := by
  have h1 := m.led.len
  have h2 := m.lk.len
  have h3 := m.pts.len
  have h4 := right_len h.good.inv.right h.good.inv.wf
  have h5 := h.good.lk
  have h6 := h.len
  have h7 : s.pts.length ≤ 1000 := pts_len h.good.inv
  omega

set_option maxRecDepth 100000 in
set_option maxHeartbeats 4000000 in
theorem access_c (A1 : Option Addr) (n1 c1 : Nat) (A2 : Option Addr) (n2 c2 : Nat) (A3 : Option Addr) (n3 c3 : Nat) (A4 : Option Addr) (n4 c4 : Nat) (s : Si) (log : List Rc) (r : Rc) (p : Pt) (w : World) (h : DM w A1 n1 c1 A2 n2 c2 A3 n3 c3 A4 n4 c4 s log) (hh : Here s log r p) (hk : r.kd = 2 ∨ r.kd = 3) :
    Calls Try.prog 59 #[dsv A1 n1 c1 A2 n2 c2 A3 n3 c3 A4 n4 c4, .int .i64 (idx s.pts r.tx), kv r] w (SNPost w (sDo s r) log (nDo s r) (eDo s r)) := by
  obtain ⟨W, hW, hD⟩ := DW.new h r
  have HW := Lib.hid hW
  obtain ⟨kk1, kk2, kk3⟩ := hh.kl h
  obtain ⟨hi1, hi2⟩ := idx_some hh.at_
  have hin := inR_iff.1 hh.inr
  have hed := eDo_some hin hh.at_
  have hok := hh.okp
  have hlt : idx s.pts r.tx < n3 := by have := h.pts.len; omega
  obtain ⟨g, off, B, m, d, o, e3, ho, dp, t0, t1, t2, t3, t4⟩ := OX.at5 hD.m.pts hlt
  rw [hi1] at ho
  cases ho
  subst e3
  have kd' := dp.len
  have hol := ok_len hok
  obtain ⟨i, hidx⟩ : ∃ i, idx s.pts r.tx = i := ⟨_, rfl⟩
  rw [hidx] at hlt t0 t1 t2 t3 t4 hi1 ⊢
  have hlt1 : (i : Int) < (n3 : Int) := by omega
  have Hidx := Lib.hid hidx
  have hw := Lib.hid (get_rng hh.good.inv.wf r.ky)
  have k1 : r.kd ≠ 1 := by omega
  rw [if_neg k1] at hed
  have Hh := Lib.hid hh
  clear hW h hidx
  obtain ⟨⟨q0, q1, q2, q3⟩, _⟩ := d_cells hD.c
  obtain ⟨r0, r1, r2, r3⟩ := r10_cells hD.r
  go_enter Try.func59, Try.ntmps59
  go_upto_region 1 with fail
  rw [HW.out]
  obtain ⟨P, hP⟩ : ∃ V, W.alloc (.cells #[.int .i64 p.st, .slice B m d, .bool p.lo, .int .i64 p.ou] 95) = V := ⟨_, rfl⟩
  have oP : PB P W.heap.size 95 p.st B m d p.lo p.ou := by rw [← hP]; exact PB.new _ _ _ _ _ _ _ _
  have bP : Below W.heap.size W P := by rw [← hP]; exact belA _ _
  have DP := hD.on bP
  have dP := dp.on bP
  have HP := Lib.hid hP
  clear hP bP hD dp
  go_upto_region 2 with fail
  rw [HP.out]
  clear t0 t1 t2 t3 t4
  clear q0 q1 q2 q3 r0 r1 r2 r3
  obtain ⟨⟨q0, q1, q2, q3⟩, _⟩ := d_cells DP.c
  obtain ⟨r0, r1, r2, r3⟩ := r10_cells DP.r
  obtain ⟨o0, o1, o2, o3⟩ := oP.cells
  by_cases hs : p.st = 0
  rotate_left
  · have hs1 : (p.st != 0) = true := by simp [hs]
    have He := Lib.hid (show eDo s r = 13 by rw [hed]; rcases hk with k | k <;> simp [k, hs])
    clear hs hed
    obtain ⟨⟨y0, y1, y2, y3⟩, f0, f1, f2, f3⟩ := d_cells DP.z
    obtain ⟨U, hU, ⟨v0, v1, v2, v3⟩, mU, lU⟩ := SFin DP.z DP.low (by omega) DP.m
    have HU := Lib.hid hU
    have H := Lib.hid (show SNPost w (sDo s r) log (nDo s r) (eDo s r) (.returned (.tuple #[dsv A1 n1 c1 A2 n2 c2 (some ⟨g, off, none⟩) n3 c3 A4 n4 c4, .int .i64 0, .int .i64 13])) U from by
      rw [sDo_err (by rw [He.out]; omega), nDo_err (by rw [He.out]; omega), He.out]
      exact ⟨_, _, _, _, _, _, _, _, _, _, _, _, rfl, mU, lU⟩)
    clear hU mU lU DP oP dP
    go_wp2_with fail
    rw [HU.out]
    exact bodyPost_ret (v := .tuple #[dsv A1 n1 c1 A2 n2 c2 (some ⟨g, off, none⟩) n3 c3 A4 n4 c4, .int .i64 0, .int .i64 13]) (by simp [results, Try.results59, go_sem, v0, v1, v2, v3]) rfl H.out
  have hs1 : (p.st != 0) = false := by simp [hs]
  obtain ⟨wb, hwb⟩ : ∃ b, (r.kd == 3) = b := ⟨_, rfl⟩
  have hed2 : eDo s r = if eTake s.lk r.tx r.ky wb ≠ 0 then eTake s.lk r.tx r.ky wb else if wb then eAdd p ⟨r.ky, r.nn⟩ else 0 := by
    rw [hed, ← hwb]
    rcases hk with k | k
    · simp [k, hs]
      try (intro e; exact e)
    · simp [k, hs]
  have Hkk := Lib.hid hk
  have Hed2 := Lib.hid hed2
  have Hwb := Lib.hid hwb
  clear hs hed hk hed2
  have hc := takeR_c A2 n2 c2 r.tx r.ky wb s.lk P DP.m.lk kk2
  go_wp2_with fail
  (with_reducible refine hc.mono ?_)
  rintro e w1 ⟨A5, n5, c5, rfl, d5, b1⟩
  clear q0 q1 q2 q3 r0 r1 r2 r3
  clear o0 o1 o2 o3
  have D1 := DP.on b1
  have o1' := oP.on b1
  have dp1 := dP.on b1
  clear hc DP oP dP b1
  obtain ⟨⟨q0, q1, q2, q3⟩, _⟩ := d_cells D1.c
  obtain ⟨r0, r1, r2, r3⟩ := r10_cells D1.r
  obtain ⟨o0, o1, o2, o3⟩ := o1'.cells
  obtain ⟨ke, hke⟩ : ∃ k, eTake s.lk r.tx r.ky wb = k := ⟨_, rfl⟩
  have hed2 := Hed2.out
  rw [hke] at hed2 ⊢
  clear Hed2
  by_cases h9 : ke = 0
  rotate_left
  · have h91 : (ke != 0) = true := by simp [h9]
    have He := Lib.hid (show eDo s r = ke by rw [hed2, if_pos h9])
    have Hn := Lib.hid h9
    clear h9 hed2 hke hwb
    obtain ⟨⟨y0, y1, y2, y3⟩, f0, f1, f2, f3⟩ := d_cells D1.z
    obtain ⟨U, hU, ⟨v0, v1, v2, v3⟩, mU, lU⟩ := SFin D1.z D1.low (by omega) D1.m
    have HU := Lib.hid hU
    have H := Lib.hid (show SNPost w (sDo s r) log (nDo s r) (eDo s r) (.returned (.tuple #[dsv A1 n1 c1 A2 n2 c2 (some ⟨g, off, none⟩) n3 c3 A4 n4 c4, .int .i64 0, .int .i64 ke])) U from by
      rw [sDo_err (by rw [He.out]; exact Hn.out), nDo_err (by rw [He.out]; exact Hn.out), He.out]
      exact ⟨_, _, _, _, _, _, _, _, _, _, _, _, rfl, mU, lU⟩)
    clear hU mU lU D1 o1' dp1 d5
    go_wp2_with fail
    rw [HU.out]
    exact bodyPost_ret (v := .tuple #[dsv A1 n1 c1 A2 n2 c2 (some ⟨g, off, none⟩) n3 c3 A4 n4 c4, .int .i64 0, .int .i64 ke]) (by simp [results, Try.results59, go_sem, v0, v1, v2, v3]) rfl H.out
  have h91 : (ke != 0) = false := by simp [h9]
  rw [if_neg (fun k => k h9)] at hed2
  have Hke := Lib.hid (show eTake s.lk r.tx r.ky wb = 0 by rw [hke]; exact h9)
  have Hed2 := Lib.hid hed2
  clear h9 hke hed2 hwb
  obtain ⟨Q, hQ⟩ : ∃ V, w1.alloc (.cells (dcs A1 n1 c1 A2 n2 c2 (some ⟨g, off, none⟩) n3 c3 A4 n4 c4) 30) = V := ⟨_, rfl⟩
  have tQ : CB Q w1.heap.size 30 (dcs A1 n1 c1 A2 n2 c2 (some ⟨g, off, none⟩) n3 c3 A4 n4 c4) := by rw [← hQ]; exact CB.new _ _ _
  have bQ : Below w1.heap.size w1 Q := by rw [← hQ]; exact belA _ _
  have DQ := D1.on bQ
  have oQ := o1'.on bQ
  have dQ := dp1.on bQ
  have kQ := d5.on bQ
  have hg := Lib.hid (show w.heap.size + 1 + 1 < w1.heap.size from D1.z.lt)
  have hgo := Lib.hid (show W.heap.size ≠ w1.heap.size by have := o1'.lt; omega)
  have HQ := Lib.hid hQ
  clear hQ bQ D1 o1' dp1 d5
  obtain ⟨X, hX⟩ : ∃ X, Q.setCell ⟨w1.heap.size, 1, none⟩ (.slice A5 n5 c5) = X := ⟨_, rfl⟩
  have jX : Just w1.heap.size Q X := by rw [← hX]; exact Just.set _ _ _ _
  have tX : CB X w1.heap.size 30 (dcs A1 n1 c1 A5 n5 c5 (some ⟨g, off, none⟩) n3 c3 A4 n4 c4) := by rw [← hX]; exact tQ.put 1 _
  have DX := DQ.just tQ jX hg.out
  have oX : PB X W.heap.size 95 p.st B m d p.lo p.ou := jX.cb oQ hgo.out
  have dX := DR.offs tQ dQ jX
  have mX : DM X A1 n1 c1 A5 n5 c5 (some ⟨g, off, none⟩) n3 c3 A4 n4 c4 ⟨s.led, sTake s.lk r.tx r.ky wb, s.pts⟩ log := DM.just (s := ⟨s.led, sTake s.lk r.tx r.ky wb, s.pts⟩) ⟨DQ.m.led, kQ, DQ.m.pts, DQ.m.log⟩ tQ jX
  obtain ⟨⟨u0, u1, u2, u3⟩, g0, g1, g2, g3⟩ := d_cells tQ
  have HX := Lib.hid hX
  clear hX jX DQ oQ dQ kQ
  go_upto_region 8 with fail
  rw [HQ.out]
  clear q0 q1 q2 q3 r0 r1 r2 r3
  clear o0 o1 o2 o3
  go_upto_region 9 with fail
  rw [HX.out]
  clear u0 u1 u2 u3 g0 g1 g2 g3 tQ HX HQ
  obtain ⟨⟨q0, q1, q2, q3⟩, _⟩ := d_cells DX.c
  obtain ⟨r0, r1, r2, r3⟩ := r10_cells DX.r
  obtain ⟨o0, o1, o2, o3⟩ := oX.cells
  have hed2 := Hed2.out
  have hwb := Hwb.out
  have hk := Hkk.out
  clear Hed2 Hwb Hkk
  have hkb : (r.kd == 3) = wb := hwb
  cases wb with
  | true =>
    have hed3 : eDo s r = eAdd p ⟨r.ky, r.nn⟩ := by rw [hed2, if_pos rfl]
    have hkd : r.kd = 3 := by simpa using hwb
    have hc : Calls Try.prog 86 #[pv B m d p, .agg #[.int .u8 r.ky, .int .i64 r.nn]] X (APost X 0 (sAdd p ⟨r.ky, r.nn⟩) (eAdd p ⟨r.ky, r.nn⟩)) := addR_c p.st B m d p.lo p.ou r.ky r.nn p.ad X dX (by omega)
    obtain ⟨q', hq'⟩ : ∃ q, sAdd p ⟨r.ky, r.nn⟩ = q := ⟨_, rfl⟩
    obtain ⟨k', hk'⟩ : ∃ k, eAdd p ⟨r.ky, r.nn⟩ = k := ⟨_, rfl⟩
    rw [hq', hk'] at hc
    rw [hk'] at hed3
    have He := Lib.hid hed3
    have Hkd := Lib.hid hkd
    have Hq := Lib.hid hq'
    clear hed2 hed3 hkd hq' hk' hk hwb
    go_wp2_with fail
    (with_reducible refine hc.mono ?_)
    rintro e w3 ⟨A6, n6, c6, rfl, d6, b3, _⟩
    obtain ⟨Y, hY⟩ : ∃ V, w3.alloc (.cells #[.int .i64 q'.st, .slice A6 n6 c6, .bool q'.lo, .int .i64 q'.ou] 95) = V := ⟨_, rfl⟩
    have oY : PB Y w3.heap.size 95 q'.st A6 n6 c6 q'.lo q'.ou := by rw [← hY]; exact PB.new _ _ _ _ _ _ _ _
    have bY : Below w3.heap.size w3 Y := by rw [← hY]; exact belA _ _
    have DY := (DX.on b3).on bY
    have tY := (tX.on b3).on bY
    have mY := (mX.on b3).on bY
    have dY := d6.on bY
    have HY := Lib.hid hY
    clear hY bY b3 hc DX tX mX dX oX d6 o0 o1 o2 o3
    clear q0 q1 q2 q3 r0 r1 r2 r3
    go_upto_region 11 with fail
    rw [HY.out]
    obtain ⟨⟨q0, q1, q2, q3⟩, _⟩ := d_cells DY.c
    obtain ⟨r0, r1, r2, r3⟩ := r10_cells DY.r
    by_cases h0 : k' = 0
    rotate_left
    · have h01 : (k' != 0) = true := by simp [h0]
      have Hn := Lib.hid h0
      clear h0
      obtain ⟨⟨y0, y1, y2, y3⟩, f0, f1, f2, f3⟩ := d_cells DY.z
      obtain ⟨U, hU, ⟨v0, v1, v2, v3⟩, mU, lU⟩ := SFin DY.z DY.low (by omega) DY.m
      have HU := Lib.hid hU
      have H := Lib.hid (show SNPost w (sDo s r) log (nDo s r) (eDo s r) (.returned (.tuple #[dsv A1 n1 c1 A2 n2 c2 (some ⟨g, off, none⟩) n3 c3 A4 n4 c4, .int .i64 0, .int .i64 k'])) U from by
        rw [sDo_err (by rw [He.out]; exact Hn.out), nDo_err (by rw [He.out]; exact Hn.out), He.out]
        exact ⟨_, _, _, _, _, _, _, _, _, _, _, _, rfl, mU, lU⟩)
      clear hU mU lU DY oY dY tY mY
      go_wp2_with fail
      rw [HU.out]
      exact bodyPost_ret (v := .tuple #[dsv A1 n1 c1 A2 n2 c2 (some ⟨g, off, none⟩) n3 c3 A4 n4 c4, .int .i64 0, .int .i64 k']) (by simp [results, Try.results59, go_sem, v0, v1, v2, v3]) rfl H.out
    have h01 : (k' != 0) = false := by simp [h0]
    have He0 := Lib.hid (show eDo s r = 0 by rw [He.out]; exact h0)
    clear h0
    obtain ⟨o0, o1, o2, o3⟩ := oY.cells
    obtain ⟨⟨u0, u1, u2, u3⟩, _⟩ := d_cells tY
    have hc := with_c A1 n1 c1 A5 n5 c5 (some ⟨g, off, none⟩) n3 c3 A4 n4 c4 _ log i q' A6 n6 c6 r.tx p Y mY dY hi1 kk3
    go_wp2_with fail
    (with_reducible refine hc.mono ?_)
    rintro e w4 ⟨E1, x1, z1, E2, x2, z2, E3, x3, z3, E4, x4, z4, rfl, m4, b4⟩
    have D4 := DY.on b4
    clear hc DY oY dY tY mY b4 o0 o1 o2 o3 u0 u1 u2 u3
    clear q0 q1 q2 q3 r0 r1 r2 r3
    have m4 : DM w4 E1 x1 z1 E2 x2 z2 E3 x3 z3 E4 x4 z4 (sDo s r) log := by
      have e1 : sDo s r = ⟨s.led, sTake s.lk r.tx r.ky true, upd s.pts r.tx (sAdd p ⟨r.ky, r.nn⟩)⟩ := by
        rw [sDo_some (p := p) He0.out hh.at_]
        unfold sDone
        rw [if_neg (by rw [Hkd.out]; omega), if_pos Hkd.out]
      rw [e1, ← set_upd hh.good.inv.tx hh.at_, Hidx.out, Hq.out]
      exact m4
    have Hn0 := Lib.hid (show nDo s r = 0 by unfold nDo; rw [if_neg (by rw [He0.out]; simp), if_neg (by rw [Hkd.out]; omega)])
    obtain ⟨⟨y0, y1, y2, y3⟩, f0, f1, f2, f3⟩ := d_cells D4.z
    obtain ⟨U, hU, ⟨v0, v1, v2, v3⟩, mU, lU⟩ := SFin D4.z D4.low (by omega) m4
    have HU := Lib.hid hU
    have H := Lib.hid (show SNPost w (sDo s r) log (nDo s r) (eDo s r) (.returned (.tuple #[dsv E1 x1 z1 E2 x2 z2 E3 x3 z3 E4 x4 z4, .int .i64 0, .int .i64 0])) U from by
      rw [Hn0.out, He0.out]
      exact ⟨_, _, _, _, _, _, _, _, _, _, _, _, rfl, mU, lU⟩)
    clear hU mU lU D4 m4
    go_wp2_with fail
    rw [HU.out]
    exact bodyPost_ret (v := .tuple #[dsv E1 x1 z1 E2 x2 z2 E3 x3 z3 E4 x4 z4, .int .i64 0, .int .i64 0]) (by simp [results, Try.results59, go_sem, v0, v1, v2, v3]) rfl H.out
  | false =>
    have hed3 : eDo s r = 0 := by rw [hed2]; rfl
    have hkd : r.kd = 2 := by
      rcases hk with k | k
      · exact k
      · rw [k] at hwb; simp at hwb
    have hc := getR_c A1 n1 c1 r.ky s.led X DX.m.led kk1
    have He0 := Lib.hid hed3
    have Hn0 := Lib.hid (show nDo s r = sees s p r.ky from nDo_read hed3 hkd hh.at_)
    have Hs0 := Lib.hid (show sDo s r = ⟨s.led, sTake s.lk r.tx r.ky false, s.pts⟩ by rw [sDo_some (p := p) hed3 hh.at_]; unfold sDone; rw [if_pos hkd])
    have hsee : sees s p r.ky = wrap64 (getD s.led r.ky + tot p.ad r.ky) := rfl
    obtain ⟨gd, hgd⟩ : ∃ x, getD s.led r.ky = x := ⟨_, rfl⟩
    rw [hgd] at hc hw hsee
    have Hsee := Lib.hid hsee
    have hw0 := Lib.hid (show gd = wrap64 (gd + tot (p.ad.take 0) r.ky) by
      have := hw.out
      rw [List.take_zero]
      show gd = wrap64 (gd + 0)
      rw [Int.add_zero, IntWalk.wrap64_in _ this])
    clear hed2 hed3 hkd hgd hsee hk hwb
    go_wp2_with fail
    (with_reducible refine hc.mono ?_)
    rintro e w3 ⟨rfl, b3⟩
    have D3 := DX.on b3
    have t3 := tX.on b3
    have m3 := mX.on b3
    have o3' := oX.on b3
    have d3 := dX.on b3
    have hdl := Lib.hid dX.len
    have hm9 : d ≤ 9223372036854775807 ∧ m ≤ 1000 := ⟨by have := dX.max; simp only [maxLen] at this; omega, by have := dX.len; omega⟩
    clear hc DX tX mX oX dX b3 o0 o1 o2 o3
    clear q0 q1 q2 q3 r0 r1 r2 r3
    go_wp2_with fail
    go_loopw [15, 16] (fun v i wr => ∃ j : Nat, j ≤ m ∧ i = .int .i64 j ∧ v = .int .i64 (wrap64 (gd + tot (p.ad.take j) r.ky)) ∧ Below w3.heap.size w3 wr) (fun _ i _ => m - (intOf i).toNat)
    case atStart => exact ⟨0, by omega, rfl, by rw [← hw0.out], Below.refl _ _⟩
    case round =>
      obtain ⟨j, hj, rfl, rfl, hbl⟩ := hrel
      obtain ⟨o0, o1, o2, o3⟩ := (o3'.on hbl).cells
      have r2 := (D3.on hbl).r.cell 2
      simp only [List.getElem?_toArray, List.getElem?_cons_zero, List.getElem?_cons_succ] at r2
      by_cases hlt2 : j < m
      · have hlt3 : (j : Int) < (m : Int) := by omega
        obtain ⟨ga, oa, rfl, d1, d2⟩ := (d3.on hbl).at2 hlt2
        have htk := Lib.hid (tk_take (L := p.ad) (j := j) (by rw [hdl.out]; exact hlt2))
        generalize tk p.ad j = x at *
        by_cases hx : x.k = r.ky
        · have hx1 : (x.k == r.ky) = true := by simp [hx]
          have Hn := Lib.hid (show wrap64 (gd + tot (p.ad.take (j + 1)) r.ky) = wrap64 (wrap64 (gd + tot (p.ad.take j) r.ky) + x.b) by
            rw [htk.out, tot_append, wrap_left]
            simp only [tot, hx, if_true, Int.add_zero]
            congr 1
            omega)
          generalize wrap64 (gd + tot (p.ad.take j) r.ky) = y at *
          clear hx
          go_wp2_with fail
          go_quiet (fail)
          go_wp2_with fail
          go_roundw
          case rel => exact ⟨j + 1, by omega, by go_num, by rw [Hn.out], belowN hbl _⟩
          case measure => simp [intOf]; omega
        · have hx1 : (x.k == r.ky) = false := by simp [hx]
          have Hn := Lib.hid (show wrap64 (gd + tot (p.ad.take (j + 1)) r.ky) = wrap64 (gd + tot (p.ad.take j) r.ky) by
            rw [htk.out, tot_append]
            simp only [tot, hx, if_false, Int.add_zero])
          generalize wrap64 (gd + tot (p.ad.take j) r.ky) = y at *
          clear hx
          go_wp2_with fail
          go_quiet (fail)
          go_wp2_with fail
          go_roundw
          case rel => exact ⟨j + 1, by omega, by go_num, by rw [Hn.out], belowN hbl _⟩
          case measure => simp [intOf]; omega
      · obtain rfl : j = m := by omega
        have hlt3 : ¬ (j : Int) < (j : Int) := by omega
        have Hv := Lib.hid (show wrap64 (gd + tot (p.ad.take j) r.ky) = nDo s r by rw [take_all hdl.out, Hn0.out, Hsee.out])
        generalize wrap64 (gd + tot (p.ad.take j) r.ky) = y at *
        have D4 := D3.on hbl
        have m4 := m3.on hbl
        obtain ⟨⟨u0, u1, u2, u3⟩, _⟩ := d_cells (t3.on hbl)
        rw [← Hs0.out] at m4
        clear D3 m3 t3 o3' d3 hbl r2
        obtain ⟨⟨y0, y1, y2, y3⟩, f0, f1, f2, f3⟩ := d_cells D4.z
        obtain ⟨U, hU, ⟨v0, v1, v2, v3⟩, mU, lU⟩ := SFin D4.z D4.low (by omega) m4
        have HU := Lib.hid hU
        have H := Lib.hid (show SNPost w (sDo s r) log (nDo s r) (eDo s r) (.returned (.tuple #[dsv A1 n1 c1 A5 n5 c5 (some ⟨g, off, none⟩) n3 c3 A4 n4 c4, .int .i64 y, .int .i64 0])) U from by
          rw [Hv.out, He0.out]
          exact ⟨_, _, _, _, _, _, _, _, _, _, _, _, rfl, mU, lU⟩)
        clear hU mU lU D4 m4
        go_wp2_with fail
        rw [HU.out]
        exact bodyPost_ret (v := .tuple #[dsv A1 n1 c1 A5 n5 c5 (some ⟨g, off, none⟩) n3 c3 A4 n4 c4, .int .i64 y, .int .i64 0]) (by simp [results, Try.results59, go_sem, v0, v1, v2, v3]) rfl H.out
end Go.Proofs.Ytealcccjnmfkcaa
