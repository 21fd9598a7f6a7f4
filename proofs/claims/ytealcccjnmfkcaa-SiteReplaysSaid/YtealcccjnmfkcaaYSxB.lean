/-
  The document's site: Find, with, change. Conditions: the site can be read, it is not large.
-/
import Derived.Test.YtealcccjnmfkcaaYSxA
import Derived.BigRegion
set_option linter.unusedVariables false
set_option linter.unusedSimpArgs false
namespace Go.Proofs.Ytealcccjnmfkcaa
open Go.RowKit

theorem Try.infoO : (Try.prog.info? 97).map (fun i => (i.zero, i.size, i.bytes)) = some (some (.agg #[.int .i64 0, .int .i64 0, .slice none 0 0, .bool false, .int .i64 0]), 5, 56) := by kernel_rfl
theorem app5 {n : Nat} (h : n ≤ 300000) : 0 + n ≤ maxLen ∧ (0 + n) * 56 ≤ 140737488355328 ∧ n + 1 ≤ maxLen ∧ (n + 1) * 56 ≤ 140737488355328 := by simp only [maxLen]; omega
/-- A whole element is stored into a slice of a call's own. -/
theorem seg_put5 {w : World} {T : TypeId} {A : Option Addr} {n c : Nat} {S : List Sh} {G : Option Nat} (h : Seg w T 5 A n c (rc oc S) G) {i : Nat} (hi : i < n) (y : Sh) (v0 v1 v2 v3 v4 : Value) (hy : oc y = [v0, v1, v2, v3, v4]) :
    ∃ g off, A = some ⟨g, off, none⟩ ∧ G = some g ∧ (∀ k, k < 5 → w.frozen? ⟨g, off + i * 5 + k, none⟩ = false) ∧
      ∃ V, ((((w.setCell ⟨g, off + i * 5, none⟩ v0).setCell ⟨g, off + i * 5 + 1, none⟩ v1).setCell ⟨g, off + i * 5 + 2, none⟩ v2).setCell ⟨g, off + i * 5 + 3, none⟩ v3).setCell ⟨g, off + i * 5 + 4, none⟩ v4 = V ∧ Seg V T 5 A n c (rc oc (S.set i y)) G ∧ Just g w V := by
  have hl : S.length = n := rc_len (c := oc) (s := 5) h
  obtain ⟨g, off, rfl, rfl, _, _, s0⟩ := h.slot (i * 5) (by omega)
  have fz : ∀ k, k < 5 → w.frozen? ⟨g, off + i * 5 + k, none⟩ = false := fun k hk => by
    obtain ⟨g', off', e1, e2, f, _, _⟩ := h.slot (i * 5 + k) (by omega)
    cases e1
    rw [Nat.add_assoc]
    exact f
  have st : ∀ {W : World} {X : List Value} (k : Nat), k < 5 → ∀ v, Seg W T 5 (some ⟨g, off, none⟩) n c X (some g) → Seg (W.setCell ⟨g, off + i * 5 + k, none⟩ v) T 5 (some ⟨g, off, none⟩) n c (X.set (i * 5 + k) v) (some g) := fun k hk v hs => by
    obtain ⟨g', off', e1, e2, _, _, s⟩ := hs.slot (i * 5 + k) (by omega)
    cases e1
    rw [Nat.add_assoc]
    exact s v
  have a0 := s0 v0
  have a1 := st 1 (by omega) v1 a0
  have a2 := st 2 (by omega) v2 a1
  have a3 := st 3 (by omega) v3 a2
  have a4 := st 4 (by omega) v4 a3
  rw [rc_set5 y v0 v1 v2 v3 v4 hy S i (by omega)] at a4
  exact ⟨g, off, rfl, rfl, fz, _, rfl, a4, ((((Just.set _ _ _ _).trans (Just.set _ _ _ _)).trans (Just.set _ _ _ _)).trans (Just.set _ _ _ _)).trans (Just.set _ _ _ _)⟩
theorem take_allO {L : List (Int × Pt)} {n : Nat} (h : L.length = n) : L.take n = L := List.take_of_length_le (by omega)
theorem take_oneO {L : List (Int × Pt)} {j : Nat} {o : Int × Pt} (h : L[j]? = some o) : L.take (j + 1) = L.take j ++ [o] := by
  rw [List.take_add_one, h]; rfl

set_option maxRecDepth 100000 in
set_option maxHeartbeats 2000000 in
theorem find_c (A1 : Option Addr) (n1 c1 : Nat) (A2 : Option Addr) (n2 c2 : Nat) (A3 : Option Addr) (n3 c3 : Nat) (A4 : Option Addr) (n4 c4 : Nat) (L : List (Int × Pt)) (tx : Int) (w : World) (h : OX w A3 n3 c3 L) :
    Calls Try.prog 18 #[dsv A1 n1 c1 A2 n2 c2 A3 n3 c3 A4 n4 c4, .int .i64 tx] w fun e w' => e = .returned (.int .i64 (idxI L tx)) ∧ Below w.heap.size w w' := by
  obtain ⟨W, hW⟩ : ∃ W, w.alloc (.cells (dcs A1 n1 c1 A2 n2 c2 A3 n3 c3 A4 n4 c4) 30) = W := ⟨_, rfl⟩
  have cW : CB W w.heap.size 30 (dcs A1 n1 c1 A2 n2 c2 A3 n3 c3 A4 n4 c4) := by rw [← hW]; exact CB.new _ _ _
  have bW : Below w.heap.size w W := by rw [← hW]; exact belA _ _
  have HW := Lib.hid hW
  have hlen := Lib.hid h.len
  have hmx : n3 ≤ maxLen := by obtain ⟨S, h1, _⟩ := h; exact Nat.le_trans h1.cap h1.max
  simp only [maxLen] at hmx
  obtain ⟨⟨_, _, q2, _⟩, _⟩ := d_cells cW
  clear hW cW
  go_enter Try.func18, Try.ntmps18
  go_upto_region 1 with fail
  rw [HW.out]
  go_wp2_with fail
  go_loopw [5] (fun i wr => ∃ j : Nat, j ≤ n3 ∧ i = .int .i64 j ∧ wr = W ∧ ∀ q ∈ L.take j, q.1 ≠ tx) (fun i _ => n3 - (intOf i).toNat)
  case atStart => exact ⟨0, by omega, rfl, rfl, by simp⟩
  case round =>
    obtain ⟨j, hj, rfl, rfl, hno⟩ := hrel
    by_cases hlt : j < n3
    · have hlt1 : (j : Int) < (n3 : Int) := by omega
      obtain ⟨g, off, B, m, d, o, rfl, ho, _, d0, _⟩ := OX.at5 (RX.on od_firm h bW) hlt
      by_cases hk : o.1 = tx
      · have hk1 : (o.1 == tx) = true := by simp [hk]
        have Hr := Lib.hid (show idxI L tx = (j : Int) by
          have hjl : j < L.length := by rw [hlen.out]; exact hlt
          have e : idx L tx = j := idx_stop hjl hno (fun q hq => by rw [ho] at hq; cases hq; exact hk)
          unfold idxI
          rw [e, if_pos hjl])
        clear hk hno
        go_wp2_with fail
        go_ret
        exact ⟨by rw [Hr.out]; rfl, bW⟩
      · have hk1 : (o.1 == tx) = false := by simp [hk]
        have Hn := Lib.hid (show ∀ q ∈ L.take (j + 1), q.1 ≠ tx by
          rw [take_oneO ho]
          intro q hq
          rcases List.mem_append.1 hq with hq | hq
          · exact hno q hq
          · simp at hq; subst hq; exact hk)
        clear hk hno
        go_wp2_with fail
        go_roundw
        case rel => exact ⟨j + 1, by omega, by go_num, by first | rfl | trivial, Hn.out⟩
        case measure => simp [intOf]; omega
    · obtain rfl : j = n3 := by omega
      have hlt1 : ¬ (j : Int) < (j : Int) := by omega
      rw [take_allO hlen.out] at hno
      have Hr := Lib.hid (show idxI L tx = -1 by unfold idxI; rw [idx_end hno, if_neg (by omega)])
      clear hno
      go_wp2_with fail
      go_ret
      exact ⟨by rw [Hr.out]; rfl, bW⟩

set_option maxRecDepth 100000 in
set_option maxHeartbeats 4000000 in
theorem change_c (A1 : Option Addr) (n1 c1 : Nat) (A2 : Option Addr) (n2 c2 : Nat) (A3 : Option Addr) (n3 c3 : Nat) (A4 : Option Addr) (n4 c4 : Nat) (s : Si) (log : List Rc) (tx : Int) (A5 : Option Addr) (n5 c5 : Nat) (D : List Dl) (w : World) (h : DM w A1 n1 c1 A2 n2 c2 A3 n3 c3 A4 n4 c4 s log) (hd : DR w A5 n5 c5 D) (k1 : n1 ≤ 100000) (k2 : n2 ≤ 100000) (k5 : n5 ≤ 100000) :
    Calls Try.prog 89 #[dsv A1 n1 c1 A2 n2 c2 A3 n3 c3 A4 n4 c4, .int .i64 tx, .slice A5 n5 c5] w (SPost w ⟨sPut s.led D, fre s.lk tx, s.pts⟩ log) := by
  obtain ⟨W, hW⟩ : ∃ W, (w.alloc (.cells (dcs A1 n1 c1 A2 n2 c2 A3 n3 c3 A4 n4 c4) 30)).alloc (.cells dz 30) = W := ⟨_, rfl⟩
  have cW : CB W w.heap.size 30 (dcs A1 n1 c1 A2 n2 c2 A3 n3 c3 A4 n4 c4) := by rw [← hW]; exact (CB.new _ _ _).alloc _
  have zW : CB W (w.heap.size + 1) 30 dz := by
    rw [← hW]
    have := CB.new (w.alloc (.cells (dcs A1 n1 c1 A2 n2 c2 A3 n3 c3 A4 n4 c4) 30)) 30 dz
    simpa using this
  have bW : Below w.heap.size w W := by rw [← hW]; exact bel2 (belA _ _) (belA _ _)
  have HW := Lib.hid hW
  have mW := h.on bW
  have hc := putR_c A1 n1 c1 s.led A5 n5 c5 D W mW.led (hd.on bW) k1 k5
  obtain ⟨⟨q0, q1, q2, q3⟩, _⟩ := d_cells cW
  clear hW h hd
  go_enter Try.func89, Try.ntmps89
  go_upto_region 1 with fail
  rw [HW.out]
  go_wp2_with fail
  (with_reducible refine hc.mono ?_)
  rintro e w1 ⟨A6, n6, c6, rfl, d6, b1⟩
  have c1' := cW.on b1
  have z1 := zW.on b1
  have m1 := mW.on b1
  have l1 := bel2 bW b1
  clear hc q0 q1 q2 q3 b1 cW zW mW bW
  have hlt := c1'.lt
  obtain ⟨V, hV⟩ : ∃ V, w1.setCell ⟨w.heap.size, 0, none⟩ (.slice A6 n6 c6) = V := ⟨_, rfl⟩
  have jV : Just w.heap.size w1 V := by rw [← hV]; exact Just.set _ _ _ _
  have cV : CB V w.heap.size 30 (dcs A6 n6 c6 A2 n2 c2 A3 n3 c3 A4 n4 c4) := by rw [← hV]; exact c1'.put 0 _
  have mV : DM V A6 n6 c6 A2 n2 c2 A3 n3 c3 A4 n4 c4 ⟨sPut s.led D, s.lk, s.pts⟩ log := DM.just (s := ⟨sPut s.led D, s.lk, s.pts⟩) ⟨d6, m1.lk, m1.pts, m1.log⟩ c1' jV
  have zV := jV.cb z1 (by omega)
  have lV := jV.low l1 (Nat.le_refl _)
  obtain ⟨⟨q0, q1, q2, q3⟩, f0, f1, f2, f3⟩ := d_cells c1'
  have HV := Lib.hid hV
  clear hV jV m1 z1 l1 d6 c1'
  have hc := freeR_c A2 n2 c2 tx s.lk V mV.lk k2
  go_upto_region 3 with fail
  rw [HV.out]
  clear q0 q1 q2 q3 f0 f1 f2 f3
  obtain ⟨⟨q0, q1, q2, q3⟩, f0, f1, f2, f3⟩ := d_cells cV
  go_wp2_with fail
  (with_reducible refine hc.mono ?_)
  rintro e w2 ⟨A7, n7, c7, rfl, d7, b2⟩
  have c2' := cV.on b2
  have z2 := zV.on b2
  have m2 := mV.on b2
  have l2 := bel2 lV b2
  clear hc q0 q1 q2 q3 f0 f1 f2 f3 b2 cV zV mV lV
  obtain ⟨X, hX⟩ : ∃ V, w2.setCell ⟨w.heap.size, 1, none⟩ (.slice A7 n7 c7) = V := ⟨_, rfl⟩
  have jX : Just w.heap.size w2 X := by rw [← hX]; exact Just.set _ _ _ _
  have cX : CB X w.heap.size 30 (dcs A6 n6 c6 A7 n7 c7 A3 n3 c3 A4 n4 c4) := by rw [← hX]; exact c2'.put 1 _
  have mX : DM X A6 n6 c6 A7 n7 c7 A3 n3 c3 A4 n4 c4 ⟨sPut s.led D, fre s.lk tx, s.pts⟩ log := DM.just (s := ⟨sPut s.led D, fre s.lk tx, s.pts⟩) ⟨m2.led, d7.rr, m2.pts, m2.log⟩ c2' jX
  have zX := jX.cb z2 (by omega)
  have lX := jX.low l2 (Nat.le_refl _)
  obtain ⟨⟨q0, q1, q2, q3⟩, f0, f1, f2, f3⟩ := d_cells c2'
  have HX := Lib.hid hX
  clear hX jX m2 z2 l2 d7 c2'
  go_upto_region 4 with fail
  rw [HX.out]
  clear q0 q1 q2 q3 f0 f1 f2 f3
  obtain ⟨⟨q0, q1, q2, q3⟩, _⟩ := d_cells cX
  obtain ⟨⟨y0, y1, y2, y3⟩, f0, f1, f2, f3⟩ := d_cells zX
  obtain ⟨U, hU, ⟨v0, v1, v2, v3⟩, mU, lU⟩ := SFin zX lX (by omega) mX
  have HU := Lib.hid hU
  have H := Lib.hid (show SPost w ⟨sPut s.led D, fre s.lk tx, s.pts⟩ log (.returned (dsv A6 n6 c6 A7 n7 c7 A3 n3 c3 A4 n4 c4)) U from ⟨_, _, _, _, _, _, _, _, _, _, _, _, rfl, mU, lU⟩)
  clear hU mU lU cX mX zX lX
  go_wp2_with fail
  rw [HU.out]
  exact bodyPost_ret (v := dsv A6 n6 c6 A7 n7 c7 A3 n3 c3 A4 n4 c4) (by simp [results, Try.results89, go_sem, v0, v1, v2, v3]) rfl H.out

set_option maxRecDepth 100000 in
set_option maxHeartbeats 4000000 in
theorem with_c (A1 : Option Addr) (n1 c1 : Nat) (A2 : Option Addr) (n2 c2 : Nat) (A3 : Option Addr) (n3 c3 : Nat) (A4 : Option Addr) (n4 c4 : Nat) (s : Si) (log : List Rc) (i : Nat) (p : Pt) (B : Option Addr) (m d : Nat) (tx : Int) (q : Pt) (w : World) (h : DM w A1 n1 c1 A2 n2 c2 A3 n3 c3 A4 n4 c4 s log) (hd : DR w B m d p.ad) (hi : s.pts[i]? = some (tx, q)) (k3 : n3 ≤ 100000) :
    Calls Try.prog 87 #[dsv A1 n1 c1 A2 n2 c2 A3 n3 c3 A4 n4 c4, .int .i64 i, pv B m d p] w (SPost w ⟨s.led, s.lk, s.pts.set i (tx, p)⟩ log) := by
  obtain ⟨W, hW⟩ : ∃ W, ((w.alloc (.cells (dcs A1 n1 c1 A2 n2 c2 A3 n3 c3 A4 n4 c4) 30)).alloc (.cells #[.int .i64 p.st, .slice B m d, .bool p.lo, .int .i64 p.ou] 95)).alloc (.cells dz 30) = W := ⟨_, rfl⟩
  have cW : CB W w.heap.size 30 (dcs A1 n1 c1 A2 n2 c2 A3 n3 c3 A4 n4 c4) := by rw [← hW]; exact ((CB.new _ _ _).alloc _).alloc _
  have pW : PB W (w.heap.size + 1) 95 p.st B m d p.lo p.ou := by
    rw [← hW]
    have := (PB.new (w.alloc (.cells (dcs A1 n1 c1 A2 n2 c2 A3 n3 c3 A4 n4 c4) 30)) 95 p.st B m d p.lo p.ou).alloc (.cells dz 30)
    simpa using this
  have zW : CB W (w.heap.size + 1 + 1) 30 dz := by
    rw [← hW]
    have := CB.new ((w.alloc (.cells (dcs A1 n1 c1 A2 n2 c2 A3 n3 c3 A4 n4 c4) 30)).alloc (.cells #[.int .i64 p.st, .slice B m d, .bool p.lo, .int .i64 p.ou] 95)) 30 dz
    simpa using this
  have bW : Below w.heap.size w W := by rw [← hW]; exact bel2 (bel2 (belA _ _) (belA _ _)) (belA _ _)
  have HW := Lib.hid hW
  have mW := h.on bW
  have dW := hd.on bW
  obtain ⟨⟨q0, q1, q2, q3⟩, _⟩ := d_cells cW
  clear hW h hd
  go_enter Try.func87, Try.ntmps87
  go_upto_region 1 with fail
  rw [HW.out]
  obtain ⟨i0, hi0, hz0, hz1, hz2⟩ := info_parts Try.infoO
  obtain ⟨W1, hW1⟩ : ∃ W1, W.alloc (.cells #[] 97) = W1 := ⟨_, rfl⟩
  have k1 : Below W.heap.size W W1 := by rw [← hW1]; exact belA W _
  have cb : CB W1 W.heap.size 97 #[] := by rw [← hW1]; exact CB.new W _ _
  have hs0 : Seg W1 97 5 (some ⟨W.heap.size, 0, none⟩) 0 0 [] (some W.heap.size) := ⟨rfl, Nat.le_refl _, Nat.zero_le _, .inr ⟨_, 0, #[], rfl, rfl, cb, by simp, fun j u hu => by simp at hu⟩⟩
  obtain ⟨S3, hS3, hF3⟩ := mW.pts
  have hsr := (hS3.on k1).src
  obtain ⟨p1, p2, _, _⟩ := app5 (n := n3) (by omega)
  have p03 : 0 < 5 := by omega
  have z0 := Nat.zero_add n3
  have hlt : i < n3 := by
    have h1 := (List.getElem?_eq_some_iff.1 hi).1
    have h2 := mW.pts.len
    omega
  obtain ⟨⟨a0, a1, a2, a3⟩, _⟩ := d_cells (cW.alloc (.cells #[] 97))
  have HW1 := Lib.hid hW1
  clear hW1 cb
  go_wp2_with (at_builtin; try rw [HW1.out]; refine wpList_append_src _ rfl (.tmp 8) (.tmp 10) _ rfl 97 i0 _ 5 56 Try.underlying28 hi0 hz0 hz1 hz2 rfl p03 rfl hs0 rfl hsr (rc_one 5 _) p1 p2 n3 z0 ?_; intro A5 c5 G5 w5 hs5 hg5 hm5; refine Stay.mk ?_)
  refine Stay.open_ ?_
  rw [List.nil_append] at hs5
  have l5 : Below W.heap.size W w5 := k1.grown hg5 k1.size (fun g e => by cases e; exact Nat.le_refl _)
  have hG5 := hm5.ge k1.size (fun g e => by cases e; exact Nat.le_refl _)
  clear a0 a1 a2 a3 q0 q1 q2 q3 hs0 hsr hg5 hm5 k1 HW1 hi0 hz0 hz1 hz2 z0
  have c5' := cW.on l5
  have p5 := pW.on l5
  obtain ⟨⟨q0, q1, q2, q3⟩, _⟩ := d_cells c5'
  obtain ⟨o0, o1, o2, o3⟩ := p5.cells
  obtain ⟨g, off, hA, hG, hfz, V, hV, hsV, jV⟩ := seg_put5 hs5 hlt ⟨tx, p.st, B, m, d, p.lo, p.ou⟩ (.int .i64 tx) (.int .i64 p.st) (.slice B m d) (.bool p.lo) (.int .i64 p.ou) rfl
  subst hA
  have hgW : W.heap.size ≤ g := hG5 g hG
  obtain ⟨x, hx⟩ : ∃ x, S3[i]? = some x := ⟨_, List.getElem?_eq_getElem (by rw [hF3.len]; exact (List.getElem?_eq_some_iff.1 hi).1)⟩
  have hxt : x.tx = tx := (hF3.at_ i x _ hx hi).1
  have hcs : ∀ k v, (oc x)[k]? = some v → w5.cell? ⟨g, off + i * 5 + k, none⟩ = some v := by
    obtain ⟨g', off', y, hy, e, hc⟩ := (RR.of_seg hs5).at_ hlt
    cases e
    rw [hx] at hy
    cases hy
    exact hc
  have e0 := hcs 0 _ rfl
  rw [hxt, Nat.add_zero] at e0
  have e1 := hcs 1 _ rfl
  have e2 := hcs 2 _ rfl
  have e3 := hcs 3 _ rfl
  have e4 := hcs 4 _ rfl
  have f0 := hfz 0 (by omega)
  rw [Nat.add_zero] at f0
  have f1 := hfz 1 (by omega)
  have f2 := hfz 2 (by omega)
  have f3 := hfz 3 (by omega)
  have f4 := hfz 4 (by omega)
  have lV := jV.low l5 hgW
  have HoX := Lib.hid (show OX V (some ⟨g, off, none⟩) n3 c5 (s.pts.set i (tx, p)) from ⟨_, RR.of_seg hsV, Fits.set (Fits.on od_firm hF3 lV) ⟨rfl, rfl, rfl, rfl, dW.on lV⟩ i⟩)
  have HV := Lib.hid hV
  have HlV := Lib.hid lV
  clear hV hsV jV hx hxt hcs hfz hG5 hG hgW lV hF3 hS3 hs5
  have hlt1 : (i : Int) < (n3 : Int) := by omega
  go_upto_region 2 with fail
  go_region
  rw [HV.out]
  clear q0 q1 q2 q3 o0 o1 o2 o3 e0 e1 e2 e3 e4 f0 f1 f2 f3 f4
  obtain ⟨VD, hVD⟩ : ∃ VD, V.drew = VD := ⟨_, rfl⟩
  rw [hVD]
  have lD : Below W.heap.size W VD := by rw [← hVD]; exact belowD HlV.out
  have cV := cW.on lD
  have zV := zW.on lD
  have mV := mW.on lD
  have oV : OX VD (some ⟨g, off, none⟩) n3 c5 (s.pts.set i (tx, p)) := by rw [← hVD]; exact RX.on od_firm HoX.out (belowD (Below.refl _ _))
  have lV := bel2 bW lD
  obtain ⟨⟨q0, q1, q2, q3⟩, f0, f1, f2, f3⟩ := d_cells cV
  obtain ⟨X, hX⟩ : ∃ X, VD.setCell ⟨w.heap.size, 2, none⟩ (.slice (some ⟨g, off, none⟩) n3 c5) = X := ⟨_, rfl⟩
  have jX : Just w.heap.size VD X := by rw [← hX]; exact Just.set _ _ _ _
  have cX : CB X w.heap.size 30 (dcs A1 n1 c1 A2 n2 c2 (some ⟨g, off, none⟩) n3 c5 A4 n4 c4) := by rw [← hX]; exact cV.put 2 _
  have mX : DM X A1 n1 c1 A2 n2 c2 (some ⟨g, off, none⟩) n3 c5 A4 n4 c4 ⟨s.led, s.lk, s.pts.set i (tx, p)⟩ log := DM.just (s := ⟨s.led, s.lk, s.pts.set i (tx, p)⟩) ⟨mV.led, mV.lk, oV, mV.log⟩ cV jX
  have zX := jX.cb zV (by omega)
  have lX := jX.low lV (Nat.le_refl _)
  have HX := Lib.hid hX
  clear hX jX mV zV lV lD oV cV cW pW zW mW dW l5 c5' p5 HoX HlV HV hVD
  go_upto_region 4 with fail
  rw [HX.out]
  clear q0 q1 q2 q3 f0 f1 f2 f3
  obtain ⟨⟨q0, q1, q2, q3⟩, _⟩ := d_cells cX
  obtain ⟨⟨y0, y1, y2, y3⟩, f0, f1, f2, f3⟩ := d_cells zX
  obtain ⟨U, hU, ⟨v0, v1, v2, v3⟩, mU, lU⟩ := SFin zX lX (by omega) mX
  have HU := Lib.hid hU
  have H := Lib.hid (show SPost w ⟨s.led, s.lk, s.pts.set i (tx, p)⟩ log (.returned (dsv A1 n1 c1 A2 n2 c2 (some ⟨g, off, none⟩) n3 c5 A4 n4 c4)) U from ⟨_, _, _, _, _, _, _, _, _, _, _, _, rfl, mU, lU⟩)
  clear hU mU lU cX mX zX lX
  go_wp2_with fail
  rw [HU.out]
  exact bodyPost_ret (v := dsv A1 n1 c1 A2 n2 c2 (some ⟨g, off, none⟩) n3 c5 A4 n4 c4) (by simp [results, Try.results87, go_sem, v0, v1, v2, v3]) rfl H.out
end Go.Proofs.Ytealcccjnmfkcaa
