/-
  The program's site beside the document's: what a call of the one leaves of the other; the walk of SiteActs. Condition: the calls can be read, their numbers such as their types hold.
-/
import Derived.Test.YtealcccjnmfkcaaYSxE
import Derived.Test.YtealcccjnmfkcaaYSxF
import Derived.Test.YtealcccjnmfkcaaYSiJ
import Derived.Deep.RegionHeld3
import Derived.BigQuiet
set_option linter.unusedVariables false
set_option linter.unusedSimpArgs false
namespace Go.Proofs.Ytealcccjnmfkcaa
open Go.RowKit

section
variable {w w' W V : World} {A1 : Option Addr} {n1 c1 : Nat} {A2 : Option Addr} {n2 c2 : Nat} {A3 : Option Addr} {n3 c3 : Nat} {A4 : Option Addr} {n4 c4 : Nat} {s : Si} {log : List Rc}
/-- What leaves all blocks but a site's own leaves the document's site. -/
theorem DM.keepT (h : DM w A1 n1 c1 A2 n2 c2 A3 n3 c3 A4 n4 c4 s log) (hk : ∀ (g : Nat) (T : TypeId) (cs : Array Value), CB w g T cs → typF T → w'.heap[g]? = w.heap[g]?) : DM w' A1 n1 c1 A2 n2 c2 A3 n3 c3 A4 n4 c4 s log := by
  obtain ⟨h1, h2, ⟨S, h3, h4⟩, h5⟩ := h
  exact ⟨h1.keepT hk, h2.keepT hk, ⟨S, h3.keepT hk, h4.keep fun b a ⟨e1, e2, e3, e4, e5⟩ => ⟨e1, e2, e3, e4, e5.keepT hk⟩⟩, h5.keepT hk⟩
theorem DM.nil (w : World) : DM w none 0 0 none 0 0 none 0 0 none 0 0 si0 [] := ⟨RR.nil _ _ _, RR.nil _ _ _, RX.nil _ _ _ _, RR.nil _ _ _⟩
/-- Behind a call of the program's site. -/
theorem DM.done {b m : Nat} {G : Option Nat} {s' : Si} {log' : List Rc} {r : Rc} {e : Ending} (h : DM w A1 n1 c1 A2 n2 c2 A3 n3 c3 A4 n4 c4 s log) (hs : SR w b m G s' log') (hd : DoPost w b m G s' log' r e w') : DM w' A1 n1 c1 A2 n2 c2 A3 n3 c3 A4 n4 c4 s log := by
  obtain ⟨_, G', _, h2, _⟩ := hd
  obtain ⟨⟨B1, k1, d1, B2, k2, d2, B3, k3, d3, f, g1, g2, g3, g4, g5, g6⟩, _⟩ := hs
  exact h.keepT fun g T cs hc ht => h2.block g hc.lt (hc.ne_ g1 ht.2) (g4.ne hc) (fun e => g5.ne_ hc (fun e' => ht.1 e'.symm) e.symm)
/-- Behind an append to a slice of calls of the program. -/
theorem DM.grown {G : Option Nat} (h : DM w A1 n1 c1 A2 n2 c2 A3 n3 c3 A4 n4 c4 s log) (hg : w.grownBy w' G) (hT : ∀ g, G = some g → ∃ cs, CB w g 35 cs) : DM w' A1 n1 c1 A2 n2 c2 A3 n3 c3 A4 n4 c4 s log :=
  h.keepT fun g T cs hc ht => hg.block g hc.lt (fun e => by
    obtain ⟨cs', hc'⟩ := hT g e.symm
    exact hc.ne_ hc' ht.1 rfl)
theorem neDD : 102 ≠ 30 := by decide
theorem neHD : 166 ≠ 30 := by decide
theorem neRD : 35 ≠ 30 := by decide
/-- A store into the document's site leaves the program's. -/
theorem ST.just {B : Nat} {Rs : Nat → Prop} {b m : Nat} {G : Option Nat} (h : ST B w W Rs b m G s log) {d : Nat} {cs : Array Value} (hc : CB W d 30 cs) (hj : Just d W V) (hd : Rs d) (hB : B ≤ d) : ST B w V Rs b m G s log := by
  obtain ⟨⟨B1, k1, d1, B2, k2, d2, B3, k3, d3, f, g1, g2, g3, g4, g5, g6⟩, hg⟩ := h.sr
  obtain ⟨_, o2, o3, o4⟩ := h.out d hd
  have keep : ∀ (T : TypeId), T ≠ 30 → ∀ (g : Nat) (cs : Array Value), CB W g T cs → V.heap[g]? = W.heap[g]? := fun T t1 g cs' hc' => hj.block g (hc'.ne_ hc t1)
  exact ⟨⟨⟨B1, k1, d1, B2, k2, d2, B3, k3, d3, f, hj.cb g1 (fun e => o2 e.symm), g2.keep2 (keep _ neDD), g3.keep2 (keep _ neHD), g4.same (hj.block m (fun e => o3 e.symm)), g5.keep fun g e => hj.block g (o4 g e), g6.keep (keep _ neDD)⟩, hg⟩, h.hi, hj.low h.low hB, fun R hR => ⟨by rw [hj.size]; exact (h.out R hR).1, (h.out R hR).2⟩⟩
end
theorem find_ge {l : List (Int × Pt)} {tx : Int} (h : (fnd l tx).isSome = true) : 0 ≤ idxI l tx := by
  obtain ⟨p, hp⟩ := Option.isSome_iff_exists.1 h
  obtain ⟨_, h2⟩ := idx_some hp
  unfold idxI
  rw [if_pos h2]
  omega
theorem find_no {l : List (Int × Pt)} {tx : Int} (h : (fnd l tx).isSome = false) : ¬ 0 ≤ idxI l tx := by
  have hn : fnd l tx = none := by simpa using h
  unfold idxI
  rw [idx_none hn, if_neg (by omega)]
  omega

set_option maxRecDepth 100000 in
set_option maxHeartbeats 4000000 in
theorem acts_walk (A : Option Addr) (n c : Nat) (L : List Rc) (w : World) (h : KR w A n c L) (hr : ∀ r ∈ L, RcOk r) :
    Calls Try.prog 3 #[.slice A n c] w fun e w' => e = .returned (.bool true) ∧ Below w.heap.size w w' := by
  have hlen := Lib.hid h.len
  have hmx : n ≤ maxLen := Nat.le_trans h.cap h.max
  simp only [maxLen] at hmx
  go_enter Try.func3, Try.ntmps3
  go_wp2_with fail
  (with_reducible refine (alive_c w).mono ?_)
  rintro e w1 ⟨rfl, b1⟩
  have hw1 := h.on b1
  have HB1 := Lib.hid b1
  clear h b1
  go_wp2_with fail
  (with_reducible refine (new_c w1).mono ?_)
  rintro e w2 ⟨b, m, rfl, h1, h2, h3⟩
  have hst : ST w1.heap.size w1 w2 (fun _ => False) b m none si0 [] := ⟨h1, h3, h2, fun R hR => hR.elim⟩
  have hB0 : w1.heap.size ≤ w2.heap.size := h2.size
  obtain ⟨V, hV⟩ : ∃ V, w2.alloc (.cells dz 30) = V := ⟨_, rfl⟩
  have cV : CB V w2.heap.size 30 (dcs none 0 0 none 0 0 none 0 0 none 0 0) := by rw [← hV]; exact CB.new _ _ _
  have bV : Below w2.heap.size w2 V := by rw [← hV]; exact belA _ _
  have sV := (hst.add (R := w2.heap.size) bV (Nat.le_refl _) cV.lt).less (Rs' := fun x => x = w2.heap.size) (fun x e => .inr e)
  have HV := Lib.hid hV
  clear hV bV hst h1 h2 h3
  go_upto_region 5 with fail
  rw [HV.out]
  obtain ⟨dd, hdd⟩ : ∃ q, w2.heap.size = q := ⟨_, rfl⟩
  rw [hdd] at sV cV hB0 ⊢
  clear hdd HV
  go_wp2_with fail
  go_loopw [5] (fun i wr => ∃ (j : Nat) (G : Option Nat) (S : Si) (K : List Rc) (A1 : Option Addr) (n1 c1 : Nat) (A2 : Option Addr) (n2 c2 : Nat) (A3 : Option Addr) (n3 c3 : Nat) (A4 : Option Addr) (n4 c4 : Nat), j ≤ n ∧ j ≤ 120 ∧ i = .int .i64 j ∧ K.length ≤ j ∧ ST w1.heap.size w1 wr (fun x => x = dd) b m G S K ∧ CB wr dd 30 (dcs A1 n1 c1 A2 n2 c2 A3 n3 c3 A4 n4 c4) ∧ DM wr A1 n1 c1 A2 n2 c2 A3 n3 c3 A4 n4 c4 S K) (fun i _ => n - (intOf i).toNat)
  case atStart => exact ⟨0, none, si0, [], none, 0, 0, none, 0, 0, none, 0, 0, none, 0, 0, by omega, by omega, rfl, by simp, sV, cV, DM.nil _⟩
  case round =>
    clear sV cV
    obtain ⟨j, G, S, K, A1, n1, c1, A2, n2, c2, A3, n3, c3, A4, n4, c4, hj, hj2, rfl, hK, hst, hc, hm⟩ := hrel
    by_cases hlt : j < n
    · by_cases hl4 : j < 120
      · have hlt1 : (j : Int) < (n : Int) := by omega
        have hl5 : (j : Int) < 120 := by omega
        have hjl : j < L.length := by rw [hlen.out]; exact hlt
        have hok := hr _ (tkR_mem hjl)
        have hat := Lib.hid (fun (W : World) (hb : Below w1.heap.size w1 W) => (hw1.on hb).at4 hlt)
        obtain ⟨g, off, rfl, d0, d1, d2, d3⟩ := hat.out _ hst.low
        generalize tkR L j = x at *
        have hK2 := logIf_len (eDo S x = 0) K x
        have hgd := Lib.hid hst.sr.good
        have hdo := do_c b m G S K x wr hst.sr hok (by omega)
        go_wp2_with fail
        (with_reducible refine hdo.mono ?_)
        intro e w5 hp
        have m5 := hm.done hst.sr hp
        obtain ⟨rfl, G5, s5, hk, _⟩ := hst.done hp (Nat.le_refl _)
        have c5 := hc.same (hk _ rfl)
        have hdc := Lib.hid (fun (U : World) (hb : Below w5.heap.size w5 U) => docdo_c A1 n1 c1 A2 n2 c2 A3 n3 c3 A4 n4 c4 S K x U (m5.on hb) hgd.out (by omega) hok)
        unfold DDPost at hdc
        obtain ⟨S', hS'⟩ : ∃ q, sDo S x = q := ⟨_, rfl⟩
        obtain ⟨K', hK'⟩ : ∃ q, (if eDo S x = 0 then K ++ [x] else K) = q := ⟨_, rfl⟩
        rw [hS', hK'] at s5
        rw [hK'] at hK2
        simp only [hS', hK'] at hdc
        clear hS' hK' hp hk hdo hst hm hc d0 d1 d2 d3 hgd
        generalize nDo S x = nn at *
        generalize eDo S x = ee at *
        have Hev := Lib.hid (fun (W' : World) (hb : Below w5.heap.size w5 W') => show (W'.cell? ⟨dd, 0, none⟩ = some (.slice A1 n1 c1) ∧ W'.cell? ⟨dd, 1, none⟩ = some (.slice A2 n2 c2) ∧ W'.cell? ⟨dd, 2, none⟩ = some (.slice A3 n3 c3) ∧ W'.cell? ⟨dd, 3, none⟩ = some (.slice A4 n4 c4)) ∧ W'.cell? ⟨g, off + j * 4, none⟩ = some (.int .i64 x.kd) ∧ W'.cell? ⟨g, off + j * 4 + 1, none⟩ = some (.int .i64 x.tx) ∧ W'.cell? ⟨g, off + j * 4 + 2, none⟩ = some (.int .u8 x.ky) ∧ W'.cell? ⟨g, off + j * 4 + 3, none⟩ = some (.int .i64 x.nn) from ⟨(d_cells (c5.on hb)).1, by
          obtain ⟨g', off', e0, d0, d1, d2, d3⟩ := hat.out _ (s5.onw hb).low
          cases e0
          exact ⟨d0, d1, d2, d3⟩⟩)
        have Hc := Lib.hid (Hev.out w5 (Below.refl _ _))
        have Hz := Lib.hid (Hev.out _ (belA w5 (.cells dz 30)))
        go_upto_region 11 with fail
        go_region_held3 (fun W' => (W'.cell? ⟨dd, 0, none⟩ = some (.slice A1 n1 c1) ∧ W'.cell? ⟨dd, 1, none⟩ = some (.slice A2 n2 c2) ∧ W'.cell? ⟨dd, 2, none⟩ = some (.slice A3 n3 c3) ∧ W'.cell? ⟨dd, 3, none⟩ = some (.slice A4 n4 c4)) ∧ W'.cell? ⟨g, off + j * 4, none⟩ = some (.int .i64 x.kd) ∧ W'.cell? ⟨g, off + j * 4 + 1, none⟩ = some (.int .i64 x.tx) ∧ W'.cell? ⟨g, off + j * 4 + 2, none⟩ = some (.int .u8 x.ky) ∧ W'.cell? ⟨g, off + j * 4 + 3, none⟩ = some (.int .i64 x.nn)) (first | exact Hc.out | exact Hz.out | exact t1.out | exact t2.out | exact t3.out) (first
          | (go_at_call 16; (with_reducible refine (hdc.out w5.drew (belowD (Below.refl _ _))).mono ?_); rintro e w6 ⟨E1, x1, y1, E2, x2, y2, E3, x3, y3, E4, x4, y4, rfl, m6, b6⟩; have l6 : Below w5.heap.size w5 w6 := below_drew (W := w5) b6; have t1 := Lib.hid (Hev.out w6 l6); have t2 := Lib.hid (Hev.out _ (bel2 l6 (belA w6 (.cells #[.slice E1 x1 y1, .slice E2 x2 y2, .slice E3 x3 y3, .slice E4 x4 y4] 30)))); have t3 := Lib.hid (Hev.out _ (bel2 l6 (belA w6 (.cells dz 30)))))
          | (go_at_call 16; (with_reducible refine (hdc.out (w5.alloc (.cells dz 30)).drew (belowD (belA _ _))).mono ?_); rintro e w6 ⟨E1, x1, y1, E2, x2, y2, E3, x3, y3, E4, x4, y4, rfl, m6, b6⟩; have k6 : Below (w5.alloc (.cells dz 30)).heap.size (w5.alloc (.cells dz 30)) w6 := below_drew (W := w5.alloc (.cells dz 30)) b6; have l6 : Below w5.heap.size w5 w6 := bel2 (belA _ _) k6; have pb : CB w6 w5.heap.size 30 dz := (CB.new w5 30 dz).on k6; obtain ⟨⟨z0, z1, z2, z3⟩, f0, f1, f2, f3⟩ := d_cells pb; obtain ⟨U, hU, oU, jU⟩ := site_all pb E1 x1 y1 E2 x2 y2 E3 x3 y3 E4 x4 y4; have mU := m6.just pb jU; have bU := jU.low l6 (Nat.le_refl _); have t1 := Lib.hid (Hev.out w6 l6); have t2 := Lib.hid (Hev.out U bU)))
        · have oU : CB (w6.alloc (.cells (dcs E1 x1 y1 E2 x2 y2 E3 x3 y3 E4 x4 y4) 30)) w6.heap.size 30 (dcs E1 x1 y1 E2 x2 y2 E3 x3 y3 E4 x4 y4) := CB.new _ _ _
          have bU := bel2 l6 (belA w6 (.cells (dcs E1 x1 y1 E2 x2 y2 E3 x3 y3 E4 x4 y4) 30))
          have mU := m6.on (belA w6 (.cells (dcs E1 x1 y1 E2 x2 y2 E3 x3 y3 E4 x4 y4) 30))
          clear Hev Hc Hz t1 t2 t3 hdc m5 m6 b6 l6
          obtain ⟨U, hU⟩ : ∃ U, w6.alloc (.cells (dcs E1 x1 y1 E2 x2 y2 E3 x3 y3 E4 x4 y4) 30) = U := ⟨_, rfl⟩
          rw [hU] at oU bU mU ⊢
          clear hU
          have l7 := Lib.hid (show Below w5.heap.size w5 U from bU)
          have s7 := s5.onw bU
          have cd7 := c5.on bU
          obtain ⟨V, hV, oV, jV⟩ := site_all cd7 E1 x1 y1 E2 x2 y2 E3 x3 y3 E4 x4 y4
          have s8 := s7.just cd7 jV rfl hB0
          have m8 := mU.just cd7 jV
          obtain ⟨⟨q0, q1, q2, q3⟩, f0, f1, f2, f3⟩ := d_cells cd7
          obtain ⟨⟨z0, z1, z2, z3⟩, _⟩ := d_cells oU
          have HV := Lib.hid hV
          clear hV jV s7 cd7 mU oU bU l7
          go_upto_region 13 with fail
          rw [HV.out]
          clear q0 q1 q2 q3 f0 f1 f2 f3 z0 z1 z2 z3
          obtain ⟨g', off', e0, d0, d1, d2, d3⟩ := hat.out _ s8.low
          cases e0
          have hpt := spart_c b m G5 S' K' x.tx V s8.sr hok.tx
          obtain ⟨pp, hpp⟩ : ∃ q, (fnd S'.pts x.tx).getD p0 = q := ⟨_, rfl⟩
          obtain ⟨is, his⟩ : ∃ q, (fnd S'.pts x.tx).isSome = q := ⟨_, rfl⟩
          rw [hpp, his] at hpt
          clear hpp
          have His := Lib.hid his
          clear his
          go_wp2_with fail
          (with_reducible refine hpt.mono ?_)
          rintro e w9 ⟨A9, n9, c9, rfl, _, b9, _⟩
          obtain ⟨P, hP⟩ : ∃ V, w9.alloc (.cells #[.int .i64 pp.st, .slice A9 n9 c9, .bool pp.lo, .int .i64 pp.ou] 40) = V := ⟨_, rfl⟩
          have bP : Below w9.heap.size w9 P := by rw [← hP]; exact belA _ _
          have lP := bel2 b9 bP
          have sP := s8.onw lP
          have oP := oV.on lP
          have mP := m8.on lP
          have HP := Lib.hid hP
          have Hev := Lib.hid (fun (U : World) (hb : Below P.heap.size P U) => show (U.cell? ⟨dd, 0, none⟩ = some (.slice E1 x1 y1) ∧ U.cell? ⟨dd, 1, none⟩ = some (.slice E2 x2 y2) ∧ U.cell? ⟨dd, 2, none⟩ = some (.slice E3 x3 y3) ∧ U.cell? ⟨dd, 3, none⟩ = some (.slice E4 x4 y4)) ∧ U.cell? ⟨g, off + j * 4 + 1, none⟩ = some (.int .i64 x.tx) from ⟨(d_cells (oP.on hb)).1, by
            obtain ⟨g', off', e0, d0, d1, d2, d3⟩ := hat.out _ (sP.onw hb).low
            cases e0
            exact d1⟩)
          have Hc := Lib.hid (Hev.out P (Below.refl _ _))
          clear hP hpt b9 bP lP s8 oV m8 d0 d1 d2 d3
          go_upto_region 14 with fail
          rw [HP.out]
          have hfi := Lib.hid (fun (U : World) (hb : Below P.heap.size P U) => find_c E1 x1 y1 E2 x2 y2 E3 x3 y3 E4 x4 y4 S'.pts x.tx U (mP.on hb).pts)
          have hsm := Lib.hid (fun (U : World) (hb : Below P.heap.size P U) => samesite_c b m G5 S' K' E1 x1 y1 E2 x2 y2 E3 x3 y3 E4 x4 y4 U (sP.onw hb).sr (mP.on hb) (by omega))
          obtain ⟨ix, hix⟩ : ∃ q, idxI S'.pts x.tx = q := ⟨_, rfl⟩
          rw [hix] at hfi
          cases is with
          | true =>
            have hge : (0 : Int) ≤ ix := by rw [← hix]; exact find_ge His.out
            clear hix His
            go_region_held3 (fun W' => (W'.cell? ⟨dd, 0, none⟩ = some (.slice E1 x1 y1) ∧ W'.cell? ⟨dd, 1, none⟩ = some (.slice E2 x2 y2) ∧ W'.cell? ⟨dd, 2, none⟩ = some (.slice E3 x3 y3) ∧ W'.cell? ⟨dd, 3, none⟩ = some (.slice E4 x4 y4)) ∧ W'.cell? ⟨g, off + j * 4 + 1, none⟩ = some (.int .i64 x.tx)) (first | exact Hc.out | exact t1.out | exact t2.out) (first
              | (go_at_call 18; (with_reducible refine (hfi.out P.drew (belowD (Below.refl _ _))).mono ?_); rintro e u1 ⟨rfl, k1⟩; have v1 : Below P.heap.size P u1 := below_drew (W := P) k1; have t1 := Lib.hid (Hev.out u1 v1))
              | (go_at_call 19; (with_reducible refine (hsm.out u1 v1).mono ?_); rintro e u2 ⟨rfl, k2⟩; have v2 := bel2 v1 k2; have t2 := Lib.hid (Hev.out u2 v2)))
            have Hs := Lib.hid (sP.onw v2)
            have Ho := Lib.hid (oP.on v2)
            have Hm := Lib.hid (mP.on v2)
            clear t1 t2 v1 v2 k1 k2 hfi hsm Hev Hc sP oP mP hat
            go_wp2_with fail
            go_roundw
            case rel => exact ⟨j + 1, G5, S', K', E1, x1, y1, E2, x2, y2, E3, x3, y3, E4, x4, y4, by omega, by omega, by go_num, by omega, Hs.out, Ho.out, Hm.out⟩
            case measure => simp [intOf]; omega
          | false =>
            have hge : decide ((0 : Int) ≤ ix) = false := decide_eq_false (by rw [← hix]; exact find_no His.out)
            clear hix His
            go_region_held3 (fun W' => (W'.cell? ⟨dd, 0, none⟩ = some (.slice E1 x1 y1) ∧ W'.cell? ⟨dd, 1, none⟩ = some (.slice E2 x2 y2) ∧ W'.cell? ⟨dd, 2, none⟩ = some (.slice E3 x3 y3) ∧ W'.cell? ⟨dd, 3, none⟩ = some (.slice E4 x4 y4)) ∧ W'.cell? ⟨g, off + j * 4 + 1, none⟩ = some (.int .i64 x.tx)) (first | exact Hc.out | exact t1.out | exact t2.out) (first
              | (go_at_call 18; (with_reducible refine (hfi.out P.drew (belowD (Below.refl _ _))).mono ?_); rintro e u1 ⟨rfl, k1⟩; have v1 : Below P.heap.size P u1 := below_drew (W := P) k1; have t1 := Lib.hid (Hev.out u1 v1))
              | (go_at_call 19; (with_reducible refine (hsm.out u1 v1).mono ?_); rintro e u2 ⟨rfl, k2⟩; have v2 := bel2 v1 k2; have t2 := Lib.hid (Hev.out u2 v2)))
            have Hs := Lib.hid (sP.onw v2)
            have Ho := Lib.hid (oP.on v2)
            have Hm := Lib.hid (mP.on v2)
            clear t1 t2 v1 v2 k1 k2 hfi hsm Hev Hc sP oP mP hat
            go_wp2_with fail
            go_roundw
            case rel => exact ⟨j + 1, G5, S', K', E1, x1, y1, E2, x2, y2, E3, x3, y3, E4, x4, y4, by omega, by omega, by go_num, by omega, Hs.out, Ho.out, Hm.out⟩
            case measure => simp [intOf]; omega
        · clear Hev Hc Hz t1 t2 hdc m5 m6 b6 k6 l6 pb z0 z1 z2 z3 f0 f1 f2 f3 jU hU
          have l7 := Lib.hid (show Below w5.heap.size w5 U from bU)
          have s7 := s5.onw bU
          have cd7 := c5.on bU
          obtain ⟨V, hV, oV, jV⟩ := site_all cd7 E1 x1 y1 E2 x2 y2 E3 x3 y3 E4 x4 y4
          have s8 := s7.just cd7 jV rfl hB0
          have m8 := mU.just cd7 jV
          obtain ⟨⟨q0, q1, q2, q3⟩, f0, f1, f2, f3⟩ := d_cells cd7
          obtain ⟨⟨z0, z1, z2, z3⟩, _⟩ := d_cells oU
          have HV := Lib.hid hV
          clear hV jV s7 cd7 mU oU bU l7
          go_upto_region 13 with fail
          rw [HV.out]
          clear q0 q1 q2 q3 f0 f1 f2 f3 z0 z1 z2 z3
          obtain ⟨g', off', e0, d0, d1, d2, d3⟩ := hat.out _ s8.low
          cases e0
          have hpt := spart_c b m G5 S' K' x.tx V s8.sr hok.tx
          obtain ⟨pp, hpp⟩ : ∃ q, (fnd S'.pts x.tx).getD p0 = q := ⟨_, rfl⟩
          obtain ⟨is, his⟩ : ∃ q, (fnd S'.pts x.tx).isSome = q := ⟨_, rfl⟩
          rw [hpp, his] at hpt
          clear hpp
          have His := Lib.hid his
          clear his
          go_wp2_with fail
          (with_reducible refine hpt.mono ?_)
          rintro e w9 ⟨A9, n9, c9, rfl, _, b9, _⟩
          obtain ⟨P, hP⟩ : ∃ V, w9.alloc (.cells #[.int .i64 pp.st, .slice A9 n9 c9, .bool pp.lo, .int .i64 pp.ou] 40) = V := ⟨_, rfl⟩
          have bP : Below w9.heap.size w9 P := by rw [← hP]; exact belA _ _
          have lP := bel2 b9 bP
          have sP := s8.onw lP
          have oP := oV.on lP
          have mP := m8.on lP
          have HP := Lib.hid hP
          have Hev := Lib.hid (fun (U : World) (hb : Below P.heap.size P U) => show (U.cell? ⟨dd, 0, none⟩ = some (.slice E1 x1 y1) ∧ U.cell? ⟨dd, 1, none⟩ = some (.slice E2 x2 y2) ∧ U.cell? ⟨dd, 2, none⟩ = some (.slice E3 x3 y3) ∧ U.cell? ⟨dd, 3, none⟩ = some (.slice E4 x4 y4)) ∧ U.cell? ⟨g, off + j * 4 + 1, none⟩ = some (.int .i64 x.tx) from ⟨(d_cells (oP.on hb)).1, by
            obtain ⟨g', off', e0, d0, d1, d2, d3⟩ := hat.out _ (sP.onw hb).low
            cases e0
            exact d1⟩)
          have Hc := Lib.hid (Hev.out P (Below.refl _ _))
          clear hP hpt b9 bP lP s8 oV m8 d0 d1 d2 d3
          go_upto_region 14 with fail
          rw [HP.out]
          have hfi := Lib.hid (fun (U : World) (hb : Below P.heap.size P U) => find_c E1 x1 y1 E2 x2 y2 E3 x3 y3 E4 x4 y4 S'.pts x.tx U (mP.on hb).pts)
          have hsm := Lib.hid (fun (U : World) (hb : Below P.heap.size P U) => samesite_c b m G5 S' K' E1 x1 y1 E2 x2 y2 E3 x3 y3 E4 x4 y4 U (sP.onw hb).sr (mP.on hb) (by omega))
          obtain ⟨ix, hix⟩ : ∃ q, idxI S'.pts x.tx = q := ⟨_, rfl⟩
          rw [hix] at hfi
          cases is with
          | true =>
            have hge : (0 : Int) ≤ ix := by rw [← hix]; exact find_ge His.out
            clear hix His
            go_region_held3 (fun W' => (W'.cell? ⟨dd, 0, none⟩ = some (.slice E1 x1 y1) ∧ W'.cell? ⟨dd, 1, none⟩ = some (.slice E2 x2 y2) ∧ W'.cell? ⟨dd, 2, none⟩ = some (.slice E3 x3 y3) ∧ W'.cell? ⟨dd, 3, none⟩ = some (.slice E4 x4 y4)) ∧ W'.cell? ⟨g, off + j * 4 + 1, none⟩ = some (.int .i64 x.tx)) (first | exact Hc.out | exact t1.out | exact t2.out) (first
              | (go_at_call 18; (with_reducible refine (hfi.out P.drew (belowD (Below.refl _ _))).mono ?_); rintro e u1 ⟨rfl, k1⟩; have v1 : Below P.heap.size P u1 := below_drew (W := P) k1; have t1 := Lib.hid (Hev.out u1 v1))
              | (go_at_call 19; (with_reducible refine (hsm.out u1 v1).mono ?_); rintro e u2 ⟨rfl, k2⟩; have v2 := bel2 v1 k2; have t2 := Lib.hid (Hev.out u2 v2)))
            have Hs := Lib.hid (sP.onw v2)
            have Ho := Lib.hid (oP.on v2)
            have Hm := Lib.hid (mP.on v2)
            clear t1 t2 v1 v2 k1 k2 hfi hsm Hev Hc sP oP mP hat
            go_wp2_with fail
            go_roundw
            case rel => exact ⟨j + 1, G5, S', K', E1, x1, y1, E2, x2, y2, E3, x3, y3, E4, x4, y4, by omega, by omega, by go_num, by omega, Hs.out, Ho.out, Hm.out⟩
            case measure => simp [intOf]; omega
          | false =>
            have hge : decide ((0 : Int) ≤ ix) = false := decide_eq_false (by rw [← hix]; exact find_no His.out)
            clear hix His
            go_region_held3 (fun W' => (W'.cell? ⟨dd, 0, none⟩ = some (.slice E1 x1 y1) ∧ W'.cell? ⟨dd, 1, none⟩ = some (.slice E2 x2 y2) ∧ W'.cell? ⟨dd, 2, none⟩ = some (.slice E3 x3 y3) ∧ W'.cell? ⟨dd, 3, none⟩ = some (.slice E4 x4 y4)) ∧ W'.cell? ⟨g, off + j * 4 + 1, none⟩ = some (.int .i64 x.tx)) (first | exact Hc.out | exact t1.out | exact t2.out) (first
              | (go_at_call 18; (with_reducible refine (hfi.out P.drew (belowD (Below.refl _ _))).mono ?_); rintro e u1 ⟨rfl, k1⟩; have v1 : Below P.heap.size P u1 := below_drew (W := P) k1; have t1 := Lib.hid (Hev.out u1 v1))
              | (go_at_call 19; (with_reducible refine (hsm.out u1 v1).mono ?_); rintro e u2 ⟨rfl, k2⟩; have v2 := bel2 v1 k2; have t2 := Lib.hid (Hev.out u2 v2)))
            have Hs := Lib.hid (sP.onw v2)
            have Ho := Lib.hid (oP.on v2)
            have Hm := Lib.hid (mP.on v2)
            clear t1 t2 v1 v2 k1 k2 hfi hsm Hev Hc sP oP mP hat
            go_wp2_with fail
            go_roundw
            case rel => exact ⟨j + 1, G5, S', K', E1, x1, y1, E2, x2, y2, E3, x3, y3, E4, x4, y4, by omega, by omega, by go_num, by omega, Hs.out, Ho.out, Hm.out⟩
            case measure => simp [intOf]; omega
      · obtain rfl : j = 120 := by omega
        have hlt1 : ((120 : Nat) : Int) < (n : Int) := by omega
        have hl5 : ¬ ((120 : Nat) : Int) < 120 := by omega
        have hl := Lib.hid (bel2 HB1.out hst.low)
        clear hst hc hm
        go_wp2_with fail
        go_ret
        exact ⟨rfl, hl.out⟩
    · obtain rfl : j = n := by omega
      have hlt1 : ¬ (j : Int) < (j : Int) := by omega
      have hl := Lib.hid (bel2 HB1.out hst.low)
      clear hst hc hm
      go_wp2_with fail
      go_ret
      exact ⟨rfl, hl.out⟩
end Go.Proofs.Ytealcccjnmfkcaa
