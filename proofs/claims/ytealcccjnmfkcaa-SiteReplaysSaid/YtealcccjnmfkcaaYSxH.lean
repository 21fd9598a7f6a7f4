/-
  The walk of SiteReplays: it returns true. Condition: the calls can be read, their numbers such as their types hold.
-/
import Derived.Test.YtealcccjnmfkcaaYSxG
import Derived.Test.YtealcccjnmfkcaaYSiT
set_option linter.unusedVariables false
set_option linter.unusedSimpArgs false
namespace Go.Proofs.Ytealcccjnmfkcaa
open Go.RowKit

set_option maxRecDepth 100000 in
set_option maxHeartbeats 4000000 in
theorem replays_walk (A : Option Addr) (n c : Nat) (L : List Rc) (w : World) (h : KR w A n c L) (hr : ∀ r ∈ L, RcOk r) :
    Calls Try.prog 5 #[.slice A n c] w fun e w' => e = .returned (.bool true) ∧ Below w.heap.size w w' := by
  have hlen := Lib.hid h.len
  have hmx : n ≤ maxLen := Nat.le_trans h.cap h.max
  simp only [maxLen] at hmx
  obtain ⟨i0, hi0, hz0, hz1, hz2⟩ := info_parts Try.infoK
  have Hi := Lib.hid hi0
  have Hz := Lib.hid hz0
  have Hz1 := Lib.hid hz1
  have Hz2 := Lib.hid hz2
  clear hi0 hz0 hz1 hz2
  have p03 : 0 < 4 := by omega
  go_enter Try.func5, Try.ntmps5
  go_wp2_with fail
  (with_reducible refine (alive_c w).mono ?_)
  rintro e w1 ⟨rfl, b1⟩
  have hw1 := h.on b1
  have HB1 := Lib.hid b1
  clear h b1
  by_cases h120 : 120 < n
  · have h121 : (120 : Int) < (n : Int) := by omega
    go_wp2_with fail
    go_ret
    exact ⟨rfl, HB1.out⟩
  have h121 : ¬ (120 : Int) < (n : Int) := by omega
  obtain ⟨V, hV⟩ : ∃ V, w1.alloc (.cells dz 30) = V := ⟨_, rfl⟩
  have cV : CB V w1.heap.size 30 (dcs none 0 0 none 0 0 none 0 0 none 0 0) := by rw [← hV]; exact CB.new _ _ _
  have bV : Below w1.heap.size w1 V := by rw [← hV]; exact belA _ _
  have HV := Lib.hid hV
  clear hV
  go_upto_region 6 with fail
  rw [HV.out]
  obtain ⟨dd, hdd⟩ : ∃ q, w1.heap.size = q := ⟨_, rfl⟩
  have hB0 : w1.heap.size ≤ dd := by omega
  rw [hdd] at cV ⊢
  clear hdd HV
  go_wp2_with fail
  go_loopw [4, 5, 20] (fun okv rv i wr => ∃ (j : Nat) (ok : Bool) (A8 : Option Addr) (n8 c8 : Nat) (G8 : Option Nat) (A1 : Option Addr) (n1 c1 : Nat) (A2 : Option Addr) (n2 c2 : Nat) (A3 : Option Addr) (n3 c3 : Nat) (A4 : Option Addr) (n4 c4 : Nat), j ≤ n ∧ i = .int .i64 j ∧ okv = .bool ok ∧ rv = .slice A8 n8 c8 ∧ (ok = true ↔ allOk si0 (L.take j)) ∧ Seg wr 35 4 A8 n8 c8 (rc kc (L.take j)) G8 ∧ (∀ g, G8 = some g → w1.heap.size ≤ g) ∧ Below w1.heap.size w1 wr ∧ Good (plays si0 (L.take j)) (logs si0 (L.take j)) ∧ CB wr dd 30 (dcs A1 n1 c1 A2 n2 c2 A3 n3 c3 A4 n4 c4) ∧ DM wr A1 n1 c1 A2 n2 c2 A3 n3 c3 A4 n4 c4 (plays si0 (L.take j)) (logs si0 (L.take j))) (fun _ _ i _ => n - (intOf i).toNat)
  case atStart => exact ⟨0, true, none, 0, 0, none, none, 0, 0, none, 0, 0, none, 0, 0, none, 0, 0, by omega, rfl, rfl, rfl, by simp [allOk], Seg.nil _ _ _, fun g e => (by cases e), bV, by rw [List.take_zero]; exact good0, cV, by rw [List.take_zero]; exact DM.nil _⟩
  case round =>
    clear cV bV
    obtain ⟨j, ok, A8, n8, c8, G8, A1, n1, c1, A2, n2, c2, A3, n3, c3, A4, n4, c4, hj, rfl, rfl, rfl, hok0, hsg, hg8, hlw, hgd, hc, hm⟩ := hrel
    have Hok := Lib.hid hok0
    clear hok0
    by_cases hlt : j < n
    · have hlt1 : (j : Int) < (n : Int) := by omega
      have hjl : j < L.length := by rw [hlen.out]; exact hlt
      obtain ⟨g, off, rfl, d0, d1, d2, d3⟩ := (hw1.on hlw).at4 hlt
      have hpl := plays_take hjl
      have hlg := logs_take hjl
      have htk := tkR_take hjl
      have hA := allOk_snoc si0 (L.take j) (tkR L j)
      rw [← htk] at hA
      have hok := hr _ (tkR_mem hjl)
      have hlw2 := logs_len si0 (L.take j)
      rw [List.length_take] at hlw2
      generalize tkR L j = x at *
      have hgx := good_do hgd x hok
      obtain ⟨S, hS⟩ : ∃ q, plays si0 (L.take j) = q := ⟨_, rfl⟩
      obtain ⟨K, hK⟩ : ∃ q, logs si0 (L.take j) = q := ⟨_, rfl⟩
      rw [hS] at hpl hA
      rw [hS, hK] at hlg hgd hm hgx
      rw [hK] at hlw2
      clear hS hK
      obtain ⟨S', hS'⟩ : ∃ q, sDo S x = q := ⟨_, rfl⟩
      obtain ⟨K', hK'⟩ : ∃ q, (if eDo S x = 0 then K ++ [x] else K) = q := ⟨_, rfl⟩
      rw [hS'] at hpl
      rw [hK'] at hlg
      rw [hS', hK'] at hgx
      obtain ⟨R, hR⟩ : ∃ V, wr.alloc (.cells (kcs x) 36) = V := ⟨_, rfl⟩
      have bR : Below wr.heap.size wr R := by rw [← hR]; exact belA _ _
      have rR : CB R wr.heap.size 36 (kcs x) := by rw [← hR]; exact CB.new _ _ _
      have hdl := Lib.hid hc.lt
      have hlow := Lib.hid hlw
      have cR := hc.on bR
      have mR := hm.on bR
      have gR := hsg.on bR
      have lR := bel2B hlw hlw.size bR
      have hdc := Lib.hid (fun (U : World) (hb : Below R.heap.size R U) => docdo_c A1 n1 c1 A2 n2 c2 A3 n3 c3 A4 n4 c4 S K x U (mR.on hb) hgd (by omega) hok)
      unfold DDPost at hdc
      simp only [hS', hK'] at hdc
      have Hpl := Lib.hid hpl
      have Hlg := Lib.hid hlg
      have Htk := Lib.hid htk
      have HA := Lib.hid hA
      have Hgd := Lib.hid hgx
      have Hg8 := Lib.hid hg8
      have HR := Lib.hid hR
      clear hS' hK' hR bR hc hm hsg hlw hgd hpl hlg htk hA hgx hg8
      generalize nDo S x = nn at *
      generalize eDo S x = ee at *
      obtain ⟨eb, heb⟩ : ∃ q, (ee == 0) = q := ⟨_, rfl⟩
      obtain ⟨⟨q0, q1, q2, q3⟩, _⟩ := d_cells cR
      obtain ⟨r0, r1, r2, r3⟩ := r10_cells rR
      go_upto_region 11 with fail
      rw [HR.out]
      clear d0 d1 d2 d3
      go_wp2_with fail
      (with_reducible refine (hdc.out R (Below.refl _ _)).mono ?_)
      rintro e w6 ⟨E1, x1, y1, E2, x2, y2, E3, x3, y3, E4, x4, y4, rfl, m6, l6⟩
      clear q0 q1 q2 q3 r0 r1 r2 r3
      obtain ⟨U, hU⟩ : ∃ U, w6.alloc (.cells (dcs E1 x1 y1 E2 x2 y2 E3 x3 y3 E4 x4 y4) 30) = U := ⟨_, rfl⟩
      have oU : CB U w6.heap.size 30 (dcs E1 x1 y1 E2 x2 y2 E3 x3 y3 E4 x4 y4) := by rw [← hU]; exact CB.new _ _ _
      have bU : Below R.heap.size R U := by rw [← hU]; exact bel2 l6 (belA w6 _)
      have mU : DM U E1 x1 y1 E2 x2 y2 E3 x3 y3 E4 x4 y4 S' K' := by rw [← hU]; exact m6.on (belA w6 _)
      have HU := Lib.hid hU
      clear hdc m6 l6 hU
      go_upto_region 12 with fail
      rw [HU.out]
      cases ok with
      | true =>
        have HB := Lib.hid (show (eb = true ↔ allOk si0 (L.take (j + 1))) by
          have k := Hok.out.mp rfl
          rw [HA.out, ← heb]
          simp [k])
        have heb' := heb
        clear Hok HA heb'
        have s7 := gR.on bU
        have r7 := rR.on bU
        have cd7 := cR.on bU
        have l7 := bel2B lR lR.size bU
        obtain ⟨V, hV, oV, jV⟩ := site_all cd7 E1 x1 y1 E2 x2 y2 E3 x3 y3 E4 x4 y4
        have s8 := s7.keep fun g e => jV.block g (fun e' => s7.ne_ cd7 neRD (e' ▸ e))
        have r8 : CB V wr.heap.size 36 (kcs x) := jV.cb r7 (by have := hdl.out; omega)
        have m8 := mU.just cd7 jV
        have l8 := jV.low l7 hB0
        obtain ⟨⟨q0, q1, q2, q3⟩, f0, f1, f2, f3⟩ := d_cells cd7
        obtain ⟨⟨z0, z1, z2, z3⟩, _⟩ := d_cells oU
        have HV := Lib.hid hV
        clear hV jV s7 cd7 r7 l7 mU oU bU gR rR cR lR
        go_upto_region 14 with fail
        rw [HV.out]
        clear q0 q1 q2 q3 f0 f1 f2 f3 z0 z1 z2 z3
        obtain ⟨r0, r1, r2, r3⟩ := r10_cells r8
        have hn8 := rc_len (L := L.take j) s8
        have hn9 : n8 ≤ 120 := by rw [← hn8, List.length_take]; omega
        have hsr : Src (V.alloc (.cells #[.int .i64 x.kd, .int .i64 x.tx, .int .u8 x.ky, .int .i64 x.nn] 35)) 4 (some ⟨V.heap.size, 0, none⟩) 1 [.int .i64 x.kd, .int .i64 x.tx, .int .u8 x.ky, .int .i64 x.nn] := Src.lit V 35 [.int .i64 x.kd, .int .i64 x.tx, .int .u8 x.ky, .int .i64 x.nn] 4 1 V.heap.size rfl rfl
        obtain ⟨p5, p6⟩ := app4 (n := n8) (by omega)
        have ho : ∀ u ∈ ([.int .i64 x.kd, .int .i64 x.tx, .int .u8 x.ky, .int .i64 x.nn] : List Value), u.oneCell' = true := kc_one x
        obtain ⟨N, hN⟩ : ∃ N, n8 + 1 = N := ⟨_, rfl⟩
        have bb : Below V.heap.size V (V.alloc (.cells #[.int .i64 x.kd, .int .i64 x.tx, .int .u8 x.ky, .int .i64 x.nn] 35)) := belA _ _
        have HmX := Lib.hid (m8.on bb)
        have HcX := Lib.hid (oV.on bb)
        have HlX := Lib.hid (show Below w1.heap.size w1 (V.alloc (.cells #[.int .i64 x.kd, .int .i64 x.tx, .int .u8 x.ky, .int .i64 x.nn] 35)) from bel2B l8 l8.size bb)
        have HgT := Lib.hid (fun g (e : G8 = some g) => show ∃ cs, CB (V.alloc (.cells #[.int .i64 x.kd, .int .i64 x.tx, .int .u8 x.ky, .int .i64 x.nn] 35)) g 35 cs from by subst e; exact seg_type (s8.alloc _))
        have HgN := Lib.hid (fun (e : G8 = some dd) => s8.ne_ oV neRD e)
        have HN := Lib.hid hN
        clear hN bb m8 oV l8 hn8 hn9 r8
        go_wp2_with (at_builtin; refine wpList_append_src _ rfl (.tmp 37) (.tmp 39) _ rfl 35 i0 _ 4 32 Try.underlying49 Hi.out Hz.out Hz1.out Hz2.out rfl p03 rfl (s8.alloc _) rfl hsr ho p5 p6 N HN.out ?_; intro A9 c9 G9 w9 hs9 hg9 hm9; refine Stay.mk ?_)
        refine Stay.open_ ?_
        rw [show rc kc (L.take j) ++ [.int .i64 x.kd, .int .i64 x.tx, .int .u8 x.ky, .int .i64 x.nn] = rc kc (L.take j ++ [x]) from rc_snoc _ x, ← Htk.out] at hs9
        have Hm9 := Lib.hid (show DM w9 E1 x1 y1 E2 x2 y2 E3 x3 y3 E4 x4 y4 (plays si0 (L.take (j + 1))) (logs si0 (L.take (j + 1))) from by rw [Hpl.out, Hlg.out]; exact HmX.out.grown hg9 HgT.out)
        have Hc9 := Lib.hid (HcX.out.same (hg9.block dd HcX.out.lt (fun e => HgN.out e.symm)))
        have Hl9 := Lib.hid (HlX.out.grown hg9 HlX.out.size Hg8.out)
        have Hg9 := Lib.hid (hm9.ge HlX.out.size Hg8.out)
        have Hgd9 := Lib.hid (show Good (plays si0 (L.take (j + 1))) (logs si0 (L.take (j + 1))) from by rw [Hpl.out, Hlg.out]; exact Hgd.out)
        clear hsr s8 hg9 hm9 HmX HcX HlX HgT HgN r0 r1 r2 r3
        go_wp2_with fail
        go_roundw
        case rel => exact ⟨j + 1, eb, A9, N, c9, G9, E1, x1, y1, E2, x2, y2, E3, x3, y3, E4, x4, y4, by omega, by go_num, rfl, rfl, HB.out, hs9, Hg9.out, Hl9.out, Hgd9.out, Hc9.out, Hm9.out⟩
        case measure => simp [intOf]; omega
      | false =>
        have HB := Lib.hid (show (false = true ↔ allOk si0 (L.take (j + 1))) by
          have k : ¬ allOk si0 (L.take j) := fun k => by have := Hok.out.mpr k; cases this
          rw [HA.out]
          simp [k])
        clear heb Hok HA
        have s7 := gR.on bU
        have r7 := rR.on bU
        have cd7 := cR.on bU
        have l7 := bel2B lR lR.size bU
        obtain ⟨V, hV, oV, jV⟩ := site_all cd7 E1 x1 y1 E2 x2 y2 E3 x3 y3 E4 x4 y4
        have s8 := s7.keep fun g e => jV.block g (fun e' => s7.ne_ cd7 neRD (e' ▸ e))
        have r8 : CB V wr.heap.size 36 (kcs x) := jV.cb r7 (by have := hdl.out; omega)
        have m8 := mU.just cd7 jV
        have l8 := jV.low l7 hB0
        obtain ⟨⟨q0, q1, q2, q3⟩, f0, f1, f2, f3⟩ := d_cells cd7
        obtain ⟨⟨z0, z1, z2, z3⟩, _⟩ := d_cells oU
        have HV := Lib.hid hV
        clear hV jV s7 cd7 r7 l7 mU oU bU gR rR cR lR
        go_upto_region 14 with fail
        rw [HV.out]
        clear q0 q1 q2 q3 f0 f1 f2 f3 z0 z1 z2 z3
        obtain ⟨r0, r1, r2, r3⟩ := r10_cells r8
        have hn8 := rc_len (L := L.take j) s8
        have hn9 : n8 ≤ 120 := by rw [← hn8, List.length_take]; omega
        have hsr : Src (V.alloc (.cells #[.int .i64 x.kd, .int .i64 x.tx, .int .u8 x.ky, .int .i64 x.nn] 35)) 4 (some ⟨V.heap.size, 0, none⟩) 1 [.int .i64 x.kd, .int .i64 x.tx, .int .u8 x.ky, .int .i64 x.nn] := Src.lit V 35 [.int .i64 x.kd, .int .i64 x.tx, .int .u8 x.ky, .int .i64 x.nn] 4 1 V.heap.size rfl rfl
        obtain ⟨p5, p6⟩ := app4 (n := n8) (by omega)
        have ho : ∀ u ∈ ([.int .i64 x.kd, .int .i64 x.tx, .int .u8 x.ky, .int .i64 x.nn] : List Value), u.oneCell' = true := kc_one x
        obtain ⟨N, hN⟩ : ∃ N, n8 + 1 = N := ⟨_, rfl⟩
        have bb : Below V.heap.size V (V.alloc (.cells #[.int .i64 x.kd, .int .i64 x.tx, .int .u8 x.ky, .int .i64 x.nn] 35)) := belA _ _
        have HmX := Lib.hid (m8.on bb)
        have HcX := Lib.hid (oV.on bb)
        have HlX := Lib.hid (show Below w1.heap.size w1 (V.alloc (.cells #[.int .i64 x.kd, .int .i64 x.tx, .int .u8 x.ky, .int .i64 x.nn] 35)) from bel2B l8 l8.size bb)
        have HgT := Lib.hid (fun g (e : G8 = some g) => show ∃ cs, CB (V.alloc (.cells #[.int .i64 x.kd, .int .i64 x.tx, .int .u8 x.ky, .int .i64 x.nn] 35)) g 35 cs from by subst e; exact seg_type (s8.alloc _))
        have HgN := Lib.hid (fun (e : G8 = some dd) => s8.ne_ oV neRD e)
        have HN := Lib.hid hN
        clear hN bb m8 oV l8 hn8 hn9 r8
        go_wp2_with (at_builtin; refine wpList_append_src _ rfl (.tmp 37) (.tmp 39) _ rfl 35 i0 _ 4 32 Try.underlying49 Hi.out Hz.out Hz1.out Hz2.out rfl p03 rfl (s8.alloc _) rfl hsr ho p5 p6 N HN.out ?_; intro A9 c9 G9 w9 hs9 hg9 hm9; refine Stay.mk ?_)
        refine Stay.open_ ?_
        rw [show rc kc (L.take j) ++ [.int .i64 x.kd, .int .i64 x.tx, .int .u8 x.ky, .int .i64 x.nn] = rc kc (L.take j ++ [x]) from rc_snoc _ x, ← Htk.out] at hs9
        have Hm9 := Lib.hid (show DM w9 E1 x1 y1 E2 x2 y2 E3 x3 y3 E4 x4 y4 (plays si0 (L.take (j + 1))) (logs si0 (L.take (j + 1))) from by rw [Hpl.out, Hlg.out]; exact HmX.out.grown hg9 HgT.out)
        have Hc9 := Lib.hid (HcX.out.same (hg9.block dd HcX.out.lt (fun e => HgN.out e.symm)))
        have Hl9 := Lib.hid (HlX.out.grown hg9 HlX.out.size Hg8.out)
        have Hg9 := Lib.hid (hm9.ge HlX.out.size Hg8.out)
        have Hgd9 := Lib.hid (show Good (plays si0 (L.take (j + 1))) (logs si0 (L.take (j + 1))) from by rw [Hpl.out, Hlg.out]; exact Hgd.out)
        clear hsr s8 hg9 hm9 HmX HcX HlX HgT HgN r0 r1 r2 r3
        go_wp2_with fail
        go_roundw
        case rel => exact ⟨j + 1, false, A9, N, c9, G9, E1, x1, y1, E2, x2, y2, E3, x3, y3, E4, x4, y4, by omega, by go_num, rfl, rfl, HB.out, hs9, Hg9.out, Hl9.out, Hgd9.out, Hc9.out, Hm9.out⟩
        case measure => simp [intOf]; omega
    · obtain rfl : j = n := by omega
      have hlt1 : ¬ (j : Int) < (j : Int) := by omega
      rw [take_allR hlen.out] at Hok hsg hm
      have hrp := replay_c A8 n8 c8 L wr (RR0.of_seg hsg) hr (by have := rc_len (L := L) hsg; have := hlen.out; omega)
      have hl := Lib.hid (bel2 HB1.out hlw)
      obtain ⟨q, q'⟩ := d_cells hc
      have hc' := Lib.hid hc
      have hm' := Lib.hid hm
      have hz' := Lib.hid hlw.size
      clear q q' hsg hg8 hlw hgd hc hm
      go_wp2_with fail
      (with_reducible refine hrp.mono ?_)
      rintro e w4 (⟨hall, b', m', G', rfl, hs2⟩ | ⟨hno, rfl, b4⟩)
      · cases ok with
        | false => exact absurd (Hok.out.mpr hall) (by simp)
        | true =>
          have hmL := hm'.out.on hs2.low
          rw [allOk_logs si0 L hall] at hmL
          obtain ⟨⟨q0, q1, q2, q3⟩, _⟩ := d_cells (hc'.out.on hs2.low)
          have hsm := samesite_c b' m' G' (plays si0 L) L A1 n1 c1 A2 n2 c2 A3 n3 c3 A4 n4 c4 w4 hs2.sr hmL (by have := hlen.out; omega)
          have hl4 := Lib.hid (bel2B hl.out (Nat.le_trans HB1.out.size hz'.out) hs2.low)
          clear hall hmL hs2 hrp Hok
          go_wp2_with fail
          (with_reducible refine hsm.mono ?_)
          rintro e w5 ⟨rfl, b5⟩
          have hl5 := Lib.hid (bel2B hl4.out hl4.out.size b5)
          clear b5 hsm q0 q1 q2 q3
          go_wp2_with fail
          go_ret
          exact ⟨rfl, hl5.out⟩
      · cases ok with
        | true => exact absurd (Hok.out.mp rfl) hno
        | false =>
          have hl4 := Lib.hid (bel2B hl.out (Nat.le_trans HB1.out.size hz'.out) b4)
          clear hno b4 hrp Hok
          go_wp2_with fail
          go_ret
          exact ⟨rfl, hl4.out⟩
end Go.Proofs.Ytealcccjnmfkcaa
