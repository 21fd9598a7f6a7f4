/-
  Package site: Do. Conditions: the site is such as SR says, the call's numbers such as their types hold, the log not long.
-/
import Derived.Test.YtealcccjnmfkcaaYSiG
import Derived.BigRegion
import Derived.Deep.RegionHeld3
set_option linter.unusedVariables false
set_option linter.unusedSimpArgs false
namespace Go.Proofs.Ytealcccjnmfkcaa
open Go.RowKit

open Go.ChangeMaps Go.MapKept in
theorem just_turned {w w' : World} {m : Nat} (h : w.mapTurned w' m) : Just m w w' := by
  have hg := h.grown
  obtain ⟨es, cl, es', cl', hb, rfl⟩ := h
  exact ⟨rfl, rfl, rfl, by simp [setBlock], fun i hi => heap_setBlock_other hb _ hi⟩
/-- A call has been done upon the site. -/
def DoPost (w : World) (b m : Nat) (G : Option Nat) (s : Si) (log : List Rc) (r : Rc) (e : Ending) (w' : World) : Prop :=
  e = .returned (.tuple #[.int .i64 (nDo s r), .int .i64 (eDo s r)]) ∧ ∃ G', SR w' b m G' (sDo s r) (if eDo s r = 0 then log ++ [r] else log) ∧ Out w w' b m G ∧ ∀ g, G' = some g → G = some g ∨ w.heap.size ≤ g
theorem DoPost.err {w w' : World} {b m : Nat} {G : Option Nat} {s : Si} {log : List Rc} {r : Rc} (h : SR w b m G s log) (he : eDo s r ≠ 0) (hb : Below w.heap.size w w') : DoPost w b m G s log r (.returned (.tuple #[.int .i64 0, .int .i64 (eDo s r)])) w' := by
  refine ⟨by rw [nDo_err he], G, ?_, Out.of_below _ _ _ hb, fun g e => .inl e⟩
  rw [if_neg he, sDo_err he]
  exact h.on hb

/-- What stands at the end of a call that was done. -/
theorem do_end {w V X w5 : World} {b m : Nat} {G G5 : Option Nat} {s : Si} {log : List Rc} {r : Rc} {t' : Tn} {A : Option Addr} {n c : Nat} {A2 : Option Addr} {n2 c2 : Nat} {A3 : Option Addr} {n3 c3 : Nat} {u1 u2 : Value} {B3 A5 : Option Addr} {e3 d3 c5 : Nat} {f : Int → Option Value}
    (hlow : Below w.heap.size w V) (h1 : CB V b 63 #[u1, u2, .map (some m), .slice B3 e3 d3]) (h4 : MF V m log.length f) (h5 : KS V B3 e3 d3 log G) (h6 : Ps V f s.pts) (hm : TM V A n c A2 n2 c2 A3 n3 c3 t')
    (ho : Out V X b m none) (MX : MF X m (log.length + 1) (fun j => if j = r.tx then some (pv A n c t'.own) else f j))
    (hs5 : Seg w5 35 4 A5 (e3 + 1) c5 (rc kc log ++ [.int .i64 r.kd, .int .i64 r.tx, .int .u8 r.ky, .int .i64 r.nn]) G5) (hg5 : (X.alloc (.cells #[.int .i64 r.kd, .int .i64 r.tx, .int .u8 r.ky, .int .i64 r.nn] 35)).drew.grownBy w5 G) (hm5 : Moved (X.alloc (.cells #[.int .i64 r.kd, .int .i64 r.tx, .int .u8 r.ky, .int .i64 r.nn] 35)).drew G G5)
    (hb5 : CB w5 b 63 #[.slice A3 n3 c3, .slice A2 n2 c2, .map (some m), .slice B3 e3 d3]) (he : eDo s r = 0) (hg : Good (sDo s r) (if eDo s r = 0 then log ++ [r] else log))
    (hst : (sDo s r).led = t'.led ∧ (sDo s r).lk = t'.lk ∧ nDo s r = t'.sn ∧ ∀ x, fnd (sDo s r).pts x = if x = r.tx then some t'.own else fnd s.pts x) :
    DoPost w b m G s log r (.returned (.tuple #[.int .i64 t'.sn, .int .i64 0])) (w5.setCell ⟨b, 3, none⟩ (.slice A5 (e3 + 1) c5)) := by
  have jY := Just.set w5 b 3 (.slice A5 (e3 + 1) c5)
  generalize hY : w5.setCell ⟨b, 3, none⟩ (.slice A5 (e3 + 1) c5) = Y at jY
  obtain ⟨e1, e2, e3', e5⟩ := hst
  have sz1 : V.heap.size ≤ X.heap.size := ho.size
  have sz2 : X.heap.size + 1 ≤ w5.heap.size := by
    have := hg5.size
    simp at this
    exact this
  have hGs := h5.lt
  have hseg : ∀ g, G = some g → ∃ cs, CB V g 35 cs := fun g e => by subst e; exact seg_type h5
  -- a block of V that is neither the site's, nor the map's, nor the log's
  have blk : ∀ i, i < V.heap.size → i ≠ b → i ≠ m → some i ≠ G → Y.heap[i]? = V.heap[i]? := fun i hi hb hm' hG => by
    rw [jY.block i hb, hg5.block i (by simp; omega) hG]
    have := Below.heap_alloc X (.cells #[.int .i64 r.kd, .int .i64 r.tx, .int .u8 r.ky, .int .i64 r.nn] 35) i (by omega)
    exact this.trans (ho.block i hi hb hm' (by simp))
  have keepY : ∀ (T : TypeId), T ≠ 63 → T ≠ 35 → ∀ (g : Nat) (cs : Array Value), CB V g T cs → Y.heap[g]? = V.heap[g]? := fun T t1 t2 g cs hc =>
    blk g hc.lt (hc.ne_ h1 t1) (h4.ne hc) (fun e => by
      obtain ⟨cs', hc'⟩ := hseg g e.symm
      exact hc.ne_ hc' t2 rfl)
  have hmb : m ≠ b := fun e => h4.ne h1 e.symm
  refine ⟨by rw [e3', he], G5, ⟨⟨A3, n3, c3, A2, n2, c2, A5, e3 + 1, c5, (fun j => if j = r.tx then some (pv A n c t'.own) else f j), ?_, ?_, ?_, ?_, ?_, ?_⟩, hg⟩, ⟨?_, ?_, ?_, ?_, ?_⟩, ?_⟩
  · rw [← hY]
    exact hb5.put 3 _
  · rw [e1]
    exact hm.led.keep2 (keepY _ Try.neDS Try.neDR)
  · rw [e2]
    exact hm.lk.keep2 (keepY _ Try.neHS Try.neHR)
  · rw [if_pos he, List.length_append]
    refine MX.same ?_
    rw [jY.block m hmb, hg5.block m (by simp; have := MX.lt; omega) (fun e => by
      obtain ⟨cs', hc'⟩ := hseg m e.symm
      exact h4.ne hc' rfl)]
    exact Below.heap_alloc X (.cells #[.int .i64 r.kd, .int .i64 r.tx, .int .u8 r.ky, .int .i64 r.nn] 35) m MX.lt
  · rw [if_pos he, ← hY]
    have : rc kc log ++ [.int .i64 r.kd, .int .i64 r.tx, .int .u8 r.ky, .int .i64 r.nn] = rc kc (log ++ [r]) := rc_snoc log r
    rw [this] at hs5
    exact hs5.far (p := ⟨b, 3, none⟩) (hs5.ne_ hb5 Try.neRS) _
  · intro tx
    rw [e5]
    by_cases hx : tx = r.tx
    · simp only [if_pos hx]
      exact ⟨A, n, c, rfl, hm.ad.keep2 (keepY _ Try.neDS Try.neDR)⟩
    · simp only [if_neg hx]
      exact (h6.keep (keepY _ Try.neDS Try.neDR)) tx
  · exact jY.os.trans (hg5.os.trans (ho.os.trans hlow.os))
  · exact jY.tape.trans (hg5.tape.trans (ho.tape.trans hlow.tape))
  · exact jY.output.trans (hg5.output.trans (ho.output.trans hlow.output))
  · have := hlow.size
    have := jY.size
    omega
  · intro i hi h1' h2' h3'
    exact (blk i (Nat.lt_of_lt_of_le hi hlow.size) h1' h2' h3').trans (hlow.block i hi)
  · intro g hgG
    rcases hm5 with e | ⟨g', e, hlt⟩
    · exact .inl (e ▸ hgG)
    · rw [e] at hgG
      cases hgG
      refine .inr ?_
      have := hlow.size
      simp at hlt
      omega

set_option maxRecDepth 100000 in
set_option maxHeartbeats 4000000 in
theorem do_c (b m : Nat) (G : Option Nat) (s : Si) (log : List Rc) (r : Rc) (w : World) (h : SR w b m G s log) (hr : RcOk r) (hl : log.length ≤ 4999) :
    Calls Try.prog 15 #[.pointer (some ⟨b, 0, none⟩), kv r] w (DoPost w b m G s log r) := by
  obtain ⟨W, hW⟩ : ∃ W, w.alloc (.cells (kcs r) 35) = W := ⟨_, rfl⟩
  have rW : CB W w.heap.size 35 (kcs r) := by rw [← hW]; exact CB.new _ _ _
  have bW : Below w.heap.size w W := by rw [← hW]; exact belA _ _
  have HW := Lib.hid hW
  clear hW
  obtain ⟨u, v, x, hcb⟩ : ∃ u v x, CB W b 63 #[u, v, .map (some m), x] := by
    obtain ⟨⟨A1, n1, c1, A2, n2, c2, A3, n3, c3, f, h1, _⟩, _⟩ := h
    exact ⟨_, _, _, h1.on bW⟩
  have hcr := created_c b m _ _ _ W hcb
  have hin := inRange10_c r W
  have Ho := Lib.hid (fun i : inR r = false => (eDo_out (s := s) i))
  have Ha := Lib.hid (fun i : inR r = true => aft_do (s := s) h.good.inv i)
  obtain ⟨r0, r1, r2, r3⟩ := rec_cells rW
  clear hcb
  go_enter Try.func15, Try.ntmps15
  go_upto_region 1 with fail
  rw [HW.out]
  go_wp2_with fail
  (with_reducible refine hcr.mono ?_)
  rintro e w' ⟨rfl, rfl⟩
  go_wp2_with fail
  (with_reducible refine hin.mono ?_)
  rintro e w1 ⟨rfl, b1⟩
  have l1 := bel2 bW b1
  cases hi : inR r with
  | false =>
    have He := Lib.hid (Ho.out hi)
    have H := Lib.hid (DoPost.err h (r := r) (by rw [He.out]; omega) l1)
    clear hin hcr b1 l1 hi h
    go_wp2_with fail
    go_ret2
    have := H.out
    rw [He.out] at this
    exact this
  | true =>
    have Hi1 := Lib.hid hi
    have ha := after_c b m G s log r w1 (h.on l1) hr (by omega)
    rw [Ha.out hi] at ha
    have r1W := rW.on b1
    clear r0 r1 r2 r3 rW hin hcr b1 hi
    obtain ⟨r0, r1, r2, r3⟩ := rec_cells r1W
    obtain ⟨k, hk⟩ : ∃ k, eDo s r = k := ⟨_, rfl⟩
    obtain ⟨t', ht'⟩ : ∃ t', tAft s r = t' := ⟨_, rfl⟩
    rw [hk, ht'] at ha
    have Hk := Lib.hid hk
    have Ht := Lib.hid ht'
    clear hk ht'
    go_wp2_with fail
    (with_reducible refine ha.mono ?_)
    rintro e w2 ⟨A, n, c, A2, n2, c2, A3, n3, c3, rfl, hm2, b2⟩
    have l2 := bel2 l1 b2
    have r2W := r1W.on b2
    clear ha r0 r1 r2 r3 r1W l1 b2
    obtain ⟨V, hV⟩ : ∃ V, w2.alloc (.cells (tcs t'.own A n c A2 n2 c2 A3 n3 c3 t'.sn) 92) = V := ⟨_, rfl⟩
    have bV : Below w2.heap.size w2 V := by rw [← hV]; exact belA _ _
    have nV : CB V w2.heap.size 92 (tcs t'.own A n c A2 n2 c2 A3 n3 c3 t'.sn) := by rw [← hV]; exact CB.new _ _ _
    have HV := Lib.hid hV
    have lV := bel2 l2 bV
    have mV := hm2.on bV
    have rV := r2W.on bV
    clear hV r2W l2 bV hm2
    go_upto_region 6 with fail
    rw [HV.out]
    by_cases k0 : k = 0
    · have k1 : (k != 0) = false := by simp [k0]
      have Hk0 := Lib.hid (show eDo s r = 0 by rw [Hk.out]; exact k0)
      clear k0
      have hV := h.on lV
      obtain ⟨⟨B1, e1, d1, B2, e2, d2, B3, e3, d3, f, h1, h2, h3, h4, h5, h6⟩, hg⟩ := hV
      obtain ⟨x0, st, w3, hE, ht3, hS⟩ := MF.entry (w := V.drew) h4.drew (by simp only [maxLen]; omega) (wfI hr.tx)
      obtain ⟨w4, hSt, hM4, ht4⟩ := hS w3 (pv A n c t'.own) rfl
      have j4 : Just m V.drew w4 := (just_turned ht3).trans (just_turned ht4)
      have s4 : CB w4 b 63 #[.slice B1 e1 d1, .slice B2 e2 d2, .map (some m), .slice B3 e3 d3] := j4.cb h1.drew (h4.ne h1)
      have n4 : CB w4 w2.heap.size 92 (tcs t'.own A n c A2 n2 c2 A3 n3 c3 t'.sn) := j4.cb nV.drew (h4.ne nV)
      have r4 : CB w4 w.heap.size 35 (kcs r) := j4.cb rV.drew (h4.ne rV)
      have s3 : CB w3 b 63 #[.slice B1 e1 d1, .slice B2 e2 d2, .map (some m), .slice B3 e3 d3] := (just_turned ht3).cb h1.drew (h4.ne h1)
      have nx3 : CB w3 w2.heap.size 92 (tcs t'.own A n c A2 n2 c2 A3 n3 c3 t'.sn) := (just_turned ht3).cb nV.drew (h4.ne nV)
      obtain ⟨p0, p1, p2, p3, p4, p5, p6⟩ := t_cells nx3
      obtain ⟨g0, g1, g2, g3, g4, g5, g6⟩ := t_cells n4
      have hbn : w2.heap.size ≠ b := fun e => by
        have := h1
        rw [← e] at this
        exact nV.ne_ this (by decide) rfl
      have nX1 : CB (w4.setCell ⟨b, 1, none⟩ (.slice A2 n2 c2)) w2.heap.size 92 (tcs t'.own A n c A2 n2 c2 A3 n3 c3 t'.sn) := n4.far (p := ⟨b, 1, none⟩) hbn _
      obtain ⟨f0, f1, f2, f3, f4, f5, f6⟩ := t_cells nX1
      have sX1 : CB (w4.setCell ⟨b, 1, none⟩ (.slice A2 n2 c2)) b 63 #[.slice B1 e1 d1, .slice A2 n2 c2, .map (some m), .slice B3 e3 d3] := s4.put 1 _
      have a7 := sX1.cell 0
      have a8 := sX1.frozen 0
      simp only [List.getElem?_toArray, List.getElem?_cons_zero, List.getElem?_cons_succ] at a7
      have a2 := h1.cell 2
      have a3 := s4.cell 0
      have a4 := s4.cell 1
      have a5 := s4.frozen 0
      have a6 := s4.frozen 1
      simp only [List.getElem?_toArray, List.getElem?_cons_zero, List.getElem?_cons_succ] at a2 a3 a4
      obtain ⟨q0, q1, q2, q3, q4, q5, q6⟩ := t_cells nV
      obtain ⟨r0, r1, r2, r3⟩ := rec_cells rV
      go_upto_region 8 with fail
      go_region
      clear p0 p1 p2 p3 p4 p5 p6 g0 g1 g2 g3 g4 g5 g6 f0 f1 f2 f3 f4 f5 f6 a2 a3 a4 a5 a6 a7 a8 q0 q1 q2 q3 q4 q5 q6 r0 r1 r2 r3 hE hSt hS nx3 s3 nX1 sX1
      obtain ⟨X, hX⟩ : ∃ X, (w4.setCell ⟨b, 1, none⟩ (.slice A2 n2 c2)).setCell ⟨b, 0, none⟩ (.slice A3 n3 c3) = X := ⟨_, rfl⟩
      have sX : CB X b 63 #[.slice A3 n3 c3, .slice A2 n2 c2, .map (some m), .slice B3 e3 d3] := by rw [← hX]; exact (s4.put 1 _).put 0 _
      have jX : Just b w4 X := by rw [← hX]; exact (Just.set _ _ _ _).trans (Just.set _ _ _ _)
      have HX := Lib.hid hX
      clear hX
      have nX := jX.cb n4 hbn
      have rX : CB X w.heap.size 35 (kcs r) := jX.cb r4 (r4.ne_ s4 Try.neRS)
      have mbn : m ≠ b := fun e => h4.ne h1 e.symm
      have MX := hM4.same (jX.block m mbn)
      have keepX : ∀ (T : TypeId), T ≠ 63 → ∀ (g : Nat) (cs : Array Value), CB V g T cs → X.heap[g]? = V.heap[g]? := fun T hT g cs hc => (jX.block g (hc.ne_ h1 hT)).trans (j4.block g (h4.ne hc))
      have kX : KS X B3 e3 d3 log G := h5.keep fun g e => by
        subst e
        obtain ⟨cs, hc⟩ := seg_type h5
        exact keepX _ Try.neRS g cs hc
      have szX : X.heap.size = V.heap.size := jX.size.trans j4.size
      obtain ⟨i0, hi0, hz0, hz1, hz2⟩ := info_parts Try.infoK
      have Hi := Lib.hid hi0
      have Hz := Lib.hid hz0
      have Hz1 := Lib.hid hz1
      have Hz2 := Lib.hid hz2
      have p03 : 0 < 4 := by omega
      have hlog := rc_len (L := log) h5
      obtain ⟨p5, p6⟩ := app4 (n := e3) (by omega)
      have ho : ∀ u ∈ [Value.int .i64 r.kd, .int .i64 r.tx, .int .u8 r.ky, .int .i64 r.nn], u.oneCell' = true := kc_one r
      have SX := Lib.hid (show Seg (X.alloc (.cells #[.int .i64 r.kd, .int .i64 r.tx, .int .u8 r.ky, .int .i64 r.nn] 35)).drew 35 4 B3 e3 d3 (rc kc log) G from Seg.alloc kX _)
      have RX := Lib.hid (show Src (X.alloc (.cells #[.int .i64 r.kd, .int .i64 r.tx, .int .u8 r.ky, .int .i64 r.nn] 35)).drew 4 (some ⟨X.heap.size, 0, none⟩) 1 [.int .i64 r.kd, .int .i64 r.tx, .int .u8 r.ky, .int .i64 r.nn] from Src.lit X 35 [.int .i64 r.kd, .int .i64 r.tx, .int .u8 r.ky, .int .i64 r.nn] 4 1 X.heap.size rfl rfl)
      have BX := Lib.hid (show CB (X.alloc (.cells #[.int .i64 r.kd, .int .i64 r.tx, .int .u8 r.ky, .int .i64 r.nn] 35)).drew b 63 #[.slice A3 n3 c3, .slice A2 n2 c2, .map (some m), .slice B3 e3 d3] from CB.alloc sX _)
      have NX := Lib.hid (show CB (X.alloc (.cells #[.int .i64 r.kd, .int .i64 r.tx, .int .u8 r.ky, .int .i64 r.nn] 35)).drew w2.heap.size 92 (tcs t'.own A n c A2 n2 c2 A3 n3 c3 t'.sn) from CB.alloc nX _)
      have cx : (X.alloc (.cells #[.int .i64 r.kd, .int .i64 r.tx, .int .u8 r.ky, .int .i64 r.nn] 35)).cell? ⟨b, 3, none⟩ = some (.slice B3 e3 d3) := BX.out.cell 3
      have a3 := sX.cell 3
      simp only [List.getElem?_toArray, List.getElem?_cons_zero, List.getElem?_cons_succ] at a3
      obtain ⟨r0, r1, r2, r3⟩ := rec_cells rX
      have hGb : ∀ g, G = some g → g ≠ b := fun g e => by
        subst e
        obtain ⟨cs, hc⟩ := seg_type h5
        exact hc.ne_ h1 Try.neRS
      have hGn : ∀ g, G = some g → g ≠ w2.heap.size := fun g e => by
        subst e
        obtain ⟨cs, hc⟩ := seg_type h5
        exact hc.ne_ nV (by decide)
      have HGb := Lib.hid hGb
      have HGn := Lib.hid hGn
      have HO := Lib.hid (show Out V X b m none from ⟨jX.os.trans j4.os, jX.tape.trans j4.tape, jX.output.trans j4.output, by rw [szX]; exact Nat.le_refl _, fun i hi hb hm _ => (jX.block i hb).trans (j4.block i hm)⟩)
      have Hbn := Lib.hid hbn
      have Ht5 := Lib.hid (aft_st h.good.inv Hi1.out Hk0.out)
      have Hgood := Lib.hid (good_do h.good r hr)
      have HMX := Lib.hid MX
      have HL := Lib.hid (And.intro lV (And.intro h1 (And.intro h4 h5)))
      have Hm := Lib.hid mV
      have Hps := Lib.hid h6
      have Hwl := Lib.hid h.lt
      clear hGb hGn szX keepX mbn hbn j4 jX nX rX sX kX MX lV h1 h2 h3 h4 h5 h6 mV hlog hg nV rV n4 r4 s4 hM4 ht3 ht4 h
      go_upto_region 9 with fail
      rw [HX.out]
      go_region_law (refine step_append_src _ (.tmp 49) (.tmp 51) _ (by rfl) 35 i0 _ 4 32 Try.underlying49 Hi.out Hz.out Hz1.out Hz2.out rfl p03 (by rfl) SX.out (by rfl) RX.out ho p5 p6 (by rfl) (e3 + 1) rfl ?_; intro A5 c5 G5 w5 hs5 hg5 hm5; have hb5 := BX.out.same (hg5.block b BX.out.lt (fun e => HGb.out b e.symm rfl)); have hn5 := NX.out.same (hg5.block w2.heap.size NX.out.lt (fun e => HGn.out _ e.symm rfl)); have d1 := hb5.cell 3; have d2 := hb5.frozen 3; have hn6 := hn5.far (p := ⟨b, 3, none⟩) Hbn.out (.slice A5 (e3 + 1) c5); have d3 := hn6.cell 6; simp only [List.getElem?_toArray, List.getElem?_cons_succ, List.getElem?_cons_zero] at d1 d3)
      all_goals
        go_wp2_with fail
        go_ret2
        exact do_end HL.out.1 HL.out.2.1 HL.out.2.2.1 HL.out.2.2.2 Hps.out Hm.out HO.out HMX.out hs5 hg5 hm5 hb5 Hk0.out Hgood.out (by rw [← Ht.out]; exact ⟨Ht5.out.1, Ht5.out.2.1, Ht5.out.2.2.2.1.symm, Ht5.out.2.2.2.2⟩)
    · have k1 : (k != 0) = true := by simp [k0]
      have H := Lib.hid (DoPost.err h (r := r) (by rw [Hk.out]; exact k0) lV)
      clear k0 h lV mV rV nV
      go_wp2_with fail
      go_ret2
      have := H.out
      rw [Hk.out] at this
      exact this
end Go.Proofs.Ytealcccjnmfkcaa
