/-
  The document's site: step, Do. Conditions: as for access.
-/
import Derived.Test.YtealcccjnmfkcaaYSxD
set_option linter.unusedVariables false
set_option linter.unusedSimpArgs false
namespace Go.Proofs.Ytealcccjnmfkcaa
open Go.RowKit

/-- A call gave the document's site behind a call. -/
def DDPost (w : World) (s : Si) (log : List Rc) (r : Rc) (e : Ending) (w' : World) : Prop := SNPost w (sDo s r) (if eDo s r = 0 then log ++ [r] else log) (nDo s r) (eDo s r) e w'
theorem Try.infoL : (Try.prog.info? 36).map (fun i => (i.zero, i.size, i.bytes)) = some (some (.agg #[.int .i64 0, .int .i64 0, .int .u8 0, .int .i64 0]), 4, 32) := by kernel_rfl
theorem seg_none {w W : World} {T : TypeId} {k : Nat} (h : W.alloc (.cells #[] T) = w) : Seg w T k (some ⟨W.heap.size, 0, none⟩) 0 0 [] (some W.heap.size) := by
  have cb : CB w W.heap.size T #[] := by rw [← h]; exact CB.new W _ _
  exact ⟨by simp, Nat.le_refl _, Nat.zero_le _, .inr ⟨_, 0, #[], rfl, rfl, cb, by simp, fun j u hu => by simp at hu⟩⟩
theorem app6 {n : Nat} (h : n ≤ 300000) : 0 + n ≤ maxLen ∧ (0 + n) * 32 ≤ 140737488355328 ∧ n + 1 ≤ maxLen ∧ (n + 1) * 32 ≤ 140737488355328 := by simp only [maxLen]; omega

set_option maxRecDepth 100000 in
set_option maxHeartbeats 4000000 in
theorem step_c (A1 : Option Addr) (n1 c1 : Nat) (A2 : Option Addr) (n2 c2 : Nat) (A3 : Option Addr) (n3 c3 : Nat) (A4 : Option Addr) (n4 c4 : Nat) (s : Si) (log : List Rc) (r : Rc) (w : World) (h : DM w A1 n1 c1 A2 n2 c2 A3 n3 c3 A4 n4 c4 s log) (hg : Good s log) (hl : log.length ≤ 5000) (hr : RcOk r) :
    Calls Try.prog 37 #[dsv A1 n1 c1 A2 n2 c2 A3 n3 c3 A4 n4 c4, kv r] w (SNPost w (sDo s r) log (nDo s r) (eDo s r)) := by
  obtain ⟨W, hW, hD⟩ := DW.new h r
  have HW := Lib.hid hW
  clear hW h
  obtain ⟨⟨q0, q1, q2, q3⟩, _⟩ := d_cells hD.c
  obtain ⟨r0, r1, r2, r3⟩ := r10_cells hD.r
  go_enter Try.func37, Try.ntmps37
  cases hi : inR r with
  | false =>
    have Hout := Lib.hid (eDo_out (s := s) hi)
    have hno := inR_no.1 hi
    clear hi
    go_upto_region 1 with fail
    rw [HW.out]
    by_cases a1 : r.kd < 1
    · have a1' : decide (r.kd < 1) = true := decide_eq_true a1
      clear a1 hno
      
      obtain ⟨⟨y0, y1, y2, y3⟩, f0, f1, f2, f3⟩ := d_cells hD.z
      obtain ⟨U, hU, ⟨v0, v1, v2, v3⟩, mU, lU⟩ := SFin hD.z hD.low (by omega) hD.m
      have HU := Lib.hid hU
      have H := Lib.hid (show SNPost w (sDo s r) log (nDo s r) (eDo s r) (.returned (.tuple #[dsv A1 n1 c1 A2 n2 c2 A3 n3 c3 A4 n4 c4, .int .i64 0, .int .i64 2])) U from by
        rw [sDo_err (by rw [Hout.out]; omega), nDo_err (by rw [Hout.out]; omega), Hout.out]
        exact ⟨_, _, _, _, _, _, _, _, _, _, _, _, rfl, mU, lU⟩)
      clear hU mU lU hD
      go_wp2_with fail
      rw [HU.out]
      exact bodyPost_ret (v := .tuple #[dsv A1 n1 c1 A2 n2 c2 A3 n3 c3 A4 n4 c4, .int .i64 0, .int .i64 2]) (by simp [results, Try.results37, go_sem, v0, v1, v2, v3]) rfl H.out
    have a1' : decide (r.kd < 1) = false := decide_eq_false a1
    by_cases a2 : 6 < r.kd
    · have a2' : decide (6 < r.kd) = true := decide_eq_true a2
      clear a2 hno
      
      obtain ⟨⟨y0, y1, y2, y3⟩, f0, f1, f2, f3⟩ := d_cells hD.z
      obtain ⟨U, hU, ⟨v0, v1, v2, v3⟩, mU, lU⟩ := SFin hD.z hD.low (by omega) hD.m
      have HU := Lib.hid hU
      have H := Lib.hid (show SNPost w (sDo s r) log (nDo s r) (eDo s r) (.returned (.tuple #[dsv A1 n1 c1 A2 n2 c2 A3 n3 c3 A4 n4 c4, .int .i64 0, .int .i64 2])) U from by
        rw [sDo_err (by rw [Hout.out]; omega), nDo_err (by rw [Hout.out]; omega), Hout.out]
        exact ⟨_, _, _, _, _, _, _, _, _, _, _, _, rfl, mU, lU⟩)
      clear hU mU lU hD
      go_wp2_with fail
      rw [HU.out]
      exact bodyPost_ret (v := .tuple #[dsv A1 n1 c1 A2 n2 c2 A3 n3 c3 A4 n4 c4, .int .i64 0, .int .i64 2]) (by simp [results, Try.results37, go_sem, v0, v1, v2, v3]) rfl H.out
    have a2' : decide (6 < r.kd) = false := decide_eq_false a2
    by_cases a3 : r.tx < 0
    · have a3' : decide (r.tx < 0) = true := decide_eq_true a3
      clear a3 hno
      
      obtain ⟨⟨y0, y1, y2, y3⟩, f0, f1, f2, f3⟩ := d_cells hD.z
      obtain ⟨U, hU, ⟨v0, v1, v2, v3⟩, mU, lU⟩ := SFin hD.z hD.low (by omega) hD.m
      have HU := Lib.hid hU
      have H := Lib.hid (show SNPost w (sDo s r) log (nDo s r) (eDo s r) (.returned (.tuple #[dsv A1 n1 c1 A2 n2 c2 A3 n3 c3 A4 n4 c4, .int .i64 0, .int .i64 2])) U from by
        rw [sDo_err (by rw [Hout.out]; omega), nDo_err (by rw [Hout.out]; omega), Hout.out]
        exact ⟨_, _, _, _, _, _, _, _, _, _, _, _, rfl, mU, lU⟩)
      clear hU mU lU hD
      go_wp2_with fail
      rw [HU.out]
      exact bodyPost_ret (v := .tuple #[dsv A1 n1 c1 A2 n2 c2 A3 n3 c3 A4 n4 c4, .int .i64 0, .int .i64 2]) (by simp [results, Try.results37, go_sem, v0, v1, v2, v3]) rfl H.out
    have a3' : decide (r.tx < 0) = false := decide_eq_false a3
    have a4 : 1000 ≤ r.tx := by omega
    have a4' : decide (1000 ≤ r.tx) = true := decide_eq_true a4
    clear a4 hno a1 a2 a3
    
    obtain ⟨⟨y0, y1, y2, y3⟩, f0, f1, f2, f3⟩ := d_cells hD.z
    obtain ⟨U, hU, ⟨v0, v1, v2, v3⟩, mU, lU⟩ := SFin hD.z hD.low (by omega) hD.m
    have HU := Lib.hid hU
    have H := Lib.hid (show SNPost w (sDo s r) log (nDo s r) (eDo s r) (.returned (.tuple #[dsv A1 n1 c1 A2 n2 c2 A3 n3 c3 A4 n4 c4, .int .i64 0, .int .i64 2])) U from by
      rw [sDo_err (by rw [Hout.out]; omega), nDo_err (by rw [Hout.out]; omega), Hout.out]
      exact ⟨_, _, _, _, _, _, _, _, _, _, _, _, rfl, mU, lU⟩)
    clear hU mU lU hD
    go_wp2_with fail
    rw [HU.out]
    exact bodyPost_ret (v := .tuple #[dsv A1 n1 c1 A2 n2 c2 A3 n3 c3 A4 n4 c4, .int .i64 0, .int .i64 2]) (by simp [results, Try.results37, go_sem, v0, v1, v2, v3]) rfl H.out
  | true =>
    have hin := inR_iff.1 hi
    have Hi := Lib.hid hi
    have a1' : decide (r.kd < 1) = false := decide_eq_false (by omega)
    have a2' : decide (6 < r.kd) = false := decide_eq_false (by omega)
    have a3' : decide (r.tx < 0) = false := decide_eq_false (by omega)
    have a4' : decide (1000 ≤ r.tx) = false := decide_eq_false (by omega)
    clear hi
    go_upto_region 1 with fail
    rw [HW.out]
    have hc := find_c A1 n1 c1 A2 n2 c2 A3 n3 c3 A4 n4 c4 s.pts r.tx W hD.m.pts
    cases hf : fnd s.pts r.tx with
    | none =>
      have hix : idxI s.pts r.tx = -1 := by unfold idxI; rw [idx_none hf, if_neg (by omega)]
      rw [hix] at hc
      have Hf := Lib.hid hf
      clear hix hf
      go_wp2_with fail
      (with_reducible refine hc.mono ?_)
      rintro e w1 ⟨rfl, b1⟩
      have D1 := hD.on b1
      clear hc hD b1
      clear q0 q1 q2 q3 r0 r1 r2 r3
      obtain ⟨⟨q0, q1, q2, q3⟩, _⟩ := d_cells D1.c
      obtain ⟨r0, r1, r2, r3⟩ := r10_cells D1.r
      by_cases k1 : r.kd = 1
      rotate_left
      · have k11 : (r.kd == 1) = false := by simp [k1]
        have He := Lib.hid (show eDo s r = 7 by unfold eDo; rw [if_neg hin, Hf.out]; simp [k1])
        clear k1 hin
        obtain ⟨⟨y0, y1, y2, y3⟩, f0, f1, f2, f3⟩ := d_cells D1.z
        obtain ⟨U, hU, ⟨v0, v1, v2, v3⟩, mU, lU⟩ := SFin D1.z D1.low (by omega) D1.m
        have HU := Lib.hid hU
        have H := Lib.hid (show SNPost w (sDo s r) log (nDo s r) (eDo s r) (.returned (.tuple #[dsv A1 n1 c1 A2 n2 c2 A3 n3 c3 A4 n4 c4, .int .i64 0, .int .i64 7])) U from by
          rw [sDo_err (by rw [He.out]; omega), nDo_err (by rw [He.out]; omega), He.out]
          exact ⟨_, _, _, _, _, _, _, _, _, _, _, _, rfl, mU, lU⟩)
        clear hU mU lU D1
        go_wp2_with fail
        rw [HU.out]
        exact bodyPost_ret (v := .tuple #[dsv A1 n1 c1 A2 n2 c2 A3 n3 c3 A4 n4 c4, .int .i64 0, .int .i64 7]) (by simp [results, Try.results37, go_sem, v0, v1, v2, v3]) rfl H.out
      have k11 : (r.kd == 1) = true := by simp [k1]
      have He := Lib.hid (show eDo s r = 0 by unfold eDo; rw [if_neg hin, Hf.out]; simp [k1])
      have Hs := Lib.hid (show sDo s r = ⟨s.led, s.lk, s.pts ++ [(r.tx, p0)]⟩ by unfold sDo; rw [if_neg (by rw [He.out]; simp), Hf.out])
      have Hn := Lib.hid (show nDo s r = 0 by unfold nDo; rw [if_neg (by rw [He.out]; simp), if_neg (by omega)])
      clear k1 hin
      obtain ⟨i0, hi0, hz0, hz1, hz2⟩ := info_parts Try.infoO
      obtain ⟨W1, hW1⟩ : ∃ W1, w1.alloc (.cells #[] 97) = W1 := ⟨_, rfl⟩
      have hs0 := seg_none (k := 5) hW1
      have kk1 : Below w1.heap.size w1 W1 := by rw [← hW1]; exact belA _ _
      obtain ⟨S3, hS3, hF3⟩ := D1.m.pts
      have hpl := pts_len hg.inv
      have hn3 : n3 ≤ 1000 := by have h1 := hS3.len; have h2 := hF3.len; omega
      obtain ⟨p1, p2, p3, p4⟩ := app5 (n := n3) (by omega)
      have p03 : 0 < 5 := by omega
      have z0 := Nat.zero_add n3
      have hsr := (hS3.on kk1).src
      obtain ⟨⟨a0, a1, a2, a3⟩, _⟩ := d_cells (D1.c.alloc (.cells #[] 97))
      have HW1 := Lib.hid hW1
      clear hW1
      go_wp2_with (at_builtin; try rw [HW1.out]; refine wpList_append_src _ rfl (.tmp 40) (.tmp 42) _ rfl 97 i0 _ 5 56 Try.underlying28 hi0 hz0 hz1 hz2 rfl p03 rfl hs0 rfl hsr (rc_one 5 _) p1 p2 n3 z0 ?_; intro A5 c5 G5 w5 hs5 hg5 hm5; refine Stay.mk ?_)
      refine Stay.open_ ?_
      rw [List.nil_append] at hs5
      have l5 : Below w1.heap.size w1 w5 := kk1.grown hg5 kk1.size (fun g e => by cases e; exact Nat.le_refl _)
      have hG5 := Lib.hid (hm5.ge kk1.size (fun g e => by cases e; exact Nat.le_refl _))
      have D5 := D1.on l5
      have HF3 := Lib.hid hF3
      clear a0 a1 a2 a3 hs0 hsr hg5 hm5 kk1 HW1 z0 hS3 hF3
      clear q0 q1 q2 q3 r0 r1 r2 r3
      obtain ⟨⟨q0, q1, q2, q3⟩, _⟩ := d_cells D5.c
      obtain ⟨r0, r1, r2, r3⟩ := r10_cells D5.r
      have hlit : oc ⟨r.tx, 0, none, 0, 0, false, 0⟩ = [.int .i64 r.tx, .int .i64 0, .slice none 0 0, .bool false, .int .i64 0] := rfl
      have hsr : Src (w5.alloc (.cells #[.int .i64 r.tx, .int .i64 0, .slice none 0 0, .bool false, .int .i64 0] 97)) 5 (some ⟨w5.heap.size, 0, none⟩) 1 [.int .i64 r.tx, .int .i64 0, .slice none 0 0, .bool false, .int .i64 0] := Src.lit w5 97 [.int .i64 r.tx, .int .i64 0, .slice none 0 0, .bool false, .int .i64 0] 5 1 w5.heap.size rfl rfl
      have hone : ∀ u ∈ [Value.int .i64 r.tx, .int .i64 0, .slice none 0 0, .bool false, .int .i64 0], u.oneCell' = true := encOne (c := oc) 5 ⟨r.tx, 0, none, 0, 0, false, 0⟩
      obtain ⟨N, hN⟩ : ∃ N, n3 + 1 = N := ⟨_, rfl⟩
      have HN := Lib.hid hN
      clear hN
      go_wp2_with (at_builtin; refine wpList_append_src _ rfl (.tmp 44) (.tmp 48) _ rfl 97 i0 _ 5 56 Try.underlying28 hi0 hz0 hz1 hz2 rfl p03 rfl (hs5.alloc _) rfl hsr hone p3 p4 N HN.out ?_; intro A6 c6 G6 w6 hs6 hg6 hm6; refine Stay.mk ?_)
      refine Stay.open_ ?_
      rw [← hlit, rc_snoc] at hs6
      have l6 : Below w1.heap.size w1 w6 := (l5.alloc l5.size _).grown hg6 (Nat.le_trans l5.size (by simp)) hG5.out
      have D6 := D1.on l6
      have oX6 : OX w6 A6 N c6 (s.pts ++ [(r.tx, p0)]) := ⟨_, RR.of_seg hs6, Fits.snoc (Fits.on od_firm HF3.out l6) ⟨rfl, rfl, rfl, rfl, RR.nil _ _ _⟩⟩
      clear hs5 hs6 hg6 hm6 hsr hone l5 l6 D1 D5 hi0 hz0 hz1 hz2
      clear q0 q1 q2 q3 r0 r1 r2 r3
      obtain ⟨X, hX⟩ : ∃ X, w6.setCell ⟨w.heap.size, 2, none⟩ (.slice A6 N c6) = X := ⟨_, rfl⟩
      have jX : Just w.heap.size w6 X := by rw [← hX]; exact Just.set _ _ _ _
      have DX : DW w X A1 n1 c1 A2 n2 c2 A6 N c6 A4 n4 c4 ⟨s.led, s.lk, s.pts ++ [(r.tx, p0)]⟩ log r := ⟨by rw [← hX]; exact D6.c.put 2 _, jX.cb D6.r (by omega), jX.cb D6.z (by omega), DM.just (s := ⟨s.led, s.lk, s.pts ++ [(r.tx, p0)]⟩) ⟨D6.m.led, D6.m.lk, oX6, D6.m.log⟩ D6.c jX, jX.low D6.low (Nat.le_refl _)⟩
      obtain ⟨⟨q0, q1, q2, q3⟩, f0, f1, f2, f3⟩ := d_cells D6.c
      have HX := Lib.hid hX
      clear hX jX
      go_upto_region 9 with fail
      rw [HX.out]
      clear q0 q1 q2 q3 f0 f1 f2 f3 D6 oX6
      obtain ⟨⟨q0, q1, q2, q3⟩, _⟩ := d_cells DX.c
      obtain ⟨r0, r1, r2, r3⟩ := r10_cells DX.r
      have mz : DM X A1 n1 c1 A2 n2 c2 A6 N c6 A4 n4 c4 (sDo s r) log := by rw [Hs.out]; exact DX.m
      obtain ⟨⟨y0, y1, y2, y3⟩, f0, f1, f2, f3⟩ := d_cells DX.z
      obtain ⟨U, hU, ⟨v0, v1, v2, v3⟩, mU, lU⟩ := SFin DX.z DX.low (by omega) mz
      have HU := Lib.hid hU
      have H := Lib.hid (show SNPost w (sDo s r) log (nDo s r) (eDo s r) (.returned (.tuple #[dsv A1 n1 c1 A2 n2 c2 A6 N c6 A4 n4 c4, .int .i64 0, .int .i64 0])) U from by
        rw [Hn.out, He.out]
        exact ⟨_, _, _, _, _, _, _, _, _, _, _, _, rfl, mU, lU⟩)
      clear hU mU lU DX mz
      go_wp2_with fail
      rw [HU.out]
      exact bodyPost_ret (v := .tuple #[dsv A1 n1 c1 A2 n2 c2 A6 N c6 A4 n4 c4, .int .i64 0, .int .i64 0]) (by simp [results, Try.results37, go_sem, v0, v1, v2, v3]) rfl H.out
    | some p =>
      obtain ⟨hx1, hx2⟩ := idx_some hf
      have hix : idxI s.pts r.tx = ((idx s.pts r.tx : Nat) : Int) := by unfold idxI; rw [if_pos hx2]
      rw [hix] at hc
      have Hh := Lib.hid (show Here s log r p from ⟨hg, hl, hr, Hi.out, hf⟩)
      have Hed := Lib.hid (eDo_some hin hf)
      clear hix hf hx1 hx2
      obtain ⟨i, hidx⟩ : ∃ i, idx s.pts r.tx = i := ⟨_, rfl⟩
      rw [hidx] at hc
      have Hidx := Lib.hid hidx
      clear hidx
      have b1' : decide (0 ≤ (i : Int)) = true := decide_eq_true (by omega)
      have b2' : decide ((i : Int) < 0) = false := decide_eq_false (by omega)
      go_wp2_with fail
      (with_reducible refine hc.mono ?_)
      rintro e w1 ⟨rfl, b1⟩
      have D1 := hD.on b1
      clear hc hD b1
      clear q0 q1 q2 q3 r0 r1 r2 r3
      obtain ⟨⟨q0, q1, q2, q3⟩, _⟩ := d_cells D1.c
      obtain ⟨r0, r1, r2, r3⟩ := r10_cells D1.r
      by_cases k1 : r.kd = 1
      · have k11 : (r.kd == 1) = true := by simp [k1]
        have He := Lib.hid (show eDo s r = 8 by rw [Hed.out, if_pos k1])
        clear k1 hin
        obtain ⟨⟨y0, y1, y2, y3⟩, f0, f1, f2, f3⟩ := d_cells D1.z
        obtain ⟨U, hU, ⟨v0, v1, v2, v3⟩, mU, lU⟩ := SFin D1.z D1.low (by omega) D1.m
        have HU := Lib.hid hU
        have H := Lib.hid (show SNPost w (sDo s r) log (nDo s r) (eDo s r) (.returned (.tuple #[dsv A1 n1 c1 A2 n2 c2 A3 n3 c3 A4 n4 c4, .int .i64 0, .int .i64 8])) U from by
          rw [sDo_err (by rw [He.out]; omega), nDo_err (by rw [He.out]; omega), He.out]
          exact ⟨_, _, _, _, _, _, _, _, _, _, _, _, rfl, mU, lU⟩)
        clear hU mU lU D1
        go_wp2_with fail
        rw [HU.out]
        exact bodyPost_ret (v := .tuple #[dsv A1 n1 c1 A2 n2 c2 A3 n3 c3 A4 n4 c4, .int .i64 0, .int .i64 8]) (by simp [results, Try.results37, go_sem, v0, v1, v2, v3]) rfl H.out
      have k11 : (r.kd == 1) = false := by simp [k1]
      by_cases k3 : r.kd ≤ 3
      · have k31 : decide (r.kd ≤ 3) = true := decide_eq_true k3
        have hc := access_c A1 n1 c1 A2 n2 c2 A3 n3 c3 A4 n4 c4 s log r p w1 D1.m Hh.out (by omega)
        rw [Hidx.out] at hc
        obtain ⟨s', hs'⟩ : ∃ x, sDo s r = x := ⟨_, rfl⟩
        obtain ⟨n', hn'⟩ : ∃ x, nDo s r = x := ⟨_, rfl⟩
        obtain ⟨k', hk'⟩ : ∃ x, eDo s r = x := ⟨_, rfl⟩
        rw [hs', hn', hk'] at hc
        have H3 := Lib.hid (And.intro hs' (And.intro hn' hk'))
        clear k1 k3 hin hs' hn' hk'
        go_wp2_with fail
        (with_reducible refine hc.mono ?_)
        rintro e w2 ⟨E1, E1', E1'', E2, E2', E2'', E3, E3', E3'', E4, E4', E4'', rfl, m2, b2⟩
        have D2 := D1.on b2
        clear hc D1 b2
        clear q0 q1 q2 q3 r0 r1 r2 r3
        obtain ⟨⟨y0, y1, y2, y3⟩, f0, f1, f2, f3⟩ := d_cells D2.z
        obtain ⟨U, hU, ⟨v0, v1, v2, v3⟩, mU, lU⟩ := SFin D2.z D2.low (by omega) m2
        have HU := Lib.hid hU
        have H := Lib.hid (show SNPost w (sDo s r) log (nDo s r) (eDo s r) (.returned (.tuple #[dsv E1 E1' E1'' E2 E2' E2'' E3 E3' E3'' E4 E4' E4'', .int .i64 n', .int .i64 k'])) U from by
          rw [H3.out.1, H3.out.2.1, H3.out.2.2]
          exact ⟨_, _, _, _, _, _, _, _, _, _, _, _, rfl, mU, lU⟩)
        clear hU mU lU D2 m2
        go_wp2_with fail
        rw [HU.out]
        exact bodyPost_ret (v := .tuple #[dsv E1 E1' E1'' E2 E2' E2'' E3 E3' E3'' E4 E4' E4'', .int .i64 n', .int .i64 k']) (by simp [results, Try.results37, go_sem, v0, v1, v2, v3]) rfl H.out
      have k31 : decide (r.kd ≤ 3) = false := decide_eq_false k3
      have hc := end_c A1 n1 c1 A2 n2 c2 A3 n3 c3 A4 n4 c4 s log r p w1 D1.m Hh.out k1 (by omega) (by omega)
      rw [Hidx.out] at hc
      obtain ⟨s', hs'⟩ : ∃ x, sDo s r = x := ⟨_, rfl⟩
      have hn' : nDo s r = 0 := by
        unfold nDo
        by_cases e : eDo s r = 0
        · rw [if_neg (by rw [e]; simp), if_neg (by omega)]
        · rw [if_pos e]
      obtain ⟨k', hk'⟩ : ∃ x, eDo s r = x := ⟨_, rfl⟩
      rw [hs', hk'] at hc
      have H3 := Lib.hid (And.intro hs' (And.intro hn' hk'))
      clear k1 k3 hin hs' hn' hk'
      go_wp2_with fail
      (with_reducible refine hc.mono ?_)
      rintro e w2 ⟨E1, E1', E1'', E2, E2', E2'', E3, E3', E3'', E4, E4', E4'', rfl, m2, b2⟩
      have D2 := D1.on b2
      clear hc D1 b2
      clear q0 q1 q2 q3 r0 r1 r2 r3
      obtain ⟨Y, hY⟩ : ∃ V, w2.alloc (.cells (dcs E1 E1' E1'' E2 E2' E2'' E3 E3' E3'' E4 E4' E4'') 30) = V := ⟨_, rfl⟩
      have tY : CB Y w2.heap.size 30 (dcs E1 E1' E1'' E2 E2' E2'' E3 E3' E3'' E4 E4' E4'') := by rw [← hY]; exact CB.new _ _ _
      have bY : Below w2.heap.size w2 Y := by rw [← hY]; exact belA _ _
      have DY := D2.on bY
      have mY := m2.on bY
      have HY := Lib.hid hY
      obtain ⟨⟨u0, u1, u2, u3⟩, _⟩ := d_cells tY
      clear hY bY D2 m2 tY
      go_upto_region 15 with fail
      rw [HY.out]
      obtain ⟨⟨y0, y1, y2, y3⟩, f0, f1, f2, f3⟩ := d_cells DY.z
      obtain ⟨U, hU, ⟨v0, v1, v2, v3⟩, mU, lU⟩ := SFin DY.z DY.low (by omega) mY
      have HU := Lib.hid hU
      have H := Lib.hid (show SNPost w (sDo s r) log (nDo s r) (eDo s r) (.returned (.tuple #[dsv E1 E1' E1'' E2 E2' E2'' E3 E3' E3'' E4 E4' E4'', .int .i64 0, .int .i64 k'])) U from by
        rw [H3.out.1, H3.out.2.1, H3.out.2.2]
        exact ⟨_, _, _, _, _, _, _, _, _, _, _, _, rfl, mU, lU⟩)
      clear hU mU lU DY mY
      go_wp2_with fail
      rw [HU.out]
      exact bodyPost_ret (v := .tuple #[dsv E1 E1' E1'' E2 E2' E2'' E3 E3' E3'' E4 E4' E4'', .int .i64 0, .int .i64 k']) (by simp [results, Try.results37, go_sem, v0, v1, v2, v3]) rfl H.out

set_option maxRecDepth 100000 in
set_option maxHeartbeats 4000000 in
theorem docdo_c (A1 : Option Addr) (n1 c1 : Nat) (A2 : Option Addr) (n2 c2 : Nat) (A3 : Option Addr) (n3 c3 : Nat) (A4 : Option Addr) (n4 c4 : Nat) (s : Si) (log : List Rc) (r : Rc) (w : World) (h : DM w A1 n1 c1 A2 n2 c2 A3 n3 c3 A4 n4 c4 s log) (hg : Good s log) (hl : log.length ≤ 5000) (hr : RcOk r) :
    Calls Try.prog 16 #[dsv A1 n1 c1 A2 n2 c2 A3 n3 c3 A4 n4 c4, kv r] w (DDPost w s log r) := by
  obtain ⟨W, hW, hD⟩ := DW.new h r
  have HW := Lib.hid hW
  have hc := step_c A1 n1 c1 A2 n2 c2 A3 n3 c3 A4 n4 c4 s log r W hD.m hg hl hr
  obtain ⟨n', hn'⟩ : ∃ x, nDo s r = x := ⟨_, rfl⟩
  obtain ⟨k', hk'⟩ : ∃ x, eDo s r = x := ⟨_, rfl⟩
  have Hs1 := Lib.hid (fun (k : eDo s r ≠ 0) => sDo_err k)
  obtain ⟨s', hs'⟩ : ∃ x, sDo s r = x := ⟨_, rfl⟩
  rw [hs', hn', hk'] at hc
  have H3 := Lib.hid (And.intro hs' (And.intro hn' hk'))
  clear hW h hn' hk' hs'
  obtain ⟨⟨q0, q1, q2, q3⟩, _⟩ := d_cells hD.c
  obtain ⟨r0, r1, r2, r3⟩ := r10_cells hD.r
  go_enter Try.func16, Try.ntmps16
  go_upto_region 1 with fail
  rw [HW.out]
  go_wp2_with fail
  (with_reducible refine hc.mono ?_)
  rintro e w2 ⟨E1, E1', E1'', E2, E2', E2'', E3, E3', E3'', E4, E4', E4'', rfl, m2, b2⟩
  have D2 := hD.on b2
  obtain ⟨Y, hY⟩ : ∃ V, w2.alloc (.cells (dcs E1 E1' E1'' E2 E2' E2'' E3 E3' E3'' E4 E4' E4'') 30) = V := ⟨_, rfl⟩
  have tY : CB Y w2.heap.size 30 (dcs E1 E1' E1'' E2 E2' E2'' E3 E3' E3'' E4 E4' E4'') := by rw [← hY]; exact CB.new _ _ _
  have bY : Below w2.heap.size w2 Y := by rw [← hY]; exact belA _ _
  have DY := D2.on bY
  have mY := m2.on bY
  have hgt := D2.z.lt
  have HY := Lib.hid hY
  clear hY bY D2 m2 hc hD b2
  clear q0 q1 q2 q3 r0 r1 r2 r3
  go_upto_region 2 with fail
  rw [HY.out]
  obtain ⟨⟨q0, q1, q2, q3⟩, _⟩ := d_cells DY.c
  obtain ⟨r0, r1, r2, r3⟩ := r10_cells DY.r
  by_cases h0 : k' = 0
  rotate_left
  · have h01 : (k' != 0) = true := by simp [h0]
    have Hn := Lib.hid h0
    clear h0
    have Hne := Lib.hid (show eDo s r ≠ 0 by rw [H3.out.2.2]; exact Hn.out)
    obtain ⟨⟨y0, y1, y2, y3⟩, f0, f1, f2, f3⟩ := d_cells DY.z
    obtain ⟨U, hU, ⟨v0, v1, v2, v3⟩, mU, lU⟩ := SFin DY.z DY.low (by omega) DY.m
    have HU := Lib.hid hU
    have H := Lib.hid (show DDPost w s log r (.returned (.tuple #[dsv A1 n1 c1 A2 n2 c2 A3 n3 c3 A4 n4 c4, .int .i64 0, .int .i64 k'])) U from by
      unfold DDPost
      rw [if_neg Hne.out, Hs1.out Hne.out, nDo_err Hne.out, H3.out.2.2]
      exact ⟨_, _, _, _, _, _, _, _, _, _, _, _, rfl, mU, lU⟩)
    clear hU mU lU DY mY tY
    go_wp2_with fail
    rw [HU.out]
    exact bodyPost_ret (v := .tuple #[dsv A1 n1 c1 A2 n2 c2 A3 n3 c3 A4 n4 c4, .int .i64 0, .int .i64 k']) (by simp [results, Try.results16, go_sem, v0, v1, v2, v3]) rfl H.out
  have h01 : (k' != 0) = false := by simp [h0]
  have He0 := Lib.hid (show eDo s r = 0 by rw [H3.out.2.2]; exact h0)
  clear h0
  obtain ⟨i0, hi0, hz0, hz1, hz2⟩ := info_parts Try.infoL
  obtain ⟨W1, hW1⟩ : ∃ W1, Y.alloc (.cells #[] 36) = W1 := ⟨_, rfl⟩
  have hs0 := seg_none (k := 4) hW1
  have kk1 : Below Y.heap.size Y W1 := by rw [← hW1]; exact belA _ _
  have hn4 : n4 ≤ 5000 := by have := DY.m.log.len; omega
  obtain ⟨p1, p2, p3, p4⟩ := app6 (n := n4) (by omega)
  have p03 : 0 < 4 := by omega
  have z0 := Nat.zero_add n4
  have hsr := (DY.m.log.on kk1).src
  obtain ⟨⟨a0, a1, a2, a3⟩, _⟩ := d_cells (DY.c.alloc (.cells #[] 36))
  have HW1 := Lib.hid hW1
  clear hW1
  go_wp2_with (at_builtin; try rw [HW1.out]; refine wpList_append_src _ rfl (.tmp 22) (.tmp 24) _ rfl 36 i0 _ 4 32 Try.underlying22 hi0 hz0 hz1 hz2 rfl p03 rfl hs0 rfl hsr (rc_one 4 _) p1 p2 n4 z0 ?_; intro A5 c5 G5 w5 hs5 hg5 hm5; refine Stay.mk ?_)
  refine Stay.open_ ?_
  rw [List.nil_append] at hs5
  have l5 : Below Y.heap.size Y w5 := kk1.grown hg5 kk1.size (fun g e => by cases e; exact Nat.le_refl _)
  have hG5 := Lib.hid (hm5.ge kk1.size (fun g e => by cases e; exact Nat.le_refl _))
  have D5 := DY.on l5
  clear a0 a1 a2 a3 hs0 hsr hg5 hm5 kk1 HW1 z0
  clear q0 q1 q2 q3 r0 r1 r2 r3
  obtain ⟨⟨q0, q1, q2, q3⟩, _⟩ := d_cells D5.c
  obtain ⟨r0, r1, r2, r3⟩ := r10_cells D5.r
  have hsr : Src (w5.alloc (.cells #[.int .i64 r.kd, .int .i64 r.tx, .int .u8 r.ky, .int .i64 r.nn] 36)) 4 (some ⟨w5.heap.size, 0, none⟩) 1 [.int .i64 r.kd, .int .i64 r.tx, .int .u8 r.ky, .int .i64 r.nn] := Src.lit w5 36 [.int .i64 r.kd, .int .i64 r.tx, .int .u8 r.ky, .int .i64 r.nn] 4 1 w5.heap.size rfl rfl
  have hone : ∀ u ∈ [Value.int .i64 r.kd, .int .i64 r.tx, .int .u8 r.ky, .int .i64 r.nn], u.oneCell' = true := encOne (c := kc) 4 r
  obtain ⟨N, hN⟩ : ∃ N, n4 + 1 = N := ⟨_, rfl⟩
  have HN := Lib.hid hN
  clear hN
  go_wp2_with (at_builtin; refine wpList_append_src _ rfl (.tmp 26) (.tmp 28) _ rfl 36 i0 _ 4 32 Try.underlying22 hi0 hz0 hz1 hz2 rfl p03 rfl (hs5.alloc _) rfl hsr hone p3 p4 N HN.out ?_; intro A6 c6 G6 w6 hs6 hg6 hm6; refine Stay.mk ?_)
  refine Stay.open_ ?_
  rw [show rc kc log ++ [.int .i64 r.kd, .int .i64 r.tx, .int .u8 r.ky, .int .i64 r.nn] = rc kc (log ++ [r]) from rc_snoc log r] at hs6
  have l6 : Below Y.heap.size Y w6 := (l5.alloc l5.size _).grown hg6 (Nat.le_trans l5.size (by simp)) hG5.out
  have D6 := DY.on l6
  have t6 := tY.on l6
  have m6 := mY.on l6
  have lg6 : DKR w6 A6 N c6 (log ++ [r]) := RR.of_seg hs6
  clear hs5 hs6 hg6 hm6 hsr hone l5 l6 DY D5 hi0 hz0 hz1 hz2 tY mY
  clear q0 q1 q2 q3 r0 r1 r2 r3
  obtain ⟨X, hX⟩ : ∃ X, w6.setCell ⟨w2.heap.size, 3, none⟩ (.slice A6 N c6) = X := ⟨_, rfl⟩
  have jX : Just w2.heap.size w6 X := by rw [← hX]; exact Just.set _ _ _ _
  have tX : CB X w2.heap.size 30 (dcs E1 E1' E1'' E2 E2' E2'' E3 E3' E3'' A6 N c6) := by rw [← hX]; exact t6.put 3 _
  have DX := D6.just t6 jX hgt
  have mX : DM X E1 E1' E1'' E2 E2' E2'' E3 E3' E3'' A6 N c6 s' (log ++ [r]) := DM.just ⟨m6.led, m6.lk, m6.pts, lg6⟩ t6 jX
  obtain ⟨⟨u0, u1, u2, u3⟩, g0, g1, g2, g3⟩ := d_cells t6
  have HX := Lib.hid hX
  clear hX jX D6 m6 lg6 t6
  go_upto_region 6 with fail
  rw [HX.out]
  clear u0 u1 u2 u3 g0 g1 g2 g3
  obtain ⟨⟨u0, u1, u2, u3⟩, _⟩ := d_cells tX
  have mz : DM X E1 E1' E1'' E2 E2' E2'' E3 E3' E3'' A6 N c6 (sDo s r) (log ++ [r]) := by rw [H3.out.1]; exact mX
  obtain ⟨⟨y0, y1, y2, y3⟩, f0, f1, f2, f3⟩ := d_cells DX.z
  obtain ⟨U, hU, ⟨v0, v1, v2, v3⟩, mU, lU⟩ := SFin DX.z DX.low (by omega) mz
  have HU := Lib.hid hU
  have H := Lib.hid (show DDPost w s log r (.returned (.tuple #[dsv E1 E1' E1'' E2 E2' E2'' E3 E3' E3'' A6 N c6, .int .i64 n', .int .i64 0])) U from by
    unfold DDPost
    rw [H3.out.2.1, He0.out, if_pos rfl]
    exact ⟨_, _, _, _, _, _, _, _, _, _, _, _, rfl, mU, lU⟩)
  clear hU mU lU DX mz mX tX
  go_wp2_with fail
  rw [HU.out]
  exact bodyPost_ret (v := .tuple #[dsv E1 E1' E1'' E2 E2' E2'' E3 E3' E3'' A6 N c6, .int .i64 n', .int .i64 0]) (by simp [results, Try.results16, go_sem, v0, v1, v2, v3]) rfl H.out
end Go.Proofs.Ytealcccjnmfkcaa
