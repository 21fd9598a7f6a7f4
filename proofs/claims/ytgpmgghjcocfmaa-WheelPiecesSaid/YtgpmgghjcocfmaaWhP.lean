/-
  The law WheelPieces: its walk. Condition: the timers, and the pieces, can be read.
-/
import Derived.Test.YtgpmgghjcocfmaaWhN
import Derived.Test.YtgpmgghjcocfmaaWhO
set_option linter.unusedVariables false
set_option linter.unusedSimpArgs false
namespace Go.Proofs.Ytgpmgghjcocfmaa
open Go.RowKit

/-- Behind some pieces: the variable a, the ids so far. -/
structure PI (V : World) (b5 : Nat) (now : Int) (L : List (Int × Int)) (s : Nat) (v : Value) (W : World) : Prop where
  a : ∃ A n c, Box W b5 28 (now + s) A n c ∧ TS W 66 A n c (lf L (now + s))
  all : ∃ A m c G, v = .slice A m c ∧ Seg W 3 1 A m c (ic ((fr L (now + s)).map (·.1))) G ∧ ∀ g, G = some g → V.heap.size ≤ g
  low : Below b5 V W
  lt : b5 < V.heap.size
  tm : now + s ≤ lastT

theorem add_cast (now : Int) (s p : Nat) : now + ((s + p : Nat) : Int) = now + s + p := by omega

set_option maxRecDepth 100000 in
set_option maxHeartbeats 4000000 in
theorem pieces_walk (now : Int) (A : Option Addr) (n c : Nat) (L : List (Int × Int)) (Ap : Option Addr) (cp : Nat) (ps : List Nat) (w : World) (h : TR w A n c L) (hp : CameU w Ap ps) :
    Calls Try.prog 5 #[.agg #[.int .i64 now, .slice A n c], .slice Ap ps.length cp] w fun e w' => e = .returned (.bool true) ∧ Below w.heap.size w w' := by
  obtain ⟨W, hW, bx, hb0⟩ := boxed w 24 now A n c
  have HW := Lib.hid hW
  clear hW
  have hT0 := h.on hb0
  have hlen := h.len
  have h0 := h
  clear h
  obtain ⟨np, hnp⟩ : ∃ np, ps.length = np := ⟨_, rfl⟩
  rw [hnp]
  have Hnp := Lib.hid hnp
  clear hnp
  go_enter Try.func5, Try.ntmps5
  go_wp2_with fail
  rw [HW.out]
  refine (alive_c W).mono ?_
  rintro e w1 ⟨rfl, k1⟩
  have bx1 := bx.on k1 bx.lt
  have h1 := hT0.on k1
  have hb1 := bel2 hb0 k1
  clear bx hT0 hb0 k1 HW
  obtain ⟨d0, d1⟩ := bx1.cells
  by_cases hbig : (100 : Int) < (n : Int)
  · go_wp2_with fail
    go_ret
    exact ⟨rfl, hb1⟩
  by_cases hbig2 : (100 : Int) < (np : Int)
  · go_wp2_with fail
    go_ret
    exact ⟨rfl, hb1⟩
  have hn : n ≤ 100000 := by omega
  have hr := right_r now A n c L w1 h1 hn
  cases hR : rightB now L with
  | false =>
    rw [hR] at hr
    clear hR
    go_wp2_with fail
    refine hr.mono ?_
    rintro e w2 ⟨rfl, k2⟩
    have hb2 := bel2 hb1 k2
    clear hr d0 d1
    go_wp2_with fail
    go_ret
    exact ⟨rfl, hb2⟩
  | true =>
    rw [hR] at hr
    have HR := Lib.hid (rightB_iff.1 hR)
    clear hR
    go_wp2_with fail
    refine hr.mono ?_
    rintro e w2 ⟨rfl, k2⟩
    have bx2 := bx1.on k2 bx1.lt
    have h2 := h1.on k2
    have hb2 := bel2 hb1 k2
    clear hr d0 d1 bx1 h1 hb1 k2
    obtain ⟨d0, d1⟩ := bx2.cells
    go_wp2_with fail
    refine (theirs_c now A n c L w2 h2 hn).mono ?_
    rintro e w3 ⟨A3, n3, c3, rfl, hx3, k3⟩
    have bx3 := bx2.on k3 bx2.lt
    have h3 := h2.on k3
    have hb3 := bel2 hb2 k3
    clear d0 d1 bx2 h2 hb2 k3
    obtain ⟨V, hV, bo, kV⟩ := boxed w3 28 now A3 n3 c3
    have HV := Lib.hid hV
    have hxV := hx3.on kV
    have hbV := bel2 hb3 kV
    have hTV := h3.on kV
    have bxV := bx3.on kV bx3.lt
    have hltb : w.heap.size < w3.heap.size := bx3.lt
    have hpI : PI V w3.heap.size now L 0 (.slice none 0 0) V := by
      have hA := HR.out.2.2.2.1
      have e1 : lf L (now + ((0 : Nat) : Int)) = L := lf_all fun p hp => by have := (hA p hp).1; omega
      have e2 : fr L (now + ((0 : Nat) : Int)) = [] := fr_none fun p hp => by have := (hA p hp).1; omega
      refine ⟨⟨A3, n3, c3, by simpa using bo, by rw [e1]; exact hxV⟩, ⟨none, 0, 0, none, rfl, by rw [e2]; exact Seg.nil _ _ _, fun g e => by cases e⟩, Below.refl _ _, bo.lt, ?_⟩
      have := HR.out.2.2.1
      omega
    have HpI := Lib.hid hpI
    have hbw := hb3
    clear hV hx3 hb3 h3 bx3 hxV bo hpI kV
    have hn0 := HR.out.2.1
    go_wp2_with fail
    rw [HV.out]
    clear HV
    generalize w3.heap.size = b5 at *
    go_loopw [6, 7, 36] (fun v s i wr => ∃ (j S : Nat), j ≤ np ∧ i = .int .i64 j ∧ s = .int .i64 S ∧ S ≤ j * 65535 ∧ PI V b5 now L S v wr) (fun _ _ i _ => np - (intOf i).toNat)
    case atStart => exact ⟨0, 0, by omega, rfl, rfl, by omega, HpI.out⟩
    case round =>
      clear HpI
      obtain ⟨j, S, hj, rfl, rfl, hS, hpi⟩ := hrel
      obtain ⟨Aa, na, ca, ba, ta⟩ := hpi.a
      obtain ⟨A0, m, c0, G, rfl, hsg, hG⟩ := hpi.all
      have hlow := hpi.low
      have hbl := hpi.lt
      have htm := hpi.tm
      simp only [lastT] at htm
      have hlw : Below w.heap.size w wr := hbV.trans (hlow.mono (by omega))
      have hLl : (lf L (now + S)).length ≤ n := by rw [← hlen]; exact List.length_filter_le _ _
      have hna : na ≤ 100000 := by have := ta.len; omega
      have hmm : m ≤ n := by
        have q1 := hsg.1
        rw [ic, List.length_map, List.length_map] at q1
        have q2 := fr_le (L := L) (m := now + (S : Int))
        omega
      have hRS : RightP (now + S) (lf L (now + S)) := right_lf HR.out (by omega) htm
      by_cases hlt : j < np
      · obtain ⟨p, hpj⟩ : ∃ p, ps[j]? = some p := ⟨ps[j]'(by rw [Hnp.out]; exact hlt), List.getElem?_eq_getElem _⟩
        obtain ⟨hp16, g, off, rfl, hgl, hc⟩ := hp j p hpj
        have e1 : wr.cell? ⟨g, off + j, none⟩ = some (.int .u16 (p : Int)) := by
          rw [← hc]
          exact World.cell?_of_block (a := ⟨g, off + j, none⟩) (hlw.block g hgl)
        have hcv : IntKind.i64.wrap (p : Int) = (p : Int) := IntWalk.i64_in _ (by omega)
        have htk := tick_w (now + S) Aa na ca p (lf L (now + S)) wr ta.tr hna
        obtain ⟨x0, x1⟩ := ba.cells
        by_cases hbg : (1099511627776 : Int) - (now + S) < p
        · have f1 : eTick (now + S) (lf L (now + S)) p = 3 := by
            unfold eTick
            rw [rightB_iff.2 hRS, if_neg (by simp), if_pos hbg]
          have f2 : rTick (now + S) (lf L (now + S)) p = [] := by unfold rTick; rw [f1]; rfl
          rw [f1, f2] at htk
          clear f1 f2 hsg
          go_wp2_with fail
          refine htk.mono ?_
          rintro e w6 ⟨A6, n6, c6, B6, m6, s6, rfl, hx6, hi6, k6⟩
          obtain rfl : m6 = 0 := by have := hi6.len; simpa using this.symm
          have hb6 := bel2 hlw k6
          have hb7 : Below w.heap.size w (w6.alloc (.cells #[.int .i64 (nTick (now + S) (lf L (now + S)) p), .slice A6 n6 c6] 28)) := hb6.alloc hb6.size _
          clear htk x0 x1 e1 hx6 hi6 k6
          go_wp2_with fail
          go_ret
          exact ⟨rfl, hb7⟩
        · have f1 : eTick (now + S) (lf L (now + S)) p = 0 := eTick_ok.2 ⟨hRS, by omega, by simp only [lastT]; omega⟩
          have f2 : rTick (now + S) (lf L (now + S)) p = (fr (lf L (now + S)) (now + ((S + p : Nat) : Int))).map (·.1) := by unfold rTick; rw [if_pos f1, add_cast]
          have f3 : sTick (now + S) (lf L (now + S)) p = lf L (now + ((S + p : Nat) : Int)) := by unfold sTick; rw [if_pos f1, add_cast]; exact lf_lf (by omega)
          have f4 : nTick (now + S) (lf L (now + S)) p = now + ((S + p : Nat) : Int) := by unfold nTick; rw [if_pos f1, add_cast]
          have f5 : (fr L (now + S)).map (·.1) ++ (fr (lf L (now + S)) (now + ((S + p : Nat) : Int))).map (·.1) = (fr L (now + ((S + p : Nat) : Int))).map (·.1) := by
            rw [← List.map_append, ← fr_fr HR.out.2.2.2.2.1 (by omega)]
          rw [f1, f2, f3, f4] at htk
          have F5 := Lib.hid f5
          have hfl : (fr L (now + ((S + p : Nat) : Int))).length ≤ n := by rw [← hlen]; exact fr_le
          have HSP := Lib.hid (show (S : Int) + (p : Int) = ((S + p : Nat) : Int) by omega)
          have htm2 := Lib.hid (show now + ((S + p : Nat) : Int) ≤ lastT by simp only [lastT]; omega)
          have hSp : S + p ≤ (j + 1) * 65535 := by omega
          obtain ⟨SP, hSP⟩ : ∃ SP, S + p = SP := ⟨_, rfl⟩
          rw [hSP] at htk F5 hfl HSP htm2 hSp
          clear f1 f2 f3 f4 f5 hSP
          obtain ⟨nw, hnw⟩ : ∃ nw, now + (SP : Int) = nw := ⟨_, rfl⟩
          have Hnw := Lib.hid hnw
          rw [hnw] at htk F5 hfl htm2
          clear hnw
          go_wp2_with fail
          refine htk.mono ?_
          rintro e w6 ⟨A6, n6, c6, B6, m6, s6, rfl, hx6, hi6, k6⟩
          have hb6 := bel2 hlw k6
          have ba6 := ba.on k6 ba.lt
          have hsg6 : Seg w6 3 1 A0 m c0 (ic ((fr L (now + S)).map (·.1))) G := hsg.keep fun k hk => k6.block k (hsg.lt k hk)
          have hlo6 : Below b5 V w6 := hlow.trans (k6.mono (by have := ba.lt; omega))
          clear htk x0 x1 e1 hsg hlow k6 ba hlw
          -- the new variable x
          obtain ⟨W6, hW6, bn, kW6⟩ := boxed w6 28 nw A6 n6 c6
          have HW6 := Lib.hid hW6
          have hx7 := hx6.on kW6
          have hi7 := hi6.on kW6
          have ba7 := ba6.on kW6 ba6.lt
          have hsg7 : Seg W6 3 1 A0 m c0 (ic ((fr L (now + S)).map (·.1))) G := hsg6.keep fun k hk => kW6.block k (hsg6.lt k hk)
          have hlo7 : Below b5 V W6 := hlo6.trans (kW6.mono (by have := ba6.lt; omega))
          have hne : w6.heap.size ≠ b5 := by have := ba6.lt; omega
          clear hW6 hx6 hi6 kW6 hsg6 hlo6 hb6
          obtain ⟨z0, z1⟩ := ba7.cells
          obtain ⟨f0, f1⟩ := ba7.froz
          obtain ⟨x0, x1⟩ := bn.cells
          -- a = x
          obtain ⟨w8, hw8, b8, hs8, _, kb, _, kt, _, kh⟩ := store_end ba7 nw A6 n6 c6
          have hx8 := kt _ _ _ _ _ (by decide) hx7
          have hlo8 := kb _ _ hlo7 (Nat.le_refl _)
          have hi8 : IS w8 B6 m6 s6 ((fr (lf L (now + S)) nw).map (·.1)) := by
            obtain ⟨Gi, gi⟩ := hi7
            exact ⟨Gi, gi.keep fun k hk => kh k (fun e => gi.ne_ ba7 (by decide) (by rw [hk, e]))⟩
          have hsg8 : Seg w8 3 1 A0 m c0 (ic ((fr L (now + S)).map (·.1))) G := hsg7.keep fun k hk => kh k (fun e => hsg7.ne_ ba7 (by decide) (by rw [hk, e]))
          have Hw8 := Lib.hid hw8
          rw [← HW6.out] at z0 z1 f0 f1 x0 x1
          clear hw8 kb kt kh hs8 hx7 hi7 hsg7 hlo7 ba7 ba6 bn
          have hm6 := hi8.len
          have hmt : m + m6 ≤ n := by
            have q1 := F5.out
            have q2 := congrArg List.length q1
            rw [List.length_append, hm6, List.length_map] at q2
            have q3 := hsg8.1
            rw [ic, List.length_map] at q3
            rw [List.length_map] at q2
            rw [List.length_map] at q3
            omega
          obtain ⟨i0, hi0, hz0, hz1, hz2⟩ := info_parts Try.infoI
          have p0 : 0 < 1 := by omega
          have p3 : m + m6 ≤ maxLen := by simp only [maxLen]; omega
          have p4 : (m + m6) * 8 ≤ 140737488355328 := by omega
          have hsrc := hi8.src
          obtain ⟨N, hN⟩ : ∃ N, m + m6 = N := ⟨_, rfl⟩
          have HN := Lib.hid hN
          clear hN
          have hSw : wrap64 ((S : Int) + (p : Int)) = (SP : Int) := by rw [HSP.out]; exact wrap_in (by omega)
          go_wp2_with (at_builtin; refine Stay.mk ?_)
          refine Stay.open_ ?_
          rw [HW6.out, Hw8.out]
          refine wpList_append_src _ rfl (.tmp 58) (.tmp 59) _ rfl 3 i0 _ 1 8 Try.underlying37 hi0 hz0 hz1 hz2 rfl p0 rfl hsg8 rfl hsrc (ic_one _) p3 p4 N HN.out ?_
          intro A9 c9 G9 w9 n9 m9 r9
          rw [← ic_append, F5.out] at n9
          have hb9 : Box w9 b5 28 nw A6 n6 c6 := CB.same b8 (m9.block _ b8.lt (fun e => by have := hG _ e.symm; omega))
          have hx9 : TS w9 66 A6 n6 c6 (lf L nw) := by
            obtain ⟨q1, G2, q2⟩ := hx8
            exact ⟨q1, G2, q2.keep fun k hk => m9.block k (q2.lt k hk) (q2.apart hsg8 (by decide) k hk)⟩
          have hl9 : Below b5 V w9 := hlo8.grown m9 (by have := b8.lt; omega) (fun g hg => by have := hG g hg; omega)
          have hG9 : ∀ g, G9 = some g → V.heap.size ≤ g := r9.ge hlo8.size hG
          have Hnext := Lib.hid (show PI V b5 now L SP (.slice A9 N c9) w9 from ⟨⟨A6, n6, c6, by rw [Hnw.out]; exact hb9, by rw [Hnw.out]; exact hx9⟩, ⟨A9, N, c9, G9, rfl, by rw [Hnw.out]; exact n9, hG9⟩, hl9, hbl, by rw [Hnw.out]; exact htm2.out⟩)
          clear n9 m9 r9 hb9 hx9 hl9 hG9 z0 z1 f0 f1 x0 x1 hsg8 hi8 hsrc hx8 hlo8 b8 HW6 Hw8 hpi ta
          go_wp2_with fail
          go_roundw
          case rel => exact ⟨j + 1, SP, by omega, by go_num, by rw [HSP.out], hSp, Hnext.out⟩
          case measure => simp [intOf]; omega
      · obtain rfl : j = np := by omega
        have u1 : eTick now L S = 0 := eTick_ok.2 ⟨HR.out, by omega, by simp only [lastT]; omega⟩
        have u2 : rTick now L S = (fr L (now + S)).map (·.1) := by unfold rTick; rw [if_pos u1]
        have u3 : sTick now L S = lf L (now + S) := by unfold sTick; rw [if_pos u1]
        have u4' : nTick now L S = now + S := by unfold nTick; rw [if_pos u1]
        have bxR := bxV.on hlow hltb
        have hTR := h0.on hlw
        obtain ⟨d0, d1⟩ := bxR.cells
        have hIA : IS wr A0 m c0 ((fr L (now + S)).map (·.1)) := ⟨G, hsg⟩
        have hLd := Lib.hid hLl
        clear hpi hsg hLl hmm htm
        go_wp2_with fail
        refine (theirs_c now A n c L wr hTR hn).mono ?_
        rintro e w6 ⟨A6, n6, c6, rfl, hx6, k6⟩
        have hn6 : n6 ≤ 100000 := by have := hx6.len; omega
        have htk := tick_w now A6 n6 c6 S L w6 hx6.tr hn6
        rw [u1, u2, u3, u4'] at htk
        have hb6 := bel2 hlw k6
        have ba6 := ba.on k6 ba.lt
        have ta6 := ta.on k6
        have hI6 := hIA.on k6
        clear d0 d1 bxR hTR hIA hx6 hlw k6 ba ta u1 u2 u3 u4' hlow
        generalize now + (S : Int) = nw at *
        generalize (fr L nw).map (·.1) = ids at *
        generalize lf L nw = LL at *
        go_wp2_with fail
        refine htk.mono ?_
        rintro e w7 ⟨A7, n7, c7, B7, m7, s7, rfl, hx7, hi7, k7⟩
        have hn7 : n7 ≤ 100000 := by have h1 := hx7.len; have h2 := hLd.out; omega
        have hb7 := bel2 hb6 k7
        have ba7 := ba6.on k7 ba6.lt
        have ta7 := ta6.on k7
        have hI7 := hI6.on k7
        clear htk hb6 ba6 ta6 hI6 k7
        obtain ⟨W7, hW7, bn, kW7⟩ := boxed w7 28 nw A7 n7 c7
        have HW7 := Lib.hid hW7
        have hx8 := hx7.on kW7
        have hi8 := hi7.on kW7
        have hI8 := hI7.on kW7
        have ta8 := ta7.on kW7
        have ba8 := ba7.on kW7 ba7.lt
        have hb8 := bel2 hb7 kW7
        clear hW7 hx7 hi7 hI7 ta7 ba7 hb7 kW7
        go_wp2_with fail
        rw [HW7.out]
        clear HW7
        generalize w7.heap.size = b9 at *
        go_region_held3 (fun W' => (W'.cell? ⟨b5, 0, none⟩ = some (.int .i64 nw) ∧ W'.cell? ⟨b5, 1, none⟩ = some (.slice Aa na ca)) ∧ (W'.cell? ⟨b9, 0, none⟩ = some (.int .i64 nw) ∧ W'.cell? ⟨b9, 1, none⟩ = some (.slice A7 n7 c7))) (first | exact ⟨ba8.cells, bn.cells⟩ | exact ⟨bb1.cells, bc1.cells⟩ | exact ⟨bb2.cells, bc2.cells⟩ | exact ⟨bb3.cells, bc3.cells⟩ | exact ⟨bb4.cells, bc4.cells⟩) (first
          | (go_at_call 23; refine (same_i _ _ _ _ _ _ _ W7.drew hi8.drew hI8.drew).mono ?_; rintro e v1 ⟨rfl, q1⟩; have bb1 := ba8.drew.on q1 ba8.lt; have bc1 := bn.drew.on q1 bn.lt; have ta1 := ta8.on (below_drew q1); have tx1 := hx8.on (below_drew q1); have hv1 := bel2 hb8 (below_drew q1))
          | (go_at_call 22; (with_reducible refine (ours_c nw Aa na ca LL v1 ta1.tr hna).mono ?_); rintro e v2 ⟨Ba, ma, sa, rfl, ya, q2⟩; have bb2 := bb1.on q2 bb1.lt; have bc2 := bc1.on q2 bc1.lt; have tx2 := tx1.on q2; have hv2 := bel2 hv1 q2)
          | (go_at_call 22; (with_reducible refine (ours_c nw A7 n7 c7 LL v2 tx2.tr hn7).mono ?_); rintro e v3 ⟨Bb, mb, sb, rfl, yb, q3⟩; have bb3 := bb2.on q3 bb2.lt; have bc3 := bc2.on q3 bc2.lt; have ya3 := ya.on q3; have hma : ma ≤ 100000 := (by have h1 := ya3.len; have h2 := hLd.out; omega); have hv3 := bel2 hv2 q3)
          | (go_at_call 21; (with_reducible refine (same_r nw Ba Bb ma sa mb sb LL v3 ya3.tr yb.tr hma).mono ?_); rintro e v4 ⟨rfl, q4⟩; have bb4 := bb3.on q4 bb3.lt; have bc4 := bc3.on q4 bc3.lt; have hv4 := bel2 hv3 q4))
        go_wp2_with fail
        go_ret
        exact ⟨rfl, hv4⟩
end Go.Proofs.Ytgpmgghjcocfmaa
