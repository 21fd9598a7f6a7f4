/-
  The walk of SiteSums: it returns true. Condition: the calls can be read, their numbers such as their types hold.
-/
import Derived.Test.YtealcccjnmfkcaaSiJ
import Derived.Test.YtealcccjnmfkcaaTwo
import Derived.Test.YtealcccjnmfkcaaLhF
import Derived.Test.YtealcccjnmfkcaaPtE
set_option linter.unusedVariables false
set_option linter.unusedSimpArgs false
namespace Go.Proofs.Ytealcccjnmfkcaa
open Go.RowKit

/-- Are all of the first j transactions decided? -/
def dcd (l : List (Int × Pt)) : Nat → Bool
  | 0 => true
  | j + 1 => dcd l j && (match fnd l (j : Int) with | none => true | some p => p.st == 3)
theorem dcd_all {s : Si} (h : Inv s) (hd : dcd s.pts 1000 = true) : ∀ o ∈ s.pts, o.2.st = 3 := by
  have key : ∀ n : Nat, dcd s.pts n = true → ∀ o ∈ s.pts, o.1 < n → o.2.st = 3 := by
    intro n
    induction n with
    | zero => intro _ o ho hlt; have := (h.ok o ho).2.1; omega
    | succ n ih =>
      intro hd o ho hlt
      unfold dcd at hd
      rw [Bool.and_eq_true] at hd
      by_cases e : o.1 = n
      · have hf := fnd_of h.tx ho
        rw [e] at hf
        rw [hf] at hd
        simpa using hd.2
      · exact ih hd.1 o ho (by omega)
  intro o ho
  exact key 1000 hd o ho (by have := (h.ok o ho).2.2; omega)
theorem byTx_next (l : List (Int × Pt)) (f : Pt → List Dl) (j : Nat) : byTx l f (j + 1) = byTx l f j ++ (match fnd l (j : Int) with | none => [] | some p => f p) := by
  unfold byTx
  rw [List.range_succ, List.flatMap_append]
  simp only [List.flatMap_cons, List.flatMap_nil, List.append_nil]
  cases fnd l (j : Int) <;> rfl
theorem eff_len {p : Pt} (h : okP p = true) : (eff p).length ≤ 100 := by
  have := ok_len h
  unfold eff
  split
  · simp
  · split
    · omega
    · split
      · simp [opp]; omega
      · simp
theorem owns_len {p : Pt} (h : okP p = true) : (owns p).length ≤ 100 := by
  have := ok_len h
  unfold owns
  split
  · omega
  · simp
theorem byTx_len {s : Si} (h : Inv s) {f : Pt → List Dl} (hf : ∀ p, okP p = true → (f p).length ≤ 100) (j : Nat) : (byTx s.pts f j).length ≤ 100 * j := by
  induction j with
  | zero => simp [byTx]
  | succ j ih =>
    rw [byTx_next, List.length_append]
    cases e : fnd s.pts (j : Int) with
    | none => simp; omega
    | some p =>
      have := hf p (h.ok _ (fnd_mem e)).1
      simp only
      omega
theorem app_b {n m : Nat} (h1 : n ≤ 100000) (h2 : m ≤ 100) : n + m ≤ maxLen ∧ (n + m) * 16 ≤ 140737488355328 := by simp only [maxLen]; omega

set_option maxRecDepth 100000 in
set_option maxHeartbeats 4000000 in
theorem sums_walk (A : Option Addr) (n c : Nat) (L : List Rc) (w : World) (h : KR w A n c L) (hr : ∀ r ∈ L, RcOk r) :
    Calls Try.prog 6 #[.slice A n c] w fun e w' => e = .returned (.bool true) ∧ Below w.heap.size w w' := by
  obtain ⟨i0, hi0, hz0, hz1, hz2⟩ := info_parts Try.infoD
  have Hi := Lib.hid hi0
  have Hz := Lib.hid hz0
  have Hz1 := Lib.hid hz1
  have Hz2 := Lib.hid hz2
  clear hi0 hz0 hz1 hz2
  have p03 : 0 < 2 := by omega
  go_enter Try.func6, Try.ntmps6
  go_wp2_with fail
  (with_reducible refine (alive_c w).mono ?_)
  rintro e w1 ⟨rfl, b1⟩
  have hp := played_c A n c L w1 (h.on b1) hr
  go_wp2_with fail
  (with_reducible refine hp.mono ?_)
  rintro e w2 ⟨b, m, G, rfl, hst⟩
  have hlow := bel2 b1 hst.low
  have hsr := hst.sr
  have hinv := hst.sr.good.inv
  generalize plays si0 (L.take 120) = s at *
  generalize logs si0 (L.take 120) = K at *
  clear hp hst b1 h
  go_wp2_with fail
  go_loopw [4, 5, 6, 19] (fun v u q i wr => ∃ j : Nat, j ≤ 1000 ∧ i = .int .i64 j ∧ q = .bool (dcd s.pts j) ∧ Two w2 102 2 (rc dc (byTx s.pts eff j)) (rc dc (byTx s.pts owns j)) v u wr) (fun _ _ _ i _ => 1000 - (intOf i).toNat)
  case atStart => exact ⟨0, by omega, rfl, rfl, Two.start _ _ _ (Below.refl _ _)⟩
  case round =>
    obtain ⟨j, hj, rfl, rfl, htw⟩ := hrel
    have hsj := hsr.on htw.low
    have ln1 := byTx_len hinv (f := eff) (fun p => eff_len) j
    have ln2 := byTx_len hinv (f := owns) (fun p => owns_len) j
    by_cases hlt : j < 1000
    · have hlt1 : (j : Int) < 1000 := by omega
      have hpt := spart_c b m G s K j wr hsj (by omega)
      have Hn1 := Lib.hid (byTx_next s.pts eff j)
      have Hn2 := Lib.hid (byTx_next s.pts owns j)
      have Hd := Lib.hid (show dcd s.pts (j + 1) = (dcd s.pts j && (match fnd s.pts (j : Int) with | none => true | some p => p.st == 3)) from rfl)
      have Hok := Lib.hid (fun p (e : fnd s.pts (j : Int) = some p) => (hinv.ok _ (fnd_mem e)).1)
      cases hf : fnd s.pts (j : Int) with
      | none =>
        rw [hf] at hpt Hn1 Hn2 Hd
        simp only [Option.getD_none, Option.isSome_none, List.append_nil, Bool.and_true] at hpt Hn1 Hn2 Hd
        rw [← Hn1.out, ← Hn2.out] at htw
        have Ht := Lib.hid htw
        clear htw hf Hok hsj
        go_wp2_with fail
        (with_reducible refine hpt.mono ?_)
        rintro e w3 ⟨A3, n3, c3, rfl, _, b3, _⟩
        have Ht3 := Lib.hid ((Ht.out.on b3).on (belA w3 (.cells #[.int .i64 p0.st, .slice A3 n3 c3, .bool p0.lo, .int .i64 p0.ou] 40)))
        clear hpt b3 Ht
        go_wp2_with fail
        go_roundw
        case rel => exact ⟨j + 1, by omega, by go_num, by rw [Hd.out], Ht3.out⟩
        case measure => simp [intOf]; omega
      | some p =>
        have hok := Hok.out p hf
        rw [hf] at hpt Hn1 Hn2 Hd
        simp only [Option.getD_some, Option.isSome_some] at hpt Hn1 Hn2 Hd
        clear hf Hok hsj
        obtain ⟨⟨A1, m1, c1, G1, A2, m2, c2, G2, e1, e2, s1, s2, g1, g2, hne⟩, low0⟩ := htw
        subst e1 e2
        have HG1 := Lib.hid s1.lt
        have Hg1 := Lib.hid g1
        have Hg2 := Lib.hid g2
        have Hne := Lib.hid hne
        obtain ⟨q, hq⟩ : ∃ q, dcd s.pts j = q := ⟨_, rfl⟩
        rw [hq] at Hd
        rw [hq]
        clear g1 g2 hne hq
        go_wp2_with fail
        (with_reducible refine hpt.mono ?_)
        rintro e w3 ⟨A3, n3, c3, rfl, d3, b3, f3⟩
        obtain ⟨V, hV⟩ : ∃ V, w3.alloc (.cells #[.int .i64 p.st, .slice A3 n3 c3, .bool p.lo, .int .i64 p.ou] 40) = V := ⟨_, rfl⟩
        have oV : PB V w3.heap.size 40 p.st A3 n3 c3 p.lo p.ou := by rw [← hV]; exact PB.new _ _ _ _ _ _ _ _
        have bV : Below w3.heap.size w3 V := by rw [← hV]; exact belA _ _
        have HV := Lib.hid hV
        have dV := d3.on bV
        have s1V := (s1.on b3).on bV
        have s2V := (s2.on b3).on bV
        have lV := bel2 (bel2 low0 b3) bV
        obtain ⟨o0, o1, o2, o3⟩ := oV.cells
        have hol := ok_len hok
        have hn3 := dV.len
        have hef : Calls Try.prog 24 #[pv A3 n3 c3 p] V (LPost V (eff p)) := effect_c p.st A3 n3 c3 p.lo p.ou p.ad V dV.rr (by omega)
        have Hel := Lib.hid (eff_len hok)
        have Hown := Lib.hid (show owns p = if p.ou = 1 then p.ad else [] from rfl)
        have HF := Lib.hid f3
        generalize byTx s.pts eff j = E1 at *
        generalize byTx s.pts owns j = E2 at *
        clear hpt b3 bV hV d3 s1 s2 low0 f3
        go_upto_region 12 with fail
        rw [HV.out]
        go_wp2_with fail
        (with_reducible refine hef.mono ?_)
        rintro e w4 ⟨A4, n4, c4, rfl, d4, b4⟩
        have s1 := s1V.on b4
        have s2 := s2V.on b4
        have l4 := bel2 lV b4
        have o4 := oV.on b4
        have dp4 := dV.on b4
        have hm1 := rc_len (L := E1) s1
        have hm2 := rc_len (L := E2) s2
        have hm4 := d4.len
        obtain ⟨P1, P2⟩ := app_b (n := m1) (m := n4) (by omega) (by have := Hel.out; omega)
        obtain ⟨P3, P4⟩ := app_b (n := m2) (m := n3) (by omega) (by omega)
        obtain ⟨N, hN⟩ : ∃ N, m1 + n4 = N := ⟨_, rfl⟩
        obtain ⟨M, hM⟩ : ∃ M, m2 + n3 = M := ⟨_, rfl⟩
        have hsrc := d4.rr.src
        clear hef b4 oV dV o0 o1 o2 o3 s1V s2V lV
        go_wp2_with (at_builtin; refine wpList_append_src _ rfl (.tmp 30) (.tmp 32) _ rfl 102 i0 _ 2 16 Try.underlying26 Hi.out Hz.out Hz1.out Hz2.out rfl p03 rfl s1 rfl hsrc (rc_one 2 _) P1 P2 N hN ?_; intro A5 c5 G5 w5 hs5 hg5 hm5; refine Stay.mk ?_)
        refine Stay.open_ ?_
        rw [← rc_append, ← Hn1.out] at hs5
        have hGo := Seg.ne_ s1 o4 Try.neP
        have o5 : PB w5 w3.heap.size 40 p.st A3 n3 c3 p.lo p.ou := CB.same o4 (hg5.block _ o4.lt (fun e => hGo e.symm))
        have d5 : DR w5 A3 n3 c3 p.ad := dp4.rr.keep fun g off hA hn hlt => hg5.block g hlt (fun e => by
          have h1 := HG1.out g e.symm
          have h2 := HF.out hn g off hA
          omega)
        have t5 := Two.left l4 s2 Hg1.out Hg2.out Hne.out hs5 hg5 hm5
        obtain ⟨o0, o1, o2, o3⟩ := o5.cells
        have T5 := Lib.hid t5
        have O5 := Lib.hid o5
        have D5 := Lib.hid d5
        clear hN hs5 hg5 hm5 hGo s1 s2 l4 o4 dp4 d4 hsrc t5 o5 d5 Hne Hg1 Hg2
        by_cases hou : p.ou = 1
        · have hou1 : (p.ou == 1) = true := by simp [hou]
          have Ho2 := Lib.hid (show E2 ++ owns p = E2 ++ p.ad by rw [Hown.out, if_pos hou])
          clear hou
          obtain ⟨⟨A1', m1', c1', G1', A2', m2', c2', G2', e1, e2, s1, s2, g1, g2, hne⟩, l5⟩ := T5.out
          cases e1
          cases e2
          have Hg1 := Lib.hid g1
          have Hg2 := Lib.hid g2
          have Hne := Lib.hid hne
          have hsrc := D5.out.src
          clear g1 g2 hne
          go_wp2_with (at_builtin; refine wpList_append_src _ rfl (.tmp 37) (.tmp 39) _ rfl 102 i0 _ 2 16 Try.underlying26 Hi.out Hz.out Hz1.out Hz2.out rfl p03 rfl s2 rfl hsrc (rc_one 2 _) P3 P4 M hM ?_; intro A6 c6 G6 w6 hs6 hg6 hm6; refine Stay.mk ?_)
          refine Stay.open_ ?_
          rw [← rc_append, ← Ho2.out, ← Hn2.out] at hs6
          have hGo := Seg.ne_ s2 O5.out Try.neP
          have o6 : PB w6 w3.heap.size 40 p.st A3 n3 c3 p.lo p.ou := CB.same O5.out (hg6.block _ O5.out.lt (fun e => hGo e.symm))
          have T6 := Lib.hid (Two.swap (Two.left l5 s1 Hg2.out Hg1.out (fun g e e' => Hne.out g e' e) hs6 hg6 hm6))
          clear hM hs6 hg6 hm6 hGo s1 s2 l5 hsrc o0 o1 o2 o3
          obtain ⟨o0, o1, o2, o3⟩ := o6.cells
          cases q with
          | true =>
            go_wp2_with fail
            go_roundw
            case rel => exact ⟨j + 1, by omega, by go_num, by rw [Hd.out]; rfl, T6.out⟩
            case measure => simp [intOf]; omega
          | false =>
            go_wp2_with fail
            go_roundw
            case rel => exact ⟨j + 1, by omega, by go_num, by rw [Hd.out]; rfl, T6.out⟩
            case measure => simp [intOf]; omega
        · have hou1 : (p.ou == 1) = false := by simp [hou]
          have Ho2 := Lib.hid (show E2 ++ owns p = E2 by rw [Hown.out, if_neg hou, List.append_nil])
          clear hou
          have T6 := Lib.hid (show Two w2 102 2 (rc dc (byTx s.pts eff (j + 1))) (rc dc (byTx s.pts owns (j + 1))) (.slice A5 N c5) (.slice A2 m2 c2) w5 by rw [Hn2.out, Ho2.out]; exact T5.out)
          cases q with
          | true =>
            go_wp2_with fail
            go_roundw
            case rel => exact ⟨j + 1, by omega, by go_num, by rw [Hd.out]; rfl, T6.out⟩
            case measure => simp [intOf]; omega
          | false =>
            go_wp2_with fail
            go_roundw
            case rel => exact ⟨j + 1, by omega, by go_num, by rw [Hd.out]; rfl, T6.out⟩
            case measure => simp [intOf]; omega
    · obtain rfl : j = 1000 := by omega
      have hlt1 : ¬ ((1000 : Nat) : Int) < 1000 := by omega
      obtain ⟨⟨A1, m1, c1, G1, A2, m2, c2, G2, e1, e2, s1, s2, g1, g2, hne⟩, low0⟩ := htw
      subst e1 e2
      have hm1 := rc_len (L := byTx s.pts eff 1000) s1
      have hm2 := rc_len (L := byTx s.pts owns 1000) s2
      have hc1 := of_c A1 m1 c1 _ wr (RR.of_seg s1) (by omega)
      have S1 := Lib.hid (site_sums hinv)
      have S2 := Lib.hid (fun h9 => site_done hinv (dcd_all hinv h9))
      obtain ⟨q, hq⟩ : ∃ q, dcd s.pts 1000 = q := ⟨_, rfl⟩
      rw [hq]
      rw [hq] at S2
      have d2 := RR.of_seg s2
      have hm2' : m2 ≤ 300000 := by omega
      generalize byTx s.pts eff 1000 = E1 at *
      generalize byTx s.pts owns 1000 = E2 at *
      clear s1 s2 g1 g2 hne hq
      go_wp2_with fail
      (with_reducible refine hc1.mono ?_)
      rintro e w3 ⟨A3, n3, c3, rfl, d3, b3⟩
      have hc2 := of_c A2 m2 c2 _ w3 (d2.on b3) hm2'
      have l3 := bel2 low0 b3
      clear hc1 d2 b3 low0
      go_wp2_with fail
      (with_reducible refine hc2.mono ?_)
      rintro e w4 ⟨A4, n4, c4, rfl, d4, b4⟩
      have d3' := d3.rr.on b4
      have d4' := d4.rr
      have l4 := bel2 l3 b4
      have k3 : n3 ≤ 100000 := by have := d3.len; have := len_of E1; omega
      have k4 : n4 ≤ 100000 := by have := d4.len; have := len_of E2; omega
      clear hc2 d3 d4 b4 l3
      generalize ofD E1 = D1 at *
      generalize ofD E2 = D2 at *
      go_wp2_with fail
      go_loopw [52] (fun i wr => ∃ j : Nat, j ≤ 64 ∧ i = .int .u8 j ∧ Below w4.heap.size w4 wr) (fun i _ => 64 - (intOf i).toNat)
      case atStart => exact ⟨0, by omega, rfl, Below.refl _ _⟩
      case round =>
        obtain ⟨i, hi, rfl, hbl⟩ := hrel
        by_cases hlt2 : i < 64
        · have hlt3 : (i : Int) < 64 := by omega
          have hg1 := sget_c b m G s K (i : Int) wr ((hsr.on l4).on hbl)
          have e1 := S1.out (i : Int)
          obtain ⟨X, hX⟩ : ∃ X, getD s.led (i : Int) = X := ⟨_, rfl⟩
          rw [hX] at hg1 e1
          have HX := Lib.hid hX
          clear hX
          go_wp2_with fail
          (with_reducible refine hg1.mono ?_)
          rintro e w5 ⟨rfl, b5⟩
          have l5 := bel2 hbl b5
          have hg2 := getR_c A3 n3 c3 (i : Int) D1 w5 (d3'.on l5) k3
          rw [← e1] at hg2
          clear hg1 e1
          go_wp2_with fail
          (with_reducible refine hg2.mono ?_)
          rintro e w6 ⟨rfl, b6⟩
          have l6 := bel2 l5 b6
          clear hg2 b6 l5 b5
          cases q with
          | false =>
            go_wp2_with fail
            go_roundw
            case rel => exact ⟨i + 1, by omega, by go_num, l6⟩
            case measure => simp [intOf]; omega
          | true =>
            have hg1 := sget_c b m G s K (i : Int) w6 ((hsr.on l4).on l6)
            have e2 := S2.out rfl (i : Int)
            rw [HX.out] at hg1 e2
            go_wp2_with fail
            (with_reducible refine hg1.mono ?_)
            rintro e w7 ⟨rfl, b7⟩
            have l7 := bel2 l6 b7
            have hg2 := getR_c A4 n4 c4 (i : Int) D2 w7 (d4'.on l7) k4
            rw [← e2] at hg2
            clear hg1 e2 b7 l6
            go_wp2_with fail
            (with_reducible refine hg2.mono ?_)
            rintro e w8 ⟨rfl, b8⟩
            have l8 := bel2 l7 b8
            clear hg2 b8 l7
            go_wp2_with fail
            go_roundw
            case rel => exact ⟨i + 1, by omega, by go_num, l8⟩
            case measure => simp [intOf]; omega
        · obtain rfl : i = 64 := by omega
          have hlt3 : ¬ ((64 : Nat) : Int) < 64 := by omega
          go_wp2_with fail
          go_ret
          exact ⟨rfl, bel2 (bel2 hlow l4) hbl⟩
end Go.Proofs.Ytealcccjnmfkcaa
