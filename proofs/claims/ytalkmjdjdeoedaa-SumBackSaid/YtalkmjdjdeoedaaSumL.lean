/-
  The walk of the law SumBack: it returns true and leaves all memory that was there. Conditions: the slices can be read, the number is of 16 bits.
-/
import Derived.Test.YtalkmjdjdeoedaaSumK
namespace Go.Proofs.Ytalkmjdjdeoedaa
open Go.RowKit

theorem Seg.apart {w w' : World} {e e' : TypeId} {s s' : Nat} {A A' : Option Addr} {n n' c c' : Nat} {xs xs' : List Value} {G G' : Option Nat} (h : Seg w e s A n c xs G) (k : Seg w e' s' A' n' c' xs' G') (hne : e ≠ e') (hg : w.grownBy w' G') : Seg w' e s A n c xs G := by
  refine h.keep fun g hG => hg.block g (h.lt g hG) fun hg' => ?_
  rcases k.2.2.2 with ⟨_, _, hk⟩ | ⟨g', off, cur, _, hk, hb, _⟩
  · rw [hk] at hg'; cases hg'
  · rw [hk] at hg'
    cases hg'
    exact h.ne_ hb hne hG

/-- The ends of frames that stand one behind the other. -/
def endc (ms : List (List UInt8)) : List Value := (List.range ms.length).map fun k => .int .i64 ((frs (ms.take (k + 1))).length : Int)
theorem endc_snoc (ms : List (List UInt8)) (l : List UInt8) : endc (ms ++ [l]) = endc ms ++ [.int .i64 ((frs (ms ++ [l])).length : Int)] := by
  unfold endc
  rw [List.length_append, List.length_singleton, List.range_succ, List.map_append]
  congr 1
  · refine List.map_congr_left fun k hk => ?_
    rw [List.mem_range] at hk
    rw [List.take_append_of_le_length (by omega)]
  · simp only [List.map_cons, List.map_nil]
    rw [List.take_of_length_le (by simp)]
theorem endc_get {ms : List (List UInt8)} {k : Nat} (h : k < ms.length) : (endc ms)[k]? = some (.int .i64 ((frs (ms.take (k + 1))).length : Int)) := by
  unfold endc
  rw [List.getElem?_map, List.getElem?_range h]
  rfl

theorem Try.infoN : (Try.prog.info? 3).map (fun i => (i.zero, i.size, i.bytes)) = some (some (.int .i64 0), 1, 8) := by kernel_rfl
theorem infoN_hid : ∃ i0, Hid (Try.prog.info? 3 = some i0) ∧ Hid (i0.zero = some (.int .i64 0)) ∧ Hid (i0.size = 1) ∧ Hid (i0.bytes = 8) := by
  obtain ⟨i0, hi0, hz0, hz1, hz2⟩ := info_parts Try.infoN
  exact ⟨i0, hi0, hz0, hz1, hz2⟩

/-- Where the loop that lays frames stands: ms were taken, all is their frames, had they themselves, ends their ends. -/
structure BI (w : World) (i m : Nat) (ms : List (List UInt8)) (A5 : Option Addr) (n5 c5 : Nat) (G5 : Option Nat) (A6 : Option Addr) (c6 : Nat) (cells : List Value) (G6 : Option Nat) (A7 : Option Addr) (c7 : Nat) (G7 : Option Nat) (wr : World) : Prop where
  sa : Seg wr 5 1 A5 n5 c5 (bc (frs ms)) G5
  sh : Seg wr 22 1 A6 m c6 cells G6
  se : Seg wr 3 1 A7 m c7 (endc ms) G7
  na : ∀ g, G5 = some g → w.heap.size ≤ g
  nh : ∀ g, G6 = some g → w.heap.size ≤ g
  ne : ∀ g, G7 = some g → w.heap.size ≤ g
  lc : LC wr w.heap.size cells ms
  len : ms.length = m
  few : ∀ l ∈ ms, l.length ≤ 300
  bl : Below w.heap.size w wr
  room : n5 ≤ 307 * i
  mi : m ≤ i
theorem BI.skip {w : World} {i m : Nat} {ms : List (List UInt8)} {A5 : Option Addr} {n5 c5 : Nat} {G5 : Option Nat} {A6 : Option Addr} {c6 : Nat} {cells : List Value} {G6 : Option Nat} {A7 : Option Addr} {c7 : Nat} {G7 : Option Nat} {wr : World}
    (h : BI w i m ms A5 n5 c5 G5 A6 c6 cells G6 A7 c7 G7 wr) : BI w (i + 1) m ms A5 n5 c5 G5 A6 c6 cells G6 A7 c7 G7 wr :=
  ⟨h.sa, h.sh, h.se, h.na, h.nh, h.ne, h.lc, h.len, h.few, h.bl, by have := h.room; omega, by have := h.mi; omega⟩

theorem BI.next {w : World} {i m : Nat} {ms : List (List UInt8)} {A5 : Option Addr} {n5 c5 : Nat} {G5 : Option Nat} {A6 : Option Addr} {c6 : Nat} {cells : List Value} {G6 : Option Nat} {A7 : Option Addr} {c7 : Nat} {G7 : Option Nat} {wr w5 : World}
    (h : BI w i m ms A5 n5 c5 G5 A6 c6 cells G6 A7 c7 G7 wr) {Ai : Option Addr} {ni ci : Nat} {l : List UInt8} (hbl : BR wr w.heap.size Ai ni ci l) (h3 : ni ≤ 300) (hb5 : Below w.heap.size w w5)
    {A3 A4 A8 : Option Addr} {c3 c4 c8 : Nat} {G3 G4 G8 : Option Nat} (sa : Seg w5 5 1 A3 (n5 + (ni + 7)) c3 (bc (frs ms) ++ bc (frameB l)) G3) (sh : Seg w5 22 1 A4 (m + 1) c4 (cells ++ [.slice Ai ni ci]) G4) (se : Seg w5 3 1 A8 (m + 1) c8 (endc ms ++ [.int .i64 ((n5 : Int) + ((ni : Int) + 7))]) G8)
    (na : ∀ g, G3 = some g → w.heap.size ≤ g) (nh : ∀ g, G4 = some g → w.heap.size ≤ g) (ne : ∀ g, G8 = some g → w.heap.size ≤ g) : BI w (i + 1) (m + 1) (ms ++ [l]) A3 (n5 + (ni + 7)) c3 G3 A4 c4 (cells ++ [.slice Ai ni ci]) G4 A8 c8 G8 w5 := by
  have hk : ∀ g, g < w.heap.size → w5.heap[g]? = wr.heap[g]? := fun g hg => (hb5.block g hg).trans (h.bl.block g hg).symm
  have hl := sa.1
  rw [← bc_append, ← frs_snoc, bc_length, Nat.mul_one] at hl
  refine ⟨by rw [frs_snoc, bc_append]; exact sa, sh, ?_, na, nh, ne, (h.lc.keep hk).snoc (hbl.keep hk), by rw [List.length_append, h.len]; rfl, fun x hx => ?_, hb5, by have := h.room; omega, by have := h.mi; omega⟩
  · rw [endc_snoc, hl, show ((n5 + (ni + 7) : Nat) : Int) = (n5 : Int) + ((ni : Int) + 7) by omega]
    exact se
  · rcases List.mem_append.1 hx with hx | hx
    · exact h.few x hx
    · simp at hx; subst hx; have := hbl.1; omega

theorem u8_ne_sl : 5 ≠ 22 := by decide
theorem u8_ne_int : 5 ≠ 3 := by decide
theorem sl_ne_int : 22 ≠ 3 := by decide

set_option maxRecDepth 100000 in
set_option maxHeartbeats 4000000 in
theorem back_walk (A : Option Addr) (n c : Nat) (ls : List (List UInt8)) (cut : Nat) (w : World) (hl : LR w w.heap.size A n c ls) (hcut : cut < 65536) :
    Calls Try.prog 5 #[.slice A n c, .int .u16 cut] w fun e w' => e = .returned (.bool true) ∧ Below w.heap.size w w' := by
  have hnm := hl.max
  obtain ⟨i0, Hi, Hz, Hz1, Hz2⟩ := info_hid
  obtain ⟨i1, Ki, Kz, Kz1, Kz2⟩ := infoS_hid
  obtain ⟨i2, Li, Lz, Lz1, Lz2⟩ := infoN_hid
  have p4 : 0 < 1 := by omega
  go_enter Try.func5, Try.ntmps5
  go_wp2_with fail
  refine (alive_c _).mono ?_
  rintro e w1 ⟨rfl, hb1⟩
  have HJ : BI w 0 0 [] none 0 0 none none 0 [] none none 0 none w1 := ⟨Seg.nil _ _ _, Seg.nil _ _ _, Seg.nil _ _ _, fun g e => (by cases e), fun g e => (by cases e), fun g e => (by cases e), LC.nil _ _, rfl, fun l hl => (by simp at hl), hb1, Nat.zero_le _, Nat.le_refl _⟩
  clear hb1
  go_wp2_with fail
  go_loopw [5, 6, 7, 8] (fun a h en i wr => ∃ (i' m n5 c5 c6 c7 : Nat) (A5 A6 A7 : Option Addr) (G5 G6 G7 : Option Nat) (cells : List Value) (ms : List (List UInt8)), i = .int .i64 i' ∧ a = .slice A5 n5 c5 ∧ h = .slice A6 m c6 ∧ en = .slice A7 m c7 ∧ i' ≤ 20 ∧ BI w i' m ms A5 n5 c5 G5 A6 c6 cells G6 A7 c7 G7 wr) (fun _ _ _ i _ => 20 - (intOf i).toNat)
  case atStart => exact ⟨0, 0, 0, 0, 0, 0, none, none, none, none, none, none, [], [], rfl, rfl, rfl, rfl, by omega, HJ⟩
  case round =>
    clear HJ
    obtain ⟨i', m, n5, c5, c6, c7, A5, A6, A7, G5, G6, G7, cells, ms, rfl, rfl, rfl, rfl, hi20, HJ⟩ := hrel
    have hroom := HJ.room
    have hmi := HJ.mi
    by_cases hgo : i' < n ∧ i' < 20
    · obtain ⟨hlt, hlt2⟩ := hgo
      obtain ⟨g, off, Ai, ni, ci, l, rfl, Hl, cl, hbl⟩ := (hl.below HJ.bl (Nat.le_refl _)).at_ hlt
      have hni := hbl.max
      by_cases h3 : (300 : Int) < (ni : Int)
      · have HK := Lib.hid HJ.skip
        clear HJ
        go_wp2_with fail
        go_roundw
        case rel => exact ⟨i' + 1, m, n5, c5, c6, c7, A5, A6, A7, G5, G6, G7, cells, ms, by go_num, rfl, rfl, rfl, by omega, HK.out⟩
        case measure => simp [intOf]; omega
      · go_wp2_with fail
        refine (frame_c Ai ni ci l wr (hbl.more HJ.bl.size)).mono ?_
        rintro e w2 ⟨A2, n2, c2, G2, rfl, hs2, hb2, _⟩
        obtain ⟨hE, hF⟩ := eF_ok (l := l) (by have := hbl.1; omega)
        rw [hF] at hs2
        rw [hE]
        obtain rfl : n2 = ni + 7 := by have := hs2.1; rw [bc_length, frameB_length, hbl.1] at this; omega
        have hb02 := HJ.bl.trans (hb2.mono HJ.bl.size)
        have hgw : g < w.heap.size := by
          obtain ⟨g', off', _, _, _, e1, e2, _⟩ := hl.2.2.2 i' l Hl.out
          cases e1
          exact e2
        have cl2 : w2.cell? ⟨g, off + i', none⟩ = some (.slice Ai ni ci) := (hb2.cell (p := ⟨g, off + i', none⟩) (by have := HJ.bl.size; simp only; omega)).trans cl
        have hne7 : (((ni + 7 : Nat) : Int) != (ni : Int) + 7) = false := by rw [bne_eq_false_iff_eq]; omega
        have sa2 := HJ.sa.below hb2 (Nat.le_refl _)
        have sh2 := HJ.sh.below hb2 (Nat.le_refl _)
        have se2 := HJ.se.below hb2 (Nat.le_refl _)
        have hsrc := hs2.src
        have p1 : n5 + (ni + 7) ≤ maxLen := by simp only [maxLen]; omega
        have p2 : (n5 + (ni + 7)) * 1 ≤ 140737488355328 := by omega
        have q1 : m + 1 ≤ maxLen := by simp only [maxLen]; omega
        have q2 : (m + 1) * 24 ≤ 140737488355328 := by omega
        have r2 : (m + 1) * 8 ≤ 140737488355328 := by omega
        have hna := HJ.na
        have hnh := HJ.nh
        have hne := HJ.ne
        have HN := Lib.hid (fun w5 A3 A4 A8 c3 c4 c8 G3 G4 G8 => HJ.next (w5 := w5) (A3 := A3) (A4 := A4) (A8 := A8) (c3 := c3) (c4 := c4) (c8 := c8) (G3 := G3) (G4 := G4) (G8 := G8) hbl (by omega))
        clear cl HJ hbl hs2 hE hF hb2
        go_wp2_with (first
          | (at_builtin; refine wpList_append_src _ rfl (.tmp 59) (.tmp 60) _ rfl 5 i0 _ 1 1 Try.underlying22 Hi.out Hz.out Hz1.out Hz2.out rfl p4 rfl sa2 rfl hsrc (bc_one _) p1 p2 ?_; intro A3 c3 G3 w3 sa3 hg3 hm3; have sh3 := sh2.apart sa2 u8_ne_sl.symm hg3; have se3 := se2.apart sa2 u8_ne_int.symm hg3; have hb3 := hb02.trans (grown_below hg3 hb02.size hna); have cl3 : w3.cell? ⟨g, off + i', none⟩ = some (.slice Ai ni ci) := ((grown_below hg3 hb02.size hna).cell (p := ⟨g, off + i', none⟩) hgw).trans cl2; have hn3 := hm3.ge hb02.size hna; clear cl2 sh2 se2 sa2 hsrc hg3 hm3 hb02 hna)
          | (at_builtin; refine wpList_append_src _ rfl (.tmp 62) (.tmp 67) _ rfl 22 i1 _ 1 24 Try.underlying36 Ki.out Kz.out Kz1.out Kz2.out rfl p4 rfl (sh3.alloc _) rfl (srcs w3 _ [.slice Ai ni ci]) (one_slice _ _ _) q1 q2 ?_; intro A4 c4 G4 w4 sh4 hg4 hm4; have sa4 := (sa3.alloc _).apart (sh3.alloc _) u8_ne_sl hg4; have se4 := (se3.alloc _).apart (sh3.alloc _) sl_ne_int.symm hg4; have hb3' := hb3.alloc hb3.size (.cells #[.slice Ai ni ci] 22); have hb4 := hb3'.trans (grown_below hg4 hb3'.size hnh); have hn4 := hm4.ge hb3'.size hnh; clear sa3 sh3 se3 hg4 hm4 hb3 hb3' hnh cl3)
          | (at_builtin; refine wpList_append_src _ rfl (.tmp 69) (.tmp 72) _ rfl 3 i2 _ 1 8 Try.underlying41 Li.out Lz.out Lz1.out Lz2.out rfl p4 rfl (se4.alloc _) rfl (srcs w4 _ [.int .i64 ((n5 : Int) + ((ni : Int) + 7))]) (one_one _ _) q1 r2 ?_; intro A8 c8 G8 w5 se5 hg5 hm5; have sa5 := (sa4.alloc _).apart (se4.alloc _) u8_ne_int hg5; have sh5 := (sh4.alloc _).apart (se4.alloc _) sl_ne_int hg5; have hb4' := hb4.alloc hb4.size (.cells #[.int .i64 ((n5 : Int) + ((ni : Int) + 7))] 3); have HK := Lib.hid (HN.out _ _ _ _ _ _ _ _ _ _ (hb4'.trans (grown_below hg5 hb4'.size hne)) sa5 sh5 se5 hn3 hn4 (hm5.ge hb4'.size hne)); clear sa4 sh4 se4 sa5 sh5 se5 hg5 hm5 hb4 hb4' hne hn3 hn4))
        go_roundw
        case rel => exact ⟨i' + 1, m + 1, n5 + (ni + 7), c3, c4, c8, A3, A4, A8, G3, G4, G8, cells ++ [.slice Ai ni ci], ms ++ [l], by go_num, rfl, rfl, rfl, by omega, HK.out⟩
        case measure => simp [intOf]; omega
    · have hcase : ¬ i' < n ∨ (i' < n ∧ ¬ (i' : Int) < 20) := by omega
      have hn6 : n5 ≤ 6140 := by omega
      have hm20 : m ≤ 20 := by omega
      have hlenF := HJ.sa.1
      rw [bc_length, Nat.mul_one] at hlenF
      have Hlen := Lib.hid hlenF
      have Hms := Lib.hid HJ.len
      have hj : cut % (n5 + 1) < n5 + 1 := Nat.mod_lt _ (by omega)
      generalize hJ : cut % (n5 + 1) = k at hj
      have hJi : (cut : Int) % ((n5 : Int) + 1) = (k : Int) := by rw [show (n5 : Int) + 1 = ((n5 + 1 : Nat) : Int) by omega, ← Int.natCast_emod, hJ]
      have hfew : ∀ l ∈ ms, l.length ≤ 4000 := fun l hl => by have := HJ.few l hl; omega
      have HC := Lib.hid (aC_cut ms k hfew)
      have HA := Lib.hid (aC_frs ms [] hfew)
      have HW := Lib.hid (wh_iff ms k)
      have hM := wh_le ms k
      have hMm : wh k ms ≤ m := by rw [← HJ.len]; exact hM
      obtain ⟨M, eM⟩ : ∃ M, wh k ms = M := ⟨_, rfl⟩
      rw [eM] at hMm HC HW
      have hse := HJ.se
      have hbx := BR.of_seg HJ.sa
      have hlx := LR.of_seg HJ.sh HJ.lc HJ.bl.size
      have hbr := HJ.bl
      clear hlenF HJ hgo hM eM hJ hfew
      rcases hcase with hc | ⟨hc, hc2⟩
      all_goals
        go_wp2_with fail
        go_loop [12, 13, 82] (fun wh en i => ∃ q p e : Nat, q ≤ m ∧ p ≤ q ∧ i = .int .i64 q ∧ wh = .int .i64 p ∧ en = .int .i64 e ∧ Hid (p = min q M) ∧ Hid (e = (frs (ms.take p)).length)) (fun _ _ i => m - (intOf i).toNat)
        case atStart => exact ⟨0, 0, 0, Nat.zero_le _, Nat.le_refl _, rfl, rfl, rfl, (Nat.zero_min _).symm, rfl⟩
        case round =>
          obtain ⟨q, p, e, hq, hpq, rfl, rfl, rfl, Hp, He⟩ := hrel
          by_cases hlt : q < m
          · obtain ⟨g, off, rfl, _, ce⟩ := hse.at_ (endc_get (ms := ms) (k := q) (by rw [Hms.out]; exact hlt))
            have HWq := Lib.hid (HW.out (q + 1) (by rw [Hms.out]; omega))
            obtain ⟨E, eE⟩ : ∃ E, (frs (ms.take (q + 1))).length = E := ⟨_, rfl⟩
            rw [eE] at ce HWq
            have HE := Lib.hid eE
            clear eE
            by_cases hle : (E : Int) ≤ (k : Int)
            · have hqM : q + 1 ≤ M := HWq.out.1 (by omega)
              have hpe : p = q := by have := Hp.out; omega
              subst hpe
              go_wp2_with fail
              go_round
              case rel => exact ⟨p + 1, p + 1, E, by omega, Nat.le_refl _, by go_num, by go_num, rfl, show _ = _ by omega, HE.out.symm⟩
              case measure => simp [intOf]; omega
            · have hqM : ¬ q + 1 ≤ M := fun h => hle (by have := HWq.out.2 h; omega)
              go_wp2_with fail
              go_round
              case rel => exact ⟨q + 1, p, e, by omega, by omega, by go_num, rfl, rfl, show _ = _ by have := Hp.out; omega, He.out⟩
              case measure => simp [intOf]; omega
          · obtain rfl : p = M := by have := Hp.out; omega
            obtain ⟨hcutk, hbk⟩ := cut_upto hbx k k rfl (by omega)
            go_wp2_with fail
            refine (all_c A5 k c5 _ wr hbk (by omega)).mono ?_
            rintro e' w3 ⟨A3, n3, c3, rfl, hl3, hb3⟩
            rw [HC.out.1] at hl3
            rw [HC.out.2, ← He.out]
            have hb03 := hbr.trans (hb3.mono hbr.size)
            have hbx3 := hbx.on hb3
            have hlx3 := hlx.on hb3
            have he6 : e ≤ 6140 := by
              have h1 := HC.out.2
              have h2 := aN_le _ ((frs ms).take k) (Nat.le_refl _)
              have h3 := Hlen.out
              rw [List.length_take] at h2
              have h4 := He.out
              omega
            clear hbk hb3 hbx hlx hbr hse
            go_wp2_with fail
            refine (all_c A5 n5 c5 _ w3 hbx3 (by omega)).mono ?_
            rintro e' w4 ⟨A4, n4, c4, rfl, hl4, hb4⟩
            have h0 : aC [] = [] ∧ aN [] = 0 := aC_no (by decide)
            have HA1 := HA.out.1
            have HA2 := HA.out.2
            rw [List.append_nil, h0.1, List.append_nil] at HA1
            rw [List.append_nil, h0.2, Nat.add_zero, Hlen.out] at HA2
            rw [HA1] at hl4
            rw [HA2]
            have hb04 := hb03.trans (hb4.mono hb03.size)
            have hl34 := hl3.on hb4
            have hlx4 := hlx3.on hb4
            obtain rfl : n4 = m := by rw [← hl4.1]; exact Hms.out
            obtain rfl : n3 = p := by rw [← hl3.1, List.length_take]; have := Hms.out; omega
            obtain ⟨hcutp, hlp⟩ := lcut_upto hlx4 n3 n3 rfl hMm
            clear hl3 hlx3 hb03 hb4 hbx3 HA1 HA2 h0 HA HC
            have k1 : ((e : Int) == (e : Int)) = true := beq_self_eq_true _
            have k2 : ((n5 : Int) == (n5 : Int)) = true := beq_self_eq_true _
            go_wp2_with (first
              | (go_at_call 19; (with_reducible refine (same_yes A3 A6 n3 c3 c6 _ _ hl34 hlp).mono ?_); rintro e5 w5 ⟨rfl, hb5⟩; have hl45 := hl4.on hb5; have hlx5 := hlx4.on hb5)
              | (go_at_call 19; (with_reducible refine (same_yes A4 A6 n4 c4 c6 _ _ hl45 hlx5).mono ?_); rintro e6 w6 ⟨rfl, hb6⟩))
            go_ret
            have hb05 := hb04.trans (hb5.mono hb04.size)
            exact ⟨rfl, hb05.trans (hb6.mono hb05.size)⟩
end Go.Proofs.Ytalkmjdjdeoedaa
