/-
  The walk of SiteLogs: it returns true. Condition: the calls can be read, their numbers such as their types hold.
-/
import Derived.Test.YtealcccjnmfkcaaSiJ
import Derived.RegionTactic
set_option linter.unusedVariables false
set_option linter.unusedSimpArgs false
namespace Go.Proofs.Ytealcccjnmfkcaa
open Go.RowKit

set_option maxRecDepth 100000 in
set_option maxHeartbeats 4000000 in
theorem logs_walk (A : Option Addr) (n c : Nat) (L : List Rc) (w : World) (h : KR w A n c L) (hr : ∀ r ∈ L, RcOk r) :
    Calls Try.prog 11 #[.slice A n c] w fun e w' => e = .returned (.bool true) ∧ Below w.heap.size w w' := by
  have hlen := Lib.hid h.len
  have hmx : n ≤ maxLen := Nat.le_trans h.cap h.max
  simp only [maxLen] at hmx
  obtain ⟨i0, hi0, hz0, hz1, hz2⟩ := info_parts Try.infoK
  have Hi := Lib.hid hi0
  have Hz := Lib.hid hz0
  have Hz1 := Lib.hid hz1
  have Hz2 := Lib.hid hz2
  clear hi0 hz0 hz1 hz2
  have p03 : 0 < 4 := by omega
  go_enter Try.func11, Try.ntmps11
  go_wp2_with fail
  (with_reducible refine (alive_c w).mono ?_)
  rintro e w1 ⟨rfl, b1⟩
  go_wp2_with fail
  (with_reducible refine (new_c w1).mono ?_)
  rintro e w2 ⟨b, m, rfl, h1, h2, h3⟩
  have hB : w.heap.size ≤ w2.heap.size := Nat.le_trans b1.size h2.size
  have hst : ST w1.heap.size w1 w2 (fun _ => False) b m none si0 [] := ⟨h1, h3, h2, fun R hR => hR.elim⟩
  have hw1 := h.on b1
  have HB1 := Lib.hid b1
  clear h1 h2 h3 b1 h
  go_wp2_with fail
  go_loopw [4, 5] (fun v i wr => ∃ (j : Nat) (G : Option Nat) (A2 : Option Addr) (n2 c2 : Nat) (G2 : Option Nat), j ≤ n ∧ j ≤ 120 ∧ i = .int .i64 j ∧ v = .slice A2 n2 c2 ∧ Seg wr 35 4 A2 n2 c2 (rc kc (logs si0 (L.take j))) G2 ∧ (∀ g, G2 = some g → w1.heap.size ≤ g) ∧ ST w1.heap.size w1 wr (fun x => G2 = some x) b m G (plays si0 (L.take j)) (logs si0 (L.take j))) (fun _ i _ => n - (intOf i).toNat)
  case atStart => exact ⟨0, none, none, 0, 0, none, by omega, by omega, rfl, rfl, Seg.nil _ _ _, fun g e => (by cases e), ⟨hst.sr, hst.hi, hst.low, fun R e => (by cases e)⟩⟩
  case round =>
    clear hst hB
    obtain ⟨j, G, A2, n2, c2, G2, hj, hj2, rfl, rfl, hsg, hg2, hst⟩ := hrel
    have hl2 := logs_len si0 (L.take j)
    rw [List.length_take] at hl2
    have hl3 : (logs si0 (L.take j)).length ≤ 120 := by omega
    have hn2 := rc_len (L := logs si0 (L.take j)) hsg
    by_cases hlt : j < n
    · by_cases hl4 : j < 120
      · have hlt1 : (j : Int) < (n : Int) := by omega
        have hl5 : (j : Int) < 120 := by omega
        have hjl : j < L.length := by rw [hlen.out]; exact hlt
        obtain ⟨g, off, rfl, d0, d1, d2, d3⟩ := (hw1.on hst.low).at4 hlt
        have hpl := Lib.hid (plays_take hjl)
        have hlg := Lib.hid (logs_take hjl)
        have hok := hr _ (tkR_mem hjl)
        generalize tkR L j = x at *
        generalize hS : plays si0 (L.take j) = S at *
        generalize hK : logs si0 (L.take j) = K at *
        clear hS hK
        obtain ⟨V, hV⟩ : ∃ V, wr.alloc (.cells (kcs x) 35) = V := ⟨_, rfl⟩
        have bV : Below wr.heap.size wr V := by rw [← hV]; exact belA _ _
        have rV : CB V wr.heap.size 35 (kcs x) := by rw [← hV]; exact CB.new _ _ _
        have sV := hst.add (R := wr.heap.size) bV (Nat.le_refl _) rV.lt
        have gV := hsg.on bV
        have hlr := Lib.hid hsg.lt
        have HV := Lib.hid hV
        have hdo := do_c b m G S K x V sV.sr hok (by omega)
        have SV := Lib.hid sV
        have Hg2 := Lib.hid hg2
        obtain ⟨r0, r1, r2, r3⟩ := rec_cells rV
        clear hV hst hsg sV bV hg2
        go_upto_region 11 with fail
        rw [HV.out]
        go_wp2_with fail
        (with_reducible refine hdo.mono ?_)
        intro e w3 hp
        obtain ⟨rfl, G', ht, hk, _, hsz⟩ := SV.out.done hp (Nat.le_refl _)
        have r3W := rV.same (hk _ (.inr rfl))
        have g3W := gV.keep (fun g e => hk g (.inl e))
        rw [← hpl.out, ← hlg.out] at ht
        have Ht := Lib.hid ht
        clear hp ht hdo d0 d1 d2 d3 r0 r1 r2 r3 rV gV SV hk
        obtain ⟨r0, r1, r2, r3⟩ := rec_cells r3W
        by_cases he : eDo S x = 0
        · have he1 : (eDo S x == 0) = true := by simp [he]
          rw [if_pos he] at hlg
          clear he
          have hsr : Src (w3.alloc (.cells #[.int .i64 x.kd, .int .i64 x.tx, .int .u8 x.ky, .int .i64 x.nn] 35)) 4 (some ⟨w3.heap.size, 0, none⟩) 1 [.int .i64 x.kd, .int .i64 x.tx, .int .u8 x.ky, .int .i64 x.nn] := Src.lit w3 35 [.int .i64 x.kd, .int .i64 x.tx, .int .u8 x.ky, .int .i64 x.nn] 4 1 w3.heap.size rfl rfl
          obtain ⟨p5, p6⟩ := app4 (n := n2) (by omega)
          have ho : ∀ u ∈ [Value.int .i64 x.kd, .int .i64 x.tx, .int .u8 x.ky, .int .i64 x.nn], u.oneCell' = true := kc_one x
          obtain ⟨N, hN⟩ : ∃ N, n2 + 1 = N := ⟨_, rfl⟩
          have HtX := Lib.hid (Ht.out.onw (belA w3 (.cells #[.int .i64 x.kd, .int .i64 x.tx, .int .u8 x.ky, .int .i64 x.nn] 35)))
          have HgT := Lib.hid (fun g (e : G2 = some g) => show ∃ cs, CB (w3.alloc (.cells #[.int .i64 x.kd, .int .i64 x.tx, .int .u8 x.ky, .int .i64 x.nn] 35)) g 35 cs from by subst e; exact seg_type (g3W.alloc _))
          have HN := Lib.hid hN
          clear r3W Ht hN
          go_wp2_with (at_builtin; refine wpList_append_src _ rfl (.tmp 38) (.tmp 40) _ rfl 35 i0 _ 4 32 Try.underlying49 Hi.out Hz.out Hz1.out Hz2.out rfl p03 rfl (g3W.alloc _) rfl hsr ho p5 p6 N HN.out ?_; intro A8 c8 G8 w8 hs8 hg8 hm8; refine Stay.mk ?_)
          refine Stay.open_ ?_
          rw [show rc kc K ++ [.int .i64 x.kd, .int .i64 x.tx, .int .u8 x.ky, .int .i64 x.nn] = rc kc (K ++ [x]) from rc_snoc K x, ← hlg.out] at hs8
          have Ht8 := Lib.hid (HtX.out.grown hg8 hm8 HgT.out (fun x e => .inl e) Hg2.out hs8.lt)
          have Hg8 := Lib.hid (hm8.ge HtX.out.low.size Hg2.out)
          clear hsr g3W hg8 hm8 HtX HgT r0 r1 r2 r3
          go_wp2_with fail
          go_roundw
          case rel => exact ⟨j + 1, G', A8, N, c8, G8, by omega, by omega, by go_num, rfl, hs8, Hg8.out, Ht8.out⟩
          case measure => simp [intOf]; omega
        · have he1 : (eDo S x == 0) = false := by simp [he]
          rw [if_neg he] at hlg
          have g4W : Seg w3 35 4 A2 n2 c2 (rc kc (logs si0 (L.take (j + 1)))) G2 := by rw [hlg.out]; exact g3W
          have Ht4 := Lib.hid (Ht.out.less (Rs' := fun x => G2 = some x) (fun x hx => .inl hx))
          clear he g3W r3W
          go_wp2_with fail
          go_roundw
          case rel => exact ⟨j + 1, G', A2, n2, c2, G2, by omega, by omega, by go_num, rfl, g4W, Hg2.out, Ht4.out⟩
          case measure => simp [intOf]; omega
      · have hlt1 : (j : Int) < (n : Int) := by omega
        have hl5 : ¬ (j : Int) < 120 := by omega
        have hlo := slog_c b m G _ _ wr hst.sr (by omega)
        generalize hS : plays si0 (L.take j) = S at *
        generalize hK : logs si0 (L.take j) = K at *
        clear hS hK
        go_wp2_with fail
        (with_reducible refine hlo.mono ?_)
        rintro e w3 ⟨A3, n3, c3, rfl, k3, b3⟩
        have e3 : n3 = n2 := k3.len.symm.trans hn2
        subst e3
        have sg3 := RR.of_seg (hsg.on b3)
        have k3r := k3.rr
        have l3 := bel2 (hst.onw b3).low (Below.refl _ _)
        have hmx3 : n3 ≤ maxLen := Nat.le_trans k3r.cap k3r.max
        simp only [maxLen] at hmx3
        clear hlo hsg k3 b3 hst
        go_wp2_with fail
        go_loopw [51] (fun i wq => ∃ t : Nat, t ≤ n3 ∧ i = .int .i64 t ∧ Below w3.heap.size w3 wq) (fun i _ => n3 - (intOf i).toNat)
        case atStart => exact ⟨0, by omega, rfl, Below.refl _ _⟩
        case round =>
          obtain ⟨t, ht, rfl, hbl⟩ := hrel
          by_cases hlt2 : t < n3
          · have hlt3 : (t : Int) < (n3 : Int) := by omega
            obtain ⟨g, off, rfl, d0, d1, d2, d3⟩ := (k3r.on hbl).at4 hlt2
            obtain ⟨g', off', rfl, d4, d5, d6, d7⟩ := (sg3.on hbl).at4 hlt2
            generalize tkR K t = x at *
            go_wp2_with fail
            go_quiet (fail)
            go_wp2_with fail
            go_roundw
            case rel => exact ⟨t + 1, by omega, by go_num, belowN hbl _⟩
            case measure => simp [intOf]; omega
          · obtain rfl : t = n3 := by omega
            have hlt3 : ¬ (t : Int) < (t : Int) := by omega
            go_wp2_with fail
            go_ret
            exact ⟨rfl, bel2 HB1.out (bel2 l3 hbl)⟩
    · have hlt1 : ¬ (j : Int) < (n : Int) := by omega
      have hlo := slog_c b m G _ _ wr hst.sr (by omega)
      generalize hS : plays si0 (L.take j) = S at *
      generalize hK : logs si0 (L.take j) = K at *
      clear hS hK
      go_wp2_with fail
      (with_reducible refine hlo.mono ?_)
      rintro e w3 ⟨A3, n3, c3, rfl, k3, b3⟩
      have e3 : n3 = n2 := k3.len.symm.trans hn2
      subst e3
      have sg3 := RR.of_seg (hsg.on b3)
      have k3r := k3.rr
      have l3 := bel2 (hst.onw b3).low (Below.refl _ _)
      have hmx3 : n3 ≤ maxLen := Nat.le_trans k3r.cap k3r.max
      simp only [maxLen] at hmx3
      clear hlo hsg k3 b3 hst
      go_wp2_with fail
      go_loopw [51] (fun i wq => ∃ t : Nat, t ≤ n3 ∧ i = .int .i64 t ∧ Below w3.heap.size w3 wq) (fun i _ => n3 - (intOf i).toNat)
      case atStart => exact ⟨0, by omega, rfl, Below.refl _ _⟩
      case round =>
        obtain ⟨t, ht, rfl, hbl⟩ := hrel
        by_cases hlt2 : t < n3
        · have hlt3 : (t : Int) < (n3 : Int) := by omega
          obtain ⟨g, off, rfl, d0, d1, d2, d3⟩ := (k3r.on hbl).at4 hlt2
          obtain ⟨g', off', rfl, d4, d5, d6, d7⟩ := (sg3.on hbl).at4 hlt2
          generalize tkR K t = x at *
          go_wp2_with fail
          go_quiet (fail)
          go_wp2_with fail
          go_roundw
          case rel => exact ⟨t + 1, by omega, by go_num, belowN hbl _⟩
          case measure => simp [intOf]; omega
        · obtain rfl : t = n3 := by omega
          have hlt3 : ¬ (t : Int) < (t : Int) := by omega
          go_wp2_with fail
          go_ret
          exact ⟨rfl, bel2 HB1.out (bel2 l3 hbl)⟩
end Go.Proofs.Ytealcccjnmfkcaa
