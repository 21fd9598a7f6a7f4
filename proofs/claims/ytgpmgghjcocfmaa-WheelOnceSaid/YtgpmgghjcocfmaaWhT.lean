/-
  The law WheelStops: its walk. Condition: the timers can be read.
-/
import Derived.Test.YtgpmgghjcocfmaaWhN
set_option linter.unusedVariables false
set_option linter.unusedSimpArgs false
namespace Go.Proofs.Ytgpmgghjcocfmaa
open Go.RowKit

theorem stop_list {now : Int} {L : List (Int × Int)} {id : Int} (h : RightP now L) : sStop now L id = delL L id ∧ (eStop now L id = 0 ∨ eStop now L id = 7) := by
  have hR := rightB_iff.2 h
  unfold sStop eStop
  rw [hR]
  cases hh : hasL L id with
  | true => simp
  | false => simp [del_no hh]
theorem fr_del (L : List (Int × Int)) (id m : Int) : fr (delL L id) m = delL (fr L m) id := by
  unfold fr delL
  rw [List.filter_filter, List.filter_filter]
  congr 1
  funext p
  exact Bool.and_comm _ _
theorem map_del (L : List (Int × Int)) (id : Int) : (delL L id).map (·.1) = (L.map (·.1)).filter (fun x => x != id) := by
  unfold delL
  rw [List.filter_map]
  rfl

set_option maxRecDepth 100000 in
set_option maxHeartbeats 4000000 in
theorem stops_walk (now : Int) (A : Option Addr) (n c : Nat) (id : Int) (q : Nat) (L : List (Int × Int)) (w : World) (h : TR w A n c L) (hq : q < 65536) :
    Calls Try.prog 9 #[.agg #[.int .i64 now, .slice A n c], .int .i64 id, .int .u16 q] w fun e w' => e = .returned (.bool true) ∧ Below w.heap.size w w' := by
  obtain ⟨W, hW, bx, hb0⟩ := boxed w 24 now A n c
  have HW := Lib.hid hW
  clear hW
  have hT0 := h.on hb0
  have hlen := h.len
  clear h
  go_enter Try.func9, Try.ntmps9
  go_wp2_with fail
  rw [HW.out]
  refine (alive_c W).mono ?_
  rintro e w1 ⟨rfl, k1⟩
  have bx1 := bx.on k1 bx.lt
  have h1 := hT0.on k1
  have hb1 := bel2 hb0 k1
  clear bx hT0 hb0 k1 HW
  obtain ⟨d0, d1⟩ := bx1.cells
  by_cases hbig : (100 : Int) < (n : Int)
  · go_wp2_with fail
    go_ret
    exact ⟨rfl, hb1⟩
  have hn : n ≤ 100000 := by omega
  have hr := right_r now A n c L w1 h1 hn
  cases hR : rightB now L with
  | false =>
    rw [hR] at hr
    clear hR
    go_wp2_with fail
    refine hr.mono ?_
    rintro e w2 ⟨rfl, k2⟩
    have hb2 := bel2 hb1 k2
    clear hr d0 d1
    go_wp2_with fail
    go_ret
    exact ⟨rfl, hb2⟩
  | true =>
    rw [hR] at hr
    have HR := Lib.hid (rightB_iff.1 hR)
    clear hR
    go_wp2_with fail
    refine hr.mono ?_
    rintro e w2 ⟨rfl, k2⟩
    have bx2 := bx1.on k2 bx1.lt
    have h2 := h1.on k2
    have hb2 := bel2 hb1 k2
    clear hr d0 d1 bx1 h1 hb1 k2
    obtain ⟨d0, d1⟩ := bx2.cells
    by_cases hfar : (549755813888 : Int) < now
    · go_wp2_with fail
      go_ret
      exact ⟨rfl, hb2⟩
    have hn0 := HR.out.2.1
    obtain ⟨M, hM⟩ : ∃ M, delL L id = M := ⟨_, rfl⟩
    have hst := stop_list (id := id) HR.out
    rw [hM] at hst
    obtain ⟨E, hE⟩ : ∃ E, eStop now L id = E := ⟨_, rfl⟩
    rw [hE] at hst
    have hRM : RightP now M := by rw [← hM]; exact right_sub HR.out (del_sub L id)
    have t1 : eTick now M q = 0 := eTick_ok.2 ⟨hRM, by omega, by simp only [lastT]; omega⟩
    have u1 : eTick now L q = 0 := eTick_ok.2 ⟨HR.out, by omega, by simp only [lastT]; omega⟩
    obtain ⟨lb, hlb⟩ : ∃ l, rTick now L q = l := ⟨_, rfl⟩
    have t2 : rTick now M q = lb.filter (fun x => x != id) := by
      rw [← hlb]
      unfold rTick
      rw [if_pos t1, if_pos u1, ← hM, fr_del, map_del]
    have hMl : M.length ≤ n := by rw [← hM, ← hlen]; exact (del_sub L id).length_le
    have hcv : IntKind.i64.wrap (q : Int) = (q : Int) := IntWalk.i64_in _ (by omega)
    clear hRM hM
    go_wp2_with fail
    refine (theirs_c now A n c L w2 h2 hn).mono ?_
    rintro e w3 ⟨A3, n3, c3, rfl, hx3, k3⟩
    have bx3 := bx2.on k3 bx2.lt
    have h3 := h2.on k3
    have hb3 := bel2 hb2 k3
    have hn3 : n3 ≤ 100000 := by have := hx3.len; omega
    clear d0 d1 bx2 h2 hb2 k3
    have hs := stop_w now A3 n3 c3 id L w3 hx3.tr hn3
    rw [hst.1, hE] at hs
    go_wp2_with fail
    refine hs.mono ?_
    rintro e w4 ⟨A4, n4, c4, rfl, hx4, k4⟩
    have bx4 := bx3.on k4 bx3.lt
    have h4 := h3.on k4
    have hb4 := bel2 hb3 k4
    have hn4 : n4 ≤ 100000 := by have := hx4.len; omega
    clear bx3 h3 hb3 k4 hs hx3
    go_wp2_with fail
    obtain ⟨W4, hW4, bo, kW4⟩ := boxed w4 28 now A4 n4 c4
    rw [hW4]
    have bx5 := bx4.on kW4 bx4.lt
    have h5 := h4.on kW4
    have hx5 := hx4.on kW4
    have hb5 := bel2 hb4 kW4
    clear hW4 bx4 h4 hx4 hb4 kW4
    generalize w4.heap.size = b4 at *
    have htk := tick_w now A4 n4 c4 q M W4 hx5.tr hn4
    rw [t1, t2] at htk
    refine htk.mono ?_
    rintro e w6 ⟨A6, n6, c6, B6, m6, s6, rfl, hx6, hi6, k6⟩
    have bx6 := bx5.on k6 bx5.lt
    have h6 := h5.on k6
    have hb6 := bel2 hb5 k6
    have hlt6 := bx6.lt
    clear bx5 h5 hx5 hb5 k6 htk hx6
    obtain ⟨W6, hW6, _, kW6⟩ := boxed w6 28 (nTick now M q) A6 n6 c6
    have HW6 := Lib.hid hW6
    have bx7 := bx6.on kW6 bx6.lt
    have h7 := h6.on kW6
    have hi7 := hi6.on kW6
    have hb7 := bel2 hb6 kW6
    obtain ⟨d0, d1⟩ := bx6.cells
    clear hW6 h6 hi6 hb6 kW6 bx6
    go_wp2_with fail
    rw [HW6.out]
    clear d0 d1 hlt6 HW6
    refine (theirs_c now A n c L W6 h7 hn).mono ?_
    rintro e w8 ⟨A8, n8, c8, rfl, hx8, k8⟩
    have hi8 := hi7.on k8
    have hb8 := bel2 hb7 k8
    have hn8 : n8 ≤ 100000 := by have := hx8.len; omega
    clear bx7 h7 hi7 hb7 k8
    have htk := tick_w now A8 n8 c8 q L w8 hx8.tr hn8
    rw [u1, hlb] at htk
    go_wp2_with fail
    refine htk.mono ?_
    rintro e w9 ⟨A9, n9, c9, B9, m9, s9, rfl, hx9, hi9, k9⟩
    have hi10 := hi8.on k9
    have hb9 := bel2 hb8 k9
    clear htk hx8 hb8 k9 hi8 hx9
    obtain ⟨V, hV, _, kV⟩ := boxed w9 28 (nTick now L q) A9 n9 c9
    have HV := Lib.hid hV
    have hiV := hi9.on kV
    have hjV := hi10.on kV
    have hbV := bel2 hb9 kV
    clear hV hi9 hi10 hb9 kV
    obtain ⟨i0, hi0, hz0, hz1, hz2⟩ := info_parts Try.infoI
    have hml := Lib.hid hiV.len
    have hm9 : m9 ≤ n := by
      have h1 := hml.out
      have h2 := fr_le (L := L) (m := now + (q : Int))
      rw [← hlb] at h1
      unfold rTick at h1
      rw [if_pos u1, List.length_map] at h1
      omega
    clear u1 t1 t2 hlb
    go_wp2_with fail
    rw [HV.out]
    clear HV
    go_loopw [15, 60] (fun v i wr => ∃ j : Nat, j ≤ m9 ∧ i = .int .i64 j ∧ OS V 3 1 (ic ((lb.take j).filter (fun x => x != id))) v wr) (fun _ i _ => m9 - (intOf i).toNat)
    case atStart => exact ⟨0, by omega, rfl, OS.start V _ _ (Below.refl _ _)⟩
    case round =>
      obtain ⟨j, hj, rfl, hos⟩ := hrel
      have hlow := hos.low
      by_cases hlt : j < m9
      · obtain ⟨g, off, rfl, e1⟩ := (hiV.on hlow).at_ hlt
        have htk := Lib.hid (show lb.take (j + 1) = lb.take j ++ [lb[j]?.getD 0] by
          rw [List.take_succ_eq_append_getElem (by rw [hml.out]; exact hlt), List.getElem?_eq_getElem (by rw [hml.out]; exact hlt)]
          rfl)
        have hfl : ((lb.take j).filter (fun x => x != id)).length ≤ j := by have := List.length_filter_le (fun x => x != id) (lb.take j); rw [List.length_take] at this; omega
        obtain ⟨A0, m, c0, G, rfl, hsg, hG⟩ := hos.out
        have hm : m ≤ j := by have h2 := hsg.1; rw [ic, List.length_map] at h2; omega
        generalize lb[j]?.getD 0 = x at *
        by_cases hx : x = id
        · have hne : (x != id) = false := by simp [hx]
          have Hnx := Lib.hid (show (lb.take (j + 1)).filter (fun x => x != id) = (lb.take j).filter (fun x => x != id) by rw [htk.out]; simp [hx])
          have Hos := Lib.hid hos
          clear hx hos hsg hG hfl
          go_wp2_with fail
          go_roundw
          case rel => exact ⟨j + 1, by omega, by go_num, by rw [Hnx.out]; exact Hos.out⟩
          case measure => simp [intOf]; omega
        · have hne : (x != id) = true := by simp [hx]
          have Hnx := Lib.hid (show (lb.take (j + 1)).filter (fun x => x != id) = (lb.take j).filter (fun x => x != id) ++ [x] by rw [htk.out]; simp [hx])
          have p0 : 0 < 1 := by omega
          have p3 : m + 1 ≤ maxLen := by simp only [maxLen]; omega
          have p4 : (m + 1) * 8 ≤ 140737488355328 := by omega
          have hl7 := Lib.hid (hlow.alloc hlow.size (.cells #[.int .i64 x] 3))
          clear hx hos hfl hlow
          generalize (lb.take j).filter (fun x => x != id) = Z at *
          go_wp2_with (at_builtin; refine wpList_append_seg _ rfl (.tmp 67) (.tmp 69) _ rfl 3 i0 _ 1 8 Try.underlying37 hi0 hz0 hz1 hz2 rfl p0 rfl (hsg.alloc _) ⟨wr.heap.size, 0, none⟩ 1 1 [.int .i64 x] rfl rfl (cell_one_at _ _ _ _ rfl) (by simp [Value.oneCell']) p0 p3 p4 ?_; intro A1 c1 G1 w7 n1 m1 r1)
          rw [ic_snoc] at n1
          have hnext := Lib.hid (OS.app hl7.out hG n1 m1 r1)
          clear hsg n1 m1 r1 hl7
          go_wp2_with fail
          go_roundw
          case rel => exact ⟨j + 1, by omega, by go_num, by rw [Hnx.out]; exact hnext.out⟩
          case measure => simp [intOf]; omega
      · obtain rfl : j = m9 := by omega
        have hte : lb.take j = lb := List.take_of_length_le (by rw [hml.out]; exact Nat.le_refl _)
        rw [hte] at hos
        obtain ⟨A0, m, c0, G, rfl, hsg, hG⟩ := hos.out
        have hsm := same_i _ _ _ _ _ _ _ wr (hjV.on hlow) ⟨G, hsg⟩
        have hbR := bel2 hbV hlow
        clear hos hsg hG hte hlow
        rcases hst.2 with rfl | rfl
        · go_wp2_with fail
          refine hsm.mono ?_
          rintro e wz ⟨rfl, kz⟩
          have hbz := bel2 hbR kz
          clear hsm
          go_wp2_with fail
          go_ret
          exact ⟨rfl, hbz⟩
        · go_wp2_with fail
          refine hsm.mono ?_
          rintro e wz ⟨rfl, kz⟩
          have hbz := bel2 hbR kz
          clear hsm
          go_wp2_with fail
          go_ret
          exact ⟨rfl, hbz⟩
end Go.Proofs.Ytgpmgghjcocfmaa
