/-
  The document's Set for cells where there is room. Conditions: the lists read as the predicate RS says, by rising keys, and are not longer than ten thousand.
-/
import Derived.Test.YtopgnjnnijhpkaaCellX
namespace Go.Proofs.Ytopgnjnnijhpkaa
open Go.RowKit Go.Maps UI

/-- Behind j rounds of the loop in Set: has the new one been put, and what there is. -/
def SetM (L : List (Int × Int)) (k v : Int) (j : Nat) (b : Bool) (M : List (Int × Int)) : Prop :=
  (b = true ∧ M = putL (L.take j) k v ∧ ∃ p ∈ L.take j, k ≤ p.1) ∨ (b = false ∧ M = L.take j ∧ ∀ p ∈ L.take j, p.1 < k)

theorem SetM.len {L : List (Int × Int)} {k v : Int} {j : Nat} {b : Bool} {M : List (Int × Int)} (h : SetM L k v j b M) (hs : Srt L) : M.length ≤ j + 1 := by
  have h1 : (L.take j).length ≤ j := by rw [List.length_take]; omega
  rcases h with ⟨_, rfl, _⟩ | ⟨_, rfl, _⟩
  · rw [length_put (hs.take j)]
    split <;> omega
  · omega

theorem len_room {n j m : Nat} (h : n ≤ j + 1) (hj : j ≤ m) (hm : m ≤ 10000) : n + 1 ≤ maxLen ∧ (n + 1) * 16 ≤ 140737488355328 ∧ n + 1 + 1 ≤ maxLen ∧ (n + 1 + 1) * 16 ≤ 140737488355328 := by
  unfold maxLen
  omega

/-- find's answer, where Set goes on. -/
def QPost (room : Int) (L : List (Int × Int)) (w : World) (e : Ending) (w' : World) : Prop := ∃ ix : Int, e = .returned (.int .i64 ix) ∧ w = w' ∧ (ix < 0 → ¬ room ≤ L.length)
theorem find_set (a : Option Addr) (cap : Nat) (L : List (Int × Int)) (room k : Int) (w : World) (h : RS w a L.length cap L) (hm : L.length ≤ 10000) (hs : Srt L) (hr : hasL L k = true ∨ (L.length : Int) < room) :
    Calls Try.prog 34 #[.slice a L.length cap, .int .u8 k] w (QPost room L w) := by
  cases hg : getL L k with
  | none =>
    refine (find_no a cap L k w h hm hg).mono ?_
    rintro e w' ⟨rfl, rfl⟩
    refine ⟨-1, rfl, rfl, fun _ => ?_⟩
    rcases hr with hr | hr
    · rw [has_get, hg] at hr
      cases hr
    · omega
  | some u =>
    refine (find_yes a cap L k u w h hm hs hg).mono ?_
    rintro e w' ⟨i, hi, _, rfl, rfl⟩
    exact ⟨i, rfl, rfl, fun h => by omega⟩

set_option maxRecDepth 100000 in
set_option maxHeartbeats 2000000 in
theorem refSet_ok (a a2 : Option Addr) (cap n2 cap2 : Nat) (room : Int) (L : List (Int × Int)) (k vv : Int) (w : World) (h : RS w a L.length cap L) (hm : L.length ≤ 10000) (hs : Srt L) (hr : hasL L k = true ∨ (L.length : Int) < room) :
    Calls Try.prog 17 #[.agg #[.slice a L.length cap, .slice a2 n2 cap2, .int .i64 room], .int .u8 k, .int .i64 vv] w (RPost w (putL L k vv) a2 n2 cap2 room 0) := by
  have hst := DI.start w (.slice a L.length cap) (.slice a2 n2 cap2) (.int .i64 room)
  obtain ⟨W, hW⟩ : ∃ W, W = (w.alloc (.cells #[.slice a L.length cap, .slice a2 n2 cap2, .int .i64 room] 28)).alloc (.cells #[.slice none 0 0, .slice none 0 0, .int .i64 0] 28) := ⟨_, rfl⟩
  rw [← hW] at hst
  have HW := Lib.hid hW
  clear hW
  have hf := find_set a cap L room k W (h.keep hst.low) hm hs hr
  obtain ⟨i0, hi0, hz0, hz1, hz2⟩ := info_parts Try.infoR
  have c0 := hst.bx.cell 0
  have c2 := hst.bx.cell 2
  simp only [List.getElem?_toArray, List.getElem?_cons_succ, List.getElem?_cons_zero] at c0 c2
  have Hst := Lib.hid hst
  clear hr hst
  go_enter Try.func17, Try.ntmps17
  go_wp2_with fail
  rw [← HW.out]
  refine hf.mono ?_
  rintro e w' ⟨ix, rfl, rfl, himp⟩
  have hcase : (ix < 0 ∧ ¬ room ≤ L.length) ∨ ¬ ix < 0 := by
    by_cases hix : ix < 0
    · exact .inl ⟨hix, himp hix⟩
    · exact .inr hix
  clear himp hf HW
  rcases hcase with ⟨hx1, hx2⟩ | hx1
  all_goals
    go_wp2_with fail
    clear c0 c2
    go_loopw [8, 9, 10] (fun v d i wr => ∃ (j : Nat) (b : Bool) (M : List (Int × Int)), j ≤ L.length ∧ i = .int .i64 j ∧ d = .bool b ∧ DI w (.slice a L.length cap) (.slice a2 n2 cap2) (.int .i64 room) M v wr ∧ SetM L k vv j b M) (fun _ _ i _ => L.length - (intOf i).toNat)
    case atStart => exact ⟨0, false, [], by omega, rfl, rfl, Hst.out, .inr ⟨rfl, by simp, by simp⟩⟩
    case round =>
      clear Hst
      obtain ⟨j, b, M, hj, rfl, rfl, hdi, hsm⟩ := hrel
      obtain ⟨A, c, G, rfl, hsg, hG⟩ := hdi.out
      have c0 := hdi.bx.cell 0
      simp only [List.getElem?_toArray, List.getElem?_cons_zero] at c0
      have hln := hsm.len hs
      by_cases hlt : j < L.length
      · obtain ⟨g, off, rfl, y1, y2⟩ := (h.keep hdi.low).at_ hlt
        have hgl := h.lt
        have htk := take_kth hlt
        have hst1 := hs.take (j + 1)
        rw [htk] at hst1
        generalize kth L j = x at *
        obtain ⟨xk, xv⟩ := x
        simp only at y1 y2
        rcases hsm with ⟨rfl, hM, p, hp, hkp⟩ | ⟨rfl, hM, hall⟩
        · have hkx : k < xk := by
            have := (List.pairwise_append.1 hst1).2.2 p hp (xk, xv) (by simp)
            simp at this
            omega
          have Hnx : Hid (SetM L k vv (j + 1) true (M ++ [(xk, xv)])) := Lib.hid (.inl ⟨rfl, by rw [htk, put_behind hst1 hkx, hM], p, by rw [htk]; exact List.mem_append_left _ hp, hkp⟩)
          have hne : (xk != k) = true := by simp; omega
          have p0 : 0 < 1 := by omega
          have p02 : 0 < 2 := by omega
          obtain ⟨p3, p4, p5, p6⟩ := len_room hln hj hm
          clear htk hst1 hM hp hkp
          go_wp2_with (at_builtin; refine wpList_append_seg _ rfl (.tmp 58) (.tmp 64) _ rfl 77 i0 _ 2 16 Try.underlying26 hi0 hz0 hz1 hz2 rfl p02 rfl (hsg.alloc _) ⟨wr.heap.size, 0, none⟩ 1 1 [.int .u8 xk, .int .i64 xv] rfl rfl (cell_two_new _ _ _ _) (two_one _ _) p0 p3 p4 ?_; intro A1 c1 G1 w1 n1 m1 r1)
          have hnext := hdi.app hsg hG n1 m1 r1
          clear hdi hsg n1 m1 r1 y1 y2 c0
          go_wp2_with fail
          go_roundw
          case rel => exact ⟨j + 1, true, _, hlt, by go_num, rfl, hnext, Hnx.out⟩
          case measure => simp [intOf]; omega
        · by_cases hkx : k ≤ xk
          · by_cases hke : xk = k
            · have Hnx : Hid (SetM L k vv (j + 1) true (M ++ [(k, vv)])) := Lib.hid (.inl ⟨rfl, by rw [htk, hM, hke]; rw [hke] at hst1; exact (put_same hst1).symm, (xk, xv), by rw [htk]; simp, by simp; omega⟩)
              have hne : (xk != k) = false := by simp [hke]
              have p0 : 0 < 1 := by omega
              have p02 : 0 < 2 := by omega
              obtain ⟨p3, p4, p5, p6⟩ := len_room hln hj hm
              clear htk hst1 hM hall hke
              go_wp2_with (at_builtin; refine wpList_append_seg _ rfl (.tmp 44) (.tmp 48) _ rfl 77 i0 _ 2 16 Try.underlying26 hi0 hz0 hz1 hz2 rfl p02 rfl (hsg.alloc _) ⟨wr.heap.size, 0, none⟩ 1 1 [.int .u8 k, .int .i64 vv] rfl rfl (cell_two_new _ _ _ _) (two_one _ _) p0 p3 p4 ?_; intro A1 c1 G1 w1 n1 m1 r1; have hnext := hdi.app hsg hG n1 m1 r1; have c5 := hnext.bx.cell 0; simp only [List.getElem?_toArray, List.getElem?_cons_zero] at c5; have z1 := (hnext.low.cell (p := ⟨g, off + j * 2, none⟩) hgl).trans ((hdi.low.cell (p := ⟨g, off + j * 2, none⟩) hgl).symm.trans y1); have z2 := (hnext.low.cell (p := ⟨g, off + j * 2 + 1, none⟩) hgl).trans ((hdi.low.cell (p := ⟨g, off + j * 2 + 1, none⟩) hgl).symm.trans y2))
              clear hdi hsg n1 m1 r1 y1 y2 c0 z1 z2 c5
              go_roundw
              case rel => exact ⟨j + 1, true, _, hlt, by go_num, rfl, hnext, Hnx.out⟩
              case measure => simp [intOf]; omega
            · have hkl : k < xk := by omega
              have Hnx : Hid (SetM L k vv (j + 1) true (M ++ [(k, vv)] ++ [(xk, xv)])) := Lib.hid (.inl ⟨rfl, by rw [htk, hM]; rw [hM] at *; exact (put_two hst1 hall hkl).symm, (xk, xv), by rw [htk]; simp, by simp; omega⟩)
              have hne : (xk != k) = true := by simp [hke]
              have p0 : 0 < 1 := by omega
              have p02 : 0 < 2 := by omega
              obtain ⟨p3, p4, p5, p6⟩ := len_room hln hj hm
              clear htk hst1 hM hall hke
              go_wp2_with (first
                | (at_builtin; refine wpList_append_seg _ rfl (.tmp 44) (.tmp 48) _ rfl 77 i0 _ 2 16 Try.underlying26 hi0 hz0 hz1 hz2 rfl p02 rfl (hsg.alloc _) ⟨wr.heap.size, 0, none⟩ 1 1 [.int .u8 k, .int .i64 vv] rfl rfl (cell_two_new _ _ _ _) (two_one _ _) p0 p3 p4 ?_; intro A1 c1 G1 w1 n1 m1 r1; have hnext := hdi.app hsg hG n1 m1 r1; have c5 := hnext.bx.cell 0; simp only [List.getElem?_toArray, List.getElem?_cons_zero] at c5; have z1 := (hnext.low.cell (p := ⟨g, off + j * 2, none⟩) hgl).trans ((hdi.low.cell (p := ⟨g, off + j * 2, none⟩) hgl).symm.trans y1); have z2 := (hnext.low.cell (p := ⟨g, off + j * 2 + 1, none⟩) hgl).trans ((hdi.low.cell (p := ⟨g, off + j * 2 + 1, none⟩) hgl).symm.trans y2))
                | (at_builtin; refine wpList_append_seg _ rfl (.tmp 58) (.tmp 64) _ rfl 77 i0 _ 2 16 Try.underlying26 hi0 hz0 hz1 hz2 rfl p02 rfl (n1.alloc _) ⟨w1.heap.size, 0, none⟩ 1 1 [.int .u8 xk, .int .i64 xv] rfl rfl (cell_two_new _ _ _ _) (two_one _ _) p0 p5 p6 ?_; intro A3 c3 G3 w3 n3 m3 r3))
              have hz1' : w.heap.size ≤ wr.heap.size := hdi.low.size
              have n1' : Seg w1 77 2 A1 (M ++ [(k, vv)]).length c1 (cel (M ++ [(k, vv)])) G1 := by
                rw [← cel_snoc]
                simpa using n1
              have hnext2 := hnext.app n1' (appG hz1' hG r1) (A1 := A3) (c1 := c3) (G1 := G3) (w1 := w3) (by rw [← cel_snoc]; simpa using n3) m3 r3
              have hl2 : (M ++ [(k, vv)]).length + 1 = M.length + 1 + 1 := by simp
              rw [hl2] at hnext2
              clear hdi hsg n1 m1 r1 y1 y2 c0 z1 z2 c5 n3 m3 r3 n1' hnext hl2 p3 p4 p5 p6 hz1' hG
              go_roundw
              case rel => exact ⟨j + 1, true, _, hlt, by go_num, rfl, hnext2, Hnx.out⟩
              case measure => simp [intOf]; omega
          · have Hnx : Hid (SetM L k vv (j + 1) false (M ++ [(xk, xv)])) := Lib.hid (.inr ⟨rfl, by rw [htk, hM], fun p hp => by
              rw [htk] at hp
              rcases List.mem_append.1 hp with hp | hp
              · exact hall p hp
              · simp at hp; subst hp; simp; omega⟩)
            have hne : (xk != k) = true := by simp; omega
            have p0 : 0 < 1 := by omega
            have p02 : 0 < 2 := by omega
            obtain ⟨p3, p4, p5, p6⟩ := len_room hln hj hm
            clear htk hst1 hM hall
            go_wp2_with (at_builtin; refine wpList_append_seg _ rfl (.tmp 58) (.tmp 64) _ rfl 77 i0 _ 2 16 Try.underlying26 hi0 hz0 hz1 hz2 rfl p02 rfl (hsg.alloc _) ⟨wr.heap.size, 0, none⟩ 1 1 [.int .u8 xk, .int .i64 xv] rfl rfl (cell_two_new _ _ _ _) (two_one _ _) p0 p3 p4 ?_; intro A1 c1 G1 w1 n1 m1 r1)
            have hnext := hdi.app hsg hG n1 m1 r1
            clear hdi hsg n1 m1 r1 y1 y2 c0
            go_roundw
            case rel => exact ⟨j + 1, false, _, hlt, by go_num, rfl, hnext, Hnx.out⟩
            case measure => simp [intOf]; omega
      · obtain rfl : j = L.length := by omega
        have htl : L.take L.length = L := List.take_length
        rcases hsm with ⟨rfl, hM, _⟩ | ⟨rfl, hM, hall⟩
        · rw [htl] at hM
          have HM := Lib.hid hM
          clear hM htl
          have bp : CB (wr.setCell ⟨w.heap.size, 0, none⟩ (.slice A M.length c)) w.heap.size 28 #[.slice A M.length c, .slice a2 n2 cap2, .int .i64 room] := by
            have := hdi.bx.put 0 (.slice A M.length c)
            simpa using this
          have rp : CB (wr.setCell ⟨w.heap.size, 0, none⟩ (.slice A M.length c)) (w.heap.size + 1) 28 #[.slice none 0 0, .slice none 0 0, .int .i64 0] := hdi.rs.far (by simp) _
          have sp : RS (wr.setCell ⟨w.heap.size, 0, none⟩ (.slice A M.length c)) A M.length c M := ⟨rfl, G, hsg.far (p := ⟨w.heap.size, 0, none⟩) (hsg.ne_ hdi.bx (by decide)) _⟩
          have lp : Below w.heap.size w (wr.setCell ⟨w.heap.size, 0, none⟩ (.slice A M.length c)) := hdi.low.setCell (p := ⟨w.heap.size, 0, none⟩) (Nat.le_refl _) _
          have g0 := bp.cell 0
          have g1 := bp.cell 1
          have g2 := bp.cell 2
          have d0 := rp.cell 0
          have d1 := rp.cell 1
          have d2 := rp.cell 2
          have e0 := rp.frozen 0
          have e1 := rp.frozen 1
          have e2 := rp.frozen 2
          have x0 := hdi.bx.frozen 0
          simp only [List.getElem?_toArray, List.getElem?_cons_succ, List.getElem?_cons_zero] at g0 g1 g2 d0 d1 d2
          have RP := Lib.hid rp
          have SP := Lib.hid sp
          have LP := Lib.hid lp
          clear bp rp sp lp hdi hsg
          go_wp2_with fail
          have hq := box_end RP.out (.slice A M.length c) (.slice a2 n2 cap2) (.int .i64 room)
          have f0 := hq.cell 0
          have f1 := hq.cell 1
          have f2 := hq.cell 2
          simp only [List.getElem?_toArray, List.getElem?_cons_succ, List.getElem?_cons_zero] at f0 f1 f2
          refine bodyPost_ret (v := .tuple #[.agg #[.slice A M.length c, .slice a2 n2 cap2, .int .i64 room], .int .i64 0]) ?_ rfl (by rw [← HM.out]; exact ⟨A, c, rfl, SP.out.box RP.out _ _ _, below_box LP.out (Nat.le_succ _) _ _ _⟩)
          generalize (((wr.setCell ⟨w.heap.size, 0, none⟩ (.slice A M.length c)).setCell ⟨w.heap.size + 1, 0, none⟩ (.slice A M.length c)).setCell ⟨w.heap.size + 1, 1, none⟩ (.slice a2 n2 cap2)).setCell ⟨w.heap.size + 1, 2, none⟩ (.int .i64 room) = WW at *
          simp [results, Try.results17, go_sem, f0, f1, f2]
        · rw [htl] at hM hall
          have hMM : M ++ [(k, vv)] = putL L k vv := by rw [hM]; exact (put_last hs hall).symm
          have HMM := Lib.hid hMM
          clear hM htl hMM hall
          have p0 : 0 < 1 := by omega
          have p02 : 0 < 2 := by omega
          obtain ⟨p3, p4, p5, p6⟩ := len_room hln hj hm
          have hcA : w.heap.size < wr.heap.size := hdi.bx.lt
          go_wp2_with (at_builtin; refine wpList_append_seg _ rfl (.tmp 68) (.tmp 72) _ rfl 77 i0 _ 2 16 Try.underlying26 hi0 hz0 hz1 hz2 rfl p02 rfl (hsg.alloc _) ⟨wr.heap.size, 0, none⟩ 1 1 [.int .u8 k, .int .i64 vv] rfl rfl (cell_two_new _ _ _ _) (two_one _ _) p0 p3 p4 ?_; intro A1 c1 G1 w1 n1 m1 r1; have hnext := hdi.app hsg hG n1 m1 r1; have bp : CB (w1.setCell ⟨w.heap.size, 0, none⟩ (.slice A1 (M.length + 1) c1)) w.heap.size 28 #[.slice A1 (M.length + 1) c1, .slice a2 n2 cap2, .int .i64 room] := (by have := hnext.bx.put 0 (.slice A1 (M.length + 1) c1); simpa using this); have rp : CB (w1.setCell ⟨w.heap.size, 0, none⟩ (.slice A1 (M.length + 1) c1)) (w.heap.size + 1) 28 #[.slice none 0 0, .slice none 0 0, .int .i64 0] := hnext.rs.far (by simp) _; have b0 := hnext.bx.cell 0; have g0 := bp.cell 0; have g1 := bp.cell 1; have g2 := bp.cell 2; have d0 := rp.cell 0; have d1 := rp.cell 1; have d2 := rp.cell 2; have e0 := rp.frozen 0; have e1 := rp.frozen 1; have e2 := rp.frozen 2; have x0 := hnext.bx.frozen 0; simp only [List.getElem?_toArray, List.getElem?_cons_succ, List.getElem?_cons_zero] at b0 g0 g1 g2 d0 d1 d2)
          have n1' : Seg w1 77 2 A1 (M ++ [(k, vv)]).length c1 (cel (M ++ [(k, vv)])) G1 := by
            rw [← cel_snoc]
            simpa using n1
          have sp : RS (w1.setCell ⟨w.heap.size, 0, none⟩ (.slice A1 (M.length + 1) c1)) A1 (M ++ [(k, vv)]).length c1 (M ++ [(k, vv)]) := ⟨rfl, G1, n1'.far (p := ⟨w.heap.size, 0, none⟩) (n1'.ne_ hnext.bx (by decide)) _⟩
          have lp : Below w.heap.size w (w1.setCell ⟨w.heap.size, 0, none⟩ (.slice A1 (M.length + 1) c1)) := hnext.low.setCell (p := ⟨w.heap.size, 0, none⟩) (Nat.le_refl _) _
          have hq := box_end rp (.slice A1 (M.length + 1) c1) (.slice a2 n2 cap2) (.int .i64 room)
          have f0 := hq.cell 0
          have f1 := hq.cell 1
          have f2 := hq.cell 2
          simp only [List.getElem?_toArray, List.getElem?_cons_succ, List.getElem?_cons_zero] at f0 f1 f2
          refine bodyPost_ret (v := .tuple #[.agg #[.slice A1 (M.length + 1) c1, .slice a2 n2 cap2, .int .i64 room], .int .i64 0]) ?_ rfl (by rw [← HMM.out]; exact ⟨A1, c1, by simp, sp.box rp _ _ _, below_box lp (Nat.le_succ _) _ _ _⟩)
          generalize (((w1.setCell ⟨w.heap.size, 0, none⟩ (.slice A1 (M.length + 1) c1)).setCell ⟨w.heap.size + 1, 0, none⟩ (.slice A1 (M.length + 1) c1)).setCell ⟨w.heap.size + 1, 1, none⟩ (.slice a2 n2 cap2)).setCell ⟨w.heap.size + 1, 2, none⟩ (.int .i64 room) = WW at *
          simp [results, Try.results17, go_sem, f0, f1, f2]
end Go.Proofs.Ytopgnjnnijhpkaa
