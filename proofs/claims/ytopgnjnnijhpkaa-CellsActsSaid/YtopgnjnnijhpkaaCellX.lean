/-
  The document's Drop and Set for cells where they make a new list. Conditions: the lists read as the predicate RS says, by rising keys, and are not longer than ten thousand.
-/
import Derived.Test.YtopgnjnnijhpkaaCellW
namespace Go.Proofs.Ytopgnjnnijhpkaa
open Go.RowKit Go.Maps UI

theorem cell_two_new (w : World) (t : TypeId) (u v : Value) : ∀ (j : Nat) (x : Value), [u, v][j]? = some x → (w.alloc (.cells #[u, v] t)).cell? ((⟨w.heap.size, 0, none⟩ : Addr).add j) = some x := by
  intro j x hj
  match j, hj with
  | 0, hj => simp at hj; subst hj; exact (CB.new w t #[u, v]).cell 0
  | 1, hj => simp at hj; subst hj; exact (CB.new w t #[u, v]).cell 1
theorem two_one (p q : Int) : ∀ u ∈ [Value.int .u8 p, .int .i64 q], u.oneCell' = true := by
  intro u hu
  simp at hu
  rcases hu with rfl | rfl <;> rfl

theorem del_skip {M : List (Int × Int)} {x y k : Int} (h : x = k) : delL (M ++ [(x, y)]) k = delL M k := by simp [delL, h]
theorem del_take {M : List (Int × Int)} {x y k : Int} (h : x ≠ k) : delL (M ++ [(x, y)]) k = delL M k ++ [(x, y)] := by simp [delL, h]

set_option maxRecDepth 100000 in
set_option maxHeartbeats 1000000 in
theorem refDrop_yes (a a2 : Option Addr) (cap n2 cap2 : Nat) (room : Int) (L : List (Int × Int)) (k : Int) (w : World) (h : RS w a L.length cap L) (hm : L.length ≤ 10000) (hs : Srt L) (u : Int) (hg : getL L k = some u) :
    Calls Try.prog 13 #[.agg #[.slice a L.length cap, .slice a2 n2 cap2, .int .i64 room], .int .u8 k] w (RPost w (delL L k) a2 n2 cap2 room 0) := by
  have hst := DI.start w (.slice a L.length cap) (.slice a2 n2 cap2) (.int .i64 room)
  obtain ⟨W, hW⟩ : ∃ W, W = (w.alloc (.cells #[.slice a L.length cap, .slice a2 n2 cap2, .int .i64 room] 28)).alloc (.cells #[.slice none 0 0, .slice none 0 0, .int .i64 0] 28) := ⟨_, rfl⟩
  rw [← hW] at hst
  have HW := Lib.hid hW
  clear hW
  have hf := find_yes a cap L k u W (h.keep hst.low) hm hs hg
  obtain ⟨i0, hi0, hz0, hz1, hz2⟩ := info_parts Try.infoR
  have c0 := hst.bx.cell 0
  simp only [List.getElem?_toArray, List.getElem?_cons_zero] at c0
  have Hst := Lib.hid hst
  clear hg hst
  go_enter Try.func13, Try.ntmps13
  go_wp2_with fail
  rw [← HW.out]
  refine hf.mono ?_
  rintro e w' ⟨ix, hi, hx, rfl, rfl⟩
  have hi00 : ¬ (ix : Int) < 0 := by omega
  clear hf hx hi HW c0
  go_wp2_with fail
  go_loopw [6, 7] (fun v i wr => ∃ j : Nat, j ≤ L.length ∧ i = .int .i64 j ∧ DI w (.slice a L.length cap) (.slice a2 n2 cap2) (.int .i64 room) (delL (L.take j) k) v wr) (fun _ i _ => L.length - (intOf i).toNat)
  case atStart => exact ⟨0, by omega, rfl, by simpa [delL] using Hst.out⟩
  case round =>
    clear Hst
    obtain ⟨j, hj, rfl, hdi⟩ := hrel
    obtain ⟨A, c, G, rfl, hsg, hG⟩ := hdi.out
    have c0 := hdi.bx.cell 0
    simp only [List.getElem?_toArray, List.getElem?_cons_zero] at c0
    by_cases hlt : j < L.length
    · obtain ⟨g, off, rfl, y1, y2⟩ := (h.keep hdi.low).at_ hlt
      have htk := take_kth hlt
      have hln : (delL (L.take j) k).length ≤ j := by have := length_del_le (L.take j) k; rw [List.length_take] at this; omega
      generalize kth L j = x at *
      obtain ⟨xk, xv⟩ := x
      simp only at y1 y2
      by_cases hxk : xk = k
      · have hnx : delL (L.take (j + 1)) k = delL (L.take j) k := by rw [htk]; exact del_skip hxk
        have Hnx := Lib.hid hnx
        have hne : (xk != k) = false := by simp [hxk]
        clear htk hnx hxk
        go_wp2_with fail
        go_roundw
        case rel => exact ⟨j + 1, by omega, by go_num, by rw [Hnx.out]; exact hdi⟩
        case measure => simp [intOf]; omega
      · have hnx : delL (L.take (j + 1)) k = delL (L.take j) k ++ [(xk, xv)] := by rw [htk]; exact del_take hxk
        have Hnx := Lib.hid hnx
        have hne : (xk != k) = true := by simp [hxk]
        have p0 : 0 < 1 := by omega
        have p02 : 0 < 2 := by omega
        have p3 : (delL (L.take j) k).length + 1 ≤ maxLen := by simp only [maxLen]; omega
        have p4 : ((delL (L.take j) k).length + 1) * 16 ≤ 140737488355328 := by omega
        have Hln := Lib.hid hln
        clear htk hnx hxk hln
        generalize delL (L.take j) k = M at *
        go_wp2_with (at_builtin; refine wpList_append_seg _ rfl (.tmp 29) (.tmp 35) _ rfl 77 i0 _ 2 16 Try.underlying26 hi0 hz0 hz1 hz2 rfl p02 rfl (hsg.alloc _) ⟨wr.heap.size, 0, none⟩ 1 1 [.int .u8 xk, .int .i64 xv] rfl rfl (cell_two_new _ _ _ _) (two_one _ _) p0 p3 p4 ?_; intro A1 c1 G1 w1 n1 m1 r1)
        have hnext := hdi.app hsg hG n1 m1 r1
        clear hdi hsg n1 m1 r1 y1 y2 c0
        go_wp2_with fail
        go_roundw
        case rel => exact ⟨j + 1, by omega, by go_num, by rw [Hnx.out]; exact hnext⟩
        case measure => simp [intOf]; omega
    · obtain rfl : j = L.length := by omega
      rw [List.take_length] at hdi hsg ⊢
      generalize delL L k = MM at *
      have bp : CB (wr.setCell ⟨w.heap.size, 0, none⟩ (.slice A MM.length c)) w.heap.size 28 #[.slice A MM.length c, .slice a2 n2 cap2, .int .i64 room] := by
        have := hdi.bx.put 0 (.slice A MM.length c)
        simpa using this
      have rp : CB (wr.setCell ⟨w.heap.size, 0, none⟩ (.slice A MM.length c)) (w.heap.size + 1) 28 #[.slice none 0 0, .slice none 0 0, .int .i64 0] := hdi.rs.far (by simp) _
      have sp : RS (wr.setCell ⟨w.heap.size, 0, none⟩ (.slice A MM.length c)) A MM.length c MM := ⟨rfl, G, hsg.far (p := ⟨w.heap.size, 0, none⟩) (hsg.ne_ hdi.bx (by decide)) _⟩
      have lp : Below w.heap.size w (wr.setCell ⟨w.heap.size, 0, none⟩ (.slice A MM.length c)) := hdi.low.setCell (p := ⟨w.heap.size, 0, none⟩) (Nat.le_refl _) _
      have g0 := bp.cell 0
      have g1 := bp.cell 1
      have g2 := bp.cell 2
      have d0 := rp.cell 0
      have d1 := rp.cell 1
      have d2 := rp.cell 2
      have e0 := rp.frozen 0
      have e1 := rp.frozen 1
      have e2 := rp.frozen 2
      have x0 := hdi.bx.frozen 0
      simp only [List.getElem?_toArray, List.getElem?_cons_succ, List.getElem?_cons_zero] at g0 g1 g2 d0 d1 d2
      have RP := Lib.hid rp
      have SP := Lib.hid sp
      have LP := Lib.hid lp
      clear bp rp sp lp hdi hsg
      go_wp2_with fail
      have hq := box_end RP.out (.slice A MM.length c) (.slice a2 n2 cap2) (.int .i64 room)
      have f0 := hq.cell 0
      have f1 := hq.cell 1
      have f2 := hq.cell 2
      simp only [List.getElem?_toArray, List.getElem?_cons_succ, List.getElem?_cons_zero] at f0 f1 f2
      refine bodyPost_ret (v := .tuple #[.agg #[.slice A MM.length c, .slice a2 n2 cap2, .int .i64 room], .int .i64 0]) ?_ rfl (⟨A, c, rfl, SP.out.box RP.out _ _ _, below_box LP.out (by omega) _ _ _⟩)
      generalize (((wr.setCell ⟨w.heap.size, 0, none⟩ (.slice A MM.length c)).setCell ⟨w.heap.size + 1, 0, none⟩ (.slice A MM.length c)).setCell ⟨w.heap.size + 1, 1, none⟩ (.slice a2 n2 cap2)).setCell ⟨w.heap.size + 1, 2, none⟩ (.int .i64 room) = WW at *
      simp [results, Try.results13, go_sem, f0, f1, f2]
end Go.Proofs.Ytopgnjnnijhpkaa
