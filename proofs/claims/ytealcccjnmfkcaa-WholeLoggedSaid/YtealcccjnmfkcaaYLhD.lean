/-
  sumOf of package ledger. Condition: the deltas can be read, a hundred thousand at most, and their keys are below 64.
-/
import Derived.Test.YtealcccjnmfkcaaYLhA
import Derived.Laws.Rows
set_option linter.unusedVariables false
set_option linter.unusedSimpArgs false
namespace Go.Proofs.Ytealcccjnmfkcaa
open Go.RowKit

theorem zeroN : (#[.int .i64 0, .int .i64 0, .int .i64 0, .int .i64 0, .int .i64 0, .int .i64 0, .int .i64 0, .int .i64 0, .int .i64 0, .int .i64 0, .int .i64 0, .int .i64 0, .int .i64 0, .int .i64 0, .int .i64 0, .int .i64 0, .int .i64 0, .int .i64 0, .int .i64 0, .int .i64 0, .int .i64 0, .int .i64 0, .int .i64 0, .int .i64 0, .int .i64 0, .int .i64 0, .int .i64 0, .int .i64 0, .int .i64 0, .int .i64 0, .int .i64 0, .int .i64 0, .int .i64 0, .int .i64 0, .int .i64 0, .int .i64 0, .int .i64 0, .int .i64 0, .int .i64 0, .int .i64 0, .int .i64 0, .int .i64 0, .int .i64 0, .int .i64 0, .int .i64 0, .int .i64 0, .int .i64 0, .int .i64 0, .int .i64 0, .int .i64 0, .int .i64 0, .int .i64 0, .int .i64 0, .int .i64 0, .int .i64 0, .int .i64 0, .int .i64 0, .int .i64 0, .int .i64 0, .int .i64 0, .int .i64 0, .int .i64 0, .int .i64 0, .int .i64 0] : Array Value) = Array.replicate 64 (.int .i64 0) := by kernel_rfl
/-- The numbers of all keys. -/
def numF (L : List Dl) (i : Nat) : Value := .int .i64 (num L i)
theorem numF_snoc {L : List Dl} {x : Dl} {kn : Nat} (hk : x.k = kn) (j : Nat) : numF (L ++ [x]) j = if j = kn then .int .i64 (wrap64 (num L kn + x.b)) else numF L j := by
  unfold numF
  by_cases e : j = kn
  · subst e; rw [num_hit hk, if_pos rfl]
  · rw [num_miss (by omega), if_neg e]
theorem index_num (cs : Array Value) (L : List Dl) (hc : cs.size = 64) (h : ∀ i, i < 64 → cs[i]? = some (numF L i)) (j : Nat) (hj : j < 64) (V : World) : (Instr.index 190 (.agg cs) (.int .i64 (j : Int))).run Try.prog V = .ok (.int .i64 (num L j)) V := by
  have hs : (sizeOf 2).run Try.prog V = .ok 1 V := by kernel_rfl
  have ha : (isAgg 2).run Try.prog V = .ok false V := by kernel_rfl
  have hh := h j hj
  unfold numF at hh
  simp [Instr.index, asIntOf, run_underlying Try.underlying190, hj, hs, part, ha, hh, go_sem]

set_option maxRecDepth 100000 in
set_option maxHeartbeats 2000000 in
theorem sumOf_c (A : Option Addr) (n c : Nat) (L : List Dl) (A' : Option Addr) (n' c' : Nat) (M : List Dl) (w : World) (h : DR w A n c L) (h' : DR w A' n' c' M) (hn : n ≤ 100000) (hn' : n' ≤ 100000) (wL : WfL L) (wM : WfL M) (kL : KeysP L) (kM : KeysP M) :
    Calls Try.prog 119 #[.slice A n c, .slice A' n' c'] w (LPost w (ofD (L ++ M))) := by
  have hlen := Lib.hid h.len
  have hlen' := Lib.hid h'.len
  have WL := Lib.hid wL
  have WM := Lib.hid wM
  have KL := Lib.hid kL
  have KM := Lib.hid kM
  clear wL wM kL kM
  obtain ⟨i0, hi0, hz0, hz1, hz2⟩ := info_parts Try.infoD
  obtain ⟨W0, hW0⟩ : ∃ W0, w.alloc (.cells #[.int .i64 0, .int .i64 0, .int .i64 0, .int .i64 0, .int .i64 0, .int .i64 0, .int .i64 0, .int .i64 0, .int .i64 0, .int .i64 0, .int .i64 0, .int .i64 0, .int .i64 0, .int .i64 0, .int .i64 0, .int .i64 0, .int .i64 0, .int .i64 0, .int .i64 0, .int .i64 0, .int .i64 0, .int .i64 0, .int .i64 0, .int .i64 0, .int .i64 0, .int .i64 0, .int .i64 0, .int .i64 0, .int .i64 0, .int .i64 0, .int .i64 0, .int .i64 0, .int .i64 0, .int .i64 0, .int .i64 0, .int .i64 0, .int .i64 0, .int .i64 0, .int .i64 0, .int .i64 0, .int .i64 0, .int .i64 0, .int .i64 0, .int .i64 0, .int .i64 0, .int .i64 0, .int .i64 0, .int .i64 0, .int .i64 0, .int .i64 0, .int .i64 0, .int .i64 0, .int .i64 0, .int .i64 0, .int .i64 0, .int .i64 0, .int .i64 0, .int .i64 0, .int .i64 0, .int .i64 0, .int .i64 0, .int .i64 0, .int .i64 0, .int .i64 0] 190) = W0 := ⟨_, rfl⟩
  have a0 : AN W0 w.heap.size 190 64 (numF []) := by
    rw [← hW0, zeroN]
    exact AN.new w _ 64 _ _ (fun j _ => by unfold numF; rw [num_nil])
  have b0 : Below w.heap.size w W0 := by rw [← hW0]; exact belA w _
  have HW0 := Lib.hid hW0
  clear hW0
  go_enter Try.func119, Try.ntmps119
  go_wp2_with fail
  rw [HW0.out]
  clear HW0
  obtain ⟨bb, hbb⟩ : ∃ bb, w.heap.size = bb := ⟨_, rfl⟩
  rw [hbb] at a0
  have Hbb := Lib.hid hbb
  clear hbb
  rw [Hbb.out]
  go_loopw [15] (fun i wr => ∃ j : Nat, j ≤ n ∧ i = .int .i64 j ∧ AN wr bb 190 64 (numF (L.take j)) ∧ Below w.heap.size w wr) (fun i _ => n - (intOf i).toNat)
  case atStart => exact ⟨0, by omega, rfl, by first | exact a0 | (rw [List.take_zero, List.append_nil]; exact a0), b0⟩
  case round =>
    clear a0 b0
    obtain ⟨j, hj, rfl, a0, b0⟩ := hrel
    by_cases hlt : j < n
    · obtain ⟨g, off, rfl, d1, d2⟩ := (h.on b0).at2 hlt
      have hjl : j < L.length := by rw [hlen.out]; exact hlt
      have htk := Lib.hid (show L.take (j + 1) = L.take j ++ [tk L j] by rw [tk_take (L := L) hjl] <;> simp)
      have hx1 := WL.out _ (tk_mem hjl)
      have hx2 := KL.out _ (tk_mem hjl)
      generalize tk L j = x at *
      obtain ⟨xk, xb⟩ := x
      obtain ⟨kn, rfl⟩ : ∃ kn : Nat, xk = kn := ⟨xk.toNat, by have := hx1.1; simp only at this; omega⟩
      simp only at d1 d2 hx2
      have hkn : kn < 64 := by omega
      obtain ⟨W1, hW1⟩ : ∃ W1, wr.alloc (.cells #[.int .u8 kn, .int .i64 xb] 102) = W1 := ⟨_, rfl⟩
      have k1 : Below wr.heap.size wr W1 := by rw [← hW1]; exact belA wr _
      have cx : CB W1 wr.heap.size 102 #[.int .u8 kn, .int .i64 xb] := by rw [← hW1]; exact CB.new wr _ _
      have x0 := cx.cell 0
      have x1 := cx.cell 1
      simp only [List.getElem?_toArray, List.getElem?_cons_zero, List.getElem?_cons_succ] at x0 x1
      have a1 := a0.same (k1.block _ a0.lt)
      have y0 := a1.cell hkn
      have y1 := a1.frozen kn
      unfold numF at y0
      have b1 := bel2 b0 k1
      have Ha2 := Lib.hid (a1.put hkn (.int .i64 (wrap64 (num (L.take j) kn + xb))) (fun i _ => numF_snoc (x := ⟨kn, xb⟩) rfl i))
      have Hb2 := Lib.hid (b1.setCell (p := ⟨bb, kn, none⟩) (by rw [Hbb.out]; exact Nat.le_refl _) (.int .i64 (wrap64 (num (L.take j) kn + xb))))
      have HW1 := Lib.hid hW1
      clear hW1 k1 a0 a1 b0 b1 cx hx1 hx2
      generalize num (L.take j) kn = q at *
      go_wp2_with fail
      rw [HW1.out]
      go_region
      clear d1 d2 x0 x1 y0 y1
      go_wp2
      go_roundw
      case rel => exact ⟨j + 1, by omega, by go_num, by rw [htk.out]; exact Ha2.out.drew, belowD Hb2.out⟩
      case measure => simp [intOf]; omega
    · obtain rfl : j = n := by omega
      rw [take_all hlen.out] at a0
      go_wp2_with fail
      go_loopw [30] (fun i wr => ∃ j : Nat, j ≤ n' ∧ i = .int .i64 j ∧ AN wr bb 190 64 (numF (L ++ M.take j)) ∧ Below w.heap.size w wr) (fun i _ => n' - (intOf i).toNat)
      case atStart => exact ⟨0, by omega, rfl, by first | exact a0 | (rw [List.take_zero, List.append_nil]; exact a0), b0⟩
      case round =>
        clear a0 b0
        obtain ⟨j, hj, rfl, a0, b0⟩ := hrel
        by_cases hlt : j < n'
        · obtain ⟨g, off, rfl, d1, d2⟩ := (h'.on b0).at2 hlt
          have hjl : j < M.length := by rw [hlen'.out]; exact hlt
          have htk := Lib.hid (show L ++ M.take (j + 1) = L ++ M.take j ++ [tk M j] by rw [tk_take (L := M) hjl] <;> simp)
          have hx1 := WM.out _ (tk_mem hjl)
          have hx2 := KM.out _ (tk_mem hjl)
          generalize tk M j = x at *
          obtain ⟨xk, xb⟩ := x
          obtain ⟨kn, rfl⟩ : ∃ kn : Nat, xk = kn := ⟨xk.toNat, by have := hx1.1; simp only at this; omega⟩
          simp only at d1 d2 hx2
          have hkn : kn < 64 := by omega
          obtain ⟨W1, hW1⟩ : ∃ W1, wr.alloc (.cells #[.int .u8 kn, .int .i64 xb] 102) = W1 := ⟨_, rfl⟩
          have k1 : Below wr.heap.size wr W1 := by rw [← hW1]; exact belA wr _
          have cx : CB W1 wr.heap.size 102 #[.int .u8 kn, .int .i64 xb] := by rw [← hW1]; exact CB.new wr _ _
          have x0 := cx.cell 0
          have x1 := cx.cell 1
          simp only [List.getElem?_toArray, List.getElem?_cons_zero, List.getElem?_cons_succ] at x0 x1
          have a1 := a0.same (k1.block _ a0.lt)
          have y0 := a1.cell hkn
          have y1 := a1.frozen kn
          unfold numF at y0
          have b1 := bel2 b0 k1
          have Ha2 := Lib.hid (a1.put hkn (.int .i64 (wrap64 (num (L ++ M.take j) kn + xb))) (fun i _ => numF_snoc (x := ⟨kn, xb⟩) rfl i))
          have Hb2 := Lib.hid (b1.setCell (p := ⟨bb, kn, none⟩) (by rw [Hbb.out]; exact Nat.le_refl _) (.int .i64 (wrap64 (num (L ++ M.take j) kn + xb))))
          have HW1 := Lib.hid hW1
          clear hW1 k1 a0 a1 b0 b1 cx hx1 hx2
          generalize num (L ++ M.take j) kn = q at *
          go_wp2_with fail
          rw [HW1.out]
          go_region
          clear d1 d2 x0 x1 y0 y1
          go_wp2
          go_roundw
          case rel => exact ⟨j + 1, by omega, by go_num, by rw [htk.out]; exact Ha2.out.drew, belowD Hb2.out⟩
          case measure => simp [intOf]; omega
        · obtain rfl : j = n' := by omega
          rw [take_all hlen'.out] at a0
          obtain ⟨cs, c1, c2, c3⟩ := a0
          have hinf : (Try.prog.info? 190).map (·.size) = some cs.size := by rw [c2]; kernel_rfl
          clear h h'
          go_wp2_with (refine wpList_load_row rfl 190 _ rfl bb rfl 190 cs (0, 0) _ c1 Try.underlying190 rfl hinf ?_)
          go_loopw [10, 44] (fun v i wr => ∃ j : Nat, j ≤ 64 ∧ i = .int .i64 j ∧ OS w 102 2 (rc dc (ofN (L ++ M) j)) v wr) (fun _ i _ => 64 - (intOf i).toNat)
          case atStart => exact ⟨0, by omega, rfl, OS.start w _ _ b0⟩
          case round =>
            clear b0 c1
            obtain ⟨j, hj, rfl, hos⟩ := hrel
            by_cases hlt : j < 64
            · have hw : IntKind.u8.wrap (j : Int) = j := by simp [IntKind.wrap, IntKind.bits, IntKind.signed]; omega
              have hix := fun V => index_num cs (L ++ M) c2 c3 j hlt V
              have Hsn := Lib.hid (show ofN (L ++ M) (j + 1) = ofN (L ++ M) j ++ cellD (L ++ M) j from rfl)
              have hml := Lib.hid (len_ofN (L ++ M) j)
              have hcell := Lib.hid (show cellD (L ++ M) j = if num (L ++ M) j = 0 then [] else [⟨j, num (L ++ M) j⟩] from rfl)
              generalize num (L ++ M) j = q at *
              by_cases hq : q = 0
              · have hq1 : (q != 0) = false := by simp [hq]
                have Hnx := Lib.hid (show ofN (L ++ M) (j + 1) = ofN (L ++ M) j by rw [Hsn.out, hcell.out, if_pos hq, List.append_nil])
                have Hos := Lib.hid hos
                obtain ⟨A0, m, c0, G, rfl, hsg, hG⟩ := hos.out
                clear hos hsg hq hG
                go_wp2_with fail
                go_roundw
                case rel => exact ⟨j + 1, by omega, by go_num, by rw [Hnx.out]; exact Hos.out⟩
                case measure => simp [intOf]; omega
              · have hq1 : (q != 0) = true := by simp [hq]
                have Hnx := Lib.hid (show ofN (L ++ M) (j + 1) = ofN (L ++ M) j ++ [⟨j, q⟩] by rw [Hsn.out, hcell.out, if_neg hq])
                have hlow := hos.low
                obtain ⟨A0, m, c0, G, rfl, hsg, hG⟩ := hos.out
                have hm := hml.out
                rw [rc_len hsg] at hm
                have p0 : 0 < 1 := by omega
                have p03 : 0 < 2 := by omega
                obtain ⟨p3, p4⟩ := app2 (n := m) (by omega)
                have hlow2 := Lib.hid (hlow.alloc hlow.size (.cells #[.int .u8 (j : Int), .int .i64 q] 102))
                clear hq hlow hos hml
                generalize ofN (L ++ M) j = R at *
                go_wp2_with (at_builtin; refine wpList_append_seg _ rfl (.tmp 50) (.tmp 55) _ rfl 102 i0 _ 2 16 Try.underlying58 hi0 hz0 hz1 hz2 rfl p03 rfl (hsg.alloc _) ⟨wr.heap.size, 0, none⟩ 1 1 (dc ⟨j, q⟩) rfl rfl (cells_at _ _ (dc ⟨j, q⟩) _ rfl) (dc_one ⟨j, q⟩) p0 p3 p4 ?_; intro A1 c1 G1 w1 n1 m1 r1)
                rw [rc_snoc] at n1
                have hnext := Lib.hid (OS.app hlow2.out hG n1 m1 r1)
                clear hsg n1 m1 r1 hlow2
                go_wp2_with fail
                go_roundw
                case rel => exact ⟨j + 1, by omega, by go_num, by rw [Hnx.out]; exact hnext.out⟩
                case measure => simp [intOf]; omega
            · obtain rfl : j = 64 := by omega
              have Hos := Lib.hid hos
              obtain ⟨A0, m, c0, G, rfl, hsg, hG⟩ := hos.out
              clear hos hsg
              go_wp2_with fail
              go_ret
              exact RPost.of_os Hos.out
end Go.Proofs.Ytealcccjnmfkcaa
/-
  Put, Add, Sum and Less of package ledger. Condition: the deltas can be read, a hundred thousand at most, and are such as a program can have.
-/
set_option linter.unusedVariables false
set_option linter.unusedSimpArgs false
namespace Go.Proofs.Ytealcccjnmfkcaa
open Go.RowKit

/-- A call gave deltas in a block of their own, and a number back. -/
def TPostS (w : World) (L : List Dl) (k : Int) (e : Ending) (w' : World) : Prop :=
  ∃ A n c, e = .returned (.tuple #[.slice A n c, .int .i64 k]) ∧ DS w' A n c L ∧ Below w.heap.size w w'

set_option maxRecDepth 100000 in
set_option maxHeartbeats 2000000 in
theorem putG_c (A : Option Addr) (n c : Nat) (L : List Dl) (A' : Option Addr) (n' c' : Nat) (M : List Dl) (w : World) (h : DR w A n c L) (h' : DR w A' n' c' M) (hn : n ≤ 100000) (hn' : n' ≤ 100000) (wL : WfL L) (wM : WfL M) :
    Calls Try.prog 100 #[.slice A n c, .slice A' n' c'] w (TPostS w (sPut L M) (ePut L M)) := by
  have WL := Lib.hid wL
  have WM := Lib.hid wM
  clear wL wM
  go_enter Try.func100, Try.ntmps100
  go_wp2_with fail
  refine (rightG_c A n c L w h hn).mono ?_
  rintro e w1 ⟨rfl, b1⟩
  cases hr : rightB L with
  | false =>
    have Hs := Lib.hid (show sPut L M = L ∧ ePut L M = 2 by unfold sPut ePut; rw [if_neg (fun k => rightB_no.1 hr k.1), if_neg (fun k => rightB_no.1 hr k.1)]; exact ⟨rfl, rfl⟩)
    have hcp := copyG_c A n c L w1 (h.on b1) hn
    clear hr
    go_wp2_with fail
    refine hcp.mono ?_
    rintro e w2 ⟨A2, n2, c2, rfl, hs2, b2⟩
    have H := Lib.hid (show TPostS w (sPut L M) (ePut L M) (.returned (.tuple #[.slice A2 n2 c2, .int .i64 2])) w2 by rw [Hs.out.1, Hs.out.2]; exact ⟨A2, n2, c2, rfl, hs2, bel2 b1 b2⟩)
    clear hs2 b2 b1 hcp
    go_wp2_with fail
    go_ret2
    exact H.out
  | true =>
    have hki := keysIn_c A' n' c' M w1 (h'.on b1) hn'
    have Hr := Lib.hid (rightB_iff.1 hr)
    clear hr
    go_wp2_with fail
    refine hki.mono ?_
    rintro e w2 ⟨rfl, b2⟩
    have bb := bel2 b1 b2
    clear b1 b2 hki
    cases hk : keysB M with
    | false =>
      have Hs := Lib.hid (show sPut L M = L ∧ ePut L M = 2 by unfold sPut ePut; rw [if_neg (fun k => keysB_no.1 hk k.2), if_neg (fun k => keysB_no.1 hk k.2)]; exact ⟨rfl, rfl⟩)
      have hcp := copyG_c A n c L w2 (h.on bb) hn
      clear hk
      go_wp2_with fail
      refine hcp.mono ?_
      rintro e w3 ⟨A3, n3, c3, rfl, hs3, b3⟩
      have H := Lib.hid (show TPostS w (sPut L M) (ePut L M) (.returned (.tuple #[.slice A3 n3 c3, .int .i64 2])) w3 by rw [Hs.out.1, Hs.out.2]; exact ⟨A3, n3, c3, rfl, hs3, bel2 bb b3⟩)
      clear hs3 b3 bb hcp
      go_wp2_with fail
      go_ret2
      exact H.out
    | true =>
      have hk' := keysB_iff.1 hk
      have Hs := Lib.hid (show sPut L M = ofD (L ++ M) ∧ ePut L M = 0 by unfold sPut ePut; rw [if_pos ⟨Hr.out, hk'⟩, if_pos ⟨Hr.out, hk'⟩]; exact ⟨rfl, rfl⟩)
      have hsm := sumOf_c A n c L A' n' c' M w2 (h.on bb) (h'.on bb) hn hn' WL.out WM.out (right_keys Hr.out) hk'
      clear hk hk'
      go_wp2_with fail
      refine hsm.mono ?_
      rintro e w3 ⟨A3, n3, c3, rfl, hs3, b3⟩
      have H := Lib.hid (show TPostS w (sPut L M) (ePut L M) (.returned (.tuple #[.slice A3 n3 c3, .int .i64 0])) w3 by rw [Hs.out.1, Hs.out.2]; exact ⟨A3, n3, c3, rfl, hs3, bel2 bb b3⟩)
      clear hs3 b3 bb hsm
      go_wp2_with fail
      go_ret2
      exact H.out

end Go.Proofs.Ytealcccjnmfkcaa
