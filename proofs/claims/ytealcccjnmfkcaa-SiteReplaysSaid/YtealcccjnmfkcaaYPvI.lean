/-
  The document's Add of layer 9. Condition: the deltas can be read, a thousand at most.
-/
import Derived.Test.YtealcccjnmfkcaaYPvG
import Derived.Deep.CutRange
set_option linter.unusedVariables false
set_option linter.unusedSimpArgs false
namespace Go.Proofs.Ytealcccjnmfkcaa
open Go.RowKit

set_option maxRecDepth 100000 in
set_option maxHeartbeats 4000000 in
theorem addR_c (s : Int) (A : Option Addr) (n c : Nat) (l : Bool) (o : Int) (k b : Int) (L : List Dl) (w : World) (h : DR w A n c L) (hn : n ≤ 1000) :
    Calls Try.prog 86 #[.agg #[.int .i64 s, .slice A n c, .bool l, .int .i64 o], .agg #[.int .u8 k, .int .i64 b]] w (APost w 0 (sAdd ⟨s, L, l, o⟩ ⟨k, b⟩) (eAdd ⟨s, L, l, o⟩ ⟨k, b⟩)) := by
  have hlen := Lib.hid h.len
  obtain ⟨W, hW⟩ : ∃ W, ((w.alloc (.cells #[.int .i64 s, .slice A n c, .bool l, .int .i64 o] 95)).alloc (.cells #[.int .u8 k, .int .i64 b] 102)).alloc (.cells #[.int .i64 0, .slice none 0 0, .bool false, .int .i64 0] 95) = W := ⟨_, rfl⟩
  have hp : PB W (w.heap.size) 95 s A n c l o := by
    rw [← hW]
    have := (((PB.new w 95 s A n c l o).alloc (.cells #[.int .u8 k, .int .i64 b] 102)).alloc (.cells #[.int .i64 0, .slice none 0 0, .bool false, .int .i64 0] 95))
    simpa using this
  have hx : CB W (w.heap.size + 1) 102 #[.int .u8 k, .int .i64 b] := by
    rw [← hW]
    have := ((CB.new (w.alloc (.cells #[.int .i64 s, .slice A n c, .bool l, .int .i64 o] 95)) 102 #[.int .u8 k, .int .i64 b]).alloc (.cells #[.int .i64 0, .slice none 0 0, .bool false, .int .i64 0] 95))
    simpa using this
  have hr : PB W (w.heap.size + 1 + 1) 95 0 none 0 0 false 0 := by
    rw [← hW]
    have := (PB.new ((w.alloc (.cells #[.int .i64 s, .slice A n c, .bool l, .int .i64 o] 95)).alloc (.cells #[.int .u8 k, .int .i64 b] 102)) 95 0 none 0 0 false 0)
    simpa using this
  have hb : Below w.heap.size w W := by rw [← hW]; exact bel2 (bel2 (belA _ _) (belA _ _)) (belA _ _)
  have hS := Lib.hid (show W.heap.size = w.heap.size + 3 by rw [← hW]; simp)
  have HW := Lib.hid hW
  clear hW
  have hd := h.on hb
  have hc := rightR_c s A n c l o L W hd
  obtain ⟨cp0, cp1, cp2, cp3⟩ := hp.cells
  go_enter Try.func86, Try.ntmps86
  go_upto_region 1 with fail
  rw [HW.out]
  go_wp2_with fail
  refine hc.mono ?_
  rintro e w1 ⟨rfl, b1⟩
  clear cp0 cp1 cp2 cp3
  clear hc
  have HN := Lib.hid (show w.heap.size + 3 ≤ w1.heap.size by have := hS.out; have := b1.size; omega)
  have r1_p := hp.on b1
  have r1_r := hr.on b1
  have r1_d := hd.on b1
  have r1_x := hx.on b1
  have l1 := bel2 hb b1
  clear b1 hS hp hr hd hx hb
  obtain ⟨cp0, cp1, cp2, cp3⟩ := r1_p.cells
  have cx := r1_x.cell 0
  have cy := r1_x.cell 1
  simp only [List.getElem?_toArray, List.getElem?_cons_zero, List.getElem?_cons_succ] at cx cy
  cases hok : okP ⟨s, L, l, o⟩ with
  | false =>
    have He := Lib.hid (show eAdd ⟨s, L, l, o⟩ ⟨k, b⟩ = 2 by unfold eAdd; rw [if_pos (.inl hok)])
    have Hs := Lib.hid (show sAdd ⟨s, L, l, o⟩ ⟨k, b⟩ = ⟨s, L, l, o⟩ from add_err (by rw [He.out]; omega))
    obtain ⟨cz0, cz1, cz2, cz3⟩ := r1_r.cells
    obtain ⟨fz0, fz1, fz2, fz3⟩ := r1_r.froz
    obtain ⟨U, hU, hrU, hkU⟩ := store_end r1_r Try.neR s A n c l o
    obtain ⟨v0, v1, v2, v3⟩ := hrU.cells
    have HU := Lib.hid hU
    clear hU
    have H := Lib.hid (show APost w 0 (sAdd ⟨s, L, l, o⟩ ⟨k, b⟩) (eAdd ⟨s, L, l, o⟩ ⟨k, b⟩) (.returned (.tuple #[.agg #[.int .i64 s, .slice A n c, .bool l, .int .i64 o], .int .i64 2])) U by
      rw [He.out, Hs.out]
      exact ⟨A, n, c, rfl, hkU.dr _ _ _ _ r1_d, hkU.low _ _ l1 (by omega), Fr.zero _ _⟩)
    clear hkU hrU
    go_wp2_with fail
    rw [HU.out]
    exact bodyPost_ret (v := .tuple #[.agg #[.int .i64 s, .slice A n c, .bool l, .int .i64 o], .int .i64 2]) (by simp [results, Try.results86, go_sem, v0, v1, v2, v3]) rfl H.out
  | true =>
    have Hok := Lib.hid hok
    clear hok
    have h50 := ok_len Hok.out
    rw [show (⟨s, L, l, o⟩ : Pt).ad.length = n from hlen.out] at h50
    by_cases hk : 64 ≤ k
    · have hk1 : decide (64 ≤ k) = true := decide_eq_true hk
      have He := Lib.hid (show eAdd ⟨s, L, l, o⟩ ⟨k, b⟩ = 2 by unfold eAdd; rw [if_pos (.inr hk)])
      have Hs := Lib.hid (show sAdd ⟨s, L, l, o⟩ ⟨k, b⟩ = ⟨s, L, l, o⟩ from add_err (by rw [He.out]; omega))
      obtain ⟨cz0, cz1, cz2, cz3⟩ := r1_r.cells
      obtain ⟨fz0, fz1, fz2, fz3⟩ := r1_r.froz
      obtain ⟨U, hU, hrU, hkU⟩ := store_end r1_r Try.neR s A n c l o
      obtain ⟨v0, v1, v2, v3⟩ := hrU.cells
      have HU := Lib.hid hU
      clear hU
      have H := Lib.hid (show APost w 0 (sAdd ⟨s, L, l, o⟩ ⟨k, b⟩) (eAdd ⟨s, L, l, o⟩ ⟨k, b⟩) (.returned (.tuple #[.agg #[.int .i64 s, .slice A n c, .bool l, .int .i64 o], .int .i64 2])) U by
        rw [He.out, Hs.out]
        exact ⟨A, n, c, rfl, hkU.dr _ _ _ _ r1_d, hkU.low _ _ l1 (by omega), Fr.zero _ _⟩)
      clear hkU hrU
      go_wp2_with fail
      rw [HU.out]
      exact bodyPost_ret (v := .tuple #[.agg #[.int .i64 s, .slice A n c, .bool l, .int .i64 o], .int .i64 2]) (by simp [results, Try.results86, go_sem, v0, v1, v2, v3]) rfl H.out
    have hk1 : decide (64 ≤ k) = false := decide_eq_false hk
    have Hk := Lib.hid hk
    clear hk
    by_cases hs0 : s = 0
    · have hs1 : (s != 0) = false := by simp [hs0]
      have Hs0 := Lib.hid hs0
      clear hs0
      by_cases hf : n = 50
      · have hf1 : (50 : Int) ≤ (n : Int) := by omega
        have Hf := Lib.hid hf
        clear hf h50
        have He := Lib.hid (show eAdd ⟨s, L, l, o⟩ ⟨k, b⟩ = 6 by unfold eAdd; rw [if_neg (fun k => k.elim (fun k => by rw [Hok.out] at k; cases k) Hk.out), if_neg (fun k => k Hs0.out), if_pos (hlen.out.trans Hf.out)])
        have Hs := Lib.hid (show sAdd ⟨s, L, l, o⟩ ⟨k, b⟩ = ⟨s, L, l, o⟩ from add_err (by rw [He.out]; omega))
        obtain ⟨cz0, cz1, cz2, cz3⟩ := r1_r.cells
        obtain ⟨fz0, fz1, fz2, fz3⟩ := r1_r.froz
        obtain ⟨U, hU, hrU, hkU⟩ := store_end r1_r Try.neR s A n c l o
        obtain ⟨v0, v1, v2, v3⟩ := hrU.cells
        have HU := Lib.hid hU
        clear hU
        have H := Lib.hid (show APost w 0 (sAdd ⟨s, L, l, o⟩ ⟨k, b⟩) (eAdd ⟨s, L, l, o⟩ ⟨k, b⟩) (.returned (.tuple #[.agg #[.int .i64 s, .slice A n c, .bool l, .int .i64 o], .int .i64 6])) U by
          rw [He.out, Hs.out]
          exact ⟨A, n, c, rfl, hkU.dr _ _ _ _ r1_d, hkU.low _ _ l1 (by omega), Fr.zero _ _⟩)
        clear hkU hrU
        go_wp2_with fail
        rw [HU.out]
        exact bodyPost_ret (v := .tuple #[.agg #[.int .i64 s, .slice A n c, .bool l, .int .i64 o], .int .i64 6]) (by simp [results, Try.results86, go_sem, v0, v1, v2, v3]) rfl H.out
      have hf1 : ¬ (50 : Int) ≤ (n : Int) := by omega
      have Hf := Lib.hid hf
      clear hf h50
      have He := Lib.hid (show eAdd ⟨s, L, l, o⟩ ⟨k, b⟩ = 0 by unfold eAdd; rw [if_neg (fun k => k.elim (fun k => by rw [Hok.out] at k; cases k) Hk.out), if_neg (fun k => k Hs0.out), if_neg (fun e => Hf.out (hlen.out.symm.trans e))])
      have Hs := Lib.hid (show sAdd ⟨s, L, l, o⟩ ⟨k, b⟩ = ⟨s, L ++ [⟨k, b⟩], l, o⟩ by unfold sAdd; rw [if_pos He.out])
      obtain ⟨i0, hi0, hz0, hz1, hz2⟩ := info_parts Try.infoD
      have p03 : 0 < 2 := by omega
      have p0 : 0 < 1 := by omega
      have q1 : 0 + n ≤ maxLen := by simp only [maxLen]; omega
      have q2 : (0 + n) * 16 ≤ 140737488355328 := by omega
      obtain ⟨q3, q4⟩ := app2 (n := n) (by omega)
      have z0 := Nat.zero_add n
      obtain ⟨W1, hW1⟩ : ∃ W1, w1.alloc (.cells #[] 102) = W1 := ⟨_, rfl⟩
      have k1 : Below w1.heap.size w1 W1 := by rw [← hW1]; exact belA w1 _
      have cb : CB W1 w1.heap.size 102 #[] := by rw [← hW1]; exact CB.new w1 _ _
      have hs0' : Seg W1 102 2 (some ⟨w1.heap.size, 0, none⟩) 0 0 [] (some w1.heap.size) := ⟨rfl, Nat.le_refl _, Nat.zero_le _, .inr ⟨_, 0, #[], rfl, rfl, cb, by simp, fun j u hu => by simp at hu⟩⟩
      have b2 := bel2 l1 k1
      have hsr1 := (r1_d.on k1).src
      have hwr := l1.size
      have HW1 := Lib.hid hW1
      have p2 := r1_p.on k1
      have x2 := r1_x.on k1
      have r2 := r1_r.on k1
      obtain ⟨a0, a1, a2, a3⟩ := (r1_p.alloc (.cells #[] 102)).cells
      clear hW1 k1 cb
      go_wp2_with (at_builtin; try rw [HW1.out]; refine wpList_append_src _ rfl (.tmp 28) (.tmp 30) _ rfl 102 i0 _ 2 16 Try.underlying26 hi0 hz0 hz1 hz2 rfl p03 rfl hs0' rfl hsr1 (rc_one 2 _) q1 q2 n z0 ?_; intro A4 c4 G4 w4 hs4 hg4 hm4; refine Stay.mk ?_)
      refine Stay.open_ ?_
      rw [List.nil_append] at hs4
      have l4 := b2.grown hg4 b2.size (fun g hg => by cases hg; exact hwr)
      have hG4 := Lib.hid (hm4.ge (B := w.heap.size + 3) (by have := HN.out; have := r2.lt; omega) (fun g hg => by cases hg; exact HN.out))
      have p4 : PB w4 w.heap.size 95 s A n c l o := CB.same p2 (hg4.block _ p2.lt (fun e => by have := Option.some.inj e; have := HN.out; omega))
      have x4 : CB w4 (w.heap.size + 1) 102 #[.int .u8 k, .int .i64 b] := CB.same x2 (hg4.block _ x2.lt (fun e => by have := Option.some.inj e; have := HN.out; omega))
      have r4 : PB w4 (w.heap.size + 1 + 1) 95 0 none 0 0 false 0 := CB.same r2 (hg4.block _ r2.lt (fun e => by have := Option.some.inj e; have := HN.out; omega))
      clear cp0 cp1 cp2 cp3 a0 a1 a2 a3 hs0' hsr1 hg4 hm4 b2 HW1 hwr z0 p2 x2 r2 cx cy r1_p r1_x r1_r r1_d l1
      have cx := x4.cell 0
      have cy := x4.cell 1
      simp only [List.getElem?_toArray, List.getElem?_cons_zero, List.getElem?_cons_succ] at cx cy
      go_wp2_with (at_builtin; refine wpList_append_seg _ rfl (.tmp 32) (.tmp 34) _ rfl 102 i0 _ 2 16 Try.underlying26 hi0 hz0 hz1 hz2 rfl p03 rfl (hs4.alloc _) ⟨w4.heap.size, 0, none⟩ 1 1 (dc ⟨k, b⟩) rfl rfl (cells_at _ _ (dc ⟨k, b⟩) _ rfl) (dc_one ⟨k, b⟩) p0 q3 q4 ?_; intro A5 c5 G5 w5 n5 m5 e5; refine Stay.mk ?_)
      refine Stay.open_ ?_
      rw [rc_snoc] at n5
      have lx := l4.alloc l4.size (.cells #[.int .u8 k, .int .i64 b] 102)
      have l5 := lx.grown m5 lx.size (fun g hg => by have := hG4.out g hg; omega)
      have p5 : PB w5 w.heap.size 95 s A n c l o := CB.same (CB.alloc p4 _) (m5.block _ (PB.alloc p4 _).lt (fun e => by have := hG4.out _ e.symm; omega))
      have r5 : PB w5 (w.heap.size + 1 + 1) 95 0 none 0 0 false 0 := CB.same (CB.alloc r4 _) (m5.block _ (PB.alloc r4 _).lt (fun e => by have := hG4.out _ e.symm; omega))
      clear cx cy hs4 m5 e5 hG4 l4 lx p4 x4 r4
      obtain ⟨cp0, cp1, cp2, cp3⟩ := p5.cells
      obtain ⟨fp0, fp1, fp2, fp3⟩ := p5.froz
      obtain ⟨V2, hV2⟩ : ∃ V2, w5.setCell ⟨w.heap.size, 1, none⟩ (.slice A5 (n + 1) c5) = V2 := ⟨_, rfl⟩
      have p6 : PB V2 w.heap.size 95 s A5 (n + 1) c5 l o := by rw [← hV2]; exact p5.put1 _ _ _
      have kV2 : Kept w.heap.size w5 V2 := by rw [← hV2]; exact Kept.of p5 Try.neR _ _
      have r6 : PB V2 (w.heap.size + 1 + 1) 95 0 none 0 0 false 0 := kV2.cb _ _ _ (by omega) r5
      have n6 := RR.of_seg (kV2.sg _ _ _ _ _ n5)
      have l6 := kV2.low _ _ l5 (by omega)
      have HV2 := Lib.hid hV2
      clear hV2
      go_upto_region 9 with fail
      rw [HV2.out]
      clear kV2 p5 r5 n5 l5 cp0 cp1 cp2 cp3 fp0 fp1 fp2 fp3
      obtain ⟨cp0, cp1, cp2, cp3⟩ := p6.cells
      obtain ⟨cz0, cz1, cz2, cz3⟩ := r6.cells
      obtain ⟨fz0, fz1, fz2, fz3⟩ := r6.froz
      obtain ⟨U, hU, hrU, hkU⟩ := store_end r6 Try.neR s A5 (n + 1) c5 l o
      obtain ⟨v0, v1, v2, v3⟩ := hrU.cells
      have HU := Lib.hid hU
      clear hU
      have H := Lib.hid (show APost w 0 (sAdd ⟨s, L, l, o⟩ ⟨k, b⟩) (eAdd ⟨s, L, l, o⟩ ⟨k, b⟩) (.returned (.tuple #[.agg #[.int .i64 s, .slice A5 (n + 1) c5, .bool l, .int .i64 o], .int .i64 0])) U by
        rw [He.out, Hs.out]
        exact ⟨A5, (n + 1), c5, rfl, hkU.dr _ _ _ _ n6, hkU.low _ _ l6 (by omega), Fr.zero _ _⟩)
      clear hkU hrU
      go_wp2_with fail
      rw [HU.out]
      exact bodyPost_ret (v := .tuple #[.agg #[.int .i64 s, .slice A5 (n + 1) c5, .bool l, .int .i64 o], .int .i64 0]) (by simp [results, Try.results86, go_sem, v0, v1, v2, v3]) rfl H.out
    · have hs1 : (s != 0) = true := by simp [hs0]
      have Hs0 := Lib.hid hs0
      clear hs0
      have He := Lib.hid (show eAdd ⟨s, L, l, o⟩ ⟨k, b⟩ = 13 by unfold eAdd; rw [if_neg (fun k => k.elim (fun k => by rw [Hok.out] at k; cases k) Hk.out), if_pos Hs0.out])
      have Hs := Lib.hid (show sAdd ⟨s, L, l, o⟩ ⟨k, b⟩ = ⟨s, L, l, o⟩ from add_err (by rw [He.out]; omega))
      obtain ⟨cz0, cz1, cz2, cz3⟩ := r1_r.cells
      obtain ⟨fz0, fz1, fz2, fz3⟩ := r1_r.froz
      obtain ⟨U, hU, hrU, hkU⟩ := store_end r1_r Try.neR s A n c l o
      obtain ⟨v0, v1, v2, v3⟩ := hrU.cells
      have HU := Lib.hid hU
      clear hU
      have H := Lib.hid (show APost w 0 (sAdd ⟨s, L, l, o⟩ ⟨k, b⟩) (eAdd ⟨s, L, l, o⟩ ⟨k, b⟩) (.returned (.tuple #[.agg #[.int .i64 s, .slice A n c, .bool l, .int .i64 o], .int .i64 13])) U by
        rw [He.out, Hs.out]
        exact ⟨A, n, c, rfl, hkU.dr _ _ _ _ r1_d, hkU.low _ _ l1 (by omega), Fr.zero _ _⟩)
      clear hkU hrU
      go_wp2_with fail
      rw [HU.out]
      exact bodyPost_ret (v := .tuple #[.agg #[.int .i64 s, .slice A n c, .bool l, .int .i64 o], .int .i64 13]) (by simp [results, Try.results86, go_sem, v0, v1, v2, v3]) rfl H.out

end Go.Proofs.Ytealcccjnmfkcaa
