/-
  Add and Vote of package part. Condition: the deltas can be read, a thousand at most.
-/
import Derived.Test.YtealcccjnmfkcaaYPtA
import Derived.Deep.CutRange
set_option linter.unusedVariables false
set_option linter.unusedSimpArgs false
namespace Go.Proofs.Ytealcccjnmfkcaa
open Go.RowKit

/-- A call gave a part whose deltas lie in a block of their own, and a number back. -/
def APostS (w : World) (B : Nat) (p : Pt) (k : Int) (e : Ending) (w' : World) : Prop :=
  ∃ A n c, e = .returned (.tuple #[.agg #[.int .i64 p.st, .slice A n c, .bool p.lo, .int .i64 p.ou], .int .i64 k]) ∧ DS w' A n c p.ad ∧ Below w.heap.size w w' ∧ Fr B A n
/-- A call gave such a part, deltas and a number back. -/
def BPostS (w : World) (B : Nat) (p : Pt) (D : List Dl) (k : Int) (e : Ending) (w' : World) : Prop :=
  ∃ A n c A' n' c', e = .returned (.tuple #[.agg #[.int .i64 p.st, .slice A n c, .bool p.lo, .int .i64 p.ou], .slice A' n' c', .int .i64 k]) ∧ DS w' A n c p.ad ∧ DR w' A' n' c' D ∧ Below w.heap.size w w' ∧ Fr B A n

set_option maxRecDepth 100000 in
set_option maxHeartbeats 4000000 in
theorem addS_c (s : Int) (A : Option Addr) (n c : Nat) (l : Bool) (o k b : Int) (L : List Dl) (w : World) (h : DR w A n c L) (hn : n ≤ 1000) :
    Calls Try.prog 78 #[.agg #[.int .i64 s, .slice A n c, .bool l, .int .i64 o], .agg #[.int .u8 k, .int .i64 b]] w (APostS w w.heap.size (sAdd ⟨s, L, l, o⟩ ⟨k, b⟩) (eAdd ⟨s, L, l, o⟩ ⟨k, b⟩)) := by
  have hlen := Lib.hid h.len
  obtain ⟨W, hW⟩ : ∃ W, ((w.alloc (.cells #[.int .i64 s, .slice A n c, .bool l, .int .i64 o] 40)).alloc (.cells #[.int .u8 k, .int .i64 b] 102)).alloc (.cells #[.int .i64 0, .slice none 0 0, .bool false, .int .i64 0] 40) = W := ⟨_, rfl⟩
  have hp : PB W (w.heap.size) 40 s A n c l o := by
    rw [← hW]
    have := (((PB.new w 40 s A n c l o).alloc (.cells #[.int .u8 k, .int .i64 b] 102)).alloc (.cells #[.int .i64 0, .slice none 0 0, .bool false, .int .i64 0] 40))
    simpa using this
  have hx : CB W (w.heap.size + 1) 102 #[.int .u8 k, .int .i64 b] := by
    rw [← hW]
    have := ((CB.new (w.alloc (.cells #[.int .i64 s, .slice A n c, .bool l, .int .i64 o] 40)) 102 #[.int .u8 k, .int .i64 b]).alloc (.cells #[.int .i64 0, .slice none 0 0, .bool false, .int .i64 0] 40))
    simpa using this
  have hr : PB W (w.heap.size + 1 + 1) 40 0 none 0 0 false 0 := by
    rw [← hW]
    have := (PB.new ((w.alloc (.cells #[.int .i64 s, .slice A n c, .bool l, .int .i64 o] 40)).alloc (.cells #[.int .u8 k, .int .i64 b] 102)) 40 0 none 0 0 false 0)
    simpa using this
  have hb : Below w.heap.size w W := by rw [← hW]; exact bel2 (bel2 (belA _ _) (belA _ _)) (belA _ _)
  have hS := Lib.hid (show W.heap.size = w.heap.size + 3 by rw [← hW]; simp)
  have HW := Lib.hid hW
  clear hW
  have hd := h.on hb
  have hc := copyP_o s A n c l o L W hd hn
  obtain ⟨cp0, cp1, cp2, cp3⟩ := hp.cells
  go_enter Try.func78, Try.ntmps78
  go_upto_region 1 with fail
  rw [HW.out]
  go_wp2_with fail
  refine hc.mono ?_
  rintro e w1 ⟨A1, c1, rfl, hos⟩
  obtain ⟨⟨A9, m9, c9, G, hv, hsg, hG⟩, b1⟩ := hos
  cases hv
  clear cp0 cp1 cp2 cp3
  have HN := Lib.hid (show w.heap.size + 3 ≤ w1.heap.size by have := hS.out; have := b1.size; omega)
  have HG := Lib.hid (fun g e => Nat.le_trans hb.size (hG g e))
  clear hG hc
  have r1_p := hp.on b1
  have r1_x := hx.on b1
  have r1_r := hr.on b1
  have r1_d := hd.on b1
  have l1 := bel2 hb b1
  clear b1 hp hx hr hd hb
  obtain ⟨V, hV⟩ : ∃ V, w1.alloc (.cells #[.int .i64 s, .slice A1 n c1, .bool l, .int .i64 o] 40) = V := ⟨_, rfl⟩
  have bV : Below w1.heap.size w1 V := by rw [← hV]; exact belA _ _
  have nV := PB.new w1 40 s A1 n c1 l o
  rw [hV] at nV
  have HV := Lib.hid hV
  clear hV
  have r2_p := r1_p.on bV
  have r2_x := r1_x.on bV
  have r2_r := r1_r.on bV
  have r2_d := r1_d.on bV
  have r2_g := hsg.on bV
  have l2 := bel2 l1 bV
  clear bV r1_p r1_x r1_r r1_d l1
  have hc := right_c s A n c l o L V r2_d
  obtain ⟨cp0, cp1, cp2, cp3⟩ := r2_p.cells
  go_upto_region 2 with fail
  rw [HV.out]
  go_wp2_with fail
  refine hc.mono ?_
  rintro e w2 ⟨rfl, b2⟩
  clear cp0 cp1 cp2 cp3
  clear hc
  have r3_p := r2_p.on b2
  have r3_x := r2_x.on b2
  have r3_r := r2_r.on b2
  have r3_d := r2_d.on b2
  have r3_g := r2_g.on b2
  have r3_q := nV.on b2
  have l3 := bel2 l2 b2
  clear b2 r2_p r2_x r2_r r2_d r2_g nV l2
  obtain ⟨cp0, cp1, cp2, cp3⟩ := r3_p.cells
  obtain ⟨cq0, cq1, cq2, cq3⟩ := r3_q.cells
  have cx := r3_x.cell 0
  have cy := r3_x.cell 1
  simp only [List.getElem?_toArray, List.getElem?_cons_zero, List.getElem?_cons_succ] at cx cy
  cases hok : okP ⟨s, L, l, o⟩ with
  | false =>
    have He := Lib.hid (show eAdd ⟨s, L, l, o⟩ ⟨k, b⟩ = 2 by unfold eAdd; rw [if_pos (.inl hok)])
    have Hs := Lib.hid (show sAdd ⟨s, L, l, o⟩ ⟨k, b⟩ = ⟨s, L, l, o⟩ from add_err (by rw [He.out]; omega))
    clear hS
    obtain ⟨cz0, cz1, cz2, cz3⟩ := r3_r.cells
    obtain ⟨fz0, fz1, fz2, fz3⟩ := r3_r.froz
    obtain ⟨U, hU, hrU, hkU⟩ := store_end r3_r Try.neP s A1 n c1 l o
    obtain ⟨v0, v1, v2, v3⟩ := hrU.cells
    have HU := Lib.hid hU
    clear hU
    have H := Lib.hid (show APostS w w.heap.size (sAdd ⟨s, L, l, o⟩ ⟨k, b⟩) (eAdd ⟨s, L, l, o⟩ ⟨k, b⟩) (.returned (.tuple #[.agg #[.int .i64 s, .slice A1 n c1, .bool l, .int .i64 o], .int .i64 2])) U by
      rw [He.out, Hs.out]
      exact ⟨A1, n, c1, rfl, ⟨_, hkU.sg _ _ _ _ _ r3_g⟩, hkU.low _ _ l3 (by omega), Fr.of_seg r3_g HG.out⟩)
    clear hkU hrU
    go_wp2_with fail
    rw [HU.out]
    exact bodyPost_ret (v := .tuple #[.agg #[.int .i64 s, .slice A1 n c1, .bool l, .int .i64 o], .int .i64 2]) (by simp [results, Try.results78, go_sem, v0, v1, v2, v3]) rfl H.out
  | true =>
    have Hok := Lib.hid hok
    clear hok
    by_cases hk : 64 ≤ k
    · have hk1 : decide (64 ≤ k) = true := decide_eq_true hk
      have He := Lib.hid (show eAdd ⟨s, L, l, o⟩ ⟨k, b⟩ = 2 by unfold eAdd; rw [if_pos (.inr hk)])
      have Hs := Lib.hid (show sAdd ⟨s, L, l, o⟩ ⟨k, b⟩ = ⟨s, L, l, o⟩ from add_err (by rw [He.out]; omega))
      clear hS
      obtain ⟨cz0, cz1, cz2, cz3⟩ := r3_r.cells
      obtain ⟨fz0, fz1, fz2, fz3⟩ := r3_r.froz
      obtain ⟨U, hU, hrU, hkU⟩ := store_end r3_r Try.neP s A1 n c1 l o
      obtain ⟨v0, v1, v2, v3⟩ := hrU.cells
      have HU := Lib.hid hU
      clear hU
      have H := Lib.hid (show APostS w w.heap.size (sAdd ⟨s, L, l, o⟩ ⟨k, b⟩) (eAdd ⟨s, L, l, o⟩ ⟨k, b⟩) (.returned (.tuple #[.agg #[.int .i64 s, .slice A1 n c1, .bool l, .int .i64 o], .int .i64 2])) U by
        rw [He.out, Hs.out]
        exact ⟨A1, n, c1, rfl, ⟨_, hkU.sg _ _ _ _ _ r3_g⟩, hkU.low _ _ l3 (by omega), Fr.of_seg r3_g HG.out⟩)
      clear hkU hrU
      go_wp2_with fail
      rw [HU.out]
      exact bodyPost_ret (v := .tuple #[.agg #[.int .i64 s, .slice A1 n c1, .bool l, .int .i64 o], .int .i64 2]) (by simp [results, Try.results78, go_sem, v0, v1, v2, v3]) rfl H.out
    have hk1 : decide (64 ≤ k) = false := decide_eq_false hk
    have Hk := Lib.hid hk
    clear hk
    by_cases hs0 : s = 0
    · have hs1 : (s != 0) = false := by simp [hs0]
      have Hs0 := Lib.hid hs0
      clear hs0
      by_cases hf : n = 50
      · have hf1 : ((n : Int) == 50) = true := by simp; omega
        have Hf := Lib.hid hf
        clear hf
        have He := Lib.hid (show eAdd ⟨s, L, l, o⟩ ⟨k, b⟩ = 6 by unfold eAdd; rw [if_neg (fun k => k.elim (fun k => by rw [Hok.out] at k; cases k) Hk.out), if_neg (fun k => k Hs0.out), if_pos (hlen.out.trans Hf.out)])
        have Hs := Lib.hid (show sAdd ⟨s, L, l, o⟩ ⟨k, b⟩ = ⟨s, L, l, o⟩ from add_err (by rw [He.out]; omega))
        clear hS
        obtain ⟨cz0, cz1, cz2, cz3⟩ := r3_r.cells
        obtain ⟨fz0, fz1, fz2, fz3⟩ := r3_r.froz
        obtain ⟨U, hU, hrU, hkU⟩ := store_end r3_r Try.neP s A1 n c1 l o
        obtain ⟨v0, v1, v2, v3⟩ := hrU.cells
        have HU := Lib.hid hU
        clear hU
        have H := Lib.hid (show APostS w w.heap.size (sAdd ⟨s, L, l, o⟩ ⟨k, b⟩) (eAdd ⟨s, L, l, o⟩ ⟨k, b⟩) (.returned (.tuple #[.agg #[.int .i64 s, .slice A1 n c1, .bool l, .int .i64 o], .int .i64 6])) U by
          rw [He.out, Hs.out]
          exact ⟨A1, n, c1, rfl, ⟨_, hkU.sg _ _ _ _ _ r3_g⟩, hkU.low _ _ l3 (by omega), Fr.of_seg r3_g HG.out⟩)
        clear hkU hrU
        go_wp2_with fail
        rw [HU.out]
        exact bodyPost_ret (v := .tuple #[.agg #[.int .i64 s, .slice A1 n c1, .bool l, .int .i64 o], .int .i64 6]) (by simp [results, Try.results78, go_sem, v0, v1, v2, v3]) rfl H.out
      have hf1 : ((n : Int) == 50) = false := by simp; omega
      have Hf := Lib.hid hf
      clear hf
      have He := Lib.hid (show eAdd ⟨s, L, l, o⟩ ⟨k, b⟩ = 0 by unfold eAdd; rw [if_neg (fun k => k.elim (fun k => by rw [Hok.out] at k; cases k) Hk.out), if_neg (fun k => k Hs0.out), if_neg (fun e => Hf.out (hlen.out.symm.trans e))])
      have Hs := Lib.hid (show sAdd ⟨s, L, l, o⟩ ⟨k, b⟩ = ⟨s, L ++ [⟨k, b⟩], l, o⟩ by unfold sAdd; rw [if_pos He.out])
      obtain ⟨i0, hi0, hz0, hz1, hz2⟩ := info_parts Try.infoD
      have p0 : 0 < 1 := by omega
      have p03 : 0 < 2 := by omega
      obtain ⟨p3, p4⟩ := app2 (n := n) (by omega)
      go_upto_region 8 with fail
      go_wp2_with (at_builtin; refine wpList_append_seg _ rfl (.tmp 31) (.tmp 33) _ rfl 102 i0 _ 2 16 Try.underlying26 hi0 hz0 hz1 hz2 rfl p03 rfl (r3_g.alloc _) ⟨w2.heap.size, 0, none⟩ 1 1 (dc ⟨k, b⟩) rfl rfl (cells_at _ _ (dc ⟨k, b⟩) _ rfl) (dc_one ⟨k, b⟩) p0 p3 p4 ?_; intro A2 c2 G2 w3 n1 m1 r1; refine Stay.mk ?_)
      refine Stay.open_ ?_
      rw [rc_snoc] at n1
      have hGq := Seg.ne_ r3_g r3_q Try.neP
      have hGr := Seg.ne_ r3_g r3_r Try.neP
      have q3 : PB w3 w1.heap.size 40 s A1 n c1 l o := CB.same (CB.alloc r3_q _) (m1.block _ (PB.alloc r3_q _).lt (fun e => hGq e.symm))
      have r3 : PB w3 (w.heap.size + 1 + 1) 40 0 none 0 0 false 0 := CB.same (CB.alloc r3_r _) (m1.block _ (PB.alloc r3_r _).lt (fun e => hGr e.symm))
      have lx := (l3.alloc l3.size (.cells #[.int .u8 k, .int .i64 b] 102))
      have l9 := lx.grown m1 lx.size HG.out
      have HG2 := Lib.hid (r1.ge (B := w.heap.size) lx.size HG.out)
      clear cp0 cp1 cp2 cp3 cq0 cq1 cq2 cq3
      clear cx cy lx hGq hGr m1 r1 r3_p r3_x r3_r r3_d r3_g r3_q l3
      obtain ⟨cq0, cq1, cq2, cq3⟩ := q3.cells
      obtain ⟨fq0, fq1, fq2, fq3⟩ := q3.froz
      obtain ⟨V2, hV2⟩ : ∃ V2, w3.setCell ⟨w1.heap.size, 1, none⟩ (.slice A2 (n + 1) c2) = V2 := ⟨_, rfl⟩
      have q4 : PB V2 w1.heap.size 40 s A2 (n + 1) c2 l o := by rw [← hV2]; exact q3.put1 _ _ _
      have kV2 : Kept w1.heap.size w3 V2 := by rw [← hV2]; exact Kept.of q3 Try.neP _ _
      have r4 : PB V2 (w.heap.size + 1 + 1) 40 0 none 0 0 false 0 := kV2.cb _ _ _ (by have := HN.out; omega) r3
      have n4 := kV2.sg _ _ _ _ _ n1
      have l10 := kV2.low _ _ l9 (by have := HN.out; omega)
      have HV2 := Lib.hid hV2
      clear hV2
      go_upto_region 9 with fail
      rw [HV2.out]
      clear kV2 q3 r3 n1 l9
      clear cq0 cq1 cq2 cq3
      clear fq0 fq1 fq2 fq3
      obtain ⟨cq0, cq1, cq2, cq3⟩ := q4.cells
      obtain ⟨cz0, cz1, cz2, cz3⟩ := r4.cells
      obtain ⟨fz0, fz1, fz2, fz3⟩ := r4.froz
      obtain ⟨U, hU, hrU, hkU⟩ := store_end r4 Try.neP s A2 (n + 1) c2 l o
      obtain ⟨v0, v1, v2, v3⟩ := hrU.cells
      have HU := Lib.hid hU
      clear hU
      have H := Lib.hid (show APostS w w.heap.size (sAdd ⟨s, L, l, o⟩ ⟨k, b⟩) (eAdd ⟨s, L, l, o⟩ ⟨k, b⟩) (.returned (.tuple #[.agg #[.int .i64 s, .slice A2 (n + 1) c2, .bool l, .int .i64 o], .int .i64 0])) U by
        rw [He.out, Hs.out]
        exact ⟨A2, n + 1, c2, rfl, ⟨_, hkU.sg _ _ _ _ _ n4⟩, hkU.low _ _ l10 (by omega), Fr.of_seg n4 HG2.out⟩)
      clear hkU hrU
      go_wp2_with fail
      rw [HU.out]
      exact bodyPost_ret (v := .tuple #[.agg #[.int .i64 s, .slice A2 (n + 1) c2, .bool l, .int .i64 o], .int .i64 0]) (by simp [results, Try.results78, go_sem, v0, v1, v2, v3]) rfl H.out
    · have hs1 : (s != 0) = true := by simp [hs0]
      have Hs0 := Lib.hid hs0
      clear hs0
      have He := Lib.hid (show eAdd ⟨s, L, l, o⟩ ⟨k, b⟩ = 13 by unfold eAdd; rw [if_neg (fun k => k.elim (fun k => by rw [Hok.out] at k; cases k) Hk.out), if_pos Hs0.out])
      have Hs := Lib.hid (show sAdd ⟨s, L, l, o⟩ ⟨k, b⟩ = ⟨s, L, l, o⟩ from add_err (by rw [He.out]; omega))
      clear hS
      obtain ⟨cz0, cz1, cz2, cz3⟩ := r3_r.cells
      obtain ⟨fz0, fz1, fz2, fz3⟩ := r3_r.froz
      obtain ⟨U, hU, hrU, hkU⟩ := store_end r3_r Try.neP s A1 n c1 l o
      obtain ⟨v0, v1, v2, v3⟩ := hrU.cells
      have HU := Lib.hid hU
      clear hU
      have H := Lib.hid (show APostS w w.heap.size (sAdd ⟨s, L, l, o⟩ ⟨k, b⟩) (eAdd ⟨s, L, l, o⟩ ⟨k, b⟩) (.returned (.tuple #[.agg #[.int .i64 s, .slice A1 n c1, .bool l, .int .i64 o], .int .i64 13])) U by
        rw [He.out, Hs.out]
        exact ⟨A1, n, c1, rfl, ⟨_, hkU.sg _ _ _ _ _ r3_g⟩, hkU.low _ _ l3 (by omega), Fr.of_seg r3_g HG.out⟩)
      clear hkU hrU
      go_wp2_with fail
      rw [HU.out]
      exact bodyPost_ret (v := .tuple #[.agg #[.int .i64 s, .slice A1 n c1, .bool l, .int .i64 o], .int .i64 13]) (by simp [results, Try.results78, go_sem, v0, v1, v2, v3]) rfl H.out
end Go.Proofs.Ytealcccjnmfkcaa
