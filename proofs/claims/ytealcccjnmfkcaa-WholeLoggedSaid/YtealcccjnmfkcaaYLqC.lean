/-
  copyOf, Free and put of package lock. Condition: the holds can be read, a hundred thousand at most; for put: they stand in order.
-/
import Derived.Test.YtealcccjnmfkcaaYLqB
set_option linter.unusedVariables false
set_option linter.unusedSimpArgs false
namespace Go.Proofs.Ytealcccjnmfkcaa
open Go.RowKit

abbrev LPostk (w : World) (L : List Hd) (e : Ending) (w' : World) : Prop := RPost w 166 hc 3 L e w'
abbrev DPost (w : World) (L : List Hd) (e : Ending) (w' : World) : Prop := RPost w 172 hc 3 L e w'
theorem hc_one (x : Hd) : ∀ u ∈ hc x, u.oneCell' = true := encOne (c := hc) 3 x
theorem app3 {n : Nat} (h : n ≤ 200000) : n + 1 ≤ maxLen ∧ (n + 1) * 24 ≤ 140737488355328 := by simp only [maxLen]; omega

set_option maxHeartbeats 400000 in
theorem copyK_c (A : Option Addr) (n c : Nat) (L : List Hd) (w : World) (h : HR w A n c L) (hn : n ≤ 100000) :
    Calls Try.prog 111 #[.slice A n c] w (LPostk w L) := by
  obtain ⟨i0, hi0, hz0, hz1, hz2⟩ := info_parts Try.infoH
  have p1 : 0 + n ≤ maxLen := by simp only [maxLen]; omega
  have p2 : (0 + n) * 24 ≤ 140737488355328 := by omega
  have p03 : 0 < 3 := by omega
  have hsrc := h.src
  have hz := Nat.zero_add n
  clear h
  go_enter Try.func111, Try.ntmps111
  go_wp2_with (at_builtin; refine wpList_append_src _ rfl (.const (.slice none 0 0)) (.tmp 3) _ rfl 166 i0 _ 3 24 Try.underlying60 hi0 hz0 hz1 hz2 rfl p03 rfl (Seg.nil w _ _) rfl hsrc (rc_one 3 _) p1 p2 n hz ?_; intro A1 c1 G1 w1 hs1 hg1 hm1)
  rw [List.nil_append] at hs1
  have H := Lib.hid (OS.app (w := w) (Below.refl _ _) (fun g e => by cases e) hs1 hg1 hm1)
  clear hs1 hg1 hm1 hsrc
  go_wp2_with fail
  go_ret
  exact RPost.of_os H.out

set_option maxRecDepth 100000 in
set_option maxHeartbeats 1000000 in
theorem free_c (A : Option Addr) (n c : Nat) (tx : Int) (L : List Hd) (w : World) (h : HR w A n c L) (hn : n ≤ 100000) :
    Calls Try.prog 80 #[.slice A n c, .int .i64 tx] w (LPostk w (fre L tx)) := by
  have hlen := Lib.hid h.len
  obtain ⟨i0, hi0, hz0, hz1, hz2⟩ := info_parts Try.infoH
  go_enter Try.func80, Try.ntmps80
  go_wp2_with fail
  go_loopw [5, 10] (fun v i wr => ∃ j : Nat, j ≤ n ∧ i = .int .i64 j ∧ OS w 166 3 (rc hc (fre (L.take j) tx)) v wr) (fun _ i _ => n - (intOf i).toNat)
  case atStart => exact ⟨0, by omega, rfl, OS.start w _ _ (Below.refl _ _)⟩
  case round =>
    obtain ⟨j, hj, rfl, hos⟩ := hrel
    by_cases hlt : j < n
    · obtain ⟨g, off, rfl, d1, d2, d3⟩ := (h.on hos.low).at3 hlt
      have htk := Lib.hid (tkK_take (L := L) (j := j) (by rw [hlen.out]; exact hlt))
      generalize tkK L j = x at *
      have hlow := hos.low.alloc hos.low.size (.cells #[.int .u8 x.k, .int .i64 x.t, .bool x.w] 166)
      have hml := Lib.hid (show (fre (L.take j) tx).length ≤ j by have := (fre_sub (L.take j) tx).length_le; rw [List.length_take] at this; omega)
      obtain ⟨A0, m, c0, G, rfl, hsg, hG⟩ := hos.out
      have hm := hml.out
      rw [rc_len hsg] at hm
      by_cases hx : x.t = tx
      · have Hnx := Lib.hid (show fre (L.take (j + 1)) tx = fre (L.take j) tx by rw [htk.out]; exact fre_skip hx)
        have hne : (x.t != tx) = false := by simp [hx]
        have hnos := Lib.hid (hos.on (belA _ (.cells #[.int .u8 x.k, .int .i64 x.t, .bool x.w] 166)))
        clear hx hlow hsg hos hG
        go_wp2_with fail
        go_roundw
        case rel => exact ⟨j + 1, by omega, by go_num, by rw [Hnx.out]; exact hnos.out⟩
        case measure => simp [intOf]; omega
      · have Hnx := Lib.hid (show fre (L.take (j + 1)) tx = fre (L.take j) tx ++ [x] by rw [htk.out]; exact fre_more hx)
        have hne : (x.t != tx) = true := by simp [hx]
        have p0 : 0 < 1 := by omega
        have p03 : 0 < 3 := by omega
        obtain ⟨p3, p4⟩ := app3 (n := m) (by omega)
        have hlow2 := Lib.hid (hlow.alloc hlow.size (.cells #[.int .u8 x.k, .int .i64 x.t, .bool x.w] 166))
        clear hx hlow hos hml
        generalize fre (L.take j) tx = M at *
        go_wp2_with (at_builtin; refine wpList_append_seg _ rfl (.tmp 18) (.tmp 20) _ rfl 166 i0 _ 3 24 Try.underlying60 hi0 hz0 hz1 hz2 rfl p03 rfl ((hsg.alloc _).alloc _) ⟨wr.heap.size + 1, 0, none⟩ 1 1 (hc x) rfl rfl (cells_at _ _ (hc x) _ (by simp)) (hc_one x) p0 p3 p4 ?_; intro A1 c1 G1 w1 n1 m1 r1)
        rw [rc_snoc] at n1
        have hnext := Lib.hid (OS.app hlow2.out hG n1 m1 r1)
        clear hsg n1 m1 r1 d1 d2 d3 hlow2
        go_wp2_with fail
        go_roundw
        case rel => exact ⟨j + 1, by omega, by go_num, by rw [Hnx.out]; exact hnext.out⟩
        case measure => simp [intOf]; omega
    · obtain rfl : j = n := by omega
      rw [List.take_of_length_le (by rw [hlen.out]; exact Nat.le_refl _)] at hos
      have Hos := Lib.hid hos
      obtain ⟨A0, m, c0, G, rfl, hsg, hG⟩ := hos.out
      clear hos hsg h
      go_wp2_with fail
      go_ret
      exact RPost.of_os Hos.out

set_option maxRecDepth 100000 in
set_option maxHeartbeats 2000000 in
theorem putK_c (A : Option Addr) (n c : Nat) (o : Hd) (L : List Hd) (w : World) (h : HR w A n c L) (hn : n ≤ 100000) (ho : L.Pairwise bef) :
    Calls Try.prog 115 #[.slice A n c, hv o] w (LPostk w (putT o L)) := by
  obtain ⟨i0, hi0, hz0, hz1, hz2⟩ := info_parts Try.infoH
  obtain ⟨W, hW⟩ : ∃ W, w.alloc (.cells #[.int .u8 o.k, .int .i64 o.t, .bool o.w] 166) = W := ⟨_, rfl⟩
  have hbW : Below w.heap.size w W := by rw [← hW]; exact belA w _
  have c1 : CB W w.heap.size 166 #[.int .u8 o.k, .int .i64 o.t, .bool o.w] := by rw [← hW]; exact CB.new w _ _
  have hmf : ∀ (fn : Fn) (first cap : Array Value) (w : World), (Instr.makeFunc fn first cap).run Try.prog w = .ok (.func fn first cap) w := fun _ _ _ _ => rfl
  have hTl : Tells W 123 #[.pointer (some ⟨w.heap.size, 0, none⟩)] (fun p => !befB p o) := fun V x hV => ge_c o x w.heap.size V _ (c1.same (hV.block _ c1.lt))
  have hE : Enters Try.prog 123 := enters_of Try.func123 (by kernel_rfl) rfl
  have hf := first_c _ _ _ A n c L W (h.on hbW) hn hE hTl
  have hE2 : Enters Try.prog 125 := enters_of Try.func125 (by kernel_rfl) rfl
  have Hres := Lib.hid (put_fi (o := o) ho)
  have hle : L.findIdx (fun p => !befB p o) ≤ n := by have := List.findIdx_le_length (p := fun p => !befB p o) (xs := L); rw [h.len] at this; exact this
  have hle2 : L.findIdx (fun p => befB o p) ≤ n := by have := List.findIdx_le_length (p := fun p => befB o p) (xs := L); rw [h.len] at this; exact this
  have HW := Lib.hid hW
  clear hW hE hTl ho
  go_enter Try.func115, Try.ntmps115
  go_wp2_with fail
  rw [HW.out]
  refine hf.mono ?_
  rintro e w1 ⟨rfl, hb1⟩
  have d1 := c1.same (hb1.block _ c1.lt)
  have hbb := bel2 hbW hb1
  have hTl : Tells w1 125 #[.pointer (some ⟨w.heap.size, 0, none⟩)] (fun p => befB o p) := fun V x hV => lt_c o x w.heap.size V _ (d1.same (hV.block _ d1.lt))
  have hf2 := first_c _ _ _ A n c L w1 (h.on hbb) hn hE2 hTl
  clear hf hb1 hbW HW c1
  generalize L.findIdx (fun p => !befB p o) = i at *
  go_wp2_with fail
  refine hf2.mono ?_
  rintro e w2 ⟨rfl, hb2⟩
  have d2 := d1.same (hb2.block _ d1.lt)
  have hbc := bel2 hbb hb2
  clear hf2 hb2 hbb d1 hTl hE2 hmf
  generalize L.findIdx (fun p => befB o p) = k at *
  have hmk : ∃ A1 w3 G1, (Instr.makeSlice 60 (.int .i64 0) (.int .i64 ((n : Int) + 1))).run Try.prog w2 = .ok (.slice A1 0 (n + 1)) w3 ∧ Seg w3 166 3 A1 0 (n + 1) (rc hc []) G1 ∧ (∀ g, G1 = some g → w2.heap.size ≤ g) ∧ Below w2.heap.size w2 w3 := by
    obtain ⟨w3, hrun, hseg1, hg1⟩ := run_make_seg (P := Try.prog) w2 60 166 i0 _ 3 Try.underlying60 hi0 hz0 hz1 (n + 1) (by rw [hz2]; omega) (by simp only [maxLen]; omega)
    refine ⟨_, w3, _, ?_, hseg1, fun g e => by cases e; exact Nat.le_refl _, grown_below hg1 (Nat.le_refl _) (fun g e => by cases e)⟩
    exact hrun
  obtain ⟨A1, w3, G1, hrun, hs1, hG1, hb3⟩ := hmk
  have hbd := bel2 hbc hb3
  have d3 := d2.same (hb3.block _ d2.lt)
  have hr3 := h.on hbd
  have hG1' : ∀ g, G1 = some g → w.heap.size < g := fun g hg => by have := hG1 g hg; have := d2.lt; omega
  have hG1s : ∀ g, G1 = some g → w.heap.size + 1 ≤ g := fun g hg => hG1' g hg
  have hcut1 : ∀ V, (Instr.slice 60 (.slice A n c) none (some (.int .i64 (i : Int))) none).run Try.prog V = .ok (.slice A i c) V := fun V => run_cut_upto _ _ Try.underlying60 3 size_H A n c i (by have := h.cap; omega) V
  obtain ⟨A2, hA2⟩ : ∃ A2, (if c = k then A else A.map (·.add (k * 3))) = A2 := ⟨_, rfl⟩
  have hcut2 : ∀ V, (Instr.slice 60 (.slice A n c) (some (.int .i64 (k : Int))) none none).run Try.prog V = .ok (.slice A2 (n - k) (c - k)) V := fun V => by rw [← hA2]; exact run_cut_from _ _ Try.underlying60 3 size_H A n c k hle2 V
  have hsr2 := h.cut hle2
  rw [hA2] at hsr2
  have hsr1 := (hr3.upto hle).src
  have Hsr2 := Lib.hid hsr2
  have p0 : 0 < 1 := by omega
  have p03 : 0 < 3 := by omega
  have q1 : 0 + i ≤ maxLen := by simp only [maxLen]; omega
  have q2 : (0 + i) * 24 ≤ 140737488355328 := by omega
  have q3 : i + 1 ≤ maxLen := by simp only [maxLen]; omega
  have q4 : (i + 1) * 24 ≤ 140737488355328 := by omega
  have q5 : i + 1 + (n - k) ≤ maxLen := by simp only [maxLen]; omega
  have q6 : (i + 1 + (n - k)) * 24 ≤ 140737488355328 := by omega
  have z0 := Nat.zero_add i
  clear hA2 hsr2 hr3 hG1 hG1' hb3 hbc d2
  go_wp2_with (at_builtin; refine wpList_append_src _ rfl (.tmp 18) (.tmp 21) _ rfl 166 i0 _ 3 24 Try.underlying60 hi0 hz0 hz1 hz2 rfl p03 rfl hs1 rfl hsr1 (rc_one 3 _) q1 q2 i z0 ?_; intro A4 c4 G4 w4 hs4 hg4 hm4; refine Stay.mk ?_)
  refine Stay.open_ ?_
  rw [← rc_append, List.nil_append] at hs4
  have hb4 := hbd.grown hg4 hbd.size (fun g hg => by have := hG1s g hg; omega)
  have d4 := d3.same (hg4.block _ d3.lt (fun e => by have := hG1s _ e.symm; omega))
  have hG4 := hm4.ge (B := w.heap.size + 1) d3.lt hG1s
  have e0 := d4.cell 0
  have e1 := d4.cell 1
  have e2 := d4.cell 2
  simp only [List.getElem?_toArray, List.getElem?_cons_zero, List.getElem?_cons_succ] at e0 e1 e2
  clear hrun hs1 hG1s hg4 hm4 hbd d3 hsr1 z0
  go_wp2_with (at_builtin; refine wpList_append_seg _ rfl (.tmp 23) (.tmp 25) _ rfl 166 i0 _ 3 24 Try.underlying60 hi0 hz0 hz1 hz2 rfl p03 rfl (hs4.alloc _) ⟨w4.heap.size, 0, none⟩ 1 1 (hc o) rfl rfl (cells_at _ _ (hc o) _ rfl) (hc_one o) p0 q3 q4 ?_; intro A5 c5 G5 w5 hs5 hg5 hm5; refine Stay.mk ?_)
  refine Stay.open_ ?_
  rw [rc_snoc] at hs5
  have hb5 := (hb4.alloc hb4.size (.cells (hc o).toArray 166)).grown hg5 (by simp; have := hb4.size; omega) (fun g hg => by have := hG4 g hg; omega)
  have hG5 := hm5.ge (B := w.heap.size + 1) (by simp; have := d4.lt; omega) hG4
  have hsr5 := (Hsr2.out.on hb5).src
  clear e0 e1 e2 hs4 hg5 hm5 hb4 d4 hG4 Hsr2
  go_wp2_with (at_builtin; refine wpList_append_src _ rfl (.tmp 27) (.tmp 30) _ rfl 166 i0 _ 3 24 Try.underlying60 hi0 hz0 hz1 hz2 rfl p03 rfl hs5 rfl hsr5 (rc_one 3 _) q5 q6 _ rfl ?_; intro A6 c6 G6 w6 hs6 hg6 hm6; refine Stay.mk ?_)
  refine Stay.open_ ?_
  rw [← rc_append, Hres.out] at hs6
  have hb6 := hb5.grown hg6 hb5.size (fun g hg => by have := hG5 g hg; omega)
  have H := Lib.hid (show LPostk w (putT o L) (.returned (.slice A6 (i + 1 + (n - k)) c6)) w6 from ⟨A6, _, c6, rfl, ⟨G6, hs6⟩, hb6⟩)
  clear hs6 hg6 hm6 hs5 hb5 hb6 hG5 hsr5 hcut1 hcut2
  go_wp2_with fail
  go_ret
  exact H.out
end Go.Proofs.Ytealcccjnmfkcaa
