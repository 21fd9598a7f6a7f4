/-
  Theirs, Ours and same of layer 6's laws. Condition: the timers can be read, a hundred thousand at most.
-/
import Derived.Test.YtgpmgghjcocfmaaWhG
set_option linter.unusedVariables false
set_option linter.unusedSimpArgs false
namespace Go.Proofs.Ytgpmgghjcocfmaa
open Go.RowKit

/-- While a wheel is made of another one: the boxes of the argument, of the result, and of the wheel so far. -/
structure TI (w : World) (Ts Td Te : TypeId) (now : Int) (A : Option Addr) (n c : Nat) (M : List (Int × Int)) (W : World) : Prop where
  bs : Box W w.heap.size Ts now A n c
  br : Box W (w.heap.size + 1) Td 0 none 0 0
  out : ∃ A' m c' G, Box W (w.heap.size + 1 + 1) Td now A' m c' ∧ Seg W Te 2 A' m c' (tc M) G ∧ ∀ g, G = some g → w.heap.size + 3 ≤ g
  low : Below w.heap.size w W
  size : w.heap.size + 3 ≤ W.heap.size
section
variable {w : World} {Ts Td Te : TypeId} {now : Int} {A : Option Addr} {n c : Nat} {M : List (Int × Int)} {W W' : World}
theorem TI.on (h : TI w Ts Td Te now A n c M W) (hb : Below W.heap.size W W') : TI w Ts Td Te now A n c M W' := by
  obtain ⟨A', m, c', G, h1, h2, h3⟩ := h.out
  exact ⟨h.bs.on hb h.bs.lt, h.br.on hb h.br.lt, ⟨A', m, c', G, h1.on hb h1.lt, h2.keep fun g hg => hb.block g (h2.lt g hg), h3⟩, bel2B h.low h.low.size hb, Nat.le_trans h.size hb.size⟩
theorem TI.app (h : TI w Ts Td Te now A n c M W) {A0 : Option Addr} {m c0 : Nat} {G : Option Nat} (hs : Seg W Te 2 A0 m c0 (tc M) G) (hG : ∀ g, G = some g → w.heap.size + 3 ≤ g) {o : Obj} {M' : List (Int × Int)}
    {A1 : Option Addr} {N c1 : Nat} {G1 : Option Nat} {w1 : World} (n1 : Seg w1 Te 2 A1 N c1 (tc M') G1) (n2 : (W.alloc o).grownBy w1 G) (n3 : Moved (W.alloc o) G G1) (bo : Box w1 (w.heap.size + 1 + 1) Td now A0 m c0) :
    TI w Ts Td Te now A n c M' (w1.setCell ⟨w.heap.size + 1 + 1, 1, none⟩ (.slice A1 N c1)) := by
  have hsz := h.size
  have hb1 : Box w1 w.heap.size Ts now A n c := CB.same (h.bs.alloc o) (n2.block _ (h.bs.alloc o).lt (fun e => by have := hG _ e.symm; omega))
  have hb2 : Box w1 (w.heap.size + 1) Td 0 none 0 0 := CB.same (h.br.alloc o) (n2.block _ (h.br.alloc o).lt (fun e => by have := hG _ e.symm; omega))
  have hG1 : ∀ g, G1 = some g → w.heap.size + 3 ≤ g := n3.ge (by simp; omega) hG
  have hl : Below w.heap.size w w1 := (h.low.alloc h.low.size o).grown n2 (by simp; omega) (fun g hg => by have := hG g hg; omega)
  refine ⟨hb1.far1 (by omega) 1 _, hb2.far1 (by omega) 1 _, ⟨A1, N, c1, G1, bo.put1 A1 N c1, n1.far (p := ⟨w.heap.size + 1 + 1, 1, none⟩) (fun e => by have := hG1 _ e; simp only at this; omega) _, hG1⟩, hl.setCell (p := ⟨w.heap.size + 1 + 1, 1, none⟩) (by simp; omega) _, ?_⟩
  have := n2.size
  simp [World.setCell] at this ⊢
  omega
end

set_option maxRecDepth 100000 in
set_option maxHeartbeats 2000000 in
theorem theirs_c (now : Int) (A : Option Addr) (n c : Nat) (L : List (Int × Int)) (w : World) (h : TR w A n c L) (hn : n ≤ 100000) :
    Calls Try.prog 12 #[.agg #[.int .i64 now, .slice A n c]] w (DPost w 28 66 now L) := by
  have hlen := Lib.hid h.len
  obtain ⟨i0, hi0, hz0, hz1, hz2⟩ := info_parts Try.infoW
  obtain ⟨W2, hW2, ha, hbox, hbl, hS⟩ := two_boxes w 24 28 now A n c
  obtain ⟨W, hW, bo, kW⟩ := boxed W2 28 now none 0 0
  have bo' : Box W (w.heap.size + 1 + 1) 28 now none 0 0 := by rw [hS.out] at bo; exact bo
  have HW := Lib.hid (show ((w.alloc (.cells #[.int .i64 now, .slice A n c] 24)).alloc (.cells #[.int .i64 0, .slice none 0 0] 28)).alloc (.cells #[.int .i64 now, .slice none 0 0] 28) = W by rw [← hW2, hW])
  have hsz : W.heap.size = w.heap.size + 3 := by rw [← hW]; simp; exact hS.out
  have hT0 : TI w 24 28 66 now A n c [] W := ⟨ha.on kW ha.lt, hbox.on kW hbox.lt, ⟨none, 0, 0, none, bo', Seg.nil _ _ _, fun g e => by cases e⟩, bel2 hbl kW, by omega⟩
  have HT0 := Lib.hid hT0
  obtain ⟨d0, d1⟩ := hT0.bs.cells
  clear hW2 hW ha hbox hbl hS bo bo' kW hsz hT0
  go_enter Try.func12, Try.ntmps12
  go_wp2_with fail
  rw [HW.out]
  clear HW d0 d1
  go_loopw [12] (fun i wr => ∃ j : Nat, j ≤ n ∧ i = .int .i64 j ∧ TI w 24 28 66 now A n c (L.take j) wr) (fun i _ => n - (intOf i).toNat)
  case atStart => exact ⟨0, by omega, rfl, HT0.out⟩
  case round =>
    clear HT0
    obtain ⟨j, hj, rfl, hti⟩ := hrel
    obtain ⟨A0, m, c0, G, bo, hsg, hG⟩ := hti.out
    obtain ⟨o0, o1⟩ := bo.cells
    by_cases hlt : j < n
    · obtain ⟨g, off, rfl, _, e1, e2⟩ := (h.on hti.low).at_ hlt
      have hjl : j < L.length := by rw [hlen.out]; exact hlt
      have htk := Lib.hid (tk_take (L := L) hjl)
      have hm : m ≤ j := by have q1 := tc_len2 hsg; rw [List.length_take] at q1; omega
      generalize tk L j = x at *
      obtain ⟨xk, xv⟩ := x
      simp only at e1 e2
      have p0 : 0 < 1 := by omega
      have p02 : 0 < 2 := by omega
      have p3 : m + 1 ≤ maxLen := by simp only [maxLen]; omega
      have p4 : (m + 1) * 16 ≤ 140737488355328 := by omega
      have hsz := hti.size
      obtain ⟨V1, hV1⟩ : ∃ V1, wr.alloc (.cells #[.int .i64 xk, .int .i64 xv] 46) = V1 := ⟨_, rfl⟩
      have k1 : Below wr.heap.size wr V1 := by rw [← hV1]; exact (Below.refl _ _).alloc (Nat.le_refl _) _
      have x0 : V1.cell? ⟨wr.heap.size, 0, none⟩ = some (.int .i64 xk) := by rw [← hV1]; exact (CB.new wr 46 #[.int .i64 xk, .int .i64 xv]).cell 0
      have x1 : V1.cell? ⟨wr.heap.size, 1, none⟩ = some (.int .i64 xv) := by rw [← hV1]; exact (CB.new wr 46 #[.int .i64 xk, .int .i64 xv]).cell 1
      have hti1 := hti.on k1
      have hsg1 : Seg V1 66 2 A0 m c0 (tc (L.take j)) G := hsg.keep fun k hk => k1.block k (hsg.lt k hk)
      have bo1 := bo.on k1 bo.lt
      obtain ⟨q0, q1⟩ := (bo.alloc (.cells #[.int .i64 xk, .int .i64 xv] 46)).cells
      have HV1 := Lib.hid hV1
      clear hV1 k1 hsg bo
      go_wp2_with (first | (at_builtin; rw [HV1.out]; refine wpList_append_seg _ rfl (.tmp 17) (.tmp 19) _ rfl 66 i0 _ 2 16 Try.underlying26 hi0 hz0 hz1 hz2 rfl p02 rfl (hsg1.alloc _) ⟨wr.heap.size + 1, 0, none⟩ 1 1 [.int .i64 xk, .int .i64 xv] rfl rfl (cell_two_at _ _ _ _ _ (by rw [← HV1.out]; simp)) (two_one _ _) p0 p3 p4 ?_; intro A1 c1 G1 w7 n1 m1 r1; refine Stay.mk ?_))
      refine Stay.open_ ?_
      rw [tc_snoc, ← htk.out] at n1
      have hn7 := hti1.app hsg1 hG n1 m1 r1
      have bo7 : Box w7 (w.heap.size + 1 + 1) 28 now A0 m c0 := CB.same (bo1.alloc _) (m1.block _ (bo1.alloc _).lt (fun e => by have := hG _ e.symm; omega))
      obtain ⟨y0, y1⟩ := bo7.cells
      obtain ⟨f0, f1⟩ := bo7.froz
      have Hn := Lib.hid (hn7 bo7)
      clear hn7 bo7 bo1 hti1 hti hsg1 n1 m1 r1 e1 e2 x0 x1 o0 o1 q0 q1
      go_wp2_with fail
      go_roundw
      case rel => exact ⟨j + 1, by omega, by go_num, Hn.out⟩
      case measure => simp [intOf]; omega
    · obtain rfl : j = n := by omega
      have hte : L.take j = L := List.take_of_length_le (by rw [hlen.out]; exact Nat.le_refl _)
      rw [hte] at hsg
      have rb := hti.br
      have hbl := hti.low
      have hTS : TS wr 66 A0 m c0 L := ⟨h.wf, G, hsg⟩
      obtain ⟨z0, z1⟩ := rb.cells
      obtain ⟨f0, f1⟩ := rb.froz
      obtain ⟨w9, hw9, b9, _, _, kb, _, kt, _, _⟩ := store_end rb now A0 m c0
      have hx9 := kt _ _ _ _ _ (by decide) hTS
      have hb9 := kb _ _ hbl (show w.heap.size ≤ w.heap.size + 1 by omega)
      obtain ⟨v0, v1⟩ := b9.cells
      have Hw9 := Lib.hid hw9
      clear hw9 kb kt b9 hsg hTS hte rb hbl hti bo
      go_wp2_with fail
      rw [Hw9.out]
      exact bodyPost_ret (v := .agg #[.int .i64 now, .slice A0 m c0]) (by simp [results, Try.results12, go_sem, v0, v1]) rfl ⟨A0, m, c0, rfl, hx9, hb9⟩

set_option maxRecDepth 100000 in
set_option maxHeartbeats 2000000 in
theorem ours_c (now : Int) (A : Option Addr) (n c : Nat) (L : List (Int × Int)) (w : World) (h : TR w A n c L) (hn : n ≤ 100000) :
    Calls Try.prog 22 #[.agg #[.int .i64 now, .slice A n c]] w (DPost w 24 46 now L) := by
  have hlen := Lib.hid h.len
  obtain ⟨i0, hi0, hz0, hz1, hz2⟩ := info_parts Try.infoR
  obtain ⟨W2, hW2, ha, hbox, hbl, hS⟩ := two_boxes w 28 24 now A n c
  obtain ⟨W, hW, bo, kW⟩ := boxed W2 24 now none 0 0
  have bo' : Box W (w.heap.size + 1 + 1) 24 now none 0 0 := by rw [hS.out] at bo; exact bo
  have HW := Lib.hid (show ((w.alloc (.cells #[.int .i64 now, .slice A n c] 28)).alloc (.cells #[.int .i64 0, .slice none 0 0] 24)).alloc (.cells #[.int .i64 now, .slice none 0 0] 24) = W by rw [← hW2, hW])
  have hsz : W.heap.size = w.heap.size + 3 := by rw [← hW]; simp; exact hS.out
  have hT0 : TI w 28 24 46 now A n c [] W := ⟨ha.on kW ha.lt, hbox.on kW hbox.lt, ⟨none, 0, 0, none, bo', Seg.nil _ _ _, fun g e => by cases e⟩, bel2 hbl kW, by omega⟩
  have HT0 := Lib.hid hT0
  obtain ⟨d0, d1⟩ := hT0.bs.cells
  clear hW2 hW ha hbox hbl hS bo bo' kW hsz hT0
  go_enter Try.func22, Try.ntmps22
  go_wp2_with fail
  rw [HW.out]
  clear HW d0 d1
  go_loopw [12] (fun i wr => ∃ j : Nat, j ≤ n ∧ i = .int .i64 j ∧ TI w 28 24 46 now A n c (L.take j) wr) (fun i _ => n - (intOf i).toNat)
  case atStart => exact ⟨0, by omega, rfl, HT0.out⟩
  case round =>
    clear HT0
    obtain ⟨j, hj, rfl, hti⟩ := hrel
    obtain ⟨A0, m, c0, G, bo, hsg, hG⟩ := hti.out
    obtain ⟨o0, o1⟩ := bo.cells
    by_cases hlt : j < n
    · obtain ⟨g, off, rfl, _, e1, e2⟩ := (h.on hti.low).at_ hlt
      have hjl : j < L.length := by rw [hlen.out]; exact hlt
      have htk := Lib.hid (tk_take (L := L) hjl)
      have hm : m ≤ j := by have q1 := tc_len2 hsg; rw [List.length_take] at q1; omega
      generalize tk L j = x at *
      obtain ⟨xk, xv⟩ := x
      simp only at e1 e2
      have p0 : 0 < 1 := by omega
      have p02 : 0 < 2 := by omega
      have p3 : m + 1 ≤ maxLen := by simp only [maxLen]; omega
      have p4 : (m + 1) * 16 ≤ 140737488355328 := by omega
      have hsz := hti.size
      obtain ⟨V1, hV1⟩ : ∃ V1, wr.alloc (.cells #[.int .i64 xk, .int .i64 xv] 66) = V1 := ⟨_, rfl⟩
      have k1 : Below wr.heap.size wr V1 := by rw [← hV1]; exact (Below.refl _ _).alloc (Nat.le_refl _) _
      have x0 : V1.cell? ⟨wr.heap.size, 0, none⟩ = some (.int .i64 xk) := by rw [← hV1]; exact (CB.new wr 66 #[.int .i64 xk, .int .i64 xv]).cell 0
      have x1 : V1.cell? ⟨wr.heap.size, 1, none⟩ = some (.int .i64 xv) := by rw [← hV1]; exact (CB.new wr 66 #[.int .i64 xk, .int .i64 xv]).cell 1
      have hti1 := hti.on k1
      have hsg1 : Seg V1 46 2 A0 m c0 (tc (L.take j)) G := hsg.keep fun k hk => k1.block k (hsg.lt k hk)
      have bo1 := bo.on k1 bo.lt
      obtain ⟨q0, q1⟩ := (bo.alloc (.cells #[.int .i64 xk, .int .i64 xv] 66)).cells
      have HV1 := Lib.hid hV1
      clear hV1 k1 hsg bo
      go_wp2_with (first | (at_builtin; rw [HV1.out]; refine wpList_append_seg _ rfl (.tmp 17) (.tmp 19) _ rfl 46 i0 _ 2 16 Try.underlying22 hi0 hz0 hz1 hz2 rfl p02 rfl (hsg1.alloc _) ⟨wr.heap.size + 1, 0, none⟩ 1 1 [.int .i64 xk, .int .i64 xv] rfl rfl (cell_two_at _ _ _ _ _ (by rw [← HV1.out]; simp)) (two_one _ _) p0 p3 p4 ?_; intro A1 c1 G1 w7 n1 m1 r1; refine Stay.mk ?_))
      refine Stay.open_ ?_
      rw [tc_snoc, ← htk.out] at n1
      have hn7 := hti1.app hsg1 hG n1 m1 r1
      have bo7 : Box w7 (w.heap.size + 1 + 1) 24 now A0 m c0 := CB.same (bo1.alloc _) (m1.block _ (bo1.alloc _).lt (fun e => by have := hG _ e.symm; omega))
      obtain ⟨y0, y1⟩ := bo7.cells
      obtain ⟨f0, f1⟩ := bo7.froz
      have Hn := Lib.hid (hn7 bo7)
      clear hn7 bo7 bo1 hti1 hti hsg1 n1 m1 r1 e1 e2 x0 x1 o0 o1 q0 q1
      go_wp2_with fail
      go_roundw
      case rel => exact ⟨j + 1, by omega, by go_num, Hn.out⟩
      case measure => simp [intOf]; omega
    · obtain rfl : j = n := by omega
      have hte : L.take j = L := List.take_of_length_le (by rw [hlen.out]; exact Nat.le_refl _)
      rw [hte] at hsg
      have rb := hti.br
      have hbl := hti.low
      have hTS : TS wr 46 A0 m c0 L := ⟨h.wf, G, hsg⟩
      obtain ⟨z0, z1⟩ := rb.cells
      obtain ⟨f0, f1⟩ := rb.froz
      obtain ⟨w9, hw9, b9, _, _, kb, _, kt, _, _⟩ := store_end rb now A0 m c0
      have hx9 := kt _ _ _ _ _ (by decide) hTS
      have hb9 := kb _ _ hbl (show w.heap.size ≤ w.heap.size + 1 by omega)
      obtain ⟨v0, v1⟩ := b9.cells
      have Hw9 := Lib.hid hw9
      clear hw9 kb kt b9 hsg hTS hte rb hbl hti bo
      go_wp2_with fail
      rw [Hw9.out]
      exact bodyPost_ret (v := .agg #[.int .i64 now, .slice A0 m c0]) (by simp [results, Try.results22, go_sem, v0, v1]) rfl ⟨A0, m, c0, rfl, hx9, hb9⟩

set_option maxRecDepth 100000 in
set_option maxHeartbeats 1000000 in
theorem same_i (A A' : Option Addr) (n c n' c' : Nat) (l : List Int) (w : World) (h1 : IS w A n c l) (h2 : IS w A' n' c' l) :
    Calls Try.prog 23 #[.slice A n c, .slice A' n' c'] w fun e w' => e = .returned (.bool true) ∧ Below w.heap.size w w' := by
  obtain rfl : n = n' := h1.len.symm.trans h2.len
  have hmx := h1.max
  simp only [maxLen] at hmx
  have hnn : ((n : Int) != (n : Int)) = false := by simp
  go_enter Try.func23, Try.ntmps23
  go_wp2_with fail
  go_loopw [13] (fun i wr => ∃ j : Nat, j ≤ n ∧ i = .int .i64 j ∧ Below w.heap.size w wr) (fun i _ => n - (intOf i).toNat)
  case atStart => exact ⟨0, by omega, rfl, Below.refl _ _⟩
  case round =>
    obtain ⟨j, hj, rfl, hlow⟩ := hrel
    by_cases hlt : j < n
    · obtain ⟨g, off, rfl, d1⟩ := (h1.on hlow).at_ hlt
      obtain ⟨g', off', rfl, d2⟩ := (h2.on hlow).at_ hlt
      generalize l[j]?.getD 0 = x at *
      have hxx : ((x : Int) != x) = false := by simp
      go_wp2_with fail
      go_quiet (fail)
      have hl2 := Lib.hid (belowN hlow nq)
      clear hlow d1 d2
      go_wp2_with fail
      go_roundw
      case rel => exact ⟨j + 1, by omega, by go_num, hl2.out⟩
      case measure => simp [intOf]; omega
    · obtain rfl : j = n := by omega
      go_wp2_with fail
      go_ret
      exact ⟨rfl, hlow⟩
end Go.Proofs.Ytgpmgghjcocfmaa
