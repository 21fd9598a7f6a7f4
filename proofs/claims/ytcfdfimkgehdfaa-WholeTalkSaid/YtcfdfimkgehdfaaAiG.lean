/-
  Package air: Turn. Conditions: the air is one that New made; the place is a number of its type.
-/
import Derived.Test.YtcfdfimkgehdfaaAiF
import Derived.Laws.BitsAllLaws
set_option linter.unusedVariables false
set_option linter.unusedSimpArgs false
namespace Go.Proofs.Ytcfdfimkgehdfaa
open Go.RowKit

section
variable {P : Program} {ops : Array Oper} {o : Oper} {a : Act} {w : World} {K : Act → World → Prop} {Q : Exit → Act → World → Prop}
theorem run_slot {P : Program} {w : World} (T : TypeId) (g i : Nat) (v : Value) {u : Value} (hc : w.cell? ⟨g, i, none⟩ = some u) (hf : w.frozen? ⟨g, i, none⟩ = false) (hi : (P.info? T).map (·.size) = some 1) (hv : v.cells = #[v]) (h1 : v.oneCell' = true) :
    (Instr.storeAt T (.pointer (some ⟨g, i, none⟩)) v).run P w = .ok () (w.setCell ⟨g, i, none⟩ v) := by
  cases hq : P.info? T with
  | none => simp [hq] at hi
  | some j =>
    have hj : j.size = 1 := by simpa [hq] using hi
    have hadd : (⟨g, i, none⟩ : Addr).add 0 = ⟨g, i, none⟩ := by rw [Addr.add_mid]; rfl
    simp only [Instr.storeAt, Instr.sureAddr, Sem.run_bind, Sem.run_pure, Result.andThen_ok]
    simp [storeVar, sizeOf, typeInfo, hq, hj, hv, Sem.run_bind, storeCells, hadd, run_store P w _ v _ h1, hc, hf]
/-- A cell is written of which no more is known than that it is there. -/
theorem rd_slot (hgd : o.guard = none) (T : TypeId) (x y : Operand) (ho : o.op = .store T x y) (d : Option Tmp) (hd : o.dst = d) (g i : Nat) (v : Value) (hx : a.eval x = .pointer (some ⟨g, i, none⟩)) (hy : a.eval y = v) {u : Value} (hc : w.cell? ⟨g, i, none⟩ = some u) (hf : w.frozen? ⟨g, i, none⟩ = false)
    (hi : (P.info? T).map (·.size) = some 1) (hv : v.cells = #[v]) (h1 : v.oneCell' = true) (k : Sh (K (a.put d undef) (w.setCell ⟨g, i, none⟩ v))) : if Region.wanted o (yielded ops a.tmps) = true then Oper.wp P o a w K Q else K (a.put o.dst undef) w := by
  subst hd
  rw [if_pos (by simp [Region.wanted, hgd])]
  unfold Oper.wp execOp
  simp only [ho, hx, hy, Sem.run_bind, Sem.run_pure, Result.andThen_ok, run_slot T g i v hc hf hi hv h1]
  exact k.out
end
theorem st_slot {P : Program} {ops : Array Oper} {rest : List Oper} {dst : Option Tmp} {ty : TypeId} {pos : String} {aft : Array Edge} {a : Act} {w : World} {Q : Exit → Act → World → Prop} (T : TypeId) (x y : Operand) (g i : Nat) (v : Value) (hx : a.eval x = .pointer (some ⟨g, i, none⟩)) (hy : a.eval y = v) {u : Value} (hc : w.cell? ⟨g, i, none⟩ = some u) (hf : w.frozen? ⟨g, i, none⟩ = false)
    (hi : (P.info? T).map (·.size) = some 1) (hv : v.cells = #[v]) (h1 : v.oneCell' = true) (k : Sh (wpList P ops Q rest (a.put dst undef) (w.setCell ⟨g, i, none⟩ v))) : wpList P ops Q (⟨dst, .store T x y, ty, pos, aft, none⟩ :: rest) a w := by
  refine wpList_plain rfl fun K hK => ?_
  unfold Oper.wp execOp
  simp only [hx, hy, Sem.run_bind, Sem.run_pure, Result.andThen_ok, run_slot T g i v hc hf hi hv h1]
  exact hK _ _ k.out
theorem xor_u (a b : UInt8) : bits .xor .u8 (a.toNat : Int) (b.toNat : Int) = ((a ^^^ b).toNat : Int) := by
  rw [u8_xor_nat _ _ a.toNat_lt b.toNat_lt, UInt8.toNat_xor]
set_option maxRecDepth 100000 in
set_option maxHeartbeats 4000000 in
theorem turn_c (S : Nat → Prop) (ba room : Nat) (Q : Qs) (t : Nat) (i : Int) (p : Nat) (y : UInt8) (hp : p < 65536) (w : World) (h : AO S ba room Q w) : Calls Try.prog 21 #[.pointer (some ⟨ba, 0, none⟩), .int .u8 (t : Int), .int .i64 i, .int .u16 (p : Int), .int .u8 (y.toNat : Int)] w (APost w S ba room (sTn Q t i p y) (.int .i64 ((eTn Q t i : Nat) : Int))) := by
  obtain ⟨⟨rb, sl, Ls, hA, hq, hS⟩, hrm, hok⟩ := h.ok
  have hlt := h.lt
  have hln : ∀ t, t < 17 → (Ls t).length = (Q t).length := fun t ht => by rw [← hq t ht, List.length_map]
  have hsl : ∀ t, t < 17 → (sl t).2.1 = (Q t).length := fun t ht => by rw [← hln t ht]; exact (hA.ring t ht).len.symm
  have hl := AL.start hA
  by_cases ht : t < 17
  · skip
    have hg := hsl t ht
    by_cases hk : 0 ≤ i ∧ i < ((Q t).length : Int)
    · skip
      obtain ⟨k, rfl⟩ : ∃ k : Nat, i = (k : Int) := ⟨i.toNat, by omega⟩
      have hkn : k < (sl t).2.1 := by omega
      obtain ⟨x, hxk⟩ : ∃ x, (Ls t)[k]? = some x := ⟨_, List.getElem?_eq_getElem (show k < (Ls t).length by rw [hln t ht]; omega)⟩
      have hE := eAt_0 (Q := Q) (t := t) (k := (k : Int)) (by omega) hk
      have hxq := xTk_is hq ht hxk hE
      have hxb := hA.byt t ht x (List.mem_of_getElem? hxk)
      have hxl := hxb.len
      obtain ⟨n, hn⟩ : ∃ n, x.n = n := ⟨_, rfl⟩
      have hnn : x.b.length = n := hxl.trans hn
      by_cases h0 : n = 0
      · skip
        subst h0
        obtain ⟨e1, e2⟩ := eTn_7 (p := p) (y := y) hE (by rw [hxq]; exact hnn)
        have HE := Lib.hid e1
        have HQ := Lib.hid e2
        clear e1 e2 hE hxq hk hxl hnn
        go_enter Try.func21, Try.ntmps21
        go_wp2_with fail
        (with_reducible refine (afind_y ba room rb sl Ls t _ hl.as_ hrm.1 ht k x hxk hkn).mono ?_)
        rintro e w1 ⟨rfl, b1⟩
        have r3_al := (hl).on b1
        have l3 := le_tr (Below.refl _ _) b1
        clear hl
        clear b1
        go_wp2_with (first | ((with_reducible refine st_alloc 40 (lA zeroL) ?_ ?_); exact zero_lc))
        refine ⟨fun V4 g4 n4 f4 => ?_⟩
        have up4 : w.heap.size ≤ g4 := f4.up l3
        have bl4 := f4.bel
        clear f4
        have r6_al := (r3_al).on bl4
        have l6 := le_tr l3 bl4
        clear r3_al l3
        clear bl4
        go_wp2_with (first | ((with_reducible refine st_store 40 _ _ g4 (lA x) ?_ ?_ n4 ?_ ?_ ?_ ?_); exact rfl; exact rfl; exact Try.zLc; exact rfl; exact lA_one _))
        refine ⟨fun V7 n7 k7 => ?_⟩
        have m7_al := (r6_al).wr k7 up4
        have o7 := k7.bel _ _ l6 up4
        clear k7
        clear n4 r6_al l6
        have c99 : V7.cell? ⟨g4, 2, none⟩ = some (.slice x.A 0 x.c) := (CB.cell n7 2).trans (by rw [← hn]; rfl)
        clear hn
        go_wp2_with fail
        go_ret
        exact APost.no h o7 HQ.out (by rw [HE.out]; rfl)
      obtain ⟨j, hj⟩ : ∃ j, p % n = j := ⟨_, rfl⟩
      have hjn : j < n := by rw [← hj]; exact Nat.mod_lt _ (by omega)
      have tm : Int.tmod (p : Int) (n : Int) = (j : Int) := by rw [tmod_nat, hj]
      have tn := tnB_at x.b p y (j := j) (by rw [hnn]; exact hj)
      have wp : IntKind.i64.wrap (p : Int) = (p : Int) := IntWalk.i64_in _ (by omega)
      have n1 : ¬ (n : Int) = 0 := by omega
      have n2 : ((n : Int) == 0) = false := by simp; omega
      have hn5 : n ≤ 4000 := by have := (hok t).2.2 x.lt (by rw [← hq t ht]; exact List.mem_map_of_mem (List.mem_of_getElem? hxk)); have := this.2.1; simp only [Lm.lt] at this; omega
      have h00 : ¬ x.b.length = 0 := by omega
      have HX := Lib.hid hxq
      have HT := Lib.hid tn
      have HN := Lib.hid hn
      have HHN := Lib.hid hnn
      have HZ := Lib.hid h00
      have HJ := Lib.hid hj
      clear hxq tn hn hnn hxl h00 hj hE
      go_enter Try.func21, Try.ntmps21
      go_wp2_with fail
      (with_reducible refine (afind_y ba room rb sl Ls t _ hl.as_ hrm.1 ht k x hxk hkn).mono ?_)
      rintro e w1 ⟨rfl, b1⟩
      have r3_al := (hl).on b1
      have l3 := le_tr (Below.refl _ _) b1
      clear hl
      clear b1
      go_wp2_with (first | ((with_reducible refine st_alloc 40 (lA zeroL) ?_ ?_); exact zero_lc))
      refine ⟨fun V4 g4 n4 f4 => ?_⟩
      have up4 : w.heap.size ≤ g4 := f4.up l3
      have bl4 := f4.bel
      clear f4
      have r6_al := (r3_al).on bl4
      have l6 := le_tr l3 bl4
      clear r3_al l3
      clear bl4
      go_wp2_with (first | ((with_reducible refine st_store 40 _ _ g4 (lA x) ?_ ?_ n4 ?_ ?_ ?_ ?_); exact rfl; exact rfl; exact Try.zLc; exact rfl; exact lA_one _))
      refine ⟨fun V7 n7 k7 => ?_⟩
      have m7_al := (r6_al).wr k7 up4
      have o7 := k7.bel _ _ l6 up4
      clear k7
      clear n4 r6_al l6
      have c99 : V7.cell? ⟨g4, 2, none⟩ = some (.slice x.A n x.c) := (CB.cell n7 2).trans (by rw [← HN.out]; rfl)
      go_wp2_with fail
      clear c99
      obtain ⟨gx, off, bx, hAx, hbx, _, _, _⟩ := slot_u (hA.byt t ht x (List.mem_of_getElem? hxk)) j (by rw [HN.out]; exact hjn)
      have HAx := Lib.hid hAx
      have HBx := Lib.hid hbx
      clear hAx hbx
      have HXO := Lib.hid (xor_u bx y)
      go_wp2_with fail
      have y8 := Lib.hid (show (fun V : World => CB V g4 40 (lA x)) V7.drew from CB.drew n7)
      refine wp_region_held_drew (S := (fun V : World => CB V g4 40 (lA x))) (by kernel_rfl) y8.out (fun hHeld => ?_)
      obtain ⟨D8, hD8⟩ : ∃ V, V7.drew = V := ⟨_, rfl⟩
      have b8 : Below V7.heap.size V7 D8 := by rw [← hD8]; exact le_dr (Below.refl _ _)
      rw [hD8] at hHeld ⊢
      clear hD8
      have r10_l := le_on n7 b8
      have r10_al := (m7_al).on b8
      have l10 := le_tr o7 b8
      clear n7 m7_al o7
      clear b8
      refine wpAnyH_takeL (i := 0) (d := some 29) (v := .pointer (some ⟨g4, 2, none⟩)) rfl rfl (by kernel_rfl) (by kernel_rfl) (by kernel_rfl) (fun _ _ _ h => h) (Or.inl ⟨by rfl, ?_⟩) hHeld ?_
      · intro w hSw; (try dsimp only at hSw); go_simp
      try simp only [Act.put, List.setIfInBounds_toArray, List.set_cons_zero, List.set_cons_succ]
      refine wpAnyH_takeL (i := 1) (d := some 30) (v := .slice x.A n x.c) rfl rfl (by kernel_rfl) (by kernel_rfl) (by kernel_rfl) (fun _ _ _ h => h) (Or.inl ⟨by rfl, ?_⟩) hHeld ?_
      · intro w hSw; have hcc : w.cell? ⟨g4, 2, none⟩ = some (.slice x.A n x.c) := (CB.cell hSw 2).trans (by rw [← HN.out]; rfl); go_simp
      try simp only [Act.put, List.setIfInBounds_toArray, List.set_cons_zero, List.set_cons_succ]
      refine wpAnyH_takeL (i := 2) (d := some 31) (v := .int .u16 (p : Int)) rfl rfl (by kernel_rfl) (by kernel_rfl) (by kernel_rfl) (fun _ _ _ h => h) (Or.inl ⟨by rfl, ?_⟩) hHeld ?_
      · intro w hSw; (try dsimp only at hSw); go_simp
      try simp only [Act.put, List.setIfInBounds_toArray, List.set_cons_zero, List.set_cons_succ]
      refine wpAnyH_takeL (i := 3) (d := some 32) (v := .int .i64 (p : Int)) rfl rfl (by kernel_rfl) (by kernel_rfl) (by kernel_rfl) (fun _ _ _ h => h) (Or.inl ⟨by rfl, ?_⟩) hHeld ?_
      · intro w hSw; (try dsimp only at hSw); go_simp
      try simp only [Act.put, List.setIfInBounds_toArray, List.set_cons_zero, List.set_cons_succ]
      refine wpAnyH_takeL (i := 4) (d := some 33) (v := .pointer (some ⟨g4, 2, none⟩)) rfl rfl (by kernel_rfl) (by kernel_rfl) (by kernel_rfl) (fun _ _ _ h => h) (Or.inl ⟨by rfl, ?_⟩) hHeld ?_
      · intro w hSw; (try dsimp only at hSw); go_simp
      try simp only [Act.put, List.setIfInBounds_toArray, List.set_cons_zero, List.set_cons_succ]
      refine wpAnyH_takeL (i := 5) (d := some 34) (v := .slice x.A n x.c) rfl rfl (by kernel_rfl) (by kernel_rfl) (by kernel_rfl) (fun _ _ _ h => h) (Or.inl ⟨by rfl, ?_⟩) hHeld ?_
      · intro w hSw; have hcc : w.cell? ⟨g4, 2, none⟩ = some (.slice x.A n x.c) := (CB.cell hSw 2).trans (by rw [← HN.out]; rfl); go_simp
      try simp only [Act.put, List.setIfInBounds_toArray, List.set_cons_zero, List.set_cons_succ]
      refine wpAnyH_takeL (i := 6) (d := some 35) (v := .int .i64 (n : Int)) rfl rfl (by kernel_rfl) (by kernel_rfl) (by kernel_rfl) (fun _ _ _ h => h) (Or.inl ⟨by rfl, ?_⟩) hHeld ?_
      · intro w hSw; (try dsimp only at hSw); go_simp
      try simp only [Act.put, List.setIfInBounds_toArray, List.set_cons_zero, List.set_cons_succ]
      refine wpAnyH_takeL (i := 7) (d := some 36) (v := .int .i64 (j : Int)) rfl rfl (by kernel_rfl) (by kernel_rfl) (by kernel_rfl) (fun _ _ _ h => h) (Or.inl ⟨by rfl, ?_⟩) hHeld ?_
      · intro w hSw; (try dsimp only at hSw); go_simp
      try simp only [Act.put, List.setIfInBounds_toArray, List.set_cons_zero, List.set_cons_succ]
      refine wpAnyH_takeL (i := 8) (d := some 37) (v := .pointer (some ⟨gx, off + j, none⟩)) rfl rfl (by kernel_rfl) (by kernel_rfl) (by kernel_rfl) (fun _ _ _ h => h) (Or.inl ⟨by rfl, ?_⟩) hHeld ?_
      · intro w hSw; rw [HAx.out]; go_simp
      try simp only [Act.put, List.setIfInBounds_toArray, List.set_cons_zero, List.set_cons_succ]
      refine wpAnyH_takeL (i := 10) (d := some 39) (v := .int .u8 (y.toNat : Int)) rfl rfl (by kernel_rfl) (by kernel_rfl) (by kernel_rfl) (fun _ _ _ h => h) (Or.inl ⟨by rfl, ?_⟩) hHeld ?_
      · intro w hSw; (try dsimp only at hSw); go_simp
      try simp only [Act.put, List.setIfInBounds_toArray, List.set_cons_zero, List.set_cons_succ]
      refine wpAnyH_ready (rs := [9]) (by kernel_rfl) (by simp) ?_
      refine AllReadyH.cons rfl (fun K hK => ?_) AllReadyH.nil
      obtain ⟨g2, o2, b2, e1, e2, fz, cx, hset⟩ := slot_u (r10_al.as_.byt t ht x (List.mem_of_getElem? hxk)) j (by rw [HN.out]; exact hjn)
      rw [HAx.out] at e1
      cases e1
      rw [HBx.out] at e2
      cases e2
      refine rd_load rfl 5 _ rfl (some 38) rfl (.int .u8 (bx.toNat : Int)) gx ((off + j)) rfl (ld_one 5 (Try.isAgg5 _) (cx)) ?_
      refine ⟨?_⟩
      clear fz cx hset
      have y11 := Lib.hid (show (fun V : World => CB V g4 40 (lA x)) D8 from r10_l)
      refine hK.out _ _ y11.out (fun hHeld => ?_)
      clear hK K y11
      try simp only [Act.put, List.setIfInBounds_toArray, List.set_cons_zero, List.set_cons_succ]
      refine wpAnyH_takeL (i := 11) (d := some 40) (v := .int .u8 ((bx ^^^ y).toNat : Int)) rfl rfl (by kernel_rfl) (by kernel_rfl) (by kernel_rfl) (fun _ _ _ h => h) (Or.inl ⟨by rfl, ?_⟩) hHeld ?_
      · intro w hSw; have hxo := HXO.out; go_simp
      try simp only [Act.put, List.setIfInBounds_toArray, List.set_cons_zero, List.set_cons_succ]
      refine wpAnyH_takeL (i := 12) (d := some 41) (v := .pointer (some ⟨gx, off + j, none⟩)) rfl rfl (by kernel_rfl) (by kernel_rfl) (by kernel_rfl) (fun _ _ _ h => h) (Or.inl ⟨by rfl, ?_⟩) hHeld ?_
      · intro w hSw; rw [HAx.out]; go_simp
      try simp only [Act.put, List.setIfInBounds_toArray, List.set_cons_zero, List.set_cons_succ]
      refine wpAnyH_ready (rs := [13]) (by kernel_rfl) (by simp) ?_
      refine AllReadyH.cons rfl (fun K hK => ?_) AllReadyH.nil
      obtain ⟨g2, o2, b2, e1, e2, fz, cx, hset⟩ := slot_u (r10_al.as_.byt t ht x (List.mem_of_getElem? hxk)) j (by rw [HN.out]; exact hjn)
      rw [HAx.out] at e1
      cases e1
      rw [HBx.out] at e2
      cases e2
      refine rd_slot rfl 5 _ _ rfl none rfl gx (off + j) (.int .u8 ((bx ^^^ y).toNat : Int)) rfl rfl cx fz one_u rfl rfl ?_
      refine ⟨?_⟩
      obtain ⟨hs1, hs2⟩ := hset (bx ^^^ y)
      have hne9 : g4 ≠ gx := fun e => by have := (r10_al).lo gx (.inr ⟨t, ht, .inr (.inr ⟨x, List.mem_of_getElem? hxk, ⟨off, HAx.out⟩⟩)⟩); have := up4; omega
      have m9 := hs2.on r10_l hne9
      have hp9 := APost.turned (p := p) (y := y) h hA hq hS ht hxk ⟨off, HAx.out⟩ ((Out.of (fun i => i = gx) l10).wrS hs2 rfl) (by rw [HT.out, HBx.out]; exact hs1) HZ.out
      clear hs1 hset cx fz hne9 r10_al
      generalize World.setCell D8 ⟨gx, off + j, none⟩ (.int .u8 ((bx ^^^ y).toNat : Int)) = V9 at *
      clear hs2
      have y12 := Lib.hid (show (fun V : World => CB V g4 40 (lA x)) V9 from m9)
      refine hK.out _ _ y12.out (fun hHeld => ?_)
      clear hK K y12
      try simp only [Act.put, List.setIfInBounds_toArray, List.set_cons_zero, List.set_cons_succ]
      refine wpAnyH_done (by kernel_rfl) ?_ _
      go_wp2_with fail
      go_ret
      exact hp9
    have hE := eAt_7 (Q := Q) (t := t) (k := i) (by omega) hk
    have h7 : i < 0 ∨ ((sl t).2.1 : Int) ≤ i := by omega
    clear hk
    obtain ⟨e1, e2⟩ := eTn_n (p := p) (y := y) hE (by decide)
    have HE := Lib.hid e1
    have HQ := Lib.hid e2
    clear e1 e2 hE
    go_enter Try.func21, Try.ntmps21
    go_wp2_with fail
    (with_reducible refine (afind_n ba room rb sl Ls t _ hl.as_ hrm.1 ht i h7).mono ?_)
    rintro e w1 ⟨rfl, b1⟩
    have r3_al := (hl).on b1
    have l3 := le_tr (Below.refl _ _) b1
    clear hl
    clear b1
    go_wp2_with (first | ((with_reducible refine st_alloc 40 (lA zeroL) ?_ ?_); exact zero_lc))
    refine ⟨fun V4 g4 n4 f4 => ?_⟩
    have up4 : w.heap.size ≤ g4 := f4.up l3
    have bl4 := f4.bel
    clear f4
    have r6_al := (r3_al).on bl4
    have l6 := le_tr l3 bl4
    clear r3_al l3
    clear bl4
    go_wp2_with (first | ((with_reducible refine st_store 40 _ _ g4 (lA zeroL) ?_ ?_ n4 ?_ ?_ ?_ ?_); exact rfl; exact rfl; exact Try.zLc; exact rfl; exact lA_one _))
    refine ⟨fun V7 n7 k7 => ?_⟩
    have m7_al := (r6_al).wr k7 up4
    have o7 := k7.bel _ _ l6 up4
    clear k7
    clear n4 r6_al l6
    go_wp2_with fail
    go_ret
    exact APost.no h o7 HQ.out (by rw [HE.out]; rfl)
  have ht2 : 17 ≤ t := by omega
  have hE := eAt_2 (Q := Q) (k := i) ht2
  clear ht
  obtain ⟨e1, e2⟩ := eTn_n (p := p) (y := y) hE (by decide)
  have HE := Lib.hid e1
  have HQ := Lib.hid e2
  clear e1 e2 hE
  go_enter Try.func21, Try.ntmps21
  go_wp2_with fail
  (with_reducible refine (afind_t ba room rb sl Ls t _ hl.as_ ht2 i).mono ?_)
  rintro e w1 ⟨rfl, b1⟩
  have r3_al := (hl).on b1
  have l3 := le_tr (Below.refl _ _) b1
  clear hl
  clear b1
  go_wp2_with (first | ((with_reducible refine st_alloc 40 (lA zeroL) ?_ ?_); exact zero_lc))
  refine ⟨fun V4 g4 n4 f4 => ?_⟩
  have up4 : w.heap.size ≤ g4 := f4.up l3
  have bl4 := f4.bel
  clear f4
  have r6_al := (r3_al).on bl4
  have l6 := le_tr l3 bl4
  clear r3_al l3
  clear bl4
  go_wp2_with (first | ((with_reducible refine st_store 40 _ _ g4 (lA zeroL) ?_ ?_ n4 ?_ ?_ ?_ ?_); exact rfl; exact rfl; exact Try.zLc; exact rfl; exact lA_one _))
  refine ⟨fun V7 n7 k7 => ?_⟩
  have m7_al := (r6_al).wr k7 up4
  have o7 := k7.bel _ _ l6 up4
  clear k7
  clear n4 r6_al l6
  go_wp2_with fail
  go_ret
  exact APost.no h o7 HQ.out (by rw [HE.out]; rfl)
end Go.Proofs.Ytcfdfimkgehdfaa
