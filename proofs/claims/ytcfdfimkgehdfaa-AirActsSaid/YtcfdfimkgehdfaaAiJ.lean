/-
  Layer 18: the document's Send and Take. Conditions: the letters can be read, a million at most.
-/
import Derived.Test.YtcfdfimkgehdfaaAiI
set_option linter.unusedVariables false
set_option linter.unusedSimpArgs false
namespace Go.Proofs.Ytcfdfimkgehdfaa
open Go.RowKit

/-- Behind the document's Send, Again, Turn; Fx: the blocks of a letter that came in. -/
def SRPost (w : World) (A : Option Addr) (n : Nat) (L : List Lm) (Fx : Nat → Prop) (rm : Int) (M : List Lt) (k : Nat) (e : Ending) (w' : World) : Prop :=
  ∃ A' n' c' L', e = .returned (.tuple #[.agg (cA ⟨A', n', c', rm⟩), .int .i64 (k : Int)]) ∧ DL A' n' c' L' w' ∧ LT L' = M ∧ (∀ g, FD A' n' L' g → FD A n L g ∨ Fx g ∨ w.heap.size ≤ g) ∧ Below w.heap.size w w'
/-- Behind the document's Take. -/
def TRPost (w : World) (A : Option Addr) (n : Nat) (L : List Lm) (rm : Int) (t : Nat) (i : Int) (e : Ending) (w' : World) : Prop :=
  ∃ A' n' c' L' x, e = .returned (.tuple #[.agg (cA ⟨A', n', c', rm⟩), .agg (lA x), .int .i64 ((eAt (toR (LT L)) t i : Nat) : Int)]) ∧ DL A' n' c' L' w' ∧ LT L' = sTkR (LT L) t i ∧ x.lt = xTk (toR (LT L)) t i ∧ RR w' bcl 1 x.A x.n x.c x.b ∧
    (∀ g, InR x.A x.n g → FD A n L g) ∧ (∀ g, FD A' n' L' g → FD A n L g ∨ w.heap.size ≤ g) ∧ Below w.heap.size w w'
theorem SRPost.no {w w' : World} {A : Option Addr} {n c : Nat} {L : List Lm} {Fx : Nat → Prop} {rm : Int} {M : List Lt} {k k' : Nat} (h : DL A n c L w') (hM : LT L = M) (hk : k = k') (hb : Below w.heap.size w w') : SRPost w A n L Fx rm M k (.returned (.tuple #[.agg (cA ⟨A, n, c, rm⟩), .int .i64 (k' : Int)])) w' := by
  subst hk
  exact ⟨A, n, c, L, rfl, h, hM, fun g hg => .inl hg, hb⟩
theorem TRPost.no {w w' : World} {A : Option Addr} {n c : Nat} {L : List Lm} {rm : Int} {t : Nat} {i : Int} {k : Nat} (h : DL A n c L w') (hk : eAt (toR (LT L)) t i = k) (h0 : ¬ k = 0) (hb : Below w.heap.size w w') : TRPost w A n L rm t i (.returned (.tuple #[.agg (cA ⟨A, n, c, rm⟩), .agg (lA zeroL), .int .i64 (k : Int)])) w' := by
  subst hk
  exact ⟨A, n, c, L, zeroL, rfl, h, by unfold sTkR; rw [if_neg h0], by unfold xTk; rw [if_neg h0]; rfl, RR.nil _ _ _, fun g hg => (by obtain ⟨⟨_, e⟩, _⟩ := hg; cases e), fun g hg => .inl hg, hb⟩
theorem lt_get {L : List Lm} {k : Nat} {l : Lt} (h : (LT L)[k]? = some l) : ∃ x, L[k]? = some x ∧ x.lt = l := by
  unfold LT at h
  rw [List.getElem?_map] at h
  cases hx : L[k]? with
  | none => rw [hx] at h; cases h
  | some x => rw [hx] at h; cases h; exact ⟨x, rfl, rfl⟩
/-- What Send hands back. -/
theorem SRPost.sent {w w' : World} {A : Option Addr} {n c : Nat} {L : List Lm} {x : Lm} {rm : Int} {M : List Lt} {k : Nat} {B : Option Addr} {m q : Nat} {G : Option Nat} (h : DL A n c L w') (hx : RR w' bcl 1 x.A x.n x.c x.b) (hs : SO w.heap.size w' 45 lcl 3 B m q (L ++ [x]) G) (hM : LT L ++ [x.lt] = M) (hk : k = 0) (hb : Below w.heap.size w w') :
    SRPost w A n L (InR x.A x.n) rm M k (.returned (.tuple #[.agg (cA ⟨B, m, q, rm⟩), .int .i64 0])) w' := by
  subst hk
  refine ⟨B, m, q, L ++ [x], rfl, ⟨hs.rr, fun y hy => ?_⟩, by rw [← hM]; simp [LT], fun g hg => ?_, hb⟩
  · rw [List.mem_append, List.mem_singleton] at hy
    rcases hy with hy | rfl
    · exact h.el y hy
    · exact hx
  · rcases hg with ⟨hg, _⟩ | ⟨y, hy, hg⟩
    · exact .inr (.inr (hs.in_ hg))
    · rw [List.mem_append, List.mem_singleton] at hy
      rcases hy with hy | rfl
      · exact .inl (.inr ⟨y, hy, hg⟩)
      · exact .inr (.inl hg)
theorem erase_yes {L : List Lm} {k i : Nat} {x : Lm} (hx : L[k]? = some x) (hk : k = i) : (L.take (k + 1)).eraseIdx i = (L.take k).eraseIdx i := by
  subst hk
  have hl := (List.getElem?_eq_some_iff.1 hx).1
  rw [List.take_add_one, hx]
  apply List.ext_getElem?
  intro j
  rw [List.getElem?_eraseIdx, List.getElem?_eraseIdx]
  have h1 : (L.take k).length = k := by simp; omega
  by_cases hj : j < k
  · rw [if_pos hj, if_pos hj, List.getElem?_append_left (by omega)]
  · rw [if_neg hj, if_neg hj, List.getElem?_append_right (by omega), List.getElem?_eq_none (by simp; omega), List.getElem?_eq_none (by omega)]
theorem erase_no {L : List Lm} {k i : Nat} {x : Lm} (hx : L[k]? = some x) (hk : ¬ k = i) : (L.take (k + 1)).eraseIdx i = (L.take k).eraseIdx i ++ [x] := by
  have hl := (List.getElem?_eq_some_iff.1 hx).1
  have h1 : (L.take k).length = k := by simp; omega
  rw [List.take_add_one, hx]
  by_cases h : k < i
  · rw [List.eraseIdx_of_length_le (by simp; omega), List.eraseIdx_of_length_le (by omega)]; rfl
  · rw [List.eraseIdx_append_of_lt_length (by omega)]; rfl
theorem erase_len (L : List Lm) (k i : Nat) : ((L.take k).eraseIdx i).length ≤ k := by
  have : (L.take k).length ≤ k := by simp; omega
  rw [List.length_eraseIdx]
  split <;> omega
/-- What Take hands back. -/
theorem TRPost.taken {w w' : World} {A : Option Addr} {n c : Nat} {L : List Lm} {x : Lm} {rm : Int} {t : Nat} {i : Int} {B : Option Addr} {m q : Nat} {G : Option Nat} {j : Nat} (h : DL A n c L w') (hE : eAt (toR (LT L)) t i = 0) (hj : fndI (LT L) t i = (j : Int)) (hx : L[j]? = some x)
    (hs : SO w.heap.size w' 45 lcl 3 B m q (L.eraseIdx j) G) (hb : Below w.heap.size w w') : TRPost w A n L rm t i (.returned (.tuple #[.agg (cA ⟨B, m, q, rm⟩), .agg (lA x), .int .i64 0])) w' := by
  have hxm := List.mem_of_getElem? hx
  have hjn : (fndI (LT L) t i).toNat = j := by rw [hj]; simp
  have h3 := at_R hE
  rw [hjn] at h3
  obtain ⟨y, hy, e⟩ := lt_get h3
  rw [hx] at hy
  cases hy
  refine ⟨B, m, q, L.eraseIdx j, x, by rw [hE]; rfl, ⟨hs.rr, fun y hy => h.el y (List.mem_of_mem_eraseIdx hy)⟩, ?_, e, h.el x hxm, fun g hg => .inr ⟨x, hxm, hg⟩, fun g hg => ?_, hb⟩
  · unfold sTkR
    rw [if_pos hE, hjn]
    exact map_erase Lm.lt L j
  · rcases hg with ⟨hg, _⟩ | ⟨y, hy, hg⟩
    · exact .inr (hs.in_ hg)
    · exact .inl (.inr ⟨y, List.mem_of_mem_eraseIdx hy, hg⟩)
set_option maxRecDepth 100000 in
set_option maxHeartbeats 4000000 in
theorem rsend_c (A : Option Addr) (n c : Nat) (L : List Lm) (room : Nat) (x : Lm) (w : World) (h : DL A n c L w) (hx : RR w bcl 1 x.A x.n x.c x.b) (hn : n ≤ 1000000) : Calls Try.prog 35 #[.agg (cA ⟨A, n, c, (room : Int)⟩), .agg (lA x)] w (SRPost w A n L (InR x.A x.n) (room : Int) (sSnR room (LT L) x.lt) (eSn room (toR (LT L)) x.lt)) := by
  obtain ⟨f, t, bs, A2, n2, c2⟩ := x
  have hlen := h.rr.len
  have hlx := hx.len
  simp only at hlx hx
  have hd := OD.start h
  have hb := RL.start hx
  clear h hx
  have N1 := fun (V : World) (h : DL A n c L V) => len_r A n c L (room : Int) t V h
  by_cases hf : f < 17
  · skip
    have q1 : decide ((17 : Int) ≤ (f : Int)) = false := by simp; omega
    have q1' : decide ((f : Int) ≥ (17 : Int)) = false := by simp; omega
    by_cases ht : t < 17
    · skip
      have q2 : decide ((17 : Int) ≤ (t : Int)) = false := by simp; omega
      have q2' : decide ((t : Int) ≥ (17 : Int)) = false := by simp; omega
      by_cases h4 : n2 ≤ 4000
      · skip
        have q3 : decide ((4000 : Int) < (n2 : Int)) = false := by simp; omega
        have q3' : decide ((n2 : Int) > (4000 : Int)) = false := by simp; omega
        by_cases hr : (toR (LT L) t).length < room
        · skip
          have q4 : decide ((room : Int) ≤ ((toR (LT L) t).length : Int)) = false := by simp; omega
          have q4' : decide (((toR (LT L) t).length : Int) ≥ (room : Int)) = false := by simp; omega
          have HE := Lib.hid (show eSn room (toR (LT L)) (Lm.lt ⟨f, t, bs, A2, n2, c2⟩) = 0 from (show eSn room (toR (LT L)) ⟨f, t, bs⟩ = 0 by exact eSn_0 (by omega) (by omega) (by omega)))
          have HQ := Lib.hid (show LT L ++ [Lm.lt ⟨f, t, bs, A2, n2, c2⟩] = sSnR room (LT L) (Lm.lt ⟨f, t, bs, A2, n2, c2⟩) by unfold sSnR; rw [if_pos HE.out])
          clear hf ht h4
          go_enter Try.func35, Try.ntmps35
          go_wp2_with (first | ((with_reducible refine st_box 28 _ (cA ⟨A, n, c, (room : Int)⟩) ?_ ?_); exact rfl))
          refine ⟨fun V1 g1 n1 f1 => ?_⟩
          have up1 : w.heap.size ≤ g1 := Nat.le_of_eq f1.at_
          have bl1 := f1.bel
          clear f1
          have r3_d := (hd).on bl1
          have r3_bb := (hb).on bl1
          have l3 := le_tr (Below.refl _ _) bl1
          clear hd hb
          clear bl1
          go_wp2_with (first | ((with_reducible refine st_box 45 _ (lA ⟨f, t, bs, A2, n2, c2⟩) ?_ ?_); exact rfl))
          refine ⟨fun V4 g4 n4 f4 => ?_⟩
          have ne4_a := f4.ne n1
          have up4 : w.heap.size ≤ g4 := f4.up l3
          have bl4 := f4.bel
          clear f4
          have r6_a := le_on n1 bl4
          have r6_d := (r3_d).on bl4
          have r6_bb := (r3_bb).on bl4
          have l6 := le_tr l3 bl4
          clear n1 r3_d r3_bb l3
          clear bl4
          go_wp2_with (first | ((with_reducible refine st_alloc 28 (cA zeroC) ?_ ?_); exact zero_cr))
          refine ⟨fun V7 g7 n7 f7 => ?_⟩
          have ne7_a := f7.ne r6_a
          have ne7_l := f7.ne n4
          have up7 : w.heap.size ≤ g7 := f7.up l6
          have bl7 := f7.bel
          clear f7
          have r9_a := le_on r6_a bl7
          have r9_l := le_on n4 bl7
          have r9_d := (r6_d).on bl7
          have r9_bb := (r6_bb).on bl7
          have l9 := le_tr l6 bl7
          clear r6_a n4 r6_d r6_bb l6
          clear bl7
          have c10 : V7.cell? ⟨g4, 0, none⟩ = some (.int .u8 (f : Int)) := CB.cell r9_l 0
          have c11 : V7.cell? ⟨g4, 1, none⟩ = some (.int .u8 (t : Int)) := CB.cell r9_l 1
          have c12 : V7.cell? ⟨g4, 2, none⟩ = some (.slice A2 n2 c2) := CB.cell r9_l 2
          go_wp2_with fail
          clear c10 c11 c12
          have y13 := Lib.hid (show (fun V : World => CB V g1 28 (cA ⟨A, n, c, (room : Int)⟩) ∧ CB V g4 45 (lA ⟨f, t, bs, A2, n2, c2⟩)) V7.drew from ⟨CB.drew r9_a, CB.drew r9_l⟩)
          refine wp_region_held_drew (S := (fun V : World => CB V g1 28 (cA ⟨A, n, c, (room : Int)⟩) ∧ CB V g4 45 (lA ⟨f, t, bs, A2, n2, c2⟩))) (by kernel_rfl) y13.out (fun hHeld => ?_)
          obtain ⟨D13, hD13⟩ : ∃ V, V7.drew = V := ⟨_, rfl⟩
          have b13 : Below V7.heap.size V7 D13 := by rw [← hD13]; exact le_dr (Below.refl _ _)
          rw [hD13] at hHeld ⊢
          clear hD13
          have r15_a := le_on r9_a b13
          have r15_l := le_on r9_l b13
          have r15_r := le_on n7 b13
          have r15_d := (r9_d).on b13
          have r15_bb := (r9_bb).on b13
          have l15 := le_tr l9 b13
          clear r9_a r9_l n7 r9_d r9_bb l9
          clear b13
          refine wpAnyH_takeL (i := 0) (d := some 24) (v := .agg (cA ⟨A, n, c, (room : Int)⟩)) rfl rfl (by kernel_rfl) (by kernel_rfl) (by kernel_rfl) (fun _ _ _ h => h) (Or.inl ⟨by rfl, ?_⟩) hHeld ?_
          · intro w hSw; exact yl_whole 28 _ g1 rfl hSw.1 Try.underlying28 rfl Try.zCr
          try simp only [Act.put, List.setIfInBounds_toArray, List.set_cons_zero, List.set_cons_succ]
          refine wpAnyH_takeL (i := 1) (d := some 25) (v := .pointer (some ⟨g4, 1, none⟩)) rfl rfl (by kernel_rfl) (by kernel_rfl) (by kernel_rfl) (fun _ _ _ h => h) (Or.inl ⟨by rfl, ?_⟩) hHeld ?_
          · intro w hSw; (try dsimp only at hSw); go_simp
          try simp only [Act.put, List.setIfInBounds_toArray, List.set_cons_zero, List.set_cons_succ]
          refine wpAnyH_takeL (i := 2) (d := some 26) (v := .int .u8 (t : Int)) rfl rfl (by kernel_rfl) (by kernel_rfl) (by kernel_rfl) (fun _ _ _ h => h) (Or.inl ⟨by rfl, ?_⟩) hHeld ?_
          · intro w hSw; (try dsimp only at hSw); have hcc : w.cell? ⟨g4, 1, none⟩ = some (.int .u8 (t : Int)) := CB.cell hSw.2 1; go_simp
          try simp only [Act.put, List.setIfInBounds_toArray, List.set_cons_zero, List.set_cons_succ]
          refine wpAnyH_takeL (i := 4) (d := some 28) (v := .pointer (some ⟨g1, 1, none⟩)) rfl rfl (by kernel_rfl) (by kernel_rfl) (by kernel_rfl) (fun _ _ _ h => h) (Or.inl ⟨by rfl, ?_⟩) hHeld ?_
          · intro w hSw; (try dsimp only at hSw); go_simp
          try simp only [Act.put, List.setIfInBounds_toArray, List.set_cons_zero, List.set_cons_succ]
          refine wpAnyH_takeL (i := 5) (d := some 29) (v := .int .i64 (room : Int)) rfl rfl (by kernel_rfl) (by kernel_rfl) (by kernel_rfl) (fun _ _ _ h => h) (Or.inl ⟨by rfl, ?_⟩) hHeld ?_
          · intro w hSw; (try dsimp only at hSw); have hcc : w.cell? ⟨g1, 1, none⟩ = some (.int .i64 (room : Int)) := CB.cell hSw.1 1; go_simp
          try simp only [Act.put, List.setIfInBounds_toArray, List.set_cons_zero, List.set_cons_succ]
          refine wpAnyH_ready (rs := [3]) (by kernel_rfl) (by simp) ?_
          refine AllReadyH.cons rfl (fun K hK => ?_) AllReadyH.nil
          go_simp
          (with_reducible refine (N1 _ r15_d.dl).mono ?_)
          rintro e u16 ⟨rfl, b16⟩
          have r18_a := le_on r15_a b16
          have r18_l := le_on r15_l b16
          have r18_r := le_on r15_r b16
          have r18_d := (r15_d).on b16
          have r18_bb := (r15_bb).on b16
          have l18 := le_tr l15 b16
          clear r15_a r15_l r15_r r15_d r15_bb l15
          clear b16
          go_wp2_with fail
          have y19 := Lib.hid (show (fun V : World => CB V g1 28 (cA ⟨A, n, c, (room : Int)⟩) ∧ CB V g4 45 (lA ⟨f, t, bs, A2, n2, c2⟩)) u16 from ⟨r18_a, r18_l⟩)
          refine hK.out _ _ y19.out (fun hHeld => ?_)
          clear hK K y19
          try simp only [Act.put, List.setIfInBounds_toArray, List.set_cons_zero, List.set_cons_succ]
          refine wpAnyH_takeL (i := 6) (d := some 30) (v := .bool false) rfl rfl (by kernel_rfl) (by kernel_rfl) (by kernel_rfl) (fun _ _ _ h => h) (Or.inl ⟨by rfl, ?_⟩) hHeld ?_
          · intro w hSw; (try dsimp only at hSw); go_simp
          try simp only [Act.put, List.setIfInBounds_toArray, List.set_cons_zero, List.set_cons_succ]
          refine wpAnyH_takeL (i := 7) (d := some 23) (v := .bool false) rfl rfl (by kernel_rfl) (by kernel_rfl) (by kernel_rfl) (fun _ _ _ h => h) (Or.inl ⟨by rfl, ?_⟩) hHeld ?_
          · intro w hSw; (try dsimp only at hSw); go_simp
          try simp only [Act.put, List.setIfInBounds_toArray, List.set_cons_zero, List.set_cons_succ]
          refine wpAnyH_done (by kernel_rfl) ?_ _
          have c20 : u16.cell? ⟨g1, 0, none⟩ = some (.slice A n c) := CB.cell r18_a 0
          go_wp2_with (first | ((with_reducible refine st_lit0 26 45 Try.underlying26 Try.infoR2 ?_)))
          refine ⟨fun V21 g21 n21 f21 => ?_⟩
          clear c20
          have no21_a : ∀ b, (some g21) = some b → b ≠ g1 := fun b e => by cases e; exact Ne.symm (f21.ne r18_a)
          have no21_l : ∀ b, (some g21) = some b → b ≠ g4 := fun b e => by cases e; exact Ne.symm (f21.ne r18_l)
          have no21_r : ∀ b, (some g21) = some b → b ≠ g7 := fun b e => by cases e; exact Ne.symm (f21.ne r18_r)
          have up21 : w.heap.size ≤ g21 := f21.up l18
          have so21 : SO w.heap.size V21 45 lcl 3 (some ⟨g21, 0, none⟩) 0 0 [] (some g21) := ⟨Seg.lit0 n21, fun g e => by cases e; exact up21⟩
          have bl21 := f21.bel
          clear f21 n21
          have r23_a := le_on r18_a bl21
          have r23_l := le_on r18_l bl21
          have r23_r := le_on r18_r bl21
          have r23_d := (r18_d).on bl21
          have r23_bb := (r18_bb).on bl21
          have l23 := le_tr l18 bl21
          clear r18_a r18_l r18_r r18_d r18_bb l18
          clear bl21
          have c24 : V21.cell? ⟨g1, 0, none⟩ = some (.slice A n c) := CB.cell r23_a 0
          go_wp2_with (first | ((with_reducible refine st_app (.tmp 32) (.tmp 34) 26 45 Try.underlying26 Try.infoR rfl (by decide) (A := (some ⟨g21, 0, none⟩)) (n := 0) (c := 0) (G := (some g21)) rfl so21.seg (As := A) (m := n) (k := c) rfl r23_d.dl.rr.src (rc_one 3 L) (by simp only [maxLen]; omega) (by omega) (n) (by omega) ?_)))
          refine ⟨fun B25 m25 q25 w25 s25 h25 k25 => ?_⟩
          clear c24
          have s25 : Seg w25 45 3 B25 (n) m25 (rc lcl (L)) q25 := by rw [rc_nil, List.nil_append] at s25; exact s25
          have hg25 : ∀ g, some g21 = some g → w.heap.size ≤ g := fun g e => so21.hi g e
          have so25 : SO w.heap.size w25 45 lcl 3 B25 (n) m25 (L) q25 := ⟨s25, k25.ge (l23).size hg25⟩
          have e25_a := CB.same r23_a (h25.block _ (CB.lt r23_a) (fun e => no21_a _ e.symm rfl))
          have na25_a := moved_ne k25 (CB.lt r23_a) no21_a
          have e25_l := CB.same r23_l (h25.block _ (CB.lt r23_l) (fun e => no21_l _ e.symm rfl))
          have na25_l := moved_ne k25 (CB.lt r23_l) no21_l
          have e25_r := CB.same r23_r (h25.block _ (CB.lt r23_r) (fun e => no21_r _ e.symm rfl))
          have na25_r := moved_ne k25 (CB.lt r23_r) no21_r
          have e25_d := (r23_d).grow h25 hg25
          have e25_bb := (r23_bb).grow h25 hg25
          have lw25 := (l23).grown h25 (l23).size hg25
          clear h25 k25 s25 hg25 so21 r23_a no21_a r23_l no21_l r23_r no21_r r23_d r23_bb l23
          go_wp2_with (first | ((with_reducible refine st_load 45 _ g4 ?_ e25_l Try.underlying45 ?_ ?_ ?_); exact rfl; exact rfl; exact Try.zLr) | ((with_reducible refine st_lit1 26 45 _ (lA ⟨f, t, bs, A2, n2, c2⟩) ?_ Try.underlying26 Try.infoR2 rfl (by decide) (by decide) ?_); exact rfl))
          refine ⟨fun V26 g26 n26 f26 => ?_⟩
          have ne26_a := f26.ne e25_a
          have ne26_l := f26.ne e25_l
          have ne26_r := f26.ne e25_r
          have no26_s := SO.fresh so25 (Nat.le_of_eq f26.at_)
          have up26 : w.heap.size ≤ g26 := f26.up lw25
          have bl26 := f26.bel
          clear f26
          have r27_s := SO.on so25 bl26
          have r28_a := le_on e25_a bl26
          have r28_l := le_on e25_l bl26
          have r28_r := le_on e25_r bl26
          have r28_d := (e25_d).on bl26
          have r28_bb := (e25_bb).on bl26
          have l28 := le_tr lw25 bl26
          clear e25_a e25_l e25_r e25_d e25_bb lw25
          clear so25
          clear bl26
          go_wp2_with (first | ((with_reducible refine st_app (.tmp 36) (.tmp 38) 26 45 Try.underlying26 Try.infoR rfl (by decide) (A := B25) (n := (n)) (c := m25) (G := q25) rfl r27_s.seg (As := (some ⟨g26, 0, none⟩)) (m := 1) (k := 1) rfl (Src.box n26 rfl) (all_list (lA_one _)) (by simp only [maxLen]; omega) (by omega) (n + 1) (by omega) ?_)))
          refine ⟨fun B29 m29 q29 w29 s29 h29 k29 => ?_⟩
          have s29 : Seg w29 45 3 B29 (n + 1) m29 (rc lcl (L ++ [⟨f, t, bs, A2, n2, c2⟩])) q29 := by rw [← rc_snoc]; exact s29
          have hg29 : ∀ g, q25 = some g → w.heap.size ≤ g := fun g e => r27_s.hi g e
          have so29 : SO w.heap.size w29 45 lcl 3 B29 (n + 1) m29 (L ++ [⟨f, t, bs, A2, n2, c2⟩]) q29 := ⟨s29, k29.ge (l28).size hg29⟩
          have e29_a := CB.same r28_a (h29.block _ (CB.lt r28_a) (fun e => na25_a _ e.symm rfl))
          have na29_a := moved_ne k29 (CB.lt r28_a) na25_a
          have e29_l := CB.same r28_l (h29.block _ (CB.lt r28_l) (fun e => na25_l _ e.symm rfl))
          have na29_l := moved_ne k29 (CB.lt r28_l) na25_l
          have e29_r := CB.same r28_r (h29.block _ (CB.lt r28_r) (fun e => na25_r _ e.symm rfl))
          have na29_r := moved_ne k29 (CB.lt r28_r) na25_r
          have e29_z := CB.same n26 (h29.block _ (CB.lt n26) (fun e => no26_s _ e.symm rfl))
          have na29_z := moved_ne k29 (CB.lt n26) no26_s
          have e29_d := (r28_d).grow h29 hg29
          have e29_bb := (r28_bb).grow h29 hg29
          have lw29 := (l28).grown h29 (l28).size hg29
          clear h29 k29 s29 hg29 r27_s r28_a na25_a r28_l na25_l r28_r na25_r n26 no26_s r28_d r28_bb l28
          go_wp2_with (first | ((with_reducible refine st_cell 26 _ _ g1 0 (.slice B29 (n + 1) m29) ?_ ?_ e29_a (new := cA ⟨B29, n + 1, m29, (room : Int)⟩) ?_ ?_ ?_ ?_ ?_ ?_); exact rfl; exact rfl; exact (by rw [cA_size]; decide); exact cA_l _ _ _ _; exact one_rs; exact rfl; exact rfl))
          refine ⟨fun V30 n30 k30 => ?_⟩
          have m30_l := k30.on e29_l (Ne.symm ne4_a)
          have m30_r := k30.on e29_r (Ne.symm ne7_a)
          have m30_z := k30.on e29_z (Ne.symm ne26_a)
          have m30_d := (e29_d).wr k30 up1
          have m30_bb := (e29_bb).wr k30 up1
          have m30_s := SO.wr so29 k30 na29_a
          have o30 := k30.bel _ _ lw29 up1
          clear k30
          clear e29_a e29_l e29_r e29_z e29_d e29_bb so29 lw29
          go_wp2_with (first | ((with_reducible refine st_load 28 _ g1 ?_ n30 Try.underlying28 ?_ ?_ ?_); exact rfl; exact rfl; exact Try.zCr) | ((with_reducible refine st_store 28 _ _ g7 (cA ⟨B29, n + 1, m29, (room : Int)⟩) ?_ ?_ m30_r ?_ ?_ ?_ ?_); exact rfl; exact rfl; exact Try.zCr; exact rfl; exact cA_one _))
          refine ⟨fun V31 n31 k31 => ?_⟩
          have m31_a := k31.on n30 ne7_a
          have m31_l := k31.on m30_l ne7_l
          have m31_z := k31.on m30_z (Ne.symm ne26_r)
          have m31_d := (m30_d).wr k31 up7
          have m31_bb := (m30_bb).wr k31 up7
          have m31_s := SO.wr m30_s k31 na29_r
          have o31 := k31.bel _ _ o30 up7
          clear k31
          clear m30_r n30 m30_l m30_z m30_d m30_bb m30_s o30
          go_wp2_with fail
          exact bodyPost_ret (v := .tuple #[.agg (cA ⟨B29, n + 1, m29, (room : Int)⟩), .int .i64 0]) (res_two Try.results35 rfl rfl n31 Try.underlying28 rfl Try.zCr) rfl (SRPost.sent (x := ⟨f, t, bs, A2, n2, c2⟩) m31_d.dl m31_bb.rr m31_s HQ.out HE.out o31)
        have q4 : decide ((room : Int) ≤ ((toR (LT L) t).length : Int)) = true := by simp; omega
        have q4' : decide (((toR (LT L) t).length : Int) ≥ (room : Int)) = true := by simp; omega
        have HE := Lib.hid (show eSn room (toR (LT L)) (Lm.lt ⟨f, t, bs, A2, n2, c2⟩) = 6 from (show eSn room (toR (LT L)) ⟨f, t, bs⟩ = 6 by exact eSn_6 (by omega) (by omega) (by omega)))
        have HQ := Lib.hid (show LT L = sSnR room (LT L) (Lm.lt ⟨f, t, bs, A2, n2, c2⟩) by unfold sSnR; rw [HE.out]; rfl)
        clear hf ht h4
        have hr2 : room ≤ (toR (LT L) t).length := by omega
        clear hr
        go_enter Try.func35, Try.ntmps35
        go_wp2_with (first | ((with_reducible refine st_box 28 _ (cA ⟨A, n, c, (room : Int)⟩) ?_ ?_); exact rfl))
        refine ⟨fun V1 g1 n1 f1 => ?_⟩
        have up1 : w.heap.size ≤ g1 := Nat.le_of_eq f1.at_
        have bl1 := f1.bel
        clear f1
        have r3_d := (hd).on bl1
        have r3_bb := (hb).on bl1
        have l3 := le_tr (Below.refl _ _) bl1
        clear hd hb
        clear bl1
        go_wp2_with (first | ((with_reducible refine st_box 45 _ (lA ⟨f, t, bs, A2, n2, c2⟩) ?_ ?_); exact rfl))
        refine ⟨fun V4 g4 n4 f4 => ?_⟩
        have ne4_a := f4.ne n1
        have up4 : w.heap.size ≤ g4 := f4.up l3
        have bl4 := f4.bel
        clear f4
        have r6_a := le_on n1 bl4
        have r6_d := (r3_d).on bl4
        have r6_bb := (r3_bb).on bl4
        have l6 := le_tr l3 bl4
        clear n1 r3_d r3_bb l3
        clear bl4
        go_wp2_with (first | ((with_reducible refine st_alloc 28 (cA zeroC) ?_ ?_); exact zero_cr))
        refine ⟨fun V7 g7 n7 f7 => ?_⟩
        have ne7_a := f7.ne r6_a
        have ne7_l := f7.ne n4
        have up7 : w.heap.size ≤ g7 := f7.up l6
        have bl7 := f7.bel
        clear f7
        have r9_a := le_on r6_a bl7
        have r9_l := le_on n4 bl7
        have r9_d := (r6_d).on bl7
        have r9_bb := (r6_bb).on bl7
        have l9 := le_tr l6 bl7
        clear r6_a n4 r6_d r6_bb l6
        clear bl7
        have c10 : V7.cell? ⟨g4, 0, none⟩ = some (.int .u8 (f : Int)) := CB.cell r9_l 0
        have c11 : V7.cell? ⟨g4, 1, none⟩ = some (.int .u8 (t : Int)) := CB.cell r9_l 1
        have c12 : V7.cell? ⟨g4, 2, none⟩ = some (.slice A2 n2 c2) := CB.cell r9_l 2
        go_wp2_with fail
        clear c10 c11 c12
        have y13 := Lib.hid (show (fun V : World => CB V g1 28 (cA ⟨A, n, c, (room : Int)⟩) ∧ CB V g4 45 (lA ⟨f, t, bs, A2, n2, c2⟩)) V7.drew from ⟨CB.drew r9_a, CB.drew r9_l⟩)
        refine wp_region_held_drew (S := (fun V : World => CB V g1 28 (cA ⟨A, n, c, (room : Int)⟩) ∧ CB V g4 45 (lA ⟨f, t, bs, A2, n2, c2⟩))) (by kernel_rfl) y13.out (fun hHeld => ?_)
        obtain ⟨D13, hD13⟩ : ∃ V, V7.drew = V := ⟨_, rfl⟩
        have b13 : Below V7.heap.size V7 D13 := by rw [← hD13]; exact le_dr (Below.refl _ _)
        rw [hD13] at hHeld ⊢
        clear hD13
        have r15_a := le_on r9_a b13
        have r15_l := le_on r9_l b13
        have r15_r := le_on n7 b13
        have r15_d := (r9_d).on b13
        have r15_bb := (r9_bb).on b13
        have l15 := le_tr l9 b13
        clear r9_a r9_l n7 r9_d r9_bb l9
        clear b13
        refine wpAnyH_takeL (i := 0) (d := some 24) (v := .agg (cA ⟨A, n, c, (room : Int)⟩)) rfl rfl (by kernel_rfl) (by kernel_rfl) (by kernel_rfl) (fun _ _ _ h => h) (Or.inl ⟨by rfl, ?_⟩) hHeld ?_
        · intro w hSw; exact yl_whole 28 _ g1 rfl hSw.1 Try.underlying28 rfl Try.zCr
        try simp only [Act.put, List.setIfInBounds_toArray, List.set_cons_zero, List.set_cons_succ]
        refine wpAnyH_takeL (i := 1) (d := some 25) (v := .pointer (some ⟨g4, 1, none⟩)) rfl rfl (by kernel_rfl) (by kernel_rfl) (by kernel_rfl) (fun _ _ _ h => h) (Or.inl ⟨by rfl, ?_⟩) hHeld ?_
        · intro w hSw; (try dsimp only at hSw); go_simp
        try simp only [Act.put, List.setIfInBounds_toArray, List.set_cons_zero, List.set_cons_succ]
        refine wpAnyH_takeL (i := 2) (d := some 26) (v := .int .u8 (t : Int)) rfl rfl (by kernel_rfl) (by kernel_rfl) (by kernel_rfl) (fun _ _ _ h => h) (Or.inl ⟨by rfl, ?_⟩) hHeld ?_
        · intro w hSw; (try dsimp only at hSw); have hcc : w.cell? ⟨g4, 1, none⟩ = some (.int .u8 (t : Int)) := CB.cell hSw.2 1; go_simp
        try simp only [Act.put, List.setIfInBounds_toArray, List.set_cons_zero, List.set_cons_succ]
        refine wpAnyH_takeL (i := 4) (d := some 28) (v := .pointer (some ⟨g1, 1, none⟩)) rfl rfl (by kernel_rfl) (by kernel_rfl) (by kernel_rfl) (fun _ _ _ h => h) (Or.inl ⟨by rfl, ?_⟩) hHeld ?_
        · intro w hSw; (try dsimp only at hSw); go_simp
        try simp only [Act.put, List.setIfInBounds_toArray, List.set_cons_zero, List.set_cons_succ]
        refine wpAnyH_takeL (i := 5) (d := some 29) (v := .int .i64 (room : Int)) rfl rfl (by kernel_rfl) (by kernel_rfl) (by kernel_rfl) (fun _ _ _ h => h) (Or.inl ⟨by rfl, ?_⟩) hHeld ?_
        · intro w hSw; (try dsimp only at hSw); have hcc : w.cell? ⟨g1, 1, none⟩ = some (.int .i64 (room : Int)) := CB.cell hSw.1 1; go_simp
        try simp only [Act.put, List.setIfInBounds_toArray, List.set_cons_zero, List.set_cons_succ]
        refine wpAnyH_ready (rs := [3]) (by kernel_rfl) (by simp) ?_
        refine AllReadyH.cons rfl (fun K hK => ?_) AllReadyH.nil
        go_simp
        (with_reducible refine (N1 _ r15_d.dl).mono ?_)
        rintro e u16 ⟨rfl, b16⟩
        have r18_a := le_on r15_a b16
        have r18_l := le_on r15_l b16
        have r18_r := le_on r15_r b16
        have r18_d := (r15_d).on b16
        have r18_bb := (r15_bb).on b16
        have l18 := le_tr l15 b16
        clear r15_a r15_l r15_r r15_d r15_bb l15
        clear b16
        go_wp2_with fail
        have y19 := Lib.hid (show (fun V : World => CB V g1 28 (cA ⟨A, n, c, (room : Int)⟩) ∧ CB V g4 45 (lA ⟨f, t, bs, A2, n2, c2⟩)) u16 from ⟨r18_a, r18_l⟩)
        refine hK.out _ _ y19.out (fun hHeld => ?_)
        clear hK K y19
        try simp only [Act.put, List.setIfInBounds_toArray, List.set_cons_zero, List.set_cons_succ]
        refine wpAnyH_takeL (i := 6) (d := some 30) (v := .bool true) rfl rfl (by kernel_rfl) (by kernel_rfl) (by kernel_rfl) (fun _ _ _ h => h) (Or.inl ⟨by rfl, ?_⟩) hHeld ?_
        · intro w hSw; (try dsimp only at hSw); go_simp
        try simp only [Act.put, List.setIfInBounds_toArray, List.set_cons_zero, List.set_cons_succ]
        refine wpAnyH_takeL (i := 7) (d := some 23) (v := .bool true) rfl rfl (by kernel_rfl) (by kernel_rfl) (by kernel_rfl) (fun _ _ _ h => h) (Or.inl ⟨by rfl, ?_⟩) hHeld ?_
        · intro w hSw; (try dsimp only at hSw); go_simp
        try simp only [Act.put, List.setIfInBounds_toArray, List.set_cons_zero, List.set_cons_succ]
        refine wpAnyH_done (by kernel_rfl) ?_ _
        go_wp2_with (first | ((with_reducible refine st_load 28 _ g1 ?_ r18_a Try.underlying28 ?_ ?_ ?_); exact rfl; exact rfl; exact Try.zCr) | ((with_reducible refine st_store 28 _ _ g7 (cA ⟨A, n, c, (room : Int)⟩) ?_ ?_ r18_r ?_ ?_ ?_ ?_); exact rfl; exact rfl; exact Try.zCr; exact rfl; exact cA_one _))
        refine ⟨fun V20 n20 k20 => ?_⟩
        have m20_a := k20.on r18_a ne7_a
        have m20_l := k20.on r18_l ne7_l
        have m20_d := (r18_d).wr k20 up7
        have m20_bb := (r18_bb).wr k20 up7
        have o20 := k20.bel _ _ l18 up7
        clear k20
        clear r18_r r18_a r18_l r18_d r18_bb l18
        go_wp2_with fail
        exact bodyPost_ret (v := .tuple #[.agg (cA ⟨A, n, c, (room : Int)⟩), .int .i64 6]) (res_two Try.results35 rfl rfl n20 Try.underlying28 rfl Try.zCr) rfl (SRPost.no m20_d.dl HQ.out HE.out o20)
      have q3 : decide ((4000 : Int) < (n2 : Int)) = true := by simp; omega
      have q3' : decide ((n2 : Int) > (4000 : Int)) = true := by simp; omega
      have HE := Lib.hid (show eSn room (toR (LT L)) (Lm.lt ⟨f, t, bs, A2, n2, c2⟩) = 3 from (show eSn room (toR (LT L)) ⟨f, t, bs⟩ = 3 by exact eSn_3 (by omega) (by omega)))
      have HQ := Lib.hid (show LT L = sSnR room (LT L) (Lm.lt ⟨f, t, bs, A2, n2, c2⟩) by unfold sSnR; rw [HE.out]; rfl)
      clear hf ht h4
      go_enter Try.func35, Try.ntmps35
      go_wp2_with (first | ((with_reducible refine st_box 28 _ (cA ⟨A, n, c, (room : Int)⟩) ?_ ?_); exact rfl))
      refine ⟨fun V1 g1 n1 f1 => ?_⟩
      have up1 : w.heap.size ≤ g1 := Nat.le_of_eq f1.at_
      have bl1 := f1.bel
      clear f1
      have r3_d := (hd).on bl1
      have r3_bb := (hb).on bl1
      have l3 := le_tr (Below.refl _ _) bl1
      clear hd hb
      clear bl1
      go_wp2_with (first | ((with_reducible refine st_box 45 _ (lA ⟨f, t, bs, A2, n2, c2⟩) ?_ ?_); exact rfl))
      refine ⟨fun V4 g4 n4 f4 => ?_⟩
      have ne4_a := f4.ne n1
      have up4 : w.heap.size ≤ g4 := f4.up l3
      have bl4 := f4.bel
      clear f4
      have r6_a := le_on n1 bl4
      have r6_d := (r3_d).on bl4
      have r6_bb := (r3_bb).on bl4
      have l6 := le_tr l3 bl4
      clear n1 r3_d r3_bb l3
      clear bl4
      go_wp2_with (first | ((with_reducible refine st_alloc 28 (cA zeroC) ?_ ?_); exact zero_cr))
      refine ⟨fun V7 g7 n7 f7 => ?_⟩
      have ne7_a := f7.ne r6_a
      have ne7_l := f7.ne n4
      have up7 : w.heap.size ≤ g7 := f7.up l6
      have bl7 := f7.bel
      clear f7
      have r9_a := le_on r6_a bl7
      have r9_l := le_on n4 bl7
      have r9_d := (r6_d).on bl7
      have r9_bb := (r6_bb).on bl7
      have l9 := le_tr l6 bl7
      clear r6_a n4 r6_d r6_bb l6
      clear bl7
      have c10 : V7.cell? ⟨g4, 0, none⟩ = some (.int .u8 (f : Int)) := CB.cell r9_l 0
      have c11 : V7.cell? ⟨g4, 1, none⟩ = some (.int .u8 (t : Int)) := CB.cell r9_l 1
      have c12 : V7.cell? ⟨g4, 2, none⟩ = some (.slice A2 n2 c2) := CB.cell r9_l 2
      go_wp2_with (first | ((with_reducible refine st_load 28 _ g1 ?_ r9_a Try.underlying28 ?_ ?_ ?_); exact rfl; exact rfl; exact Try.zCr) | ((with_reducible refine st_store 28 _ _ g7 (cA ⟨A, n, c, (room : Int)⟩) ?_ ?_ n7 ?_ ?_ ?_ ?_); exact rfl; exact rfl; exact Try.zCr; exact rfl; exact cA_one _))
      refine ⟨fun V13 n13 k13 => ?_⟩
      clear c10 c11 c12
      have m13_a := k13.on r9_a ne7_a
      have m13_l := k13.on r9_l ne7_l
      have m13_d := (r9_d).wr k13 up7
      have m13_bb := (r9_bb).wr k13 up7
      have o13 := k13.bel _ _ l9 up7
      clear k13
      clear n7 r9_a r9_l r9_d r9_bb l9
      go_wp2_with fail
      exact bodyPost_ret (v := .tuple #[.agg (cA ⟨A, n, c, (room : Int)⟩), .int .i64 3]) (res_two Try.results35 rfl rfl n13 Try.underlying28 rfl Try.zCr) rfl (SRPost.no m13_d.dl HQ.out HE.out o13)
    have q2 : decide ((17 : Int) ≤ (t : Int)) = true := by simp; omega
    have q2' : decide ((t : Int) ≥ (17 : Int)) = true := by simp; omega
    have HE := Lib.hid (show eSn room (toR (LT L)) (Lm.lt ⟨f, t, bs, A2, n2, c2⟩) = 2 from (show eSn room (toR (LT L)) ⟨f, t, bs⟩ = 2 by exact eSn_2 (by omega)))
    have HQ := Lib.hid (show LT L = sSnR room (LT L) (Lm.lt ⟨f, t, bs, A2, n2, c2⟩) by unfold sSnR; rw [HE.out]; rfl)
    clear hf ht
    go_enter Try.func35, Try.ntmps35
    go_wp2_with (first | ((with_reducible refine st_box 28 _ (cA ⟨A, n, c, (room : Int)⟩) ?_ ?_); exact rfl))
    refine ⟨fun V1 g1 n1 f1 => ?_⟩
    have up1 : w.heap.size ≤ g1 := Nat.le_of_eq f1.at_
    have bl1 := f1.bel
    clear f1
    have r3_d := (hd).on bl1
    have r3_bb := (hb).on bl1
    have l3 := le_tr (Below.refl _ _) bl1
    clear hd hb
    clear bl1
    go_wp2_with (first | ((with_reducible refine st_box 45 _ (lA ⟨f, t, bs, A2, n2, c2⟩) ?_ ?_); exact rfl))
    refine ⟨fun V4 g4 n4 f4 => ?_⟩
    have ne4_a := f4.ne n1
    have up4 : w.heap.size ≤ g4 := f4.up l3
    have bl4 := f4.bel
    clear f4
    have r6_a := le_on n1 bl4
    have r6_d := (r3_d).on bl4
    have r6_bb := (r3_bb).on bl4
    have l6 := le_tr l3 bl4
    clear n1 r3_d r3_bb l3
    clear bl4
    go_wp2_with (first | ((with_reducible refine st_alloc 28 (cA zeroC) ?_ ?_); exact zero_cr))
    refine ⟨fun V7 g7 n7 f7 => ?_⟩
    have ne7_a := f7.ne r6_a
    have ne7_l := f7.ne n4
    have up7 : w.heap.size ≤ g7 := f7.up l6
    have bl7 := f7.bel
    clear f7
    have r9_a := le_on r6_a bl7
    have r9_l := le_on n4 bl7
    have r9_d := (r6_d).on bl7
    have r9_bb := (r6_bb).on bl7
    have l9 := le_tr l6 bl7
    clear r6_a n4 r6_d r6_bb l6
    clear bl7
    have c10 : V7.cell? ⟨g4, 0, none⟩ = some (.int .u8 (f : Int)) := CB.cell r9_l 0
    have c11 : V7.cell? ⟨g4, 1, none⟩ = some (.int .u8 (t : Int)) := CB.cell r9_l 1
    have c12 : V7.cell? ⟨g4, 2, none⟩ = some (.slice A2 n2 c2) := CB.cell r9_l 2
    go_wp2_with (first | ((with_reducible refine st_load 28 _ g1 ?_ r9_a Try.underlying28 ?_ ?_ ?_); exact rfl; exact rfl; exact Try.zCr) | ((with_reducible refine st_store 28 _ _ g7 (cA ⟨A, n, c, (room : Int)⟩) ?_ ?_ n7 ?_ ?_ ?_ ?_); exact rfl; exact rfl; exact Try.zCr; exact rfl; exact cA_one _))
    refine ⟨fun V13 n13 k13 => ?_⟩
    clear c10 c11 c12
    have m13_a := k13.on r9_a ne7_a
    have m13_l := k13.on r9_l ne7_l
    have m13_d := (r9_d).wr k13 up7
    have m13_bb := (r9_bb).wr k13 up7
    have o13 := k13.bel _ _ l9 up7
    clear k13
    clear n7 r9_a r9_l r9_d r9_bb l9
    go_wp2_with fail
    exact bodyPost_ret (v := .tuple #[.agg (cA ⟨A, n, c, (room : Int)⟩), .int .i64 2]) (res_two Try.results35 rfl rfl n13 Try.underlying28 rfl Try.zCr) rfl (SRPost.no m13_d.dl HQ.out HE.out o13)
  have q1 : decide ((17 : Int) ≤ (f : Int)) = true := by simp; omega
  have q1' : decide ((f : Int) ≥ (17 : Int)) = true := by simp; omega
  have HE := Lib.hid (show eSn room (toR (LT L)) (Lm.lt ⟨f, t, bs, A2, n2, c2⟩) = 2 from (show eSn room (toR (LT L)) ⟨f, t, bs⟩ = 2 by exact eSn_2 (by omega)))
  have HQ := Lib.hid (show LT L = sSnR room (LT L) (Lm.lt ⟨f, t, bs, A2, n2, c2⟩) by unfold sSnR; rw [HE.out]; rfl)
  clear hf
  go_enter Try.func35, Try.ntmps35
  go_wp2_with (first | ((with_reducible refine st_box 28 _ (cA ⟨A, n, c, (room : Int)⟩) ?_ ?_); exact rfl))
  refine ⟨fun V1 g1 n1 f1 => ?_⟩
  have up1 : w.heap.size ≤ g1 := Nat.le_of_eq f1.at_
  have bl1 := f1.bel
  clear f1
  have r3_d := (hd).on bl1
  have r3_bb := (hb).on bl1
  have l3 := le_tr (Below.refl _ _) bl1
  clear hd hb
  clear bl1
  go_wp2_with (first | ((with_reducible refine st_box 45 _ (lA ⟨f, t, bs, A2, n2, c2⟩) ?_ ?_); exact rfl))
  refine ⟨fun V4 g4 n4 f4 => ?_⟩
  have ne4_a := f4.ne n1
  have up4 : w.heap.size ≤ g4 := f4.up l3
  have bl4 := f4.bel
  clear f4
  have r6_a := le_on n1 bl4
  have r6_d := (r3_d).on bl4
  have r6_bb := (r3_bb).on bl4
  have l6 := le_tr l3 bl4
  clear n1 r3_d r3_bb l3
  clear bl4
  go_wp2_with (first | ((with_reducible refine st_alloc 28 (cA zeroC) ?_ ?_); exact zero_cr))
  refine ⟨fun V7 g7 n7 f7 => ?_⟩
  have ne7_a := f7.ne r6_a
  have ne7_l := f7.ne n4
  have up7 : w.heap.size ≤ g7 := f7.up l6
  have bl7 := f7.bel
  clear f7
  have r9_a := le_on r6_a bl7
  have r9_l := le_on n4 bl7
  have r9_d := (r6_d).on bl7
  have r9_bb := (r6_bb).on bl7
  have l9 := le_tr l6 bl7
  clear r6_a n4 r6_d r6_bb l6
  clear bl7
  have c10 : V7.cell? ⟨g4, 0, none⟩ = some (.int .u8 (f : Int)) := CB.cell r9_l 0
  have c11 : V7.cell? ⟨g4, 1, none⟩ = some (.int .u8 (t : Int)) := CB.cell r9_l 1
  have c12 : V7.cell? ⟨g4, 2, none⟩ = some (.slice A2 n2 c2) := CB.cell r9_l 2
  go_wp2_with (first | ((with_reducible refine st_load 28 _ g1 ?_ r9_a Try.underlying28 ?_ ?_ ?_); exact rfl; exact rfl; exact Try.zCr) | ((with_reducible refine st_store 28 _ _ g7 (cA ⟨A, n, c, (room : Int)⟩) ?_ ?_ n7 ?_ ?_ ?_ ?_); exact rfl; exact rfl; exact Try.zCr; exact rfl; exact cA_one _))
  refine ⟨fun V13 n13 k13 => ?_⟩
  clear c10 c11 c12
  have m13_a := k13.on r9_a ne7_a
  have m13_l := k13.on r9_l ne7_l
  have m13_d := (r9_d).wr k13 up7
  have m13_bb := (r9_bb).wr k13 up7
  have o13 := k13.bel _ _ l9 up7
  clear k13
  clear n7 r9_a r9_l r9_d r9_bb l9
  go_wp2_with fail
  exact bodyPost_ret (v := .tuple #[.agg (cA ⟨A, n, c, (room : Int)⟩), .int .i64 2]) (res_two Try.results35 rfl rfl n13 Try.underlying28 rfl Try.zCr) rfl (SRPost.no m13_d.dl HQ.out HE.out o13)
set_option maxRecDepth 100000 in
set_option maxHeartbeats 4000000 in
theorem rtake_c (A : Option Addr) (n c : Nat) (L : List Lm) (rm : Int) (t : Nat) (i : Int) (w : World) (h : DL A n c L w) (hn : n ≤ 1000000) : Calls Try.prog 32 #[.agg (cA ⟨A, n, c, rm⟩), .int .u8 (t : Int), .int .i64 i] w (TRPost w A n L rm t i) := by
  have hlen := Lib.hid h.rr.len
  have hd := OD.start h
  clear h
  have N1 := fun (V : World) (h : DL A n c L V) => find_r A n c L rm t i V h
  by_cases ht : t < 17
  · skip
    have q1 : decide ((17 : Int) ≤ (t : Int)) = false := by simp; omega
    have q1' : decide ((t : Int) ≥ (17 : Int)) = false := by simp; omega
    by_cases hi : 0 ≤ i ∧ i < ((toR (LT L) t).length : Int)
    · skip
      have HE := Lib.hid (eAt_0 (Q := toR (LT L)) (t := t) (k := i) (by omega) hi)
      have hf0 := (fndI_at HE.out).2
      obtain ⟨j, hj⟩ : ∃ j : Nat, fndI (LT L) t i = (j : Int) := ⟨(fndI (LT L) t i).toNat, by omega⟩
      have hat := at_R HE.out
      rw [show (fndI (LT L) t i).toNat = j by omega] at hat
      obtain ⟨y, hy, _⟩ := lt_get hat
      have hjn : j < n := by rw [← hlen.out]; exact (List.getElem?_eq_some_iff.1 hy).1
      have q2 : decide ((j : Int) < 0) = false := by simp
      rw [hj] at N1
      have HJ := Lib.hid hj
      have HY := Lib.hid hy
      clear hj hy hat hf0 hi
      go_enter Try.func32, Try.ntmps32
      go_wp2_with (first | ((with_reducible refine st_box 28 _ (cA ⟨A, n, c, rm⟩) ?_ ?_); exact rfl))
      refine ⟨fun V1 g1 n1 f1 => ?_⟩
      have up1 : w.heap.size ≤ g1 := Nat.le_of_eq f1.at_
      have bl1 := f1.bel
      clear f1
      have r3_d := (hd).on bl1
      have l3 := le_tr (Below.refl _ _) bl1
      clear hd
      clear bl1
      go_wp2_with (first | ((with_reducible refine st_alloc 28 (cA zeroC) ?_ ?_); exact zero_cr))
      refine ⟨fun V4 g4 n4 f4 => ?_⟩
      have ne4_a := f4.ne n1
      have up4 : w.heap.size ≤ g4 := f4.up l3
      have bl4 := f4.bel
      clear f4
      have r6_a := le_on n1 bl4
      have r6_d := (r3_d).on bl4
      have l6 := le_tr l3 bl4
      clear n1 r3_d l3
      clear bl4
      go_wp2_with (first | ((with_reducible refine st_alloc 45 (lA zeroL) ?_ ?_); exact zero_lr))
      refine ⟨fun V7 g7 n7 f7 => ?_⟩
      have ne7_a := f7.ne r6_a
      have ne7_r := f7.ne n4
      have up7 : w.heap.size ≤ g7 := f7.up l6
      have bl7 := f7.bel
      clear f7
      have r9_a := le_on r6_a bl7
      have r9_r := le_on n4 bl7
      have r9_d := (r6_d).on bl7
      have l9 := le_tr l6 bl7
      clear r6_a n4 r6_d l6
      clear bl7
      go_wp2_with (first | ((with_reducible refine st_load 28 _ g1 ?_ r9_a Try.underlying28 ?_ ?_ ?_); exact rfl; exact rfl; exact Try.zCr))
      (with_reducible refine (N1 _ r9_d.dl).mono ?_)
      rintro e w10 ⟨rfl, b10⟩
      have r12_a := le_on r9_a b10
      have r12_r := le_on r9_r b10
      have r12_k := le_on n7 b10
      have r12_d := (r9_d).on b10
      have l12 := le_tr l9 b10
      clear r9_a r9_r n7 r9_d l9
      clear b10
      go_wp2_with fail
      go_loopw [10, 11] (fun ov kv wr => ∃ (k : Nat) (B : Option Addr) (m q : Nat) (G : Option Nat), k ≤ n ∧ kv = .int .i64 k ∧ ov = .slice B m q ∧ CB wr g1 28 (cA ⟨A, n, c, rm⟩) ∧ CB wr g4 28 (cA zeroC) ∧ CB wr g7 45 (lA zeroL) ∧ OD w A n c L wr ∧ SO w.heap.size wr 45 lcl 3 B m q ((L.take k).eraseIdx j) G ∧ (∀ b, G = some b → b ≠ g7) ∧ Below w.heap.size w wr) (fun _ kv _ => n - (intOf kv).toNat)
      case atStart => exact ⟨0, none, 0, 0, none, by omega, rfl, rfl, r12_a, r12_r, r12_k, r12_d, SO.nil _ _ _ _ _, (fun b e => by cases e), l12⟩
      case round =>
        clear r12_a r12_r r12_k r12_d l12
        obtain ⟨k, B, m, q, G, hk, rfl, rfl, ha, hr, hkk, hd, hs, hno, hb⟩ := hrel
        have ca : wr.cell? ⟨g1, 0, none⟩ = some (.slice A n c) := CB.cell ha 0
        have noa := SO.noT hs ha (by decide)
        have nor := SO.noT hs hr (by decide)
        by_cases hlt : k < n
        · skip
          have l1 : (k : Int) < n := by omega
          have l2 : (0 : Int) ≤ (k : Int) := by omega
          have hm : m ≤ k := by rw [← hs.len]; exact erase_len L k j
          obtain ⟨ga, ofa, x, hx, hAx, hre⟩ := hd.dl.rr.elem hlt
          by_cases hkj : k = j
          · have HN := Lib.hid (erase_yes hx hkj)
            have q3 : ((k : Int) != (j : Int)) = false := by simp [hkj]
            have q4 : ((k : Int) == (j : Int)) = true := by simp [hkj]
            clear hx hkj hre hAx
            go_wp2_with fail
            go_roundw
            case rel => exact ⟨k + 1, B, m, q, G, by omega, by go_num, rfl, ha, hr, hkk, hd, by rw [HN.out]; exact hs, hno, hb⟩
            case measure => simp [intOf]; omega
          have HN := Lib.hid (erase_no hx hkj)
          have q3 : ((k : Int) != (j : Int)) = true := by simp; omega
          have q4 : ((k : Int) == (j : Int)) = false := by simp; omega
          clear hx hkj
          subst hAx
          have hr2 : wr.rangeAt ga (ofa + k * 3) (lA x).toList := hre
          clear hre
          go_wp2_with (first | ((with_reducible refine st_elem 45 _ ga (ofa + k * 3) (lA x) ?_ hr2 Try.underlying45 ?_ ?_ ?_); exact rfl; exact rfl; exact Try.zLr) | ((with_reducible refine st_lit1 26 45 _ (lA x) ?_ Try.underlying26 Try.infoR2 rfl (by decide) (by decide) ?_); exact rfl))
          refine ⟨fun V201 g201 n201 f201 => ?_⟩
          have ne201_a := f201.ne ha
          have ne201_r := f201.ne hr
          have ne201_k := f201.ne hkk
          have no201_s := SO.fresh hs (Nat.le_of_eq f201.at_)
          have up201 : w.heap.size ≤ g201 := f201.up hb
          have bl201 := f201.bel
          clear f201
          have r202_s := SO.on hs bl201
          have r203_a := le_on ha bl201
          have r203_r := le_on hr bl201
          have r203_k := le_on hkk bl201
          have r203_d := (hd).on bl201
          have l203 := le_tr hb bl201
          clear ha hr hkk hd hb
          clear hs
          clear bl201
          go_wp2_with (first | ((with_reducible refine st_app (.tmp 35) (.tmp 41) 26 45 Try.underlying26 Try.infoR rfl (by decide) (A := B) (n := m) (c := q) (G := G) rfl r202_s.seg (As := (some ⟨g201, 0, none⟩)) (m := 1) (k := 1) rfl (Src.box n201 rfl) (all_list (lA_one _)) (by simp only [maxLen]; omega) (by omega) (m + 1) (by omega) ?_)))
          refine ⟨fun B204 m204 q204 w204 s204 h204 k204 => ?_⟩
          have s204 : Seg w204 45 3 B204 (m + 1) m204 (rc lcl (((L.take k).eraseIdx j) ++ [x])) q204 := by rw [← rc_snoc]; exact s204
          have hg204 : ∀ g, G = some g → w.heap.size ≤ g := fun g e => r202_s.hi g e
          have so204 : SO w.heap.size w204 45 lcl 3 B204 (m + 1) m204 (((L.take k).eraseIdx j) ++ [x]) q204 := ⟨s204, k204.ge (l203).size hg204⟩
          have e204_a := CB.same r203_a (h204.block _ (CB.lt r203_a) (fun e => noa _ e.symm rfl))
          have na204_a := moved_ne k204 (CB.lt r203_a) noa
          have e204_r := CB.same r203_r (h204.block _ (CB.lt r203_r) (fun e => nor _ e.symm rfl))
          have na204_r := moved_ne k204 (CB.lt r203_r) nor
          have e204_k := CB.same r203_k (h204.block _ (CB.lt r203_k) (fun e => hno _ e.symm rfl))
          have na204_k := moved_ne k204 (CB.lt r203_k) hno
          have e204_z := CB.same n201 (h204.block _ (CB.lt n201) (fun e => no201_s _ e.symm rfl))
          have na204_z := moved_ne k204 (CB.lt n201) no201_s
          have e204_d := (r203_d).grow h204 hg204
          have lw204 := (l203).grown h204 (l203).size hg204
          clear h204 k204 s204 hg204 r202_s r203_a noa r203_r nor r203_k hno n201 no201_s r203_d l203
          go_wp2_with fail
          go_roundw
          case rel => exact ⟨k + 1, B204, m + 1, m204, q204, by omega, by go_num, rfl, e204_a, e204_r, e204_k, e204_d, by rw [HN.out]; exact so204, na204_k, lw204⟩
          case measure => simp [intOf]; omega
        obtain rfl : k = n := by omega
        have hs2 : SO w.heap.size wr 45 lcl 3 B m q (L.eraseIdx j) G := by rw [List.take_of_length_le (by rw [hlen.out]; exact Nat.le_refl _)] at hs; exact hs
        clear hs
        obtain ⟨ga, ofa, x, hx, hAx, hre⟩ := hd.dl.rr.elem hjn
        rw [HY.out] at hx
        cases hx
        subst hAx
        have hr2 : wr.rangeAt ga (ofa + j * 3) (lA y).toList := hre
        have l3 : (j : Int) < k := by omega
        clear hre
        go_wp2_with (first | ((with_reducible refine st_elem 45 _ ga (ofa + j * 3) (lA y) ?_ hr2 Try.underlying45 ?_ ?_ ?_); exact rfl; exact rfl; exact Try.zLr) | ((with_reducible refine st_alloc 45 (lA zeroL) ?_ ?_); exact zero_lr))
        refine ⟨fun V201 g201 n201 f201 => ?_⟩
        have ne201_a := f201.ne ha
        have ne201_r := f201.ne hr
        have ne201_k := f201.ne hkk
        have no201_s := SO.fresh hs2 (Nat.le_of_eq f201.at_)
        have up201 : w.heap.size ≤ g201 := f201.up hb
        have bl201 := f201.bel
        clear f201
        have r202_s := SO.on hs2 bl201
        have r203_a := le_on ha bl201
        have r203_r := le_on hr bl201
        have r203_k := le_on hkk bl201
        have r203_d := (hd).on bl201
        have l203 := le_tr hb bl201
        clear ha hr hkk hd hb
        clear hs2
        clear bl201
        go_wp2_with (first | ((with_reducible refine st_store 45 _ _ g201 (lA y) ?_ ?_ n201 ?_ ?_ ?_ ?_); exact rfl; exact rfl; exact Try.zLr; exact rfl; exact lA_one _))
        refine ⟨fun V204 n204 k204 => ?_⟩
        have m204_a := k204.on r203_a ne201_a
        have m204_r := k204.on r203_r ne201_r
        have m204_k := k204.on r203_k ne201_k
        have m204_d := (r203_d).wr k204 up201
        have m204_s := SO.wr r202_s k204 no201_s
        have o204 := k204.bel _ _ l203 up201
        clear k204
        clear n201 r203_a r203_r r203_k r203_d r202_s l203
        go_wp2_with (first | ((with_reducible refine st_cell 26 _ _ g1 0 (.slice B m q) ?_ ?_ m204_a (new := cA ⟨B, m, q, rm⟩) ?_ ?_ ?_ ?_ ?_ ?_); exact rfl; exact rfl; exact (by rw [cA_size]; decide); exact cA_l _ _ _ _; exact one_rs; exact rfl; exact rfl))
        refine ⟨fun V205 n205 k205 => ?_⟩
        have m205_r := k205.on m204_r (Ne.symm ne4_a)
        have m205_k := k205.on m204_k (Ne.symm ne7_a)
        have m205_x := k205.on n204 (Ne.symm ne201_a)
        have m205_d := (m204_d).wr k205 up1
        have m205_s := SO.wr m204_s k205 noa
        have o205 := k205.bel _ _ o204 up1
        clear k205
        clear m204_a m204_r m204_k n204 m204_d m204_s o204
        go_wp2_with fail
        have y206 := Lib.hid (show (fun V : World => CB V g1 28 (cA ⟨B, m, q, rm⟩) ∧ CB V g201 45 (lA y)) V205.drew from ⟨CB.drew n205, CB.drew m205_x⟩)
        refine wp_region_held_drew (S := (fun V : World => CB V g1 28 (cA ⟨B, m, q, rm⟩) ∧ CB V g201 45 (lA y))) (by kernel_rfl) y206.out (fun hHeld => ?_)
        obtain ⟨D206, hD206⟩ : ∃ V, V205.drew = V := ⟨_, rfl⟩
        have b206 : Below V205.heap.size V205 D206 := by rw [← hD206]; exact le_dr (Below.refl _ _)
        rw [hD206] at hHeld ⊢
        clear hD206
        have r207_s := SO.on m205_s b206
        have r208_a := le_on n205 b206
        have r208_r := le_on m205_r b206
        have r208_k := le_on m205_k b206
        have r208_x := le_on m205_x b206
        have r208_d := (m205_d).on b206
        have l208 := le_tr o205 b206
        clear n205 m205_r m205_k m205_x m205_d o205
        clear m205_s
        clear b206
        refine wpAnyH_takeL (i := 0) (d := some 50) (v := .agg (cA ⟨B, m, q, rm⟩)) rfl rfl (by kernel_rfl) (by kernel_rfl) (by kernel_rfl) (fun _ _ _ h => h) (Or.inl ⟨by rfl, ?_⟩) hHeld ?_
        · intro w hSw; exact yl_whole 28 _ g1 rfl hSw.1 Try.underlying28 rfl Try.zCr
        try simp only [Act.put, List.setIfInBounds_toArray, List.set_cons_zero, List.set_cons_succ]
        refine wpAnyH_takeL (i := 1) (d := some 51) (v := .agg (lA y)) rfl rfl (by kernel_rfl) (by kernel_rfl) (by kernel_rfl) (fun _ _ _ h => h) (Or.inl ⟨by rfl, ?_⟩) hHeld ?_
        · intro w hSw; exact yl_whole 45 _ g201 rfl hSw.2 Try.underlying45 rfl Try.zLr
        try simp only [Act.put, List.setIfInBounds_toArray, List.set_cons_zero, List.set_cons_succ]
        refine wpAnyH_ready (rs := [2]) (by kernel_rfl) (by simp) ?_
        refine AllReadyH.cons rfl (fun K hK => ?_) AllReadyH.nil
        refine rd_store rfl 28 _ _ rfl none rfl g4 (cA ⟨B, m, q, rm⟩) rfl rfl r208_r Try.zCr rfl (cA_one _) ?_
        refine ⟨fun V209 n209 k209 => ?_⟩
        have m209_a := k209.on r208_a ne4_a
        have m209_k := k209.on r208_k (Ne.symm ne7_r)
        have m209_x := k209.on r208_x (Ne.symm ne201_r)
        have m209_d := (r208_d).wr k209 up4
        have m209_s := SO.wr r207_s k209 nor
        have o209 := k209.bel _ _ l208 up4
        clear k209
        clear r208_r r208_a r208_k r208_x r208_d r207_s l208
        have y210 := Lib.hid (show (fun V : World => CB V g1 28 (cA ⟨B, m, q, rm⟩) ∧ CB V g201 45 (lA y)) V209 from ⟨m209_a, m209_x⟩)
        refine hK.out _ _ y210.out (fun hHeld => ?_)
        clear hK K y210
        try simp only [Act.put, List.setIfInBounds_toArray, List.set_cons_zero, List.set_cons_succ]
        refine wpAnyH_ready (rs := [3]) (by kernel_rfl) (by simp) ?_
        refine AllReadyH.cons rfl (fun K hK => ?_) AllReadyH.nil
        refine rd_store rfl 45 _ _ rfl none rfl g7 (lA y) rfl rfl m209_k Try.zLr rfl (lA_one _) ?_
        refine ⟨fun V211 n211 k211 => ?_⟩
        have m211_a := k211.on m209_a ne7_a
        have m211_r := k211.on n209 ne7_r
        have m211_x := k211.on m209_x (Ne.symm ne201_k)
        have m211_d := (m209_d).wr k211 up7
        have m211_s := SO.wr m209_s k211 hno
        have o211 := k211.bel _ _ o209 up7
        clear k211
        clear m209_k m209_a n209 m209_x m209_d m209_s o209
        have y212 := Lib.hid (show (fun V : World => CB V g1 28 (cA ⟨B, m, q, rm⟩) ∧ CB V g201 45 (lA y)) V211 from ⟨m211_a, m211_x⟩)
        refine hK.out _ _ y212.out (fun hHeld => ?_)
        clear hK K y212
        try simp only [Act.put, List.setIfInBounds_toArray, List.set_cons_zero, List.set_cons_succ]
        refine wpAnyH_takeL (i := 4) (d := some 8) (v := .int .i64 0) rfl rfl (by kernel_rfl) (by kernel_rfl) (by kernel_rfl) (fun _ _ _ h => h) (Or.inl ⟨by rfl, ?_⟩) hHeld ?_
        · intro w hSw; (try dsimp only at hSw); go_simp
        try simp only [Act.put, List.setIfInBounds_toArray, List.set_cons_zero, List.set_cons_succ]
        refine wpAnyH_done (by kernel_rfl) ?_ _
        go_wp2_with fail
        exact bodyPost_ret (v := .tuple #[.agg (cA ⟨B, m, q, rm⟩), .agg (lA y), .int .i64 0]) (res_cct Try.results32 rfl rfl rfl m211_r n211 Try.underlying28 rfl Try.zCr Try.underlying45 rfl Try.zLr) rfl (TRPost.taken m211_d.dl HE.out HJ.out HY.out m211_s o211)
    have HE := Lib.hid (eAt_7 (Q := toR (LT L)) (t := t) (k := i) (by omega) hi)
    have hj := fndI_no hi
    rw [hj] at N1
    have q2 : decide ((-1 : Int) < 0) = true := by decide
    clear hi hj
    go_enter Try.func32, Try.ntmps32
    go_wp2_with (first | ((with_reducible refine st_box 28 _ (cA ⟨A, n, c, rm⟩) ?_ ?_); exact rfl))
    refine ⟨fun V1 g1 n1 f1 => ?_⟩
    have up1 : w.heap.size ≤ g1 := Nat.le_of_eq f1.at_
    have bl1 := f1.bel
    clear f1
    have r3_d := (hd).on bl1
    have l3 := le_tr (Below.refl _ _) bl1
    clear hd
    clear bl1
    go_wp2_with (first | ((with_reducible refine st_alloc 28 (cA zeroC) ?_ ?_); exact zero_cr))
    refine ⟨fun V4 g4 n4 f4 => ?_⟩
    have ne4_a := f4.ne n1
    have up4 : w.heap.size ≤ g4 := f4.up l3
    have bl4 := f4.bel
    clear f4
    have r6_a := le_on n1 bl4
    have r6_d := (r3_d).on bl4
    have l6 := le_tr l3 bl4
    clear n1 r3_d l3
    clear bl4
    go_wp2_with (first | ((with_reducible refine st_alloc 45 (lA zeroL) ?_ ?_); exact zero_lr))
    refine ⟨fun V7 g7 n7 f7 => ?_⟩
    have ne7_a := f7.ne r6_a
    have ne7_r := f7.ne n4
    have up7 : w.heap.size ≤ g7 := f7.up l6
    have bl7 := f7.bel
    clear f7
    have r9_a := le_on r6_a bl7
    have r9_r := le_on n4 bl7
    have r9_d := (r6_d).on bl7
    have l9 := le_tr l6 bl7
    clear r6_a n4 r6_d l6
    clear bl7
    go_wp2_with (first | ((with_reducible refine st_load 28 _ g1 ?_ r9_a Try.underlying28 ?_ ?_ ?_); exact rfl; exact rfl; exact Try.zCr))
    (with_reducible refine (N1 _ r9_d.dl).mono ?_)
    rintro e w10 ⟨rfl, b10⟩
    have r12_a := le_on r9_a b10
    have r12_r := le_on r9_r b10
    have r12_k := le_on n7 b10
    have r12_d := (r9_d).on b10
    have l12 := le_tr l9 b10
    clear r9_a r9_r n7 r9_d l9
    clear b10
    go_wp2_with (first | ((with_reducible refine st_load 28 _ g1 ?_ r12_a Try.underlying28 ?_ ?_ ?_); exact rfl; exact rfl; exact Try.zCr) | ((with_reducible refine st_built0 45 (lA zeroL) ?_ ?_); exact built_r0) | ((with_reducible refine st_store 28 _ _ g4 (cA ⟨A, n, c, rm⟩) ?_ ?_ r12_r ?_ ?_ ?_ ?_); exact rfl; exact rfl; exact Try.zCr; exact rfl; exact cA_one _))
    refine ⟨fun V13 n13 k13 => ?_⟩
    have m13_a := k13.on r12_a ne4_a
    have m13_k := k13.on r12_k (Ne.symm ne7_r)
    have m13_d := (r12_d).wr k13 up4
    have o13 := k13.bel _ _ l12 up4
    clear k13
    clear r12_r r12_a r12_k r12_d l12
    go_wp2_with (first | ((with_reducible refine st_store 45 _ _ g7 (lA zeroL) ?_ ?_ m13_k ?_ ?_ ?_ ?_); exact rfl; exact rfl; exact Try.zLr; exact rfl; exact lA_one _))
    refine ⟨fun V14 n14 k14 => ?_⟩
    have m14_a := k14.on m13_a ne7_a
    have m14_r := k14.on n13 ne7_r
    have m14_d := (m13_d).wr k14 up7
    have o14 := k14.bel _ _ o13 up7
    clear k14
    clear m13_k m13_a n13 m13_d o13
    go_wp2_with fail
    exact bodyPost_ret (v := .tuple #[.agg (cA ⟨A, n, c, rm⟩), .agg (lA zeroL), .int .i64 7]) (res_cct Try.results32 rfl rfl rfl m14_r n14 Try.underlying28 rfl Try.zCr Try.underlying45 rfl Try.zLr) rfl (TRPost.no m14_d.dl HE.out (by decide) o14)
  have q1 : decide ((17 : Int) ≤ (t : Int)) = true := by simp; omega
  have q1' : decide ((t : Int) ≥ (17 : Int)) = true := by simp; omega
  have HE := Lib.hid (eAt_2 (Q := toR (LT L)) (t := t) (k := i) (by omega))
  go_enter Try.func32, Try.ntmps32
  go_wp2_with (first | ((with_reducible refine st_box 28 _ (cA ⟨A, n, c, rm⟩) ?_ ?_); exact rfl))
  refine ⟨fun V1 g1 n1 f1 => ?_⟩
  have up1 : w.heap.size ≤ g1 := Nat.le_of_eq f1.at_
  have bl1 := f1.bel
  clear f1
  have r3_d := (hd).on bl1
  have l3 := le_tr (Below.refl _ _) bl1
  clear hd
  clear bl1
  go_wp2_with (first | ((with_reducible refine st_alloc 28 (cA zeroC) ?_ ?_); exact zero_cr))
  refine ⟨fun V4 g4 n4 f4 => ?_⟩
  have ne4_a := f4.ne n1
  have up4 : w.heap.size ≤ g4 := f4.up l3
  have bl4 := f4.bel
  clear f4
  have r6_a := le_on n1 bl4
  have r6_d := (r3_d).on bl4
  have l6 := le_tr l3 bl4
  clear n1 r3_d l3
  clear bl4
  go_wp2_with (first | ((with_reducible refine st_alloc 45 (lA zeroL) ?_ ?_); exact zero_lr))
  refine ⟨fun V7 g7 n7 f7 => ?_⟩
  have ne7_a := f7.ne r6_a
  have ne7_r := f7.ne n4
  have up7 : w.heap.size ≤ g7 := f7.up l6
  have bl7 := f7.bel
  clear f7
  have r9_a := le_on r6_a bl7
  have r9_r := le_on n4 bl7
  have r9_d := (r6_d).on bl7
  have l9 := le_tr l6 bl7
  clear r6_a n4 r6_d l6
  clear bl7
  go_wp2_with (first | ((with_reducible refine st_load 28 _ g1 ?_ r9_a Try.underlying28 ?_ ?_ ?_); exact rfl; exact rfl; exact Try.zCr))
  (with_reducible refine (N1 _ r9_d.dl).mono ?_)
  rintro e w10 ⟨rfl, b10⟩
  have r12_a := le_on r9_a b10
  have r12_r := le_on r9_r b10
  have r12_k := le_on n7 b10
  have r12_d := (r9_d).on b10
  have l12 := le_tr l9 b10
  clear r9_a r9_r n7 r9_d l9
  clear b10
  go_wp2_with (first | ((with_reducible refine st_load 28 _ g1 ?_ r12_a Try.underlying28 ?_ ?_ ?_); exact rfl; exact rfl; exact Try.zCr) | ((with_reducible refine st_built0 45 (lA zeroL) ?_ ?_); exact built_r0) | ((with_reducible refine st_store 28 _ _ g4 (cA ⟨A, n, c, rm⟩) ?_ ?_ r12_r ?_ ?_ ?_ ?_); exact rfl; exact rfl; exact Try.zCr; exact rfl; exact cA_one _))
  refine ⟨fun V13 n13 k13 => ?_⟩
  have m13_a := k13.on r12_a ne4_a
  have m13_k := k13.on r12_k (Ne.symm ne7_r)
  have m13_d := (r12_d).wr k13 up4
  have o13 := k13.bel _ _ l12 up4
  clear k13
  clear r12_r r12_a r12_k r12_d l12
  go_wp2_with (first | ((with_reducible refine st_store 45 _ _ g7 (lA zeroL) ?_ ?_ m13_k ?_ ?_ ?_ ?_); exact rfl; exact rfl; exact Try.zLr; exact rfl; exact lA_one _))
  refine ⟨fun V14 n14 k14 => ?_⟩
  have m14_a := k14.on m13_a ne7_a
  have m14_r := k14.on n13 ne7_r
  have m14_d := (m13_d).wr k14 up7
  have o14 := k14.bel _ _ o13 up7
  clear k14
  clear m13_k m13_a n13 m13_d o13
  go_wp2_with fail
  exact bodyPost_ret (v := .tuple #[.agg (cA ⟨A, n, c, rm⟩), .agg (lA zeroL), .int .i64 2]) (res_cct Try.results32 rfl rfl rfl m14_r n14 Try.underlying28 rfl Try.zCr Try.underlying45 rfl Try.zLr) rfl (TRPost.no m14_d.dl HE.out (by decide) o14)
end Go.Proofs.Ytcfdfimkgehdfaa
