/-
  A play's one: it answers true where one at most holds the agency. Conditions: a play in which that is so.
-/
import Derived.Test.YtmghckddofefkaaHaS
set_option linter.unusedVariables false
set_option linter.unusedSimpArgs false
namespace Go.Proofs.Ytmghckddofefkaa
open Go.RowKit


theorem run_loadVar_part {P : Program} (w : World) (g : Nat) (ty : TypeId) (cs : Array Value) (d : TypeDesc) (hc : ∀ (j : Nat) v, cs[j]? = some v → w.cell? ⟨g, j, none⟩ = some v)
    (hu : P.underlying ty = some d) (hd : (match d with | .struct _ | .array _ _ => true | _ => false) = true) (hi : (P.info? ty).map (·.size) = some cs.size) : (loadVar ty ⟨g, 0, none⟩).run P w = .ok (.agg cs) w := by
  have hl : (loadCells ⟨g, 0, none⟩ cs.toList.length).run P w = .ok cs.toList.toArray w :=
    run_loadCells_list (P := P) w ⟨g, 0, none⟩ cs.toList (fun j v hv => by
      have hadd : (⟨g, 0, none⟩ : Addr).add j = ⟨g, j, none⟩ := by rw [Addr.add_lit, Nat.zero_add]
      rw [hadd]
      exact hc j v (by simpa using hv))
  cases hq : P.info? ty with
  | none => simp [hq] at hi
  | some i =>
    have hs : i.size = cs.size := by simpa [hq] using hi
    have hagg : (isAgg ty).run P w = .ok true w := by
      unfold isAgg
      rw [Sem.run_bind, run_underlying hu w]
      cases d <;> simp_all
    simp only [Array.length_toList, Array.toArray_toList] at hl
    simp [loadVar, Sem.run_bind, hagg, sizeOf, typeInfo, hq, hs, hl]
/-- A load of the first cells of a block, by a letter. -/
theorem wpList_load_part {P : Program} {ops : Array Oper} {rest : List Oper} {o : Oper} {a : Act} {w : World} {Q : Exit → Act → World → Prop} (hgd : o.guard = none) (ty : TypeId) (x : Operand) (ho : o.op = .load ty x)
    (g : Nat) (hx : a.eval x = .pointer (some ⟨g, 0, none⟩)) (cs : Array Value) (d : TypeDesc) (hc : ∀ (j : Nat) v, cs[j]? = some v → w.cell? ⟨g, j, none⟩ = some v)
    (hu : P.underlying ty = some d) (hd : (match d with | .struct _ | .array _ _ => true | _ => false) = true) (hi : (P.info? ty).map (·.size) = some cs.size)
    (h : wpList P ops Q rest (a.put o.dst (.agg cs)) w) : wpList P ops Q (o :: rest) a w :=
  wpList_plain hgd fun _ hK => by
    unfold Oper.wp execOp
    simp only [ho, hx, Instr.loadAt, Instr.sureAddr, Sem.run_bind, Sem.run_pure, Result.andThen_ok, run_loadVar_part w g ty cs d hc hu hd hi]
    exact hK _ _ h
/-- Four sides as one value. -/
def sidesA (S : Nat → Sd) : Array Value := ((List.range 24).map fun i => sdc (S (i / 6)) (i % 6)).toArray
theorem sidesA_get (S : Nat → Sd) {i : Nat} (hi : i < 24) : (sidesA S)[i]? = some (sdc (S (i / 6)) (i % 6)) := by simp [sidesA, hi]
theorem sidesA_size (S : Nat → Sd) : (sidesA S).size = 24 := by simp [sidesA]
theorem PM.sides {w : World} {P : Nat} {S : Nat → Sd} {sv : Value} {c : ByteArray} {bm : Nat} (h : PM w P S sv c bm) (j : Nat) (v : Value) (hv : (sidesA S)[j]? = some v) : w.cell? ⟨P, j, none⟩ = some v := by
  have hj : j < 24 := by have := (Array.getElem?_eq_some_iff.1 hv).1; rw [sidesA_size] at this; exact this
  rw [sidesA_get S hj] at hv
  cases hv
  rw [AN.cell h (i := j) (by omega)]
  unfold plc
  rw [if_pos hj]
theorem sides_cut (S : Nat → Sd) {k : Nat} (hk : k < 4) {me ep st to : Int} {cg : ByteArray} {kp : Bool} (hS : S k = ⟨me, ⟨ep, st, to⟩, cg, kp⟩) : (sidesA S).extract (k * 6) (k * 6 + 6) = #[.int .u8 me, .int .i64 ep, .int .i64 st, .int .u8 to, .string cg, .bool kp] := by
  have key : ∀ j, j < 6 → (sidesA S)[k * 6 + j]? = some (sdc ⟨me, ⟨ep, st, to⟩, cg, kp⟩ j) := by
    intro j hj
    rw [sidesA_get S (by omega), show (k * 6 + j) / 6 = k by omega, show (k * 6 + j) % 6 = j by omega, hS]
  have hsz := sidesA_size S
  apply Array.ext_getElem?
  intro i
  rw [Array.getElem?_extract]
  match i with
  | 0 => rw [if_pos (by omega), key 0 (by omega)]; rfl
  | 1 => rw [if_pos (by omega), key 1 (by omega)]; rfl
  | 2 => rw [if_pos (by omega), key 2 (by omega)]; rfl
  | 3 => rw [if_pos (by omega), key 3 (by omega)]; rfl
  | 4 => rw [if_pos (by omega), key 4 (by omega)]; rfl
  | 5 => rw [if_pos (by omega), key 5 (by omega)]; rfl
  | i + 6 => rw [if_neg (by omega)]; rfl
theorem index_side (S : Nat → Sd) {k : Nat} (hk : k < 4) {me ep st to : Int} {cg : ByteArray} {kp : Bool} (hS : S k = ⟨me, ⟨ep, st, to⟩, cg, kp⟩) (V : World) :
    (Instr.index 62 (.agg (sidesA S)) (.int .i64 (k : Int))).run Try.prog V = .ok (.agg #[.int .u8 me, .int .i64 ep, .int .i64 st, .int .u8 to, .string cg, .bool kp]) V := by
  have hs : (sizeOf 31).run Try.prog V = .ok 6 V := by kernel_rfl
  have ha : (isAgg 31).run Try.prog V = .ok true V := by kernel_rfl
  have hx := sides_cut S hk hS
  simp [Instr.index, asIntOf, run_underlying Try.underlying62, hk, hs, part, ha, hx, go_sem]
/-- What the map of those that held an epoch may have. -/
def MI (M : List (Int × Int)) (E : Int) (o : Nat) : Prop := ∀ p ∈ M, p.1 ≤ E ∧ (p.1 = E → p.2 = o)
theorem MI.put {M : List (Int × Int)} {E : Int} {o : Nat} (h : MI M E o) : MI (putL M E o) E o := by
  intro p hp
  rw [mem_putL] at hp
  rcases hp with rfl | ⟨hp, _⟩
  · exact ⟨Int.le_refl _, fun _ => rfl⟩
  · exact h p hp
theorem MI.up {M : List (Int × Int)} {E : Int} {o o' : Nat} (h : MI M E o) : MI M (E + 1) o' := fun p hp => by
  have := (h p hp).1
  exact ⟨by omega, fun e => by omega⟩
theorem MI.get {M : List (Int × Int)} {E : Int} {o : Nat} (h : MI M E o) (hs : Srt M) (hh : hasL M E = true) : (getL M E).getD 0 = o := by
  rw [has_get] at hh
  cases hg : getL M E with
  | none => rw [hg] at hh; cases hh
  | some v =>
    have := hs.get_iff.1 hg
    exact (h _ this).2 rfl
theorem put_len {M : List (Int × Int)} (k v : Int) : (putL M k v).length ≤ M.length + 1 := by
  unfold putL
  rw [length_insL]
  have := length_del_le M k
  omega
/-- How many of the first k hold it, and what the map is then. -/
def cnt (t : Bool) (o k : Nat) : Nat := if t = false ∧ o < k then 1 else 0
def mpk (M : List (Int × Int)) (E : Int) (t : Bool) (o k : Nat) : List (Int × Int) := if t = false ∧ o < k then putL M E o else M
theorem u8_in {k : Nat} (hk : k < 4) : IntKind.u8.wrap (k : Int) = (k : Int) := by simp [IntKind.wrap, IntKind.bits, IntKind.signed]; omega
theorem wf64 {k : Int} (h1 : 0 ≤ k) (h2 : k ≤ 1048576) : (Lit.int .i64 k).wf = true := by simp [Lit.wf, IntKind.min, IntKind.max, IntKind.bits, IntKind.signed]; omega
theorem wf8 {k : Nat} (h : k < 4) : (Lit.int .u8 (k : Int)).wf = true := by simp [Lit.wf, IntKind.min, IntKind.max, IntKind.bits, IntKind.signed]; omega
set_option maxRecDepth 100000 in
set_option maxHeartbeats 8000000 in
theorem one_c (B P : Nat) (S : Nat → Sd) (L : List Mg) (c : ByteArray) (M : List (Int × Int)) (E : Int) (o : Nat) (t : Bool) (w : World) (h : PL B w P S L c M) (hB : B ≤ w.heap.size) {L2 : List Mg} (hI : PI 4 S L2 c E o t) (hM : MI M E o) (hl : M.length ≤ 100000) : Calls Try.prog 24 #[.pointer (some ⟨P, 0, none⟩)] w fun r w' => r = .returned (.bool true) ∧ (∃ M', PL B w' P S L c M' ∧ MI M' E o ∧ M'.length ≤ M.length + 1) ∧ Below B w w' := by
  obtain ⟨⟨A, n, q, G, bm, hp, hs, hG, hm, hbm⟩, hP⟩ := h
  have hPw := hp.lt
  have hinf : (Try.prog.info? 62).map (·.size) = some (sidesA S).size := by rw [sidesA_size]; kernel_rfl
  have hpl := hp.sides
  have hix := fun (k : Nat) (hk : k < 4) (me ep st to : Int) (cg : ByteArray) (kp : Bool) (hS : S k = ⟨me, ⟨ep, st, to⟩, cg, kp⟩) (V : World) => index_side S hk hS V
  obtain ⟨cs, hcs⟩ : ∃ cs, sidesA S = cs := ⟨_, rfl⟩
  rw [hcs] at hinf hpl
  simp only [hcs] at hix
  have HI := Lib.hid hI
  have HM := Lib.hid hM
  have HX := Lib.hid hix
  clear hI hM hcs hix
  go_enter Try.func24, Try.ntmps24
  go_wp2_with (refine wpList_load_part rfl 62 _ rfl P rfl cs _ hpl Try.underlying62 rfl hinf ?_)
  clear hpl hinf
  go_loopw [3, 12] (fun nv iv wr => ∃ k : Nat, k ≤ 4 ∧ iv = .int .i64 k ∧ nv = .int .i64 (cnt t o k : Nat) ∧ PM wr P S (.slice A n q) c bm ∧ Seg wr 37 5 A n q (rc mc L) G ∧ MH wr bm (mpk M E t o k) ∧ Below B w wr) (fun _ iv _ => 4 - (intOf iv).toNat)
  case atStart => exact ⟨0, by omega, rfl, by simp [cnt], hp, hs, by simpa [mpk] using hm, Below.refl _ _⟩
  case round =>
    obtain ⟨k, hk, rfl, rfl, hpr, hsr, hmr, hbr⟩ := hrel
    obtain ⟨wz, hwz⟩ : ∃ z, z = wr := ⟨_, rfl⟩
    subst hwz
    clear hp hs hm
    have hBz : B ≤ wz.heap.size := Nat.le_trans hB hbr.size
    have hPz := hpr.lt
    by_cases hlt : k < 4
    · obtain ⟨⟨sme, ⟨sep, sst, sto⟩, scg, skp⟩, hS⟩ : ∃ s, S k = s := ⟨_, rfl⟩
      have hv := HI.out.val k hlt
      rw [hS] at hv
      obtain ⟨hv1, hv2⟩ := hv
      simp only at hv2
      subst hv2
      have hix := fun V => HX.out k hlt _ _ _ _ _ _ hS V
      have R1 := fun W => (by have := hright_c (k : Int) sep sst sto scg skp W; rw [decide_eq_true hv1] at this; exact this)
      have e0 : ((k : Int) != (k : Int)) = false := bne_self_eq_false _
      have e1 := u8_in hlt
      have e2 : decide ((k : Int) < 4) = true := by simp; omega
      have hrc := right_cases hv1.2.1
      simp only at hrc
      have HV := Lib.hid hv1
      have HS := Lib.hid hS
      clear hv1 hS
      have hzz : Below wz.heap.size wz wz := Below.refl _ _
      have av0 : wz.heap.size ≤ wz.heap.size := Nat.le_refl _
      obtain ⟨W21, hW21⟩ : ∃ V, wz.alloc (.cells #[.int .u8 (k : Int), .int .i64 sep, .int .i64 sst, .int .u8 sto, .string scg, .bool skp] 31) = V := ⟨_, rfl⟩
      have zW21 : wz.heap.size = wz.heap.size := by rfl
      have nW21 : CB W21 (wz.heap.size) 31 #[.int .u8 (k : Int), .int .i64 sep, .int .i64 sst, .int .u8 sto, .string scg, .bool skp] := by rw [← zW21, ← hW21]; exact CB.new _ _ _
      have bW21 : Below wz.heap.size wz W21 := by rw [← hW21]; exact le_al _ _
      have HW21 := Lib.hid hW21
      clear hW21 zW21
      have l22 := le_tr hzz bW21
      clear bW21
      have avs : B ≤ wz.heap.size := hBz
      go_wp2_with fail
      rw [HW21.out]
      refine (R1 _).mono ?_
      rintro e w23 ⟨rfl, b23⟩
      have r24_s := le_on nW21 b23
      have l24 := le_tr l22 b23
      clear nW21 l22
      clear b23
      by_cases h1 : sst = 1
      · have h1' : (sst != 1) = false := by simp [h1]
        have hko : k = o := Classical.byContradiction fun hne => (HI.out.oth k hlt hne).1 (by rw [HS.out]; exact h1)
        have ht : t = false := by
          cases t
          · rfl
          · have := (HI.out.gone rfl).1
            rw [← hko, HS.out] at this
            simp only at this
            omega
        have hE : sep = E := by have := HI.out.oep; rw [← hko, HS.out] at this; exact this
        have hcg : scg = c := by have := HI.out.ocg; rw [← hko, HS.out] at this; exact this
        have c0 : cnt t o k = 0 := by unfold cnt; rw [if_neg (by omega)]
        have c1 : cnt t o (k + 1) = 1 := by unfold cnt; rw [if_pos ⟨ht, by omega⟩]
        have m0 : mpk M E t o k = M := by unfold mpk; rw [if_neg (by omega)]
        have m1 : mpk M E t o (k + 1) = putL M sep k := by unfold mpk; rw [if_pos ⟨ht, by omega⟩, hE, hko]
        rw [c0]
        rw [m0] at hmr
        have hme := HM.out.get hmr.2
        rw [← hE, ← hko] at hme
        have hw64 : (Lit.int .i64 sep).wf = true := wf64 (by omega) (by omega)
        have t1 : (scg.toList != c.toList) = false := by rw [hcg]; exact bne_self_eq_false _
        have t12 : (scg.toList == c.toList) = true := by rw [hcg]; exact beq_self_eq_true _
        have C1 := Lib.hid c1
        have M1 := Lib.hid m1
        have T0 := Lib.hid ht
        clear c0 c1 m0 m1 hE hcg hko h1 ht
        have hp2 := PM.on hpr l24
        have hs2 := Seg.on hsr l24
        have hm2 := MH.on hmr l24
        obtain ⟨e24, e25, e26⟩ := PM.rest hp2
        clear e24
        have look : ∀ j, (Instr.lookup 63 (.map (some bm)) (.int .i64 sep) true).run Try.prog (w23.drewN j) = .ok (.tuple #[.int .u8 ((getL M sep).getD 0), .bool (hasL M sep)]) (w23.drewN j) := fun j => MH.look (hm2.drewN j) hw64
        obtain ⟨gv, hgv⟩ : ∃ v, (getL M sep).getD 0 = v := ⟨_, rfl⟩
        rw [hgv] at hme
        simp only [hgv] at look
        clear hgv
        cases hh : hasL M sep with
        | true =>
          simp only [hh] at look
          have t2 : (gv != (k : Int)) = false := by rw [hme hh]; exact bne_self_eq_false _
          have t3 : (gv == (k : Int)) = true := by rw [hme hh]; exact beq_self_eq_true _
          clear hme hh
          have f24_s0 : w23.cell? ⟨wz.heap.size, 0, none⟩ = some (.int .u8 (k : Int)) := CB.cell r24_s 0
          have f24_s1 : w23.cell? ⟨wz.heap.size, 1, none⟩ = some (.int .i64 sep) := CB.cell r24_s 1
          have f24_s2 : w23.cell? ⟨wz.heap.size, 2, none⟩ = some (.int .i64 sst) := CB.cell r24_s 2
          have f24_s3 : w23.cell? ⟨wz.heap.size, 3, none⟩ = some (.int .u8 sto) := CB.cell r24_s 3
          have f24_s4 : w23.cell? ⟨wz.heap.size, 4, none⟩ = some (.string scg) := CB.cell r24_s 4
          have f24_s5 : w23.cell? ⟨wz.heap.size, 5, none⟩ = some (.bool skp) := CB.cell r24_s 5
          go_wp2_with fail
          go_quiet (fail)
          clear f24_s0 f24_s1 f24_s2 f24_s3 f24_s4 f24_s5
          obtain ⟨Q25, hQ25⟩ : ∃ V, w23.drewN nq = V := ⟨_, rfl⟩
          have bQ25 : Below w23.heap.size w23 Q25 := by rw [← hQ25]; exact le_dN (Below.refl _ _)
          rw [hQ25]
          clear hQ25 nq
          clear look e25 e26
          have r26_s := le_on r24_s bQ25
          have l26 := le_tr l24 bQ25
          clear r24_s l24
          clear bQ25
          obtain ⟨e24, e25, e26⟩ := PM.rest (PM.on hpr l26)
          clear e24 e26
          have f26_s0 : Q25.cell? ⟨wz.heap.size, 0, none⟩ = some (.int .u8 (k : Int)) := CB.cell r26_s 0
          have f26_s1 : Q25.cell? ⟨wz.heap.size, 1, none⟩ = some (.int .i64 sep) := CB.cell r26_s 1
          have f26_s2 : Q25.cell? ⟨wz.heap.size, 2, none⟩ = some (.int .i64 sst) := CB.cell r26_s 2
          have f26_s3 : Q25.cell? ⟨wz.heap.size, 3, none⟩ = some (.int .u8 sto) := CB.cell r26_s 3
          have f26_s4 : Q25.cell? ⟨wz.heap.size, 4, none⟩ = some (.string scg) := CB.cell r26_s 4
          have f26_s5 : Q25.cell? ⟨wz.heap.size, 5, none⟩ = some (.bool skp) := CB.cell r26_s 5
          go_wp2_with fail
          go_quiet (fail)
          clear f26_s0 f26_s1 f26_s2 f26_s3 f26_s4 f26_s5
          obtain ⟨Q27, hQ27⟩ : ∃ V, Q25.drewN nq = V := ⟨_, rfl⟩
          have bQ27 : Below Q25.heap.size Q25 Q27 := by rw [← hQ27]; exact le_dN (Below.refl _ _)
          rw [hQ27]
          clear hQ27 nq
          clear e25
          have r28_s := le_on r26_s bQ27
          have l28 := le_tr l26 bQ27
          clear r26_s l26
          clear bQ27
          go_wp2_with fail
          have y29 := Lib.hid (show (fun V : World => V.cell? ⟨wz.heap.size, 0, none⟩ = some (.int .u8 (k : Int)) ∧ V.cell? ⟨wz.heap.size, 1, none⟩ = some (.int .i64 sep) ∧ V.cell? ⟨wz.heap.size, 2, none⟩ = some (.int .i64 sst) ∧ V.cell? ⟨wz.heap.size, 3, none⟩ = some (.int .u8 sto) ∧ V.cell? ⟨wz.heap.size, 4, none⟩ = some (.string scg) ∧ V.cell? ⟨wz.heap.size, 5, none⟩ = some (.bool skp) ∧ V.cell? ⟨P, 24, none⟩ = some (.slice A n q) ∧ V.cell? ⟨P, 25, none⟩ = some (.string c) ∧ V.cell? ⟨P, 26, none⟩ = some (.map (some bm))) Q27 from ⟨CB.cell r28_s 0, CB.cell r28_s 1, CB.cell r28_s 2, CB.cell r28_s 3, CB.cell r28_s 4, CB.cell r28_s 5, (PM.rest (PM.on hpr l28)).1, (PM.rest (PM.on hpr l28)).2.1, (PM.rest (PM.on hpr l28)).2.2⟩)
          refine wp_region_held_drew (S := (fun V : World => V.cell? ⟨wz.heap.size, 0, none⟩ = some (.int .u8 (k : Int)) ∧ V.cell? ⟨wz.heap.size, 1, none⟩ = some (.int .i64 sep) ∧ V.cell? ⟨wz.heap.size, 2, none⟩ = some (.int .i64 sst) ∧ V.cell? ⟨wz.heap.size, 3, none⟩ = some (.int .u8 sto) ∧ V.cell? ⟨wz.heap.size, 4, none⟩ = some (.string scg) ∧ V.cell? ⟨wz.heap.size, 5, none⟩ = some (.bool skp) ∧ V.cell? ⟨P, 24, none⟩ = some (.slice A n q) ∧ V.cell? ⟨P, 25, none⟩ = some (.string c) ∧ V.cell? ⟨P, 26, none⟩ = some (.map (some bm)))) (by kernel_rfl) y29.out (fun hHeld => ?_)
          obtain ⟨D29, hD29⟩ : ∃ V, Q27.drew = V := ⟨_, rfl⟩
          have b29 : Below Q27.heap.size Q27 D29 := by rw [← hD29]; exact le_dr (Below.refl _ _)
          rw [hD29] at hHeld ⊢
          clear hD29
          have r30_s := le_on r28_s b29
          have l30 := le_tr l28 b29
          clear r28_s l28
          clear b29
          refine wpAnyH_takeL (i := 0) (d := some 59) (v := .pointer (some ⟨P, 0, none⟩)) rfl rfl (by kernel_rfl) (by kernel_rfl) (by kernel_rfl) (fun _ _ _ h => h) (Or.inl ⟨by rfl, ?_⟩) hHeld ?_
          · intro w hSw; (try dsimp only at hSw); go_simp
          try simp only [Act.put, List.setIfInBounds_toArray, List.set_cons_zero, List.set_cons_succ]
          refine wpAnyH_takeL (i := 1) (d := some 60) (v := .pointer (some ⟨P, 0, none⟩)) rfl rfl (by kernel_rfl) (by kernel_rfl) (by kernel_rfl) (fun _ _ _ h => h) (Or.inl ⟨by rfl, ?_⟩) hHeld ?_
          · intro w hSw; (try dsimp only at hSw); go_simp
          try simp only [Act.put, List.setIfInBounds_toArray, List.set_cons_zero, List.set_cons_succ]
          refine wpAnyH_takeL (i := 2) (d := some 61) (v := .pointer (some ⟨P, 26, none⟩)) rfl rfl (by kernel_rfl) (by kernel_rfl) (by kernel_rfl) (fun _ _ _ h => h) (Or.inl ⟨by rfl, ?_⟩) hHeld ?_
          · intro w hSw; (try dsimp only at hSw); go_simp
          try simp only [Act.put, List.setIfInBounds_toArray, List.set_cons_zero, List.set_cons_succ]
          refine wpAnyH_takeL (i := 3) (d := some 62) (v := .map (some bm)) rfl rfl (by kernel_rfl) (by kernel_rfl) (by kernel_rfl) (fun _ _ _ h => h) (Or.inl ⟨by rfl, ?_⟩) hHeld ?_
          · intro w hSw; (try dsimp only at hSw); go_simp
          try simp only [Act.put, List.setIfInBounds_toArray, List.set_cons_zero, List.set_cons_succ]
          refine wpAnyH_takeL (i := 4) (d := some 63) (v := .pointer (some ⟨wz.heap.size, 1, none⟩)) rfl rfl (by kernel_rfl) (by kernel_rfl) (by kernel_rfl) (fun _ _ _ h => h) (Or.inl ⟨by rfl, ?_⟩) hHeld ?_
          · intro w hSw; (try dsimp only at hSw); go_simp
          try simp only [Act.put, List.setIfInBounds_toArray, List.set_cons_zero, List.set_cons_succ]
          refine wpAnyH_takeL (i := 5) (d := some 64) (v := .pointer (some ⟨wz.heap.size, 1, none⟩)) rfl rfl (by kernel_rfl) (by kernel_rfl) (by kernel_rfl) (fun _ _ _ h => h) (Or.inl ⟨by rfl, ?_⟩) hHeld ?_
          · intro w hSw; (try dsimp only at hSw); go_simp
          try simp only [Act.put, List.setIfInBounds_toArray, List.set_cons_zero, List.set_cons_succ]
          refine wpAnyH_takeL (i := 6) (d := some 65) (v := .int .i64 sep) rfl rfl (by kernel_rfl) (by kernel_rfl) (by kernel_rfl) (fun _ _ _ h => h) (Or.inl ⟨by rfl, ?_⟩) hHeld ?_
          · intro w hSw; (try dsimp only at hSw); go_simp
          try simp only [Act.put, List.setIfInBounds_toArray, List.set_cons_zero, List.set_cons_succ]
          refine wpAnyH_takeL (i := 7) (d := some 66) (v := .pointer (some ⟨wz.heap.size, 0, none⟩)) rfl rfl (by kernel_rfl) (by kernel_rfl) (by kernel_rfl) (fun _ _ _ h => h) (Or.inl ⟨by rfl, ?_⟩) hHeld ?_
          · intro w hSw; (try dsimp only at hSw); go_simp
          try simp only [Act.put, List.setIfInBounds_toArray, List.set_cons_zero, List.set_cons_succ]
          refine wpAnyH_takeL (i := 8) (d := some 67) (v := .int .u8 (k : Int)) rfl rfl (by kernel_rfl) (by kernel_rfl) (by kernel_rfl) (fun _ _ _ h => h) (Or.inl ⟨by rfl, ?_⟩) hHeld ?_
          · intro w hSw; (try dsimp only at hSw); go_simp
          try simp only [Act.put, List.setIfInBounds_toArray, List.set_cons_zero, List.set_cons_succ]
          refine wpAnyH_ready (rs := [9]) (by kernel_rfl) (by simp) ?_
          refine AllReadyH.cons rfl (fun K hK => ?_) AllReadyH.nil
          obtain ⟨V9, hrun9, hm9, ht9⟩ := MH.store (MH.on hmr l30) (show M.length < maxLen by simp only [maxLen]; omega) hw64 (wf8 hlt)
          have hg9 := ht9.grown
          go_simp
          go_wp2_with fail
          have j9_s := CB.same r30_s (hg9.block _ (CB.lt r30_s) (fun e => MH.ne (MH.on hmr l30) r30_s (by cases e; rfl)))
          have hp9 : PM V9 P S (.slice A n q) c bm := by
            have hp8 := PM.on hpr l30
            obtain ⟨cs8, hc8⟩ := hp8.block
            exact AN.same hp8 (hg9.block _ hp8.lt (fun e => MH.ne (MH.on hmr l30) hc8 (by cases e; rfl)))
          have hs9 : Seg V9 37 5 A n q (rc mc L) G := (Seg.on hsr l30).keep fun g hg => hg9.block g ((Seg.on hsr l30).lt g hg) (fun e => by
              cases e
              rcases (Seg.on hsr l30).2.2.2 with ⟨_, _, h0⟩ | ⟨g', off, cur, _, h2, h3, _⟩
              · rw [h0] at hg; cases hg
              · rw [h2] at hg
                cases hg
                exact MH.ne (MH.on hmr l30) h3 rfl)
          have l9 : Below B w V9 := (hbr.trans (Below.mono l30 hBz)).trans (grown_below hg9 (Nat.le_trans hBz l30.size) (fun g e => by cases e; exact hbm))
          have y31 := Lib.hid (show (fun V : World => V.cell? ⟨wz.heap.size, 0, none⟩ = some (.int .u8 (k : Int)) ∧ V.cell? ⟨wz.heap.size, 1, none⟩ = some (.int .i64 sep) ∧ V.cell? ⟨wz.heap.size, 2, none⟩ = some (.int .i64 sst) ∧ V.cell? ⟨wz.heap.size, 3, none⟩ = some (.int .u8 sto) ∧ V.cell? ⟨wz.heap.size, 4, none⟩ = some (.string scg) ∧ V.cell? ⟨wz.heap.size, 5, none⟩ = some (.bool skp) ∧ V.cell? ⟨P, 24, none⟩ = some (.slice A n q) ∧ V.cell? ⟨P, 25, none⟩ = some (.string c) ∧ V.cell? ⟨P, 26, none⟩ = some (.map (some bm))) V9 from ⟨CB.cell j9_s 0, CB.cell j9_s 1, CB.cell j9_s 2, CB.cell j9_s 3, CB.cell j9_s 4, CB.cell j9_s 5, (PM.rest hp9).1, (PM.rest hp9).2.1, (PM.rest hp9).2.2⟩)
          refine hK.out _ _ y31.out (fun hHeld => ?_)
          clear hK K y31
          try simp only [Act.put, List.setIfInBounds_toArray, List.set_cons_zero, List.set_cons_succ]
          refine wpAnyH_done (by kernel_rfl) ?_ _
          go_wp2_with fail
          go_roundw
          case rel => exact ⟨k + 1, by omega, by go_num, by rw [C1.out]; rfl, hp9, hs9, by rw [M1.out]; exact hm9, l9⟩
          case measure => simp [intOf]; omega
        | false =>
          simp only [hh] at look
          clear hme hh
          have f24_s0 : w23.cell? ⟨wz.heap.size, 0, none⟩ = some (.int .u8 (k : Int)) := CB.cell r24_s 0
          have f24_s1 : w23.cell? ⟨wz.heap.size, 1, none⟩ = some (.int .i64 sep) := CB.cell r24_s 1
          have f24_s2 : w23.cell? ⟨wz.heap.size, 2, none⟩ = some (.int .i64 sst) := CB.cell r24_s 2
          have f24_s3 : w23.cell? ⟨wz.heap.size, 3, none⟩ = some (.int .u8 sto) := CB.cell r24_s 3
          have f24_s4 : w23.cell? ⟨wz.heap.size, 4, none⟩ = some (.string scg) := CB.cell r24_s 4
          have f24_s5 : w23.cell? ⟨wz.heap.size, 5, none⟩ = some (.bool skp) := CB.cell r24_s 5
          go_wp2_with fail
          go_quiet (fail)
          clear f24_s0 f24_s1 f24_s2 f24_s3 f24_s4 f24_s5
          obtain ⟨Q25, hQ25⟩ : ∃ V, w23.drewN nq = V := ⟨_, rfl⟩
          have bQ25 : Below w23.heap.size w23 Q25 := by rw [← hQ25]; exact le_dN (Below.refl _ _)
          rw [hQ25]
          clear hQ25 nq
          clear look e25 e26
          have r26_s := le_on r24_s bQ25
          have l26 := le_tr l24 bQ25
          clear r24_s l24
          clear bQ25
          obtain ⟨e24, e25, e26⟩ := PM.rest (PM.on hpr l26)
          clear e24 e26
          have f26_s0 : Q25.cell? ⟨wz.heap.size, 0, none⟩ = some (.int .u8 (k : Int)) := CB.cell r26_s 0
          have f26_s1 : Q25.cell? ⟨wz.heap.size, 1, none⟩ = some (.int .i64 sep) := CB.cell r26_s 1
          have f26_s2 : Q25.cell? ⟨wz.heap.size, 2, none⟩ = some (.int .i64 sst) := CB.cell r26_s 2
          have f26_s3 : Q25.cell? ⟨wz.heap.size, 3, none⟩ = some (.int .u8 sto) := CB.cell r26_s 3
          have f26_s4 : Q25.cell? ⟨wz.heap.size, 4, none⟩ = some (.string scg) := CB.cell r26_s 4
          have f26_s5 : Q25.cell? ⟨wz.heap.size, 5, none⟩ = some (.bool skp) := CB.cell r26_s 5
          go_wp2_with fail
          go_quiet (fail)
          clear f26_s0 f26_s1 f26_s2 f26_s3 f26_s4 f26_s5
          obtain ⟨Q27, hQ27⟩ : ∃ V, Q25.drewN nq = V := ⟨_, rfl⟩
          have bQ27 : Below Q25.heap.size Q25 Q27 := by rw [← hQ27]; exact le_dN (Below.refl _ _)
          rw [hQ27]
          clear hQ27 nq
          clear e25
          have r28_s := le_on r26_s bQ27
          have l28 := le_tr l26 bQ27
          clear r26_s l26
          clear bQ27
          go_wp2_with fail
          have y29 := Lib.hid (show (fun V : World => V.cell? ⟨wz.heap.size, 0, none⟩ = some (.int .u8 (k : Int)) ∧ V.cell? ⟨wz.heap.size, 1, none⟩ = some (.int .i64 sep) ∧ V.cell? ⟨wz.heap.size, 2, none⟩ = some (.int .i64 sst) ∧ V.cell? ⟨wz.heap.size, 3, none⟩ = some (.int .u8 sto) ∧ V.cell? ⟨wz.heap.size, 4, none⟩ = some (.string scg) ∧ V.cell? ⟨wz.heap.size, 5, none⟩ = some (.bool skp) ∧ V.cell? ⟨P, 24, none⟩ = some (.slice A n q) ∧ V.cell? ⟨P, 25, none⟩ = some (.string c) ∧ V.cell? ⟨P, 26, none⟩ = some (.map (some bm))) Q27 from ⟨CB.cell r28_s 0, CB.cell r28_s 1, CB.cell r28_s 2, CB.cell r28_s 3, CB.cell r28_s 4, CB.cell r28_s 5, (PM.rest (PM.on hpr l28)).1, (PM.rest (PM.on hpr l28)).2.1, (PM.rest (PM.on hpr l28)).2.2⟩)
          refine wp_region_held_drew (S := (fun V : World => V.cell? ⟨wz.heap.size, 0, none⟩ = some (.int .u8 (k : Int)) ∧ V.cell? ⟨wz.heap.size, 1, none⟩ = some (.int .i64 sep) ∧ V.cell? ⟨wz.heap.size, 2, none⟩ = some (.int .i64 sst) ∧ V.cell? ⟨wz.heap.size, 3, none⟩ = some (.int .u8 sto) ∧ V.cell? ⟨wz.heap.size, 4, none⟩ = some (.string scg) ∧ V.cell? ⟨wz.heap.size, 5, none⟩ = some (.bool skp) ∧ V.cell? ⟨P, 24, none⟩ = some (.slice A n q) ∧ V.cell? ⟨P, 25, none⟩ = some (.string c) ∧ V.cell? ⟨P, 26, none⟩ = some (.map (some bm)))) (by kernel_rfl) y29.out (fun hHeld => ?_)
          obtain ⟨D29, hD29⟩ : ∃ V, Q27.drew = V := ⟨_, rfl⟩
          have b29 : Below Q27.heap.size Q27 D29 := by rw [← hD29]; exact le_dr (Below.refl _ _)
          rw [hD29] at hHeld ⊢
          clear hD29
          have r30_s := le_on r28_s b29
          have l30 := le_tr l28 b29
          clear r28_s l28
          clear b29
          refine wpAnyH_takeL (i := 0) (d := some 59) (v := .pointer (some ⟨P, 0, none⟩)) rfl rfl (by kernel_rfl) (by kernel_rfl) (by kernel_rfl) (fun _ _ _ h => h) (Or.inl ⟨by rfl, ?_⟩) hHeld ?_
          · intro w hSw; (try dsimp only at hSw); go_simp
          try simp only [Act.put, List.setIfInBounds_toArray, List.set_cons_zero, List.set_cons_succ]
          refine wpAnyH_takeL (i := 1) (d := some 60) (v := .pointer (some ⟨P, 0, none⟩)) rfl rfl (by kernel_rfl) (by kernel_rfl) (by kernel_rfl) (fun _ _ _ h => h) (Or.inl ⟨by rfl, ?_⟩) hHeld ?_
          · intro w hSw; (try dsimp only at hSw); go_simp
          try simp only [Act.put, List.setIfInBounds_toArray, List.set_cons_zero, List.set_cons_succ]
          refine wpAnyH_takeL (i := 2) (d := some 61) (v := .pointer (some ⟨P, 26, none⟩)) rfl rfl (by kernel_rfl) (by kernel_rfl) (by kernel_rfl) (fun _ _ _ h => h) (Or.inl ⟨by rfl, ?_⟩) hHeld ?_
          · intro w hSw; (try dsimp only at hSw); go_simp
          try simp only [Act.put, List.setIfInBounds_toArray, List.set_cons_zero, List.set_cons_succ]
          refine wpAnyH_takeL (i := 3) (d := some 62) (v := .map (some bm)) rfl rfl (by kernel_rfl) (by kernel_rfl) (by kernel_rfl) (fun _ _ _ h => h) (Or.inl ⟨by rfl, ?_⟩) hHeld ?_
          · intro w hSw; (try dsimp only at hSw); go_simp
          try simp only [Act.put, List.setIfInBounds_toArray, List.set_cons_zero, List.set_cons_succ]
          refine wpAnyH_takeL (i := 4) (d := some 63) (v := .pointer (some ⟨wz.heap.size, 1, none⟩)) rfl rfl (by kernel_rfl) (by kernel_rfl) (by kernel_rfl) (fun _ _ _ h => h) (Or.inl ⟨by rfl, ?_⟩) hHeld ?_
          · intro w hSw; (try dsimp only at hSw); go_simp
          try simp only [Act.put, List.setIfInBounds_toArray, List.set_cons_zero, List.set_cons_succ]
          refine wpAnyH_takeL (i := 5) (d := some 64) (v := .pointer (some ⟨wz.heap.size, 1, none⟩)) rfl rfl (by kernel_rfl) (by kernel_rfl) (by kernel_rfl) (fun _ _ _ h => h) (Or.inl ⟨by rfl, ?_⟩) hHeld ?_
          · intro w hSw; (try dsimp only at hSw); go_simp
          try simp only [Act.put, List.setIfInBounds_toArray, List.set_cons_zero, List.set_cons_succ]
          refine wpAnyH_takeL (i := 6) (d := some 65) (v := .int .i64 sep) rfl rfl (by kernel_rfl) (by kernel_rfl) (by kernel_rfl) (fun _ _ _ h => h) (Or.inl ⟨by rfl, ?_⟩) hHeld ?_
          · intro w hSw; (try dsimp only at hSw); go_simp
          try simp only [Act.put, List.setIfInBounds_toArray, List.set_cons_zero, List.set_cons_succ]
          refine wpAnyH_takeL (i := 7) (d := some 66) (v := .pointer (some ⟨wz.heap.size, 0, none⟩)) rfl rfl (by kernel_rfl) (by kernel_rfl) (by kernel_rfl) (fun _ _ _ h => h) (Or.inl ⟨by rfl, ?_⟩) hHeld ?_
          · intro w hSw; (try dsimp only at hSw); go_simp
          try simp only [Act.put, List.setIfInBounds_toArray, List.set_cons_zero, List.set_cons_succ]
          refine wpAnyH_takeL (i := 8) (d := some 67) (v := .int .u8 (k : Int)) rfl rfl (by kernel_rfl) (by kernel_rfl) (by kernel_rfl) (fun _ _ _ h => h) (Or.inl ⟨by rfl, ?_⟩) hHeld ?_
          · intro w hSw; (try dsimp only at hSw); go_simp
          try simp only [Act.put, List.setIfInBounds_toArray, List.set_cons_zero, List.set_cons_succ]
          refine wpAnyH_ready (rs := [9]) (by kernel_rfl) (by simp) ?_
          refine AllReadyH.cons rfl (fun K hK => ?_) AllReadyH.nil
          obtain ⟨V9, hrun9, hm9, ht9⟩ := MH.store (MH.on hmr l30) (show M.length < maxLen by simp only [maxLen]; omega) hw64 (wf8 hlt)
          have hg9 := ht9.grown
          go_simp
          go_wp2_with fail
          have j9_s := CB.same r30_s (hg9.block _ (CB.lt r30_s) (fun e => MH.ne (MH.on hmr l30) r30_s (by cases e; rfl)))
          have hp9 : PM V9 P S (.slice A n q) c bm := by
            have hp8 := PM.on hpr l30
            obtain ⟨cs8, hc8⟩ := hp8.block
            exact AN.same hp8 (hg9.block _ hp8.lt (fun e => MH.ne (MH.on hmr l30) hc8 (by cases e; rfl)))
          have hs9 : Seg V9 37 5 A n q (rc mc L) G := (Seg.on hsr l30).keep fun g hg => hg9.block g ((Seg.on hsr l30).lt g hg) (fun e => by
              cases e
              rcases (Seg.on hsr l30).2.2.2 with ⟨_, _, h0⟩ | ⟨g', off, cur, _, h2, h3, _⟩
              · rw [h0] at hg; cases hg
              · rw [h2] at hg
                cases hg
                exact MH.ne (MH.on hmr l30) h3 rfl)
          have l9 : Below B w V9 := (hbr.trans (Below.mono l30 hBz)).trans (grown_below hg9 (Nat.le_trans hBz l30.size) (fun g e => by cases e; exact hbm))
          have y31 := Lib.hid (show (fun V : World => V.cell? ⟨wz.heap.size, 0, none⟩ = some (.int .u8 (k : Int)) ∧ V.cell? ⟨wz.heap.size, 1, none⟩ = some (.int .i64 sep) ∧ V.cell? ⟨wz.heap.size, 2, none⟩ = some (.int .i64 sst) ∧ V.cell? ⟨wz.heap.size, 3, none⟩ = some (.int .u8 sto) ∧ V.cell? ⟨wz.heap.size, 4, none⟩ = some (.string scg) ∧ V.cell? ⟨wz.heap.size, 5, none⟩ = some (.bool skp) ∧ V.cell? ⟨P, 24, none⟩ = some (.slice A n q) ∧ V.cell? ⟨P, 25, none⟩ = some (.string c) ∧ V.cell? ⟨P, 26, none⟩ = some (.map (some bm))) V9 from ⟨CB.cell j9_s 0, CB.cell j9_s 1, CB.cell j9_s 2, CB.cell j9_s 3, CB.cell j9_s 4, CB.cell j9_s 5, (PM.rest hp9).1, (PM.rest hp9).2.1, (PM.rest hp9).2.2⟩)
          refine hK.out _ _ y31.out (fun hHeld => ?_)
          clear hK K y31
          try simp only [Act.put, List.setIfInBounds_toArray, List.set_cons_zero, List.set_cons_succ]
          refine wpAnyH_done (by kernel_rfl) ?_ _
          go_wp2_with fail
          go_roundw
          case rel => exact ⟨k + 1, by omega, by go_num, by rw [C1.out]; rfl, hp9, hs9, by rw [M1.out]; exact hm9, l9⟩
          case measure => simp [intOf]; omega
      · have h1' : (sst != 1) = true := by simp [h1]
        have hne : ¬ (t = false ∧ k = o) := by
          rintro ⟨h2, h3⟩
          have := HI.out.held h2
          rw [← h3, HS.out] at this
          exact h1 this
        have c1 : cnt t o (k + 1) = cnt t o k := by
          unfold cnt
          by_cases h2 : t = false ∧ o < k
          · rw [if_pos h2, if_pos ⟨h2.1, by omega⟩]
          · rw [if_neg h2, if_neg (fun h => by
              by_cases h3 : o < k
              · exact h2 ⟨h.1, h3⟩
              · exact hne ⟨h.1, by omega⟩)]
        have m1 : mpk M E t o (k + 1) = mpk M E t o k := by
          unfold mpk
          by_cases h2 : t = false ∧ o < k
          · rw [if_pos h2, if_pos ⟨h2.1, by omega⟩]
          · rw [if_neg h2, if_neg (fun h => by
              by_cases h3 : o < k
              · exact h2 ⟨h.1, h3⟩
              · exact hne ⟨h.1, by omega⟩)]
        have C1 := Lib.hid c1
        have M1 := Lib.hid m1
        clear c1 m1 hne h1
        obtain ⟨K, hK9⟩ : ∃ K, cnt t o k = K := ⟨_, rfl⟩
        rw [hK9] at C1 ⊢
        clear hK9
        have f24_s0 : w23.cell? ⟨wz.heap.size, 0, none⟩ = some (.int .u8 (k : Int)) := CB.cell r24_s 0
        have f24_s1 : w23.cell? ⟨wz.heap.size, 1, none⟩ = some (.int .i64 sep) := CB.cell r24_s 1
        have f24_s2 : w23.cell? ⟨wz.heap.size, 2, none⟩ = some (.int .i64 sst) := CB.cell r24_s 2
        have f24_s3 : w23.cell? ⟨wz.heap.size, 3, none⟩ = some (.int .u8 sto) := CB.cell r24_s 3
        have f24_s4 : w23.cell? ⟨wz.heap.size, 4, none⟩ = some (.string scg) := CB.cell r24_s 4
        have f24_s5 : w23.cell? ⟨wz.heap.size, 5, none⟩ = some (.bool skp) := CB.cell r24_s 5
        go_wp2_with fail
        go_roundw
        case rel => exact ⟨k + 1, by omega, by go_num, by rw [C1.out], PM.on hpr l24, Seg.on hsr l24, by rw [M1.out]; exact MH.on hmr l24, Below.trans hbr (Below.mono l24 hBz)⟩
        case measure => simp [intOf]; omega
    · obtain rfl : k = 4 := by omega
      have c4 : cnt t o 4 ≤ 1 := by unfold cnt; split <;> omega
      obtain ⟨K, hK9⟩ : ∃ K, cnt t o 4 = K := ⟨_, rfl⟩
      rw [hK9] at c4 ⊢
      clear hK9
      have c5 : decide ((K : Int) ≤ 1) = true := by simp; omega
      go_wp2_with fail
      go_ret
      refine ⟨rfl, ⟨_, ⟨⟨A, n, q, G, bm, hpr, hsr, hG, hmr, hbm⟩, hP⟩, ?_, ?_⟩, hbr⟩
      · unfold mpk
        split
        · exact HM.out.put
        · exact HM.out
      · unfold mpk
        split
        · exact put_len _ _
        · omega
end Go.Proofs.Ytmghckddofefkaa
