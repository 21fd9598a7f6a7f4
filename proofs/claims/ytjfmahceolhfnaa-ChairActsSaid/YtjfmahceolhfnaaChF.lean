/-
  A chair in memory: the map of its deals as a function, the chair's struct, its log; what leaves them as they are. No condition.
-/
import Derived.Test.YtjfmahceolhfnaaChA
import Derived.Maps.OwnIn
import Derived.Maps.RangeWalk
set_option linter.unusedVariables false
set_option linter.unusedSimpArgs false
set_option linter.unusedSectionVars false
namespace Go.Proofs.Ytjfmahceolhfnaa
open Go.RowKit Go.Maps Go.ChangeMaps Go.MapKept
open Go.WideElems (Fit rd rg pl rd_val)
open Go.WideShapes (sorted_perm)

def RV (v : Value) : Option (DataW Value × List MemPlace) := some (.held v, [])
theorem lawI : Keyed Try.prog 3 := int_keyed Try.underlying3
theorem wfI {k : Int} (h : -9223372036854775808 ≤ k ∧ k ≤ 9223372036854775807) : (Lit.int .i64 k).wf = true := by
  have e1 : IntKind.i64.min = -9223372036854775808 := by decide
  have e2 : IntKind.i64.max = 9223372036854775807 := by decide
  show (decide (IntKind.i64.min ≤ k) && decide (k ≤ IntKind.i64.max)) = true
  rw [e1, e2, decide_eq_true h.1, decide_eq_true h.2]
  rfl
/-- A list of numbers below N without any twice has N of them at most. -/
theorem few_nodup : ∀ (N : Nat) (L : List Nat), (∀ x ∈ L, x < N) → L.Nodup → L.length ≤ N
  | N, L, h1, h2 => by
    have : ∀ L : List Nat, (∀ x ∈ L, x < N) → L.Nodup → cntB (memF L) N = L.length := by
      intro L
      induction L with
      | nil =>
        intro _ _
        have : ∀ n, cntB (memF []) n = 0 := fun n => by
          induction n with
          | zero => rfl
          | succ k ih => simp [cntB, ih, memF]
        exact this N
      | cons x L ih =>
        intro h1 h2
        have hx := h1 x (by simp)
        rw [List.nodup_cons] at h2
        have ih := ih (fun y hy => h1 y (by simp [hy])) h2.2
        have e : memF (x :: L) = updB (memF L) x true := by
          funext i
          apply bool_eq
          rw [memF_iff]
          unfold updB
          split
          · rename_i e; simp [e]
          · rename_i e; rw [memF_iff]; simp [e]
        rw [e, cntB_upd _ _ (memF_no.2 h2.1), ih, if_pos hx]
        simp
    rw [← this L h1 h2]
    exact cntB_le _ _

/-! ### the map of deals -/
/-- What the map has at a key. -/
def fnV (D : DM) (k : Int) : Option Value := if 0 ≤ k then (D k.toNat).map (fun d => .agg (dA d)) else none
theorem fnV_nat (D : DM) (t : Nat) : fnV D (t : Int) = (D t).map (fun d => .agg (dA d)) := by unfold fnV; rw [if_pos (by omega)]; simp
theorem fnV_upd (D : DM) (t : Nat) (d : Dl) (j : Int) : fnV (updD D t d) j = if j = (t : Int) then some (.agg (dA d)) else fnV D j := by
  unfold fnV
  by_cases h : 0 ≤ j
  · rw [if_pos h, if_pos h]
    by_cases e : j = (t : Int)
    · subst e
      simp [updD_at]
    · rw [if_neg e, updD_ne _ _ (by omega)]
  · rw [if_neg h, if_neg h, if_neg (by omega)]
/-- The keys of a datum read as the deals. -/
def Reads (Dt : DataW Value) (D : DM) : Prop := ∀ k : Int, (has Dt (.int .i64 k) = (fnV D k).isSome) ∧ ∀ v, fnV D k = some v → ∀ z, Dt.atKey (.int .i64 k) z = .held v
/-- Deals at numbers below a thousand alone. -/
def Few (D : DM) : Prop := ∀ t d, D t = some d → t < 1000
/-- Block m is a map of deals. -/
def MD (w : World) (m : Nat) (D : DM) : Prop := ∃ Dt : DataW Value, w.ownsMap Try.prog 3 RV m 1000 Dt ∧ Reads Dt D
section
variable {w w' : World} {m : Nat} {D : DM}
theorem Reads.few {Dt : DataW Value} (h : Reads Dt D) (hf : Few D) {n : Nat} (ho : w.ownsMap Try.prog 3 RV m n Dt) : w.ownsMap Try.prog 3 RV m 1000 Dt := by
  obtain ⟨es', hD', hpw, _⟩ := ho.entries lawI
  obtain ⟨es, clock, hb, F, hs, hD⟩ := ho
  refine ⟨es, clock, hb, F, ?_, hD⟩
  have hk : ∀ p ∈ es', ∃ t : Nat, p.1 = .int .i64 (t : Int) ∧ t < 1000 := fun p hp => by
    have hp' : p ∈ es.toList.map (rg Try.prog 3 RV) := by
      have : p ∈ (es.toList.map (rg Try.prog 3 RV)).foldr DataW.insert [] := by
        rw [hD'] at hD
        injection hD with hD
        rw [← hD]
        exact hp
      exact mem_sorted.1 this
    obtain ⟨v, hv⟩ := Maps.fit_keys F p hp'
    obtain ⟨x, _, hx, _⟩ := Maps.keyOf_int_inv Try.underlying3 hv
    have hhas : has Dt (.int .i64 x) = true := by
      rw [hD']
      exact List.any_eq_true.2 ⟨p, hp, by rw [hx]; simp [Lit.sameKey]⟩
    rw [(h x).1] at hhas
    unfold fnV at hhas
    split at hhas
    · rename_i h0
      cases hd : D x.toNat with
      | none => rw [hd] at hhas; cases hhas
      | some d => exact ⟨x.toNat, by rw [hx, Int.toNat_of_nonneg h0], hf _ _ hd⟩
    · cases hhas
  have hlen : es'.length = es.size := by
    rw [hD'] at hD
    injection hD with hD
    rw [hD, (sorted_perm _).length_eq, List.length_map, Array.length_toList]
  rw [← hlen]
  have hnd : (es'.map fun p => match p.1 with | .int _ x => x.toNat | _ => 0).Nodup := by
    refine List.pairwise_map.2 (hpw.imp_of_mem fun {p q} hp hq hne e => hne ?_)
    obtain ⟨t, ht, _⟩ := hk p hp
    obtain ⟨u, hu, _⟩ := hk q hq
    rw [ht, hu] at e ⊢
    simp at e
    rw [e]
  have := few_nodup 1000 _ (fun x hx => by
    obtain ⟨p, hp, rfl⟩ := List.mem_map.1 hx
    obtain ⟨t, ht, h1⟩ := hk p hp
    rw [ht]
    simpa using h1) hnd
  simpa using this
theorem MD.lt (h : MD w m D) : m < w.heap.size := by obtain ⟨Dt, h1, _⟩ := h; exact h1.lt
theorem MD.is (h : MD w m D) : ∃ es cl, w.heap[m]? = some (.map es cl) := by
  obtain ⟨Dt, ⟨es, clock, hb, _⟩, _⟩ := h
  exact ⟨es, clock, hb⟩
theorem MD.same (h : MD w m D) (e : w'.heap[m]? = w.heap[m]?) : MD w' m D := by
  obtain ⟨Dt, ⟨es, clock, hb, r⟩, hs⟩ := h
  exact ⟨Dt, ⟨es, clock, e.trans hb, r⟩, hs⟩
theorem MD.on (h : MD w m D) (hb : Below w.heap.size w w') : MD w' m D := h.same (hb.block _ h.lt)
theorem MD.drew (h : MD w m D) : MD w.drew m D := h
theorem MD.made (w : World) : MD (w.alloc (.map #[] 0)) w.heap.size (fun _ => none) := ⟨_, (World.ownsMap_made w _ _ _).mono (Nat.zero_le _), fun k => ⟨by unfold fnV; split <;> rfl, fun v h => by unfold fnV at h; split at h <;> cases h⟩⟩
theorem MD.ne {g : Nat} {t : TypeId} {cs : Array Value} (h : MD w m D) (hc : CB w g t cs) : g ≠ m := by
  rintro rfl
  obtain ⟨es, cl, hb⟩ := h.is
  have h' : w.heap[g]? = some (.cells cs t (0, 0)) := hc
  rw [h'] at hb
  cases hb
theorem MD.wr (h : MD w m D) {g : Nat} (k : Wr w w' g) {t : TypeId} {cs : Array Value} (hc : CB w g t cs) : MD w' m D := h.same (k.far m (Ne.symm (h.ne hc)))
/-- A look-up with its comma-ok. -/
def lookV (D : DM) (k : Int) : Array Value := #[(fnV D k).getD (.agg (dA zeroD)), .bool (fnV D k).isSome]
theorem MD.look (h : MD w m D) {k : Int} (hk : (Lit.int .i64 k).wf = true) :
    (Instr.lookup 63 (.map (some m)) (.int .i64 k) true).run Try.prog w = .ok (.tuple (lookV D k)) w := by
  obtain ⟨Dt, h1, h2⟩ := h
  obtain ⟨h3, h4⟩ := h2 k
  obtain ⟨v, ps, hrun, hv⟩ := h1.look_ok lawI Try.underlying63 (zero_dl w) (zd := .held (.agg (dA zeroD))) (zp := []) rfl (keyOf_int_mk Try.underlying3 hk)
  rw [hrun, h3]
  have e : DataW.held v = Dt.atKey (.int .i64 k) (.held (.agg (dA zeroD))) := by
    unfold RV at hv
    simp only [Option.some.injEq, Prod.mk.injEq] at hv
    exact hv.1
  unfold lookV
  cases hf : fnV D k with
  | none =>
    rw [atKey_of_not_has (by rw [h3, hf]; rfl)] at e
    cases e
    rfl
  | some u =>
    rw [h4 u hf] at e
    cases e
    rfl
theorem MD.get (h : MD w m D) {t : Nat} (ht : t < 1000) {d : Dl} (hd : D t = some d) :
    (Instr.lookup 63 (.map (some m)) (.int .i64 (t : Int)) false).run Try.prog w = .ok (.agg (dA d)) w := by
  obtain ⟨Dt, h1, h2⟩ := h
  have hf : fnV D (t : Int) = some (.agg (dA d)) := by rw [fnV_nat, hd]; rfl
  obtain ⟨h3, h4⟩ := h2 (t : Int)
  obtain ⟨v, ps, hrun, hv⟩ := h1.lookup lawI Try.underlying63 (zero_dl w) (zd := .held (.agg (dA zeroD))) (zp := []) rfl (keyOf_int_mk Try.underlying3 (wfI (k := (t : Int)) (by omega)))
  rw [hrun]
  have e : DataW.held v = Dt.atKey (.int .i64 (t : Int)) (.held (.agg (dA zeroD))) := by
    unfold RV at hv
    simp only [Option.some.injEq, Prod.mk.injEq] at hv
    exact hv.1
  rw [h4 _ hf] at e
  cases e
  rfl
theorem MD.store (h : MD w m D) (hf : Few D) {t : Nat} (ht : t < 1000) (d : Dl) :
    ∃ w', (Instr.mapUpdate 63 (.map (some m)) (.int .i64 (t : Int)) (.agg (dA d))).run Try.prog w = .ok () w' ∧ MD w' m (updD D t d) ∧ w.mapTurned w' m := by
  obtain ⟨Dt, h1, h2⟩ := h
  have hk : (Lit.int .i64 (t : Int)).wf = true := wfI (by omega)
  obtain ⟨w', hrun, ho, hturn⟩ := h1.store lawI Try.underlying63 (by simp only [maxLen]; omega) (keyOf_int_mk Try.underlying3 hk) (val := .agg (dA d)) (d := .held (.agg (dA d))) (ps := []) rfl
  have hr : Reads (Dt.put (.int .i64 (t : Int)) (.held (.agg (dA d)))) (updD D t d) := fun j => by
    rw [fnV_upd]
    by_cases e : j = (t : Int)
    · subst e
      rw [if_pos rfl]
      have hkl := lawI.key (keyOf_int_mk Try.underlying3 hk)
      exact ⟨has_put_same h1.isMap hkl _, fun u hu z => by cases hu; exact atKey_put_same h1.isMap hkl _ _⟩
    · rw [if_neg e]
      have hne : Lit.int .i64 j ≠ Lit.int .i64 (t : Int) := fun x => e (by injection x)
      obtain ⟨h3, h4⟩ := h2 j
      exact ⟨by rw [has_put_other hne]; exact h3, fun u hu z => by rw [atKey_put_other hne]; exact h4 u hu z⟩
  refine ⟨w', hrun, ⟨_, hr.few (fun u e he => ?_) ho, hr⟩, hturn⟩
  unfold updD at he
  split at he
  · rename_i e; omega
  · exact hf u e he
end
/-- A map was written. -/
structure Mt (w V : World) (m : Nat) : Prop where
  lt : m < w.heap.size
  size : V.heap.size = w.heap.size
  far : ∀ b, b ≠ m → V.heap[b]? = w.heap[b]?
  bel : ∀ (B : Nat) (a : World), Below B a w → B ≤ m → Below B a V
theorem Mt.of {w V : World} {m : Nat} (h : w.mapTurned V m) : Mt w V m := by
  obtain ⟨es, clock, es', clock', hb, rfl⟩ := h
  have hlt := (Array.getElem?_eq_some_iff.1 hb).1
  have hf : ∀ b, b ≠ m → (setBlock w m (.map es' clock')).heap[b]? = w.heap[b]? := fun b hb => by
    unfold setBlock
    simp only [Array.set!_eq_setIfInBounds]
    rw [Array.getElem?_setIfInBounds_ne (Ne.symm hb)]
  refine ⟨hlt, by simp [setBlock], hf, fun B a ha hB => ⟨ha.os, ha.tape, ha.output, by simpa [setBlock] using ha.size, fun b hb => (hf b (by omega)).trans (ha.block b hb)⟩⟩
end Go.Proofs.Ytjfmahceolhfnaa
