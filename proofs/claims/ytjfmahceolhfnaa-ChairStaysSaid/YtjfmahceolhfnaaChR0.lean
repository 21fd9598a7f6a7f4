/-
  Maps of numbers that a walk has made; what has been told of outcomes. No condition.
-/
import Derived.Test.YtjfmahceolhfnaaChY
set_option linter.unusedVariables false
set_option linter.unusedSimpArgs false
namespace Go.Proofs.Ytjfmahceolhfnaa
open Go.RowKit Go.Maps

/-- A map of int whose elements are read as they are. -/
def MG (w : World) (m : Nat) (fv : Int → Option Value) : Prop := ∃ Dt : DataW Value, w.ownsMap Try.prog 3 RV m 1000 Dt ∧ ∀ k : Int, (has Dt (.int .i64 k) = (fv k).isSome) ∧ ∀ v, fv k = some v → ∀ z, Dt.atKey (.int .i64 k) z = .held v
def fvI (f : Nat → Option Int) (k : Int) : Option Value := if 0 ≤ k then (f k.toNat).map (Value.int .i64) else none
def updO (f : Nat → Option Int) (t : Nat) (o : Int) : Nat → Option Int := fun u => if u = t then some o else f u
theorem fvI_upd (f : Nat → Option Int) (t : Nat) (o : Int) (j : Int) : fvI (updO f t o) j = if j = (t : Int) then some (.int .i64 o) else fvI f j := by
  unfold fvI
  by_cases h : 0 ≤ j
  · rw [if_pos h, if_pos h]
    unfold updO
    by_cases e : j = (t : Int)
    · subst e
      simp
    · rw [if_neg e, if_neg (by omega)]
  · rw [if_neg h, if_neg h, if_neg (by omega)]
section
variable {w w' : World} {m : Nat} {fv : Int → Option Value}
theorem few_own {Dt : DataW Value} {fv : Int → Option Value} (h : ∀ k : Int, has Dt (.int .i64 k) = (fv k).isSome) (hf : ∀ k, (fv k).isSome = true → 0 ≤ k ∧ k < 1000) {n : Nat} (ho : w.ownsMap Try.prog 3 RV m n Dt) : w.ownsMap Try.prog 3 RV m 1000 Dt := by
  obtain ⟨es', hD', hpw, _⟩ := ho.entries lawI
  obtain ⟨es, clock, hb, F, hs, hD⟩ := ho
  refine ⟨es, clock, hb, F, ?_, hD⟩
  have hk : ∀ p ∈ es', ∃ t : Nat, p.1 = .int .i64 (t : Int) ∧ t < 1000 := fun p hp => by
    have hp' : p ∈ es.toList.map (Go.WideElems.rg Try.prog 3 RV) := by
      have : p ∈ (es.toList.map (Go.WideElems.rg Try.prog 3 RV)).foldr DataW.insert [] := by
        rw [hD'] at hD
        injection hD with hD
        rw [← hD]
        exact hp
      exact mem_sorted.1 this
    obtain ⟨v, hv⟩ := Maps.fit_keys F p hp'
    obtain ⟨x, _, hx, _⟩ := Maps.keyOf_int_inv Try.underlying3 hv
    have hhas : has Dt (.int .i64 x) = true := by
      rw [hD']
      exact List.any_eq_true.2 ⟨p, hp, by rw [hx]; simp [Lit.sameKey]⟩
    rw [h x] at hhas
    obtain ⟨h0, h1⟩ := hf x hhas
    exact ⟨x.toNat, by rw [hx, Int.toNat_of_nonneg h0], by omega⟩
  have hlen : es'.length = es.size := by
    rw [hD'] at hD
    injection hD with hD
    rw [hD, (Go.WideShapes.sorted_perm _).length_eq, List.length_map, Array.length_toList]
  rw [← hlen]
  have hnd : (es'.map fun p => match p.1 with | .int _ x => x.toNat | _ => 0).Nodup := by
    refine List.pairwise_map.2 (hpw.imp_of_mem fun {p q} hp hq hne e => hne ?_)
    obtain ⟨t, ht, _⟩ := hk p hp
    obtain ⟨u, hu, _⟩ := hk q hq
    rw [ht, hu] at e ⊢
    simp at e
    rw [e]
  have := few_nodup 1000 _ (fun x hx => by
    obtain ⟨p, hp, rfl⟩ := List.mem_map.1 hx
    obtain ⟨t, ht, h1⟩ := hk p hp
    rw [ht]
    simpa using h1) hnd
  simpa using this
theorem MG.lt (h : MG w m fv) : m < w.heap.size := by obtain ⟨Dt, h1, _⟩ := h; exact h1.lt
theorem MG.is (h : MG w m fv) : ∃ es cl, w.heap[m]? = some (.map es cl) := by
  obtain ⟨Dt, ⟨es, clock, hb, _⟩, _⟩ := h
  exact ⟨es, clock, hb⟩
theorem MG.same (h : MG w m fv) (e : w'.heap[m]? = w.heap[m]?) : MG w' m fv := by
  obtain ⟨Dt, ⟨es, clock, hb, r⟩, hs⟩ := h
  exact ⟨Dt, ⟨es, clock, e.trans hb, r⟩, hs⟩
theorem MG.on (h : MG w m fv) (hb : Below w.heap.size w w') : MG w' m fv := h.same (hb.block _ h.lt)
theorem MG.ne {g : Nat} {t : TypeId} {cs : Array Value} (h : MG w m fv) (hc : CB w g t cs) : g ≠ m := by
  rintro rfl
  obtain ⟨es, cl, hb⟩ := h.is
  have h' : w.heap[g]? = some (.cells cs t (0, 0)) := hc
  rw [h'] at hb
  cases hb
theorem MG.made (w : World) : MG (w.alloc (.map #[] 0)) w.heap.size (fvI fun _ => none) := ⟨_, (World.ownsMap_made w _ _ _).mono (Nat.zero_le _), fun k => ⟨by unfold fvI; split <;> rfl, fun v h => by unfold fvI at h; split at h <;> cases h⟩⟩
theorem MG.store {f : Nat → Option Int} (h : MG w m (fvI f)) (hf : ∀ t o, f t = some o → t < 1000) {t : Nat} (ht : t < 1000) (o : Int) :
    ∃ w', (Instr.mapUpdate 58 (.map (some m)) (.int .i64 (t : Int)) (.int .i64 o)).run Try.prog w = .ok () w' ∧ MG w' m (fvI (updO f t o)) ∧ w.mapTurned w' m := by
  obtain ⟨Dt, h1, h2⟩ := h
  have hk : (Lit.int .i64 (t : Int)).wf = true := wfI (by omega)
  obtain ⟨w', hrun, ho, hturn⟩ := h1.store lawI Try.underlying58 (by simp only [maxLen]; omega) (keyOf_int_mk Try.underlying3 hk) (val := .int .i64 o) (d := .held (.int .i64 o)) (ps := []) rfl
  have hr : ∀ j : Int, (has (Dt.put (.int .i64 (t : Int)) (.held (.int .i64 o))) (.int .i64 j) = (fvI (updO f t o) j).isSome) ∧ ∀ v, fvI (updO f t o) j = some v → ∀ z, (Dt.put (.int .i64 (t : Int)) (.held (.int .i64 o))).atKey (.int .i64 j) z = .held v := fun j => by
    rw [fvI_upd]
    by_cases e : j = (t : Int)
    · subst e
      rw [if_pos rfl]
      have hkl := lawI.key (keyOf_int_mk Try.underlying3 hk)
      exact ⟨has_put_same h1.isMap hkl _, fun u hu z => by cases hu; exact atKey_put_same h1.isMap hkl _ _⟩
    · rw [if_neg e]
      have hne : Lit.int .i64 j ≠ Lit.int .i64 (t : Int) := fun x => e (by injection x)
      obtain ⟨h3, h4⟩ := h2 j
      exact ⟨by rw [has_put_other hne]; exact h3, fun u hu z => by rw [atKey_put_other hne]; exact h4 u hu z⟩
  refine ⟨w', hrun, ⟨_, few_own (fun k => (hr k).1) (fun k hk2 => ?_) ho, hr⟩, hturn⟩
  rw [fvI_upd] at hk2
  split at hk2
  · omega
  · unfold fvI at hk2
    split at hk2
    · rename_i h0
      cases hq : f k.toNat with
      | none => rw [hq] at hk2; cases hk2
      | some o2 => have := hf _ _ hq; omega
    · cases hk2
theorem readsI_at {Dt : DataW Value} {f : Nat → Option Int} (hRd : ∀ k : Int, (has Dt (.int .i64 k) = (fvI f k).isSome) ∧ ∀ v, fvI f k = some v → ∀ z, Dt.atKey (.int .i64 k) z = .held v) {x : Int} {c : Value} {yd : DataW Value} {yp : List MemPlace} (hat : ∀ zd, Dt.atKey (.int .i64 x) zd = yd) (hv : RV c = some (yd, yp)) : ∃ (t : Nat) (o : Int), x = (t : Int) ∧ f t = some o ∧ c = .int .i64 o := by
  obtain ⟨r1, r2⟩ := hRd x
  have hhas : has Dt (.int .i64 x) = true := has_true_of_atKey hat
  rw [r1] at hhas
  unfold fvI at hhas r2
  by_cases h0 : 0 ≤ x
  · rw [if_pos h0] at hhas r2
    cases hd : f x.toNat with
    | none => rw [hd] at hhas; cases hhas
    | some d =>
      rw [hd] at r2
      have e1 := r2 _ rfl (.held c)
      rw [hat] at e1
      unfold RV at hv
      cases hv
      cases e1
      exact ⟨x.toNat, d, by omega, hd, rfl⟩
  · rw [if_neg h0] at hhas; cases hhas
end
/-- A map of outcomes that the walk has made. -/
structure MO (B0 : Nat) (W : World) (m2 : Nat) (f : Nat → Option Int) : Prop where
  md : MG W m2 (fvI f)
  hi : B0 ≤ m2
section
variable {B0 : Nat} {W V : World} {m2 : Nat} {f : Nat → Option Int}
theorem MO.on (h : MO B0 W m2 f) (hb : Below W.heap.size W V) : MO B0 V m2 f := ⟨h.md.on hb, h.hi⟩
theorem MO.wr (h : MO B0 W m2 f) {g : Nat} (k : Wr W V g) {t : TypeId} {cs : Array Value} (hc : CB W g t cs) : MO B0 V m2 f := ⟨h.md.same (k.far m2 (Ne.symm (h.md.ne hc))), h.hi⟩
theorem MO.out (h : MO B0 W m2 f) {S : Nat → Prop} (ou : Out W V S) (hn : ¬ S m2) : MO B0 V m2 f := ⟨h.md.same (ou.block m2 h.md.lt hn), h.hi⟩
end
theorem Mt.onG {w V : World} {m : Nat} (h : Mt w V m) {b : Nat} {T : TypeId} {cs : Array Value} (hb : CB w b T cs) {fv : Int → Option Value} (hm : MG w m fv) : CB V b T cs := CB.same hb (h.far b (hm.ne hb))
/-- What has been told of outcomes holds. -/
def InvO (D : DM) (f : Nat → Option Int) : Prop := ∀ t o, f t = some o → ∃ d, D t = some d ∧ d.out = o ∧ ¬ o = 0
theorem invO_0 (D : DM) : InvO D (fun _ => none) := fun t o h => by cases h
theorem invO_do {D : DM} {f : Nat → Option Int} (h : InvO D f) (r : Rd) : InvO (sDoC D r) f := fun t o ho => by
  obtain ⟨d, h1, h2, h3⟩ := h t o ho
  obtain ⟨d', e1, e2⟩ := do_stays (r := r) h1 (by rw [h2]; exact h3)
  exact ⟨d', e1, e2.trans h2, h3⟩
theorem invO_upd {D : DM} {f : Nat → Option Int} (h : InvO D f) {t : Nat} {d : Dl} (hd : D t = some d) (ho : ¬ d.out = 0) : InvO D (updO f t d.out) := fun u o hu => by
  unfold updO at hu
  split at hu
  · rename_i e; subst e; cases hu; exact ⟨d, hd, rfl, ho⟩
  · exact h u o hu
theorem invO_few {D : DM} {f : Nat → Option Int} (h : InvO D f) (hf : Few D) : ∀ t o, f t = some o → t < 1000 := fun t o ho => by
  obtain ⟨d, h1, _⟩ := h t o ho
  exact hf t d h1
theorem dOf_some {D : DM} (hf : Few D) {x : Int} {d : Dl} (h : dOf D x = some d) : ∃ t : Nat, x = (t : Int) ∧ D t = some d ∧ t < 1000 := by
  unfold dOf at h
  split at h
  · exact ⟨x.toNat, by omega, h, hf _ _ h⟩
  · cases h
theorem run_mk2 (w : World) : (Instr.makeMap 58 none).run Try.prog w = .ok (.map (some w.heap.size)) (w.alloc (.map #[] 0)) := run_makeMap _ w
theorem dA_pwh (d : Dl) : (dA d).extract 0 (0 + (bA d.ty.wh).size) = bA d.ty.wh := by simp [dA, bA]
theorem dA_vt (d : Dl) : ∀ {k : Nat}, k < 8 → (dA d)[8 + k]? = some (.int .i64 (d.ty.vt k))
  | 0, _ => rfl
  | 1, _ => rfl
  | 2, _ => rfl
  | 3, _ => rfl
  | 4, _ => rfl
  | 5, _ => rfl
  | 6, _ => rfl
  | 7, _ => rfl
end Go.Proofs.Ytjfmahceolhfnaa
