/-
  A map of numbers to numbers in memory: a block that reads as a list by rising keys; what look-up, length and store do to it. Conditions: what each theorem names.
-/
import Derived.Test.YtfdboahcaiolgaaAgA
import Derived.Test.YtfdboahcaiolgaaAgCm
import Derived.Maps.OwnIn
import Derived.Maps.OwnOps
set_option linter.unusedVariables false
set_option linter.unusedSimpArgs false
namespace Go.Proofs.Ytfdboahcaiolgaa
open Go.RowKit Go.Maps Go.ChangeMaps

theorem tightI {H : Type} {P : Program} {k : TypeId} {R : Value → Option (DataW H × List MemPlace)} {w : World} {b n : Nat} {D : DataW H} (h : w.ownsMap P k R b n D) : w.ownsMap P k R b (Maps.size D) D := by
  obtain ⟨es, clock, hb, F, hs, rfl⟩ := h
  exact ⟨es, clock, hb, F, by simp [Maps.size, length_sorted], rfl⟩
theorem lawN : Keyed Try.prog 3 := int_keyed Try.underlying3
def dI (v : Int) : DataW Unit := .lit (Lit.int .i64 v)
theorem dI_inj {a b : Int} (h : dI a = dI b) : a = b := by
  unfold dI at h
  simpa using h
theorem zeroI (w : World) : (zeroValue 3).run Try.prog w = .ok (.int .i64 0) w := by kernel_rfl
theorem valI {v : Int} (h : (Lit.int .i64 v).wf = true) : plainElem (H := Unit) Try.prog 3 (.int .i64 v) = some (dI v, []) := plainElem_int Try.underlying3 h
theorem wf0 : (Lit.int .i64 0).wf = true := by decide
/-- Block b is a map that reads as M. -/
def MI (w : World) (b : Nat) (M : List (Int × Int)) : Prop := w.ownsMap Try.prog 3 (plainElem Try.prog 3) b M.length (dat .i64 dI M) ∧ Srt M
theorem Wr.turned {w V : World} {m : Nat} (h : w.mapTurned V m) : Wr w V m := by
  obtain ⟨es, clock, es', clock', hb, rfl⟩ := h
  have hlt := (Array.getElem?_eq_some_iff.1 hb).1
  have hf : ∀ b, b ≠ m → (setBlock w m (.map es' clock')).heap[b]? = w.heap[b]? := fun b hb => by
    unfold setBlock
    simp only [Array.set!_eq_setIfInBounds]
    rw [Array.getElem?_setIfInBounds_ne (Ne.symm hb)]
  refine ⟨hlt, by simp [setBlock], hf, fun B a ha hB => ⟨ha.os, ha.tape, ha.output, by simpa [setBlock] using ha.size, fun b hb => (hf b (by omega)).trans (ha.block b hb)⟩⟩
section
variable {w w' V : World} {b : Nat} {M : List (Int × Int)}
theorem MI.lt (h : MI w b M) : b < w.heap.size := h.1.lt
theorem MI.same (h : MI w b M) (e : w'.heap[b]? = w.heap[b]?) : MI w' b M := by
  obtain ⟨⟨es, clock, hb, r⟩, hs⟩ := h
  exact ⟨⟨es, clock, e.trans hb, r⟩, hs⟩
theorem MI.on (h : MI w b M) (hb : Below w.heap.size w w') : MI w' b M := h.same (hb.block b h.lt)
theorem MI.drew (h : MI w b M) : MI w.drew b M := h
theorem MI.made (w : World) : MI (w.alloc (.map #[] 0)) w.heap.size [] := ⟨World.ownsMap_made w _ _ _, srt_nil⟩
theorem MI.ne {g : Nat} {t : TypeId} {cs : Array Value} (h : MI w b M) (hc : CB w g t cs) : g ≠ b := by
  rintro rfl
  obtain ⟨⟨es, cl, hb, _⟩, _⟩ := h
  have h' : w.heap[g]? = some (.cells cs t (0, 0)) := hc
  rw [h'] at hb
  cases hb
theorem MI.wr (h : MI w b M) {g : Nat} (k : Wr w V g) {t : TypeId} {cs : Array Value} (hc : CB w g t cs) : MI V b M := h.same (k.far b (Ne.symm (h.ne hc)))
theorem MI.look (h : MI w b M) {k : Int} (hk : (Lit.int .i64 k).wf = true) :
    (Instr.lookup 62 (.map (some b)) (.int .i64 k) true).run Try.prog w = .ok (.tuple #[.int .i64 ((getL M k).getD 0), .bool (hasL M k)]) w := by
  obtain ⟨v, ps, hrun, hv⟩ := h.1.look_ok lawN Try.underlying62 (zeroI w) (valI wf0) (Maps.keyOf_int_mk Try.underlying3 hk)
  rw [dat_has] at hrun
  obtain ⟨c, rfl, hc, _⟩ := plainElem_int_inv Try.underlying3 hv
  rw [hrun]
  have e : dI ((getL M k).getD 0) = dI c := by
    have := congrArg Prod.fst hc
    simp only [dat_at] at this
    unfold dI
    rw [← this]
    cases getL M k <;> rfl
  rw [dI_inj e]
theorem MI.at_ (h : MI w b M) {k : Int} (hk : (Lit.int .i64 k).wf = true) :
    (Instr.lookup 62 (.map (some b)) (.int .i64 k) false).run Try.prog w = .ok (.int .i64 ((getL M k).getD 0)) w := by
  obtain ⟨v, ps, hrun, hv⟩ := h.1.lookup lawN Try.underlying62 (zeroI w) (valI wf0) (Maps.keyOf_int_mk Try.underlying3 hk)
  obtain ⟨c, rfl, hc, _⟩ := plainElem_int_inv Try.underlying3 hv
  rw [hrun]
  have e : dI ((getL M k).getD 0) = dI c := by
    have := congrArg Prod.fst hc
    simp only [dat_at] at this
    unfold dI
    rw [← this]
    cases getL M k <;> rfl
  rw [dI_inj e]
theorem MI.len (h : MI w b M) (ty : TypeId) : (Builtin.len_ #[62] ty #[.map (some b)]).run Try.prog w = .ok (.int .i64 M.length) w := by
  have := h.1.len Try.underlying62 ty
  rwa [dat_size] at this
theorem MI.store (h : MI w b M) (hn : M.length < maxLen) {k : Int} (hk : (Lit.int .i64 k).wf = true) {v : Int} (hv : (Lit.int .i64 v).wf = true) :
    ∃ w', (Instr.mapUpdate 62 (.map (some b)) (.int .i64 k) (.int .i64 v)).run Try.prog w = .ok () w' ∧ MI w' b (putM M k v) ∧ Wr w w' b := by
  obtain ⟨w', hrun, ho, ht⟩ := h.1.store lawN Try.underlying62 hn (Maps.keyOf_int_mk Try.underlying3 hk) (valI hv)
  rw [dat_put] at ho
  have := tightI ho
  rw [dat_size] at this
  exact ⟨w', hrun, ⟨this, h.2.put k v⟩, Wr.turned ht⟩
end
theorem run_mkI (w : World) : (Instr.makeMap 62 none).run Try.prog w = .ok (.map (some w.heap.size)) (w.alloc (.map #[] 0)) := run_makeMap _ w
theorem wf_i64 {v : Int} (h : -9223372036854775808 ≤ v ∧ v ≤ 9223372036854775807) : (Lit.int .i64 v).wf = true := by
  simp [Lit.wf, IntKind.min, IntKind.max, IntKind.bits, IntKind.signed]
  omega
end Go.Proofs.Ytfdboahcaiolgaa
