/-
  A map of ids and times in memory, as the law WheelOnce keeps it: a block that reads as a list by rising ids; what look-up, length, store, delete and a range do to it; such a list beside the timers of a wheel. Conditions: what each theorem names.
-/
import Derived.Test.YtgpmgghjcocfmaaWhT
import Derived.Maps.RangeWalk
import Derived.Maps.OwnOps
set_option linter.unusedVariables false
set_option linter.unusedSimpArgs false
namespace Go.Proofs.Ytgpmgghjcocfmaa
open Go.RowKit

def dO (v : Int) : DataW Unit := .lit (Lit.int .i64 v)
theorem dO_inj {a b : Int} (h : dO a = dO b) : a = b := by
  unfold dO at h
  simpa using h
theorem zeroO (w : World) : (zeroValue 2).run Try.prog w = .ok (.int .i64 0) w := by kernel_rfl
theorem wf_zero : (Lit.int .i64 0).wf = true := by decide
theorem val_mk {v : Int} (h : (Lit.int .i64 v).wf = true) : plainElem (H := Unit) Try.prog 2 (.int .i64 v) = some (dO v, []) := plainElem_int Try.underlying2 h

/-- Block b is a map that reads as M. -/
def MO (w : World) (b : Nat) (M : List (Int × Int)) : Prop := w.ownsMap Try.prog 3 (plainElem Try.prog 2) b M.length (dat .i64 dO M) ∧ Srt M
section
variable {w w' : World} {b : Nat} {M : List (Int × Int)}
theorem MO.lt (h : MO w b M) : b < w.heap.size := h.1.lt
theorem MO.same (h : MO w b M) (e : w'.heap[b]? = w.heap[b]?) : MO w' b M := by
  obtain ⟨⟨es, clock, hb, r⟩, hs⟩ := h
  exact ⟨⟨es, clock, e.trans hb, r⟩, hs⟩
theorem MO.on {B : Nat} (h : MO w b M) (hb : Below B w w') (hB : b < B) : MO w' b M := h.same (hb.block b hB)
theorem MO.made (w : World) : MO (w.alloc (.map #[] 0)) w.heap.size [] := ⟨World.ownsMap_made w _ _ _, srt_nil⟩
theorem MO.ne {g : Nat} {t : TypeId} {cs : Array Value} (h : MO w b M) (hc : CB w g t cs) : b ≠ g := by
  rintro rfl
  obtain ⟨⟨es, cl, hb, _⟩, _⟩ := h
  have h' : w.heap[b]? = some (.cells cs t (0, 0)) := hc
  rw [h'] at hb
  cases hb
theorem MO.look (h : MO w b M) {k : Int} (hk : (Lit.int .i64 k).wf = true) :
    (Instr.lookup 59 (.map (some b)) (.int .i64 k) true).run Try.prog w = .ok (.tuple #[.int .i64 ((getL M k).getD 0), .bool (hasL M k)]) w := by
  obtain ⟨v, ps, hrun, hv⟩ := h.1.look_ok lawI Try.underlying59 (zeroO w) (val_mk wf_zero) (Maps.keyOf_int_mk Try.underlying3 hk)
  rw [dat_has] at hrun
  obtain ⟨c, rfl, hc, _⟩ := plainElem_int_inv Try.underlying2 hv
  rw [hrun]
  have e : dO ((getL M k).getD 0) = dO c := by
    have := congrArg Prod.fst hc
    simp only [dat_at] at this
    unfold dO
    rw [← this]
    cases getL M k <;> rfl
  rw [dO_inj e]
theorem MO.len (h : MO w b M) (ty : TypeId) : (Builtin.len_ #[59] ty #[.map (some b)]).run Try.prog w = .ok (.int .i64 M.length) w := by
  have := h.1.len Try.underlying59 ty
  rwa [dat_size] at this
theorem MO.stored {D : DataW Unit} {n : Nat} {k v : Int} (h : MO w b M) (ho : w'.ownsMap Try.prog 3 (plainElem Try.prog 2) b n ((dat .i64 dO M).put (.int .i64 k) (dO v))) : MO w' b (putL M k v) := by
  rw [dat_put] at ho
  have := tight ho
  rw [dat_size] at this
  exact ⟨this, h.2.put k v⟩
theorem MO.dropped {n : Nat} {k : Int} (h : MO w b M) (ho : w'.ownsMap Try.prog 3 (plainElem Try.prog 2) b n ((dat .i64 dO M).del (.int .i64 k))) : MO w' b (delL M k) := by
  rw [dat_del] at ho
  have := tight ho
  rw [dat_size] at this
  exact ⟨this, h.2.del k⟩
end
theorem at_mem {M : List (Int × Int)} (hM : Srt M) {k v : Int} (h : ∀ zd, (dat .i64 dO M).atKey (.int .i64 k) zd = dO v) : (k, v) ∈ M := by
  rw [← hM.get_iff]
  have h1 := h (.map [])
  rw [dat_at] at h1
  cases hg : getL M k with
  | none => rw [hg] at h1; simp [dO] at h1
  | some c =>
    rw [hg] at h1
    rw [dO_inj h1]

theorem run_makeNone {P : Program} {t k e : TypeId} (ht : P.underlying t = some (.map k e)) (w : World) : (Instr.makeMap t none).run P w = .ok (.map (some w.heap.size)) (w.alloc (.map #[] 0)) := by
  simp [Instr.makeMap, run_underlying ht, Result.andThen]

/-! ### the list beside a wheel's timers -/
theorem has_perm {M L : List (Int × Int)} (h : M.Perm L) (id : Int) : hasL M id = hasL L id := by
  rw [Bool.eq_iff_iff, has_iff, has_iff]
  constructor
  · rintro ⟨p, hp, e⟩; exact ⟨p, h.mem_iff.1 hp, e⟩
  · rintro ⟨p, hp, e⟩; exact ⟨p, h.mem_iff.2 hp, e⟩
theorem del_perm {M L : List (Int × Int)} (h : M.Perm L) (id : Int) : (delL M id).Perm (delL L id) := h.filter _
theorem put_perm {M L : List (Int × Int)} (h : M.Perm L) (id at_ : Int) : (putL M id at_).Perm (insT (id, at_) (delL L id)) := by
  unfold putL
  exact ((perm_insL (id, at_) (delL M id)).trans ((del_perm h id).cons _)).trans (perm_insT _ _).symm
theorem del_drop {L : List (Int × Int)} {j : Nat} (hd : DisP L) (hj : j < L.length) : delL (L.drop j) (tk L j).1 = L.drop (j + 1) := by
  have h1 : DisP (L.drop j) := hd.sub (List.drop_sublist _ _)
  rw [tk_drop hj] at h1 ⊢
  obtain ⟨h2, _⟩ := List.pairwise_cons.1 h1
  unfold delL
  rw [List.filter_cons]
  simp only [beq_self_eq_true, Bool.not_true, Bool.false_eq_true, if_false]
  rw [List.filter_eq_self]
  intro p hp
  have := h2 p hp
  simp
  exact fun e => this e.symm
/-- What a tick rings are the first timers, and what it leaves the others. -/
theorem tick_parts {now : Int} {L : List (Int × Int)} {b : Int} (h : RightP now L) : ∃ k, k ≤ L.length ∧ rTick now L b = (L.take k).map (·.1) ∧ sTick now L b = L.drop k ∧ (∀ p ∈ L.take k, p.2 ≤ nTick now L b) ∧ (0 < k → eTick now L b = 0) := by
  by_cases he : eTick now L b = 0
  · have ho := h.2.2.2.2.1
    refine ⟨(fr L (now + b)).length, fr_le, ?_, ?_, ?_, fun _ => he⟩
    · unfold rTick; rw [if_pos he, fr_take ho]
    · unfold sTick; rw [if_pos he, lf_drop ho]
    · unfold nTick
      rw [if_pos he, fr_take ho]
      intro p hp
      have := (List.mem_filter.1 hp).2
      simpa using this
  · refine ⟨0, by omega, ?_, ?_, fun p hp => by simp at hp, fun h => by omega⟩
    · unfold rTick; rw [if_neg he]; rfl
    · unfold sTick; rw [if_neg he]; rfl
end Go.Proofs.Ytgpmgghjcocfmaa
