/-
  Package air: New. No condition.
-/
import Derived.Test.YtcfdfimkgehdfaaAiG
set_option linter.unusedVariables false
set_option linter.unusedSimpArgs false
namespace Go.Proofs.Ytcfdfimkgehdfaa
open Go.RowKit

/-- Behind k rounds of New's loop: the array in block g, k rings. -/
structure NI (w W : World) (g room k : Nat) (rb : Nat → Nat) : Prop where
  arr : AN W g 54 17 (fun i => if i < k then .pointer (some ⟨rb i, 0, none⟩) else .pointer none)
  ring : ∀ i, i < k → RG W (rb i) room none 0 0 []
  inj : ∀ i j, i < k → j < k → rb i = rb j → i = j
  hi : ∀ i, i < k → w.heap.size ≤ rb i
  hg : w.heap.size ≤ g
  low : Below w.heap.size w W
theorem NI.on {w W V : World} {g room k : Nat} {rb : Nat → Nat} (h : NI w W g room k rb) (hb : Below W.heap.size W V) : NI w V g room k rb :=
  ⟨h.arr.same (hb.block g h.arr.lt), fun i hi => (h.ring i hi).on hb, h.inj, h.hi, h.hg, le_tr h.low hb⟩
theorem NI.drew {w W : World} {g room k : Nat} {rb : Nat → Nat} (h : NI w W g room k rb) : NI w W.drew g room k rb :=
  ⟨h.arr.drew, fun i hi => (h.ring i hi).drew, h.inj, h.hi, h.hg, ⟨h.low.os, h.low.tape, h.low.output, h.low.size, h.low.block⟩⟩
theorem NI.start {w W : World} {g room : Nat} (h : CB W g 54 (Array.replicate 17 (.pointer none))) (hb : Below w.heap.size w W) (hg : w.heap.size ≤ g) : NI w W g room 0 (fun _ => 0) :=
  ⟨⟨_, h, by simp, fun i hi => by simp [hi]⟩, fun i hi => by omega, fun i j hi => by omega, fun i hi => by omega, hg, hb⟩
theorem NI.cell {w W : World} {g room k : Nat} {rb : Nat → Nat} (h : NI w W g room k rb) (hk : k < 17) : W.cell? ⟨g, k, none⟩ = some (.pointer none) ∧ W.frozen? ⟨g, k, none⟩ = false := by
  have := h.arr.cell hk
  rw [if_neg (by omega)] at this
  exact ⟨this, h.arr.frozen k⟩
/-- One more ring. -/
theorem NI.step {w W V : World} {g room k : Nat} {rb : Nat → Nat} (h : NI w W g room k rb) (hk : k < 17) {r : Nat} (hr : W.heap.size = r) (hn : RG V r room none 0 0 []) (hb : Below W.heap.size W V) :
    NI w (V.setCell ⟨g, k, none⟩ (.pointer (some ⟨r, 0, none⟩))) g room (k + 1) (up rb k r) := by
  have h1 := h.on hb
  have hgl := h.arr.lt
  obtain ⟨cs, hcs⟩ := h1.arr.cb
  have hw := Wr.cell hcs k (.pointer (some ⟨r, 0, none⟩))
  have hne : ∀ b, RG V b room none 0 0 [] → ¬ b = g := fun b hb => hb.box.ne_ hcs (by decide)
  have hkeep : ∀ b, RG V b room none 0 0 [] → RG (V.setCell ⟨g, k, none⟩ (.pointer (some ⟨r, 0, none⟩))) b room none 0 0 [] := fun b hb => hb.keep fun i hi => hi.elim (fun e => hw.far i (fun e2 => hne b hb (e ▸ e2))) (fun ⟨_, e⟩ => by cases e)
  have hlt : ∀ i, i < k → rb i < r := fun i hi => by have := (h.ring i hi).box.lt; omega
  refine ⟨h1.arr.put hk _ (fun j hj => ?_), fun i hi => ?_, fun i j hi hj e => ?_, fun i hi => ?_, h.hg, hw.bel _ _ h1.low h.hg⟩
  · by_cases e : j = k
    · subst e; rw [if_pos rfl, if_pos (by omega), up_same]
    · rw [if_neg e]
      by_cases e2 : j < k
      · rw [if_pos e2, if_pos (by omega), up_other _ _ e]
      · rw [if_neg e2, if_neg (by omega)]
  · by_cases e : i = k
    · subst e; rw [up_same]; exact hkeep _ hn
    · rw [up_other _ _ e]; exact hkeep _ (h1.ring i (by omega))
  · by_cases e1 : i = k
    · by_cases e2 : j = k
      · exact e1.trans e2.symm
      · subst e1; rw [up_same, up_other _ _ e2] at e; have := hlt j (by omega); omega
    · by_cases e2 : j = k
      · subst e2; rw [up_same, up_other _ _ e1] at e; have := hlt i (by omega); omega
      · rw [up_other _ _ e1, up_other _ _ e2] at e; exact h.inj i j (by omega) (by omega) e
  · by_cases e : i = k
    · subst e; rw [up_same, ← hr]; exact h.low.size
    · rw [up_other _ _ e]; exact h.hi i (by omega)
/-- Behind New. -/
def NPost (w : World) (room : Int) (e : Ending) (w' : World) : Prop :=
  (∃ r : Nat, room = (r : Int) ∧ 1 ≤ r ∧ r ≤ 1000 ∧ ∃ g S, e = .returned (.pointer (some ⟨g, 0, none⟩)) ∧ AO S g r (fun _ => []) w' ∧ (∀ i, S i → w.heap.size ≤ i) ∧ Below w.heap.size w w') ∨ ((room < 1 ∨ 1000 < room) ∧ e = .returned (.pointer none) ∧ Below w.heap.size w w')
theorem NI.done {w W : World} {g room : Nat} {rb : Nat → Nat} (h : NI w W g room 17 rb) (h1 : 1 ≤ room) (h2 : room ≤ 1000) : NPost w (room : Int) (.returned (.pointer (some ⟨g, 0, none⟩))) W := by
  have hA : AS W g room rb (fun _ => (none, 0, 0)) (fun _ => []) := by
    refine ⟨?_, fun t ht => h.ring t ht, fun t _ x hx => (by cases hx), fun s t hs ht e => h.inj s t hs ht e, fun s t _ _ _ g hg => (by obtain ⟨_, e⟩ := hg; cases e), fun s t i j x y _ _ hx => (by simp at hx)⟩
    obtain ⟨cs, a1, a2, a3⟩ := h.arr
    exact ⟨cs, a1, a2, fun i hi => by rw [a3 i hi]; simp only [if_pos hi]⟩
  refine .inl ⟨room, rfl, h1, h2, g, _, rfl, AO.own hA (fun _ _ => rfl) ⟨h1, h2⟩ (roomy_nil room), ?_, h.low⟩
  rintro i (rfl | ⟨t, ht, rfl | ⟨_, e⟩ | ⟨x, hx, _⟩⟩)
  · exact h.hg
  · exact h.hi t ht
  · cases e
  · cases hx
theorem built_air : Try.prog.built 54 [] = some (Array.replicate 17 (.pointer none)) := by kernel_rfl
set_option maxRecDepth 100000 in
set_option maxHeartbeats 4000000 in
theorem anew_c (room : Int) (w : World) : Calls Try.prog 12 #[.int .i64 room] w (NPost w room) := by
  by_cases h1 : room < 1
  · skip
    have q1 : decide (room < 1) = true := by simp [h1]
    go_enter Try.func12, Try.ntmps12
    go_wp2_with fail
    go_ret
    exact .inr ⟨.inl h1, rfl, Below.refl _ _⟩
  have q1 : decide (room < 1) = false := by simp; omega
  by_cases h2 : 1000 < room
  · skip
    have q2 : decide (1000 < room) = true := by simp [h2]
    have q2' : decide (room > 1000) = true := by simp [h2]
    go_enter Try.func12, Try.ntmps12
    go_wp2_with fail
    go_ret
    exact .inr ⟨.inr h2, rfl, Below.refl _ _⟩
  have q2 : decide (1000 < room) = false := by simp; omega
  have q2' : decide (room > 1000) = false := by simp; omega
  obtain ⟨r, rfl⟩ : ∃ r : Nat, room = (r : Int) := ⟨room.toNat, by omega⟩
  have hr1 : 1 ≤ r := by omega
  have hr2 : r ≤ 1000 := by omega
  clear h1 h2
  go_enter Try.func12, Try.ntmps12
  go_wp2_with (first | ((with_reducible refine st_built0 54 (Array.replicate 17 (.pointer none)) ?_ ?_); exact built_air) | ((with_reducible refine st_box 54 _ (Array.replicate 17 (.pointer none)) ?_ ?_); exact rfl))
  refine ⟨fun V1 g n1 f1 => ?_⟩
  have hn0 : NI w V1 g r 0 (fun _ => 0) := NI.start n1 f1.bel (Nat.le_of_eq f1.at_)
  clear n1 f1 q1 q2 q2'
  go_wp2_with fail
  go_loopw [13] (fun iv wr => ∃ (k : Nat) (rb : Nat → Nat), k ≤ 17 ∧ iv = .int .i64 k ∧ NI w wr g r k rb) (fun iv _ => 17 - (intOf iv).toNat)
  case atStart => exact ⟨0, _, by omega, rfl, hn0⟩
  case round =>
    clear hn0
    obtain ⟨k, rb, hk, rfl, hn⟩ := hrel
    by_cases hlt : k < 17
    · skip
      have l1 : (k : Int) < 17 := by omega
      have l2 : IntKind.i64.wrap ((k : Int) + 1) = (k : Int) + 1 := IntWalk.i64_in _ (by omega)
      go_wp2_with fail
      have y51 := Lib.hid (show (fun V : World => True) wr.drew from trivial)
      refine wp_region_held_drew (S := (fun V : World => True)) (by kernel_rfl) y51.out (fun hHeld => ?_)
      obtain ⟨D51, hD51⟩ : ∃ V, wr.drew = V := ⟨_, rfl⟩
      have b51 : Below wr.heap.size wr D51 := by rw [← hD51]; exact le_dr (Below.refl _ _)
      rw [hD51]
      clear hD51
      have r53_ni := (hn).on b51
      have l53 := le_tr (Below.refl _ _) b51
      clear hn
      clear b51
      refine wpAnyH_takeL (i := 0) (d := some 16) (v := .pointer (some ⟨g, 0, none⟩)) rfl rfl (by kernel_rfl) (by kernel_rfl) (by kernel_rfl) (fun _ _ _ h => h) (Or.inl ⟨by rfl, ?_⟩) hHeld ?_
      · intro w hSw; (try dsimp only at hSw); go_simp
      try simp only [Act.put, List.setIfInBounds_toArray, List.set_cons_zero, List.set_cons_succ]
      refine wpAnyH_takeL (i := 1) (d := some 17) (v := .int .i64 (k : Int)) rfl rfl (by kernel_rfl) (by kernel_rfl) (by kernel_rfl) (fun _ _ _ h => h) (Or.inl ⟨by rfl, ?_⟩) hHeld ?_
      · intro w hSw; (try dsimp only at hSw); go_simp
      try simp only [Act.put, List.setIfInBounds_toArray, List.set_cons_zero, List.set_cons_succ]
      refine wpAnyH_takeL (i := 2) (d := some 18) (v := .int .i64 (r : Int)) rfl rfl (by kernel_rfl) (by kernel_rfl) (by kernel_rfl) (fun _ _ _ h => h) (Or.inl ⟨by rfl, ?_⟩) hHeld ?_
      · intro w hSw; (try dsimp only at hSw); go_simp
      try simp only [Act.put, List.setIfInBounds_toArray, List.set_cons_zero, List.set_cons_succ]
      refine wpAnyH_takeL (i := 4) (d := some 20) (v := .pointer (some ⟨g, 0, none⟩)) rfl rfl (by kernel_rfl) (by kernel_rfl) (by kernel_rfl) (fun _ _ _ h => h) (Or.inl ⟨by rfl, ?_⟩) hHeld ?_
      · intro w hSw; (try dsimp only at hSw); go_simp
      try simp only [Act.put, List.setIfInBounds_toArray, List.set_cons_zero, List.set_cons_succ]
      refine wpAnyH_takeL (i := 5) (d := some 21) (v := .pointer (some ⟨g, 0, none⟩)) rfl rfl (by kernel_rfl) (by kernel_rfl) (by kernel_rfl) (fun _ _ _ h => h) (Or.inl ⟨by rfl, ?_⟩) hHeld ?_
      · intro w hSw; (try dsimp only at hSw); go_simp
      try simp only [Act.put, List.setIfInBounds_toArray, List.set_cons_zero, List.set_cons_succ]
      refine wpAnyH_ready (rs := [3]) (by kernel_rfl) (by simp) ?_
      refine AllReadyH.cons rfl (fun K hK => ?_) AllReadyH.nil
      go_simp
      (with_reducible refine (new_l r _ hr1 (by omega)).mono ?_)
      rintro e u9 ⟨gr, rfl, hgr, hrg, b9⟩
      obtain ⟨c9, f9⟩ := (r53_ni.on b9).cell hlt
      have st9 := r53_ni.step hlt hgr hrg b9
      clear r53_ni hgr hrg b9
      go_wp2_with fail
      have y54 := Lib.hid (show (fun V : World => True) u9 from trivial)
      refine hK.out _ _ y54.out (fun hHeld => ?_)
      clear hK K y54
      try simp only [Act.put, List.setIfInBounds_toArray, List.set_cons_zero, List.set_cons_succ]
      refine wpAnyH_takeL (i := 6) (d := some 22) (v := .pointer (some ⟨g, k, none⟩)) rfl rfl (by kernel_rfl) (by kernel_rfl) (by kernel_rfl) (fun _ _ _ h => h) (Or.inl ⟨by rfl, ?_⟩) hHeld ?_
      · intro w hSw; (try dsimp only at hSw); go_simp
      try simp only [Act.put, List.setIfInBounds_toArray, List.set_cons_zero, List.set_cons_succ]
      refine wpAnyH_ready (rs := [7]) (by kernel_rfl) (by simp) ?_
      refine AllReadyH.cons rfl (fun K hK => ?_) AllReadyH.nil
      refine rd_slot rfl 51 _ _ rfl none rfl g k (.pointer (some ⟨gr, 0, none⟩)) rfl rfl c9 f9 one_pt rfl rfl ?_
      refine ⟨?_⟩
      have y55 := Lib.hid (show (fun V : World => True) (World.setCell u9 ⟨g, k, none⟩ (.pointer (some ⟨gr, 0, none⟩))) from trivial)
      refine hK.out _ _ y55.out (fun hHeld => ?_)
      clear hK K y55
      try simp only [Act.put, List.setIfInBounds_toArray, List.set_cons_zero, List.set_cons_succ]
      refine wpAnyH_done (by kernel_rfl) ?_ _
      go_wp2_with fail
      go_roundw
      case rel => exact ⟨k + 1, up rb k gr, by omega, by go_num, st9⟩
      case measure => simp [intOf]; omega
    · skip
      have hk17 : k = 17 := by omega
      subst hk17
      go_wp2_with fail
      go_ret
      exact hn.done hr1 hr2
end Go.Proofs.Ytcfdfimkgehdfaa
