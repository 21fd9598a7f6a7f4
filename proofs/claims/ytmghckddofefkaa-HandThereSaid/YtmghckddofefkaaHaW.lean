/-
  A play begins. No condition.
-/
import Derived.Test.YtmghckddofefkaaHaV
set_option linter.unusedVariables false
set_option linter.unusedSimpArgs false
namespace Go.Proofs.Ytmghckddofefkaa
open Go.RowKit


theorem PM.congr {w : World} {P : Nat} {S S' : Nat → Sd} {sv : Value} {c : ByteArray} {bm : Nat} (h : PM w P S sv c bm) (e : ∀ k, k < 4 → S k = S' k) : PM w P S' sv c bm :=
  AN.congrP h fun j hj => by
    unfold plc
    by_cases h24 : j < 24
    · rw [if_pos h24, if_pos h24, e _ (by omega)]
    · rw [if_neg h24, if_neg h24]
def zeroS : Nat → Sd := fun _ => ⟨0, ⟨0, 0, 0⟩, ⟨#[]⟩, false⟩
theorem PM.new (w : World) (bm : Nat) : PM (w.alloc (.cells #[.int .u8 0, .int .i64 0, .int .i64 0, .int .u8 0, .string ⟨#[]⟩, .bool false, .int .u8 0, .int .i64 0, .int .i64 0, .int .u8 0, .string ⟨#[]⟩, .bool false, .int .u8 0, .int .i64 0, .int .i64 0, .int .u8 0, .string ⟨#[]⟩, .bool false, .int .u8 0, .int .i64 0, .int .i64 0, .int .u8 0, .string ⟨#[]⟩, .bool false, .slice none 0 0, .string ⟨#[]⟩, .map (some bm)] 65)) w.heap.size zeroS (.slice none 0 0) ⟨#[]⟩ bm :=
  ⟨_, CB.new w _ _, rfl, fun i hi => by
    match i, hi with
    | 0, _ => rfl
    | 1, _ => rfl
    | 2, _ => rfl
    | 3, _ => rfl
    | 4, _ => rfl
    | 5, _ => rfl
    | 6, _ => rfl
    | 7, _ => rfl
    | 8, _ => rfl
    | 9, _ => rfl
    | 10, _ => rfl
    | 11, _ => rfl
    | 12, _ => rfl
    | 13, _ => rfl
    | 14, _ => rfl
    | 15, _ => rfl
    | 16, _ => rfl
    | 17, _ => rfl
    | 18, _ => rfl
    | 19, _ => rfl
    | 20, _ => rfl
    | 21, _ => rfl
    | 22, _ => rfl
    | 23, _ => rfl
    | 24, _ => rfl
    | 25, _ => rfl
    | 26, _ => rfl
    | k + 27, h => omega⟩
theorem PM.put0 {w : World} {P : Nat} {S : Nat → Sd} {sv : Value} {c : ByteArray} {bm : Nat} (h : PM w P S sv c bm) {k : Nat} (hk : k < 4) (m : Int) : PM (w.setCell ⟨P, k * 6, none⟩ (.int .u8 m)) P (updS S k ⟨m, (S k).l, (S k).cg, (S k).kp⟩) sv c bm := by
  have h0 := AN.put h (i := k * 6) (by omega) (.int .u8 m) (f' := fun j => if j = k * 6 then .int .u8 m else plc S sv c bm j) (fun _ _ => rfl)
  refine AN.congrP h0 fun j hj => ?_
  clear h0
  by_cases e : j / 6 = k
  · have h24 : j < 24 := by omega
    have r : plc (updS S k ⟨m, (S k).l, (S k).cg, (S k).kp⟩) sv c bm j = sdc ⟨m, (S k).l, (S k).cg, (S k).kp⟩ (j % 6) := by
      unfold plc
      rw [if_pos h24, e, updS_same]
    have r2 : plc S sv c bm j = sdc (S k) (j % 6) := by
      unfold plc
      rw [if_pos h24, e]
    rw [r, r2]
    by_cases e4 : j % 6 = 0
    · rw [if_pos (by omega), e4]
      rfl
    · rw [if_neg (by omega)]
      unfold sdc
      simp only [if_neg e4]
  · rw [if_neg (by omega)]
    unfold plc
    by_cases h24 : j < 24
    · rw [if_pos h24, if_pos h24, updS_other _ _ e]
    · rw [if_neg h24, if_neg h24]
theorem PM.putL0 {w : World} {P : Nat} {S : Nat → Sd} {sv : Value} {c : ByteArray} {bm : Nat} (h : PM w P S sv c bm) (ep st to : Int) :
    PM (((w.setCell ⟨P, 1, none⟩ (.int .i64 ep)).setCell ⟨P, 2, none⟩ (.int .i64 st)).setCell ⟨P, 3, none⟩ (.int .u8 to)) P (updS S 0 ⟨(S 0).me, ⟨ep, st, to⟩, (S 0).cg, (S 0).kp⟩) sv c bm := by
  have h0 := AN.put h (i := 1) (by omega) (.int .i64 ep) (f' := fun j => if j = 1 then .int .i64 ep else plc S sv c bm j) (fun _ _ => rfl)
  have h1 := AN.put h0 (i := 2) (by omega) (.int .i64 st) (f' := fun j => if j = 2 then .int .i64 st else if j = 1 then .int .i64 ep else plc S sv c bm j) (fun _ _ => rfl)
  have h2 := AN.put h1 (i := 3) (by omega) (.int .u8 to) (f' := fun j => if j = 3 then .int .u8 to else if j = 2 then .int .i64 st else if j = 1 then .int .i64 ep else plc S sv c bm j) (fun _ _ => rfl)
  refine AN.congrP h2 fun j hj => ?_
  clear h0 h1 h2
  by_cases e : j < 6
  · match j, e with
    | 0, _ => rfl
    | 1, _ => rfl
    | 2, _ => rfl
    | 3, _ => rfl
    | 4, _ => rfl
    | 5, _ => rfl
    | i + 6, h => omega
  · rw [if_neg (by omega), if_neg (by omega), if_neg (by omega)]
    unfold plc
    by_cases h24 : j < 24
    · rw [if_pos h24, if_pos h24, updS_other _ _ (by omega)]
    · rw [if_neg h24, if_neg h24]
/-- The sides after k of them have their names. -/
def namS (k : Nat) : Nat → Sd := fun j => if j < k then ⟨j, ⟨0, 0, 0⟩, ⟨#[]⟩, false⟩ else ⟨0, ⟨0, 0, 0⟩, ⟨#[]⟩, false⟩
theorem namS_zero : namS 0 = zeroS := by
  funext j
  unfold namS zeroS
  rw [if_neg (by omega)]
theorem namS_at (k : Nat) : namS k k = ⟨0, ⟨0, 0, 0⟩, ⟨#[]⟩, false⟩ := by unfold namS; rw [if_neg (by omega)]
theorem namS_next (k : Nat) : updS (namS k) k ⟨(k : Int), (namS k k).l, (namS k k).cg, (namS k k).kp⟩ = namS (k + 1) := by
  rw [namS_at]
  funext j
  unfold updS namS
  by_cases e : j = k
  · subst e
    rw [if_pos rfl, if_pos (by omega)]
  · rw [if_neg e]
    by_cases h : j < k
    · rw [if_pos h, if_pos (by omega)]
    · rw [if_neg h, if_neg (by omega)]
theorem nam_beg (k : Nat) (hk : k < 4) : updS (namS 4) 0 ⟨(namS 4 0).me, ⟨1, 1, 0⟩, (namS 4 0).cg, (namS 4 0).kp⟩ k = begS ⟨#[]⟩ k := by
  match k, hk with
  | 0, _ => rfl
  | 1, _ => rfl
  | 2, _ => rfl
  | 3, _ => rfl
  | k + 4, h => omega
set_option maxRecDepth 100000 in
set_option maxHeartbeats 8000000 in
theorem begun_c (w : World) : Calls Try.prog 22 #[] w fun r w' => ∃ P, r = .returned (.pointer (some ⟨P, 0, none⟩)) ∧ PL w.heap.size w' P (begS ⟨#[]⟩) [] ⟨#[]⟩ [(1, 0)] ∧ Below w.heap.size w w' := by
  have hmk : (Instr.makeMap 63 none).run Try.prog w = .ok (.map (some w.heap.size)) (w.alloc (.map #[] 0)) := by
    simp [Instr.makeMap, run_underlying Try.underlying63, Result.andThen]
  obtain ⟨V1, hrun, hm1, ht1⟩ := MH.store (MH.made w) (by simp [maxLen]) (show (Lit.int .i64 1).wf = true by decide) (show (Lit.int .u8 0).wf = true by decide)
  have hg1 := ht1.grown
  have hm1' : MH V1 w.heap.size [(1, 0)] := hm1
  have b1 : Below w.heap.size w V1 := ((Below.refl _ _).alloc (Nat.le_refl _) (.map #[] 0)).trans (grown_below hg1 (by simp) (fun g e => by cases e; exact Nat.le_refl _))
  have hsz : w.heap.size + 1 ≤ V1.heap.size := by have := hg1.size; simp at this; exact this
  clear ht1 hm1 hg1
  obtain ⟨W2, hW2⟩ : ∃ V, V1.alloc (.cells #[.int .u8 0, .int .i64 0, .int .i64 0, .int .u8 0, .string ⟨#[]⟩, .bool false, .int .u8 0, .int .i64 0, .int .i64 0, .int .u8 0, .string ⟨#[]⟩, .bool false, .int .u8 0, .int .i64 0, .int .i64 0, .int .u8 0, .string ⟨#[]⟩, .bool false, .int .u8 0, .int .i64 0, .int .i64 0, .int .u8 0, .string ⟨#[]⟩, .bool false, .slice none 0 0, .string ⟨#[]⟩, .map (some w.heap.size)] 65) = V := ⟨_, rfl⟩
  have hp2 : PM W2 V1.heap.size zeroS (.slice none 0 0) ⟨#[]⟩ w.heap.size := by rw [← hW2]; exact PM.new V1 _
  have hm2 : MH W2 w.heap.size [(1, 0)] := by rw [← hW2]; exact hm1'.on (le_al _ _)
  have b2 : Below w.heap.size w W2 := by rw [← hW2]; exact le_tr b1 (le_al _ _)
  have HW2 := Lib.hid hW2
  clear hW2 hm1' b1
  go_enter Try.func22, Try.ntmps22
  go_wp2_with fail
  clear hmk hrun
  rw [HW2.out]
  generalize V1.heap.size = P at *
  go_loopw [7] (fun iv wr => ∃ k : Nat, k ≤ 4 ∧ iv = .int .i64 k ∧ PM wr P (namS k) (.slice none 0 0) ⟨#[]⟩ w.heap.size ∧ MH wr w.heap.size [(1, 0)] ∧ Below w.heap.size w wr) (fun iv _ => 4 - (intOf iv).toNat)
  case atStart => exact ⟨0, by omega, rfl, by rw [namS_zero]; exact hp2, hm2, b2⟩
  case round =>
    clear hp2 hm2 b2 HW2
    obtain ⟨k, hk, rfl, hpr, hmr, hbr⟩ := hrel
    obtain ⟨wz, hwz⟩ : ∃ z, z = wr := ⟨_, rfl⟩
    subst hwz
    have hbm : w.heap.size ≠ P := by
      obtain ⟨cs, hb⟩ := hpr.block
      exact fun e => MH.ne hmr hb e.symm
    by_cases hlt : k < 4
    · have e1 := u8_in hlt
      have e2 : decide ((k : Int) < 4) = true := by simp; omega
      have e3 : (k : Int) < 4 := by omega
      have d0 := (hpr.side hlt).1
      rw [namS_at] at d0
      simp only at d0
      have z0 : wz.frozen? ⟨P, k * 6, none⟩ = false := hpr.froz _
      obtain ⟨V, hV⟩ : ∃ V, wz.setCell ⟨P, k * 6, none⟩ (.int .u8 (k : Int)) = V := ⟨_, rfl⟩
      have hp9 : PM V P (namS (k + 1)) (.slice none 0 0) ⟨#[]⟩ w.heap.size := by rw [← hV, ← namS_next]; exact hpr.put0 hlt _
      have hm9 : MH V w.heap.size [(1, 0)] := by rw [← hV]; exact hmr.far (p := ⟨P, k * 6, none⟩) hbm _
      have b9 : Below w.heap.size w V := by rw [← hV]; exact hbr.setCell (p := ⟨P, k * 6, none⟩) (by dsimp only; omega) _
      have HV := Lib.hid hV
      clear hV
      go_wp2_with fail
      rw [HV.out]
      go_roundw
      case rel => exact ⟨k + 1, by omega, by go_num, hp9, hm9, b9⟩
      case measure => simp [intOf]; omega
    · obtain rfl : k = 4 := by omega
      have hs := hpr.side (k := 0) (by omega)
      simp only [Nat.zero_mul, Nat.zero_add] at hs
      obtain ⟨_, d1, d2, d3, _, _⟩ := hs
      have hn0 : namS 4 0 = ⟨0, ⟨0, 0, 0⟩, ⟨#[]⟩, false⟩ := rfl
      rw [hn0] at d1 d2 d3
      simp only at d1 d2 d3
      have z1 : wz.frozen? ⟨P, 1, none⟩ = false := hpr.froz _
      have z2 : wz.frozen? ⟨P, 2, none⟩ = false := hpr.froz _
      have z3 : wz.frozen? ⟨P, 3, none⟩ = false := hpr.froz _
      obtain ⟨V, hV⟩ : ∃ V, ((wz.setCell ⟨P, 1, none⟩ (.int .i64 1)).setCell ⟨P, 2, none⟩ (.int .i64 1)).setCell ⟨P, 3, none⟩ (.int .u8 0) = V := ⟨_, rfl⟩
      have hp9 : PM V P (begS ⟨#[]⟩) (.slice none 0 0) ⟨#[]⟩ w.heap.size := by rw [← hV]; exact (hpr.putL0 1 1 0).congr nam_beg
      have hm9 : MH V w.heap.size [(1, 0)] := by rw [← hV]; exact ((hmr.far (p := ⟨P, 1, none⟩) hbm _).far (p := ⟨P, 2, none⟩) hbm _).far (p := ⟨P, 3, none⟩) hbm _
      have b9 : Below w.heap.size w V := by rw [← hV]; exact ((hbr.setCell (p := ⟨P, 1, none⟩) (by dsimp only; omega) _).setCell (p := ⟨P, 2, none⟩) (by dsimp only; omega) _).setCell (p := ⟨P, 3, none⟩) (by dsimp only; omega) _
      have HV := Lib.hid hV
      clear hV
      go_wp2_with fail
      rw [HV.out]
      go_ret
      exact ⟨P, rfl, ⟨⟨none, 0, 0, none, w.heap.size, hp9, Seg.nil _ _ _, (fun g e => by cases e), hm9, Nat.le_refl _⟩, by omega⟩, b9⟩
end Go.Proofs.Ytmghckddofefkaa
