/-
  Plain mathematics of layer 3 (sum): the check sum of bytes, their frame, the first frame of bytes and all of them, as lists. It speaks of no program. No condition.
-/
import Derived.Test.YtcfdfimkgehdfaaDzByt
import Derived.WalkMore
import Derived.Lib.SlBytesConst
namespace Go.Proofs.Ytcfdfimkgehdfaa.Dz
set_option maxRecDepth 100000

/-- One byte more: the two halves of the check sum. -/
def adS (p : Nat × Nat) (b : UInt8) : Nat × Nat := ((p.1 + b.toNat) % 65521, (p.2 + (p.1 + b.toNat) % 65521) % 65521)
def adl (l : List UInt8) : Nat × Nat := l.foldl adS (1, 0)
def sumB (l : List UInt8) : Nat := (adl l).2 * 65536 + (adl l).1
theorem adl_snoc (l : List UInt8) (b : UInt8) : adl (l ++ [b]) = adS (adl l) b := by simp [adl]
theorem adF_lt (l : List UInt8) : ∀ p : Nat × Nat, p.1 < 65521 → p.2 < 65521 → (l.foldl adS p).1 < 65521 ∧ (l.foldl adS p).2 < 65521 := by
  induction l with
  | nil => exact fun p h1 h2 => ⟨h1, h2⟩
  | cons b r ih => exact fun p _ _ => ih _ (Nat.mod_lt _ (by omega)) (Nat.mod_lt _ (by omega))
theorem adl_lt (l : List UInt8) : (adl l).1 < 65521 ∧ (adl l).2 < 65521 := adF_lt l (1, 0) (by omega) (by omega)
theorem sumB_lt (l : List UInt8) : sumB l < 4294967296 := by
  have := adl_lt l
  unfold sumB
  omega
theorem sumB_low (l : List UInt8) : sumB l % 65536 = (adl l).1 := by
  have := adl_lt l
  unfold sumB
  omega

/-- The sum of all bytes. -/
def tot (l : List UInt8) : Nat := l.foldr (fun b a => b.toNat + a) 0
theorem tot_append (l m : List UInt8) : tot (l ++ m) = tot l + tot m := by
  induction l with
  | nil => simp [tot]
  | cons b r ih =>
    have : tot (b :: (r ++ m)) = b.toNat + tot (r ++ m) := rfl
    rw [List.cons_append, this, ih]
    have : tot (b :: r) = b.toNat + tot r := rfl
    omega
theorem tot_cons (b : UInt8) (l : List UInt8) : tot (b :: l) = b.toNat + tot l := rfl
theorem adF_one (l : List UInt8) : ∀ p : Nat × Nat, p.1 < 65521 → (l.foldl adS p).1 = (p.1 + tot l) % 65521 := by
  induction l with
  | nil => intro p h; simp [tot, Nat.mod_eq_of_lt h]
  | cons b r ih =>
    intro p h
    rw [List.foldl_cons, ih _ (Nat.mod_lt _ (by omega)), tot_cons]
    show ((p.1 + b.toNat) % 65521 + tot r) % 65521 = _
    omega
theorem adl_one (l : List UInt8) : (adl l).1 = (1 + tot l) % 65521 := adF_one l (1, 0) (by omega)

theorem sumB_byte (a r : List UInt8) (x y : UInt8) (h : ¬ x = y) : ¬ sumB (a ++ x :: r) = sumB (a ++ y :: r) := by
  intro e
  have h1 := sumB_low (a ++ x :: r)
  rw [e, sumB_low, adl_one, adl_one, tot_append, tot_append, tot_cons, tot_cons] at h1
  have h2 := x.toNat_lt
  have h3 := y.toNat_lt
  exact h (UInt8.toNat_inj.1 (by omega))

theorem adF_two (l : List UInt8) : ∀ (x y z : Nat), ((l.foldl adS (x, y)).2 + z) % 65521 = ((l.foldl adS (x, z)).2 + y) % 65521 := by
  induction l with
  | nil => intro x y z; simp only [List.foldl_nil]; omega
  | cons b r ih =>
    intro x y z
    have := ih ((x + b.toNat) % 65521) ((y + (x + b.toNat) % 65521) % 65521) ((z + (x + b.toNat) % 65521) % 65521)
    rw [List.foldl_cons, List.foldl_cons]
    show ((r.foldl adS ((x + b.toNat) % 65521, (y + (x + b.toNat) % 65521) % 65521)).2 + z) % 65521 = ((r.foldl adS ((x + b.toNat) % 65521, (z + (x + b.toNat) % 65521) % 65521)).2 + y) % 65521
    omega

theorem sumB_swap (a r : List UInt8) (x y : UInt8) (h : ¬ x = y) : ¬ sumB (a ++ x :: y :: r) = sumB (a ++ y :: x :: r) := by
  intro e
  have e2 : (adl (a ++ x :: y :: r)).2 = (adl (a ++ y :: x :: r)).2 := by
    have h1 := adl_lt (a ++ x :: y :: r)
    have h2 := adl_lt (a ++ y :: x :: r)
    unfold sumB at e
    omega
  unfold adl at e2
  rw [List.foldl_append, List.foldl_append] at e2
  generalize ht : a.foldl adS (1, 0) = p at e2
  obtain ⟨p1, p2⟩ := p
  simp only [List.foldl_cons, adS] at e2
  have h3 := x.toNat_lt
  have h4 := y.toNat_lt
  have ex : ((p1 + x.toNat) % 65521 + y.toNat) % 65521 = ((p1 + y.toNat) % 65521 + x.toNat) % 65521 := by omega
  rw [ex] at e2
  generalize hX : ((p1 + y.toNat) % 65521 + x.toNat) % 65521 = X at e2
  have k := adF_two r X ((p2 + (p1 + x.toNat) % 65521) % 65521 + X) ((p2 + (p1 + y.toNat) % 65521) % 65521 + X)
  have k2 := adF_two r X (((p2 + (p1 + x.toNat) % 65521) % 65521 + X) % 65521) (((p2 + (p1 + y.toNat) % 65521) % 65521 + X) % 65521)
  rw [e2] at k2
  exact h (UInt8.toNat_inj.1 (by omega))

theorem sumB_zeros (l : List UInt8) : sumB ([0, 0, 0] ++ l) % 65536 = sumB l % 65536 := by
  rw [sumB_low, sumB_low, adl_one, adl_one, tot_append]
  have : tot [0, 0, 0] = 0 := rfl
  omega

/-- The frame of bytes. -/
def headB (l : List UInt8) : List UInt8 := 1 :: (num l.length 2 ++ l)
def frameB (l : List UInt8) : List UInt8 := headB l ++ num (sumB (headB l)) 4
theorem headB_length (l : List UInt8) : (headB l).length = l.length + 3 := by simp [headB, num_length]; omega
theorem frameB_length (l : List UInt8) : (frameB l).length = l.length + 7 := by simp [frameB, headB_length, num_length]

/-- What Frame answers. -/
def eF (l : List UInt8) : Nat := if 4000 < l.length then 3 else 0
def bF (l : List UInt8) : List UInt8 := if 4000 < l.length then [] else frameB l
theorem eF_big {l : List UInt8} (h : 4000 < l.length) : eF l = 3 ∧ bF l = [] := ⟨if_pos h, if_pos h⟩
theorem eF_ok {l : List UInt8} (h : ¬ 4000 < l.length) : eF l = 0 ∧ bF l = frameB l := ⟨if_neg h, if_neg h⟩

/-- What First answers. -/
def fN (b : List UInt8) : Nat := val ((b.drop 1).take 2)
def fE (b : List UInt8) : Nat :=
  if b.length = 0 then 7
  else if ¬ b[0]? = some 1 ∨ b.length < 3 then 4
  else if 4000 < fN b ∨ b.length < fN b + 7 then 4
  else if ¬ val ((b.drop (fN b + 3)).take 4) = sumB (b.take (fN b + 3)) then 5
  else 0
def fC (b : List UInt8) : List UInt8 := if fE b = 0 then (b.drop 3).take (fN b) else []
def fK (b : List UInt8) : Nat := if fE b = 0 then fN b + 7 else 0

theorem fE_none {b : List UInt8} (h : b.length = 0) : fE b = 7 := if_pos h
theorem fE_form1 {b : List UInt8} (h : ¬ b.length = 0) (h1 : ¬ b[0]? = some 1 ∨ b.length < 3) : fE b = 4 := by unfold fE; rw [if_neg h, if_pos h1]
theorem fE_form2 {b : List UInt8} (h : ¬ b.length = 0) (h1 : ¬ (¬ b[0]? = some 1 ∨ b.length < 3)) (h2 : 4000 < fN b ∨ b.length < fN b + 7) : fE b = 4 := by unfold fE; rw [if_neg h, if_neg h1, if_pos h2]
theorem fE_sum {b : List UInt8} (h : ¬ b.length = 0) (h1 : ¬ (¬ b[0]? = some 1 ∨ b.length < 3)) (h2 : ¬ (4000 < fN b ∨ b.length < fN b + 7)) (h3 : ¬ val ((b.drop (fN b + 3)).take 4) = sumB (b.take (fN b + 3))) : fE b = 5 := by unfold fE; rw [if_neg h, if_neg h1, if_neg h2, if_pos h3]
theorem fE_ok {b : List UInt8} (h : ¬ b.length = 0) (h1 : ¬ (¬ b[0]? = some 1 ∨ b.length < 3)) (h2 : ¬ (4000 < fN b ∨ b.length < fN b + 7)) (h3 : val ((b.drop (fN b + 3)).take 4) = sumB (b.take (fN b + 3))) : fE b = 0 := by unfold fE; rw [if_neg h, if_neg h1, if_neg h2, if_neg (not_not_intro h3)]
theorem fE_zero {b : List UInt8} (h : fE b = 0) : 3 ≤ b.length ∧ b[0]? = some 1 ∧ fN b ≤ 4000 ∧ fN b + 7 ≤ b.length ∧ val ((b.drop (fN b + 3)).take 4) = sumB (b.take (fN b + 3)) := by
  unfold fE at h
  split at h
  · omega
  · split at h
    · omega
    · split at h
      · omega
      · split at h
        · omega
        · rename_i h1 h2 h3 h4
          simp only [Classical.not_not] at h4
          refine ⟨by omega, ?_, by omega, by omega, h4⟩
          exact Classical.byContradiction fun hc => h2 (.inl hc)
theorem fC_bad {b : List UInt8} (h : ¬ fE b = 0) : fC b = [] := if_neg h
theorem fK_bad {b : List UInt8} (h : ¬ fE b = 0) : fK b = 0 := if_neg h
theorem fC_ok {b : List UInt8} (h : fE b = 0) : fC b = (b.drop 3).take (fN b) := if_pos h
theorem fK_ok {b : List UInt8} (h : fE b = 0) : fK b = fN b + 7 := if_pos h
theorem fK_le (b : List UInt8) : fK b ≤ b.length := by
  unfold fK
  split
  · rename_i h; have := fE_zero h; omega
  · omega
theorem fC_length_le (b : List UInt8) : (fC b).length ≤ 4000 := by
  unfold fC
  split
  · rename_i h; have := fE_zero h; rw [List.length_take]; omega
  · simp

theorem frame_head (l r : List UInt8) (hl : l.length ≤ 4000) : fN (frameB l ++ r) = l.length ∧ (frameB l ++ r)[0]? = some 1 := by
  refine ⟨?_, rfl⟩
  have : ((frameB l ++ r).drop 1).take 2 = num l.length 2 := by
    unfold frameB headB
    simp only [List.cons_append, List.drop_succ_cons, List.drop_zero, List.append_assoc]
    exact List.take_left' (num_length _ _)
  unfold fN
  rw [this, val_num]
  omega
theorem frame_take (l r : List UInt8) : (frameB l ++ r).take (l.length + 3) = headB l := by
  unfold frameB
  rw [List.append_assoc]
  exact List.take_left' (headB_length l)
theorem frame_drop (l r : List UInt8) : (frameB l ++ r).drop (l.length + 3) = num (sumB (headB l)) 4 ++ r := by
  unfold frameB
  rw [List.append_assoc]
  exact List.drop_left' (headB_length l)
theorem val_sum (l : List UInt8) : val (num (sumB l) 4) = sumB l := by
  rw [val_num]
  have := sumB_lt l
  omega
theorem frame_first (l r : List UInt8) (hl : l.length ≤ 4000) : fE (frameB l ++ r) = 0 ∧ fC (frameB l ++ r) = l ∧ fK (frameB l ++ r) = l.length + 7 := by
  obtain ⟨h1, h2⟩ := frame_head l r hl
  have hlen : (frameB l ++ r).length = l.length + 7 + r.length := by rw [List.length_append, frameB_length]
  have h0 : fE (frameB l ++ r) = 0 := by
    refine fE_ok (by omega) (fun hc => hc.elim (fun k => k h2) (fun k => by omega)) (by rw [h1]; omega) ?_
    rw [h1, frame_take, frame_drop, List.take_left' (num_length _ _), val_sum]
  refine ⟨h0, ?_, by rw [fK_ok h0, h1]⟩
  rw [fC_ok h0, h1]
  unfold frameB headB
  rw [List.cons_append, List.cons_append, List.append_assoc, List.append_assoc, List.drop_succ_cons, List.drop_left' (num_length _ _)]
  exact List.take_left' rfl

theorem split3 (b : List UInt8) (n : Nat) (h0 : b[0]? = some 1) (hn : n + 7 ≤ b.length) : b = (1 :: ((b.drop 1).take 2 ++ (b.drop 3).take n)) ++ (b.drop (n + 3)).take 4 ++ b.drop (n + 7) := by
  match b, h0 with
  | x :: r, h0 =>
    simp at h0
    subst h0
    simp only [List.drop_succ_cons, List.drop_zero]
    rw [List.cons_append, List.cons_append]
    congr 1
    have e1 : r = r.take 2 ++ r.drop 2 := (List.take_append_drop 2 r).symm
    have e2 : r.drop 2 = (r.drop 2).take n ++ (r.drop 2).drop n := (List.take_append_drop n _).symm
    have e3 : r.drop (n + 2) = (r.drop (n + 2)).take 4 ++ (r.drop (n + 2)).drop 4 := (List.take_append_drop 4 _).symm
    have e4 : (r.drop 2).drop n = r.drop (n + 2) := by rw [List.drop_drop, Nat.add_comm]
    have e5 : (r.drop (n + 2)).drop 4 = r.drop (n + 6) := by rw [List.drop_drop]
    rw [List.append_assoc, List.append_assoc]
    conv => lhs; rw [e1, e2, e4, e3, e5]

theorem first_frame {b : List UInt8} (h : fE b = 0) : b.take (fN b + 7) = frameB (fC b) ∧ (fC b).length = fN b := by
  obtain ⟨h1, h2, h3, h4, h5⟩ := fE_zero h
  have hs := split3 b (fN b) h2 h4
  have hc := fC_ok h
  have hl : (fC b).length = fN b := by rw [hc, List.length_take, List.length_drop]; omega
  have hh : headB (fC b) = 1 :: ((b.drop 1).take 2 ++ (b.drop 3).take (fN b)) := by
    unfold headB
    rw [hl, hc]
    congr 2
    have : ((b.drop 1).take 2).length = 2 := by rw [List.length_take, List.length_drop]; omega
    conv => rhs; rw [← num_val ((b.drop 1).take 2), this]
    rfl
  generalize fN b = n at *
  have h4' : ((b.drop (n + 3)).take 4).length = 4 := by rw [List.length_take, List.length_drop]; omega
  have ht : b.take (n + 3) = headB (fC b) := by
    rw [hh]
    conv => lhs; rw [hs, List.append_assoc]
    refine List.take_left' ?_
    rw [← hh, headB_length, hl]
  have hv : num (val ((b.drop (n + 3)).take 4)) 4 = (b.drop (n + 3)).take 4 := by
    have := num_val ((b.drop (n + 3)).take 4)
    rwa [h4'] at this
  refine ⟨?_, hl⟩
  unfold frameB
  rw [← ht, ← h5, hv, show n + 7 = (n + 3) + 4 by omega, List.take_add]

theorem first_short (l r : List UInt8) (hl : l.length ≤ 4000) (j : Nat) (hj : j < l.length + 7) : ¬ fE ((frameB l ++ r).take j) = 0 := by
  intro h
  obtain ⟨h1, h2, h3, h4, h5⟩ := fE_zero h
  have hjl : ((frameB l ++ r).take j).length = j := by rw [List.length_take, List.length_append, frameB_length]; omega
  have : fN ((frameB l ++ r).take j) = l.length := by
    rw [← (frame_head l r hl).1]
    unfold fN
    rw [List.drop_take, List.take_take, Nat.min_eq_left (by omega)]
  omega

/-- What All answers. -/
def aF : Nat → List UInt8 → List (List UInt8)
  | 0, _ => []
  | f + 1, b => if fE b = 0 then fC b :: aF f (b.drop (fK b)) else []
def nF : Nat → List UInt8 → Nat
  | 0, _ => 0
  | f + 1, b => if fE b = 0 then fK b + nF f (b.drop (fK b)) else 0
def aC (b : List UInt8) : List (List UInt8) := aF (b.length + 1) b
def aN (b : List UInt8) : Nat := nF (b.length + 1) b
theorem aF_more : ∀ (f g : Nat) (b : List UInt8), b.length < f → b.length < g → aF f b = aF g b
  | 0, _, _, h, _ => absurd h (Nat.not_lt_zero _)
  | _ + 1, 0, _, _, h => absurd h (Nat.not_lt_zero _)
  | f + 1, g + 1, b, h1, h2 => by
    rw [aF, aF]
    split
    · rename_i h
      have := fE_zero h
      have := fK_ok h
      rw [aF_more f g _ (by rw [List.length_drop]; omega) (by rw [List.length_drop]; omega)]
    · rfl
theorem nF_more : ∀ (f g : Nat) (b : List UInt8), b.length < f → b.length < g → nF f b = nF g b
  | 0, _, _, h, _ => absurd h (Nat.not_lt_zero _)
  | _ + 1, 0, _, _, h => absurd h (Nat.not_lt_zero _)
  | f + 1, g + 1, b, h1, h2 => by
    rw [nF, nF]
    split
    · rename_i h
      have := fE_zero h
      have := fK_ok h
      rw [nF_more f g _ (by rw [List.length_drop]; omega) (by rw [List.length_drop]; omega)]
    · rfl
theorem aC_no {b : List UInt8} (h : ¬ fE b = 0) : aC b = [] ∧ aN b = 0 := by
  unfold aC aN
  rw [aF, nF, if_neg h, if_neg h]
  exact ⟨rfl, rfl⟩
theorem aC_yes {b : List UInt8} (h : fE b = 0) : aC b = fC b :: aC (b.drop (fK b)) ∧ aN b = fK b + aN (b.drop (fK b)) := by
  have := fE_zero h
  have := fK_ok h
  unfold aC aN
  rw [aF, nF, if_pos h, if_pos h, aF_more b.length ((b.drop (fK b)).length + 1) _ (by rw [List.length_drop]; omega) (by omega), nF_more b.length ((b.drop (fK b)).length + 1) _ (by rw [List.length_drop]; omega) (by omega)]
  exact ⟨rfl, rfl⟩
theorem aN_le : ∀ (n : Nat) (b : List UInt8), b.length ≤ n → aN b ≤ b.length ∧ (aC b).length ≤ b.length
  | 0, b, h => by
    have := fE_none (b := b) (by omega)
    obtain ⟨h1, h2⟩ := aC_no (b := b) (by omega)
    rw [h1, h2]; simp
  | n + 1, b, h => by
    by_cases h0 : fE b = 0
    · have := fE_zero h0
      have hk := fK_ok h0
      obtain ⟨h1, h2⟩ := aC_yes h0
      have ih := aN_le n (b.drop (fK b)) (by rw [List.length_drop]; omega)
      rw [List.length_drop] at ih
      rw [h1, h2, List.length_cons]
      omega
    · obtain ⟨h1, h2⟩ := aC_no h0
      rw [h1, h2]; simp

/-- Frames one behind the other. -/
def frs (ls : List (List UInt8)) : List UInt8 := ls.flatMap frameB
theorem frs_cons (l : List UInt8) (ls : List (List UInt8)) : frs (l :: ls) = frameB l ++ frs ls := rfl
theorem frs_snoc (ls : List (List UInt8)) (l : List UInt8) : frs (ls ++ [l]) = frs ls ++ frameB l := by simp [frs]
theorem frs_append (ls ms : List (List UInt8)) : frs (ls ++ ms) = frs ls ++ frs ms := by simp [frs]
theorem aC_frs : ∀ (ls : List (List UInt8)) (r : List UInt8), (∀ l ∈ ls, l.length ≤ 4000) → aC (frs ls ++ r) = ls ++ aC r ∧ aN (frs ls ++ r) = (frs ls).length + aN r
  | [], r, _ => by simp [frs]
  | l :: ls, r, h => by
    obtain ⟨h1, h2, h3⟩ := frame_first l (frs ls ++ r) (h l (by simp))
    obtain ⟨k1, k2⟩ := aC_frs ls r (fun x hx => h x (by simp [hx]))
    rw [frs_cons, List.append_assoc]
    obtain ⟨e1, e2⟩ := aC_yes h1
    have hd : (frameB l ++ (frs ls ++ r)).drop (fK (frameB l ++ (frs ls ++ r))) = frs ls ++ r := by rw [h3]; exact List.drop_left' (frameB_length l)
    rw [e1, e2, hd, h2, h3, k1, k2, List.length_append, frameB_length]
    exact ⟨rfl, by omega⟩

/-- How many of the frames are whole in the first k bytes. -/
def wh (k : Nat) : List (List UInt8) → Nat
  | [] => 0
  | l :: ls => if l.length + 7 ≤ k then wh (k - (l.length + 7)) ls + 1 else 0
theorem wh_le (ls : List (List UInt8)) : ∀ k, wh k ls ≤ ls.length := by
  induction ls with
  | nil => intro k; simp [wh]
  | cons l ls ih =>
    intro k
    rw [wh]
    split
    · have := ih (k - (l.length + 7)); simp; omega
    · simp
theorem wh_iff (ls : List (List UInt8)) : ∀ (k j : Nat), j ≤ ls.length → ((frs (ls.take j)).length ≤ k ↔ j ≤ wh k ls) := by
  induction ls with
  | nil => intro k j h; simp at h; subst h; simp [wh, frs]
  | cons l ls ih =>
    intro k j h
    match j, h with
    | 0, _ => simp [frs]
    | j + 1, h =>
      rw [List.take_succ_cons, frs_cons, List.length_append, frameB_length, wh]
      have := ih (k - (l.length + 7)) j (by simpa using h)
      split <;> omega
theorem aC_cut (ls : List (List UInt8)) : ∀ k, (∀ l ∈ ls, l.length ≤ 4000) → aC ((frs ls).take k) = ls.take (wh k ls) ∧ aN ((frs ls).take k) = (frs (ls.take (wh k ls))).length := by
  induction ls with
  | nil => intro k _; simp [wh, frs]; exact aC_no (by decide)
  | cons l ls ih =>
    intro k h
    have hl := h l (by simp)
    rw [frs_cons, wh]
    split
    · rename_i hk
      obtain ⟨k1, k2⟩ := ih (k - (l.length + 7)) (fun x hx => h x (by simp [hx]))
      rw [List.take_append, frameB_length, List.take_of_length_le (by rw [frameB_length]; exact hk)]
      obtain ⟨h1, h2, h3⟩ := frame_first l ((frs ls).take (k - (l.length + 7))) hl
      obtain ⟨e1, e2⟩ := aC_yes h1
      rw [e1, e2, h2, h3, List.drop_left' (frameB_length l), k1, k2, List.take_succ_cons, frs_cons, List.length_append, frameB_length]
      exact ⟨rfl, rfl⟩
    · rename_i hk
      obtain ⟨h1, h2⟩ := aC_no (first_short l (frs ls) hl k (by omega))
      rw [h1, h2]
      simp [frs]

theorem val_inj {l m : List UInt8} (hl : l.length = m.length) (h : val l = val m) : l = m := by rw [← num_val l, ← num_val m, h, hl]

theorem set_split (l : List UInt8) (j : Nat) (x y : UInt8) (h : l[j]? = some x) : l = l.take j ++ x :: l.drop (j + 1) ∧ l.set j y = l.take j ++ y :: l.drop (j + 1) := by
  obtain ⟨h1, rfl⟩ := List.getElem?_eq_some_iff.1 h
  refine ⟨?_, List.set_eq_take_append_cons_drop ▸ by rw [if_pos h1]⟩
  conv => lhs; rw [← List.take_append_drop j l, List.drop_eq_getElem_cons h1]

/-- A frame with one byte behind those of its size turned. -/
theorem frame_turned (l : List UInt8) (hl : l.length ≤ 4000) (j : Nat) (x y : UInt8) (hx : (frameB l)[j + 3]? = some x) (hne : ¬ x = y) : ¬ fE ((frameB l).set (j + 3) y) = 0 := by
  intro h
  obtain ⟨h1, h2, h3, h4, h5⟩ := fE_zero h
  have hN : fN ((frameB l).set (j + 3) y) = l.length := by
    have := (frame_head l [] hl).1
    rw [List.append_nil] at this
    rw [← this]
    unfold fN
    rw [List.drop_set, if_neg (by omega), List.take_set_of_le (by omega)]
  rw [hN] at h5
  have ht : (frameB l).take (l.length + 3) = headB l := by have := frame_take l []; rwa [List.append_nil] at this
  have hd : (frameB l).drop (l.length + 3) = num (sumB (headB l)) 4 := by have := frame_drop l []; rwa [List.append_nil, List.append_nil] at this
  have hjl : j + 3 < (frameB l).length := (List.getElem?_eq_some_iff.1 hx).1
  rw [frameB_length] at hjl
  by_cases hj : j < l.length
  · rw [List.drop_set, if_pos (by omega), hd, List.take_of_length_le (by rw [num_length]; exact Nat.le_refl _), val_sum, List.take_set, ht] at h5
    have hx2 : (headB l)[j + 3]? = some x := by rw [← ht, List.getElem?_take, if_pos (by omega)]; exact hx
    obtain ⟨s1, s2⟩ := set_split (headB l) (j + 3) x y hx2
    rw [s2] at h5
    conv at h5 => lhs; rw [s1]
    exact sumB_byte _ _ x y hne h5
  · rw [List.take_set_of_le (by omega), ht, ← val_sum (headB l), List.drop_set, if_neg (by omega), hd] at h5
    rw [List.take_of_length_le (by rw [List.length_set, num_length]; exact Nat.le_refl _)] at h5
    have := val_inj (by rw [List.length_set]) h5
    have hx2 : (num (sumB (headB l)) 4)[j + 3 - (l.length + 3)]? = some x := by rw [← hd, List.getElem?_drop, show l.length + 3 + (j + 3 - (l.length + 3)) = j + 3 by omega]; exact hx
    have hlt := (List.getElem?_eq_some_iff.1 hx2).1
    have h6 := congrArg (fun q => q[j + 3 - (l.length + 3)]?) this
    simp only [List.getElem?_set_self hlt, hx2] at h6
    exact hne (Option.some.inj h6).symm
end Go.Proofs.Ytcfdfimkgehdfaa.Dz

/-
  The small functions of layer 3: Sum of package sum and of the document's answer, number, clone. Conditions: the bytes can be read.
-/
namespace Go.Proofs.Ytcfdfimkgehdfaa.Dz
set_option maxRecDepth 100000
open Go.RowKit

theorem adl_next {bs : List UInt8} {k : Nat} {b : UInt8} (hb : bs[k]? = some b) : adl (bs.take (k + 1)) = adS (adl (bs.take k)) b := by
  obtain ⟨h1, rfl⟩ := List.getElem?_eq_some_iff.1 hb
  rw [List.take_succ_eq_append_getElem h1, adl_snoc]

theorem or_sum (X Y : Nat) (hX : X < 65521) (hY : Y < 65521) : bits .or .u32 ((Y : Int) * 65536) (X : Int) = ((Y * 65536 + X : Nat) : Int) := by
  have h1 : ((Y : Int) * 65536) = ((Y * 65536 : Nat) : Int) := by omega
  rw [h1, u32_or_nat _ _ (by omega) (by omega)]
  have := Nat.shiftLeft_add_eq_or_of_lt (show X < 2 ^ 16 by omega) Y
  rw [Nat.shiftLeft_eq] at this
  rw [← this]
theorem or_byte (q : Nat) (b : UInt8) (hq : q < 16777216) : bits .or .u32 ((q : Int) * 256) (b.toNat : Int) = ((q * 256 + b.toNat : Nat) : Int) := by
  have hb : b.toNat < 2 ^ 8 := b.toNat_lt
  have h1 : ((q : Int) * 256) = ((q * 256 : Nat) : Int) := by omega
  rw [h1, u32_or_nat _ _ (by omega) (by omega)]
  have := Nat.shiftLeft_add_eq_or_of_lt hb q
  rw [Nat.shiftLeft_eq] at this
  rw [← this]
theorem adl_pair {bs : List UInt8} {k X Y : Nat} {b : UInt8} (h1 : adl (bs.take (k + 1)) = adS (adl (bs.take k)) b) (h2 : adl (bs.take k) = (X, Y)) : adl (bs.take (k + 1)) = ((X + b.toNat) % 65521, (Y + (X + b.toNat) % 65521) % 65521) := by rw [h1, h2]; rfl
theorem ret_u32 {a b : Int} (h : a = b) : Ending.returned (.int .u32 a) = .returned (.int .u32 b) := by rw [h]
theorem sumB_end {bs : List UInt8} {n X Y : Nat} (hn : bs.length = n) (h : adl (bs.take n) = (X, Y)) : Y * 65536 + X = sumB bs := by
  rw [List.take_of_length_le (by omega)] at h
  unfold sumB
  rw [h]

set_option maxHeartbeats 400000 in
theorem sum_c (B : Nat) (A : Option Addr) (n c : Nat) (bs : List UInt8) (w : World) (hb : BR w B A n c bs) :
    Calls Try.prog 78 #[.slice A n c] w fun e w' => e = .returned (.int .u32 (sumB bs)) ∧ w = w' := by
  have hn := hb.1
  have hnm : n ≤ 9223372036854775807 := by have h1 := hb.2.1; have h2 := hb.2.2.1; simp only [maxLen] at h2; omega
  go_enter Try.func78, Try.ntmps78
  go_wp2
  go_loop [3, 4, 9] (fun x y i => ∃ k X Y : Nat, k ≤ n ∧ i = .int .i64 k ∧ x = .int .u32 X ∧ y = .int .u32 Y ∧ X < 65521 ∧ Y < 65521 ∧ Hid (adl (bs.take k) = (X, Y))) (fun _ _ i => n - (intOf i).toNat)
  case atStart => exact ⟨0, 1, 0, Nat.zero_le _, rfl, rfl, rfl, by omega, by omega, rfl⟩
  case round =>
    obtain ⟨k, X, Y, hk, rfl, rfl, rfl, hX, hY, HA⟩ := hrel
    by_cases hlt : k < n
    · obtain ⟨g, off, b, rfl, hgB, Hb, cb⟩ := hb.at_ hlt
      have HN := Lib.hid (adl_pair (adl_next Hb.out) HA.out)
      have hb8 : b.toNat < 256 := b.toNat_lt
      go_wp2_with fail
      go_round
      case rel => exact ⟨k + 1, (X + b.toNat) % 65521, (Y + (X + b.toNat) % 65521) % 65521, by omega, by go_num, by go_num, by go_num, Nat.mod_lt _ (by omega), Nat.mod_lt _ (by omega), HN.out⟩
      case measure => simp [intOf]; omega
    · obtain rfl : k = n := by omega
      have HS := Lib.hid (sumB_end hn HA.out)
      have HO := Lib.hid (or_sum X Y hX hY)
      go_wp2_with fail
      go_ret
      exact ⟨ret_u32 (by rw [HO.out, HS.out]), rfl⟩

theorem val_small {bs : List UInt8} {k : Nat} (hk : k ≤ 3) : val (bs.take k) < 16777216 := by
  have h1 := val_lt (bs.take k)
  have h2 : 256 ^ (bs.take k).length ≤ 256 ^ 3 := Nat.pow_le_pow_right (by omega) (by rw [List.length_take]; omega)
  have h3 : (256 : Nat) ^ 3 = 16777216 := rfl
  omega
theorem val_take {bs : List UInt8} {k : Nat} {b : UInt8} (hb : bs[k]? = some b) : val (bs.take (k + 1)) = val (bs.take k) * 256 + b.toNat := by
  obtain ⟨h1, rfl⟩ := List.getElem?_eq_some_iff.1 hb
  rw [List.take_succ_eq_append_getElem h1, val_snoc]

set_option maxHeartbeats 400000 in
theorem number_c (B : Nat) (A : Option Addr) (n c : Nat) (bs : List UInt8) (w : World) (hb : BR w B A n c bs) (h4 : n ≤ 4) :
    Calls Try.prog 86 #[.slice A n c] w fun e w' => e = .returned (.int .u32 (val bs)) ∧ w = w' := by
  have hn := hb.1
  go_enter Try.func86, Try.ntmps86
  go_wp2
  go_loop [3, 8] (fun x i => ∃ k q : Nat, k ≤ n ∧ i = .int .i64 k ∧ x = .int .u32 q ∧ Hid (q = val (bs.take k))) (fun _ i => n - (intOf i).toNat)
  case atStart => exact ⟨0, 0, Nat.zero_le _, rfl, rfl, rfl⟩
  case round =>
    obtain ⟨k, q, hk, rfl, rfl, Hq⟩ := hrel
    by_cases hlt : k < n
    · obtain ⟨g, off, b, rfl, hgB, Hb, cb⟩ := hb.at_ hlt
      have hq : q < 16777216 := by rw [Hq.out]; exact val_small (by omega)
      have HN := Lib.hid (show q * 256 + b.toNat = val (bs.take (k + 1)) by rw [val_take Hb.out, Hq.out])
      have hb8 : b.toNat < 256 := b.toNat_lt
      have HO := Lib.hid (or_byte q b hq)
      go_wp2_with fail
      rw [HO.out]
      go_round
      case rel => exact ⟨k + 1, q * 256 + b.toNat, by omega, by go_num, by go_num, HN.out⟩
      case measure => simp [intOf]; omega
    · obtain rfl : k = n := by omega
      have HS := Lib.hid (show q = val bs by rw [Hq.out, List.take_of_length_le (by omega)])
      go_wp2_with fail
      go_ret
      exact ⟨ret_u32 (by rw [HS.out]), rfl⟩

theorem BR.src {w : World} {B : Nat} {A : Option Addr} {n c : Nat} {bs : List UInt8} (h : BR w B A n c bs) : Src w 1 A n (bc bs) := by
  refine ⟨by rw [bc_length, h.1, Nat.mul_one], fun hn => ?_⟩
  obtain ⟨g, off, h1, _, h3⟩ := h.2.2.2 hn
  refine ⟨_, h1, fun j u hu => ?_⟩
  unfold bc at hu
  rw [List.getElem?_map] at hu
  cases hb : bs[j]? with
  | none => rw [hb] at hu; cases hu
  | some b => rw [hb] at hu; cases hu; rw [Addr.add_lit]; exact h3 j b hb

theorem BR.max {w : World} {B : Nat} {A : Option Addr} {n c : Nat} {bs : List UInt8} (h : BR w B A n c bs) : n ≤ 9223372036854775807 := by
  have h1 := h.2.1; have h2 := h.2.2.1; simp only [maxLen] at h2; omega

set_option maxHeartbeats 400000 in
theorem clone_c (B : Nat) (A : Option Addr) (n c : Nat) (bs : List UInt8) (w : World) (hb : BR w B A n c bs) (hn : n ≤ 1000000) :
    Calls Try.prog 81 #[.slice A n c] w (BPost w none bs) := by
  obtain ⟨i0, hi0, hz0, hz1, hz2⟩ := info_parts Try.infoB
  have Hi := Lib.hid hi0
  have Hz := Lib.hid hz0
  have Hz1 := Lib.hid hz1
  have Hz2 := Lib.hid hz2
  clear hi0 hz0 hz1 hz2
  have p1 : 0 + n ≤ maxLen := by simp only [maxLen]; omega
  have p2 : (0 + n) * 1 ≤ 140737488355328 := by omega
  have p4 : 0 < 1 := by omega
  have hsrc := hb.src
  clear hb
  go_enter Try.func81, Try.ntmps81
  go_wp2_with (at_builtin; refine wpList_append_src _ rfl (.const (.slice none 0 0)) (.tmp 3) _ rfl 5 i0 _ 1 1 Try.underlying30 Hi.out Hz.out Hz1.out Hz2.out rfl p4 rfl (Seg.nil w _ _) rfl hsrc (bc_one _) p1 p2 ?_; intro A1 c1 G1 w1 hs1 hg1 hm1)
  rw [List.nil_append, Nat.zero_add] at hs1
  have H := Lib.hid (show BPost w none bs (.returned (.slice A1 n c1)) w1 from ⟨A1, n, c1, G1, rfl, hs1, hg1, hm1⟩)
  clear hs1 hg1 hm1 hsrc
  go_wp2_with fail
  go_ret
  exact H.out
end Go.Proofs.Ytcfdfimkgehdfaa.Dz

/-
  Frame of package sum and of the document's answer: they return the document's frame, or its error. Conditions: the bytes can be read.
-/
namespace Go.Proofs.Ytcfdfimkgehdfaa.Dz
set_option maxRecDepth 100000
open Go.RowKit

theorem srcs (w : World) (t : TypeId) (vs : List Value) : Src (w.alloc (.cells vs.toArray t)) 1 (some ⟨w.heap.size, 0, none⟩) vs.length vs := by
  refine ⟨by simp, fun _ => ⟨_, rfl, fun j u hj => ?_⟩⟩
  rw [Addr.add_lit, (CB.new w _ vs.toArray).cell]
  simpa using hj

theorem info_hid : ∃ i0, Hid (Try.prog.info? 5 = some i0) ∧ Hid (i0.zero = some (.int .u8 0)) ∧ Hid (i0.size = 1) ∧ Hid (i0.bytes = 1) := by
  obtain ⟨i0, hi0, hz0, hz1, hz2⟩ := info_parts Try.infoB
  exact ⟨i0, hi0, hz0, hz1, hz2⟩

theorem u8c (k : Nat) : (((UInt8.ofNat k).toNat : Nat) : Int) = (k : Int) % 256 := by rw [UInt8.toNat_ofNat']; rfl
theorem num2 (n : Nat) (h : n ≤ 4000) : [Value.int .u8 1, .int .u8 ((n : Int) / 256), .int .u8 ((n : Int) % 256)] = bc (1 :: num n 2) := by
  simp only [bc, num, List.map_cons, List.map_nil, u8c, Nat.pow_one, Nat.pow_zero, Nat.div_one]
  congr 3
  · omega
theorem num4 (q : Nat) (h : q < 4294967296) : [Value.int .u8 ((q : Int) / 16777216), .int .u8 ((q : Int) / 65536 % 256), .int .u8 ((q : Int) / 256 % 256), .int .u8 ((q : Int) % 256)] = bc (num q 4) := by
  simp only [bc, num, List.map_cons, List.map_nil, u8c, Nat.pow_one, Nat.pow_zero, Nat.div_one]
  have e3 : (256 : Nat) ^ 3 = 16777216 := rfl
  have e2 : (256 : Nat) ^ 2 = 65536 := rfl
  rw [e3, e2]
  congr 2
  · omega
theorem grown_one {w w1 w2 : World} {g : Nat} (h : w.grownBy w1 none) (hg : w.heap.size ≤ g) (k : w1.grownBy w2 (some g)) : w.grownBy w2 none := grown_trans h (.inr ⟨g, rfl, hg⟩) k

set_option maxRecDepth 100000 in
set_option maxHeartbeats 1000000 in
theorem frame_c (A : Option Addr) (n c : Nat) (bs : List UInt8) (w : World) (hb : BR w w.heap.size A n c bs) :
    Calls Try.prog 56 #[.slice A n c] w (EPost w (bF bs) (eF bs)) := by
  have hn := hb.1
  have hnm := hb.max
  by_cases hbig : (4000 : Int) < (n : Int)
  · have H := Lib.hid (show EPost w (bF bs) (eF bs) (.returned (.tuple #[.slice none 0 0, .int .i64 3])) w by
      obtain ⟨h1, h2⟩ := eF_big (l := bs) (by omega)
      rw [h1, h2]
      exact ⟨none, 0, 0, none, rfl, Seg.nil _ _ _, Below.refl _ _, fun g e => by cases e⟩)
    go_enter Try.func56, Try.ntmps56
    go_wp2
    go_ret2
    exact H.out
  · obtain ⟨i0, Hi, Hz, Hz1, Hz2⟩ := info_hid
    have hmk : ∃ A1 w1 G1, (Instr.makeSlice 30 (.int .i64 0) (.int .i64 (3 + (n : Int) + 4))).run Try.prog w = .ok (.slice A1 0 (n + 7)) w1 ∧ Seg w1 5 1 A1 0 (n + 7) (bc []) G1 ∧ Moved w none G1 ∧ w.grownBy w1 none := by
      obtain ⟨w1, hrun, hseg1, hg1⟩ := run_make_seg (P := Try.prog) w 30 5 i0 _ 1 Try.underlying30 Hi.out Hz.out Hz1.out (n + 7) (by rw [Hz2.out]; omega) (by simp only [maxLen]; omega)
      refine ⟨_, w1, _, ?_, hseg1, .inr ⟨_, rfl, Nat.le_refl _⟩, hg1⟩
      rw [show 3 + (n : Int) + 4 = ((n + 7 : Nat) : Int) by omega]
      exact hrun
    obtain ⟨A1, w1, G1, hrun, hs1, hm1, hg1⟩ := hmk
    have p1 : 0 + 3 ≤ maxLen := by simp only [maxLen]; omega
    have p2 : (0 + 3) * 1 ≤ 140737488355328 := by omega
    have p4 : 0 < 1 := by omega
    have q1 : 3 + n ≤ maxLen := by simp only [maxLen]; omega
    have q2 : (3 + n) * 1 ≤ 140737488355328 := by omega
    have r1 : 3 + n + 4 ≤ maxLen := by simp only [maxLen]; omega
    have r2 : (3 + n + 4) * 1 ≤ 140737488355328 := by omega
    have H2 := Lib.hid (num2 n (by omega))
    have HH := Lib.hid (show bc [] ++ bc (1 :: num n 2) ++ bc bs = bc (headB bs) by unfold headB; rw [hn, ← bc_append, ← bc_append]; rfl)
    have hbig' : n ≤ 4000 := by omega
    go_enter Try.func56, Try.ntmps56
    go_wp2_with (first
      | (at_builtin; refine wpList_append_src _ rfl (.tmp 14) (.tmp 22) _ rfl 5 i0 _ 1 1 Try.underlying30 Hi.out Hz.out Hz1.out Hz2.out rfl p4 rfl (hs1.alloc _) rfl (srcs w1 _ [.int .u8 1, .int .u8 ((n : Int) / 256), .int .u8 ((n : Int) % 256)]) (by rw [H2.out]; exact bc_one _) p1 p2 ?_; intro A2 c2 G2 w2 hs2 hg2 hm2; rw [H2.out, Nat.zero_add] at hs2; replace hg2 := grown_trans (grown_alloc hg1 _) hm1 hg2; replace hm2 := hm1.trans (hm2.of_size (by simp)) hg1.size; have hb2 := hb.grown hg2 (Nat.le_refl _) (fun g e => by cases e); clear hs1 hg1 hm1 hb)
      | (at_builtin; refine wpList_append_src _ rfl (.tmp 24) (.tmp 25) _ rfl 5 i0 _ 1 1 Try.underlying30 Hi.out Hz.out Hz1.out Hz2.out rfl p4 rfl hs2 rfl hb2.src (bc_one _) q1 q2 ?_; intro A3 c3 G3 w3 hs3 hg3 hm3; rw [HH.out] at hs3; replace hg3 := grown_trans hg2 hm2 hg3; replace hm3 := hm2.trans hm3 hg2.size; clear hs2 hg2 hm2 hb2))
    refine (sum_c _ A3 (3 + n) c3 (headB bs) w3 (BR.of_seg hs3)).mono ?_
    rintro e w3' ⟨rfl, rfl⟩
    have HF := Lib.hid (show bc (headB bs) ++ bc (num (sumB (headB bs)) 4) = bc (bF bs) by rw [← bc_append, (eF_ok (l := bs) (by omega)).2]; rfl)
    have HE := Lib.hid (show eF bs = 0 from (eF_ok (l := bs) (by omega)).1)
    have hsl := sumB_lt (headB bs)
    generalize sumB (headB bs) = S at *
    have H4 := Lib.hid (num4 S hsl)
    clear hrun
    go_wp2_with (at_builtin; refine wpList_append_src _ rfl (.tmp 29) (.tmp 41) _ rfl 5 i0 _ 1 1 Try.underlying30 Hi.out Hz.out Hz1.out Hz2.out rfl p4 rfl (hs3.alloc _) rfl (srcs w3 _ [.int .u8 ((S : Int) / 16777216), .int .u8 ((S : Int) / 65536 % 256), .int .u8 ((S : Int) / 256 % 256), .int .u8 ((S : Int) % 256)]) (by rw [H4.out]; exact bc_one _) r1 r2 ?_; intro A4 c4 G4 w4 hs4 hg4 hm4; rw [H4.out, HF.out] at hs4; replace hm4 : Moved w none G4 := hm3.trans (hm4.of_size (by simp)) hg3.size; replace hg4 := grown_trans (grown_alloc hg3 _) hm3 hg4; clear hs3 hg3 hm3)
    have H := Lib.hid (show EPost w (bF bs) (eF bs) (.returned (.tuple #[.slice A4 (3 + n + 4) c4, .int .i64 0])) w4 by
      rw [HE.out]
      exact ⟨A4, _, c4, G4, rfl, hs4, grown_below hg4 (Nat.le_refl _) (fun g e => by cases e), hm4.ge (Nat.le_refl _) (fun g e => by cases e)⟩)
    clear hs4 hg4 hm4
    go_wp2_with fail
    go_ret2
    exact H.out

theorem Seg.lit (w : World) (e : TypeId) (vs : List Value) (h : vs.length ≤ maxLen) : Seg (w.alloc (.cells vs.toArray e)) e 1 (some ⟨w.heap.size, 0, none⟩) vs.length vs.length vs (some w.heap.size) :=
  ⟨by simp, Nat.le_refl _, h, .inr ⟨w.heap.size, 0, vs.toArray, rfl, rfl, CB.new _ _ _, by simp, fun j u hu => by simpa using hu⟩⟩

end Go.Proofs.Ytcfdfimkgehdfaa.Dz

/-
  cut of package sum: it returns what stands in the frame at the beginning of bytes, its size, and the document's error. Conditions: the bytes can be read.
-/
namespace Go.Proofs.Ytcfdfimkgehdfaa.Dz
set_option maxRecDepth 100000
open Go.RowKit

theorem run_cut_three {P : Program} (t e : TypeId) (ht : P.underlying t = some (.slice e)) (size : Nat) (hz : ∀ w, (sizeOf e).run P w = .ok size w) (A : Option Addr) (n c lo hi : Nat) (h1 : lo ≤ hi) (h2 : hi ≤ c) (w : World) :
    (Instr.slice t (.slice A n c) (some (.int .i64 lo)) (some (.int .i64 hi)) (some (.int .i64 hi))).run P w = .ok (.slice (if hi = lo then A else A.map (·.add (lo * size))) (hi - lo) (hi - lo)) w := by
  simp [Instr.slice, run_underlying ht, Instr.sliceBounds, hz, go_sem, h1, h2]

theorem cut_both {w : World} {B : Nat} {A : Option Addr} {n c : Nat} {bs : List UInt8} (h : BR w B A n c bs) (lo hi : Nat) (x y : Int) (hx : x = lo) (hy : y = hi) (h1 : lo ≤ hi) (h2 : hi ≤ n) (m : Nat) (hm : hi = lo + m) :
    ∃ A1 c1, (∀ W, (Instr.slice 30 (.slice A n c) (some (.int .i64 x)) (some (.int .i64 y)) none).run Try.prog W = .ok (.slice A1 m c1) W) ∧ BR w B A1 m c1 ((bs.drop lo).take m) := by
  have hnc := h.2.1
  subst hx hy hm
  have h3 := (h.cut (k := lo) (by omega)).upto (k := m) (by omega)
  refine ⟨_, _, fun W => ?_, h3⟩
  rw [run_cut_both (P := Try.prog) 30 5 Try.underlying30 1 Try.sizeB A n c lo (lo + m) h1 (by omega) W, Nat.add_sub_cancel_left]
theorem cut_three {w : World} {B : Nat} {A : Option Addr} {n c : Nat} {bs : List UInt8} (h : BR w B A n c bs) (lo hi : Nat) (x y : Int) (hx : x = lo) (hy : y = hi) (h1 : lo ≤ hi) (h2 : hi ≤ n) (m : Nat) (hm : hi = lo + m) :
    ∃ A1, (∀ W, (Instr.slice 30 (.slice A n c) (some (.int .i64 x)) (some (.int .i64 y)) (some (.int .i64 y))).run Try.prog W = .ok (.slice A1 m m) W) ∧ BR w B A1 m m ((bs.drop lo).take m) := by
  have hnc := h.2.1
  have hcm := h.2.2.1
  subst hx hy hm
  have h3 := (h.cut (k := lo) (by omega)).upto (k := m) (by omega)
  refine ⟨if lo + m = lo then A else A.map (fun x : Addr => x.add (lo * 1)), fun W => ?_, h3.1, Nat.le_refl _, by omega, fun hm => ?_⟩
  · rw [run_cut_three (P := Try.prog) 30 5 Try.underlying30 1 Try.sizeB A n c lo (lo + m) h1 (by omega) W, Nat.add_sub_cancel_left]
  · rw [if_neg (by omega)]
    have := h3.2.2.2 hm
    rwa [if_neg (by omega)] at this
theorem cut_upto {w : World} {B : Nat} {A : Option Addr} {n c : Nat} {bs : List UInt8} (h : BR w B A n c bs) (hi : Nat) (y : Int) (hy : y = hi) (h2 : hi ≤ n) :
    (∀ W, (Instr.slice 30 (.slice A n c) none (some (.int .i64 y)) none).run Try.prog W = .ok (.slice A hi c) W) ∧ BR w B A hi c (bs.take hi) := by
  have hnc := h.2.1
  subst hy
  exact ⟨fun W => run_cut_upto (P := Try.prog) 30 5 Try.underlying30 1 Try.sizeB A n c hi (by omega) W, h.upto h2⟩
theorem cut_from {w : World} {B : Nat} {A : Option Addr} {n c : Nat} {bs : List UInt8} (h : BR w B A n c bs) (lo : Nat) (x : Int) (hx : x = lo) (h2 : lo ≤ n) :
    ∃ A1 c1, (∀ W, (Instr.slice 30 (.slice A n c) (some (.int .i64 x)) none none).run Try.prog W = .ok (.slice A1 (n - lo) c1) W) ∧ BR w B A1 (n - lo) c1 (bs.drop lo) := by
  subst hx
  exact ⟨_, _, fun W => run_cut_from (P := Try.prog) 30 5 Try.underlying30 1 Try.sizeB A n c lo h2 W, h.cut h2⟩

theorem BR.drewN {w : World} {B : Nat} {A : Option Addr} {n c : Nat} {bs : List UInt8} (h : BR w B A n c bs) (k : Nat) : BR (w.drewN k) B A n c bs := h.keep fun _ _ => rfl
theorem BR.drew {w : World} {B : Nat} {A : Option Addr} {n c : Nat} {bs : List UInt8} (h : BR w B A n c bs) : BR w.drew B A n c bs := h.keep fun _ _ => rfl

/-- A call gave a piece of bytes back that lies below B, its frame's size and an error. -/
def CPost (w : World) (B : Nat) (bs : List UInt8) (e : Ending) (w' : World) : Prop :=
  ∃ A' n' c', e = .returned (.tuple #[.slice A' n' c', .int .i64 (fK bs : Int), .int .i64 (fE bs : Int)]) ∧ BR w' B A' n' c' (fC bs) ∧ Below w.heap.size w w'
theorem cpost_bad {w w' : World} {B : Nat} {bs : List UInt8} {k : Nat} (h : fE bs = k + 1) (hb : Below w.heap.size w w') : CPost w B bs (.returned (.tuple #[.slice none 0 0, .int .i64 0, .int .i64 ((k + 1 : Nat) : Int)])) w' := by
  have h0 : ¬ fE bs = 0 := by omega
  refine ⟨none, 0, 0, ?_, ?_, hb⟩
  · rw [fK_bad h0, h]; rfl
  · rw [fC_bad h0]; exact BR.nil _ _
theorem cpost_ok {w w' : World} {B : Nat} {bs : List UInt8} {A : Option Addr} {n c : Nat} {x : Int} (h : fE bs = 0) (hb : BR w' B A n c (fC bs)) (hK : x = fK bs) (hbl : Below w.heap.size w w') : CPost w B bs (.returned (.tuple #[.slice A n c, .int .i64 x, .int .i64 0])) w' := by
  refine ⟨A, n, c, ?_, hb, hbl⟩
  rw [h, hK]; rfl

set_option maxRecDepth 100000 in
set_option maxHeartbeats 1000000 in
theorem cut_c (B : Nat) (A : Option Addr) (n c : Nat) (bs : List UInt8) (w : World) (hb : BR w B A n c bs) :
    Calls Try.prog 80 #[.slice A n c] w (CPost w B bs) := by
  have hn := hb.1
  have hnm := hb.max
  by_cases h0 : n = 0
  · have H := Lib.hid (cpost_bad (w := w) (w' := w) (B := B) (k := 6) (fE_none (b := bs) (by omega)) (Below.refl _ _))
    subst h0
    go_enter Try.func80, Try.ntmps80
    go_wp2
    go_ret3
    exact H.out
  have h0' : ((n : Int) == 0) = false := by rw [beq_eq_false_iff_ne]; omega
  have hl0 : ¬ bs.length = 0 := by omega
  obtain ⟨g, off, b, rfl, hgB, Hb, cb⟩ := hb.at_ (show 0 < n by omega)
  rw [Nat.add_zero] at cb
  by_cases hf : ¬ bs[0]? = some 1 ∨ bs.length < 3
  · have H := Lib.hid (cpost_bad (w := w) (w' := w) (B := B) (k := 3) (fE_form1 hl0 hf) (Below.refl _ _))
    by_cases h1 : b = 1
    · subst h1
      replace cb : w.cell? ⟨g, off, none⟩ = some (.int .u8 1) := cb
      have h3 : (n : Int) < 3 := by have := Hb.out; rcases hf with hf | hf; exact absurd this hf; omega
      clear hf
      go_enter Try.func80, Try.ntmps80
      go_wp2
      go_ret3
      exact H.out
    · have e1 := u8ne 1 1 rfl h1
      have e2 : ((b.toNat : Int) != 1) = true := by rw [bne, e1]; rfl
      clear hf h1
      go_enter Try.func80, Try.ntmps80
      go_wp2
      go_ret3
      exact H.out
  have Hf := Lib.hid hf
  have h1 : b = 1 := by
    refine Classical.byContradiction fun hc => hf (.inl ?_)
    rw [Hb.out]
    exact fun e => hc (Option.some.inj e)
  have h3 : ¬ (n : Int) < 3 := by omega
  subst h1
  replace cb : w.cell? ⟨g, off, none⟩ = some (.int .u8 1) := cb
  obtain ⟨A1, c1, hcut1, hb1⟩ := cut_both hb 1 3 1 3 rfl rfl (by omega) (by omega) 2 (by omega)
  obtain ⟨N, hN⟩ : ∃ N, fN bs = N := ⟨_, rfl⟩
  have HN := Lib.hid hN
  have HV := Lib.hid (show val ((bs.drop 1).take 2) = N from hN)
  have hN6 : N < 65536 := by rw [← hN]; have := val_lt ((bs.drop 1).take 2); have h2 : ((bs.drop 1).take 2).length = 2 := hb1.1; rw [h2] at this; exact this
  clear hf hN
  by_cases hg : 4000 < N ∨ n < N + 7
  · have H := Lib.hid (cpost_bad (w := w) (w' := w) (B := B) (k := 3) (fE_form2 hl0 Hf.out (by rw [HN.out, hn]; exact hg)) (Below.refl _ _))
    have hg' : ¬ (4000 : Int) < (N : Int) → (n : Int) < 3 + (N : Int) + 4 := by omega
    clear hg
    by_cases hg1 : (4000 : Int) < (N : Int)
    · go_enter Try.func80, Try.ntmps80
      go_wp2_with fail
      refine (number_c B A1 2 c1 _ _ hb1 (by omega)).mono ?_
      rintro e w' ⟨rfl, rfl⟩
      rw [HV.out]
      go_wp2_with fail
      go_ret3
      exact H.out
    · have hg2 := hg' hg1
      go_enter Try.func80, Try.ntmps80
      go_wp2_with fail
      refine (number_c B A1 2 c1 _ _ hb1 (by omega)).mono ?_
      rintro e w' ⟨rfl, rfl⟩
      rw [HV.out]
      go_wp2_with fail
      go_ret3
      exact H.out
  have hg1 : ¬ (4000 : Int) < (N : Int) := by omega
  have hg2 : ¬ (n : Int) < 3 + (N : Int) + 4 := by omega
  have hg3 : N + 7 ≤ n := by omega
  have Hg := Lib.hid hg
  clear hg
  obtain ⟨A2, c2, hcut2, hb2⟩ := cut_both hb (N + 3) (N + 7) (3 + (N : Int)) (3 + (N : Int) + 4) (by omega) (by omega) (by omega) (by omega) 4 (by omega)
  obtain ⟨hcut3, hb3⟩ := cut_upto hb (N + 3) (3 + (N : Int)) (by omega) (by omega)
  obtain ⟨A4, hcut4, hb4⟩ := cut_three hb 3 (N + 3) 3 (3 + (N : Int)) rfl (by omega) (by omega) (by omega) N (by omega)
  go_enter Try.func80, Try.ntmps80
  go_wp2_with fail
  refine (number_c B A1 2 c1 _ _ hb1 (by omega)).mono ?_
  rintro e w' ⟨rfl, rfl⟩
  rw [HV.out]
  go_wp2_with fail
  go_quiet (first
    | (go_at_call 86; exact Calls.quiet_of_same ((number_c B A2 4 c2 _ _ (hb2.drewN _) (by omega)).mono fun e w' hh => ⟨hh.1, hh.2.symm⟩))
    | (go_at_call 78; exact Calls.quiet_of_same ((sum_c B _ (N + 3) c _ _ (hb3.drewN _)).mono fun e w' hh => ⟨hh.1, hh.2.symm⟩)))
  by_cases hs : val ((bs.drop (N + 3)).take 4) = sumB (bs.take (N + 3))
  · have h00 : fE bs = 0 := fE_ok hl0 Hf.out (by rw [HN.out, hn]; exact Hg.out) (by rw [HN.out]; exact hs)
    have H := Lib.hid (cpost_ok (w := w) (w' := w.drewN nq) (B := B) (A := A4) (n := N) (c := N) (x := 3 + (N : Int) + 4) h00 (by rw [fC_ok h00, HN.out]; exact hb4.drewN _) (by rw [fK_ok h00, HN.out]; omega) (belowN (Below.refl _ _) _))
    rw [hs]
    have hee : (((sumB (bs.take (N + 3)) : Nat) : Int) != ((sumB (bs.take (N + 3)) : Nat) : Int)) = false := by simp
    generalize sumB (bs.take (N + 3)) = S at *
    clear hs h00 hb2 hb3 hb1 hb4
    go_wp2_with fail
    go_ret3
    exact H.out
  · have H := Lib.hid (cpost_bad (w := w) (w' := w.drewN nq) (B := B) (k := 4) (fE_sum hl0 Hf.out (by rw [HN.out, hn]; exact Hg.out) (by rw [HN.out]; exact hs)) (belowN (Below.refl _ _) _))
    have hee : (((val ((bs.drop (N + 3)).take 4) : Nat) : Int) != ((sumB (bs.take (N + 3)) : Nat) : Int)) = true := by rw [bne_iff_ne]; omega
    generalize sumB (bs.take (N + 3)) = S at *
    generalize val ((bs.drop (N + 3)).take 4) = V at *
    clear hs hb2 hb3 hb1 hb4
    go_wp2_with fail
    go_ret3
    exact H.out
end Go.Proofs.Ytcfdfimkgehdfaa.Dz

/-
  First of the document's answer. Conditions: the bytes can be read.
-/
namespace Go.Proofs.Ytcfdfimkgehdfaa.Dz
set_option maxRecDepth 100000
open Go.RowKit

theorem two_bytes {bs : List UInt8} {a b : UInt8} (h1 : bs[1]? = some a) (h2 : bs[2]? = some b) : fN bs = a.toNat * 256 + b.toNat := by
  unfold fN
  match bs, h1, h2 with
  | [], h1, _ => simp at h1
  | [_], h1, _ => simp at h1
  | [_, _], _, h2 => simp at h2
  | x :: y :: z :: r, h1, h2 =>
    simp at h1 h2
    subst h1 h2
    simp [val]
theorem cells_far {w : World} {B : Nat} {g off n c : Nat} {bs : List UInt8} (hb : BR w B (some ⟨g, off, none⟩) n c bs) (i : Nat) (hi : i < n) : ∃ b : UInt8, Hid (bs[i]? = some b) ∧ w.cell? ⟨g, off + i, none⟩ = some (.int .u8 (b.toNat : Int)) := by
  obtain ⟨g', off', b, e, _, h1, h2⟩ := hb.at_ hi
  cases e
  exact ⟨b, h1, h2⟩
theorem str_ne {l m : List UInt8} (h : ¬ l = m) : ((mkS l).toList == (mkS m).toList) = false := by
  rw [tl_bl, tl_bl, bl_mkS, bl_mkS, beq_eq_false_iff_ne]
  exact h

/-- The document's way: the frame of what is in it is there. -/
theorem frame_there {bs : List UInt8} {N : Nat} (hf : ¬ (¬ bs[0]? = some 1 ∨ bs.length < 3)) (hN : fN bs = N) (hg : ¬ (4000 < N ∨ bs.length < N + 7)) : (bF ((bs.drop 3).take N) = bs.take (N + 7)) ↔ fE bs = 0 := by
  have hl : ((bs.drop 3).take N).length = N := by rw [List.length_take, List.length_drop]; omega
  have hbF : bF ((bs.drop 3).take N) = frameB ((bs.drop 3).take N) := (eF_ok (by omega)).2
  rw [hbF]
  constructor
  · intro h
    have h1 := (frame_first ((bs.drop 3).take N) (bs.drop (N + 7)) (by omega)).1
    rwa [h, List.take_append_drop] at h1
  · intro h
    have h1 := (first_frame h).1
    rw [fC_ok h, hN] at h1
    exact h1.symm

end Go.Proofs.Ytcfdfimkgehdfaa.Dz

/-
  All of package sum and of the document's answer; slices of slices of bytes in memory. Conditions: the bytes can be read, there are a million of them at most.
-/
namespace Go.Proofs.Ytcfdfimkgehdfaa.Dz
set_option maxRecDepth 100000
open Go.RowKit

/-- Cells that are slices of bytes, each of which can be read, below B. -/
def LC (w : World) (B : Nat) (cells : List Value) (ls : List (List UInt8)) : Prop :=
  cells.length = ls.length ∧ ∀ (i : Nat) (l : List UInt8), ls[i]? = some l → ∃ A n c, cells[i]? = some (.slice A n c) ∧ BR w B A n c l
theorem LC.nil (w : World) (B : Nat) : LC w B [] [] := ⟨rfl, fun i l h => by simp at h⟩
theorem LC.keep {w w' : World} {B : Nat} {cells : List Value} {ls : List (List UInt8)} (h : LC w B cells ls) (hk : ∀ g, g < B → w'.heap[g]? = w.heap[g]?) : LC w' B cells ls :=
  ⟨h.1, fun i l hl => by obtain ⟨A, n, c, h1, h2⟩ := h.2 i l hl; exact ⟨A, n, c, h1, h2.keep hk⟩⟩
theorem LC.snoc {w : World} {B : Nat} {cells : List Value} {ls : List (List UInt8)} (h : LC w B cells ls) {A : Option Addr} {n c : Nat} {l : List UInt8} (hl : BR w B A n c l) : LC w B (cells ++ [.slice A n c]) (ls ++ [l]) := by
  refine ⟨by simp [h.1], fun i m hm => ?_⟩
  by_cases hi : i < ls.length
  · rw [List.getElem?_append_left hi] at hm
    obtain ⟨A', n', c', h1, h2⟩ := h.2 i m hm
    exact ⟨A', n', c', by rw [List.getElem?_append_left (by rw [h.1]; exact hi)]; exact h1, h2⟩
  · rw [List.getElem?_append_right (by omega)] at hm
    obtain ⟨hlt, he⟩ := List.getElem?_eq_some_iff.1 hm
    simp at hlt he
    subst he
    have hz : i - ls.length = 0 := by omega
    exact ⟨A, n, c, by rw [List.getElem?_append_right (by rw [h.1]; omega), h.1, hz]; rfl, hl⟩

/-- A slice of slices of bytes that can be read, below B. -/
def LR (w : World) (B : Nat) (A : Option Addr) (n c : Nat) (ls : List (List UInt8)) : Prop :=
  ls.length = n ∧ n ≤ c ∧ c ≤ maxLen ∧ ∀ (i : Nat) (l : List UInt8), ls[i]? = some l → ∃ g off A' n' c', A = some ⟨g, off, none⟩ ∧ g < B ∧ w.cell? ⟨g, off + i, none⟩ = some (.slice A' n' c') ∧ BR w B A' n' c' l
section
variable {w w' : World} {B : Nat} {A : Option Addr} {n c : Nat} {ls : List (List UInt8)}
theorem LR.keep (h : LR w B A n c ls) (hk : ∀ g, g < B → w'.heap[g]? = w.heap[g]?) : LR w' B A n c ls := by
  refine ⟨h.1, h.2.1, h.2.2.1, fun i l hl => ?_⟩
  obtain ⟨g, off, A', n', c', h1, h2, h3, h4⟩ := h.2.2.2 i l hl
  exact ⟨g, off, A', n', c', h1, h2, (World.cell?_of_block (a := ⟨g, off + i, none⟩) (hk g h2)).trans h3, h4.keep hk⟩
theorem LR.below {B' : Nat} (h : LR w B A n c ls) (hb : Below B' w w') (hB : B ≤ B') : LR w' B A n c ls := h.keep fun g hg => hb.block g (by omega)
theorem LR.drewN (h : LR w B A n c ls) (k : Nat) : LR (w.drewN k) B A n c ls := h.keep fun _ _ => rfl
theorem LR.more {B' : Nat} (h : LR w B A n c ls) (hB : B ≤ B') : LR w B' A n c ls := by
  refine ⟨h.1, h.2.1, h.2.2.1, fun i l hl => ?_⟩
  obtain ⟨g, off, A', n', c', h1, h2, h3, h4⟩ := h.2.2.2 i l hl
  exact ⟨g, off, A', n', c', h1, by omega, h3, h4.more hB⟩
theorem LR.at_ (h : LR w B A n c ls) {i : Nat} (hi : i < n) : ∃ (g off : Nat) (A' : Option Addr) (n' c' : Nat) (l : List UInt8), A = some ⟨g, off, none⟩ ∧ Hid (ls[i]? = some l) ∧ w.cell? ⟨g, off + i, none⟩ = some (.slice A' n' c') ∧ BR w B A' n' c' l := by
  have hl : i < ls.length := by rw [h.1]; exact hi
  obtain ⟨g, off, A', n', c', h1, h2, h3, h4⟩ := h.2.2.2 i ls[i] (List.getElem?_eq_getElem hl)
  exact ⟨g, off, A', n', c', ls[i], h1, List.getElem?_eq_getElem hl, h3, h4⟩
theorem LR.upto (h : LR w B A n c ls) {k : Nat} (hk : k ≤ n) : LR w B A k c (ls.take k) := by
  refine ⟨by rw [List.length_take, h.1]; omega, by have := h.2.1; omega, h.2.2.1, fun i l hl => h.2.2.2 i l ?_⟩
  rw [List.getElem?_take] at hl
  split at hl
  · exact hl
  · cases hl
theorem LR.cut (h : LR w B A n c ls) {k : Nat} (hk : k ≤ n) : LR w B (if c = k then A else A.map (·.add (k * 1))) (n - k) (c - k) (ls.drop k) := by
  refine ⟨by rw [List.length_drop, h.1], by have := h.2.1; omega, by have := h.2.2.1; omega, fun i l hl => ?_⟩
  rw [List.getElem?_drop] at hl
  have hlt := (List.getElem?_eq_some_iff.1 hl).1
  rw [h.1] at hlt
  obtain ⟨g, off, A', n', c', rfl, h2, h3, h4⟩ := h.2.2.2 (k + i) l hl
  have hc : ¬ c = k := by have := h.2.1; omega
  exact ⟨g, off + k, A', n', c', by rw [if_neg hc]; simp [Addr.add_lit], h2, by rw [Nat.add_assoc]; exact h3, h4⟩
theorem LR.of_seg {e : TypeId} {cells : List Value} {G : Option Nat} (h : Seg w e 1 A n c cells G) (hc : LC w B cells ls) (hB : B ≤ w.heap.size) : LR w w.heap.size A n c ls := by
  have h1 := h.1
  have h2 := hc.1
  refine ⟨by omega, h.2.1, h.2.2.1, fun i l hl => ?_⟩
  obtain ⟨A', n', c', k1, k2⟩ := hc.2 i l hl
  obtain ⟨g, off, e1, e2, e3⟩ := h.at_ k1
  exact ⟨g, off, A', n', c', e1, h.lt g e2, e3, k2.more hB⟩
end

theorem Try.infoS : (Try.prog.info? 30).map (fun i => (i.zero, i.size, i.bytes)) = some (some (.slice none 0 0), 1, 24) := by kernel_rfl
theorem infoS_hid : ∃ i0, Hid (Try.prog.info? 30 = some i0) ∧ Hid (i0.zero = some (.slice none 0 0)) ∧ Hid (i0.size = 1) ∧ Hid (i0.bytes = 24) := by
  obtain ⟨i0, hi0, hz0, hz1, hz2⟩ := info_parts Try.infoS
  exact ⟨i0, hi0, hz0, hz1, hz2⟩
theorem one_slice (A : Option Addr) (n c : Nat) : ∀ u ∈ [Value.slice A n c], u.oneCell' = true := by
  intro u hu
  simp only [List.mem_singleton] at hu
  subst hu
  rfl

/-- A call gave slices of bytes, and a number, back. -/
def APost (w : World) (bs : List UInt8) (e : Ending) (w' : World) : Prop :=
  ∃ A n c, e = .returned (.tuple #[.slice A n c, .int .i64 (aN bs : Int)]) ∧ LR w' w'.heap.size A n c (aC bs) ∧ Below w.heap.size w w'

/-- Where the loop over frames stands: t bytes are behind it, ls was found. -/
structure AllI (w : World) (B : Nat) (bs : List UInt8) (n : Nat) (A1 : Option Addr) (c1 : Nat) (t : Nat) (A' : Option Addr) (n' c' : Nat) (wr : World) : Prop where
  tn : t ≤ n
  ex : ∃ (G' : Option Nat) (cells : List Value) (ls : List (List UInt8)), Seg wr 30 1 A' n' c' cells G' ∧ (∀ g, G' = some g → B ≤ g) ∧ LC wr B cells ls ∧ aC bs = ls ++ aC (bs.drop t)
  an : aN bs = t + aN (bs.drop t)
  nt : n' ≤ t
  br : BR wr B A1 n c1 bs
  bl : Below w.heap.size w wr
  sz : B ≤ wr.heap.size
/-- The same, and the slice of slices is one of the call's own. -/
def APostO (w : World) (bs : List UInt8) (e : Ending) (w' : World) : Prop :=
  ∃ A n c cells G B, e = .returned (.tuple #[.slice A n c, .int .i64 (aN bs : Int)]) ∧ Seg w' 30 1 A n c cells G ∧ LC w' B cells (aC bs) ∧ (∀ g, G = some g → B ≤ g) ∧ w.heap.size ≤ B ∧ B ≤ w'.heap.size ∧ Below w.heap.size w w'
theorem APostO.toA {w : World} {bs : List UInt8} {e : Ending} {w' : World} (h : APostO w bs e w') : APost w bs e w' := by
  obtain ⟨A, n, c, cells, G, B, h1, h2, h3, _, _, h6, h7⟩ := h
  exact ⟨A, n, c, h1, LR.of_seg h2 h3 h6, h7⟩
theorem AllI.stop {w : World} {B : Nat} {bs : List UInt8} {n : Nat} {A1 : Option Addr} {c1 t : Nat} {A' : Option Addr} {n' c' : Nat} {wr w' : World} (h : AllI w B bs n A1 c1 t A' n' c' wr) (h0 : ¬ fE (bs.drop t) = 0) (hb : Below wr.heap.size wr w') (hw : w.heap.size ≤ B) : APostO w bs (.returned (.tuple #[.slice A' n' c', .int .i64 (t : Int)])) w' := by
  obtain ⟨G', cells, ls, h1, h2, h3, h4⟩ := h.ex
  obtain ⟨e1, e2⟩ := aC_no h0
  have ha := h.an
  rw [e2, Nat.add_zero] at ha
  rw [e1, List.append_nil] at h4
  have hsz := h.sz
  refine ⟨A', n', c', cells, G', B, by rw [ha], h1.below hb (Nat.le_refl _), ?_, h2, hw, Nat.le_trans hsz hb.size, h.bl.trans (hb.mono h.bl.size)⟩
  rw [h4]
  exact h3.keep fun g hg => hb.block g (by omega)

theorem AllI.next {w : World} {B : Nat} {bs : List UInt8} {n : Nat} {A1 : Option Addr} {c1 t : Nat} {A' : Option Addr} {n' c' : Nat} {wr w3 w4 : World} (h : AllI w B bs n A1 c1 t A' n' c' wr) (hn : bs.length = n) (h0 : fE (bs.drop t) = 0) (hbl : Below wr.heap.size wr w3)
    {A3 : Option Addr} {n3 c3 : Nat} (hb3 : BR w3 B A3 n3 c3 (fC (bs.drop t))) {o : Obj} {G' G4 : Option Nat} {cells : List Value} {ls : List (List UInt8)} (hG : ∀ g, G' = some g → B ≤ g) (hc : LC wr B cells ls) (ha : aC bs = ls ++ aC (bs.drop t))
    {A4 : Option Addr} {c4 : Nat} (hs : Seg w4 30 1 A4 (n' + 1) c4 (cells ++ [.slice A3 n3 c3]) G4) (hg : (w3.alloc o).grownBy w4 G') (hm : Moved (w3.alloc o) G' G4) (hw : w.heap.size ≤ B) : AllI w B bs n A1 c1 (t + fK (bs.drop t)) A4 (n' + 1) c4 w4 ∧ t < t + fK (bs.drop t) ∧ t + fK (bs.drop t) ≤ n := by
  obtain ⟨e1, e2⟩ := aC_yes h0
  have hk := fK_ok h0
  have hz := fE_zero h0
  have hle := fK_le (bs.drop t)
  rw [List.length_drop] at hle
  have htn := h.tn
  have hsz : B ≤ w3.heap.size := Nat.le_trans h.sz hbl.size
  have hk3 : ∀ g, g < B → w4.heap[g]? = w3.heap[g]? := fun g hgB => by
    have hlt : g < w3.heap.size := by omega
    rw [hg.block g (by simp; omega) (fun e => by have := hG g e.symm; omega)]
    exact Below.heap_alloc w3 o g hlt
  have hkr : ∀ g, g < B → w4.heap[g]? = wr.heap[g]? := fun g hgB => (hk3 g hgB).trans (hbl.block g (Nat.lt_of_lt_of_le hgB h.sz))
  refine ⟨⟨by omega, ⟨G4, _, ls ++ [fC (bs.drop t)], hs, hm.ge (by simp; omega) hG, (hc.keep hkr).snoc (hb3.keep hk3), ?_⟩, ?_, ?_, h.br.keep hkr, ?_, ?_⟩, by omega, by omega⟩
  · rw [ha, e1, List.drop_drop, List.append_assoc]; rfl
  · rw [h.an, e2, List.drop_drop]; omega
  · have := h.nt; omega
  · refine (h.bl.trans (hbl.mono h.bl.size)).trans ⟨hg.os, hg.tape, hg.output, Nat.le_trans (by simp) hg.size, fun i hi => hk3 i (by omega)⟩
  · exact Nat.le_trans hsz (Nat.le_trans (by simp) hg.size)

set_option maxRecDepth 100000 in
set_option maxHeartbeats 1000000 in
theorem all_o (A : Option Addr) (n c : Nat) (bs : List UInt8) (w : World) (hb : BR w w.heap.size A n c bs) (hn : n ≤ 1000000) :
    Calls Try.prog 71 #[.slice A n c] w (APostO w bs) := by
  obtain ⟨i0, Hi, Hz, Hz1, Hz2⟩ := infoS_hid
  have hlen := Lib.hid hb.1
  have p4 : 0 < 1 := by omega
  go_enter Try.func71, Try.ntmps71
  go_wp2_with fail
  go_step3
  go_wp2_with fail
  refine (clone_c _ A n c bs w hb hn).mono ?_
  rintro e w1 ⟨A1, n1, c1, G1, rfl, hs1, hg1, hm1⟩
  obtain rfl : n1 = n := by have := hs1.1; rw [bc_length, hlen.out] at this; omega
  have HI : AllI w w1.heap.size bs n1 A1 c1 0 none 0 0 w1 :=
    ⟨Nat.zero_le _, ⟨none, [], [], Seg.nil _ _ _, fun g e => (by cases e), LC.nil _ _, rfl⟩, (by rw [Nat.zero_add]; rfl), Nat.le_refl _, BR.of_seg hs1, grown_below hg1 (Nat.le_refl _) (fun g e => by cases e), Nat.le_refl _⟩
  have hw01 : w.heap.size ≤ w1.heap.size := hg1.size
  clear hs1 hg1 hm1 hb
  go_wp2_with fail
  go_step3
  go_wp2_with fail
  go_loopw [5, 6] (fun cs tt wr => ∃ (t : Nat) (A' : Option Addr) (n' c' : Nat), tt = .int .i64 t ∧ cs = .slice A' n' c' ∧ AllI w w1.heap.size bs n1 A1 c1 t A' n' c' wr) (fun _ tt _ => n1 - (intOf tt).toNat)
  case atStart => exact ⟨0, none, 0, 0, rfl, rfl, HI⟩
  case round =>
    clear HI
    obtain ⟨t, A', n', c', rfl, rfl, HI⟩ := hrel
    have htn := HI.tn
    have hnt := HI.nt
    obtain ⟨A2, c2, hcut2, hb2⟩ := cut_from HI.br t t rfl htn
    go_wp2_with fail
    refine (cut_c w1.heap.size A2 (n1 - t) c2 (bs.drop t) wr hb2).mono ?_
    rintro e w3 ⟨A3, n3, c3, rfl, hb3, hbl3⟩
    by_cases h0 : fE (bs.drop t) = 0
    case neg =>
      have H := Lib.hid (HI.stop h0 hbl3 hw01)
      have h0' : ((fE (bs.drop t) : Int) == 0) = false := by rw [beq_eq_false_iff_ne]; omega
      generalize fE (bs.drop t) = E at *
      generalize fK (bs.drop t) = K at *
      clear HI hb3 hbl3 h0
      go_wp2_with fail
      try rw [Exit.noGoto_ret]
      go_ret2
      exact H.out
    case pos =>
      obtain ⟨G', cells, ls, hs', hG', hc', ha'⟩ := HI.ex
      have hs3 := hs'.below hbl3 (Nat.le_refl _)
      have HNX := Lib.hid (fun o G4 A4 c4 w4 => HI.next (w3 := w3) (w4 := w4) (o := o) (G4 := G4) (A4 := A4) (c4 := c4) hlen.out h0 hbl3 hb3 hG' hc' ha')
      rw [h0]
      obtain ⟨K, hK⟩ : ∃ K, fK (bs.drop t) = K := ⟨_, rfl⟩
      have hK7 : K ≤ 1000000 := by have := fK_le (bs.drop t); rw [List.length_drop, hK, hlen.out] at this; omega
      rw [hK] at HNX
      rw [hK]
      have p1 : n' + 1 ≤ maxLen := by simp only [maxLen]; omega
      have p2 : (n' + 1) * 24 ≤ 140737488355328 := by omega
      clear HI hb3 hbl3 h0 hK hs' hc' ha'
      go_wp2_with (at_builtin; refine wpList_append_src _ rfl (.tmp 23) (.tmp 25) _ rfl 30 i0 _ 1 24 Try.underlying57 Hi.out Hz.out Hz1.out Hz2.out rfl p4 rfl (hs3.alloc _) rfl (srcs w3 _ [.slice A3 n3 c3]) (one_slice _ _ _) p1 p2 ?_; intro A4 c4 G4 w4 hs4 hg4 hm4; have HI := Lib.hid (HNX.out _ _ _ _ _ hs4 hg4 hm4 hw01); clear hs4 hg4 hm4)
      go_roundw
      case rel => exact ⟨t + K, A4, n' + 1, c4, by go_num, rfl, HI.out.1⟩
      case measure => have := HI.out.2; simp [intOf]; omega

theorem all_c (A : Option Addr) (n c : Nat) (bs : List UInt8) (w : World) (hb : BR w w.heap.size A n c bs) (hn : n ≤ 1000000) :
    Calls Try.prog 71 #[.slice A n c] w (APost w bs) := (all_o A n c bs w hb hn).mono fun _ _ h => h.toA

end Go.Proofs.Ytcfdfimkgehdfaa.Dz

/-
  Slices of bytes, and slices of such, in memory: small facts that walks of laws want. No condition but those that each theorem names.
-/
namespace Go.Proofs.Ytcfdfimkgehdfaa.Dz
set_option maxRecDepth 100000
open Go.RowKit

theorem LR.max {w : World} {B : Nat} {A : Option Addr} {n c : Nat} {ls : List (List UInt8)} (h : LR w B A n c ls) : n ≤ 9223372036854775807 := by
  have h1 := h.2.1; have h2 := h.2.2.1; simp only [maxLen] at h2; omega

/-- The bytes of a constant, marked behind their last one. -/
theorem cellsU8 {w : World} {l : List UInt8} (t : TypeId) (vs : List Value) (fr : Nat × Nat) (n : Nat) (hn : l.length = n) (h : vs = bc l) (hm : n ≤ maxLen) : BR (w.alloc (.cells vs.toArray t fr)) (w.alloc (.cells vs.toArray t fr)).heap.size (some ⟨w.heap.size, 0, none⟩) n n l := by
  refine ⟨hn, Nat.le_refl _, hm, fun _ => ⟨w.heap.size, 0, rfl, by simp, fun i b hb => ?_⟩⟩
  have hg : (w.alloc (.cells vs.toArray t fr)).heap[w.heap.size]? = some (.cells vs.toArray t fr) := heap_alloc_new w _
  rw [Nat.zero_add, cell_of_row _ _ i _ t fr hg, h]
  unfold bc
  simp [hb]

theorem BR.on {w w' : World} {A : Option Addr} {n c : Nat} {bs : List UInt8} (h : BR w w.heap.size A n c bs) (hb : Below w.heap.size w w') : BR w' w'.heap.size A n c bs := (h.below hb (Nat.le_refl _)).more hb.size
theorem LR.on {w w' : World} {A : Option Addr} {n c : Nat} {ls : List (List UInt8)} (h : LR w w.heap.size A n c ls) (hb : Below w.heap.size w w') : LR w' w'.heap.size A n c ls := (h.below hb (Nat.le_refl _)).more hb.size

theorem Try.sizeS (w : World) : (sizeOf 30).run Try.prog w = .ok 1 w := by kernel_rfl
theorem lcut_from {w : World} {B : Nat} {A : Option Addr} {n c : Nat} {ls : List (List UInt8)} (h : LR w B A n c ls) (lo m : Nat) (x : Int) (hx : x = lo) (h2 : lo + m = n) :
    ∃ A1 c1, (∀ W, (Instr.slice 57 (.slice A n c) (some (.int .i64 x)) none none).run Try.prog W = .ok (.slice A1 m c1) W) ∧ LR w B A1 m c1 (ls.drop lo) := by
  subst hx
  have h3 := h.cut (k := lo) (by omega)
  have e : n - lo = m := by omega
  rw [e] at h3
  exact ⟨_, _, fun W => by rw [run_cut_from (P := Try.prog) 57 30 Try.underlying57 1 Try.sizeS A n c lo (by omega) W, e], h3⟩
theorem lcut_upto {w : World} {B : Nat} {A : Option Addr} {n c : Nat} {ls : List (List UInt8)} (h : LR w B A n c ls) (hi : Nat) (y : Int) (hy : y = hi) (h2 : hi ≤ n) :
    (∀ W, (Instr.slice 57 (.slice A n c) none (some (.int .i64 y)) none).run Try.prog W = .ok (.slice A hi c) W) ∧ LR w B A hi c (ls.take hi) := by
  have hnc := h.2.1
  subst hy
  exact ⟨fun W => run_cut_upto (P := Try.prog) 57 30 Try.underlying57 1 Try.sizeS A n c hi (by omega) W, h.upto h2⟩

theorem Seg.apart {w w' : World} {e e' : TypeId} {s s' : Nat} {A A' : Option Addr} {n n' c c' : Nat} {xs xs' : List Value} {G G' : Option Nat} (h : Seg w e s A n c xs G) (k : Seg w e' s' A' n' c' xs' G') (hne : e ≠ e') (hg : w.grownBy w' G') : Seg w' e s A n c xs G := by
  refine h.keep fun g hG => hg.block g (h.lt g hG) fun hg' => ?_
  rcases k.2.2.2 with ⟨_, _, hk⟩ | ⟨g', off, cur, _, hk, hb, _⟩
  · rw [hk] at hg'; cases hg'
  · rw [hk] at hg'
    cases hg'
    exact h.ne_ hb hne hG
end Go.Proofs.Ytcfdfimkgehdfaa.Dz
