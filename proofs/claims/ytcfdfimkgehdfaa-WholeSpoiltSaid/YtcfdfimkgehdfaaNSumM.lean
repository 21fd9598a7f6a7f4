/-
  Plain mathematics of layer 3 (sum): the check sum of bytes, their frame, the first frame of bytes and all of them, as lists. It speaks of no program. No condition.
-/
import Derived.Test.YtcfdfimkgehdfaaNBytM
namespace Go.Proofs.Ytcfdfimkgehdfaa.Dk
set_option maxRecDepth 100000

/-- One byte more: the two halves of the check sum. -/
def adS (p : Nat × Nat) (b : UInt8) : Nat × Nat := ((p.1 + b.toNat) % 65521, (p.2 + (p.1 + b.toNat) % 65521) % 65521)
def adl (l : List UInt8) : Nat × Nat := l.foldl adS (1, 0)
def sumB (l : List UInt8) : Nat := (adl l).2 * 65536 + (adl l).1
theorem adl_snoc (l : List UInt8) (b : UInt8) : adl (l ++ [b]) = adS (adl l) b := by simp [adl]
theorem adF_lt (l : List UInt8) : ∀ p : Nat × Nat, p.1 < 65521 → p.2 < 65521 → (l.foldl adS p).1 < 65521 ∧ (l.foldl adS p).2 < 65521 := by
  induction l with
  | nil => exact fun p h1 h2 => ⟨h1, h2⟩
  | cons b r ih => exact fun p _ _ => ih _ (Nat.mod_lt _ (by omega)) (Nat.mod_lt _ (by omega))
theorem adl_lt (l : List UInt8) : (adl l).1 < 65521 ∧ (adl l).2 < 65521 := adF_lt l (1, 0) (by omega) (by omega)
theorem sumB_lt (l : List UInt8) : sumB l < 4294967296 := by
  have := adl_lt l
  unfold sumB
  omega
theorem sumB_low (l : List UInt8) : sumB l % 65536 = (adl l).1 := by
  have := adl_lt l
  unfold sumB
  omega

/-- The sum of all bytes. -/
def tot (l : List UInt8) : Nat := l.foldr (fun b a => b.toNat + a) 0
theorem tot_append (l m : List UInt8) : tot (l ++ m) = tot l + tot m := by
  induction l with
  | nil => simp [tot]
  | cons b r ih =>
    have : tot (b :: (r ++ m)) = b.toNat + tot (r ++ m) := rfl
    rw [List.cons_append, this, ih]
    have : tot (b :: r) = b.toNat + tot r := rfl
    omega
theorem tot_cons (b : UInt8) (l : List UInt8) : tot (b :: l) = b.toNat + tot l := rfl
theorem adF_one (l : List UInt8) : ∀ p : Nat × Nat, p.1 < 65521 → (l.foldl adS p).1 = (p.1 + tot l) % 65521 := by
  induction l with
  | nil => intro p h; simp [tot, Nat.mod_eq_of_lt h]
  | cons b r ih =>
    intro p h
    rw [List.foldl_cons, ih _ (Nat.mod_lt _ (by omega)), tot_cons]
    show ((p.1 + b.toNat) % 65521 + tot r) % 65521 = _
    omega
theorem adl_one (l : List UInt8) : (adl l).1 = (1 + tot l) % 65521 := adF_one l (1, 0) (by omega)

theorem sumB_byte (a r : List UInt8) (x y : UInt8) (h : ¬ x = y) : ¬ sumB (a ++ x :: r) = sumB (a ++ y :: r) := by
  intro e
  have h1 := sumB_low (a ++ x :: r)
  rw [e, sumB_low, adl_one, adl_one, tot_append, tot_append, tot_cons, tot_cons] at h1
  have h2 := x.toNat_lt
  have h3 := y.toNat_lt
  exact h (UInt8.toNat_inj.1 (by omega))

theorem adF_two (l : List UInt8) : ∀ (x y z : Nat), ((l.foldl adS (x, y)).2 + z) % 65521 = ((l.foldl adS (x, z)).2 + y) % 65521 := by
  induction l with
  | nil => intro x y z; simp only [List.foldl_nil]; omega
  | cons b r ih =>
    intro x y z
    have := ih ((x + b.toNat) % 65521) ((y + (x + b.toNat) % 65521) % 65521) ((z + (x + b.toNat) % 65521) % 65521)
    rw [List.foldl_cons, List.foldl_cons]
    show ((r.foldl adS ((x + b.toNat) % 65521, (y + (x + b.toNat) % 65521) % 65521)).2 + z) % 65521 = ((r.foldl adS ((x + b.toNat) % 65521, (z + (x + b.toNat) % 65521) % 65521)).2 + y) % 65521
    omega

theorem sumB_swap (a r : List UInt8) (x y : UInt8) (h : ¬ x = y) : ¬ sumB (a ++ x :: y :: r) = sumB (a ++ y :: x :: r) := by
  intro e
  have e2 : (adl (a ++ x :: y :: r)).2 = (adl (a ++ y :: x :: r)).2 := by
    have h1 := adl_lt (a ++ x :: y :: r)
    have h2 := adl_lt (a ++ y :: x :: r)
    unfold sumB at e
    omega
  unfold adl at e2
  rw [List.foldl_append, List.foldl_append] at e2
  generalize ht : a.foldl adS (1, 0) = p at e2
  obtain ⟨p1, p2⟩ := p
  simp only [List.foldl_cons, adS] at e2
  have h3 := x.toNat_lt
  have h4 := y.toNat_lt
  have ex : ((p1 + x.toNat) % 65521 + y.toNat) % 65521 = ((p1 + y.toNat) % 65521 + x.toNat) % 65521 := by omega
  rw [ex] at e2
  generalize hX : ((p1 + y.toNat) % 65521 + x.toNat) % 65521 = X at e2
  have k := adF_two r X ((p2 + (p1 + x.toNat) % 65521) % 65521 + X) ((p2 + (p1 + y.toNat) % 65521) % 65521 + X)
  have k2 := adF_two r X (((p2 + (p1 + x.toNat) % 65521) % 65521 + X) % 65521) (((p2 + (p1 + y.toNat) % 65521) % 65521 + X) % 65521)
  rw [e2] at k2
  exact h (UInt8.toNat_inj.1 (by omega))

theorem sumB_zeros (l : List UInt8) : sumB ([0, 0, 0] ++ l) % 65536 = sumB l % 65536 := by
  rw [sumB_low, sumB_low, adl_one, adl_one, tot_append]
  have : tot [0, 0, 0] = 0 := rfl
  omega

/-- The frame of bytes. -/
def headB (l : List UInt8) : List UInt8 := 1 :: (num l.length 2 ++ l)
def frameB (l : List UInt8) : List UInt8 := headB l ++ num (sumB (headB l)) 4
theorem headB_length (l : List UInt8) : (headB l).length = l.length + 3 := by simp [headB, num_length]; omega
theorem frameB_length (l : List UInt8) : (frameB l).length = l.length + 7 := by simp [frameB, headB_length, num_length]

/-- What Frame answers. -/
def eF (l : List UInt8) : Nat := if 4000 < l.length then 3 else 0
def bF (l : List UInt8) : List UInt8 := if 4000 < l.length then [] else frameB l
theorem eF_big {l : List UInt8} (h : 4000 < l.length) : eF l = 3 ∧ bF l = [] := ⟨if_pos h, if_pos h⟩
theorem eF_ok {l : List UInt8} (h : ¬ 4000 < l.length) : eF l = 0 ∧ bF l = frameB l := ⟨if_neg h, if_neg h⟩

/-- What First answers. -/
def fN (b : List UInt8) : Nat := val ((b.drop 1).take 2)
def fE (b : List UInt8) : Nat :=
  if b.length = 0 then 7
  else if ¬ b[0]? = some 1 ∨ b.length < 3 then 4
  else if 4000 < fN b ∨ b.length < fN b + 7 then 4
  else if ¬ val ((b.drop (fN b + 3)).take 4) = sumB (b.take (fN b + 3)) then 5
  else 0
def fC (b : List UInt8) : List UInt8 := if fE b = 0 then (b.drop 3).take (fN b) else []
def fK (b : List UInt8) : Nat := if fE b = 0 then fN b + 7 else 0

theorem fE_none {b : List UInt8} (h : b.length = 0) : fE b = 7 := if_pos h
theorem fE_form1 {b : List UInt8} (h : ¬ b.length = 0) (h1 : ¬ b[0]? = some 1 ∨ b.length < 3) : fE b = 4 := by unfold fE; rw [if_neg h, if_pos h1]
theorem fE_form2 {b : List UInt8} (h : ¬ b.length = 0) (h1 : ¬ (¬ b[0]? = some 1 ∨ b.length < 3)) (h2 : 4000 < fN b ∨ b.length < fN b + 7) : fE b = 4 := by unfold fE; rw [if_neg h, if_neg h1, if_pos h2]
theorem fE_sum {b : List UInt8} (h : ¬ b.length = 0) (h1 : ¬ (¬ b[0]? = some 1 ∨ b.length < 3)) (h2 : ¬ (4000 < fN b ∨ b.length < fN b + 7)) (h3 : ¬ val ((b.drop (fN b + 3)).take 4) = sumB (b.take (fN b + 3))) : fE b = 5 := by unfold fE; rw [if_neg h, if_neg h1, if_neg h2, if_pos h3]
theorem fE_ok {b : List UInt8} (h : ¬ b.length = 0) (h1 : ¬ (¬ b[0]? = some 1 ∨ b.length < 3)) (h2 : ¬ (4000 < fN b ∨ b.length < fN b + 7)) (h3 : val ((b.drop (fN b + 3)).take 4) = sumB (b.take (fN b + 3))) : fE b = 0 := by unfold fE; rw [if_neg h, if_neg h1, if_neg h2, if_neg (not_not_intro h3)]
theorem fE_zero {b : List UInt8} (h : fE b = 0) : 3 ≤ b.length ∧ b[0]? = some 1 ∧ fN b ≤ 4000 ∧ fN b + 7 ≤ b.length ∧ val ((b.drop (fN b + 3)).take 4) = sumB (b.take (fN b + 3)) := by
  unfold fE at h
  split at h
  · omega
  · split at h
    · omega
    · split at h
      · omega
      · split at h
        · omega
        · rename_i h1 h2 h3 h4
          simp only [Classical.not_not] at h4
          refine ⟨by omega, ?_, by omega, by omega, h4⟩
          exact Classical.byContradiction fun hc => h2 (.inl hc)
theorem fC_bad {b : List UInt8} (h : ¬ fE b = 0) : fC b = [] := if_neg h
theorem fK_bad {b : List UInt8} (h : ¬ fE b = 0) : fK b = 0 := if_neg h
theorem fC_ok {b : List UInt8} (h : fE b = 0) : fC b = (b.drop 3).take (fN b) := if_pos h
theorem fK_ok {b : List UInt8} (h : fE b = 0) : fK b = fN b + 7 := if_pos h
theorem fK_le (b : List UInt8) : fK b ≤ b.length := by
  unfold fK
  split
  · rename_i h; have := fE_zero h; omega
  · omega
theorem fC_length_le (b : List UInt8) : (fC b).length ≤ 4000 := by
  unfold fC
  split
  · rename_i h; have := fE_zero h; rw [List.length_take]; omega
  · simp

theorem frame_head (l r : List UInt8) (hl : l.length ≤ 4000) : fN (frameB l ++ r) = l.length ∧ (frameB l ++ r)[0]? = some 1 := by
  refine ⟨?_, rfl⟩
  have : ((frameB l ++ r).drop 1).take 2 = num l.length 2 := by
    unfold frameB headB
    simp only [List.cons_append, List.drop_succ_cons, List.drop_zero, List.append_assoc]
    exact List.take_left' (num_length _ _)
  unfold fN
  rw [this, val_num]
  omega
theorem frame_take (l r : List UInt8) : (frameB l ++ r).take (l.length + 3) = headB l := by
  unfold frameB
  rw [List.append_assoc]
  exact List.take_left' (headB_length l)
theorem frame_drop (l r : List UInt8) : (frameB l ++ r).drop (l.length + 3) = num (sumB (headB l)) 4 ++ r := by
  unfold frameB
  rw [List.append_assoc]
  exact List.drop_left' (headB_length l)
theorem val_sum (l : List UInt8) : val (num (sumB l) 4) = sumB l := by
  rw [val_num]
  have := sumB_lt l
  omega
theorem frame_first (l r : List UInt8) (hl : l.length ≤ 4000) : fE (frameB l ++ r) = 0 ∧ fC (frameB l ++ r) = l ∧ fK (frameB l ++ r) = l.length + 7 := by
  obtain ⟨h1, h2⟩ := frame_head l r hl
  have hlen : (frameB l ++ r).length = l.length + 7 + r.length := by rw [List.length_append, frameB_length]
  have h0 : fE (frameB l ++ r) = 0 := by
    refine fE_ok (by omega) (fun hc => hc.elim (fun k => k h2) (fun k => by omega)) (by rw [h1]; omega) ?_
    rw [h1, frame_take, frame_drop, List.take_left' (num_length _ _), val_sum]
  refine ⟨h0, ?_, by rw [fK_ok h0, h1]⟩
  rw [fC_ok h0, h1]
  unfold frameB headB
  rw [List.cons_append, List.cons_append, List.append_assoc, List.append_assoc, List.drop_succ_cons, List.drop_left' (num_length _ _)]
  exact List.take_left' rfl

theorem split3 (b : List UInt8) (n : Nat) (h0 : b[0]? = some 1) (hn : n + 7 ≤ b.length) : b = (1 :: ((b.drop 1).take 2 ++ (b.drop 3).take n)) ++ (b.drop (n + 3)).take 4 ++ b.drop (n + 7) := by
  match b, h0 with
  | x :: r, h0 =>
    simp at h0
    subst h0
    simp only [List.drop_succ_cons, List.drop_zero]
    rw [List.cons_append, List.cons_append]
    congr 1
    have e1 : r = r.take 2 ++ r.drop 2 := (List.take_append_drop 2 r).symm
    have e2 : r.drop 2 = (r.drop 2).take n ++ (r.drop 2).drop n := (List.take_append_drop n _).symm
    have e3 : r.drop (n + 2) = (r.drop (n + 2)).take 4 ++ (r.drop (n + 2)).drop 4 := (List.take_append_drop 4 _).symm
    have e4 : (r.drop 2).drop n = r.drop (n + 2) := by rw [List.drop_drop, Nat.add_comm]
    have e5 : (r.drop (n + 2)).drop 4 = r.drop (n + 6) := by rw [List.drop_drop]
    rw [List.append_assoc, List.append_assoc]
    conv => lhs; rw [e1, e2, e4, e3, e5]

theorem first_frame {b : List UInt8} (h : fE b = 0) : b.take (fN b + 7) = frameB (fC b) ∧ (fC b).length = fN b := by
  obtain ⟨h1, h2, h3, h4, h5⟩ := fE_zero h
  have hs := split3 b (fN b) h2 h4
  have hc := fC_ok h
  have hl : (fC b).length = fN b := by rw [hc, List.length_take, List.length_drop]; omega
  have hh : headB (fC b) = 1 :: ((b.drop 1).take 2 ++ (b.drop 3).take (fN b)) := by
    unfold headB
    rw [hl, hc]
    congr 2
    have : ((b.drop 1).take 2).length = 2 := by rw [List.length_take, List.length_drop]; omega
    conv => rhs; rw [← num_val ((b.drop 1).take 2), this]
    rfl
  generalize fN b = n at *
  have h4' : ((b.drop (n + 3)).take 4).length = 4 := by rw [List.length_take, List.length_drop]; omega
  have ht : b.take (n + 3) = headB (fC b) := by
    rw [hh]
    conv => lhs; rw [hs, List.append_assoc]
    refine List.take_left' ?_
    rw [← hh, headB_length, hl]
  have hv : num (val ((b.drop (n + 3)).take 4)) 4 = (b.drop (n + 3)).take 4 := by
    have := num_val ((b.drop (n + 3)).take 4)
    rwa [h4'] at this
  refine ⟨?_, hl⟩
  unfold frameB
  rw [← ht, ← h5, hv, show n + 7 = (n + 3) + 4 by omega, List.take_add]

theorem first_short (l r : List UInt8) (hl : l.length ≤ 4000) (j : Nat) (hj : j < l.length + 7) : ¬ fE ((frameB l ++ r).take j) = 0 := by
  intro h
  obtain ⟨h1, h2, h3, h4, h5⟩ := fE_zero h
  have hjl : ((frameB l ++ r).take j).length = j := by rw [List.length_take, List.length_append, frameB_length]; omega
  have : fN ((frameB l ++ r).take j) = l.length := by
    rw [← (frame_head l r hl).1]
    unfold fN
    rw [List.drop_take, List.take_take, Nat.min_eq_left (by omega)]
  omega

/-- What All answers. -/
def aF : Nat → List UInt8 → List (List UInt8)
  | 0, _ => []
  | f + 1, b => if fE b = 0 then fC b :: aF f (b.drop (fK b)) else []
def nF : Nat → List UInt8 → Nat
  | 0, _ => 0
  | f + 1, b => if fE b = 0 then fK b + nF f (b.drop (fK b)) else 0
def aC (b : List UInt8) : List (List UInt8) := aF (b.length + 1) b
def aN (b : List UInt8) : Nat := nF (b.length + 1) b
theorem aF_more : ∀ (f g : Nat) (b : List UInt8), b.length < f → b.length < g → aF f b = aF g b
  | 0, _, _, h, _ => absurd h (Nat.not_lt_zero _)
  | _ + 1, 0, _, _, h => absurd h (Nat.not_lt_zero _)
  | f + 1, g + 1, b, h1, h2 => by
    rw [aF, aF]
    split
    · rename_i h
      have := fE_zero h
      have := fK_ok h
      rw [aF_more f g _ (by rw [List.length_drop]; omega) (by rw [List.length_drop]; omega)]
    · rfl
theorem nF_more : ∀ (f g : Nat) (b : List UInt8), b.length < f → b.length < g → nF f b = nF g b
  | 0, _, _, h, _ => absurd h (Nat.not_lt_zero _)
  | _ + 1, 0, _, _, h => absurd h (Nat.not_lt_zero _)
  | f + 1, g + 1, b, h1, h2 => by
    rw [nF, nF]
    split
    · rename_i h
      have := fE_zero h
      have := fK_ok h
      rw [nF_more f g _ (by rw [List.length_drop]; omega) (by rw [List.length_drop]; omega)]
    · rfl
theorem aC_no {b : List UInt8} (h : ¬ fE b = 0) : aC b = [] ∧ aN b = 0 := by
  unfold aC aN
  rw [aF, nF, if_neg h, if_neg h]
  exact ⟨rfl, rfl⟩
theorem aC_yes {b : List UInt8} (h : fE b = 0) : aC b = fC b :: aC (b.drop (fK b)) ∧ aN b = fK b + aN (b.drop (fK b)) := by
  have := fE_zero h
  have := fK_ok h
  unfold aC aN
  rw [aF, nF, if_pos h, if_pos h, aF_more b.length ((b.drop (fK b)).length + 1) _ (by rw [List.length_drop]; omega) (by omega), nF_more b.length ((b.drop (fK b)).length + 1) _ (by rw [List.length_drop]; omega) (by omega)]
  exact ⟨rfl, rfl⟩
theorem aN_le : ∀ (n : Nat) (b : List UInt8), b.length ≤ n → aN b ≤ b.length ∧ (aC b).length ≤ b.length
  | 0, b, h => by
    have := fE_none (b := b) (by omega)
    obtain ⟨h1, h2⟩ := aC_no (b := b) (by omega)
    rw [h1, h2]; simp
  | n + 1, b, h => by
    by_cases h0 : fE b = 0
    · have := fE_zero h0
      have hk := fK_ok h0
      obtain ⟨h1, h2⟩ := aC_yes h0
      have ih := aN_le n (b.drop (fK b)) (by rw [List.length_drop]; omega)
      rw [List.length_drop] at ih
      rw [h1, h2, List.length_cons]
      omega
    · obtain ⟨h1, h2⟩ := aC_no h0
      rw [h1, h2]; simp

/-- Frames one behind the other. -/
def frs (ls : List (List UInt8)) : List UInt8 := ls.flatMap frameB
theorem frs_cons (l : List UInt8) (ls : List (List UInt8)) : frs (l :: ls) = frameB l ++ frs ls := rfl
theorem frs_snoc (ls : List (List UInt8)) (l : List UInt8) : frs (ls ++ [l]) = frs ls ++ frameB l := by simp [frs]
theorem frs_append (ls ms : List (List UInt8)) : frs (ls ++ ms) = frs ls ++ frs ms := by simp [frs]
theorem aC_frs : ∀ (ls : List (List UInt8)) (r : List UInt8), (∀ l ∈ ls, l.length ≤ 4000) → aC (frs ls ++ r) = ls ++ aC r ∧ aN (frs ls ++ r) = (frs ls).length + aN r
  | [], r, _ => by simp [frs]
  | l :: ls, r, h => by
    obtain ⟨h1, h2, h3⟩ := frame_first l (frs ls ++ r) (h l (by simp))
    obtain ⟨k1, k2⟩ := aC_frs ls r (fun x hx => h x (by simp [hx]))
    rw [frs_cons, List.append_assoc]
    obtain ⟨e1, e2⟩ := aC_yes h1
    have hd : (frameB l ++ (frs ls ++ r)).drop (fK (frameB l ++ (frs ls ++ r))) = frs ls ++ r := by rw [h3]; exact List.drop_left' (frameB_length l)
    rw [e1, e2, hd, h2, h3, k1, k2, List.length_append, frameB_length]
    exact ⟨rfl, by omega⟩

/-- How many of the frames are whole in the first k bytes. -/
def wh (k : Nat) : List (List UInt8) → Nat
  | [] => 0
  | l :: ls => if l.length + 7 ≤ k then wh (k - (l.length + 7)) ls + 1 else 0
theorem wh_le (ls : List (List UInt8)) : ∀ k, wh k ls ≤ ls.length := by
  induction ls with
  | nil => intro k; simp [wh]
  | cons l ls ih =>
    intro k
    rw [wh]
    split
    · have := ih (k - (l.length + 7)); simp; omega
    · simp
theorem wh_iff (ls : List (List UInt8)) : ∀ (k j : Nat), j ≤ ls.length → ((frs (ls.take j)).length ≤ k ↔ j ≤ wh k ls) := by
  induction ls with
  | nil => intro k j h; simp at h; subst h; simp [wh, frs]
  | cons l ls ih =>
    intro k j h
    match j, h with
    | 0, _ => simp [frs]
    | j + 1, h =>
      rw [List.take_succ_cons, frs_cons, List.length_append, frameB_length, wh]
      have := ih (k - (l.length + 7)) j (by simpa using h)
      split <;> omega
theorem aC_cut (ls : List (List UInt8)) : ∀ k, (∀ l ∈ ls, l.length ≤ 4000) → aC ((frs ls).take k) = ls.take (wh k ls) ∧ aN ((frs ls).take k) = (frs (ls.take (wh k ls))).length := by
  induction ls with
  | nil => intro k _; simp [wh, frs]; exact aC_no (by decide)
  | cons l ls ih =>
    intro k h
    have hl := h l (by simp)
    rw [frs_cons, wh]
    split
    · rename_i hk
      obtain ⟨k1, k2⟩ := ih (k - (l.length + 7)) (fun x hx => h x (by simp [hx]))
      rw [List.take_append, frameB_length, List.take_of_length_le (by rw [frameB_length]; exact hk)]
      obtain ⟨h1, h2, h3⟩ := frame_first l ((frs ls).take (k - (l.length + 7))) hl
      obtain ⟨e1, e2⟩ := aC_yes h1
      rw [e1, e2, h2, h3, List.drop_left' (frameB_length l), k1, k2, List.take_succ_cons, frs_cons, List.length_append, frameB_length]
      exact ⟨rfl, rfl⟩
    · rename_i hk
      obtain ⟨h1, h2⟩ := aC_no (first_short l (frs ls) hl k (by omega))
      rw [h1, h2]
      simp [frs]

theorem val_inj {l m : List UInt8} (hl : l.length = m.length) (h : val l = val m) : l = m := by rw [← num_val l, ← num_val m, h, hl]

theorem set_split (l : List UInt8) (j : Nat) (x y : UInt8) (h : l[j]? = some x) : l = l.take j ++ x :: l.drop (j + 1) ∧ l.set j y = l.take j ++ y :: l.drop (j + 1) := by
  obtain ⟨h1, rfl⟩ := List.getElem?_eq_some_iff.1 h
  refine ⟨?_, List.set_eq_take_append_cons_drop ▸ by rw [if_pos h1]⟩
  conv => lhs; rw [← List.take_append_drop j l, List.drop_eq_getElem_cons h1]

/-- A frame with one byte behind those of its size turned. -/
theorem frame_turned (l : List UInt8) (hl : l.length ≤ 4000) (j : Nat) (x y : UInt8) (hx : (frameB l)[j + 3]? = some x) (hne : ¬ x = y) : ¬ fE ((frameB l).set (j + 3) y) = 0 := by
  intro h
  obtain ⟨h1, h2, h3, h4, h5⟩ := fE_zero h
  have hN : fN ((frameB l).set (j + 3) y) = l.length := by
    have := (frame_head l [] hl).1
    rw [List.append_nil] at this
    rw [← this]
    unfold fN
    rw [List.drop_set, if_neg (by omega), List.take_set_of_le (by omega)]
  rw [hN] at h5
  have ht : (frameB l).take (l.length + 3) = headB l := by have := frame_take l []; rwa [List.append_nil] at this
  have hd : (frameB l).drop (l.length + 3) = num (sumB (headB l)) 4 := by have := frame_drop l []; rwa [List.append_nil, List.append_nil] at this
  have hjl : j + 3 < (frameB l).length := (List.getElem?_eq_some_iff.1 hx).1
  rw [frameB_length] at hjl
  by_cases hj : j < l.length
  · rw [List.drop_set, if_pos (by omega), hd, List.take_of_length_le (by rw [num_length]; exact Nat.le_refl _), val_sum, List.take_set, ht] at h5
    have hx2 : (headB l)[j + 3]? = some x := by rw [← ht, List.getElem?_take, if_pos (by omega)]; exact hx
    obtain ⟨s1, s2⟩ := set_split (headB l) (j + 3) x y hx2
    rw [s2] at h5
    conv at h5 => lhs; rw [s1]
    exact sumB_byte _ _ x y hne h5
  · rw [List.take_set_of_le (by omega), ht, ← val_sum (headB l), List.drop_set, if_neg (by omega), hd] at h5
    rw [List.take_of_length_le (by rw [List.length_set, num_length]; exact Nat.le_refl _)] at h5
    have := val_inj (by rw [List.length_set]) h5
    have hx2 : (num (sumB (headB l)) 4)[j + 3 - (l.length + 3)]? = some x := by rw [← hd, List.getElem?_drop, show l.length + 3 + (j + 3 - (l.length + 3)) = j + 3 by omega]; exact hx
    have hlt := (List.getElem?_eq_some_iff.1 hx2).1
    have h6 := congrArg (fun q => q[j + 3 - (l.length + 3)]?) this
    simp only [List.getElem?_set_self hlt, hx2] at h6
    exact hne (Option.some.inj h6).symm
end Go.Proofs.Ytcfdfimkgehdfaa.Dk
