/-
  Plain mathematics of layer 2 (code): the bytes of values of a shape, and the values of bytes, as lists. It speaks of no program. No condition.
-/
import Derived.Below
import Derived.Test.YtcfdfimkgehdfaaNBytM
namespace Go.Proofs.Ytcfdfimkgehdfaa.Dk
set_option maxRecDepth 100000

/-- A value: a number and a string. -/
structure CV where
  n : Nat
  s : ByteArray

theorem CV.ext_ {v u : CV} (h1 : v.n = u.n) (h2 : v.s = u.s) : v = u := by cases v; cases u; simp_all

def wd (c : UInt8) : Nat := if c = 97 then 1 else if c = 98 then 2 else if c = 116 then 2 else if c = 99 then 4 else if c = 100 then 8 else 0
def wrf (c : UInt8) : Nat := if c = 116 then 0 else wd c
theorem wd_le (c : UInt8) : wd c ≤ 8 := by unfold wd; (repeat' split) <;> omega
theorem wd_t : wd 116 = 2 := by decide
theorem wr_le (c : UInt8) : wrf c ≤ 8 := by unfold wrf; split; omega; exact wd_le c

/-- Does a value fit a letter? -/
def fitB (c : UInt8) (v : CV) : Bool := if c = 116 then v.n == 0 && decide (v.s.size ≤ 2000) else v.s.size == 0 && decide (v.n < 256 ^ wd c)
def encV (c : UInt8) (v : CV) : List UInt8 := if c = 116 then num v.s.size 2 ++ bl v.s else num v.n (wd c)
def enc : List UInt8 → List CV → List UInt8
  | c :: cs, v :: vs => encV c v ++ enc cs vs
  | _, _ => []
def fitsB : List UInt8 → List CV → Bool
  | c :: cs, v :: vs => fitB c v && fitsB cs vs
  | _, _ => true
def letB (c : UInt8) : Bool := wd c != 0
def properB (sh : List UInt8) : Bool := decide (sh.length ≤ 100) && sh.all letB
def okE (sh : List UInt8) (l : List CV) : Bool := properB sh && (l.length == sh.length) && fitsB sh l
def eE (sh : List UInt8) (l : List CV) : Nat := if okE sh l then (if 4000 < (enc sh l).length then 3 else 0) else 2
def bE (sh : List UInt8) (l : List CV) : List UInt8 := if eE sh l = 0 then enc sh l else []

/-- One value off the front of bytes. -/
def decV (c : UInt8) (b : List UInt8) : Option (CV × List UInt8) :=
  if c = 116 then
    if b.length < 2 then none
    else if 2000 < val (b.take 2) then none
    else if (b.drop 2).length < val (b.take 2) then none
    else some (⟨0, mkS ((b.drop 2).take (val (b.take 2)))⟩, (b.drop 2).drop (val (b.take 2)))
  else if b.length < wd c then none
  else some (⟨val (b.take (wd c)), mkS []⟩, b.drop (wd c))
def decs : List UInt8 → List UInt8 → Option (List CV × List UInt8)
  | [], b => some ([], b)
  | c :: cs, b =>
    match decV c b with
    | none => none
    | some (v, r) =>
      match decs cs r with
      | none => none
      | some (l, r') => some (v :: l, r')
def okD (sh b : List UInt8) : Option (List CV) :=
  if b.length ≤ 4000 then
    match decs sh b with
    | some (l, []) => some l
    | _ => none
  else none
def eD (sh b : List UInt8) : Nat := if properB sh then (if (okD sh b).isSome then 0 else 4) else 2
def lD (sh b : List UInt8) : List CV := if properB sh then (okD sh b).getD [] else []

theorem decV_enc (c : UInt8) (v : CV) (r : List UInt8) (h : fitB c v = true) : decV c (encV c v ++ r) = some (v, r) := by
  unfold decV encV
  unfold fitB at h
  by_cases hc : c = 116
  · simp only [if_pos hc, Bool.and_eq_true, beq_iff_eq, decide_eq_true_eq] at h ⊢
    have hl : (num v.s.size 2).length = 2 := num_length _ _
    have h1 : (num v.s.size 2 ++ bl v.s ++ r).take 2 = num v.s.size 2 := by rw [List.append_assoc, List.take_left' hl]
    have h2 : (num v.s.size 2 ++ bl v.s ++ r).drop 2 = bl v.s ++ r := by rw [List.append_assoc, List.drop_left' hl]
    have h3 : val (num v.s.size 2) = v.s.size := by rw [val_num]; exact Nat.mod_eq_of_lt (by omega)
    rw [h1, h2, h3, if_neg (by simp [hl]), if_neg (by omega), if_neg (by simp [bl_length])]
    rw [List.take_left' (bl_length _), List.drop_left' (bl_length _), mkS_bl]
    rw [← h.1]
  · simp only [if_neg hc, Bool.and_eq_true, beq_iff_eq, decide_eq_true_eq] at h ⊢
    have hl : (num v.n (wd c)).length = wd c := num_length _ _
    rw [if_neg (by simp [hl]), List.take_left' hl, List.drop_left' hl, val_num, Nat.mod_eq_of_lt h.2]
    congr 2
    exact CV.ext_ rfl (bl_inj (by rw [bl_mkS]; exact (List.eq_nil_of_length_eq_zero (by rw [bl_length]; exact h.1)).symm))

theorem enc_decV (c : UInt8) (b : List UInt8) (v : CV) (r : List UInt8) (h : decV c b = some (v, r)) : b = encV c v ++ r ∧ fitB c v = true := by
  unfold decV at h
  by_cases hc : c = 116
  · simp only [if_pos hc] at h
    split at h
    · cases h
    · split at h
      · cases h
      · split at h
        · cases h
        · rename_i h1 h2 h3
          simp only [Option.some.injEq, Prod.mk.injEq] at h
          obtain ⟨rfl, rfl⟩ := h
          have hsz : (mkS (List.take (val (List.take 2 b)) (List.drop 2 b))).size = val (List.take 2 b) := by rw [mkS_size, List.length_take]; omega
          have h4 : num (val (b.take 2)) 2 = b.take 2 := by
            have := num_val (b.take 2)
            rwa [List.length_take, Nat.min_eq_left (by omega)] at this
          refine ⟨?_, ?_⟩
          · unfold encV
            rw [if_pos hc]
            simp only []
            rw [hsz, h4, bl_mkS, List.append_assoc, List.take_append_drop, List.take_append_drop]
          · unfold fitB
            rw [if_pos hc]
            simp only [hsz]
            simp
            omega
  · simp only [if_neg hc] at h
    split at h
    · cases h
    · rename_i h1
      simp only [Option.some.injEq, Prod.mk.injEq] at h
      obtain ⟨rfl, rfl⟩ := h
      have h4 : num (val (b.take (wd c))) (wd c) = b.take (wd c) := by
        have := num_val (b.take (wd c))
        rwa [List.length_take, Nat.min_eq_left (by omega)] at this
      have h5 : val (b.take (wd c)) < 256 ^ wd c := by
        have := val_lt (b.take (wd c))
        rwa [List.length_take, Nat.min_eq_left (by omega)] at this
      refine ⟨?_, ?_⟩
      · unfold encV
        rw [if_neg hc]
        simp only []
        rw [h4, List.take_append_drop]
      · unfold fitB
        rw [if_neg hc]
        simp [h5, mkS_size]

theorem decs_enc : ∀ (sh : List UInt8) (l : List CV) (r : List UInt8), l.length = sh.length → fitsB sh l = true → decs sh (enc sh l ++ r) = some (l, r)
  | [], [], r, _, _ => rfl
  | [], _ :: _, _, h, _ => by simp at h
  | _ :: _, [], _, h, _ => by simp at h
  | c :: cs, v :: vs, r, h, hf => by
    simp only [fitsB, Bool.and_eq_true] at hf
    simp only [enc, decs, List.append_assoc, decV_enc c v _ hf.1, decs_enc cs vs r (by simpa using h) hf.2]

theorem enc_decs : ∀ (sh b : List UInt8) (l : List CV) (r : List UInt8), decs sh b = some (l, r) → b = enc sh l ++ r ∧ l.length = sh.length ∧ fitsB sh l = true
  | [], b, l, r, h => by
    simp only [decs, Option.some.injEq, Prod.mk.injEq] at h
    obtain ⟨rfl, rfl⟩ := h
    simp [enc, fitsB]
  | c :: cs, b, l, r, h => by
    simp only [decs] at h
    split at h
    · cases h
    · rename_i v r1 hv
      split at h
      · cases h
      · rename_i l' r' hl
        simp only [Option.some.injEq, Prod.mk.injEq] at h
        obtain ⟨rfl, rfl⟩ := h
        obtain ⟨h1, h2⟩ := enc_decV c b v r1 hv
        obtain ⟨h3, h4, h5⟩ := enc_decs cs r1 l' r' hl
        exact ⟨by rw [h1, h3]; simp [enc], by simp [h4], by simp [fitsB, h2, h5]⟩

theorem eE_zero {sh : List UInt8} {l : List CV} : eE sh l = 0 ↔ properB sh = true ∧ l.length = sh.length ∧ fitsB sh l = true ∧ (enc sh l).length ≤ 4000 := by
  unfold eE okE
  constructor
  · intro h
    split at h
    · rename_i h1
      simp only [Bool.and_eq_true, beq_iff_eq] at h1
      split at h
      · cases h
      · exact ⟨h1.1.1, h1.1.2, h1.2, by omega⟩
    · cases h
  · rintro ⟨h1, h2, h3, h4⟩
    rw [if_pos (by simp [h1, h2, h3]), if_neg (by omega)]

theorem okD_some {sh b : List UInt8} {l : List CV} : okD sh b = some l ↔ l.length = sh.length ∧ fitsB sh l = true ∧ enc sh l = b ∧ b.length ≤ 4000 := by
  unfold okD
  constructor
  · intro h
    split at h
    · rename_i hb
      split at h
      · rename_i l' hd
        cases h
        obtain ⟨h1, h2, h3⟩ := enc_decs _ _ _ _ hd
        exact ⟨h2, h3, by simpa using h1.symm, hb⟩
      · cases h
    · cases h
  · rintro ⟨h1, h2, h3, h4⟩
    rw [if_pos h4]
    have := decs_enc sh l [] h1 h2
    rw [List.append_nil, h3] at this
    rw [this]

/-- The document's reading, which goes on past the end of the bytes. -/
def lenV (c : UInt8) (b : List UInt8) : CV × List UInt8 :=
  if c = 116 then (⟨0, mkS ((b.drop 2).take (val (b.take 2)))⟩, b.drop (2 + val (b.take 2))) else (⟨val (b.take (wd c)), mkS []⟩, b.drop (wd c))
def lens : List UInt8 → List UInt8 → List CV
  | [], _ => []
  | c :: cs, b => (lenV c b).1 :: lens cs (lenV c b).2
theorem lens_length : ∀ sh b, (lens sh b).length = sh.length
  | [], _ => rfl
  | c :: cs, b => by simp [lens, lens_length cs]
theorem lenV_dec {c : UInt8} {b : List UInt8} {v : CV} {r : List UInt8} (h : decV c b = some (v, r)) : lenV c b = (v, r) := by
  unfold decV at h
  unfold lenV
  by_cases hc : c = 116
  · simp only [if_pos hc] at h ⊢
    split at h
    · cases h
    · split at h
      · cases h
      · split at h
        · cases h
        · simp only [Option.some.injEq] at h
          rw [← h, List.drop_drop]
  · simp only [if_neg hc] at h ⊢
    split at h
    · cases h
    · simpa using h
theorem lens_decs : ∀ (sh b : List UInt8) (l : List CV) (r : List UInt8), decs sh b = some (l, r) → lens sh b = l
  | [], b, l, r, h => by
    simp only [decs, Option.some.injEq, Prod.mk.injEq] at h
    exact h.1
  | c :: cs, b, l, r, h => by
    simp only [decs] at h
    split at h
    · cases h
    · rename_i v r1 hv
      split at h
      · cases h
      · rename_i l' r' hl
        simp only [Option.some.injEq, Prod.mk.injEq] at h
        obtain ⟨rfl, rfl⟩ := h
        rw [lens, lenV_dec hv, lens_decs cs r1 l' r' hl]
/-- What the document's way comes to. -/
theorem okD_lens (sh b : List UInt8) (hp : properB sh = true) :
    (eE sh (lens sh b) = 0 ∧ enc sh (lens sh b) = b ∧ okD sh b = some (lens sh b)) ∨ (¬ (eE sh (lens sh b) = 0 ∧ enc sh (lens sh b) = b) ∧ okD sh b = none) := by
  by_cases h : eE sh (lens sh b) = 0 ∧ enc sh (lens sh b) = b
  · obtain ⟨h1, h2⟩ := h
    obtain ⟨_, k1, k2, k3⟩ := eE_zero.1 h1
    exact .inl ⟨h1, h2, okD_some.2 ⟨k1, k2, h2, by rw [h2] at k3; exact k3⟩⟩
  · refine .inr ⟨h, ?_⟩
    cases ho : okD sh b with
    | none => rfl
    | some l =>
      exfalso
      apply h
      obtain ⟨k1, k2, k3, k4⟩ := okD_some.1 ho
      have hd := decs_enc sh l [] k1 k2
      rw [List.append_nil, k3] at hd
      rw [lens_decs sh b l [] hd]
      exact ⟨eE_zero.2 ⟨hp, k1, k2, by rw [k3]; exact k4⟩, k3⟩

-- beginnings
theorem enc_append (sh sh' : List UInt8) : ∀ (l l' : List CV), l.length = sh.length → enc (sh ++ sh') (l ++ l') = enc sh l ++ enc sh' l' := by
  induction sh with
  | nil => intro l l' h; simp at h; subst h; rfl
  | cons c cs ih =>
    intro l l' h
    match l, h with
    | v :: vs, h => simp only [List.cons_append, enc, ih vs l' (by simpa using h), List.append_assoc]
theorem fitsB_append (sh sh' : List UInt8) : ∀ (l l' : List CV), l.length = sh.length → fitsB (sh ++ sh') (l ++ l') = (fitsB sh l && fitsB sh' l') := by
  induction sh with
  | nil => intro l l' h; simp at h; subst h; simp [fitsB]
  | cons c cs ih =>
    intro l l' h
    match l, h with
    | v :: vs, h => simp only [List.cons_append, fitsB, ih vs l' (by simpa using h), Bool.and_assoc]

/-- No beginning of an encoding is one of that shape. -/
theorem okD_short (sh : List UInt8) (l : List CV) (h : eE sh l = 0) (k : Nat) (hk : k < (enc sh l).length) : okD sh ((enc sh l).take k) = none := by
  cases ho : okD sh ((enc sh l).take k) with
  | none => rfl
  | some m =>
    exfalso
    obtain ⟨_, h1, h2, h3⟩ := eE_zero.1 h
    obtain ⟨k1, k2, k3, k4⟩ := okD_some.1 ho
    have d1 := decs_enc sh l [] h1 h2
    have d2 := decs_enc sh m ((enc sh l).drop k) k1 k2
    rw [k3, List.take_append_drop] at d2
    rw [List.append_nil, d2] at d1
    simp only [Option.some.injEq, Prod.mk.injEq] at d1
    have := congrArg List.length d1.2
    simp at this
    omega

-- one letter behind another, as loops go
theorem enc_snoc {sh : List UInt8} {l : List CV} {k : Nat} {c : UInt8} {v : CV} (hc : sh[k]? = some c) (hv : l[k]? = some v) : enc (sh.take (k + 1)) (l.take (k + 1)) = enc (sh.take k) (l.take k) ++ encV c v := by
  obtain ⟨h1, rfl⟩ := List.getElem?_eq_some_iff.1 hc
  obtain ⟨h2, rfl⟩ := List.getElem?_eq_some_iff.1 hv
  rw [List.take_succ_eq_append_getElem h1, List.take_succ_eq_append_getElem h2, enc_append _ _ _ _ (by simp; omega)]
  simp [enc]
theorem fitsB_snoc {sh : List UInt8} {l : List CV} {k : Nat} {c : UInt8} {v : CV} (hc : sh[k]? = some c) (hv : l[k]? = some v) : fitsB (sh.take (k + 1)) (l.take (k + 1)) = (fitsB (sh.take k) (l.take k) && fitB c v) := by
  obtain ⟨h1, rfl⟩ := List.getElem?_eq_some_iff.1 hc
  obtain ⟨h2, rfl⟩ := List.getElem?_eq_some_iff.1 hv
  rw [List.take_succ_eq_append_getElem h1, List.take_succ_eq_append_getElem h2, fitsB_append _ _ _ _ (by simp; omega)]
  simp [fitsB]
theorem fitsB_false {sh : List UInt8} {l : List CV} {k : Nat} {c : UInt8} {v : CV} (hl : l.length = sh.length) (hc : sh[k]? = some c) (hv : l[k]? = some v) (h : fitB c v = false) : fitsB sh l = false := by
  have h1 := fitsB_snoc hc hv
  rw [h, Bool.and_false] at h1
  have h2 := fitsB_append (sh.take (k + 1)) (sh.drop (k + 1)) (l.take (k + 1)) (l.drop (k + 1)) (by simp [hl])
  rw [List.take_append_drop, List.take_append_drop, h1, Bool.false_and] at h2
  exact h2
theorem encV_length {c : UInt8} {v : CV} (h : fitB c v = true) : (encV c v).length = wd c + v.s.size := by
  unfold encV
  unfold fitB at h
  split
  · rename_i hc
    subst hc
    simp [num_length, bl_length, wd_t]
  · rename_i hc
    rw [if_neg hc] at h
    simp at h
    simp [num_length, h.1]
end Go.Proofs.Ytcfdfimkgehdfaa.Dk
