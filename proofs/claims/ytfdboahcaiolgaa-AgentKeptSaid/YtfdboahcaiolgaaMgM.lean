/-
  Plain mathematics of bytes: a string's bytes, big-endian numbers of some bytes and the bytes of numbers, as lists. It speaks of no program. No condition.
-/
import Derived.Below
namespace Go.Proofs.Ytfdboahcaiolgaa.Dk
set_option maxRecDepth 100000

/-- A string's bytes, and the string of some bytes. -/
def bl (s : ByteArray) : List UInt8 := s.data.toList
def mkS (l : List UInt8) : ByteArray := ⟨l.toArray⟩
theorem bl_mkS (l : List UInt8) : bl (mkS l) = l := by simp [bl, mkS]
theorem mkS_bl (s : ByteArray) : mkS (bl s) = s := by cases s; simp [bl, mkS]
theorem bl_length (s : ByteArray) : (bl s).length = s.size := by cases s; simp [bl, ByteArray.size]
theorem mkS_size (l : List UInt8) : (mkS l).size = l.length := by simp [mkS, ByteArray.size]
theorem bl_inj {s t : ByteArray} (h : bl s = bl t) : s = t := by rw [← mkS_bl s, h, mkS_bl]
def num (n : Nat) : Nat → List UInt8
  | 0 => []
  | k + 1 => UInt8.ofNat (n / 256 ^ k) :: num n k
theorem num_length (n : Nat) : ∀ k, (num n k).length = k
  | 0 => rfl
  | k + 1 => by simp [num, num_length n k]
def val (l : List UInt8) : Nat := l.foldl (fun a b => a * 256 + b.toNat) 0
theorem val_snoc (l : List UInt8) (b : UInt8) : val (l ++ [b]) = val l * 256 + b.toNat := by simp [val]
theorem val_acc (l : List UInt8) : ∀ a, l.foldl (fun a b => a * 256 + b.toNat) a = a * 256 ^ l.length + val l := by
  induction l with
  | nil => intro a; simp [val]
  | cons b r ih =>
    intro a
    rw [val, List.foldl_cons, List.foldl_cons, ih, ih (0 * 256 + b.toNat), List.length_cons, Nat.pow_succ]
    simp only [Nat.add_mul, Nat.zero_mul, Nat.zero_add, Nat.mul_assoc, Nat.mul_comm 256, Nat.add_assoc]
theorem val_cons (b : UInt8) (l : List UInt8) : val (b :: l) = b.toNat * 256 ^ l.length + val l := by
  rw [val, List.foldl_cons, val_acc]; simp
theorem val_lt (l : List UInt8) : val l < 256 ^ l.length := by
  induction l with
  | nil => simp [val]
  | cons b r ih =>
    rw [val_cons, List.length_cons, Nat.pow_succ]
    have hb : b.toNat ≤ 255 := by have := b.toNat_lt; omega
    have := Nat.mul_le_mul_right (256 ^ r.length) hb
    omega
theorem val_num (n : Nat) : ∀ k, val (num n k) = n % 256 ^ k
  | 0 => by simp [num, val, Nat.mod_one]
  | k + 1 => by
    rw [num, val_cons, num_length, val_num n k]
    have h1 : (UInt8.ofNat (n / 256 ^ k)).toNat = n / 256 ^ k % 256 := by simp
    rw [h1, Nat.pow_succ, Nat.mod_mul]
    rw [Nat.mul_comm, Nat.add_comm]
theorem num_mod (n m : Nat) : ∀ k, n % 256 ^ k = m % 256 ^ k → num n k = num m k
  | 0, _ => rfl
  | k + 1, h => by
    rw [Nat.pow_succ, Nat.mod_mul, Nat.mod_mul] at h
    have hp : 0 < 256 ^ k := Nat.pow_pos (by omega)
    have h1 : n % 256 ^ k = m % 256 ^ k := by
      have := congrArg (· % 256 ^ k) h
      simpa [Nat.add_mul_mod_self_left] using this
    have h2 : n / 256 ^ k % 256 = m / 256 ^ k % 256 := by
      rw [h1] at h
      exact Nat.eq_of_mul_eq_mul_left hp (by omega)
    rw [num, num, num_mod n m k h1]
    congr 1
    apply UInt8.toNat_inj.1
    simpa using h2
theorem num_val : ∀ (l : List UInt8), num (val l) l.length = l
  | [] => rfl
  | b :: r => by
    have hp : 0 < 256 ^ r.length := Nat.pow_pos (by omega)
    rw [List.length_cons, num, val_cons]
    have h1 : (b.toNat * 256 ^ r.length + val r) / 256 ^ r.length = b.toNat := by
      rw [Nat.add_comm, Nat.add_mul_div_right _ _ hp, Nat.div_eq_of_lt (val_lt r)]; omega
    rw [h1, num_mod _ (val r) r.length (by simp), num_val r]
    congr 1
    simp
end Go.Proofs.Ytfdboahcaiolgaa.Dk

/-
  Plain mathematics of layer 2 (code): the bytes of values of a shape, and the values of bytes, as lists. It speaks of no program. No condition.
-/
namespace Go.Proofs.Ytfdboahcaiolgaa.Dk
set_option maxRecDepth 100000

/-- A value: a number and a string. -/
structure CV where
  n : Nat
  s : ByteArray

theorem CV.ext_ {v u : CV} (h1 : v.n = u.n) (h2 : v.s = u.s) : v = u := by cases v; cases u; simp_all

def wd (c : UInt8) : Nat := if c = 97 then 1 else if c = 98 then 2 else if c = 116 then 2 else if c = 99 then 4 else if c = 100 then 8 else 0
def wrf (c : UInt8) : Nat := if c = 116 then 0 else wd c
theorem wd_le (c : UInt8) : wd c ≤ 8 := by unfold wd; (repeat' split) <;> omega
theorem wd_t : wd 116 = 2 := by decide
theorem wr_le (c : UInt8) : wrf c ≤ 8 := by unfold wrf; split; omega; exact wd_le c

/-- Does a value fit a letter? -/
def fitB (c : UInt8) (v : CV) : Bool := if c = 116 then v.n == 0 && decide (v.s.size ≤ 2000) else v.s.size == 0 && decide (v.n < 256 ^ wd c)
def encV (c : UInt8) (v : CV) : List UInt8 := if c = 116 then num v.s.size 2 ++ bl v.s else num v.n (wd c)
def enc : List UInt8 → List CV → List UInt8
  | c :: cs, v :: vs => encV c v ++ enc cs vs
  | _, _ => []
def fitsB : List UInt8 → List CV → Bool
  | c :: cs, v :: vs => fitB c v && fitsB cs vs
  | _, _ => true
def letB (c : UInt8) : Bool := wd c != 0
def properB (sh : List UInt8) : Bool := decide (sh.length ≤ 100) && sh.all letB
def okE (sh : List UInt8) (l : List CV) : Bool := properB sh && (l.length == sh.length) && fitsB sh l
def eE (sh : List UInt8) (l : List CV) : Nat := if okE sh l then (if 4000 < (enc sh l).length then 3 else 0) else 2
def bE (sh : List UInt8) (l : List CV) : List UInt8 := if eE sh l = 0 then enc sh l else []

/-- One value off the front of bytes. -/
def decV (c : UInt8) (b : List UInt8) : Option (CV × List UInt8) :=
  if c = 116 then
    if b.length < 2 then none
    else if 2000 < val (b.take 2) then none
    else if (b.drop 2).length < val (b.take 2) then none
    else some (⟨0, mkS ((b.drop 2).take (val (b.take 2)))⟩, (b.drop 2).drop (val (b.take 2)))
  else if b.length < wd c then none
  else some (⟨val (b.take (wd c)), mkS []⟩, b.drop (wd c))
def decs : List UInt8 → List UInt8 → Option (List CV × List UInt8)
  | [], b => some ([], b)
  | c :: cs, b =>
    match decV c b with
    | none => none
    | some (v, r) =>
      match decs cs r with
      | none => none
      | some (l, r') => some (v :: l, r')
def okD (sh b : List UInt8) : Option (List CV) :=
  if b.length ≤ 4000 then
    match decs sh b with
    | some (l, []) => some l
    | _ => none
  else none
def eD (sh b : List UInt8) : Nat := if properB sh then (if (okD sh b).isSome then 0 else 4) else 2
def lD (sh b : List UInt8) : List CV := if properB sh then (okD sh b).getD [] else []

theorem decV_enc (c : UInt8) (v : CV) (r : List UInt8) (h : fitB c v = true) : decV c (encV c v ++ r) = some (v, r) := by
  unfold decV encV
  unfold fitB at h
  by_cases hc : c = 116
  · simp only [if_pos hc, Bool.and_eq_true, beq_iff_eq, decide_eq_true_eq] at h ⊢
    have hl : (num v.s.size 2).length = 2 := num_length _ _
    have h1 : (num v.s.size 2 ++ bl v.s ++ r).take 2 = num v.s.size 2 := by rw [List.append_assoc, List.take_left' hl]
    have h2 : (num v.s.size 2 ++ bl v.s ++ r).drop 2 = bl v.s ++ r := by rw [List.append_assoc, List.drop_left' hl]
    have h3 : val (num v.s.size 2) = v.s.size := by rw [val_num]; exact Nat.mod_eq_of_lt (by omega)
    rw [h1, h2, h3, if_neg (by simp [hl]), if_neg (by omega), if_neg (by simp [bl_length])]
    rw [List.take_left' (bl_length _), List.drop_left' (bl_length _), mkS_bl]
    rw [← h.1]
  · simp only [if_neg hc, Bool.and_eq_true, beq_iff_eq, decide_eq_true_eq] at h ⊢
    have hl : (num v.n (wd c)).length = wd c := num_length _ _
    rw [if_neg (by simp [hl]), List.take_left' hl, List.drop_left' hl, val_num, Nat.mod_eq_of_lt h.2]
    congr 2
    exact CV.ext_ rfl (bl_inj (by rw [bl_mkS]; exact (List.eq_nil_of_length_eq_zero (by rw [bl_length]; exact h.1)).symm))

theorem enc_decV (c : UInt8) (b : List UInt8) (v : CV) (r : List UInt8) (h : decV c b = some (v, r)) : b = encV c v ++ r ∧ fitB c v = true := by
  unfold decV at h
  by_cases hc : c = 116
  · simp only [if_pos hc] at h
    split at h
    · cases h
    · split at h
      · cases h
      · split at h
        · cases h
        · rename_i h1 h2 h3
          simp only [Option.some.injEq, Prod.mk.injEq] at h
          obtain ⟨rfl, rfl⟩ := h
          have hsz : (mkS (List.take (val (List.take 2 b)) (List.drop 2 b))).size = val (List.take 2 b) := by rw [mkS_size, List.length_take]; omega
          have h4 : num (val (b.take 2)) 2 = b.take 2 := by
            have := num_val (b.take 2)
            rwa [List.length_take, Nat.min_eq_left (by omega)] at this
          refine ⟨?_, ?_⟩
          · unfold encV
            rw [if_pos hc]
            simp only []
            rw [hsz, h4, bl_mkS, List.append_assoc, List.take_append_drop, List.take_append_drop]
          · unfold fitB
            rw [if_pos hc]
            simp only [hsz]
            simp
            omega
  · simp only [if_neg hc] at h
    split at h
    · cases h
    · rename_i h1
      simp only [Option.some.injEq, Prod.mk.injEq] at h
      obtain ⟨rfl, rfl⟩ := h
      have h4 : num (val (b.take (wd c))) (wd c) = b.take (wd c) := by
        have := num_val (b.take (wd c))
        rwa [List.length_take, Nat.min_eq_left (by omega)] at this
      have h5 : val (b.take (wd c)) < 256 ^ wd c := by
        have := val_lt (b.take (wd c))
        rwa [List.length_take, Nat.min_eq_left (by omega)] at this
      refine ⟨?_, ?_⟩
      · unfold encV
        rw [if_neg hc]
        simp only []
        rw [h4, List.take_append_drop]
      · unfold fitB
        rw [if_neg hc]
        simp [h5, mkS_size]

theorem decs_enc : ∀ (sh : List UInt8) (l : List CV) (r : List UInt8), l.length = sh.length → fitsB sh l = true → decs sh (enc sh l ++ r) = some (l, r)
  | [], [], r, _, _ => rfl
  | [], _ :: _, _, h, _ => by simp at h
  | _ :: _, [], _, h, _ => by simp at h
  | c :: cs, v :: vs, r, h, hf => by
    simp only [fitsB, Bool.and_eq_true] at hf
    simp only [enc, decs, List.append_assoc, decV_enc c v _ hf.1, decs_enc cs vs r (by simpa using h) hf.2]

theorem enc_decs : ∀ (sh b : List UInt8) (l : List CV) (r : List UInt8), decs sh b = some (l, r) → b = enc sh l ++ r ∧ l.length = sh.length ∧ fitsB sh l = true
  | [], b, l, r, h => by
    simp only [decs, Option.some.injEq, Prod.mk.injEq] at h
    obtain ⟨rfl, rfl⟩ := h
    simp [enc, fitsB]
  | c :: cs, b, l, r, h => by
    simp only [decs] at h
    split at h
    · cases h
    · rename_i v r1 hv
      split at h
      · cases h
      · rename_i l' r' hl
        simp only [Option.some.injEq, Prod.mk.injEq] at h
        obtain ⟨rfl, rfl⟩ := h
        obtain ⟨h1, h2⟩ := enc_decV c b v r1 hv
        obtain ⟨h3, h4, h5⟩ := enc_decs cs r1 l' r' hl
        exact ⟨by rw [h1, h3]; simp [enc], by simp [h4], by simp [fitsB, h2, h5]⟩

theorem eE_zero {sh : List UInt8} {l : List CV} : eE sh l = 0 ↔ properB sh = true ∧ l.length = sh.length ∧ fitsB sh l = true ∧ (enc sh l).length ≤ 4000 := by
  unfold eE okE
  constructor
  · intro h
    split at h
    · rename_i h1
      simp only [Bool.and_eq_true, beq_iff_eq] at h1
      split at h
      · cases h
      · exact ⟨h1.1.1, h1.1.2, h1.2, by omega⟩
    · cases h
  · rintro ⟨h1, h2, h3, h4⟩
    rw [if_pos (by simp [h1, h2, h3]), if_neg (by omega)]

theorem okD_some {sh b : List UInt8} {l : List CV} : okD sh b = some l ↔ l.length = sh.length ∧ fitsB sh l = true ∧ enc sh l = b ∧ b.length ≤ 4000 := by
  unfold okD
  constructor
  · intro h
    split at h
    · rename_i hb
      split at h
      · rename_i l' hd
        cases h
        obtain ⟨h1, h2, h3⟩ := enc_decs _ _ _ _ hd
        exact ⟨h2, h3, by simpa using h1.symm, hb⟩
      · cases h
    · cases h
  · rintro ⟨h1, h2, h3, h4⟩
    rw [if_pos h4]
    have := decs_enc sh l [] h1 h2
    rw [List.append_nil, h3] at this
    rw [this]

/-- The document's reading, which goes on past the end of the bytes. -/
def lenV (c : UInt8) (b : List UInt8) : CV × List UInt8 :=
  if c = 116 then (⟨0, mkS ((b.drop 2).take (val (b.take 2)))⟩, b.drop (2 + val (b.take 2))) else (⟨val (b.take (wd c)), mkS []⟩, b.drop (wd c))
def lens : List UInt8 → List UInt8 → List CV
  | [], _ => []
  | c :: cs, b => (lenV c b).1 :: lens cs (lenV c b).2
theorem lens_length : ∀ sh b, (lens sh b).length = sh.length
  | [], _ => rfl
  | c :: cs, b => by simp [lens, lens_length cs]
theorem lenV_dec {c : UInt8} {b : List UInt8} {v : CV} {r : List UInt8} (h : decV c b = some (v, r)) : lenV c b = (v, r) := by
  unfold decV at h
  unfold lenV
  by_cases hc : c = 116
  · simp only [if_pos hc] at h ⊢
    split at h
    · cases h
    · split at h
      · cases h
      · split at h
        · cases h
        · simp only [Option.some.injEq] at h
          rw [← h, List.drop_drop]
  · simp only [if_neg hc] at h ⊢
    split at h
    · cases h
    · simpa using h
theorem lens_decs : ∀ (sh b : List UInt8) (l : List CV) (r : List UInt8), decs sh b = some (l, r) → lens sh b = l
  | [], b, l, r, h => by
    simp only [decs, Option.some.injEq, Prod.mk.injEq] at h
    exact h.1
  | c :: cs, b, l, r, h => by
    simp only [decs] at h
    split at h
    · cases h
    · rename_i v r1 hv
      split at h
      · cases h
      · rename_i l' r' hl
        simp only [Option.some.injEq, Prod.mk.injEq] at h
        obtain ⟨rfl, rfl⟩ := h
        rw [lens, lenV_dec hv, lens_decs cs r1 l' r' hl]
/-- What the document's way comes to. -/
theorem okD_lens (sh b : List UInt8) (hp : properB sh = true) :
    (eE sh (lens sh b) = 0 ∧ enc sh (lens sh b) = b ∧ okD sh b = some (lens sh b)) ∨ (¬ (eE sh (lens sh b) = 0 ∧ enc sh (lens sh b) = b) ∧ okD sh b = none) := by
  by_cases h : eE sh (lens sh b) = 0 ∧ enc sh (lens sh b) = b
  · obtain ⟨h1, h2⟩ := h
    obtain ⟨_, k1, k2, k3⟩ := eE_zero.1 h1
    exact .inl ⟨h1, h2, okD_some.2 ⟨k1, k2, h2, by rw [h2] at k3; exact k3⟩⟩
  · refine .inr ⟨h, ?_⟩
    cases ho : okD sh b with
    | none => rfl
    | some l =>
      exfalso
      apply h
      obtain ⟨k1, k2, k3, k4⟩ := okD_some.1 ho
      have hd := decs_enc sh l [] k1 k2
      rw [List.append_nil, k3] at hd
      rw [lens_decs sh b l [] hd]
      exact ⟨eE_zero.2 ⟨hp, k1, k2, by rw [k3]; exact k4⟩, k3⟩

-- beginnings
theorem enc_append (sh sh' : List UInt8) : ∀ (l l' : List CV), l.length = sh.length → enc (sh ++ sh') (l ++ l') = enc sh l ++ enc sh' l' := by
  induction sh with
  | nil => intro l l' h; simp at h; subst h; rfl
  | cons c cs ih =>
    intro l l' h
    match l, h with
    | v :: vs, h => simp only [List.cons_append, enc, ih vs l' (by simpa using h), List.append_assoc]
theorem fitsB_append (sh sh' : List UInt8) : ∀ (l l' : List CV), l.length = sh.length → fitsB (sh ++ sh') (l ++ l') = (fitsB sh l && fitsB sh' l') := by
  induction sh with
  | nil => intro l l' h; simp at h; subst h; simp [fitsB]
  | cons c cs ih =>
    intro l l' h
    match l, h with
    | v :: vs, h => simp only [List.cons_append, fitsB, ih vs l' (by simpa using h), Bool.and_assoc]

/-- No beginning of an encoding is one of that shape. -/
theorem okD_short (sh : List UInt8) (l : List CV) (h : eE sh l = 0) (k : Nat) (hk : k < (enc sh l).length) : okD sh ((enc sh l).take k) = none := by
  cases ho : okD sh ((enc sh l).take k) with
  | none => rfl
  | some m =>
    exfalso
    obtain ⟨_, h1, h2, h3⟩ := eE_zero.1 h
    obtain ⟨k1, k2, k3, k4⟩ := okD_some.1 ho
    have d1 := decs_enc sh l [] h1 h2
    have d2 := decs_enc sh m ((enc sh l).drop k) k1 k2
    rw [k3, List.take_append_drop] at d2
    rw [List.append_nil, d2] at d1
    simp only [Option.some.injEq, Prod.mk.injEq] at d1
    have := congrArg List.length d1.2
    simp at this
    omega

-- one letter behind another, as loops go
theorem enc_snoc {sh : List UInt8} {l : List CV} {k : Nat} {c : UInt8} {v : CV} (hc : sh[k]? = some c) (hv : l[k]? = some v) : enc (sh.take (k + 1)) (l.take (k + 1)) = enc (sh.take k) (l.take k) ++ encV c v := by
  obtain ⟨h1, rfl⟩ := List.getElem?_eq_some_iff.1 hc
  obtain ⟨h2, rfl⟩ := List.getElem?_eq_some_iff.1 hv
  rw [List.take_succ_eq_append_getElem h1, List.take_succ_eq_append_getElem h2, enc_append _ _ _ _ (by simp; omega)]
  simp [enc]
theorem fitsB_snoc {sh : List UInt8} {l : List CV} {k : Nat} {c : UInt8} {v : CV} (hc : sh[k]? = some c) (hv : l[k]? = some v) : fitsB (sh.take (k + 1)) (l.take (k + 1)) = (fitsB (sh.take k) (l.take k) && fitB c v) := by
  obtain ⟨h1, rfl⟩ := List.getElem?_eq_some_iff.1 hc
  obtain ⟨h2, rfl⟩ := List.getElem?_eq_some_iff.1 hv
  rw [List.take_succ_eq_append_getElem h1, List.take_succ_eq_append_getElem h2, fitsB_append _ _ _ _ (by simp; omega)]
  simp [fitsB]
theorem fitsB_false {sh : List UInt8} {l : List CV} {k : Nat} {c : UInt8} {v : CV} (hl : l.length = sh.length) (hc : sh[k]? = some c) (hv : l[k]? = some v) (h : fitB c v = false) : fitsB sh l = false := by
  have h1 := fitsB_snoc hc hv
  rw [h, Bool.and_false] at h1
  have h2 := fitsB_append (sh.take (k + 1)) (sh.drop (k + 1)) (l.take (k + 1)) (l.drop (k + 1)) (by simp [hl])
  rw [List.take_append_drop, List.take_append_drop, h1, Bool.false_and] at h2
  exact h2
theorem encV_length {c : UInt8} {v : CV} (h : fitB c v = true) : (encV c v).length = wd c + v.s.size := by
  unfold encV
  unfold fitB at h
  split
  · rename_i hc
    subst hc
    simp [num_length, bl_length, wd_t]
  · rename_i hc
    rw [if_neg hc] at h
    simp at h
    simp [num_length, h.1]
end Go.Proofs.Ytfdboahcaiolgaa.Dk

/-
  Plain mathematics of layer 3 (sum): the check sum of bytes, their frame, the first frame of bytes and all of them, as lists. It speaks of no program. No condition.
-/
namespace Go.Proofs.Ytfdboahcaiolgaa.Dk
set_option maxRecDepth 100000

/-- One byte more: the two halves of the check sum. -/
def adS (p : Nat × Nat) (b : UInt8) : Nat × Nat := ((p.1 + b.toNat) % 65521, (p.2 + (p.1 + b.toNat) % 65521) % 65521)
def adl (l : List UInt8) : Nat × Nat := l.foldl adS (1, 0)
def sumB (l : List UInt8) : Nat := (adl l).2 * 65536 + (adl l).1
theorem adl_snoc (l : List UInt8) (b : UInt8) : adl (l ++ [b]) = adS (adl l) b := by simp [adl]
theorem adF_lt (l : List UInt8) : ∀ p : Nat × Nat, p.1 < 65521 → p.2 < 65521 → (l.foldl adS p).1 < 65521 ∧ (l.foldl adS p).2 < 65521 := by
  induction l with
  | nil => exact fun p h1 h2 => ⟨h1, h2⟩
  | cons b r ih => exact fun p _ _ => ih _ (Nat.mod_lt _ (by omega)) (Nat.mod_lt _ (by omega))
theorem adl_lt (l : List UInt8) : (adl l).1 < 65521 ∧ (adl l).2 < 65521 := adF_lt l (1, 0) (by omega) (by omega)
theorem sumB_lt (l : List UInt8) : sumB l < 4294967296 := by
  have := adl_lt l
  unfold sumB
  omega
theorem sumB_low (l : List UInt8) : sumB l % 65536 = (adl l).1 := by
  have := adl_lt l
  unfold sumB
  omega

/-- The sum of all bytes. -/
def tot (l : List UInt8) : Nat := l.foldr (fun b a => b.toNat + a) 0
theorem tot_append (l m : List UInt8) : tot (l ++ m) = tot l + tot m := by
  induction l with
  | nil => simp [tot]
  | cons b r ih =>
    have : tot (b :: (r ++ m)) = b.toNat + tot (r ++ m) := rfl
    rw [List.cons_append, this, ih]
    have : tot (b :: r) = b.toNat + tot r := rfl
    omega
theorem tot_cons (b : UInt8) (l : List UInt8) : tot (b :: l) = b.toNat + tot l := rfl
theorem adF_one (l : List UInt8) : ∀ p : Nat × Nat, p.1 < 65521 → (l.foldl adS p).1 = (p.1 + tot l) % 65521 := by
  induction l with
  | nil => intro p h; simp [tot, Nat.mod_eq_of_lt h]
  | cons b r ih =>
    intro p h
    rw [List.foldl_cons, ih _ (Nat.mod_lt _ (by omega)), tot_cons]
    show ((p.1 + b.toNat) % 65521 + tot r) % 65521 = _
    omega
theorem adl_one (l : List UInt8) : (adl l).1 = (1 + tot l) % 65521 := adF_one l (1, 0) (by omega)

theorem sumB_byte (a r : List UInt8) (x y : UInt8) (h : ¬ x = y) : ¬ sumB (a ++ x :: r) = sumB (a ++ y :: r) := by
  intro e
  have h1 := sumB_low (a ++ x :: r)
  rw [e, sumB_low, adl_one, adl_one, tot_append, tot_append, tot_cons, tot_cons] at h1
  have h2 := x.toNat_lt
  have h3 := y.toNat_lt
  exact h (UInt8.toNat_inj.1 (by omega))

theorem adF_two (l : List UInt8) : ∀ (x y z : Nat), ((l.foldl adS (x, y)).2 + z) % 65521 = ((l.foldl adS (x, z)).2 + y) % 65521 := by
  induction l with
  | nil => intro x y z; simp only [List.foldl_nil]; omega
  | cons b r ih =>
    intro x y z
    have := ih ((x + b.toNat) % 65521) ((y + (x + b.toNat) % 65521) % 65521) ((z + (x + b.toNat) % 65521) % 65521)
    rw [List.foldl_cons, List.foldl_cons]
    show ((r.foldl adS ((x + b.toNat) % 65521, (y + (x + b.toNat) % 65521) % 65521)).2 + z) % 65521 = ((r.foldl adS ((x + b.toNat) % 65521, (z + (x + b.toNat) % 65521) % 65521)).2 + y) % 65521
    omega

theorem sumB_swap (a r : List UInt8) (x y : UInt8) (h : ¬ x = y) : ¬ sumB (a ++ x :: y :: r) = sumB (a ++ y :: x :: r) := by
  intro e
  have e2 : (adl (a ++ x :: y :: r)).2 = (adl (a ++ y :: x :: r)).2 := by
    have h1 := adl_lt (a ++ x :: y :: r)
    have h2 := adl_lt (a ++ y :: x :: r)
    unfold sumB at e
    omega
  unfold adl at e2
  rw [List.foldl_append, List.foldl_append] at e2
  generalize ht : a.foldl adS (1, 0) = p at e2
  obtain ⟨p1, p2⟩ := p
  simp only [List.foldl_cons, adS] at e2
  have h3 := x.toNat_lt
  have h4 := y.toNat_lt
  have ex : ((p1 + x.toNat) % 65521 + y.toNat) % 65521 = ((p1 + y.toNat) % 65521 + x.toNat) % 65521 := by omega
  rw [ex] at e2
  generalize hX : ((p1 + y.toNat) % 65521 + x.toNat) % 65521 = X at e2
  have k := adF_two r X ((p2 + (p1 + x.toNat) % 65521) % 65521 + X) ((p2 + (p1 + y.toNat) % 65521) % 65521 + X)
  have k2 := adF_two r X (((p2 + (p1 + x.toNat) % 65521) % 65521 + X) % 65521) (((p2 + (p1 + y.toNat) % 65521) % 65521 + X) % 65521)
  rw [e2] at k2
  exact h (UInt8.toNat_inj.1 (by omega))

theorem sumB_zeros (l : List UInt8) : sumB ([0, 0, 0] ++ l) % 65536 = sumB l % 65536 := by
  rw [sumB_low, sumB_low, adl_one, adl_one, tot_append]
  have : tot [0, 0, 0] = 0 := rfl
  omega

/-- The frame of bytes. -/
def headB (l : List UInt8) : List UInt8 := 1 :: (num l.length 2 ++ l)
def frameB (l : List UInt8) : List UInt8 := headB l ++ num (sumB (headB l)) 4
theorem headB_length (l : List UInt8) : (headB l).length = l.length + 3 := by simp [headB, num_length]; omega
theorem frameB_length (l : List UInt8) : (frameB l).length = l.length + 7 := by simp [frameB, headB_length, num_length]

/-- What Frame answers. -/
def eF (l : List UInt8) : Nat := if 4000 < l.length then 3 else 0
def bF (l : List UInt8) : List UInt8 := if 4000 < l.length then [] else frameB l
theorem eF_big {l : List UInt8} (h : 4000 < l.length) : eF l = 3 ∧ bF l = [] := ⟨if_pos h, if_pos h⟩
theorem eF_ok {l : List UInt8} (h : ¬ 4000 < l.length) : eF l = 0 ∧ bF l = frameB l := ⟨if_neg h, if_neg h⟩

/-- What First answers. -/
def fN (b : List UInt8) : Nat := val ((b.drop 1).take 2)
def fE (b : List UInt8) : Nat :=
  if b.length = 0 then 7
  else if ¬ b[0]? = some 1 ∨ b.length < 3 then 4
  else if 4000 < fN b ∨ b.length < fN b + 7 then 4
  else if ¬ val ((b.drop (fN b + 3)).take 4) = sumB (b.take (fN b + 3)) then 5
  else 0
def fC (b : List UInt8) : List UInt8 := if fE b = 0 then (b.drop 3).take (fN b) else []
def fK (b : List UInt8) : Nat := if fE b = 0 then fN b + 7 else 0

theorem fE_none {b : List UInt8} (h : b.length = 0) : fE b = 7 := if_pos h
theorem fE_form1 {b : List UInt8} (h : ¬ b.length = 0) (h1 : ¬ b[0]? = some 1 ∨ b.length < 3) : fE b = 4 := by unfold fE; rw [if_neg h, if_pos h1]
theorem fE_form2 {b : List UInt8} (h : ¬ b.length = 0) (h1 : ¬ (¬ b[0]? = some 1 ∨ b.length < 3)) (h2 : 4000 < fN b ∨ b.length < fN b + 7) : fE b = 4 := by unfold fE; rw [if_neg h, if_neg h1, if_pos h2]
theorem fE_sum {b : List UInt8} (h : ¬ b.length = 0) (h1 : ¬ (¬ b[0]? = some 1 ∨ b.length < 3)) (h2 : ¬ (4000 < fN b ∨ b.length < fN b + 7)) (h3 : ¬ val ((b.drop (fN b + 3)).take 4) = sumB (b.take (fN b + 3))) : fE b = 5 := by unfold fE; rw [if_neg h, if_neg h1, if_neg h2, if_pos h3]
theorem fE_ok {b : List UInt8} (h : ¬ b.length = 0) (h1 : ¬ (¬ b[0]? = some 1 ∨ b.length < 3)) (h2 : ¬ (4000 < fN b ∨ b.length < fN b + 7)) (h3 : val ((b.drop (fN b + 3)).take 4) = sumB (b.take (fN b + 3))) : fE b = 0 := by unfold fE; rw [if_neg h, if_neg h1, if_neg h2, if_neg (not_not_intro h3)]
theorem fE_zero {b : List UInt8} (h : fE b = 0) : 3 ≤ b.length ∧ b[0]? = some 1 ∧ fN b ≤ 4000 ∧ fN b + 7 ≤ b.length ∧ val ((b.drop (fN b + 3)).take 4) = sumB (b.take (fN b + 3)) := by
  unfold fE at h
  split at h
  · omega
  · split at h
    · omega
    · split at h
      · omega
      · split at h
        · omega
        · rename_i h1 h2 h3 h4
          simp only [Classical.not_not] at h4
          refine ⟨by omega, ?_, by omega, by omega, h4⟩
          exact Classical.byContradiction fun hc => h2 (.inl hc)
theorem fC_bad {b : List UInt8} (h : ¬ fE b = 0) : fC b = [] := if_neg h
theorem fK_bad {b : List UInt8} (h : ¬ fE b = 0) : fK b = 0 := if_neg h
theorem fC_ok {b : List UInt8} (h : fE b = 0) : fC b = (b.drop 3).take (fN b) := if_pos h
theorem fK_ok {b : List UInt8} (h : fE b = 0) : fK b = fN b + 7 := if_pos h
theorem fK_le (b : List UInt8) : fK b ≤ b.length := by
  unfold fK
  split
  · rename_i h; have := fE_zero h; omega
  · omega
theorem fC_length_le (b : List UInt8) : (fC b).length ≤ 4000 := by
  unfold fC
  split
  · rename_i h; have := fE_zero h; rw [List.length_take]; omega
  · simp

theorem frame_head (l r : List UInt8) (hl : l.length ≤ 4000) : fN (frameB l ++ r) = l.length ∧ (frameB l ++ r)[0]? = some 1 := by
  refine ⟨?_, rfl⟩
  have : ((frameB l ++ r).drop 1).take 2 = num l.length 2 := by
    unfold frameB headB
    simp only [List.cons_append, List.drop_succ_cons, List.drop_zero, List.append_assoc]
    exact List.take_left' (num_length _ _)
  unfold fN
  rw [this, val_num]
  omega
theorem frame_take (l r : List UInt8) : (frameB l ++ r).take (l.length + 3) = headB l := by
  unfold frameB
  rw [List.append_assoc]
  exact List.take_left' (headB_length l)
theorem frame_drop (l r : List UInt8) : (frameB l ++ r).drop (l.length + 3) = num (sumB (headB l)) 4 ++ r := by
  unfold frameB
  rw [List.append_assoc]
  exact List.drop_left' (headB_length l)
theorem val_sum (l : List UInt8) : val (num (sumB l) 4) = sumB l := by
  rw [val_num]
  have := sumB_lt l
  omega
theorem frame_first (l r : List UInt8) (hl : l.length ≤ 4000) : fE (frameB l ++ r) = 0 ∧ fC (frameB l ++ r) = l ∧ fK (frameB l ++ r) = l.length + 7 := by
  obtain ⟨h1, h2⟩ := frame_head l r hl
  have hlen : (frameB l ++ r).length = l.length + 7 + r.length := by rw [List.length_append, frameB_length]
  have h0 : fE (frameB l ++ r) = 0 := by
    refine fE_ok (by omega) (fun hc => hc.elim (fun k => k h2) (fun k => by omega)) (by rw [h1]; omega) ?_
    rw [h1, frame_take, frame_drop, List.take_left' (num_length _ _), val_sum]
  refine ⟨h0, ?_, by rw [fK_ok h0, h1]⟩
  rw [fC_ok h0, h1]
  unfold frameB headB
  rw [List.cons_append, List.cons_append, List.append_assoc, List.append_assoc, List.drop_succ_cons, List.drop_left' (num_length _ _)]
  exact List.take_left' rfl

theorem split3 (b : List UInt8) (n : Nat) (h0 : b[0]? = some 1) (hn : n + 7 ≤ b.length) : b = (1 :: ((b.drop 1).take 2 ++ (b.drop 3).take n)) ++ (b.drop (n + 3)).take 4 ++ b.drop (n + 7) := by
  match b, h0 with
  | x :: r, h0 =>
    simp at h0
    subst h0
    simp only [List.drop_succ_cons, List.drop_zero]
    rw [List.cons_append, List.cons_append]
    congr 1
    have e1 : r = r.take 2 ++ r.drop 2 := (List.take_append_drop 2 r).symm
    have e2 : r.drop 2 = (r.drop 2).take n ++ (r.drop 2).drop n := (List.take_append_drop n _).symm
    have e3 : r.drop (n + 2) = (r.drop (n + 2)).take 4 ++ (r.drop (n + 2)).drop 4 := (List.take_append_drop 4 _).symm
    have e4 : (r.drop 2).drop n = r.drop (n + 2) := by rw [List.drop_drop, Nat.add_comm]
    have e5 : (r.drop (n + 2)).drop 4 = r.drop (n + 6) := by rw [List.drop_drop]
    rw [List.append_assoc, List.append_assoc]
    conv => lhs; rw [e1, e2, e4, e3, e5]

theorem first_frame {b : List UInt8} (h : fE b = 0) : b.take (fN b + 7) = frameB (fC b) ∧ (fC b).length = fN b := by
  obtain ⟨h1, h2, h3, h4, h5⟩ := fE_zero h
  have hs := split3 b (fN b) h2 h4
  have hc := fC_ok h
  have hl : (fC b).length = fN b := by rw [hc, List.length_take, List.length_drop]; omega
  have hh : headB (fC b) = 1 :: ((b.drop 1).take 2 ++ (b.drop 3).take (fN b)) := by
    unfold headB
    rw [hl, hc]
    congr 2
    have : ((b.drop 1).take 2).length = 2 := by rw [List.length_take, List.length_drop]; omega
    conv => rhs; rw [← num_val ((b.drop 1).take 2), this]
    rfl
  generalize fN b = n at *
  have h4' : ((b.drop (n + 3)).take 4).length = 4 := by rw [List.length_take, List.length_drop]; omega
  have ht : b.take (n + 3) = headB (fC b) := by
    rw [hh]
    conv => lhs; rw [hs, List.append_assoc]
    refine List.take_left' ?_
    rw [← hh, headB_length, hl]
  have hv : num (val ((b.drop (n + 3)).take 4)) 4 = (b.drop (n + 3)).take 4 := by
    have := num_val ((b.drop (n + 3)).take 4)
    rwa [h4'] at this
  refine ⟨?_, hl⟩
  unfold frameB
  rw [← ht, ← h5, hv, show n + 7 = (n + 3) + 4 by omega, List.take_add]

theorem first_short (l r : List UInt8) (hl : l.length ≤ 4000) (j : Nat) (hj : j < l.length + 7) : ¬ fE ((frameB l ++ r).take j) = 0 := by
  intro h
  obtain ⟨h1, h2, h3, h4, h5⟩ := fE_zero h
  have hjl : ((frameB l ++ r).take j).length = j := by rw [List.length_take, List.length_append, frameB_length]; omega
  have : fN ((frameB l ++ r).take j) = l.length := by
    rw [← (frame_head l r hl).1]
    unfold fN
    rw [List.drop_take, List.take_take, Nat.min_eq_left (by omega)]
  omega

/-- What All answers. -/
def aF : Nat → List UInt8 → List (List UInt8)
  | 0, _ => []
  | f + 1, b => if fE b = 0 then fC b :: aF f (b.drop (fK b)) else []
def nF : Nat → List UInt8 → Nat
  | 0, _ => 0
  | f + 1, b => if fE b = 0 then fK b + nF f (b.drop (fK b)) else 0
def aC (b : List UInt8) : List (List UInt8) := aF (b.length + 1) b
def aN (b : List UInt8) : Nat := nF (b.length + 1) b
theorem aF_more : ∀ (f g : Nat) (b : List UInt8), b.length < f → b.length < g → aF f b = aF g b
  | 0, _, _, h, _ => absurd h (Nat.not_lt_zero _)
  | _ + 1, 0, _, _, h => absurd h (Nat.not_lt_zero _)
  | f + 1, g + 1, b, h1, h2 => by
    rw [aF, aF]
    split
    · rename_i h
      have := fE_zero h
      have := fK_ok h
      rw [aF_more f g _ (by rw [List.length_drop]; omega) (by rw [List.length_drop]; omega)]
    · rfl
theorem nF_more : ∀ (f g : Nat) (b : List UInt8), b.length < f → b.length < g → nF f b = nF g b
  | 0, _, _, h, _ => absurd h (Nat.not_lt_zero _)
  | _ + 1, 0, _, _, h => absurd h (Nat.not_lt_zero _)
  | f + 1, g + 1, b, h1, h2 => by
    rw [nF, nF]
    split
    · rename_i h
      have := fE_zero h
      have := fK_ok h
      rw [nF_more f g _ (by rw [List.length_drop]; omega) (by rw [List.length_drop]; omega)]
    · rfl
theorem aC_no {b : List UInt8} (h : ¬ fE b = 0) : aC b = [] ∧ aN b = 0 := by
  unfold aC aN
  rw [aF, nF, if_neg h, if_neg h]
  exact ⟨rfl, rfl⟩
theorem aC_yes {b : List UInt8} (h : fE b = 0) : aC b = fC b :: aC (b.drop (fK b)) ∧ aN b = fK b + aN (b.drop (fK b)) := by
  have := fE_zero h
  have := fK_ok h
  unfold aC aN
  rw [aF, nF, if_pos h, if_pos h, aF_more b.length ((b.drop (fK b)).length + 1) _ (by rw [List.length_drop]; omega) (by omega), nF_more b.length ((b.drop (fK b)).length + 1) _ (by rw [List.length_drop]; omega) (by omega)]
  exact ⟨rfl, rfl⟩
theorem aN_le : ∀ (n : Nat) (b : List UInt8), b.length ≤ n → aN b ≤ b.length ∧ (aC b).length ≤ b.length
  | 0, b, h => by
    have := fE_none (b := b) (by omega)
    obtain ⟨h1, h2⟩ := aC_no (b := b) (by omega)
    rw [h1, h2]; simp
  | n + 1, b, h => by
    by_cases h0 : fE b = 0
    · have := fE_zero h0
      have hk := fK_ok h0
      obtain ⟨h1, h2⟩ := aC_yes h0
      have ih := aN_le n (b.drop (fK b)) (by rw [List.length_drop]; omega)
      rw [List.length_drop] at ih
      rw [h1, h2, List.length_cons]
      omega
    · obtain ⟨h1, h2⟩ := aC_no h0
      rw [h1, h2]; simp

/-- Frames one behind the other. -/
def frs (ls : List (List UInt8)) : List UInt8 := ls.flatMap frameB
theorem frs_cons (l : List UInt8) (ls : List (List UInt8)) : frs (l :: ls) = frameB l ++ frs ls := rfl
theorem frs_snoc (ls : List (List UInt8)) (l : List UInt8) : frs (ls ++ [l]) = frs ls ++ frameB l := by simp [frs]
theorem frs_append (ls ms : List (List UInt8)) : frs (ls ++ ms) = frs ls ++ frs ms := by simp [frs]
theorem aC_frs : ∀ (ls : List (List UInt8)) (r : List UInt8), (∀ l ∈ ls, l.length ≤ 4000) → aC (frs ls ++ r) = ls ++ aC r ∧ aN (frs ls ++ r) = (frs ls).length + aN r
  | [], r, _ => by simp [frs]
  | l :: ls, r, h => by
    obtain ⟨h1, h2, h3⟩ := frame_first l (frs ls ++ r) (h l (by simp))
    obtain ⟨k1, k2⟩ := aC_frs ls r (fun x hx => h x (by simp [hx]))
    rw [frs_cons, List.append_assoc]
    obtain ⟨e1, e2⟩ := aC_yes h1
    have hd : (frameB l ++ (frs ls ++ r)).drop (fK (frameB l ++ (frs ls ++ r))) = frs ls ++ r := by rw [h3]; exact List.drop_left' (frameB_length l)
    rw [e1, e2, hd, h2, h3, k1, k2, List.length_append, frameB_length]
    exact ⟨rfl, by omega⟩

/-- How many of the frames are whole in the first k bytes. -/
def wh (k : Nat) : List (List UInt8) → Nat
  | [] => 0
  | l :: ls => if l.length + 7 ≤ k then wh (k - (l.length + 7)) ls + 1 else 0
theorem wh_le (ls : List (List UInt8)) : ∀ k, wh k ls ≤ ls.length := by
  induction ls with
  | nil => intro k; simp [wh]
  | cons l ls ih =>
    intro k
    rw [wh]
    split
    · have := ih (k - (l.length + 7)); simp; omega
    · simp
theorem wh_iff (ls : List (List UInt8)) : ∀ (k j : Nat), j ≤ ls.length → ((frs (ls.take j)).length ≤ k ↔ j ≤ wh k ls) := by
  induction ls with
  | nil => intro k j h; simp at h; subst h; simp [wh, frs]
  | cons l ls ih =>
    intro k j h
    match j, h with
    | 0, _ => simp [frs]
    | j + 1, h =>
      rw [List.take_succ_cons, frs_cons, List.length_append, frameB_length, wh]
      have := ih (k - (l.length + 7)) j (by simpa using h)
      split <;> omega
theorem aC_cut (ls : List (List UInt8)) : ∀ k, (∀ l ∈ ls, l.length ≤ 4000) → aC ((frs ls).take k) = ls.take (wh k ls) ∧ aN ((frs ls).take k) = (frs (ls.take (wh k ls))).length := by
  induction ls with
  | nil => intro k _; simp [wh, frs]; exact aC_no (by decide)
  | cons l ls ih =>
    intro k h
    have hl := h l (by simp)
    rw [frs_cons, wh]
    split
    · rename_i hk
      obtain ⟨k1, k2⟩ := ih (k - (l.length + 7)) (fun x hx => h x (by simp [hx]))
      rw [List.take_append, frameB_length, List.take_of_length_le (by rw [frameB_length]; exact hk)]
      obtain ⟨h1, h2, h3⟩ := frame_first l ((frs ls).take (k - (l.length + 7))) hl
      obtain ⟨e1, e2⟩ := aC_yes h1
      rw [e1, e2, h2, h3, List.drop_left' (frameB_length l), k1, k2, List.take_succ_cons, frs_cons, List.length_append, frameB_length]
      exact ⟨rfl, rfl⟩
    · rename_i hk
      obtain ⟨h1, h2⟩ := aC_no (first_short l (frs ls) hl k (by omega))
      rw [h1, h2]
      simp [frs]

theorem val_inj {l m : List UInt8} (hl : l.length = m.length) (h : val l = val m) : l = m := by rw [← num_val l, ← num_val m, h, hl]

theorem set_split (l : List UInt8) (j : Nat) (x y : UInt8) (h : l[j]? = some x) : l = l.take j ++ x :: l.drop (j + 1) ∧ l.set j y = l.take j ++ y :: l.drop (j + 1) := by
  obtain ⟨h1, rfl⟩ := List.getElem?_eq_some_iff.1 h
  refine ⟨?_, List.set_eq_take_append_cons_drop ▸ by rw [if_pos h1]⟩
  conv => lhs; rw [← List.take_append_drop j l, List.drop_eq_getElem_cons h1]

/-- A frame with one byte behind those of its size turned. -/
theorem frame_turned (l : List UInt8) (hl : l.length ≤ 4000) (j : Nat) (x y : UInt8) (hx : (frameB l)[j + 3]? = some x) (hne : ¬ x = y) : ¬ fE ((frameB l).set (j + 3) y) = 0 := by
  intro h
  obtain ⟨h1, h2, h3, h4, h5⟩ := fE_zero h
  have hN : fN ((frameB l).set (j + 3) y) = l.length := by
    have := (frame_head l [] hl).1
    rw [List.append_nil] at this
    rw [← this]
    unfold fN
    rw [List.drop_set, if_neg (by omega), List.take_set_of_le (by omega)]
  rw [hN] at h5
  have ht : (frameB l).take (l.length + 3) = headB l := by have := frame_take l []; rwa [List.append_nil] at this
  have hd : (frameB l).drop (l.length + 3) = num (sumB (headB l)) 4 := by have := frame_drop l []; rwa [List.append_nil, List.append_nil] at this
  have hjl : j + 3 < (frameB l).length := (List.getElem?_eq_some_iff.1 hx).1
  rw [frameB_length] at hjl
  by_cases hj : j < l.length
  · rw [List.drop_set, if_pos (by omega), hd, List.take_of_length_le (by rw [num_length]; exact Nat.le_refl _), val_sum, List.take_set, ht] at h5
    have hx2 : (headB l)[j + 3]? = some x := by rw [← ht, List.getElem?_take, if_pos (by omega)]; exact hx
    obtain ⟨s1, s2⟩ := set_split (headB l) (j + 3) x y hx2
    rw [s2] at h5
    conv at h5 => lhs; rw [s1]
    exact sumB_byte _ _ x y hne h5
  · rw [List.take_set_of_le (by omega), ht, ← val_sum (headB l), List.drop_set, if_neg (by omega), hd] at h5
    rw [List.take_of_length_le (by rw [List.length_set, num_length]; exact Nat.le_refl _)] at h5
    have := val_inj (by rw [List.length_set]) h5
    have hx2 : (num (sumB (headB l)) 4)[j + 3 - (l.length + 3)]? = some x := by rw [← hd, List.getElem?_drop, show l.length + 3 + (j + 3 - (l.length + 3)) = j + 3 by omega]; exact hx
    have hlt := (List.getElem?_eq_some_iff.1 hx2).1
    have h6 := congrArg (fun q => q[j + 3 - (l.length + 3)]?) this
    simp only [List.getElem?_set_self hlt, hx2] at h6
    exact hne (Option.some.inj h6).symm
end Go.Proofs.Ytfdboahcaiolgaa.Dk

/-
  Plain mathematics of layer 17 (note): which notes may be, their bytes, and the notes of bytes. It speaks of no program. No condition.
-/
set_option linter.unusedVariables false
set_option linter.unusedSimpArgs false
namespace Go.Proofs.Ytfdboahcaiolgaa.Dk
set_option maxRecDepth 100000

/-- A note; the last five are its message. -/
structure Nt where
  kd : Int
  mb : Int
  tx : Int
  ep : Int
  vl : Int
  mq : Int
  mf : Int
  mt : Int
  me : Int
  cg : ByteArray
theorem Nt.ext_ {n m : Nt} (h0 : n.kd = m.kd) (h1 : n.mb = m.mb) (h2 : n.tx = m.tx) (h3 : n.ep = m.ep) (h4 : n.vl = m.vl) (h5 : n.mq = m.mq) (h6 : n.mf = m.mf) (h7 : n.mt = m.mt) (h8 : n.me = m.me) (h9 : n.cg = m.cg) : n = m := by
  cases n; cases m; simp_all
/-- The bytes are in their type's range. -/
def InN (n : Nt) : Prop := (0 ≤ n.mb ∧ n.mb < 256) ∧ (0 ≤ n.mf ∧ n.mf < 256) ∧ (0 ≤ n.mt ∧ n.mt < 256)
def EpN (e : Int) : Prop := 1 ≤ e ∧ e ≤ 1048576
def MsgN (n : Nt) : Prop := (1 ≤ n.mq ∧ n.mq ≤ 4) ∧ n.mf < 8 ∧ n.mt < 8 ∧ EpN n.me ∧ n.cg.size ≤ 500
def NoMsg (n : Nt) : Prop := n.mq = 0 ∧ n.mf = 0 ∧ n.mt = 0 ∧ n.me = 0 ∧ n.cg.size = 0
def KindN (n : Nt) : Prop := (n.kd = 2 ∧ EpN n.ep ∧ (n.vl = 1 ∨ n.vl = 2)) ∨ (n.kd = 3 ∧ EpN n.ep ∧ n.vl = 0) ∨ (n.kd = 4 ∧ n.ep = 0 ∧ n.vl = 0) ∨ (n.kd = 5 ∧ n.ep = 0 ∧ 0 ≤ n.vl ∧ n.vl ≤ 2)
/-- Which notes may be. -/
def RightN (n : Nt) : Prop := n.mb < 8 ∧ ((n.kd = 1 ∧ n.tx = 0 ∧ n.ep = 0 ∧ n.vl = 0 ∧ MsgN n) ∨ (NoMsg n ∧ (0 ≤ n.tx ∧ n.tx < 1000) ∧ KindN n))
instance (e : Int) : Decidable (EpN e) := by unfold EpN; infer_instance
instance (n : Nt) : Decidable (MsgN n) := by unfold MsgN; infer_instance
instance (n : Nt) : Decidable (NoMsg n) := by unfold NoMsg; infer_instance
instance (n : Nt) : Decidable (KindN n) := by unfold KindN; infer_instance
instance (n : Nt) : Decidable (RightN n) := by unfold RightN; infer_instance
/-- What every note that may be keeps to. -/
structure BoundN (n : Nt) : Prop where
  kd : 1 ≤ n.kd ∧ n.kd ≤ 5
  mb : 0 ≤ n.mb ∧ n.mb < 8
  tx : 0 ≤ n.tx ∧ n.tx < 1000
  ep : 0 ≤ n.ep ∧ n.ep ≤ 1048576
  vl : 0 ≤ n.vl ∧ n.vl ≤ 2
  mq : 0 ≤ n.mq ∧ n.mq ≤ 4
  mf : 0 ≤ n.mf ∧ n.mf < 8
  mt : 0 ≤ n.mt ∧ n.mt < 8
  me : 0 ≤ n.me ∧ n.me ≤ 1048576
  cg : n.cg.size ≤ 500
theorem bound_n {n : Nt} (hi : InN n) (h : RightN n) : BoundN n := by
  obtain ⟨⟨i1, _⟩, ⟨i2, _⟩, ⟨i3, _⟩⟩ := hi
  obtain ⟨hm, h⟩ := h
  rcases h with ⟨a, b, c, d, ⟨e1, e2⟩, e3, e4, e5, e6⟩ | ⟨⟨a, b, c, d, e⟩, f, g⟩
  · obtain ⟨e7, e8⟩ := e5
    exact ⟨by omega, by omega, by omega, by omega, by omega, by omega, by omega, by omega, by omega, e6⟩
  · unfold KindN EpN at g
    exact ⟨by omega, by omega, by omega, by omega, by omega, by omega, by omega, by omega, by omega, by omega⟩
/-- The shape "aabcaaaact", the values of a note, its bytes. -/
def shN : List UInt8 := [97, 97, 98, 99, 97, 97, 97, 97, 99, 116]
def cn (k : Int) : CV := ⟨k.toNat, ⟨#[]⟩⟩
def cvN (n : Nt) : List CV := [cn n.kd, cn n.mb, cn n.tx, cn n.ep, cn n.vl, cn n.mq, cn n.mf, cn n.mt, cn n.me, ⟨0, n.cg⟩]
def encN (n : Nt) : List UInt8 := enc shN (cvN n)
def byN (n : Nt) : List UInt8 := frameB (encN n)
theorem fitN1 {k : Int} (h : k < 256) : fitB 97 (cn k) = true := by simp [fitB, wd, cn, ByteArray.size]; omega
theorem fitN2 {k : Int} (h : k < 65536) : fitB 98 (cn k) = true := by simp [fitB, wd, cn, ByteArray.size]; omega
theorem fitN4 {k : Int} (h : k < 4294967296) : fitB 99 (cn k) = true := by simp [fitB, wd, cn, ByteArray.size]; omega
theorem fitNt {t : ByteArray} (h : t.size ≤ 2000) : fitB 116 ⟨0, t⟩ = true := by simp [fitB, h]
theorem fits_n {n : Nt} (h : BoundN n) : fitsB shN (cvN n) = true := by
  have := h.kd; have := h.mb; have := h.tx; have := h.ep; have := h.vl; have := h.mq; have := h.mf; have := h.mt; have := h.me; have := h.cg
  simp [shN, cvN, fitsB, fitN1 (k := n.kd) (by omega), fitN1 (k := n.mb) (by omega), fitN2 (k := n.tx) (by omega), fitN4 (k := n.ep) (by omega), fitN1 (k := n.vl) (by omega), fitN1 (k := n.mq) (by omega), fitN1 (k := n.mf) (by omega), fitN1 (k := n.mt) (by omega), fitN4 (k := n.me) (by omega), fitNt (t := n.cg) (by omega)]
theorem encN_length (n : Nt) : (encN n).length = 18 + n.cg.size := by
  have h1 : ∀ k : Int, (encV 97 (cn k)).length = 1 := fun k => by simp [encV, num_length, wd]
  have h2 : ∀ k : Int, (encV 98 (cn k)).length = 2 := fun k => by simp [encV, num_length, wd]
  have h4 : ∀ k : Int, (encV 99 (cn k)).length = 4 := fun k => by simp [encV, num_length, wd]
  have ht : (encV 116 ⟨0, n.cg⟩).length = 2 + n.cg.size := by simp [encV, num_length, bl_length]
  simp only [encN, shN, cvN, enc, List.length_append, h1, h2, h4, ht, List.length_nil]
  omega
theorem byN_length (n : Nt) : (byN n).length = 25 + n.cg.size := by rw [byN, frameB_length, encN_length]; omega
theorem eE_n {n : Nt} (h : BoundN n) : eE shN (cvN n) = 0 ∧ bE shN (cvN n) = encN n := by
  have e : eE shN (cvN n) = 0 := eE_zero.2 ⟨by decide, rfl, fits_n h, by have := encN_length n; have := h.cg; unfold encN at *; omega⟩
  exact ⟨e, by unfold bE; rw [if_pos e]; rfl⟩
/-- The note of ten values. -/
def ofN (l : List CV) : Nt :=
  let g := fun i => ((l.getD i ⟨0, ⟨#[]⟩⟩).n : Int)
  ⟨g 0, g 1, g 2, g 3, g 4, g 5, g 6, g 7, g 8, (l.getD 9 ⟨0, ⟨#[]⟩⟩).s⟩
theorem ofN_cvN {n : Nt} (h : BoundN n) : ofN (cvN n) = n := by
  have := h.kd; have := h.mb; have := h.tx; have := h.ep; have := h.vl; have := h.mq; have := h.mf; have := h.mt; have := h.me
  apply Nt.ext_ <;> simp [ofN, cvN, cn] <;> omega
theorem fit_n {c : UInt8} (hc : ¬ c = 116) {v : CV} (h : fitB c v = true) : v = cn (v.n : Int) ∧ v.n < 256 ^ wd c := by
  unfold fitB at h
  rw [if_neg hc] at h
  simp at h
  obtain ⟨n, s⟩ := v
  obtain ⟨h1, h2⟩ := h
  refine ⟨CV.ext_ (by simp [cn]) ?_, h2⟩
  have h3 : s = ByteArray.empty := by simpa using h1
  rw [h3]
  rfl
theorem fit_t {v : CV} (h : fitB 116 v = true) : v.n = 0 ∧ v.s.size ≤ 2000 := by simpa [fitB] using h
theorem cvN_ofN {l : List CV} (hl : l.length = shN.length) (h : fitsB shN l = true) : cvN (ofN l) = l ∧ InN (ofN l) ∧ 0 ≤ (ofN l).kd := by
  match l, hl with
  | [v0, v1, v2, v3, v4, v5, v6, v7, v8, v9], _ =>
    simp only [shN, fitsB, Bool.and_eq_true] at h
    obtain ⟨h0, h1, h2, h3, h4, h5, h6, h7, h8, h9, _⟩ := h
    have e0 := fit_n (by decide) h0
    have e1 := fit_n (by decide) h1
    have e2 := fit_n (by decide) h2
    have e3 := fit_n (by decide) h3
    have e4 := fit_n (by decide) h4
    have e5 := fit_n (by decide) h5
    have e6 := fit_n (by decide) h6
    have e7 := fit_n (by decide) h7
    have e8 := fit_n (by decide) h8
    have e9 := fit_t h9
    have w1 : 256 ^ wd 97 = 256 := by decide
    rw [w1] at e1 e6 e7
    have a9 : (⟨0, v9.s⟩ : CV) = v9 := CV.ext_ e9.1.symm rfl
    refine ⟨?_, ⟨⟨?_, ?_⟩, ⟨?_, ?_⟩, ⟨?_, ?_⟩⟩, ?_⟩
    · simp only [cvN, ofN, List.getD_cons_zero, List.getD_cons_succ]
      rw [← e0.1, ← e1.1, ← e2.1, ← e3.1, ← e4.1, ← e5.1, ← e6.1, ← e7.1, ← e8.1, a9]
    all_goals simp only [ofN, List.getD_cons_zero, List.getD_cons_succ]
    all_goals omega
/-- Encode. -/
def eNt (n : Nt) : Nat := if RightN n then 0 else 2
def bNt (n : Nt) : List UInt8 := if RightN n then byN n else []
/-- Decode: the note of bytes, if there is one. -/
def dNt (b : List UInt8) : Option Nt :=
  if fE b = 0 ∧ fK b = b.length then
    match okD shN (fC b) with
    | some l => if RightN (ofN l) then some (ofN l) else none
    | none => none
  else none
theorem dNt_some {b : List UInt8} {n : Nt} : dNt b = some n ↔ InN n ∧ RightN n ∧ b = byN n := by
  constructor
  · intro h
    unfold dNt at h
    split at h
    · rename_i h1
      cases ho : okD shN (fC b) with
      | none => rw [ho] at h; cases h
      | some l =>
        rw [ho] at h
        simp only at h
        split at h
        · rename_i hr
          cases h
          obtain ⟨o1, o2, o3, _⟩ := okD_some.1 ho
          obtain ⟨c1, c2, _⟩ := cvN_ofN o1 o2
          refine ⟨c2, hr, ?_⟩
          obtain ⟨f1, f2⟩ := first_frame h1.1
          have f3 := fK_ok h1.1
          unfold byN encN
          rw [c1, o3, ← f1, ← f3, h1.2, List.take_length]
        · cases h
    · cases h
  · rintro ⟨hi, hr, rfl⟩
    have hb := bound_n hi hr
    have hl : (encN n).length ≤ 4000 := by have := encN_length n; have := hb.cg; omega
    obtain ⟨f1, f2, f3⟩ := frame_first (encN n) [] hl
    rw [List.append_nil] at f1 f2 f3
    have ho : okD shN (encN n) = some (cvN n) := okD_some.2 ⟨rfl, fits_n hb, rfl, hl⟩
    unfold dNt byN
    rw [if_pos ⟨f1, by rw [f3, frameB_length]⟩, f2, ho]
    simp only
    rw [ofN_cvN hb, if_pos hr]
/-- Unlike notes have unlike bytes. -/
theorem byN_inj {n m : Nt} (hn : InN n) (hm : InN m) (rn : RightN n) (rm : RightN m) (h : byN n = byN m) : n = m := by
  have a := dNt_some.2 ⟨hn, rn, rfl⟩
  have b := dNt_some.2 ⟨hm, rm, rfl⟩
  rw [h, b] at a
  cases a
  rfl
/-- Of a beginning of a note's bytes there is none. -/
theorem dNt_short {n : Nt} (hi : InN n) (hr : RightN n) {j : Nat} (hj : j < (byN n).length) : dNt ((byN n).take j) = none := by
  have hb := bound_n hi hr
  have hl : (encN n).length ≤ 4000 := by have := encN_length n; have := hb.cg; omega
  have := first_short (encN n) [] hl j (by rw [byN, frameB_length] at hj; exact hj)
  rw [List.append_nil] at this
  unfold dNt
  rw [if_neg (fun h => this h.1)]
/-- .. nor of them with one turned, but for those of the size. -/
theorem dNt_turned {n : Nt} (hi : InN n) (hr : RightN n) {j : Nat} {x y : UInt8} (hx : (byN n)[j]? = some x) (hne : ¬ x = y) (hj : j = 0 ∨ 3 ≤ j) : dNt ((byN n).set j y) = none := by
  have hb := bound_n hi hr
  have hl : (encN n).length ≤ 4000 := by have := encN_length n; have := hb.cg; omega
  have hz : ¬ fE ((byN n).set j y) = 0 := by
    rcases hj with rfl | hj
    · intro h
      have h1 := (fE_zero h).2.1
      have hlen : 0 < (byN n).length := by rw [byN_length]; omega
      rw [List.getElem?_set_self hlen] at h1
      have h2 : (byN n)[0]? = some 1 := by unfold byN frameB headB; rfl
      rw [h2] at hx
      cases hx
      cases h1
      exact hne rfl
    · obtain ⟨i, rfl⟩ : ∃ i, j = i + 3 := ⟨j - 3, by omega⟩
      exact frame_turned (encN n) hl i x y hx hne
  unfold dNt
  rw [if_neg (fun h => hz h.1)]
end Go.Proofs.Ytfdboahcaiolgaa.Dk
