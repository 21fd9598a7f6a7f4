/-
  Plain mathematics of layer 2 (code): the bytes of values of a shape, and the values of bytes, as lists. It speaks of no program. No condition.
-/
import Derived.Below
import Derived.Test.YtcfdfimkgehdfaaDzByt
import Derived.Test.YtcfdfimkgehdfaaRows
import Derived.WalkKit
import Derived.WalkSpells
import Derived.WalkLawsBesides
import Derived.Deep.QuietTactic
import Derived.BigQuiet
import Derived.Lib.Hide
import Derived.IntWalk
import Derived.StillTailTactics
import Derived.Laws.BitsAllLaws
import Derived.Lib.AppendStr
import Derived.Laws.MakeOwn
import Derived.Lib.ConvBytes
import Derived.Deep.RegionHeld3
namespace Go.Proofs.Ytcfdfimkgehdfaa.Dz
set_option maxRecDepth 100000

/-- A value: a number and a string. -/
structure CV where
  n : Nat
  s : ByteArray

theorem CV.ext_ {v u : CV} (h1 : v.n = u.n) (h2 : v.s = u.s) : v = u := by cases v; cases u; simp_all

def wd (c : UInt8) : Nat := if c = 97 then 1 else if c = 98 then 2 else if c = 116 then 2 else if c = 99 then 4 else if c = 100 then 8 else 0
def wrf (c : UInt8) : Nat := if c = 116 then 0 else wd c
theorem wd_le (c : UInt8) : wd c ≤ 8 := by unfold wd; (repeat' split) <;> omega
theorem wd_t : wd 116 = 2 := by decide
theorem wr_le (c : UInt8) : wrf c ≤ 8 := by unfold wrf; split; omega; exact wd_le c

/-- Does a value fit a letter? -/
def fitB (c : UInt8) (v : CV) : Bool := if c = 116 then v.n == 0 && decide (v.s.size ≤ 2000) else v.s.size == 0 && decide (v.n < 256 ^ wd c)
def encV (c : UInt8) (v : CV) : List UInt8 := if c = 116 then num v.s.size 2 ++ bl v.s else num v.n (wd c)
def enc : List UInt8 → List CV → List UInt8
  | c :: cs, v :: vs => encV c v ++ enc cs vs
  | _, _ => []
def fitsB : List UInt8 → List CV → Bool
  | c :: cs, v :: vs => fitB c v && fitsB cs vs
  | _, _ => true
def letB (c : UInt8) : Bool := wd c != 0
def properB (sh : List UInt8) : Bool := decide (sh.length ≤ 100) && sh.all letB
def okE (sh : List UInt8) (l : List CV) : Bool := properB sh && (l.length == sh.length) && fitsB sh l
def eE (sh : List UInt8) (l : List CV) : Nat := if okE sh l then (if 4000 < (enc sh l).length then 3 else 0) else 2
def bE (sh : List UInt8) (l : List CV) : List UInt8 := if eE sh l = 0 then enc sh l else []

/-- One value off the front of bytes. -/
def decV (c : UInt8) (b : List UInt8) : Option (CV × List UInt8) :=
  if c = 116 then
    if b.length < 2 then none
    else if 2000 < val (b.take 2) then none
    else if (b.drop 2).length < val (b.take 2) then none
    else some (⟨0, mkS ((b.drop 2).take (val (b.take 2)))⟩, (b.drop 2).drop (val (b.take 2)))
  else if b.length < wd c then none
  else some (⟨val (b.take (wd c)), mkS []⟩, b.drop (wd c))
def decs : List UInt8 → List UInt8 → Option (List CV × List UInt8)
  | [], b => some ([], b)
  | c :: cs, b =>
    match decV c b with
    | none => none
    | some (v, r) =>
      match decs cs r with
      | none => none
      | some (l, r') => some (v :: l, r')
def okD (sh b : List UInt8) : Option (List CV) :=
  if b.length ≤ 4000 then
    match decs sh b with
    | some (l, []) => some l
    | _ => none
  else none
def eD (sh b : List UInt8) : Nat := if properB sh then (if (okD sh b).isSome then 0 else 4) else 2
def lD (sh b : List UInt8) : List CV := if properB sh then (okD sh b).getD [] else []

theorem decV_enc (c : UInt8) (v : CV) (r : List UInt8) (h : fitB c v = true) : decV c (encV c v ++ r) = some (v, r) := by
  unfold decV encV
  unfold fitB at h
  by_cases hc : c = 116
  · simp only [if_pos hc, Bool.and_eq_true, beq_iff_eq, decide_eq_true_eq] at h ⊢
    have hl : (num v.s.size 2).length = 2 := num_length _ _
    have h1 : (num v.s.size 2 ++ bl v.s ++ r).take 2 = num v.s.size 2 := by rw [List.append_assoc, List.take_left' hl]
    have h2 : (num v.s.size 2 ++ bl v.s ++ r).drop 2 = bl v.s ++ r := by rw [List.append_assoc, List.drop_left' hl]
    have h3 : val (num v.s.size 2) = v.s.size := by rw [val_num]; exact Nat.mod_eq_of_lt (by omega)
    rw [h1, h2, h3, if_neg (by simp [hl]), if_neg (by omega), if_neg (by simp [bl_length])]
    rw [List.take_left' (bl_length _), List.drop_left' (bl_length _), mkS_bl]
    rw [← h.1]
  · simp only [if_neg hc, Bool.and_eq_true, beq_iff_eq, decide_eq_true_eq] at h ⊢
    have hl : (num v.n (wd c)).length = wd c := num_length _ _
    rw [if_neg (by simp [hl]), List.take_left' hl, List.drop_left' hl, val_num, Nat.mod_eq_of_lt h.2]
    congr 2
    exact CV.ext_ rfl (bl_inj (by rw [bl_mkS]; exact (List.eq_nil_of_length_eq_zero (by rw [bl_length]; exact h.1)).symm))

theorem enc_decV (c : UInt8) (b : List UInt8) (v : CV) (r : List UInt8) (h : decV c b = some (v, r)) : b = encV c v ++ r ∧ fitB c v = true := by
  unfold decV at h
  by_cases hc : c = 116
  · simp only [if_pos hc] at h
    split at h
    · cases h
    · split at h
      · cases h
      · split at h
        · cases h
        · rename_i h1 h2 h3
          simp only [Option.some.injEq, Prod.mk.injEq] at h
          obtain ⟨rfl, rfl⟩ := h
          have hsz : (mkS (List.take (val (List.take 2 b)) (List.drop 2 b))).size = val (List.take 2 b) := by rw [mkS_size, List.length_take]; omega
          have h4 : num (val (b.take 2)) 2 = b.take 2 := by
            have := num_val (b.take 2)
            rwa [List.length_take, Nat.min_eq_left (by omega)] at this
          refine ⟨?_, ?_⟩
          · unfold encV
            rw [if_pos hc]
            simp only []
            rw [hsz, h4, bl_mkS, List.append_assoc, List.take_append_drop, List.take_append_drop]
          · unfold fitB
            rw [if_pos hc]
            simp only [hsz]
            simp
            omega
  · simp only [if_neg hc] at h
    split at h
    · cases h
    · rename_i h1
      simp only [Option.some.injEq, Prod.mk.injEq] at h
      obtain ⟨rfl, rfl⟩ := h
      have h4 : num (val (b.take (wd c))) (wd c) = b.take (wd c) := by
        have := num_val (b.take (wd c))
        rwa [List.length_take, Nat.min_eq_left (by omega)] at this
      have h5 : val (b.take (wd c)) < 256 ^ wd c := by
        have := val_lt (b.take (wd c))
        rwa [List.length_take, Nat.min_eq_left (by omega)] at this
      refine ⟨?_, ?_⟩
      · unfold encV
        rw [if_neg hc]
        simp only []
        rw [h4, List.take_append_drop]
      · unfold fitB
        rw [if_neg hc]
        simp [h5, mkS_size]

theorem decs_enc : ∀ (sh : List UInt8) (l : List CV) (r : List UInt8), l.length = sh.length → fitsB sh l = true → decs sh (enc sh l ++ r) = some (l, r)
  | [], [], r, _, _ => rfl
  | [], _ :: _, _, h, _ => by simp at h
  | _ :: _, [], _, h, _ => by simp at h
  | c :: cs, v :: vs, r, h, hf => by
    simp only [fitsB, Bool.and_eq_true] at hf
    simp only [enc, decs, List.append_assoc, decV_enc c v _ hf.1, decs_enc cs vs r (by simpa using h) hf.2]

theorem enc_decs : ∀ (sh b : List UInt8) (l : List CV) (r : List UInt8), decs sh b = some (l, r) → b = enc sh l ++ r ∧ l.length = sh.length ∧ fitsB sh l = true
  | [], b, l, r, h => by
    simp only [decs, Option.some.injEq, Prod.mk.injEq] at h
    obtain ⟨rfl, rfl⟩ := h
    simp [enc, fitsB]
  | c :: cs, b, l, r, h => by
    simp only [decs] at h
    split at h
    · cases h
    · rename_i v r1 hv
      split at h
      · cases h
      · rename_i l' r' hl
        simp only [Option.some.injEq, Prod.mk.injEq] at h
        obtain ⟨rfl, rfl⟩ := h
        obtain ⟨h1, h2⟩ := enc_decV c b v r1 hv
        obtain ⟨h3, h4, h5⟩ := enc_decs cs r1 l' r' hl
        exact ⟨by rw [h1, h3]; simp [enc], by simp [h4], by simp [fitsB, h2, h5]⟩

theorem eE_zero {sh : List UInt8} {l : List CV} : eE sh l = 0 ↔ properB sh = true ∧ l.length = sh.length ∧ fitsB sh l = true ∧ (enc sh l).length ≤ 4000 := by
  unfold eE okE
  constructor
  · intro h
    split at h
    · rename_i h1
      simp only [Bool.and_eq_true, beq_iff_eq] at h1
      split at h
      · cases h
      · exact ⟨h1.1.1, h1.1.2, h1.2, by omega⟩
    · cases h
  · rintro ⟨h1, h2, h3, h4⟩
    rw [if_pos (by simp [h1, h2, h3]), if_neg (by omega)]

theorem okD_some {sh b : List UInt8} {l : List CV} : okD sh b = some l ↔ l.length = sh.length ∧ fitsB sh l = true ∧ enc sh l = b ∧ b.length ≤ 4000 := by
  unfold okD
  constructor
  · intro h
    split at h
    · rename_i hb
      split at h
      · rename_i l' hd
        cases h
        obtain ⟨h1, h2, h3⟩ := enc_decs _ _ _ _ hd
        exact ⟨h2, h3, by simpa using h1.symm, hb⟩
      · cases h
    · cases h
  · rintro ⟨h1, h2, h3, h4⟩
    rw [if_pos h4]
    have := decs_enc sh l [] h1 h2
    rw [List.append_nil, h3] at this
    rw [this]

/-- The document's reading, which goes on past the end of the bytes. -/
def lenV (c : UInt8) (b : List UInt8) : CV × List UInt8 :=
  if c = 116 then (⟨0, mkS ((b.drop 2).take (val (b.take 2)))⟩, b.drop (2 + val (b.take 2))) else (⟨val (b.take (wd c)), mkS []⟩, b.drop (wd c))
def lens : List UInt8 → List UInt8 → List CV
  | [], _ => []
  | c :: cs, b => (lenV c b).1 :: lens cs (lenV c b).2
theorem lens_length : ∀ sh b, (lens sh b).length = sh.length
  | [], _ => rfl
  | c :: cs, b => by simp [lens, lens_length cs]
theorem lenV_dec {c : UInt8} {b : List UInt8} {v : CV} {r : List UInt8} (h : decV c b = some (v, r)) : lenV c b = (v, r) := by
  unfold decV at h
  unfold lenV
  by_cases hc : c = 116
  · simp only [if_pos hc] at h ⊢
    split at h
    · cases h
    · split at h
      · cases h
      · split at h
        · cases h
        · simp only [Option.some.injEq] at h
          rw [← h, List.drop_drop]
  · simp only [if_neg hc] at h ⊢
    split at h
    · cases h
    · simpa using h
theorem lens_decs : ∀ (sh b : List UInt8) (l : List CV) (r : List UInt8), decs sh b = some (l, r) → lens sh b = l
  | [], b, l, r, h => by
    simp only [decs, Option.some.injEq, Prod.mk.injEq] at h
    exact h.1
  | c :: cs, b, l, r, h => by
    simp only [decs] at h
    split at h
    · cases h
    · rename_i v r1 hv
      split at h
      · cases h
      · rename_i l' r' hl
        simp only [Option.some.injEq, Prod.mk.injEq] at h
        obtain ⟨rfl, rfl⟩ := h
        rw [lens, lenV_dec hv, lens_decs cs r1 l' r' hl]
/-- What the document's way comes to. -/
theorem okD_lens (sh b : List UInt8) (hp : properB sh = true) :
    (eE sh (lens sh b) = 0 ∧ enc sh (lens sh b) = b ∧ okD sh b = some (lens sh b)) ∨ (¬ (eE sh (lens sh b) = 0 ∧ enc sh (lens sh b) = b) ∧ okD sh b = none) := by
  by_cases h : eE sh (lens sh b) = 0 ∧ enc sh (lens sh b) = b
  · obtain ⟨h1, h2⟩ := h
    obtain ⟨_, k1, k2, k3⟩ := eE_zero.1 h1
    exact .inl ⟨h1, h2, okD_some.2 ⟨k1, k2, h2, by rw [h2] at k3; exact k3⟩⟩
  · refine .inr ⟨h, ?_⟩
    cases ho : okD sh b with
    | none => rfl
    | some l =>
      exfalso
      apply h
      obtain ⟨k1, k2, k3, k4⟩ := okD_some.1 ho
      have hd := decs_enc sh l [] k1 k2
      rw [List.append_nil, k3] at hd
      rw [lens_decs sh b l [] hd]
      exact ⟨eE_zero.2 ⟨hp, k1, k2, by rw [k3]; exact k4⟩, k3⟩

-- beginnings
theorem enc_append (sh sh' : List UInt8) : ∀ (l l' : List CV), l.length = sh.length → enc (sh ++ sh') (l ++ l') = enc sh l ++ enc sh' l' := by
  induction sh with
  | nil => intro l l' h; simp at h; subst h; rfl
  | cons c cs ih =>
    intro l l' h
    match l, h with
    | v :: vs, h => simp only [List.cons_append, enc, ih vs l' (by simpa using h), List.append_assoc]
theorem fitsB_append (sh sh' : List UInt8) : ∀ (l l' : List CV), l.length = sh.length → fitsB (sh ++ sh') (l ++ l') = (fitsB sh l && fitsB sh' l') := by
  induction sh with
  | nil => intro l l' h; simp at h; subst h; simp [fitsB]
  | cons c cs ih =>
    intro l l' h
    match l, h with
    | v :: vs, h => simp only [List.cons_append, fitsB, ih vs l' (by simpa using h), Bool.and_assoc]

/-- No beginning of an encoding is one of that shape. -/
theorem okD_short (sh : List UInt8) (l : List CV) (h : eE sh l = 0) (k : Nat) (hk : k < (enc sh l).length) : okD sh ((enc sh l).take k) = none := by
  cases ho : okD sh ((enc sh l).take k) with
  | none => rfl
  | some m =>
    exfalso
    obtain ⟨_, h1, h2, h3⟩ := eE_zero.1 h
    obtain ⟨k1, k2, k3, k4⟩ := okD_some.1 ho
    have d1 := decs_enc sh l [] h1 h2
    have d2 := decs_enc sh m ((enc sh l).drop k) k1 k2
    rw [k3, List.take_append_drop] at d2
    rw [List.append_nil, d2] at d1
    simp only [Option.some.injEq, Prod.mk.injEq] at d1
    have := congrArg List.length d1.2
    simp at this
    omega

-- one letter behind another, as loops go
theorem enc_snoc {sh : List UInt8} {l : List CV} {k : Nat} {c : UInt8} {v : CV} (hc : sh[k]? = some c) (hv : l[k]? = some v) : enc (sh.take (k + 1)) (l.take (k + 1)) = enc (sh.take k) (l.take k) ++ encV c v := by
  obtain ⟨h1, rfl⟩ := List.getElem?_eq_some_iff.1 hc
  obtain ⟨h2, rfl⟩ := List.getElem?_eq_some_iff.1 hv
  rw [List.take_succ_eq_append_getElem h1, List.take_succ_eq_append_getElem h2, enc_append _ _ _ _ (by simp; omega)]
  simp [enc]
theorem fitsB_snoc {sh : List UInt8} {l : List CV} {k : Nat} {c : UInt8} {v : CV} (hc : sh[k]? = some c) (hv : l[k]? = some v) : fitsB (sh.take (k + 1)) (l.take (k + 1)) = (fitsB (sh.take k) (l.take k) && fitB c v) := by
  obtain ⟨h1, rfl⟩ := List.getElem?_eq_some_iff.1 hc
  obtain ⟨h2, rfl⟩ := List.getElem?_eq_some_iff.1 hv
  rw [List.take_succ_eq_append_getElem h1, List.take_succ_eq_append_getElem h2, fitsB_append _ _ _ _ (by simp; omega)]
  simp [fitsB]
theorem fitsB_false {sh : List UInt8} {l : List CV} {k : Nat} {c : UInt8} {v : CV} (hl : l.length = sh.length) (hc : sh[k]? = some c) (hv : l[k]? = some v) (h : fitB c v = false) : fitsB sh l = false := by
  have h1 := fitsB_snoc hc hv
  rw [h, Bool.and_false] at h1
  have h2 := fitsB_append (sh.take (k + 1)) (sh.drop (k + 1)) (l.take (k + 1)) (l.drop (k + 1)) (by simp [hl])
  rw [List.take_append_drop, List.take_append_drop, h1, Bool.false_and] at h2
  exact h2
theorem encV_length {c : UInt8} {v : CV} (h : fitB c v = true) : (encV c v).length = wd c + v.s.size := by
  unfold encV
  unfold fitB at h
  split
  · rename_i hc
    subst hc
    simp [num_length, bl_length, wd_t]
  · rename_i hc
    rw [if_neg hc] at h
    simp at h
    simp [num_length, h.1]
end Go.Proofs.Ytcfdfimkgehdfaa.Dz

/-
  The small functions of layer 2: what width, fits and proper of package code, and width, fits and Shape of the document's answer return. Conditions: a value's number is one of 64 bits, its string and the shape are such as memory can hold.
-/
namespace Go.Proofs.Ytcfdfimkgehdfaa.Dz
set_option maxRecDepth 100000
open Go.RowKit

theorem width_c (c : UInt8) (w : World) :
    Calls Try.prog 76 #[.int .u8 c.toNat] w fun e w' => e = .returned (.int .i64 (wd c)) ∧ w = w' := by
  unfold wd
  by_cases h1 : c = 97
  · subst h1
    go_enter Try.func76, Try.ntmps76
    go_wp2
    go_ret
    exact ⟨rfl, rfl⟩
  rw [if_neg h1]
  by_cases h2 : c = 98
  · subst h2
    go_enter Try.func76, Try.ntmps76
    go_wp2
    go_ret
    exact ⟨rfl, rfl⟩
  rw [if_neg h2]
  by_cases h3 : c = 116
  · subst h3
    go_enter Try.func76, Try.ntmps76
    go_wp2
    go_ret
    exact ⟨rfl, rfl⟩
  rw [if_neg h3]
  by_cases h4 : c = 99
  · subst h4
    go_enter Try.func76, Try.ntmps76
    go_wp2
    go_ret
    exact ⟨rfl, rfl⟩
  rw [if_neg h4]
  by_cases h5 : c = 100
  · subst h5
    go_enter Try.func76, Try.ntmps76
    go_wp2
    go_ret
    exact ⟨rfl, rfl⟩
  rw [if_neg h5]
  have e1 := u8ne 97 97 rfl h1
  have e2 := u8ne 98 98 rfl h2
  have e3 := u8ne 116 116 rfl h3
  have e4 := u8ne 99 99 rfl h4
  have e5 := u8ne 100 100 rfl h5
  clear h1 h2 h3 h4 h5
  go_enter Try.func76, Try.ntmps76
  go_wp2
  go_ret
  exact ⟨rfl, rfl⟩

theorem letB_of {c : UInt8} (h : ¬ wd c = 0) : letB c = true := by
  unfold letB
  simp only [bne_iff_ne]
  exact h

theorem all_snoc {sh : List UInt8} {k : Nat} {c : UInt8} (hc : sh[k]? = some c) : (sh.take (k + 1)).all letB = ((sh.take k).all letB && letB c) := by
  obtain ⟨h1, rfl⟩ := List.getElem?_eq_some_iff.1 hc
  rw [List.take_succ_eq_append_getElem h1, List.all_append]
  simp
theorem all_false {sh : List UInt8} {k : Nat} {c : UInt8} (hc : sh[k]? = some c) (h : letB c = false) : sh.all letB = false := by
  rw [List.all_eq_false]
  exact ⟨c, List.mem_of_getElem? hc, by simp [h]⟩
set_option maxHeartbeats 400000 in
theorem proper_c (s : ByteArray) (w : World) (hs : s.size ≤ maxLen) :
    Calls Try.prog 74 #[.string s] w fun e w' => e = .returned (.bool (properB (bl s))) ∧ w = w' := by
  unfold maxLen at hs
  by_cases hbig : 100 < s.size
  · have hp : properB (bl s) = false := by unfold properB; rw [bl_length, decide_eq_false (by omega), Bool.false_and]
    rw [hp]
    clear hp
    have hbig' : (100 : Int) < (s.size : Int) := by omega
    go_enter Try.func74, Try.ntmps74
    go_wp2
    go_ret
    exact ⟨rfl, rfl⟩
  have hp : properB (bl s) = (bl s).all letB := by unfold properB; rw [bl_length, decide_eq_true (by omega), Bool.true_and]
  rw [hp]
  clear hp
  have hbig' : ¬ (100 : Int) < (s.size : Int) := by omega
  go_enter Try.func74, Try.ntmps74
  go_wp2
  go_loop [9] (fun i => ∃ k : Nat, k ≤ s.size ∧ i = .int .i64 k ∧ Hid (((bl s).take k).all letB = true)) (fun i => s.size - (intOf i).toNat)
  case atStart => exact ⟨0, Nat.zero_le _, rfl, rfl⟩
  case round =>
    obtain ⟨k, hk, rfl, hall⟩ := hrel
    by_cases hlt : k < s.size
    · have Hg := Lib.hid (bl_get s k hlt)
      by_cases hw : wd s[k] = 0
      · have Hw := Lib.hid hw
        clear hw
        go_wp2_with fail
        refine (width_c s[k] _).mono ?_
        rintro e w' ⟨rfl, rfl⟩
        rw [Hw.out]
        go_wp2_with fail
        go_ret
        exact ⟨ret_bool (all_false Hg.out (by unfold letB; rw [Hw.out]; rfl)).symm, rfl⟩
      · have hne : ((wd s[k] : Int) == 0) = false := by rw [beq_eq_false_iff_ne]; omega
        have hw8 := wd_le s[k]
        go_wp2_with fail
        refine (width_c s[k] _).mono ?_
        rintro e w' ⟨rfl, rfl⟩
        go_wp2_with fail
        go_round
        case rel => exact ⟨k + 1, by omega, by go_num, show _ = _ by rw [all_snoc Hg.out, hall.out, letB_of hw]; rfl⟩
        case measure => simp [intOf]; omega
    · go_wp2_with fail
      go_ret
      have : k = s.size := by omega
      subst this
      exact ⟨ret_bool (by rw [← hall.out, List.take_of_length_le (by rw [bl_length]; exact Nat.le_refl _)]), rfl⟩

theorem shr_small (n k : Nat) : ((n : Int) / 2 ^ (8 * k) == 0) = decide (n < 256 ^ k) := by
  rw [shr_nat, Bool.eq_iff_iff]
  have hp : 0 < 256 ^ k := Nat.pow_pos (by omega)
  have := Nat.div_eq_zero_iff (a := n) (b := 256 ^ k)
  simp only [beq_iff_eq, decide_eq_true_eq]
  omega
set_option maxHeartbeats 400000 in
theorem fits_c (c : UInt8) (v : CV) (w : World) (hn : v.n < 18446744073709551616) (hs : v.s.size ≤ maxLen) :
    Calls Try.prog 75 #[.int .u8 c.toNat, .agg #[.int .u64 v.n, .string v.s]] w fun e w' => e = .returned (.bool (fitB c v)) ∧ Below w.heap.size w w' := by
  unfold maxLen at hs
  obtain ⟨n, s⟩ := v
  simp only at hn hs ⊢
  by_cases hc : c = 116
  · subst hc
    by_cases h0 : n = 0
    · subst h0
      go_enter Try.func75, Try.ntmps75
      go_wp2
      go_ret
      exact ⟨ret_bool (by simp [fitB]; omega), (Below.refl _ _).alloc (Nat.le_refl _) _⟩
    · have h0' : ((n : Int) == 0) = false := by rw [beq_eq_false_iff_ne]; omega
      have hf : fitB 116 ⟨n, s⟩ = false := by simp [fitB, h0]
      rw [hf]
      clear h0 hf
      go_enter Try.func75, Try.ntmps75
      go_wp2
      go_ret
      exact ⟨rfl, (Below.refl _ _).alloc (Nat.le_refl _) _⟩
  · have e3 := u8ne 116 116 rfl hc
    by_cases h0 : s.size = 0
    · obtain rfl : s = ByteArray.mk #[] := empty_of_size h0
      have hw8 := wd_le c
      have hf : fitB c ⟨n, ByteArray.mk #[]⟩ = decide (n < 256 ^ wd c) := by simp [fitB, hc, ByteArray.size]
      rw [hf]
      clear h0 hf hc
      go_enter Try.func75, Try.ntmps75
      go_wp2
      have h0' : 0 ≤ 8 * (wd c : Int) := by omega
      have hwr : IntKind.i64.wrap (8 * (wd c : Int)) = 8 * (wd c : Int) := IntWalk.i64_in _ (by omega)
      go_quiet ((go_at_call 76; exact Calls.quiet_of_same ((width_c c _).mono fun e w' hh => ⟨hh.1, hh.2.symm⟩)))
      clear hwr
      go_wp2
      go_ret
      exact ⟨ret_bool (shr_small n (wd c)), belowN ((Below.refl _ _).alloc (Nat.le_refl _) _) _⟩
    · have hse := isEmpty_of_size h0
      have hsn := ne_nil_of_size h0
      have hf : fitB c ⟨n, s⟩ = false := by simp [fitB, hc, h0]
      rw [hf]
      clear h0 hf hc
      go_enter Try.func75, Try.ntmps75
      go_wp2
      go_quiet ((go_at_call 76; exact Calls.quiet_of_same ((width_c c _).mono fun e w' hh => ⟨hh.1, hh.2.symm⟩)))
      go_wp2
      go_ret
      exact ⟨rfl, belowN ((Below.refl _ _).alloc (Nat.le_refl _) _) _⟩

theorem wr_ne {c : UInt8} (h : ¬ c = 116) : wrf c = wd c := if_neg h
theorem letB_or (c : UInt8) : letB c = (!((wrf c : Int) == 0 && ((c.toNat : Int) != 116))) := by
  by_cases h : c = 116
  · subst h; rfl
  · have h2 := u8ne 116 116 rfl h
    rw [wr_ne h]
    unfold letB
    rw [Bool.eq_iff_iff]
    simp only [bne_iff_ne, Bool.not_eq_true', Bool.and_eq_false_iff, beq_eq_false_iff_ne]
    simp only [beq_eq_false_iff_ne] at h2
    simp only [bne_eq_false_iff_eq]
    omega

end Go.Proofs.Ytcfdfimkgehdfaa.Dz

/-
  Bytes in memory: a slice of bytes of a call's own that grows by bytes and by strings; appendNumber of package code, number of the document's answer. Conditions: the slice is one of the call's own (Seg), numbers are of 64 bits and of 8 bytes at most.
-/
namespace Go.Proofs.Ytcfdfimkgehdfaa.Dz
set_option maxRecDepth 100000
open Go.RowKit


set_option maxHeartbeats 400000 in
theorem appendNumber_c (A : Option Addr) (n c : Nat) (bs : List UInt8) (G : Option Nat) (N k : Nat) (w : World) (hseg : Seg w 5 1 A n c (bc bs) G) (_hN : N < 18446744073709551616) (hk : k ≤ 8) (hn : n ≤ 1000000) :
    Calls Try.prog 85 #[.slice A n c, .int .u64 N, .int .i64 k] w (BPost w G (bs ++ num N k)) := by
  obtain ⟨i0, hi0, hz0, hz1, hz2⟩ := info_parts Try.infoB
  have Hi := Lib.hid hi0
  have Hz := Lib.hid hz0
  have Hz1 := Lib.hid hz1
  have Hz2 := Lib.hid hz2
  clear hi0 hz0 hz1 hz2
  go_enter Try.func85, Try.ntmps85
  go_wp2
  go_loopw [0, 7] (fun b i wr => ∃ (j : Nat) (A' : Option Addr) (n' c' : Nat) (G' : Option Nat), j ≤ k ∧ i = .int .i64 ((j : Int) - 1) ∧ b = .slice A' n' c' ∧ n' ≤ n + 8 - j ∧ Seg wr 5 1 A' n' c' (bc (bs ++ (num N k).take (k - j))) G' ∧ w.grownBy wr G ∧ Moved w G G') (fun _ i _ => ((intOf i) + 1).toNat)
  case atStart => exact ⟨k, A, n, c, G, Nat.le_refl _, rfl, rfl, by omega, by simpa using hseg, World.grownBy.refl w _, .inl rfl⟩
  case round =>
    obtain ⟨j, A', n', c', G', hj, rfl, rfl, hn', hs', hg', hm'⟩ := hrel
    match j, hj, hn', hs' with
    | 0, hj, hn', hs' =>
      have H := Lib.hid (show BPost w G (bs ++ num N k) (.returned (.slice A' n' c')) wr from ⟨A', n', c', G', rfl, by rw [Nat.sub_zero, List.take_of_length_le (by rw [num_length]; exact Nat.le_refl _)] at hs'; exact hs', hg', hm'⟩)
      go_wp2_with fail
      go_ret
      exact H.out
    | j + 1, hj, hn', hs' =>
      rw [show ((j + 1 : Nat) : Int) - 1 = (j : Int) by omega]
      have p1 : n' + 1 ≤ maxLen := by simp only [maxLen]; omega
      have p2 : (n' + 1) * 1 ≤ 140737488355328 := by omega
      have p4 : 0 < 1 := by omega
      clear hseg _hN
      go_wp2_with (at_builtin; refine wpList_append_src _ rfl (.tmp 14) (.tmp 20) _ rfl 5 i0 _ 1 1 Try.underlying30 Hi.out Hz.out Hz1.out Hz2.out rfl p4 rfl (hs'.alloc _) rfl (src1 _ _ _) (one_one _ _) p1 p2 ?_; intro A1 c1 G1 w1 hs1 hg1 hm1)
      rw [bc_snoc, List.append_assoc, num_snoc N k j (by omega)] at hs1
      have hm2 : Moved w G G1 := hm'.trans (hm1.of_size (by simp)) hg'.size
      have hg2 : w.grownBy w1 G := grown_trans (grown_alloc hg' _) hm' hg1
      clear hg1 hm1 hs' hg' hm' p1 p2
      go_wp2_with fail
      go_roundw
      case rel => exact ⟨j, A1, n' + 1, c1, G1, by omega, by go_num, rfl, by omega, hs1, hg2, hm2⟩
      case measure => simp [intOf]

theorem encV_t {v : CV} : encV 116 v = num v.s.size 2 ++ bl v.s := if_pos rfl
theorem encV_n {c : UInt8} {v : CV} (h : ¬ c = 116) : encV c v = num v.n (wd c) := if_neg h
set_option maxHeartbeats 400000 in
theorem appendValue_c (A : Option Addr) (n c : Nat) (bs : List UInt8) (G : Option Nat) (l : UInt8) (v : CV) (w : World) (hseg : Seg w 5 1 A n c (bc bs) G) (hv : v.n < 18446744073709551616) (hs : v.s.size ≤ 2000) (hn : n ≤ 1000000) :
    Calls Try.prog 77 #[.slice A n c, .int .u8 l.toNat, .agg #[.int .u64 v.n, .string v.s]] w (BPost w G (bs ++ encV l v)) := by
  obtain ⟨N, s⟩ := v
  simp only at hv hs ⊢
  obtain ⟨i0, hi0, hz0, hz1, hz2⟩ := info_parts Try.infoB
  have Hi := Lib.hid hi0
  have Hz := Lib.hid hz0
  have Hz1 := Lib.hid hz1
  have Hz2 := Lib.hid hz2
  clear hi0 hz0 hz1 hz2
  have hlen := hseg.1
  have hcb := CB.new w 142 #[.int .u64 N, .string s]
  have hsg := hseg.alloc (.cells #[.int .u64 N, .string s] 142)
  have hgr := grown_alloc (World.grownBy.refl w G) (.cells #[.int .u64 N, .string s] 142)
  have hne : some w.heap.size ≠ G := fun e => absurd (hseg.lt _ e.symm) (Nat.lt_irrefl _)
  have hsz : w.heap.size ≤ (w.alloc (.cells #[.int .u64 N, .string s] 142)).heap.size := by simp
  by_cases hc : l = 116
  · subst hc
    rw [encV_t]
    simp only
    go_enter Try.func77, Try.ntmps77
    go_wp2_with fail
    generalize w.alloc (.cells #[.int .u64 N, .string s] 142) = W at *
    have c1 := hcb.cell 1
    simp at c1
    go_still_tail 7, (by kernel_rfl)
    still_call ((width_c 116 _).mono fun e w' hh => ⟨hh.1, hh.2.symm⟩)
    repeat still_step
    refine wpStill_nil ?_
    change wpList _ _ _ _ _ W.drew
    go_wp2_with fail
    refine (appendNumber_c A n c bs G s.size 2 W.drew hsg.drew (by omega) (by omega) hn).mono ?_
    rintro e w1 ⟨A1, n1, c1', G1, rfl, hs1, hg1, hm1⟩
    have hcb1 : CB w1 w.heap.size 142 #[.int .u64 N, .string s] := hcb.drew.same (hg1.block _ hcb.lt hne)
    have d1 := hcb1.cell 1
    simp at d1
    have hn1 : n1 ≤ 1000002 := by have := hs1.1; rw [bc_length, List.length_append, num_length] at this; rw [bc_length] at hlen; omega
    have p1 : n1 + s.size ≤ maxLen := by simp only [maxLen]; omega
    have p2 : n1 + s.size ≤ 140737488355328 := by omega
    have hg1' : w.grownBy w1 G := grown_trans (grown_drew hgr) (.inl rfl) hg1
    have hm1' : Moved w G G1 := hm1.of_size hsz
    clear hcb hsg hgr hne hg1 hm1 hcb1 c1 hseg hlen hsz
    go_wp2_with (at_builtin; refine wpList_append_seg_string _ rfl (.tmp 17) (.tmp 19) _ _ rfl 5 i0 Try.underlying30 Try.underlying9 Hi.out Hz.out Hz1.out Hz2.out rfl hs1 s rfl p1 p2 ?_; intro A2 c2 G2 w2 hs2 hg2 hm2)
    rw [bc_str, ← bc_append, List.append_assoc] at hs2
    have H := Lib.hid (show BPost w G (bs ++ (num s.size 2 ++ bl s)) (.returned (.slice A2 (n1 + s.size) c2)) w2 from ⟨A2, _, c2, G2, rfl, hs2, grown_trans hg1' hm1' hg2, hm1'.trans hm2 hg1'.size⟩)
    clear hs2 hg2 hm2 hs1 hg1' hm1' p1 p2 d1
    go_wp2_with fail
    go_ret
    exact H.out
  · have e3 := u8ne 116 116 rfl hc
    have hw8 := wd_le l
    rw [encV_n hc]
    simp only
    clear hc
    go_enter Try.func77, Try.ntmps77
    go_wp2_with fail
    generalize w.alloc (.cells #[.int .u64 N, .string s] 142) = W at *
    have c0 := hcb.cell 0
    simp at c0
    go_still_tail 5, (by kernel_rfl)
    still_call ((width_c l _).mono fun e w' hh => ⟨hh.1, hh.2.symm⟩)
    repeat still_step
    refine wpStill_nil ?_
    change wpList _ _ _ _ _ W.drew
    go_wp2_with fail
    refine (appendNumber_c A n c bs G N (wd l) W.drew hsg.drew hv hw8 hn).mono ?_
    rintro e w1 ⟨A1, n1, c1', G1, rfl, hs1, hg1, hm1⟩
    have H := Lib.hid (show BPost w G (bs ++ num N (wd l)) (.returned (.slice A1 n1 c1')) w1 from ⟨A1, _, c1', G1, rfl, hs1, grown_trans (grown_drew hgr) (.inl rfl) hg1, hm1.of_size hsz⟩)
    clear hcb hsg hgr hne hg1 hm1 c0 hseg hlen hs1 hsz
    go_wp2_with fail
    go_ret
    exact H.out
end Go.Proofs.Ytcfdfimkgehdfaa.Dz

/-
  Encode of package code: it returns the document's bytes, or the document's error. Conditions: the shape and the strings are such as memory can hold, the values are readable.
-/
namespace Go.Proofs.Ytcfdfimkgehdfaa.Dz
set_option maxRecDepth 100000
open Go.RowKit

/-- A slice of values that can be read. -/
def VR (w : World) (A : Option Addr) (l : List CV) : Prop :=
  ∀ (i : Nat) (v : CV), l[i]? = some v → v.n < 18446744073709551616 ∧ v.s.size ≤ maxLen ∧ ∃ g off, A = some ⟨g, off, none⟩ ∧ g < w.heap.size ∧
    w.cell? ⟨g, off + i * 2, none⟩ = some (.int .u64 v.n) ∧ w.cell? ⟨g, off + i * 2 + 1, none⟩ = some (.string v.s)
theorem VR.below {w w' : World} {A : Option Addr} {l : List CV} {B : Nat} (h : VR w A l) (hb : Below B w w') (hB : w.heap.size ≤ B) : VR w' A l := by
  intro i v hv
  obtain ⟨h1, h2, g, off, h3, h4, h5, h6⟩ := h i v hv
  exact ⟨h1, h2, g, off, h3, by have := hb.size; omega, (hb.cell (p := ⟨g, _, none⟩) (by simp only; omega)).trans h5, (hb.cell (p := ⟨g, _, none⟩) (by simp only; omega)).trans h6⟩
theorem VR.at_ {w : World} {A : Option Addr} {l : List CV} (h : VR w A l) {i : Nat} (hi : i < l.length) :
    ∃ (v : CV) (g off : Nat), Hid (l[i]? = some v) ∧ v.n < 18446744073709551616 ∧ v.s.size ≤ maxLen ∧ A = some ⟨g, off, none⟩ ∧
    w.cell? ⟨g, off + i * 2, none⟩ = some (.int .u64 v.n) ∧ w.cell? ⟨g, off + i * 2 + 1, none⟩ = some (.string v.s) := by
  obtain ⟨h1, h2, g, off, h3, h4, h5, h6⟩ := h i l[i] (List.getElem?_eq_getElem hi)
  exact ⟨l[i], g, off, List.getElem?_eq_getElem hi, h1, h2, h3, h5, h6⟩

/-- A call gave bytes and a number back. -/
def EPostC (w : World) (bs : List UInt8) (k : Nat) (e : Ending) (w' : World) : Prop :=
  ∃ A n c G, e = .returned (.tuple #[.slice A n c, .int .i64 (k : Int)]) ∧ Seg w' 5 1 A n c (bc bs) G ∧ Below w.heap.size w w'

theorem eE_bad {sh : List UInt8} {l : List CV} (h : okE sh l = false) : eE sh l = 2 ∧ bE sh l = [] := by
  have : eE sh l = 2 := by unfold eE; rw [h]; rfl
  exact ⟨this, by unfold bE; rw [this]; rfl⟩
theorem eE_big {sh : List UInt8} {l : List CV} (h : okE sh l = true) (h2 : 4000 < (enc sh l).length) : eE sh l = 3 ∧ bE sh l = [] := by
  have : eE sh l = 3 := by unfold eE; rw [h, if_pos rfl, if_pos h2]
  exact ⟨this, by unfold bE; rw [this]; rfl⟩
theorem eE_ok {sh : List UInt8} {l : List CV} (h : okE sh l = true) (h2 : ¬ 4000 < (enc sh l).length) : eE sh l = 0 ∧ bE sh l = enc sh l := by
  have : eE sh l = 0 := by unfold eE; rw [h, if_pos rfl, if_neg h2]
  exact ⟨this, by unfold bE; rw [if_pos this]⟩
theorem epost_nil {w w' : World} {sh : List UInt8} {l : List CV} {k : Nat} (h : eE sh l = k ∧ bE sh l = []) (hb : Below w.heap.size w w') : EPostC w (bE sh l) (eE sh l) (.returned (.tuple #[.slice none 0 0, .int .i64 (k : Int)])) w' := by
  rw [h.1, h.2]
  exact ⟨none, 0, 0, none, rfl, Seg.nil _ _ _, hb⟩
theorem ret2_eq {w w' : World} {bs : List UInt8} {k : Nat} {e e' : Ending} (h : EPostC w bs k e' w') (he : e = e') : EPostC w bs k e w' := by rw [he]; exact h
theorem fitB_size {c : UInt8} {v : CV} (h : fitB c v = true) : v.s.size ≤ 2000 := by
  unfold fitB at h
  split at h <;> simp only [Bool.and_eq_true, beq_iff_eq, decide_eq_true_eq] at h <;> omega

set_option maxRecDepth 100000 in
set_option maxHeartbeats 1000000 in
theorem encode_c (s : ByteArray) (A : Option Addr) (cap : Nat) (l : List CV) (w : World) (hs : s.size ≤ maxLen) (hl : VR w A l) :
    Calls Try.prog 54 #[.string s, .slice A l.length cap] w (EPostC w (bE (bl s) l) (eE (bl s) l)) := by
  have hs0 := hs
  unfold maxLen at hs
  have hbl := bl_length s
  by_cases hp : properB (bl s) = false
  · have H := Lib.hid (epost_nil (w := w) (w' := w) (eE_bad (l := l) (by unfold okE; rw [hp]; rfl)) (Below.refl _ _))
    have Hp := Lib.hid hp
    clear hp hbl
    go_enter Try.func54, Try.ntmps54
    go_wp2_with fail
    refine (proper_c s _ hs0).mono ?_
    rintro e w' ⟨rfl, rfl⟩
    rw [Hp.out]
    go_wp2_with fail
    go_ret2
    exact H.out
  have hp' : properB (bl s) = true := by simpa using hp
  have hp100 : s.size ≤ 100 := by
    unfold properB at hp'
    simp only [Bool.and_eq_true, decide_eq_true_eq] at hp'
    omega
  have Hp := Lib.hid hp'
  clear hp
  by_cases hne : l.length = s.size
  case neg =>
    have H := Lib.hid (epost_nil (w := w) (w' := w) (eE_bad (sh := bl s) (l := l) (by unfold okE; rw [show (l.length == (bl s).length) = false by rw [hbl]; simpa using hne]; simp)) (Below.refl _ _))
    have hne' : ((l.length : Int) != (s.size : Int)) = true := by rw [bne_iff_ne]; omega
    clear hp' hbl hne
    go_enter Try.func54, Try.ntmps54
    go_wp2_with fail
    refine (proper_c s _ hs0).mono ?_
    rintro e w' ⟨rfl, rfl⟩
    rw [Hp.out]
    go_wp2_with fail
    go_ret2
    exact H.out
  have Hlen := Lib.hid hne
  have hln : l.length ≤ 100 := by omega
  have hln' : s.size ≤ l.length := by omega
  have hln2 : l.length ≤ s.size := by omega
  have hne' : ((l.length : Int) != (s.size : Int)) = false := by rw [bne_eq_false_iff_eq]; omega
  have Hbl := Lib.hid hbl
  clear hp' hbl hne
  go_enter Try.func54, Try.ntmps54
  go_wp2_with fail
  refine (proper_c s _ hs0).mono ?_
  rintro e w' ⟨rfl, rfl⟩
  rw [Hp.out]
  go_wp2_with fail
  clear hne'
  go_loopw [6, 24] (fun sz i wr => ∃ k q : Nat, k ≤ l.length ∧ i = .int .i64 k ∧ sz = .int .i64 q ∧ q ≤ 2010 * k ∧ Hid (q = (enc ((bl s).take k) (l.take k)).length) ∧ Hid (fitsB ((bl s).take k) (l.take k) = true) ∧ Below w.heap.size w wr) (fun _ i _ => l.length - (intOf i).toNat)
  case atStart => exact ⟨0, 0, by omega, rfl, rfl, by omega, rfl, rfl, Below.refl _ _⟩
  case round =>
    obtain ⟨k, q, hk, rfl, rfl, hq, Hq, Hf, hbw⟩ := hrel
    by_cases hlt : k < l.length
    · obtain ⟨v, g, off, Hv, hv1, hv2, rfl, c0, c1⟩ := (hl.below hbw (Nat.le_refl _)).at_ hlt
      have hks : k < s.size := by omega
      have Hg := Lib.hid (bl_get s k hks)
      have hcb := CB.new wr 142 #[.int .u64 v.n, .string v.s]
      have hb1 : Below w.heap.size w (wr.alloc (.cells #[.int .u64 v.n, .string v.s] 142)) := hbw.alloc hbw.size _
      go_wp2_with fail
      generalize wr.alloc (.cells #[.int .u64 v.n, .string v.s] 142) = W at *
      have d0 := hcb.cell 0
      have d1 := hcb.cell 1
      simp at d0 d1
      go_still_tail 4, (by kernel_rfl)
      change wpList _ _ _ _ _ W.drew
      go_wp2_with fail
      refine (fits_c s[k] v _ hv1 hv2).mono ?_
      rintro e w2 ⟨rfl, hb2⟩
      have hcb2 : CB w2 wr.heap.size 142 #[.int .u64 v.n, .string v.s] := hcb.drew.same (hb2.block _ hcb.lt)
      have hbw2 : Below w.heap.size w w2 := hb1.drew.trans (hb2.mono hb1.size)
      clear hb2 hcb hb1 d0 d1 c0 c1
      cases hfit : fitB s[k] v
      · have H := Lib.hid (epost_nil (w := w) (w' := w2) (eE_bad (sh := bl s) (l := l) (by unfold okE; rw [fitsB_false (by rw [Hlen.out, Hbl.out]) Hg.out Hv.out hfit, Bool.and_false])) hbw2)
        clear hfit
        go_wp2_with fail
        go_ret2
        exact H.out
      · have hsz := fitB_size hfit
        have hw8 := wd_le s[k]
        have d1 := hcb2.cell 1
        simp at d1
        have HL := Lib.hid (show (enc ((bl s).take (k + 1)) (l.take (k + 1))).length = q + (wd s[k] + v.s.size) by rw [enc_snoc Hg.out Hv.out, List.length_append, ← Hq.out, encV_length hfit])
        have HF := Lib.hid (show fitsB ((bl s).take (k + 1)) (l.take (k + 1)) = true by rw [fitsB_snoc Hg.out Hv.out, Hf.out, hfit]; rfl)
        clear hfit Hq Hf Hg Hv hcb2
        go_wp2_with fail
        have e1 : IntKind.i64.wrap ((wd s[k] : Int) + (v.s.size : Int)) = (wd s[k] : Int) + (v.s.size : Int) := IntWalk.i64_in _ (by omega)
        have e2 : IntKind.i64.wrap ((q : Int) + ((wd s[k] : Int) + (v.s.size : Int))) = (q : Int) + ((wd s[k] : Int) + (v.s.size : Int)) := IntWalk.i64_in _ (by omega)
        go_quiet ((go_at_call 76; exact Calls.quiet_of_same ((width_c s[k] _).mono fun e w' hh => ⟨hh.1, hh.2.symm⟩)))
        clear e1 e2
        go_wp2_with fail
        go_roundw
        case rel => exact ⟨k + 1, q + (wd s[k] + v.s.size), by omega, by go_num, by go_num, by omega, HL.out.symm, HF.out, belowN hbw2 _⟩
        case measure => simp [intOf]; omega
    · obtain rfl : k = l.length := by omega
      have HF := Lib.hid (show fitsB (bl s) l = true by have := Hf.out; rwa [List.take_length, List.take_of_length_le (by rw [Hbl.out]; omega)] at this)
      have HQ := Lib.hid (show q = (enc (bl s) l).length by have := Hq.out; rwa [List.take_length, List.take_of_length_le (by rw [Hbl.out]; omega)] at this)
      have HO := Lib.hid (show okE (bl s) l = true by unfold okE; rw [Hp.out, HF.out, Hlen.out, Hbl.out]; simp)
      clear Hf Hq
      by_cases hbig : (4000 : Int) < (q : Int)
      · have H := Lib.hid (epost_nil (w := w) (w' := wr) (eE_big HO.out (by rw [← HQ.out]; omega)) hbw)
        go_wp2_with fail
        go_ret2
        exact H.out
      · obtain ⟨i0, hi0, hz0, hz1, hz2⟩ := info_parts Try.infoB
        obtain ⟨w3, hrun, hseg3, hg3⟩ := run_make_seg (P := Try.prog) wr 30 5 i0 _ 1 Try.underlying30 hi0 hz0 hz1 q (by rw [hz2]; omega) (by simp only [maxLen]; omega)
        have HE := Lib.hid (eE_ok HO.out (by rw [← HQ.out]; omega))
        have hb3 : Below w.heap.size w w3 := hbw.trans (grown_below hg3 hbw.size (fun g e => by cases e))
        have hG3 : w.heap.size ≤ wr.heap.size := hbw.size
        clear hi0 hz0 hz1 hz2 HQ hg3
        go_wp2_with fail
        clear hrun
        go_loopw [9, 52] (fun b i wq => ∃ (k : Nat) (A' : Option Addr) (n' c' : Nat) (G' : Option Nat), k ≤ l.length ∧ i = .int .i64 k ∧ b = .slice A' n' c' ∧ n' ≤ 2010 * k ∧ Seg wq 5 1 A' n' c' (bc (enc ((bl s).take k) (l.take k))) G' ∧ (∀ g, G' = some g → w.heap.size ≤ g) ∧ Below w.heap.size w wq) (fun _ i _ => l.length - (intOf i).toNat)
        case atStart => exact ⟨0, _, 0, q, _, by omega, rfl, rfl, by omega, by simpa [bc, enc] using hseg3, fun g e => by cases e; exact hG3, hb3⟩
        case round =>
          clear hseg3 hb3 hbw
          obtain ⟨k, A', n', c', G', hk', rfl, rfl, hn', hs', hG', hbq⟩ := hrel
          by_cases hlt' : k < l.length
          · obtain ⟨v, g, off, Hv, hv1, hv2, rfl, c0, c1⟩ := (hl.below hbq (Nat.le_refl _)).at_ hlt'
            have hks : k < s.size := by omega
            have Hg := Lib.hid (bl_get s k hks)
            have Hfit := Lib.hid (show fitB s[k] v = true by
              cases hfit : fitB s[k] v
              · have := fitsB_false (by rw [Hlen.out, Hbl.out]) Hg.out Hv.out hfit
                rw [HF.out] at this
                cases this
              · rfl)
            have hsz := fitB_size Hfit.out
            have hw8 := wd_le s[k]
            have HL := Lib.hid (enc_snoc Hg.out Hv.out)
            have hel := Lib.hid (encV_length Hfit.out)
            have hcb := CB.new wr 142 #[.int .u64 v.n, .string v.s]
            have hb1 : Below w.heap.size w (wr.alloc (.cells #[.int .u64 v.n, .string v.s] 142)) := hbq.alloc hbq.size _
            have hs1 := hs'.alloc (.cells #[.int .u64 v.n, .string v.s] 142)
            clear Hv Hg hs' hbq Hfit
            go_wp2_with fail
            generalize wr.alloc (.cells #[.int .u64 v.n, .string v.s] 142) = W at *
            have d0 := hcb.cell 0
            have d1 := hcb.cell 1
            simp at d0 d1
            go_still_tail 5, (by kernel_rfl)
            change wpList _ _ _ _ _ W.drew
            go_wp2_with fail
            refine (appendValue_c A' n' c' _ G' s[k] v _ hs1.drew hv1 hsz (by omega)).mono ?_
            rintro e w2 ⟨A2, n2, c2, G2, rfl, hs2, hg2, hm2⟩
            have hn2 : n2 ≤ 2010 * (k + 1) := by
              have h1 := hs1.1
              have h2 := hs2.1
              rw [bc_length] at h1 h2
              rw [List.length_append, hel.out] at h2
              omega
            rw [← HL.out] at hs2
            have hb2 : Below w.heap.size w w2 := hb1.drew.trans (grown_below hg2 hb1.size hG')
            have hG2 := Moved.ge hm2 hb1.size hG'
            clear hb1 hg2 hm2 hcb hs1 d0 d1 c0 c1 hG'
            go_wp2_with fail
            go_roundw
            case rel => exact ⟨k + 1, A2, n2, c2, G2, by omega, by go_num, rfl, hn2, hs2, hG2, hb2⟩
            case measure => simp [intOf]; omega
          · obtain rfl : k = l.length := by omega
            have H := Lib.hid (show EPostC w (bE (bl s) l) (eE (bl s) l) (.returned (.tuple #[.slice A' n' c', .int .i64 ((0 : Nat) : Int)])) wr by
              rw [HE.out.1, HE.out.2]
              rw [List.take_length, List.take_of_length_le (by rw [Hbl.out]; omega)] at hs'
              exact ⟨A', n', c', G', rfl, hs', hbq⟩)
            go_wp2_with fail
            go_ret2
            exact H.out
end Go.Proofs.Ytcfdfimkgehdfaa.Dz

/-
  Encode of the document's answer for layer 2: it returns the bytes bE and the number eE. Conditions: the shape and the strings are such as memory can hold, the values are readable.
-/
namespace Go.Proofs.Ytcfdfimkgehdfaa.Dz
set_option maxRecDepth 100000
open Go.RowKit

theorem conv_bytes {P : Program} (w : World) (src dst e : TypeId) (s : ByteArray) {u : TypeDesc} (hs : P.underlying src = some u) (hd : P.underlying dst = some (.slice e)) (he : P.underlying e = some (.int .u8)) :
    ∃ c w', (convert src dst (.string s)).run P w = .ok (.slice (some ⟨w.heap.size, 0, none⟩) s.size c) w' ∧ Src w' 1 (some ⟨w.heap.size, 0, none⟩) s.size (bc (bl s)) ∧ Below w.heap.size w w' := by
  refine ⟨_, _, Lib.run_convert_string_bytes (P := P) w src dst e s hs hd he, ⟨by rw [bc_length, bl_length]; omega, fun _ => ⟨_, rfl, fun j v hj => ?_⟩⟩, ⟨rfl, rfl, rfl, by rw [Lib.bytesWorld_size]; omega, fun i hi => Lib.bytesWorld_at_old w e s i hi⟩⟩
  have hjl : j < (bc (bl s)).length := (List.getElem?_eq_some_iff.1 hj).1
  have hj2 : j < s.size := by rw [bc_length, bl_length] at hjl; exact hjl
  rw [Addr.add_lit, Nat.zero_add, Lib.bytesWorld_cell w e s j hj2]
  unfold bc at hj
  rw [List.getElem?_map] at hj
  unfold bl at hj
  rw [List.getD_eq_getElem?_getD]
  cases hx : s.data.toList[j]? with
  | none => rw [hx] at hj; cases hj
  | some x => rw [hx] at hj; simpa using hj

end Go.Proofs.Ytcfdfimkgehdfaa.Dz
