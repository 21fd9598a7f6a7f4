/-
  Plain mathematics of layer 11 (lease): leases, what may be taken, given, spoken. It speaks of no program. No condition.
-/
import Derived.Below
import Derived.Test.YtfdboahcaiolgaaMgM
namespace Go.Proofs.Ytfdboahcaiolgaa

/-- A lease: epoch, state, station. -/
structure Ls where
  ep : Int
  st : Int
  to : Int
theorem Ls.ext_ {a b : Ls} (h1 : a.ep = b.ep) (h2 : a.st = b.st) (h3 : a.to = b.to) : a = b := by cases a; cases b; simp_all
def inEp (e : Int) : Bool := decide (1 ≤ e) && decide (e ≤ 1048576)
theorem inEp_yes {e : Int} (h : inEp e = true) : 1 ≤ e ∧ e ≤ 1048576 := by simpa [inEp] using h
theorem inEp_no {e : Int} (h : inEp e = false) : e < 1 ∨ 1048576 < e := by
  simp [inEp] at h
  omega
def rightL (l : Ls) : Bool :=
  if l.st = 0 then decide (l.ep = 0) && decide (l.to = 0)
  else if l.st = 1 then inEp l.ep && decide (l.to = 0)
  else if l.st = 2 then inEp l.ep && decide (l.to < 8) else false
/-- In the range of its types. -/
def inL (l : Ls) : Prop := (-9223372036854775808 ≤ l.ep ∧ l.ep ≤ 9223372036854775807) ∧ (-9223372036854775808 ≤ l.st ∧ l.st ≤ 9223372036854775807) ∧ (0 ≤ l.to ∧ l.to ≤ 255)
def heldL (e : Int) : Ls := ⟨e, 1, 0⟩
def eTakeL (l : Ls) (e : Int) : Nat :=
  if rightL l = false ∨ inEp e = false then 2
  else if l.st = 1 ∧ l.ep = e then 8
  else if e ≤ l.ep then 10 else 0
def sTakeL (l : Ls) (e : Int) : Ls := if eTakeL l e = 0 then heldL e else l
def eGiveL (l : Ls) (t : Int) : Nat :=
  if rightL l = false ∨ 8 ≤ t then 2
  else if ¬ l.st = 1 then 7
  else if l.ep = 1048576 then 3 else 0
def sGiveL (l : Ls) (t : Int) : Ls := if eGiveL l t = 0 then ⟨l.ep, 2, t⟩ else l
def speaksL (l : Ls) (e : Int) : Bool := rightL l && (decide (l.st = 1) && decide (l.ep = e))

theorem right_cases {l : Ls} (h : rightL l = true) : (l.st = 0 ∧ l.ep = 0 ∧ l.to = 0) ∨ (l.st = 1 ∧ (1 ≤ l.ep ∧ l.ep ≤ 1048576) ∧ l.to = 0) ∨ (l.st = 2 ∧ (1 ≤ l.ep ∧ l.ep ≤ 1048576) ∧ l.to < 8) := by
  unfold rightL at h
  split at h
  · rename_i h0
    simp at h
    exact .inl ⟨h0, h.1, h.2⟩
  · split at h
    · rename_i h1
      simp at h
      exact .inr (.inl ⟨h1, inEp_yes h.1, h.2⟩)
    · split at h
      · rename_i h2
        simp at h
        exact .inr (.inr ⟨h2, inEp_yes h.1, h.2⟩)
      · cases h
theorem right_zero : rightL ⟨0, 0, 0⟩ = true := by decide
theorem right_held {e : Int} (h1 : 1 ≤ e) (h2 : e ≤ 1048576) : rightL ⟨e, 1, 0⟩ = true := by
  simp [rightL, inEp, h1, h2]
theorem right_gone {e t : Int} (h1 : 1 ≤ e) (h2 : e ≤ 1048576) (h3 : t < 8) : rightL ⟨e, 2, t⟩ = true := by
  simp [rightL, inEp, h1, h2, h3]
theorem right_take {l : Ls} {e : Int} (h : rightL l = true) : rightL (sTakeL l e) = true := by
  unfold sTakeL
  split
  · rename_i h0
    unfold eTakeL at h0
    split at h0
    · cases h0
    · rename_i h1
      have : inEp e = true := by cases hi : inEp e <;> simp_all
      exact right_held (inEp_yes this).1 (inEp_yes this).2
  · exact h
theorem right_give {l : Ls} {t : Int} (h : rightL l = true) : rightL (sGiveL l t) = true := by
  unfold sGiveL
  split
  · rename_i h0
    unfold eGiveL at h0
    split at h0
    · cases h0
    · rename_i h1
      split at h0
      · cases h0
      · rename_i h2
        simp only [Decidable.not_not] at h2
        rcases right_cases h with ⟨a, _⟩ | ⟨a, b, c⟩ | ⟨a, _⟩
        · omega
        · exact right_gone b.1 b.2 (by omega)
        · omega
  · exact h
theorem in_take {l : Ls} {e : Int} (h : inL l) (he : -9223372036854775808 ≤ e ∧ e ≤ 9223372036854775807) : inL (sTakeL l e) := by
  unfold sTakeL
  split
  · exact ⟨he, by simp [heldL], by simp [heldL]⟩
  · exact h
theorem in_give {l : Ls} {t : Int} (h : inL l) (ht : 0 ≤ t ∧ t ≤ 255) : inL (sGiveL l t) := by
  unfold sGiveL
  split
  · exact ⟨h.1, by simp, ht⟩
  · exact h
end Go.Proofs.Ytfdboahcaiolgaa

/-
  Plain mathematics of layer 12 (hand): sides, messages, what is asked, heard and said again. It speaks of no program. No condition.
-/
namespace Go.Proofs.Ytfdboahcaiolgaa

/-- A side: who it is, its lease, its cargo, whether it keeps it. -/
structure Sd where
  me : Int
  l : Ls
  cg : ByteArray
  kp : Bool
theorem Sd.ext_ {a b : Sd} (h1 : a.me = b.me) (h2 : a.l = b.l) (h3 : a.cg = b.cg) (h4 : a.kp = b.kp) : a = b := by cases a; cases b; simp_all
/-- A message: kind, from, to, epoch, cargo. -/
structure Mg where
  kd : Int
  fr : Int
  to : Int
  ep : Int
  cg : ByteArray
def inSd (s : Sd) : Prop := (0 ≤ s.me ∧ s.me ≤ 255) ∧ inL s.l ∧ s.cg.size ≤ 140737488355328
def inMg (m : Mg) : Prop := (-9223372036854775808 ≤ m.kd ∧ m.kd ≤ 9223372036854775807) ∧ (0 ≤ m.fr ∧ m.fr ≤ 255) ∧ (0 ≤ m.to ∧ m.to ≤ 255) ∧ (-9223372036854775808 ≤ m.ep ∧ m.ep ≤ 9223372036854775807) ∧ m.cg.size ≤ 140737488355328
/-- A side is valid. -/
def RightS (s : Sd) : Prop := s.me < 8 ∧ rightL s.l = true ∧ ¬ (s.l.st = 2 ∧ s.l.to = s.me) ∧ s.cg.size ≤ 500 ∧ (s.cg.size = 0 ∨ s.l.st = 1 ∨ s.kp = true) ∧ (s.kp = true → s.l.st = 2)
instance (s : Sd) : Decidable (RightS s) := by unfold RightS; infer_instance
/-- A message is valid. -/
def MayM (m : Mg) : Prop := (1 ≤ m.kd ∧ m.kd ≤ 4) ∧ m.fr < 8 ∧ m.to < 8 ∧ m.fr ≠ m.to ∧ (1 ≤ m.ep ∧ m.ep ≤ 1048576) ∧ (m.cg.size = 0 ∨ (m.kd = 3 ∧ m.cg.size ≤ 500))
instance (m : Mg) : Decidable (MayM m) := by unfold MayM; infer_instance
def mg0 : Mg := ⟨0, 0, 0, 0, ⟨#[]⟩⟩
-- Ask
def eAsk (s : Sd) (t : Int) : Nat := if ¬ RightS s ∨ 8 ≤ t ∨ t = s.me then 2 else if ¬ s.l.st = 1 then 7 else if s.l.ep = 1048576 then 3 else 0
def mAsk (s : Sd) (t : Int) : Mg := if eAsk s t = 0 then ⟨1, s.me, t, s.l.ep, ⟨#[]⟩⟩ else mg0
/-- What is said by one that keeps a cargo. -/
def gvM (s : Sd) : Mg := ⟨3, s.me, s.l.to, s.l.ep + 1, s.cg⟩
def againM (s : Sd) : List Mg := if RightS s ∧ s.kp = true then [gvM s] else []
-- Hear
/-- What comes of a message: the side, the answers, the number. -/
structure Td where
  s : Sd
  r : List Mg
  e : Nat
def offerM (s : Sd) (m : Mg) : Td := if m.ep ≤ s.l.ep then ⟨s, [], 10⟩ else ⟨s, [⟨2, s.me, m.fr, m.ep, ⟨#[]⟩⟩], 0⟩
def wantM (s : Sd) (m : Mg) : Td :=
  if s.l.st = 1 ∧ s.l.ep = m.ep then (if m.ep = 1048576 then ⟨s, [], 3⟩ else ⟨⟨s.me, ⟨s.l.ep, 2, m.fr⟩, s.cg, true⟩, [⟨3, s.me, m.fr, m.ep + 1, s.cg⟩], 0⟩)
  else if s.l.st = 2 ∧ s.l.ep = m.ep ∧ s.l.to = m.fr ∧ s.kp = true then ⟨s, [⟨3, s.me, m.fr, m.ep + 1, s.cg⟩], 0⟩
  else ⟨s, [], 10⟩
def giveM (s : Sd) (m : Mg) : Td := ⟨if s.l.ep < m.ep then ⟨s.me, ⟨m.ep, 1, 0⟩, m.cg, false⟩ else s, [⟨4, s.me, m.fr, m.ep, ⟨#[]⟩⟩], 0⟩
def gotM (s : Sd) (m : Mg) : Td := if s.l.st = 2 ∧ s.l.ep = m.ep - 1 ∧ s.l.to = m.fr ∧ s.kp = true then ⟨⟨s.me, s.l, ⟨#[]⟩, false⟩, [], 0⟩ else ⟨s, [], 10⟩
def hearM (s : Sd) (m : Mg) : Td :=
  if RightS s ∧ MayM m ∧ m.to = s.me then
    (if m.kd = 2 then wantM s m else if m.kd = 3 then giveM s m else if m.kd = 1 then offerM s m else gotM s m)
  else ⟨s, [], 2⟩

theorem hear_ok {s : Sd} {m : Mg} (h : RightS s ∧ MayM m ∧ m.to = s.me) : hearM s m = (if m.kd = 2 then wantM s m else if m.kd = 3 then giveM s m else if m.kd = 1 then offerM s m else gotM s m) := if_pos h
theorem sz0 : (⟨#[]⟩ : ByteArray).size = 0 := rfl
theorem size_nil {c : ByteArray} (h : c.size = 0) : c = ⟨#[]⟩ := by
  obtain ⟨a⟩ := c
  have : a = #[] := Array.eq_empty_of_size_eq_zero h
  rw [this]

/-- What holds of what is heard, whoever it is and whatever comes. -/
theorem hear_kinds (s : Sd) (m : Mg) : hearM s m = ⟨s, [], 2⟩ ∨ (RightS s ∧ MayM m ∧ m.to = s.me ∧ ((m.kd = 1 ∧ hearM s m = offerM s m) ∨ (m.kd = 2 ∧ hearM s m = wantM s m) ∨ (m.kd = 3 ∧ hearM s m = giveM s m) ∨ (m.kd = 4 ∧ hearM s m = gotM s m))) := by
  unfold hearM
  split
  · rename_i h
    refine .inr ⟨h.1, h.2.1, h.2.2, ?_⟩
    have hk := h.2.1.1
    by_cases h2 : m.kd = 2
    · exact .inr (.inl ⟨h2, by rw [if_pos h2]⟩)
    · by_cases h3 : m.kd = 3
      · exact .inr (.inr (.inl ⟨h3, by rw [if_neg h2, if_pos h3]⟩))
      · by_cases h1 : m.kd = 1
        · exact .inl ⟨h1, by rw [if_neg h2, if_neg h3, if_pos h1]⟩
        · exact .inr (.inr (.inr ⟨by omega, by rw [if_neg h2, if_neg h3, if_neg h1]⟩))
  · exact .inl rfl

/-- With an error the side stays, and nothing is said. -/
theorem hear_error (s : Sd) (m : Mg) (h : (hearM s m).e ≠ 0) : (hearM s m).s = s ∧ (hearM s m).r = [] := by
  rcases hear_kinds s m with e | ⟨_, _, _, ⟨_, e⟩ | ⟨_, e⟩ | ⟨_, e⟩ | ⟨_, e⟩⟩ <;> rw [e] at h ⊢
  · exact ⟨rfl, rfl⟩
  · unfold offerM at h ⊢
    split
    · exact ⟨rfl, rfl⟩
    · rename_i h1
      rw [if_neg h1] at h
      exact absurd rfl h
  · unfold wantM at h ⊢
    split
    · rename_i h1
      rw [if_pos h1] at h
      split
      · exact ⟨rfl, rfl⟩
      · rename_i h2
        rw [if_neg h2] at h
        exact absurd rfl h
    · rename_i h1
      rw [if_neg h1] at h
      split
      · rename_i h2
        rw [if_pos h2] at h
        exact absurd rfl h
      · exact ⟨rfl, rfl⟩
  · exact absurd rfl h
  · unfold gotM at h ⊢
    split
    · rename_i h1
      rw [if_pos h1] at h
      exact absurd rfl h
    · exact ⟨rfl, rfl⟩
/-- A valid side stays valid; its epoch never falls; who it is stays; one answer at most, to the one who spoke. -/
theorem hear_right (s : Sd) (m : Mg) (hs : RightS s) : RightS (hearM s m).s ∧ (hearM s m).s.me = s.me ∧ s.l.ep ≤ (hearM s m).s.l.ep ∧ (hearM s m).r.length ≤ 1 ∧ ∀ y ∈ (hearM s m).r, y.fr = s.me ∧ y.to = m.fr := by
  have base : RightS s ∧ s.me = s.me ∧ s.l.ep ≤ s.l.ep := ⟨hs, rfl, Int.le_refl _⟩
  rcases hear_kinds s m with e | ⟨_, hm, ht, ⟨_, e⟩ | ⟨_, e⟩ | ⟨hk, e⟩ | ⟨_, e⟩⟩ <;> rw [e]
  · exact ⟨hs, rfl, Int.le_refl _, by simp, by simp⟩
  · unfold offerM
    split
    · exact ⟨hs, rfl, Int.le_refl _, by simp, by simp⟩
    · exact ⟨hs, rfl, Int.le_refl _, by simp, by simp⟩
  · unfold wantM
    split
    · rename_i h1
      split
      · exact ⟨hs, rfl, Int.le_refl _, by simp, by simp⟩
      · obtain ⟨a1, a2, a3, a4, a5, a6⟩ := hs
        obtain ⟨b1, b2, b3, b4, b5, b6⟩ := hm
        refine ⟨⟨a1, right_gone (by omega) (by omega) b2, by simp only; omega, a4, .inr (.inr rfl), fun _ => rfl⟩, rfl, Int.le_refl _, by simp, by simp⟩
    · split
      · exact ⟨hs, rfl, Int.le_refl _, by simp, by simp⟩
      · exact ⟨hs, rfl, Int.le_refl _, by simp, by simp⟩
  · unfold giveM
    obtain ⟨b1, b2, b3, b4, b5, b6⟩ := hm
    split
    · rename_i h1
      refine ⟨⟨hs.1, right_held b5.1 b5.2, by simp, by show m.cg.size ≤ 500; omega, .inr (.inl rfl), by simp⟩, rfl, by show s.l.ep ≤ m.ep; omega, by simp, by simp⟩
    · exact ⟨hs, rfl, Int.le_refl _, by simp, by simp⟩
  · unfold gotM
    split
    · obtain ⟨a1, a2, a3, a4, a5, a6⟩ := hs
      exact ⟨⟨a1, a2, a3, by show (0 : Nat) ≤ 500; omega, .inl rfl, by simp⟩, rfl, Int.le_refl _, by simp, by simp⟩
    · exact ⟨hs, rfl, Int.le_refl _, by simp, by simp⟩
/-- What comes twice is answered alike, or not at all, and changes nothing more. -/
theorem hear_twice (s : Sd) (m : Mg) (hs : RightS s) : (hearM (hearM s m).s m).s = (hearM s m).s ∧ (((hearM s m).e ≠ 0 → (hearM (hearM s m).s m).e = (hearM s m).e ∧ (hearM (hearM s m).s m).r = []) ∧ ((hearM (hearM s m).s m).e ≠ 0 → (hearM (hearM s m).s m).r = []) ∧ ((hearM s m).e = 0 → (hearM (hearM s m).s m).e = 0 → (hearM (hearM s m).s m).r = (hearM s m).r)) := by
  by_cases he : (hearM s m).e = 0
  case neg =>
    obtain ⟨h1, h2⟩ := hear_error s m he
    rw [h1]
    exact ⟨h1, fun _ => ⟨rfl, h2⟩, fun _ => h2, fun h => absurd h he⟩
  have hr := hear_right s m hs
  have key : (hearM (hearM s m).s m).s = (hearM s m).s ∧ ((hearM (hearM s m).s m).e = 0 → (hearM (hearM s m).s m).r = (hearM s m).r) := by
    rcases hear_kinds s m with e | ⟨_, hm, ht, hk⟩
    · rw [e] at he; cases he
    have hr1 := hr.1
    have hme := hr.2.1
    have ok2 : RightS (hearM s m).s ∧ MayM m ∧ m.to = (hearM s m).s.me := ⟨hr1, hm, by rw [hme]; exact ht⟩
    have h3 := hear_ok ok2
    rw [h3]
    rcases hk with ⟨k, e⟩ | ⟨k, e⟩ | ⟨k, e⟩ | ⟨k, e⟩
    · rw [if_neg (by omega), if_neg (by omega), if_pos k, e]
      have : (offerM s m).s = s := by unfold offerM; split <;> rfl
      rw [this]
      exact ⟨this, fun _ => rfl⟩
    · rw [if_pos k, e]
      rw [e] at he
      unfold wantM at he ⊢
      by_cases c1 : s.l.st = 1 ∧ s.l.ep = m.ep
      · rw [if_pos c1] at he ⊢
        by_cases c2 : m.ep = 1048576
        · rw [if_pos c2] at he; cases he
        · rw [if_neg c2]
          rw [if_neg (by simp), if_pos ⟨rfl, c1.2, rfl, rfl⟩]
          exact ⟨rfl, fun _ => rfl⟩
      · rw [if_neg c1] at he ⊢
        by_cases c2 : s.l.st = 2 ∧ s.l.ep = m.ep ∧ s.l.to = m.fr ∧ s.kp = true
        · rw [if_pos c2]
          rw [if_neg c1, if_pos c2]
          exact ⟨rfl, fun _ => rfl⟩
        · rw [if_neg c2] at he; cases he
    · rw [if_neg (by omega), if_pos k, e]
      unfold giveM
      by_cases c1 : s.l.ep < m.ep
      · rw [if_pos c1]
        exact ⟨if_neg (by simp), fun _ => rfl⟩
      · rw [if_neg c1]
        exact ⟨if_neg c1, fun _ => rfl⟩
    · rw [if_neg (by omega), if_neg (by omega), if_neg (by omega), e]
      rw [e] at he
      unfold gotM at he ⊢
      by_cases c1 : s.l.st = 2 ∧ s.l.ep = m.ep - 1 ∧ s.l.to = m.fr ∧ s.kp = true
      · rw [if_pos c1]
        rw [if_neg (by simp)]
        exact ⟨rfl, fun h => by cases h⟩
      · rw [if_neg c1] at he; cases he
  refine ⟨key.1, fun h => absurd he h, fun h => (hear_error _ m h).2, fun _ h => key.2 h⟩
end Go.Proofs.Ytfdboahcaiolgaa

/-
  Plain mathematics of layer 19 (agent): ballots, their cargo, the ballots of a cargo, what is shipped and spoken. It speaks of no program; what it takes of bytes and notes stands in the namespace Dk. No condition.
-/
set_option linter.unusedVariables false
set_option linter.unusedSimpArgs false
namespace Go.Proofs.Ytfdboahcaiolgaa
open Dk (Nt InN RightN)

/-- A ballot. -/
structure Bl where
  tx : Int
  vt : Int
theorem Bl.ext_ {a b : Bl} (h1 : a.tx = b.tx) (h2 : a.vt = b.vt) : a = b := by cases a; cases b; simp_all
def MayB (b : Bl) : Prop := (0 ≤ b.tx ∧ b.tx < 1000) ∧ (b.vt = 1 ∨ b.vt = 2)
instance (b : Bl) : Decidable (MayB b) := by unfold MayB; infer_instance
/-- Which lists of ballots may be. -/
def SrtB (L : List Bl) : Prop := L.Pairwise (fun a b => a.tx < b.tx)
instance (L : List Bl) : Decidable (SrtB L) := by unfold SrtB; infer_instance
def RightB (L : List Bl) : Prop := L.length ≤ 50 ∧ (∀ b ∈ L, MayB b) ∧ SrtB L
instance (L : List Bl) : Decidable (RightB L) := by unfold RightB; infer_instance
theorem right_nil : RightB [] := ⟨by simp, fun _ h => (by cases h), List.Pairwise.nil⟩
/-- The shape of so many ballots, their values, their cargo. -/
def shG : Nat → List UInt8
  | 0 => []
  | n + 1 => 98 :: 97 :: shG n
def cvG : List Bl → List Dk.CV
  | [] => []
  | b :: r => Dk.cn b.tx :: Dk.cn b.vt :: cvG r
def encG (L : List Bl) : List UInt8 := Dk.enc (shG L.length) (cvG L)
theorem shG_length : ∀ n, (shG n).length = 2 * n
  | 0 => rfl
  | n + 1 => by simp [shG, shG_length n]; omega
theorem cvG_length : ∀ L, (cvG L).length = 2 * L.length
  | [] => rfl
  | b :: r => by simp [cvG, cvG_length r]; omega
theorem shG_all : ∀ n, (shG n).all Dk.letB = true
  | 0 => rfl
  | n + 1 => by
    have h1 : Dk.letB 98 = true := by decide
    have h2 : Dk.letB 97 = true := by decide
    simp [shG, shG_all n, h1, h2]
theorem shG_proper {n : Nat} : Dk.properB (shG n) = true ↔ n ≤ 50 := by
  simp [Dk.properB, shG_length, shG_all]
  omega
theorem encG_cons (b : Bl) (r : List Bl) : encG (b :: r) = Dk.encV 98 (Dk.cn b.tx) ++ (Dk.encV 97 (Dk.cn b.vt) ++ encG r) := rfl
theorem encG_length : ∀ L, (encG L).length = 3 * L.length
  | [] => rfl
  | b :: r => by
    have h1 : (Dk.encV 98 (Dk.cn b.tx)).length = 2 := by simp [Dk.encV, Dk.num_length, Dk.wd]
    have h2 : (Dk.encV 97 (Dk.cn b.vt)).length = 1 := by simp [Dk.encV, Dk.num_length, Dk.wd]
    rw [encG_cons, List.length_append, List.length_append, h1, h2, encG_length r, List.length_cons]; omega
theorem fitG : ∀ {L : List Bl}, (∀ b ∈ L, MayB b) → Dk.fitsB (shG L.length) (cvG L) = true
  | [], _ => rfl
  | b :: r, h => by
    have hb := h b (List.mem_cons_self ..)
    unfold MayB at hb
    simp only [List.length_cons, shG, cvG, Dk.fitsB, Dk.fitN2 (k := b.tx) (by omega), Dk.fitN1 (k := b.vt) (by omega), fitG (L := r) (fun x hx => h x (List.mem_cons_of_mem _ hx)), Bool.true_and]
/-- The ballots of values. -/
def blG : List Dk.CV → List Bl
  | a :: b :: r => ⟨a.n, b.n⟩ :: blG r
  | _ => []
theorem blG_cvG : ∀ {L : List Bl}, (∀ b ∈ L, MayB b) → blG (cvG L) = L
  | [], _ => rfl
  | b :: r, h => by
    have hb := h b (List.mem_cons_self ..)
    unfold MayB at hb
    simp only [cvG, blG, blG_cvG (L := r) (fun x hx => h x (List.mem_cons_of_mem _ hx))]
    congr 1
    apply Bl.ext_ <;> simp only [Dk.cn] <;> omega
theorem cvG_blG : ∀ (n : Nat) {l : List Dk.CV}, l.length = 2 * n → Dk.fitsB (shG n) l = true → cvG (blG l) = l ∧ (blG l).length = n
  | 0, l, hl, _ => by
    have : l = [] := List.eq_nil_of_length_eq_zero (by omega)
    subst this; exact ⟨rfl, rfl⟩
  | n + 1, [], hl, _ => by simp at hl
  | n + 1, [_], hl, _ => by simp at hl; omega
  | n + 1, a :: b :: r, hl, hf => by
    simp only [List.length_cons] at hl
    simp only [shG, Dk.fitsB, Bool.and_eq_true] at hf
    have e0 := Dk.fit_n (by decide) hf.1
    have e1 := Dk.fit_n (by decide) hf.2.1
    obtain ⟨i1, i2⟩ := cvG_blG n (l := r) (by omega) hf.2.2
    refine ⟨?_, by simp [blG, i2]⟩
    simp only [blG, cvG, i1]
    rw [← e0.1, ← e1.1]
/-- Pack. -/
def ePk (L : List Bl) : Nat := if RightB L then 0 else 2
def bPk (L : List Bl) : ByteArray := if RightB L then Dk.mkS (encG L) else ByteArray.empty
theorem encG_ok {L : List Bl} (h : RightB L) : Dk.eE (shG L.length) (cvG L) = 0 ∧ Dk.bE (shG L.length) (cvG L) = encG L := by
  have e : Dk.eE (shG L.length) (cvG L) = 0 := Dk.eE_zero.2 ⟨shG_proper.2 h.1, by rw [cvG_length, shG_length], fitG h.2.1, by have := encG_length L; have := h.1; unfold encG at *; omega⟩
  exact ⟨e, by unfold Dk.bE; rw [if_pos e]; rfl⟩
/-- Unpack: the ballots of a cargo, if it is one. -/
def dG (bs : List UInt8) : Option (List Bl) :=
  match Dk.okD (shG (bs.length / 3)) bs with
  | some l => if RightB (blG l) then some (blG l) else none
  | none => none
theorem dG_some {bs : List UInt8} {L : List Bl} : dG bs = some L ↔ RightB L ∧ bs = encG L := by
  constructor
  · intro h
    unfold dG at h
    cases ho : Dk.okD (shG (bs.length / 3)) bs with
    | none => rw [ho] at h; cases h
    | some l =>
      rw [ho] at h
      simp only at h
      split at h
      · rename_i hr
        cases h
        obtain ⟨o1, o2, o3, _⟩ := Dk.okD_some.1 ho
        rw [shG_length] at o1
        obtain ⟨c1, c2⟩ := cvG_blG _ o1 o2
        exact ⟨hr, by unfold encG; rw [c1, c2, o3]⟩
      · cases h
  · rintro ⟨hr, rfl⟩
    have hl := encG_length L
    have hn : (encG L).length / 3 = L.length := by omega
    have ho : Dk.okD (shG L.length) (encG L) = some (cvG L) := Dk.okD_some.2 ⟨by rw [cvG_length, shG_length], fitG hr.2.1, rfl, by have := hr.1; omega⟩
    unfold dG
    rw [hn, ho]
    simp only
    rw [blG_cvG hr.2.1, if_pos hr]
theorem dG_back {L : List Bl} (h : RightB L) : dG (encG L) = some L := dG_some.2 ⟨h, rfl⟩
theorem dG_nil : dG [] = some [] := dG_back right_nil
/-- One more ballot. -/
def insB : List Bl → Bl → List Bl
  | [], b => [b]
  | x :: r, b => if x.tx = b.tx then x :: r else if b.tx < x.tx then b :: x :: r else x :: insB r b
/-- The vote for a transaction. -/
def valB : List Bl → Int → Option Int
  | [], _ => none
  | x :: r, t => if x.tx = t then some x.vt else valB r t
theorem valB_mem : ∀ {L : List Bl} {t v : Int}, valB L t = some v → (⟨t, v⟩ : Bl) ∈ L
  | [], t, v, h => by cases h
  | x :: r, t, v, h => by
    unfold valB at h
    split at h
    · rename_i hx
      cases h
      subst hx
      exact List.mem_cons_self ..
    · exact List.mem_cons_of_mem _ (valB_mem h)
theorem mem_valB : ∀ {L : List Bl} {b : Bl}, SrtB L → b ∈ L → valB L b.tx = some b.vt
  | x :: r, b, hs, hb => by
    rw [SrtB, List.pairwise_cons] at hs
    rw [List.mem_cons] at hb
    unfold valB
    rcases hb with rfl | hb
    · rw [if_pos rfl]
    · have := hs.1 b hb
      rw [if_neg (by omega)]
      exact mem_valB hs.2 hb
theorem valB_none {L : List Bl} {t : Int} : valB L t = none ↔ ∀ b ∈ L, ¬ b.tx = t := by
  induction L with
  | nil => simp [valB]
  | cons x r ih =>
    unfold valB
    split
    · rename_i hx; simp [hx]
    · rename_i hx; simp [hx, ih]
/-- What keeps one from being taken. -/
def ePu (L : List Bl) (b : Bl) : Nat :=
  match valB L b.tx with
  | some v => if v = b.vt then 0 else 8
  | none => if 50 ≤ L.length then 6 else 0
theorem insB_mem : ∀ {L : List Bl} {b x : Bl}, x ∈ insB L b → x = b ∨ x ∈ L
  | [], b, x, h => by simp [insB] at h; exact .inl h
  | y :: r, b, x, h => by
    unfold insB at h
    split at h
    · exact .inr h
    · split at h
      · rw [List.mem_cons] at h; exact h
      · rw [List.mem_cons] at h
        rcases h with rfl | h
        · exact .inr (List.mem_cons_self ..)
        · rcases insB_mem h with h | h
          · exact .inl h
          · exact .inr (List.mem_cons_of_mem _ h)
theorem insB_srt : ∀ {L : List Bl} {b : Bl}, SrtB L → SrtB (insB L b)
  | [], b, _ => by simp [insB, SrtB]
  | x :: r, b, h => by
    rw [SrtB, List.pairwise_cons] at h
    unfold insB
    split
    · exact List.pairwise_cons.2 h
    · split
      · rename_i h1 h2
        refine List.pairwise_cons.2 ⟨fun y hy => ?_, List.pairwise_cons.2 h⟩
        rw [List.mem_cons] at hy
        rcases hy with rfl | hy
        · exact h2
        · have := h.1 y hy; omega
      · rename_i h1 h2
        refine List.pairwise_cons.2 ⟨fun y hy => ?_, insB_srt h.2⟩
        rcases insB_mem hy with rfl | hy
        · omega
        · exact h.1 y hy
theorem insB_val : ∀ {L : List Bl} {b : Bl} (t : Int), SrtB L → valB (insB L b) t = if t = b.tx then (match valB L b.tx with | some v => some v | none => some b.vt) else valB L t
  | [], b, t, _ => by
    unfold insB valB
    by_cases h : t = b.tx
    · rw [if_pos h.symm, if_pos h]; try rfl
    · rw [if_neg (fun e => h e.symm), if_neg h]; try rfl
  | x :: r, b, t, h => by
    rw [SrtB, List.pairwise_cons] at h
    unfold insB
    by_cases h1 : x.tx = b.tx
    · rw [if_pos h1]
      by_cases ht : t = b.tx
      · rw [if_pos ht, ht]; simp only [valB, h1, if_true]
      · rw [if_neg ht]
    · rw [if_neg h1]
      by_cases h2 : b.tx < x.tx
      · rw [if_pos h2]
        have hn : valB (x :: r) b.tx = none := valB_none.2 (fun y hy => by
          rw [List.mem_cons] at hy
          rcases hy with rfl | hy
          · exact h1
          · have := h.1 y hy; omega)
        rw [hn]
        by_cases ht : t = b.tx
        · rw [if_pos ht]; unfold valB; rw [if_pos ht.symm]
        · rw [if_neg ht]
          conv => lhs; unfold valB
          rw [if_neg (fun e => ht e.symm)]
      · rw [if_neg h2]
        have ih := insB_val (L := r) (b := b) t h.2
        by_cases hx : x.tx = t
        · have ht : ¬ t = b.tx := by omega
          rw [if_neg ht]; simp only [valB, hx, if_true]
        · have e0 : ∀ (l : List Bl) (u : Int), ¬ x.tx = u → valB (x :: l) u = valB l u := fun l u hu => by simp [valB, hu]
          rw [e0 _ _ hx, e0 _ _ hx, e0 _ _ h1, ih]
theorem insB_length : ∀ {L : List Bl} {b : Bl}, (insB L b).length ≤ L.length + 1
  | [], b => by simp [insB]
  | x :: r, b => by
    unfold insB
    split
    · simp
    · split
      · simp
      · simp [insB_length (L := r) (b := b)]
theorem insB_has : ∀ {L : List Bl} {b : Bl} {v : Int}, SrtB L → valB L b.tx = some v → insB L b = L
  | x :: r, b, v, hs, h => by
    rw [SrtB, List.pairwise_cons] at hs
    unfold insB
    by_cases h1 : x.tx = b.tx
    · rw [if_pos h1]
    · unfold valB at h
      rw [if_neg h1] at h
      have hm := valB_mem h
      have := hs.1 _ hm
      simp only at this
      rw [if_neg h1, if_neg (by omega), insB_has hs.2 h]
theorem right_ins {L : List Bl} {b : Bl} (h : RightB L) (hb : MayB b) (he : ePu L b = 0) : RightB (insB L b) := by
  refine ⟨?_, fun x hx => ?_, insB_srt h.2.2⟩
  · unfold ePu at he
    cases hv : valB L b.tx with
    | some v => rw [insB_has h.2.2 hv]; exact h.1
    | none =>
      rw [hv] at he
      simp only at he
      split at he
      · cases he
      · have := insB_length (L := L) (b := b); omega
  · rcases insB_mem hx with rfl | hx
    · exact hb
    · exact h.2.1 x hx
/-- What is taken is there, all else as it was. -/
theorem val_ins {L : List Bl} {b : Bl} (h : RightB L) (he : ePu L b = 0) (t : Int) : valB (insB L b) t = if t = b.tx then some b.vt else valB L t := by
  rw [insB_val t h.2.2]
  by_cases ht : t = b.tx
  · rw [if_pos ht, if_pos ht]
    unfold ePu at he
    cases hv : valB L b.tx with
    | none => rfl
    | some v =>
      rw [hv] at he
      simp only at he ⊢
      split at he
      · rename_i e; rw [e]
      · cases he
  · rw [if_neg ht, if_neg ht]
/-- Sorted ballots with the same votes are the same. -/
theorem srt_ext : ∀ {L M : List Bl}, SrtB L → SrtB M → (∀ t, valB L t = valB M t) → L = M
  | [], [], _, _, _ => rfl
  | [], y :: s, _, _, h => by have := h y.tx; simp [valB] at this
  | x :: r, [], _, _, h => by have := h x.tx; simp [valB] at this
  | x :: r, y :: s, hl, hm, h => by
    rw [SrtB, List.pairwise_cons] at hl hm
    have hx : valB (y :: s) x.tx = some x.vt := by rw [← h x.tx]; simp [valB]
    have hy : valB (x :: r) y.tx = some y.vt := by rw [h y.tx]; simp [valB]
    have e : x.tx = y.tx := by
      rcases Int.lt_trichotomy x.tx y.tx with hlt | heq | hgt
      · have := valB_mem hx
        rw [List.mem_cons] at this
        rcases this with e | e
        · rw [← e] at hlt; simp only at hlt; omega
        · have := hm.1 _ e; simp only at this; omega
      · exact heq
      · have := valB_mem hy
        rw [List.mem_cons] at this
        rcases this with e | e
        · rw [← e] at hgt; simp only at hgt; omega
        · have := hl.1 _ e; simp only at this; omega
    have ev : x.vt = y.vt := by simp [valB, e] at hx; exact hx.symm
    have exy : x = y := Bl.ext_ e ev
    subst exy
    congr 1
    refine srt_ext hl.2 hm.2 (fun t => ?_)
    have ht := h t
    by_cases hxt : x.tx = t
    · have n1 : valB r t = none := valB_none.2 (fun b hb => by have := hl.1 b hb; omega)
      have n2 : valB s t = none := valB_none.2 (fun b hb => by have := hm.1 b hb; omega)
      rw [n1, n2]
    · simpa [valB, hxt] using ht
/-! ### sides -/
/-- Ship. -/
def eSh (s : Sd) (b : Bl) : Nat :=
  if ¬ RightS s ∨ ¬ MayB b then 2 else if ¬ s.l.st = 1 then 7 else match dG (Dk.bl s.cg) with | none => 4 | some L => ePu L b
def sSh (s : Sd) (b : Bl) : Sd := if eSh s b = 0 then (match dG (Dk.bl s.cg) with | some L => { s with cg := Dk.mkS (encG (insB L b)) } | none => s) else s
/-- Speak. -/
def eSp (s : Sd) (mb : Int) : Nat := if ¬ RightS s ∨ 8 ≤ mb then 2 else if ¬ s.l.st = 1 then 7 else match dG (Dk.bl s.cg) with | none => 4 | some _ => 0
def ntB (mb ep : Int) (b : Bl) : Nt := ⟨2, mb, b.tx, ep, b.vt, 0, 0, 0, 0, ByteArray.empty⟩
def lSp (s : Sd) (mb : Int) : List Nt := if eSp s mb = 0 then (match dG (Dk.bl s.cg) with | some L => L.map (ntB mb s.l.ep) | none => []) else []
/-- A side that holds the agency, with these ballots. -/
structure HasB (s : Sd) (L : List Bl) : Prop where
  r : RightS s
  st : s.l.st = 1
  d : dG (Dk.bl s.cg) = some L
theorem HasB.right {s : Sd} {L : List Bl} (h : HasB s L) : RightB L := (dG_some.1 h.d).1
theorem HasB.cg {s : Sd} {L : List Bl} (h : HasB s L) : s.cg = Dk.mkS (encG L) := by rw [← (dG_some.1 h.d).2, Dk.mkS_bl]
theorem sh_has {s : Sd} {L : List Bl} (h : HasB s L) (b : Bl) (hb : MayB b) : eSh s b = ePu L b := by
  unfold eSh
  rw [if_neg (by rintro (e | e); exact e h.r; exact e hb), if_neg (not_not_intro h.st), h.d]
theorem sh_may {s : Sd} {b : Bl} (hb : ¬ MayB b) : eSh s b = 2 ∧ sSh s b = s := by
  have e : eSh s b = 2 := if_pos (.inr hb)
  exact ⟨e, by unfold sSh; rw [if_neg (by omega)]⟩
theorem sh_state {s : Sd} {L : List Bl} (h : HasB s L) {b : Bl} (hb : MayB b) : HasB (sSh s b) (if ePu L b = 0 then insB L b else L) ∧ (sSh s b).l = s.l ∧ (sSh s b).me = s.me ∧ (sSh s b).kp = s.kp := by
  unfold sSh
  rw [sh_has h b hb]
  by_cases he : ePu L b = 0
  · rw [if_pos he, if_pos he, h.d]
    show HasB { s with cg := Dk.mkS (encG (insB L b)) } (insB L b) ∧ s.l = s.l ∧ s.me = s.me ∧ s.kp = s.kp
    have hr := right_ins h.right hb he
    have hsz : (Dk.mkS (encG (insB L b))).size ≤ 500 := by rw [Dk.mkS_size, encG_length]; have := hr.1; omega
    obtain ⟨r1, r2, r3, r4, r5, r6⟩ := h.r
    refine ⟨⟨⟨r1, r2, r3, hsz, .inr (.inl h.st), r6⟩, h.st, ?_⟩, rfl, rfl, rfl⟩
    simp only
    rw [Dk.bl_mkS]
    exact dG_back hr
  · rw [if_neg he, if_neg he]
    exact ⟨h, rfl, rfl, rfl⟩
theorem sh_right {s : Sd} {b : Bl} (h : RightS s) : RightS (sSh s b) := by
  unfold sSh
  split
  · rename_i he
    have hb : MayB b := Decidable.byContradiction fun hb => by rw [(sh_may hb).1] at he; cases he
    have hst : s.l.st = 1 := by
      unfold eSh at he
      split at he
      · cases he
      · split at he
        · cases he
        · omega
    cases hd : dG (Dk.bl s.cg) with
    | none => simp only; exact h
    | some L =>
      have hh : HasB s L := ⟨h, hst, hd⟩
      have := (sh_state hh hb).1.r
      unfold sSh at this
      rw [if_pos he, hd] at this
      exact this
  · exact h
theorem sp_has {s : Sd} {L : List Bl} (h : HasB s L) {mb : Int} (hm : mb < 8) : eSp s mb = 0 ∧ lSp s mb = L.map (ntB mb s.l.ep) := by
  have e : eSp s mb = 0 := by unfold eSp; rw [if_neg (by rintro (e | e); exact e h.r; omega), if_neg (not_not_intro h.st), h.d]
  exact ⟨e, by unfold lSp; rw [if_pos e, h.d]⟩
/-- What is spoken are notes that may go. -/
theorem ntB_right {mb ep : Int} {b : Bl} (hm : 0 ≤ mb ∧ mb < 8) (he : 1 ≤ ep ∧ ep ≤ 1048576) (hb : MayB b) : RightN (ntB mb ep b) ∧ InN (ntB mb ep b) := by
  unfold MayB at hb
  have hm8 : mb < 8 := hm.2
  have hn : Dk.NoMsg (ntB mb ep b) := ⟨rfl, rfl, rfl, rfl, rfl⟩
  have hk : Dk.KindN (ntB mb ep b) := .inl ⟨rfl, he, hb.2⟩
  refine ⟨⟨hm8, .inr ⟨hn, hb.1, hk⟩⟩, ⟨by simp only [ntB]; omega, by simp only [ntB]; omega, by simp only [ntB]; omega⟩⟩
end Go.Proofs.Ytfdboahcaiolgaa

/-
  Plain mathematics of layer 19, more: a list that grows by one ballot, where a ballot belongs, what the document's loop makes. It speaks of no program. No condition.
-/
set_option linter.unusedVariables false
set_option linter.unusedSimpArgs false
namespace Go.Proofs.Ytfdboahcaiolgaa

def OrdB (L : List Bl) : Prop := (∀ b ∈ L, MayB b) ∧ SrtB L
def LstB (L : List Bl) (b : Bl) : Prop := ∀ x, L.getLast? = some x → x.tx < b.tx
def FolB (L : List Bl) (b : Bl) : Prop := L.length < 50 ∧ MayB b ∧ LstB L b
instance (L : List Bl) : Decidable (OrdB L) := by unfold OrdB; infer_instance
instance (L : List Bl) (b : Bl) : Decidable (LstB L b) := by
  unfold LstB
  cases L.getLast? with
  | none => exact isTrue (fun x h => by cases h)
  | some y => exact if h : y.tx < b.tx then isTrue (fun x e => by cases e; exact h) else isFalse (fun k => h (k y rfl))
instance (L : List Bl) (b : Bl) : Decidable (FolB L b) := by unfold FolB; infer_instance
theorem right_ord {L : List Bl} : RightB L ↔ L.length ≤ 50 ∧ OrdB L := Iff.rfl
theorem srt_snoc {L : List Bl} {b : Bl} : SrtB (L ++ [b]) ↔ SrtB L ∧ LstB L b := by
  unfold SrtB LstB
  rw [List.pairwise_append]
  constructor
  · rintro ⟨h1, _, h3⟩
    exact ⟨h1, fun x hx => h3 x (List.mem_of_getLast? hx) b (by simp)⟩
  · rintro ⟨h1, h2⟩
    refine ⟨h1, List.pairwise_singleton _ _, fun x hx y hy => ?_⟩
    rw [List.mem_singleton] at hy
    subst hy
    rcases List.eq_nil_or_concat L with rfl | ⟨M, z, rfl⟩
    · cases hx
    · have hz := h2 z (by simp)
      rw [List.concat_eq_append, List.pairwise_append] at h1
      rw [List.concat_eq_append, List.mem_append, List.mem_singleton] at hx
      rcases hx with hx | rfl
      · have := h1.2.2 x hx z (by simp); omega
      · exact hz
theorem ord_snoc {L : List Bl} {b : Bl} : OrdB (L ++ [b]) ↔ OrdB L ∧ MayB b ∧ LstB L b := by
  unfold OrdB
  rw [srt_snoc]
  constructor
  · rintro ⟨h1, h2, h3⟩
    exact ⟨⟨fun x hx => h1 x (List.mem_append_left _ hx), h2⟩, h1 b (by simp), h3⟩
  · rintro ⟨⟨h1, h2⟩, h3, h4⟩
    refine ⟨fun x hx => ?_, h2, h4⟩
    rw [List.mem_append, List.mem_singleton] at hx
    rcases hx with hx | rfl
    · exact h1 x hx
    · exact h3
theorem right_snoc {L : List Bl} {b : Bl} : RightB (L ++ [b]) ↔ RightB L ∧ FolB L b := by
  rw [right_ord, right_ord, ord_snoc]
  unfold FolB
  rw [List.length_append, List.length_singleton]
  constructor
  · rintro ⟨h1, h2, h3, h4⟩
    exact ⟨⟨by omega, h2⟩, by omega, h3, h4⟩
  · rintro ⟨⟨h1, h2⟩, h3, h4, h5⟩
    exact ⟨by omega, h2, h4, h5⟩
theorem take_snoc {α : Type} {L : List α} {k : Nat} {x : α} (h : L[k]? = some x) : L.take (k + 1) = L.take k ++ [x] := by
  rw [List.take_add_one, h]; rfl
theorem ord_take {L : List Bl} (h : OrdB L) (k : Nat) : OrdB (L.take k) := ⟨fun b hb => h.1 b (List.mem_of_mem_take hb), List.Pairwise.sublist (List.take_sublist k L) h.2⟩
theorem rightB_take {L : List Bl} (h : RightB L) (k : Nat) : RightB (L.take k) := ⟨by have := h.1; rw [List.length_take]; omega, ord_take ⟨h.2.1, h.2.2⟩ k⟩
theorem not_right {L : List Bl} {k : Nat} {x : Bl} (hx : L[k]? = some x) (h : ¬ FolB (L.take k) x) : ¬ RightB L := fun hr => by
  have := rightB_take hr (k + 1)
  rw [take_snoc hx] at this
  exact h (right_snoc.1 this).2
theorem right_next {L : List Bl} {k : Nat} {x : Bl} (hx : L[k]? = some x) (h : FolB (L.take k) x) (hr : RightB (L.take k)) : RightB (L.take (k + 1)) := by
  rw [take_snoc hx]; exact right_snoc.2 ⟨hr, h⟩
theorem not_ord {L : List Bl} {k : Nat} {x : Bl} (hx : L[k]? = some x) (h : ¬ (MayB x ∧ LstB (L.take k) x)) : ¬ RightB L := fun hr => by
  have := ord_take ⟨hr.2.1, hr.2.2⟩ (k + 1)
  rw [take_snoc hx] at this
  exact h (ord_snoc.1 this).2
theorem ord_next {L : List Bl} {k : Nat} {x : Bl} (hx : L[k]? = some x) (h1 : MayB x) (h2 : LstB (L.take k) x) (hr : OrdB (L.take k)) : OrdB (L.take (k + 1)) := by
  rw [take_snoc hx]; exact ord_snoc.2 ⟨hr, h1, h2⟩
theorem lst_nil (b : Bl) : LstB [] b := fun x h => by cases h
theorem lst_at {L : List Bl} {k : Nat} {x b : Bl} (hl : L.length = k + 1) (hx : L[k]? = some x) : LstB L b ↔ x.tx < b.tx := by
  have e : L.getLast? = some x := by rw [List.getLast?_eq_getElem?, hl]; exact hx
  unfold LstB
  rw [e]
  exact ⟨fun h => h x rfl, fun h y hy => by cases hy; exact h⟩
theorem lst_take {L : List Bl} {k : Nat} {x b : Bl} (hx : L[k]? = some x) : LstB (L.take (k + 1)) b ↔ x.tx < b.tx := by
  have hk : k < L.length := (List.getElem?_eq_some_iff.1 hx).1
  refine lst_at (k := k) (by rw [List.length_take]; omega) ?_
  rw [List.getElem?_take_of_lt (by omega)]
  exact hx
/-- Where a ballot belongs. -/
structure AtB (L : List Bl) (b : Bl) (i : Nat) : Prop where
  le : i ≤ L.length
  lo : ∀ t x, t < i → L[t]? = some x → x.tx < b.tx
  hi : ∀ t x, i ≤ t → L[t]? = some x → ¬ x.tx < b.tx
theorem srt_lt {L : List Bl} (h : SrtB L) {i j : Nat} {x y : Bl} (hij : i < j) (hx : L[i]? = some x) (hy : L[j]? = some y) : x.tx < y.tx := by
  obtain ⟨hi, rfl⟩ := List.getElem?_eq_some_iff.1 hx
  obtain ⟨hj, rfl⟩ := List.getElem?_eq_some_iff.1 hy
  exact List.pairwise_iff_getElem.1 h i j hi hj hij
/-- It is there. -/
theorem at_has {L : List Bl} {b x : Bl} {i : Nat} (h : AtB L b i) (hs : SrtB L) (hx : L[i]? = some x) (he : x.tx = b.tx) : valB L b.tx = some x.vt := by
  rw [← he]; exact mem_valB hs (List.mem_of_getElem? hx)
/-- It is not. -/
theorem at_no {L : List Bl} {b : Bl} {i : Nat} (h : AtB L b i) (hs : SrtB L) (hn : ∀ x, L[i]? = some x → ¬ x.tx = b.tx) : valB L b.tx = none ∧ insB L b = L.take i ++ b :: L.drop i := by
  have hgt : ∀ t x, i ≤ t → L[t]? = some x → b.tx < x.tx := fun t x ht hx => by
    have h1 := h.hi t x ht hx
    by_cases e : t = i
    · subst e; have := hn x hx; omega
    · obtain ⟨y, hy⟩ : ∃ y, L[i]? = some y := ⟨_, List.getElem?_eq_getElem (by have := (List.getElem?_eq_some_iff.1 hx).1; omega)⟩
      have h2 := h.hi i y (Nat.le_refl _) hy
      have h3 := srt_lt hs (by omega : i < t) hy hx
      omega
  refine ⟨valB_none.2 fun x hx => ?_, ?_⟩
  · obtain ⟨t, ht, rfl⟩ := List.getElem_of_mem hx
    have he := List.getElem?_eq_getElem ht
    by_cases hti : t < i
    · have := h.lo t _ hti he; omega
    · have := hgt t _ (by omega) he; omega
  · have hlo := h.lo
    have hle := h.le
    clear hs hn h
    induction L generalizing i with
    | nil =>
      simp only [List.length_nil] at hle
      obtain rfl : i = 0 := by omega
      rfl
    | cons x r ih =>
      cases i with
      | zero =>
        have := hgt 0 x (Nat.le_refl _) rfl
        unfold insB
        rw [if_neg (by omega), if_pos this]
        rfl
      | succ i =>
        have := hlo 0 x (by omega) rfl
        unfold insB
        rw [if_neg (by omega), if_neg (by omega), ih (i := i) (fun t y ht hy => hgt (t + 1) y (by omega) (by simpa using hy)) (fun t y ht hy => hlo (t + 1) y (by omega) (by simpa using hy)) (by simpa using hle)]
        rfl
theorem at_lt {L : List Bl} {b : Bl} (hs : SrtB L) {i : Nat} {x : Bl} (hx : L[i]? = some x) (h : x.tx < b.tx) : ∀ t y, t < i + 1 → L[t]? = some y → y.tx < b.tx := fun t y ht hy => by
  by_cases e : t = i
  · subst e; rw [hx] at hy; cases hy; exact h
  · have := srt_lt hs (by omega : t < i) hy hx; omega
theorem at_ge {L : List Bl} {b : Bl} (hs : SrtB L) {i : Nat} {x : Bl} (hx : L[i]? = some x) (h : ¬ x.tx < b.tx) : ∀ t y, i ≤ t → L[t]? = some y → ¬ y.tx < b.tx := fun t y ht hy => by
  by_cases e : t = i
  · subst e; rw [hx] at hy; cases hy; exact h
  · have := srt_lt hs (by omega : i < t) hx hy; omega
/-! ### the document's loop -/
theorem ins_snoc {b x : Bl} : ∀ {M : List Bl}, (∃ y ∈ M, b.tx < y.tx) → insB (M ++ [x]) b = insB M b ++ [x]
  | [], h => by obtain ⟨y, hy, _⟩ := h; cases hy
  | y :: r, h => by
    simp only [List.cons_append, insB]
    by_cases h1 : y.tx = b.tx
    · rw [if_pos h1, if_pos h1]; rfl
    · rw [if_neg h1, if_neg h1]
      by_cases h2 : b.tx < y.tx
      · rw [if_pos h2, if_pos h2]; rfl
      · rw [if_neg h2, if_neg h2, ins_snoc (M := r)]
        · rfl
        · obtain ⟨z, hz, hlt⟩ := h
          rw [List.mem_cons] at hz
          rcases hz with rfl | hz
          · exact absurd hlt h2
          · exact ⟨z, hz, hlt⟩
theorem ins_all {b : Bl} : ∀ {M : List Bl} {R : List Bl}, (∀ y ∈ M, y.tx < b.tx) → insB (M ++ R) b = M ++ insB R b
  | [], R, _ => rfl
  | y :: r, R, h => by
    have := h y (List.mem_cons_self ..)
    simp only [List.cons_append, insB]
    rw [if_neg (by omega), if_neg (by omega), ins_all (M := r) (fun z hz => h z (List.mem_cons_of_mem _ hz))]
/-- What the loop has made of the first k ballots, none of which was for this transaction. -/
structure PuS (L : List Bl) (b : Bl) (k : Nat) (done : Bool) (out : List Bl) : Prop where
  no : ∀ y ∈ L.take k, ¬ y.tx = b.tx
  yes : done = true → (∃ y ∈ L.take k, b.tx < y.tx) ∧ out = insB (L.take k) b ∧ out.length = k + 1
  not : done = false → (∀ y ∈ L.take k, y.tx < b.tx) ∧ out = L.take k
theorem PuS.start (L : List Bl) (b : Bl) : PuS L b 0 false [] := ⟨fun y h => (by simp at h), fun h => (by cases h), fun _ => ⟨fun y h => (by simp at h), rfl⟩⟩
theorem mem_take1 {L : List Bl} {k : Nat} {x y : Bl} (hx : L[k]? = some x) (hy : y ∈ L.take (k + 1)) : y ∈ L.take k ∨ y = x := by
  rw [take_snoc hx, List.mem_append, List.mem_singleton] at hy; exact hy
theorem PuS.first {L : List Bl} {b x : Bl} {k : Nat} {out : List Bl} (h : PuS L b k false out) (hx : L[k]? = some x) (hlt : b.tx < x.tx) : PuS L b (k + 1) true (out ++ [b] ++ [x]) := by
  obtain ⟨h1, h2⟩ := h.not rfl
  have hk : k < L.length := (List.getElem?_eq_some_iff.1 hx).1
  refine ⟨fun y hy => (mem_take1 hx hy).elim (h.no y) (fun e => by subst e; omega), fun _ => ⟨⟨x, by rw [take_snoc hx]; simp, hlt⟩, ?_, ?_⟩, fun e => by cases e⟩
  · rw [take_snoc hx, ins_all h1, h2]
    simp only [insB]
    rw [if_neg (by omega), if_pos hlt]
    simp
  · rw [h2]; simp; omega
theorem PuS.skip {L : List Bl} {b x : Bl} {k : Nat} {out : List Bl} (h : PuS L b k false out) (hx : L[k]? = some x) (hlt : ¬ b.tx < x.tx) (hne : ¬ x.tx = b.tx) : PuS L b (k + 1) false (out ++ [x]) := by
  obtain ⟨h1, h2⟩ := h.not rfl
  refine ⟨fun y hy => (mem_take1 hx hy).elim (h.no y) (fun e => by subst e; exact hne), fun e => (by cases e), fun _ => ⟨fun y hy => (mem_take1 hx hy).elim (h1 y) (fun e => by subst e; omega), by rw [take_snoc hx, h2]⟩⟩
theorem PuS.next {L : List Bl} {b x : Bl} {k : Nat} {out : List Bl} (h : PuS L b k true out) (hx : L[k]? = some x) (hne : ¬ x.tx = b.tx) : PuS L b (k + 1) true (out ++ [x]) := by
  obtain ⟨h1, h2, h3⟩ := h.yes rfl
  refine ⟨fun y hy => (mem_take1 hx hy).elim (h.no y) (fun e => by subst e; exact hne), fun _ => ⟨?_, by rw [take_snoc hx, ins_snoc h1, h2], by rw [List.length_append, h3]; rfl⟩, fun e => by cases e⟩
  obtain ⟨y, hy, hlt⟩ := h1
  exact ⟨y, by rw [take_snoc hx]; exact List.mem_append_left _ hy, hlt⟩
theorem PuS.end_ {L : List Bl} {b : Bl} {done : Bool} {out : List Bl} (h : PuS L b L.length done out) : valB L b.tx = none ∧ (if done = true then out else out ++ [b]) = insB L b ∧ (insB L b).length = L.length + 1 := by
  have hn : valB L b.tx = none := valB_none.2 fun y hy => h.no y (by rw [List.take_length]; exact hy)
  cases done with
  | true =>
    obtain ⟨_, h2, h3⟩ := h.yes rfl
    rw [List.take_length] at h2
    exact ⟨hn, by rw [if_pos rfl]; exact h2, by rw [← h2]; exact h3⟩
  | false =>
    obtain ⟨h1, h2⟩ := h.not rfl
    rw [List.take_length] at h1 h2
    have e : insB L b = L ++ [b] := by have := ins_all (R := []) h1; rwa [List.append_nil] at this
    exact ⟨hn, by rw [if_neg (by simp), h2, e], by rw [e]; simp⟩
/-- The shape of a cargo, as text. -/
theorem shG_snoc : ∀ n, shG (n + 1) = shG n ++ [98, 97]
  | 0 => rfl
  | n + 1 => by show 98 :: 97 :: shG (n + 1) = (98 :: 97 :: shG n) ++ [98, 97]; rw [shG_snoc n]; rfl
theorem cvG_append : ∀ (L M : List Bl), cvG (L ++ M) = cvG L ++ cvG M
  | [], M => rfl
  | b :: r, M => by show Dk.cn b.tx :: Dk.cn b.vt :: cvG (r ++ M) = Dk.cn b.tx :: Dk.cn b.vt :: cvG r ++ cvG M; rw [cvG_append r M]; rfl
theorem cvG_snoc (L : List Bl) (b : Bl) : cvG (L ++ [b]) = cvG L ++ [Dk.cn b.tx, Dk.cn b.vt] := cvG_append L [b]
theorem okV_cvG : ∀ {L : List Bl}, (∀ b ∈ L, MayB b) → ∀ v ∈ cvG L, v.n < 18446744073709551616 ∧ v.s.size ≤ maxLen
  | [], _, v, hv => by cases hv
  | b :: r, h, v, hv => by
    have hb := h b (List.mem_cons_self ..)
    unfold MayB at hb
    have hz : (Dk.cn b.tx).s.size = 0 := rfl
    have hz2 : (Dk.cn b.vt).s.size = 0 := rfl
    simp only [cvG, List.mem_cons] at hv
    rcases hv with rfl | rfl | hv
    · exact ⟨by simp only [Dk.cn]; omega, by rw [hz]; exact Nat.zero_le _⟩
    · exact ⟨by simp only [Dk.cn]; omega, by rw [hz2]; exact Nat.zero_le _⟩
    · exact okV_cvG (fun x hx => h x (List.mem_cons_of_mem _ hx)) v hv
/-! ### ballots of values -/
theorem blG_at : ∀ {l : List Dk.CV} {k : Nat} {a c : Dk.CV}, l[2 * k]? = some a → l[2 * k + 1]? = some c → (blG l)[k]? = some ⟨a.n, c.n⟩
  | [], k, a, c, h, _ => by simp at h
  | [x], k, a, c, _, h => by simp at h
  | x :: y :: r, 0, a, c, h1, h2 => by
    simp at h1 h2
    subst h1 h2
    rfl
  | x :: y :: r, k + 1, a, c, h1, h2 => by
    have i1 : r[2 * k]? = some a := by rw [show 2 * (k + 1) = 2 * k + 1 + 1 by omega] at h1; simpa using h1
    have i2 : r[2 * k + 1]? = some c := by rw [show 2 * (k + 1) + 1 = 2 * k + 1 + 1 + 1 by omega] at h2; simpa using h2
    have := blG_at i1 i2
    simpa [blG] using this
theorem blG_len : ∀ (n : Nat) {l : List Dk.CV}, l.length = 2 * n → (blG l).length = n
  | 0, l, h => by have : l = [] := List.eq_nil_of_length_eq_zero (by omega); subst this; rfl
  | n + 1, [], h => by simp at h
  | n + 1, [_], h => by simp at h; omega
  | n + 1, a :: b :: r, h => by simp only [List.length_cons] at h; simp [blG, blG_len n (l := r) (by omega)]
/-- What is not too long to be a cargo. -/
theorem dG_long {bs : List UInt8} (h : 150 < bs.length) : dG bs = none := by
  cases hd : dG bs with
  | none => rfl
  | some L =>
    obtain ⟨hr, rfl⟩ := dG_some.1 hd
    have := encG_length L
    have := hr.1
    omega
theorem dG_of {bs : List UInt8} {l : List Dk.CV} (h : Dk.okD (shG (bs.length / 3)) bs = some l) : dG bs = if RightB (blG l) then some (blG l) else none := by unfold dG; rw [h]
theorem dG_no {bs : List UInt8} (h : Dk.okD (shG (bs.length / 3)) bs = none) : dG bs = none := by unfold dG; rw [h]
end Go.Proofs.Ytfdboahcaiolgaa
