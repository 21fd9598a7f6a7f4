/-
  Plain mathematics of layer 12 (hand): sides, messages, what is asked, heard and said again. It speaks of no program. No condition.
-/
import Derived.Test.YtmghckddofefkaaLeM
namespace Go.Proofs.Ytmghckddofefkaa

/-- A side: who it is, its lease, its cargo, whether it keeps it. -/
structure Sd where
  me : Int
  l : Ls
  cg : ByteArray
  kp : Bool
theorem Sd.ext_ {a b : Sd} (h1 : a.me = b.me) (h2 : a.l = b.l) (h3 : a.cg = b.cg) (h4 : a.kp = b.kp) : a = b := by cases a; cases b; simp_all
/-- A message: kind, from, to, epoch, cargo. -/
structure Mg where
  kd : Int
  fr : Int
  to : Int
  ep : Int
  cg : ByteArray
def inSd (s : Sd) : Prop := (0 ≤ s.me ∧ s.me ≤ 255) ∧ inL s.l ∧ s.cg.size ≤ 140737488355328
def inMg (m : Mg) : Prop := (-9223372036854775808 ≤ m.kd ∧ m.kd ≤ 9223372036854775807) ∧ (0 ≤ m.fr ∧ m.fr ≤ 255) ∧ (0 ≤ m.to ∧ m.to ≤ 255) ∧ (-9223372036854775808 ≤ m.ep ∧ m.ep ≤ 9223372036854775807) ∧ m.cg.size ≤ 140737488355328
/-- A side is valid. -/
def RightS (s : Sd) : Prop := s.me < 8 ∧ rightL s.l = true ∧ ¬ (s.l.st = 2 ∧ s.l.to = s.me) ∧ s.cg.size ≤ 500 ∧ (s.cg.size = 0 ∨ s.l.st = 1 ∨ s.kp = true) ∧ (s.kp = true → s.l.st = 2)
instance (s : Sd) : Decidable (RightS s) := by unfold RightS; infer_instance
/-- A message is valid. -/
def MayM (m : Mg) : Prop := (1 ≤ m.kd ∧ m.kd ≤ 4) ∧ m.fr < 8 ∧ m.to < 8 ∧ m.fr ≠ m.to ∧ (1 ≤ m.ep ∧ m.ep ≤ 1048576) ∧ (m.cg.size = 0 ∨ (m.kd = 3 ∧ m.cg.size ≤ 500))
instance (m : Mg) : Decidable (MayM m) := by unfold MayM; infer_instance
def mg0 : Mg := ⟨0, 0, 0, 0, ⟨#[]⟩⟩
-- Ask
def eAsk (s : Sd) (t : Int) : Nat := if ¬ RightS s ∨ 8 ≤ t ∨ t = s.me then 2 else if ¬ s.l.st = 1 then 7 else if s.l.ep = 1048576 then 3 else 0
def mAsk (s : Sd) (t : Int) : Mg := if eAsk s t = 0 then ⟨1, s.me, t, s.l.ep, ⟨#[]⟩⟩ else mg0
/-- What is said by one that keeps a cargo. -/
def gvM (s : Sd) : Mg := ⟨3, s.me, s.l.to, s.l.ep + 1, s.cg⟩
def againM (s : Sd) : List Mg := if RightS s ∧ s.kp = true then [gvM s] else []
-- Hear
/-- What comes of a message: the side, the answers, the number. -/
structure Td where
  s : Sd
  r : List Mg
  e : Nat
def offerM (s : Sd) (m : Mg) : Td := if m.ep ≤ s.l.ep then ⟨s, [], 10⟩ else ⟨s, [⟨2, s.me, m.fr, m.ep, ⟨#[]⟩⟩], 0⟩
def wantM (s : Sd) (m : Mg) : Td :=
  if s.l.st = 1 ∧ s.l.ep = m.ep then (if m.ep = 1048576 then ⟨s, [], 3⟩ else ⟨⟨s.me, ⟨s.l.ep, 2, m.fr⟩, s.cg, true⟩, [⟨3, s.me, m.fr, m.ep + 1, s.cg⟩], 0⟩)
  else if s.l.st = 2 ∧ s.l.ep = m.ep ∧ s.l.to = m.fr ∧ s.kp = true then ⟨s, [⟨3, s.me, m.fr, m.ep + 1, s.cg⟩], 0⟩
  else ⟨s, [], 10⟩
def giveM (s : Sd) (m : Mg) : Td := ⟨if s.l.ep < m.ep then ⟨s.me, ⟨m.ep, 1, 0⟩, m.cg, false⟩ else s, [⟨4, s.me, m.fr, m.ep, ⟨#[]⟩⟩], 0⟩
def gotM (s : Sd) (m : Mg) : Td := if s.l.st = 2 ∧ s.l.ep = m.ep - 1 ∧ s.l.to = m.fr ∧ s.kp = true then ⟨⟨s.me, s.l, ⟨#[]⟩, false⟩, [], 0⟩ else ⟨s, [], 10⟩
def hearM (s : Sd) (m : Mg) : Td :=
  if RightS s ∧ MayM m ∧ m.to = s.me then
    (if m.kd = 2 then wantM s m else if m.kd = 3 then giveM s m else if m.kd = 1 then offerM s m else gotM s m)
  else ⟨s, [], 2⟩

theorem hear_ok {s : Sd} {m : Mg} (h : RightS s ∧ MayM m ∧ m.to = s.me) : hearM s m = (if m.kd = 2 then wantM s m else if m.kd = 3 then giveM s m else if m.kd = 1 then offerM s m else gotM s m) := if_pos h
theorem sz0 : (⟨#[]⟩ : ByteArray).size = 0 := rfl
theorem size_nil {c : ByteArray} (h : c.size = 0) : c = ⟨#[]⟩ := by
  obtain ⟨a⟩ := c
  have : a = #[] := Array.eq_empty_of_size_eq_zero h
  rw [this]

/-- What holds of what is heard, whoever it is and whatever comes. -/
theorem hear_kinds (s : Sd) (m : Mg) : hearM s m = ⟨s, [], 2⟩ ∨ (RightS s ∧ MayM m ∧ m.to = s.me ∧ ((m.kd = 1 ∧ hearM s m = offerM s m) ∨ (m.kd = 2 ∧ hearM s m = wantM s m) ∨ (m.kd = 3 ∧ hearM s m = giveM s m) ∨ (m.kd = 4 ∧ hearM s m = gotM s m))) := by
  unfold hearM
  split
  · rename_i h
    refine .inr ⟨h.1, h.2.1, h.2.2, ?_⟩
    have hk := h.2.1.1
    by_cases h2 : m.kd = 2
    · exact .inr (.inl ⟨h2, by rw [if_pos h2]⟩)
    · by_cases h3 : m.kd = 3
      · exact .inr (.inr (.inl ⟨h3, by rw [if_neg h2, if_pos h3]⟩))
      · by_cases h1 : m.kd = 1
        · exact .inl ⟨h1, by rw [if_neg h2, if_neg h3, if_pos h1]⟩
        · exact .inr (.inr (.inr ⟨by omega, by rw [if_neg h2, if_neg h3, if_neg h1]⟩))
  · exact .inl rfl

/-- With an error the side stays, and nothing is said. -/
theorem hear_error (s : Sd) (m : Mg) (h : (hearM s m).e ≠ 0) : (hearM s m).s = s ∧ (hearM s m).r = [] := by
  rcases hear_kinds s m with e | ⟨_, _, _, ⟨_, e⟩ | ⟨_, e⟩ | ⟨_, e⟩ | ⟨_, e⟩⟩ <;> rw [e] at h ⊢
  · exact ⟨rfl, rfl⟩
  · unfold offerM at h ⊢
    split
    · exact ⟨rfl, rfl⟩
    · rename_i h1
      rw [if_neg h1] at h
      exact absurd rfl h
  · unfold wantM at h ⊢
    split
    · rename_i h1
      rw [if_pos h1] at h
      split
      · exact ⟨rfl, rfl⟩
      · rename_i h2
        rw [if_neg h2] at h
        exact absurd rfl h
    · rename_i h1
      rw [if_neg h1] at h
      split
      · rename_i h2
        rw [if_pos h2] at h
        exact absurd rfl h
      · exact ⟨rfl, rfl⟩
  · exact absurd rfl h
  · unfold gotM at h ⊢
    split
    · rename_i h1
      rw [if_pos h1] at h
      exact absurd rfl h
    · exact ⟨rfl, rfl⟩
/-- A valid side stays valid; its epoch never falls; who it is stays; one answer at most, to the one who spoke. -/
theorem hear_right (s : Sd) (m : Mg) (hs : RightS s) : RightS (hearM s m).s ∧ (hearM s m).s.me = s.me ∧ s.l.ep ≤ (hearM s m).s.l.ep ∧ (hearM s m).r.length ≤ 1 ∧ ∀ y ∈ (hearM s m).r, y.fr = s.me ∧ y.to = m.fr := by
  have base : RightS s ∧ s.me = s.me ∧ s.l.ep ≤ s.l.ep := ⟨hs, rfl, Int.le_refl _⟩
  rcases hear_kinds s m with e | ⟨_, hm, ht, ⟨_, e⟩ | ⟨_, e⟩ | ⟨hk, e⟩ | ⟨_, e⟩⟩ <;> rw [e]
  · exact ⟨hs, rfl, Int.le_refl _, by simp, by simp⟩
  · unfold offerM
    split
    · exact ⟨hs, rfl, Int.le_refl _, by simp, by simp⟩
    · exact ⟨hs, rfl, Int.le_refl _, by simp, by simp⟩
  · unfold wantM
    split
    · rename_i h1
      split
      · exact ⟨hs, rfl, Int.le_refl _, by simp, by simp⟩
      · obtain ⟨a1, a2, a3, a4, a5, a6⟩ := hs
        obtain ⟨b1, b2, b3, b4, b5, b6⟩ := hm
        refine ⟨⟨a1, right_gone (by omega) (by omega) b2, by simp only; omega, a4, .inr (.inr rfl), fun _ => rfl⟩, rfl, Int.le_refl _, by simp, by simp⟩
    · split
      · exact ⟨hs, rfl, Int.le_refl _, by simp, by simp⟩
      · exact ⟨hs, rfl, Int.le_refl _, by simp, by simp⟩
  · unfold giveM
    obtain ⟨b1, b2, b3, b4, b5, b6⟩ := hm
    split
    · rename_i h1
      refine ⟨⟨hs.1, right_held b5.1 b5.2, by simp, by show m.cg.size ≤ 500; omega, .inr (.inl rfl), by simp⟩, rfl, by show s.l.ep ≤ m.ep; omega, by simp, by simp⟩
    · exact ⟨hs, rfl, Int.le_refl _, by simp, by simp⟩
  · unfold gotM
    split
    · obtain ⟨a1, a2, a3, a4, a5, a6⟩ := hs
      exact ⟨⟨a1, a2, a3, by show (0 : Nat) ≤ 500; omega, .inl rfl, by simp⟩, rfl, Int.le_refl _, by simp, by simp⟩
    · exact ⟨hs, rfl, Int.le_refl _, by simp, by simp⟩
/-- What comes twice is answered alike, or not at all, and changes nothing more. -/
theorem hear_twice (s : Sd) (m : Mg) (hs : RightS s) : (hearM (hearM s m).s m).s = (hearM s m).s ∧ (((hearM s m).e ≠ 0 → (hearM (hearM s m).s m).e = (hearM s m).e ∧ (hearM (hearM s m).s m).r = []) ∧ ((hearM (hearM s m).s m).e ≠ 0 → (hearM (hearM s m).s m).r = []) ∧ ((hearM s m).e = 0 → (hearM (hearM s m).s m).e = 0 → (hearM (hearM s m).s m).r = (hearM s m).r)) := by
  by_cases he : (hearM s m).e = 0
  case neg =>
    obtain ⟨h1, h2⟩ := hear_error s m he
    rw [h1]
    exact ⟨h1, fun _ => ⟨rfl, h2⟩, fun _ => h2, fun h => absurd h he⟩
  have hr := hear_right s m hs
  have key : (hearM (hearM s m).s m).s = (hearM s m).s ∧ ((hearM (hearM s m).s m).e = 0 → (hearM (hearM s m).s m).r = (hearM s m).r) := by
    rcases hear_kinds s m with e | ⟨_, hm, ht, hk⟩
    · rw [e] at he; cases he
    have hr1 := hr.1
    have hme := hr.2.1
    have ok2 : RightS (hearM s m).s ∧ MayM m ∧ m.to = (hearM s m).s.me := ⟨hr1, hm, by rw [hme]; exact ht⟩
    have h3 := hear_ok ok2
    rw [h3]
    rcases hk with ⟨k, e⟩ | ⟨k, e⟩ | ⟨k, e⟩ | ⟨k, e⟩
    · rw [if_neg (by omega), if_neg (by omega), if_pos k, e]
      have : (offerM s m).s = s := by unfold offerM; split <;> rfl
      rw [this]
      exact ⟨this, fun _ => rfl⟩
    · rw [if_pos k, e]
      rw [e] at he
      unfold wantM at he ⊢
      by_cases c1 : s.l.st = 1 ∧ s.l.ep = m.ep
      · rw [if_pos c1] at he ⊢
        by_cases c2 : m.ep = 1048576
        · rw [if_pos c2] at he; cases he
        · rw [if_neg c2]
          rw [if_neg (by simp), if_pos ⟨rfl, c1.2, rfl, rfl⟩]
          exact ⟨rfl, fun _ => rfl⟩
      · rw [if_neg c1] at he ⊢
        by_cases c2 : s.l.st = 2 ∧ s.l.ep = m.ep ∧ s.l.to = m.fr ∧ s.kp = true
        · rw [if_pos c2]
          rw [if_neg c1, if_pos c2]
          exact ⟨rfl, fun _ => rfl⟩
        · rw [if_neg c2] at he; cases he
    · rw [if_neg (by omega), if_pos k, e]
      unfold giveM
      by_cases c1 : s.l.ep < m.ep
      · rw [if_pos c1]
        exact ⟨if_neg (by simp), fun _ => rfl⟩
      · rw [if_neg c1]
        exact ⟨if_neg c1, fun _ => rfl⟩
    · rw [if_neg (by omega), if_neg (by omega), if_neg (by omega), e]
      rw [e] at he
      unfold gotM at he ⊢
      by_cases c1 : s.l.st = 2 ∧ s.l.ep = m.ep - 1 ∧ s.l.to = m.fr ∧ s.kp = true
      · rw [if_pos c1]
        rw [if_neg (by simp)]
        exact ⟨rfl, fun h => by cases h⟩
      · rw [if_neg c1] at he; cases he
  refine ⟨key.1, fun h => absurd he h, fun h => (hear_error _ m h).2, fun _ h => key.2 h⟩
end Go.Proofs.Ytmghckddofefkaa
