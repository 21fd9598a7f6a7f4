/-
  Plain mathematics of layer 12, several sides: one at most holds the agency, with its cargo, whatever comes; what is said again arrives. It speaks of no program. No condition.
-/
import Derived.Test.YtmghckddofefkaaHaM
namespace Go.Proofs.Ytmghckddofefkaa

def updS (S : Nat → Sd) (k : Nat) (s : Sd) : Nat → Sd := fun j => if j = k then s else S j
theorem updS_same (S : Nat → Sd) (k : Nat) (s : Sd) : updS S k s k = s := if_pos rfl
theorem updS_other (S : Nat → Sd) {k j : Nat} (s : Sd) (h : ¬ j = k) : updS S k s j = S j := if_neg h
theorem updS_self (S : Nat → Sd) (k : Nat) : updS S k (S k) = S := by
  funext j
  unfold updS
  split
  · rename_i h; rw [h]
  · rfl
/-- What holds of a message that was said: of n sides, the cargo being c, the epoch E, the owner o; t: is the agency under way? -/
structure MsgOk (n : Nat) (S : Nat → Sd) (c : ByteArray) (E : Int) (o : Nat) (t : Bool) (m : Mg) : Prop where
  fr : ∃ a : Nat, a < n ∧ m.fr = a
  to : ∃ b : Nat, b < n ∧ m.to = b
  give : m.kd = 3 → ∀ b : Nat, m.to = b → m.ep ≤ (S b).l.ep ∨ (t = true ∧ (S o).l.to = m.to ∧ m.ep = E + 1 ∧ m.cg = c)
  got : m.kd = 4 → ∀ a : Nat, m.fr = a → m.ep ≤ (S a).l.ep
/-- What holds at every moment. -/
structure PI (n : Nat) (S : Nat → Sd) (said : List Mg) (c : ByteArray) (E : Int) (o : Nat) (t : Bool) : Prop where
  lt : o < n
  n8 : n ≤ 8
  e1 : 1 ≤ E
  fst : E = 1 → o = 0
  val : ∀ k, k < n → RightS (S k) ∧ (S k).me = k
  oep : (S o).l.ep = E
  ocg : (S o).cg = c
  held : t = false → (S o).l.st = 1
  gone : t = true → (S o).l.st = 2 ∧ (S o).kp = true
  oth : ∀ k, k < n → ¬ k = o → (S k).l.st ≠ 1 ∧ (S k).l.ep < E
  kp : ∀ k, k < n → (S k).kp = true → ∃ j : Nat, j < n ∧ ¬ j = k ∧ (S k).l.to = j ∧ (k = o ∨ (S k).l.ep < (S j).l.ep)
  msg : ∀ m ∈ said, MsgOk n S c E o t m
variable {n : Nat} {S : Nat → Sd} {said : List Mg} {c : ByteArray} {E : Int} {o : Nat} {t : Bool}
theorem PI.sub (h : PI n S said c E o t) {L : List Mg} (hL : ∀ m ∈ L, m ∈ said) : PI n S L c E o t :=
  ⟨h.lt, h.n8, h.e1, h.fst, h.val, h.oep, h.ocg, h.held, h.gone, h.oth, h.kp, fun m hm => h.msg m (hL m hm)⟩
theorem PI.say (h : PI n S said c E o t) {L : List Mg} (hL : ∀ m ∈ L, MsgOk n S c E o t m) : PI n S (said ++ L) c E o t :=
  ⟨h.lt, h.n8, h.e1, h.fst, h.val, h.oep, h.ocg, h.held, h.gone, h.oth, h.kp, fun m hm => by
    rw [List.mem_append] at hm
    rcases hm with hm | hm
    · exact h.msg m hm
    · exact hL m hm⟩
theorem PI.le (h : PI n S said c E o t) {k : Nat} (hk : k < n) : (S k).l.ep ≤ E := by
  by_cases e : k = o
  · rw [e, h.oep]; exact Int.le_refl _
  · have := (h.oth k hk e).2; omega
theorem PI.gv (h : PI n S said c E o t) {k : Nat} (hk : k < n) (hkp : (S k).kp = true) : MsgOk n S c E o t (gvM (S k)) := by
  obtain ⟨j, h1, h2, h3, h4⟩ := h.kp k hk hkp
  have hst : (S k).l.st = 2 := (h.val k hk).1.2.2.2.2.2 hkp
  refine ⟨⟨k, hk, (h.val k hk).2⟩, ⟨j, h1, h3⟩, fun _ b hb => ?_, fun e => by cases e⟩
  simp only [gvM] at hb ⊢
  have hbj : b = j := by omega
  subst hbj
  rcases h4 with e | e
  · subst e
    refine .inr ⟨?_, rfl, by rw [h.oep], h.ocg⟩
    cases t
    · have := h.held rfl; omega
    · rfl
  · exact .inl (by omega)
/-- A message comes. -/
theorem PI.hear (h : PI n S said c E o t) {m : Mg} (hm : m ∈ said) {k : Nat} (hk : k < n) :
    ∃ E' o' t', PI n (updS S k (hearM (S k) m).s) (said ++ (hearM (S k) m).r) c E' o' t' ∧ ((E' = E ∧ o' = o ∧ (t' = t ∨ (t' = true ∧ m.kd = 2))) ∨ (E' = E + 1 ∧ t = true ∧ t' = false)) := by
  have hv := h.val k hk
  have hmsg := h.msg m hm
  have hr := hear_right (S k) m hv.1
  have stay : ∀ L : List Mg, (hearM (S k) m).s = S k → (hearM (S k) m).r = L → (∀ y ∈ L, MsgOk n S c E o t y) → ∃ E' o' t', PI n (updS S k (hearM (S k) m).s) (said ++ (hearM (S k) m).r) c E' o' t' ∧ ((E' = E ∧ o' = o ∧ (t' = t ∨ (t' = true ∧ m.kd = 2))) ∨ (E' = E + 1 ∧ t = true ∧ t' = false)) := by
    intro L e1 e2 hL
    rw [e1, e2, updS_self]
    exact ⟨E, o, t, h.say hL, .inl ⟨rfl, rfl, .inl rfl⟩⟩
  obtain ⟨a, ha, hfa⟩ := hmsg.fr
  rcases hear_kinds (S k) m with e | ⟨_, hmay, hto, ⟨hkd, e⟩ | ⟨hkd, e⟩ | ⟨hkd, e⟩ | ⟨hkd, e⟩⟩
  · exact stay [] (by rw [e]) (by rw [e]) (by simp)
  · -- Offer
    unfold offerM at e
    split at e
    · exact stay [] (by rw [e]) (by rw [e]) (by simp)
    · refine stay _ (by rw [e]) (by rw [e]) fun y hy => ?_
      simp only [List.mem_singleton] at hy
      subst hy
      exact ⟨⟨k, hk, hv.2⟩, ⟨a, ha, hfa⟩, (fun e => by simp at e), fun e => by simp at e⟩
  · -- Want
    unfold wantM at e
    split at e
    · rename_i c1
      split at e
      · exact stay [] (by rw [e]) (by rw [e]) (by simp)
      · rename_i c2
        have hko : k = o := Classical.byContradiction fun hne => (h.oth k hk hne).1 c1.1
        subst hko
        have ht : t = false := by
          cases t
          · rfl
          · have := (h.gone rfl).1; omega
        subst ht
        have hEm : m.ep = E := by rw [← h.oep]; exact c1.2.symm
        have hak : ¬ a = k := by
          have := hmay.2.2.2.1
          rw [hto, hv.2, hfa] at this
          omega
        have hep : ∀ b, (updS S k (hearM (S k) m).s b).l.ep = (S b).l.ep := by
          intro b
          by_cases hb : b = k
          · subst hb; rw [updS_same, e]
          · rw [updS_other _ _ hb]
        refine ⟨E, k, true, ⟨h.lt, h.n8, h.e1, h.fst, fun j hj => ?_, ?_, ?_, (fun x => by cases x), fun _ => ?_, fun j hj hne => ?_, fun j hj hkp => ?_, fun y hy => ?_⟩, .inl ⟨rfl, rfl, .inr ⟨rfl, hkd⟩⟩⟩
        · by_cases hj' : j = k
          · subst hj'; rw [updS_same]; exact ⟨hr.1, by rw [hr.2.1]; exact hv.2⟩
          · rw [updS_other _ _ hj']; exact h.val j hj
        · rw [hep]; exact h.oep
        · rw [updS_same, e]; exact h.ocg
        · rw [updS_same, e]; exact ⟨rfl, rfl⟩
        · rw [updS_other _ _ hne]; exact h.oth j hj hne
        · by_cases hj' : j = k
          · subst hj'
            rw [updS_same, e]
            exact ⟨a, ha, hak, hfa, .inl rfl⟩
          · rw [updS_other _ _ hj'] at hkp ⊢
            obtain ⟨i, i1, i2, i3, i4⟩ := h.kp j hj hkp
            refine ⟨i, i1, i2, i3, .inr ?_⟩
            rw [hep]
            rcases i4 with i4 | i4
            · exact absurd i4 hj'
            · exact i4
        · rw [List.mem_append] at hy
          rcases hy with hy | hy
          · obtain ⟨y1, y2, y3, y4⟩ := h.msg y hy
            refine ⟨y1, y2, fun e3 b hb => ?_, fun e4 b hb => by rw [hep]; exact y4 e4 b hb⟩
            rw [hep]
            rcases y3 e3 b hb with y3 | ⟨y3, _⟩
            · exact .inl y3
            · cases y3
          · rw [e] at hy
            simp only [List.mem_singleton] at hy
            subst hy
            refine ⟨⟨k, hk, hv.2⟩, ⟨a, ha, hfa⟩, fun _ b hb => .inr ⟨rfl, ?_, by simp only; omega, h.ocg⟩, fun e => by simp at e⟩
            rw [updS_same, e]
    · split at e
      · rename_i c1 c2
        refine stay _ (by rw [e]) (by rw [e]) fun y hy => ?_
        simp only [List.mem_singleton] at hy
        subst hy
        have hg := h.gv hk c2.2.2.2
        have he : (⟨3, (S k).me, m.fr, m.ep + 1, (S k).cg⟩ : Mg) = gvM (S k) := by unfold gvM; rw [c2.2.1, c2.2.2.1]
        rw [he]
        exact hg
      · exact stay [] (by rw [e]) (by rw [e]) (by simp)
  · -- Give
    unfold giveM at e
    by_cases c1 : (S k).l.ep < m.ep
    · rw [if_pos c1] at e
      have hto' : m.to = k := by rw [hto, hv.2]
      rcases hmsg.give hkd k hto' with q | ⟨q1, q2, q3, q4⟩
      · omega
      subst q1
      obtain ⟨j, j1, j2, j3, _⟩ := h.kp o h.lt (h.gone rfl).2
      have hjk : j = k := by rw [hto'] at q2; omega
      subst hjk
      have hko : ¬ j = o := j2
      have hS : (updS S j (hearM (S j) m).s j) = ⟨(S j).me, ⟨m.ep, 1, 0⟩, m.cg, false⟩ := by rw [updS_same, e]
      have hup : ∀ b, (S b).l.ep ≤ (updS S j (hearM (S j) m).s b).l.ep := by
        intro b
        by_cases hb : b = j
        · subst hb; rw [hS]; show _ ≤ m.ep; omega
        · rw [updS_other _ _ hb]; exact Int.le_refl _
      refine ⟨E + 1, j, false, ⟨hk, h.n8, (by have := h.e1; omega), (fun x => by have := h.e1; omega), fun i hi => ?_, ?_, ?_, fun _ => ?_, (fun x => by cases x), fun i hi hne => ?_, fun i hi hkp => ?_, fun y hy => ?_⟩, .inr ⟨rfl, rfl, rfl⟩⟩
      · by_cases hj' : i = j
        · subst hj'; rw [updS_same]; exact ⟨hr.1, by rw [hr.2.1]; exact hv.2⟩
        · rw [updS_other _ _ hj']; exact h.val i hi
      · rw [hS]; exact q3
      · rw [hS]; exact q4
      · rw [hS]
      · rw [updS_other _ _ hne]
        by_cases hio : i = o
        · subst hio
          have := (h.gone rfl).1
          exact ⟨by omega, by rw [h.oep]; omega⟩
        · have := h.oth i hi hio
          exact ⟨this.1, by omega⟩
      · have hij : ¬ i = j := by
          intro hij
          subst hij
          rw [hS] at hkp
          cases hkp
        rw [updS_other _ _ hij] at hkp ⊢
        obtain ⟨i', i1, i2, i3, i4⟩ := h.kp i hi hkp
        refine ⟨i', i1, i2, i3, .inr ?_⟩
        rcases i4 with i4 | i4
        · subst i4
          have : i' = j := by omega
          subst this
          rw [hS, h.oep]
          show E < m.ep
          omega
        · have := hup i'
          omega
      · rw [List.mem_append] at hy
        rcases hy with hy | hy
        · obtain ⟨y1, y2, y3, y4⟩ := h.msg y hy
          refine ⟨y1, y2, fun e3 b hb => ?_, fun e4 b hb => by have := y4 e4 b hb; have := hup b; omega⟩
          rcases y3 e3 b hb with y3 | ⟨_, y3, y5, _⟩
          · exact .inl (by have := hup b; omega)
          · have : b = j := by omega
            subst this
            rw [hS]
            exact .inl (by show y.ep ≤ m.ep; omega)
        · rw [e] at hy
          simp only [List.mem_singleton] at hy
          subst hy
          refine ⟨⟨j, hk, hv.2⟩, ⟨a, ha, hfa⟩, (fun e => by simp at e), fun _ b hb => ?_⟩
          simp only at hb ⊢
          have : b = j := by rw [hv.2] at hb; omega
          subst this
          rw [hS]
          exact Int.le_refl _
    · rw [if_neg c1] at e
      refine stay _ (by rw [e]) (by rw [e]) fun y hy => ?_
      simp only [List.mem_singleton] at hy
      subst hy
      refine ⟨⟨k, hk, hv.2⟩, ⟨a, ha, hfa⟩, (fun e => by simp at e), fun _ b hb => ?_⟩
      simp only at hb ⊢
      have : b = k := by rw [hv.2] at hb; omega
      subst this
      omega
  · -- Got
    unfold gotM at e
    split at e
    · rename_i c1
      have hge := hmsg.got hkd a hfa
      have hko : ¬ k = o := by
        intro hko
        subst hko
        have := h.le ha
        have := h.oep
        omega
      have hl : ∀ b, (updS S k (hearM (S k) m).s b).l = (S b).l := by
        intro b
        by_cases hb : b = k
        · subst hb; rw [updS_same, e]
        · rw [updS_other _ _ hb]
      have ho : updS S k (hearM (S k) m).s o = S o := updS_other _ _ (fun x => hko x.symm)
      refine ⟨E, o, t, ⟨h.lt, h.n8, h.e1, h.fst, fun j hj => ?_, by rw [ho]; exact h.oep, by rw [ho]; exact h.ocg, by rw [ho]; exact h.held, by rw [ho]; exact h.gone, (fun j hj hne => by rw [hl]; exact h.oth j hj hne), fun j hj hkp => ?_, fun y hy => ?_⟩, .inl ⟨rfl, rfl, .inl rfl⟩⟩
      · by_cases hj' : j = k
        · subst hj'; rw [updS_same]; exact ⟨hr.1, by rw [hr.2.1]; exact hv.2⟩
        · rw [updS_other _ _ hj']; exact h.val j hj
      · have hjk : ¬ j = k := by
          intro hjk
          subst hjk
          rw [updS_same, e] at hkp
          cases hkp
        rw [updS_other _ _ hjk] at hkp
        obtain ⟨i, i1, i2, i3, i4⟩ := h.kp j hj hkp
        exact ⟨i, i1, i2, by rw [hl]; exact i3, by rw [hl, hl]; exact i4⟩
      · rw [List.mem_append] at hy
        rcases hy with hy | hy
        · obtain ⟨y1, y2, y3, y4⟩ := h.msg y hy
          exact ⟨y1, y2, (fun e3 b hb => by rw [hl, ho]; exact y3 e3 b hb), fun e4 b hb => by rw [hl]; exact y4 e4 b hb⟩
        · rw [e] at hy
          simp at hy
    · exact stay [] (by rw [e]) (by rw [e]) (by simp)
/-- A side asks another one. -/
theorem PI.ask (h : PI n S said c E o t) {a b : Nat} (ha : a < n) (hb : b < n) (he : eAsk (S a) b = 0) : PI n S (said ++ [mAsk (S a) b]) c E o t := by
  refine h.say fun y hy => ?_
  simp only [List.mem_singleton] at hy
  subst hy
  unfold mAsk
  rw [if_pos he]
  exact ⟨⟨a, ha, (h.val a ha).2⟩, ⟨b, hb, rfl⟩, (fun e => by simp at e), fun e => by simp at e⟩
/-- A side says again what nobody answered. -/
theorem PI.again (h : PI n S said c E o t) {a : Nat} (ha : a < n) : PI n S (said ++ againM (S a)) c E o t := by
  refine h.say fun y hy => ?_
  unfold againM at hy
  split at hy
  · rename_i hk
    simp only [List.mem_singleton] at hy
    subst hy
    exact h.gv ha hk.2
  · simp at hy
/-- The side that holds the agency has another cargo. -/
theorem PI.cargo (h : PI n S said c E o t) {a : Nat} (ha : a < n) (hst : (S a).l.st = 1) (c' : ByteArray) (hc : c'.size ≤ 500) : PI n (updS S a ⟨(S a).me, (S a).l, c', (S a).kp⟩) said c' E o t := by
  have hao : a = o := Classical.byContradiction fun hne => (h.oth a ha hne).1 hst
  subst hao
  have ht : t = false := by
    cases t
    · rfl
    · have := (h.gone rfl).1; omega
  subst ht
  have hl : ∀ b, (updS S a ⟨(S a).me, (S a).l, c', (S a).kp⟩ b).l = (S b).l := by
    intro b
    by_cases hb : b = a
    · subst hb; rw [updS_same]
    · rw [updS_other _ _ hb]
  have hkp : ∀ b, (updS S a ⟨(S a).me, (S a).l, c', (S a).kp⟩ b).kp = (S b).kp := by
    intro b
    by_cases hb : b = a
    · subst hb; rw [updS_same]
    · rw [updS_other _ _ hb]
  refine ⟨h.lt, h.n8, h.e1, h.fst, fun j hj => ?_, by rw [hl]; exact h.oep, by rw [updS_same], (fun _ => by rw [hl]; exact hst), (fun x => by cases x), (fun j hj hne => by rw [hl]; exact h.oth j hj hne), fun j hj hk => ?_, fun y hy => ?_⟩
  · by_cases hj' : j = a
    · subst hj'
      rw [updS_same]
      obtain ⟨v1, v2⟩ := h.val j hj
      exact ⟨⟨v1.1, v1.2.1, v1.2.2.1, hc, .inr (.inl hst), v1.2.2.2.2.2⟩, v2⟩
    · rw [updS_other _ _ hj']; exact h.val j hj
  · rw [hkp] at hk
    obtain ⟨i, i1, i2, i3, i4⟩ := h.kp j hj hk
    exact ⟨i, i1, i2, by rw [hl]; exact i3, by rw [hl, hl]; exact i4⟩
  · obtain ⟨y1, y2, y3, y4⟩ := h.msg y hy
    refine ⟨y1, y2, fun e3 b hb => ?_, fun e4 b hb => by rw [hl]; exact y4 e4 b hb⟩
    rw [hl]
    rcases y3 e3 b hb with y3 | ⟨y3, _⟩
    · exact .inl y3
    · cases y3
/-- The epoch, and one more while the agency is under way. -/
def pot (E : Int) (t : Bool) : Int := E + (if t = true then 1 else 0)
theorem PI.hear_pot {m : Mg} {E' : Int} {o' : Nat} {t' : Bool} (h : (E' = E ∧ o' = o ∧ (t' = t ∨ (t' = true ∧ m.kd = 2))) ∨ (E' = E + 1 ∧ t = true ∧ t' = false)) : pot E' t' ≤ pot E t + 1 ∧ (m.kd ≠ 2 → pot E' t' ≤ pot E t) := by
  unfold pot
  rcases h with ⟨rfl, rfl, rfl | ⟨rfl, h2⟩⟩ | ⟨rfl, rfl, rfl⟩
  · refine ⟨by omega, fun _ => Int.le_refl _⟩
  · refine ⟨?_, fun h => absurd h2 h⟩
    rw [if_pos rfl]
    split <;> omega
  · rw [if_neg (by simp), if_pos rfl]
    exact ⟨by omega, fun _ => by omega⟩
theorem pot_le (E : Int) (t : Bool) : E ≤ pot E t := by unfold pot; split <;> omega
/-- One that keeps a cargo says it again, that comes, and so does the answer. -/
theorem PI.round (h : PI n S [] c E o t) {a : Nat} (ha : a < n) (hkp : (S a).kp = true) (hE : pot E t ≤ 1000000) :
    ∃ j : Nat, j < n ∧ ¬ j = a ∧ (S a).l.to = j ∧ (hearM (S j) (gvM (S a))).r = [⟨4, j, a, (S a).l.ep + 1, ⟨#[]⟩⟩] ∧
      (hearM (updS S j (hearM (S j) (gvM (S a))).s a) ⟨4, j, a, (S a).l.ep + 1, ⟨#[]⟩⟩).r = [] ∧
      ∃ E' o' t', PI n (updS (updS S j (hearM (S j) (gvM (S a))).s) a (hearM (updS S j (hearM (S j) (gvM (S a))).s a) ⟨4, j, a, (S a).l.ep + 1, ⟨#[]⟩⟩).s) [] c E' o' t' ∧ pot E' t' ≤ pot E t ∧
        ∀ k, k < n → (updS (updS S j (hearM (S j) (gvM (S a))).s) a (hearM (updS S j (hearM (S j) (gvM (S a))).s a) ⟨4, j, a, (S a).l.ep + 1, ⟨#[]⟩⟩).s k).kp = true → (S k).kp = true ∧ ¬ k = a := by
  obtain ⟨j, j1, j2, j3, _⟩ := h.kp a ha hkp
  have va := h.val a ha
  have vj := h.val j j1
  have hst : (S a).l.st = 2 := va.1.2.2.2.2.2 hkp
  have hep := h.le ha
  have hpe := pot_le E t
  have n8 := h.n8
  have hr1 := right_cases va.1.2.1
  have ok1 : RightS (S j) ∧ MayM (gvM (S a)) ∧ (gvM (S a)).to = (S j).me := by
    refine ⟨vj.1, ⟨by simp only [gvM]; omega, ?_, ?_, ?_, ?_, .inr ⟨rfl, va.1.2.2.2.1⟩⟩, ?_⟩
    · simp only [gvM]; rw [va.2]; omega
    · simp only [gvM]; rw [j3]; omega
    · simp only [gvM]; rw [va.2, j3]; omega
    · simp only [gvM]; omega
    · simp only [gvM]; rw [j3, vj.2]
  have e1 : hearM (S j) (gvM (S a)) = giveM (S j) (gvM (S a)) := by
    rw [hear_ok ok1, if_neg (by simp [gvM]), if_pos (by simp [gvM])]
  have r1 : (hearM (S j) (gvM (S a))).r = [⟨4, j, a, (S a).l.ep + 1, ⟨#[]⟩⟩] := by
    rw [e1]
    unfold giveM gvM
    simp only [vj.2, va.2]
  have hm1 : gvM (S a) ∈ ([] ++ [gvM (S a)] : List Mg) := by simp
  obtain ⟨E1, o1, t1, p1, q1⟩ := (h.say (L := [gvM (S a)]) (fun y hy => by
    simp only [List.mem_singleton] at hy
    subst hy
    exact h.gv ha hkp)).hear hm1 j1
  have w1 := (PI.hear_pot (m := gvM (S a)) q1).2 (by simp [gvM])
  have hS1a : updS S j (hearM (S j) (gvM (S a))).s a = S a := updS_other _ _ (fun e => j2 e.symm)
  have ok2 : RightS (S a) ∧ MayM ⟨4, j, a, (S a).l.ep + 1, ⟨#[]⟩⟩ ∧ ((⟨4, j, a, (S a).l.ep + 1, ⟨#[]⟩⟩ : Mg)).to = (S a).me := by
    refine ⟨va.1, ⟨by simp, by simp only; omega, by simp only; omega, by simp only; omega, by simp only; omega, .inl rfl⟩, by rw [va.2]⟩
  have e2 : hearM (S a) ⟨4, j, a, (S a).l.ep + 1, ⟨#[]⟩⟩ = ⟨⟨(S a).me, (S a).l, ⟨#[]⟩, false⟩, [], 0⟩ := by
    rw [hear_ok ok2, if_neg (by simp), if_neg (by simp), if_neg (by simp)]
    unfold gotM
    rw [if_pos ⟨hst, by simp only; omega, j3, hkp⟩]
  have hm2 : (⟨4, j, a, (S a).l.ep + 1, ⟨#[]⟩⟩ : Mg) ∈ ([] ++ [gvM (S a)] ++ (hearM (S j) (gvM (S a))).r) := by rw [r1]; simp
  obtain ⟨E2, o2, t2, p2, q2⟩ := p1.hear hm2 ha
  have w2 := (PI.hear_pot (m := ⟨4, j, a, (S a).l.ep + 1, ⟨#[]⟩⟩) q2).2 (by simp)
  refine ⟨j, j1, j2, j3, r1, by rw [hS1a, e2], E2, o2, t2, p2.sub (by simp), by omega, fun k hk hkk => ?_⟩
  have hka : ¬ k = a := by
    intro e
    subst e
    rw [updS_same, hS1a, e2] at hkk
    cases hkk
  rw [updS_other _ _ hka] at hkk
  refine ⟨?_, hka⟩
  by_cases hkj : k = j
  · subst hkj
    rw [updS_same, e1] at hkk
    unfold giveM at hkk
    simp only at hkk
    split at hkk
    · cases hkk
    · exact hkk
  · rw [updS_other _ _ hkj] at hkk
    exact hkk
/-- Where nobody keeps a cargo, one holds the agency. -/
theorem PI.there (h : PI n S said c E o t) (hk : ∀ k, k < n → (S k).kp = false) : t = false ∧ (S o).l.st = 1 ∧ ∀ k, k < n → ((S k).l.st = 1 ↔ k = o) := by
  have ht : t = false := by
    cases t
    · rfl
    · have := (h.gone rfl).2
      rw [hk o h.lt] at this
      cases this
  have hst := h.held ht
  refine ⟨ht, hst, fun k hk' => ⟨fun e => Classical.byContradiction fun hne => (h.oth k hk' hne).1 e, fun e => by rw [e]; exact hst⟩⟩
/-- The beginning. -/
def begS (c : ByteArray) : Nat → Sd := fun k => ⟨k, if k = 0 then ⟨1, 1, 0⟩ else ⟨0, 0, 0⟩, if k = 0 then c else ⟨#[]⟩, false⟩
theorem PI.start (hn : 1 ≤ n) (hn8 : n ≤ 8) (c : ByteArray) (hc : c.size ≤ 500) : PI n (begS c) [] c 1 0 false := by
  refine ⟨by omega, hn8, Int.le_refl _, fun _ => rfl, fun k hk => ⟨?_, rfl⟩, rfl, rfl, fun _ => rfl, (fun x => by cases x), fun k hk hne => ?_, (fun k hk x => by cases x), fun m hm => by cases hm⟩
  · unfold begS
    by_cases h0 : k = 0
    · simp only [if_pos h0]
      exact ⟨by simp only; omega, show rightL ⟨1, 1, 0⟩ = true by decide, by simp, hc, .inr (.inl rfl), by simp⟩
    · simp only [if_neg h0]
      exact ⟨by simp only; omega, show rightL ⟨0, 0, 0⟩ = true by decide, by simp, (by show (0 : Nat) ≤ 500; omega), .inl rfl, by simp⟩
  · unfold begS
    simp only [if_neg hne]
    exact ⟨by simp, by omega⟩
end Go.Proofs.Ytmghckddofefkaa
