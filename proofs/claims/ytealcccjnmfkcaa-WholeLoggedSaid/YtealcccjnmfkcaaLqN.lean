/-
  Plain mathematics of layer 7's laws: what one takes and frees leaves the others; what is taken again; many who read one key. No program, no condition but those that each theorem names.
-/
import Derived.Test.YtealcccjnmfkcaaLqM
set_option linter.unusedVariables false
set_option linter.unusedSimpArgs false
namespace Go.Proofs.Ytealcccjnmfkcaa

theorem fre_take {L : List Hd} {tx key : Int} {wr : Bool} (h : RightK L) : fre (sTake L tx key wr) tx = fre L tx := by
  by_cases he : eTake L tx key wr = 0
  · rw [sTake_ok he]
    exact fre_put (o := ownH L tx key wr) h.2.1
  · rw [sTake_err he]
theorem eTake_form {L : List Hd} {tx key : Int} {wr : Bool} (h : RightK L) (h9 : eTake L tx key wr ≠ 9) : eTake L tx key wr = 0 ↔ (0 ≤ tx ∧ tx < 1000 ∧ key < 64) := by
  constructor
  · intro he
    have := (eTake_ok.1 he).2.1
    omega
  · intro hr
    refine eTake_ok.2 ⟨h, by omega, fun p hp => ?_⟩
    cases hw : way tx key wr p with
    | false => rfl
    | true => exact absurd (eTake_lock.2 ⟨h, by omega, p, hp, hw⟩) h9
theorem others_end {L M : List Hd} {tx key : Int} {wr : Bool} (h : eTake L tx key wr = 9) (hs : M.Sublist L) (ht : ∀ p ∈ M, p.t = tx) : eTake M tx key wr = 0 ∧ 1 ≤ hold (sTake M tx key wr) tx key := by
  obtain ⟨h1, h2, _⟩ := eTake_lock.1 h
  have he : eTake M tx key wr = 0 := eTake_ok.2 ⟨rightK_sub h1 hs, h2, fun p hp => by unfold way; simp [ht p hp]⟩
  refine ⟨he, ?_⟩
  rw [sTake_ok he]
  have := hold_put (ownH M tx key wr) M
  have e1 : (ownH M tx key wr).t = tx := rfl
  have e2 : (ownH M tx key wr).k = key := rfl
  rw [e1, e2] at this
  rw [this]
  unfold wv
  split <;> omega
theorem hold_take {L : List Hd} {tx key : Int} {wr : Bool} (he : eTake L tx key wr = 0) : hold (sTake L tx key wr) tx key = if wr then 2 else max (hold L tx key) 1 := by
  rw [sTake_ok he]
  have := hold_put (ownH L tx key wr) L
  have e1 : (ownH L tx key wr).t = tx := rfl
  have e2 : (ownH L tx key wr).k = key := rfl
  have e3 : (ownH L tx key wr).w = (wr || decide (hold L tx key = 2)) := rfl
  rw [e1, e2, e3] at this
  rw [this]
  cases wr
  · rw [Bool.false_or]
    rcases hold_vals L tx key with h | h | h <;> rw [h] <;> decide
  · rfl
theorem again {L : List Hd} {tx key : Int} {wr : Bool} (he : eTake L tx key wr = 0) : eTake (sTake L tx key wr) tx key false = 0 ∧ sTake (sTake L tx key wr) tx key false = sTake L tx key wr := by
  obtain ⟨h1, h2, h3⟩ := eTake_ok.1 he
  have hx := sTake_ok he
  have he2 : eTake (sTake L tx key wr) tx key false = 0 := by
    refine eTake_ok.2 ⟨rightK_take h1, h2, fun p hp => ?_⟩
    rw [hx] at hp
    rcases mem_put.1 hp with rfl | ⟨hp, _⟩
    · unfold way ownH; simp
    · have := h3 p hp
      cases hw : way tx key false p with
      | false => rfl
      | true =>
        obtain ⟨a1, a2, a3⟩ := way_iff.1 hw
        have := (way_iff (tx := tx) (key := key) (wr := wr) (h := p)).2 ⟨a1, a2, by rcases a3 with a3 | a3; exact .inl a3; cases a3⟩
        rw [h3 p hp] at this
        cases this
  refine ⟨he2, ?_⟩
  rw [sTake_ok he2]
  have ho : ownH (sTake L tx key wr) tx key false = ownH L tx key wr := by
    unfold ownH
    have := hold_take he
    rw [Bool.false_or]
    congr 1
    rw [this]
    cases wr
    · rcases hold_vals L tx key with h | h | h <;> rw [h] <;> decide
    · simp
  rw [ho, hx]
  exact put_put _ _

/-- Who reads one key: all that were taken. -/
structure RIk (key : Int) (M : List Hd) (had : List Int) : Prop where
  right : RightK M
  all : ∀ p ∈ M, p.k = key ∧ p.w = false ∧ p.t ∈ had
  had : ∀ t ∈ had, ∃ p ∈ M, p.t = t
theorem RIk.nil (key : Int) : RIk key [] [] := ⟨rightK_nil, by simp, by simp⟩
section
variable {key tx : Int} {M : List Hd} {had : List Int}
theorem RIk.ok (h : RIk key M had) (hk : key < 64) (ht : 0 ≤ tx ∧ tx < 1000) : eTake M tx key false = 0 :=
  eTake_ok.2 ⟨h.right, ⟨hk, ht⟩, fun p hp => by unfold way; simp [(h.all p hp).2.1]⟩
theorem RIk.next (h : RIk key M had) (hk : key < 64) (ht : 0 ≤ tx ∧ tx < 1000) : RIk key (sTake M tx key false) (had ++ [tx]) := by
  have he := h.ok hk ht
  have ho : ownH M tx key false = ⟨key, tx, false⟩ := by
    unfold ownH
    rw [Bool.false_or]
    have : hold M tx key ≠ 2 := fun h2 => by
      obtain ⟨q, hq, _, _, hw⟩ := hold_two h2
      rw [(h.all q hq).2.1] at hw
      cases hw
    simp [this]
  refine ⟨rightK_take h.right, fun p hp => ?_, fun t htm => ?_⟩
  · rw [sTake_ok he, ho] at hp
    rcases mem_put.1 hp with rfl | ⟨hp, _⟩
    · exact ⟨rfl, rfl, by simp⟩
    · obtain ⟨a1, a2, a3⟩ := h.all p hp
      exact ⟨a1, a2, by simp [a3]⟩
  · rw [sTake_ok he, ho]
    by_cases e : t = tx
    · exact ⟨⟨key, tx, false⟩, mem_put.2 (.inl rfl), e.symm⟩
    · have htm2 : t ∈ had := by
        rcases List.mem_append.1 htm with h | h
        · exact h
        · simp at h; exact absurd h e
      obtain ⟨p, hp, rfl⟩ := h.had t htm2
      refine ⟨p, mem_put.2 (.inr ⟨hp, ?_⟩), rfl⟩
      have := (h.all p hp).1
      unfold bef
      simp only
      omega
theorem RIk.one (h : RIk key M had) (ht : tx ∈ had) : hold M tx key = 1 := by
  obtain ⟨p, hp, rfl⟩ := h.had tx ht
  have a := h.all p hp
  have := hold_of h.right hp
  rw [a.1, a.2.1] at this
  exact this
theorem RIk.last (h : RIk key M had) (hk : key < 64) : eTake M 0 key true = 0 ↔ ∀ t ∈ had, t = 0 := by
  rw [eTake_ok]
  constructor
  · rintro ⟨_, _, h3⟩ t ht
    obtain ⟨p, hp, rfl⟩ := h.had t ht
    have := h3 p hp
    have a := h.all p hp
    unfold way at this
    simp [a.1] at this
    exact this
  · intro h3
    exact ⟨h.right, ⟨hk, by omega⟩, fun p hp => by unfold way; simp [h3 p.t (h.all p hp).2.2]⟩
end
end Go.Proofs.Ytealcccjnmfkcaa
