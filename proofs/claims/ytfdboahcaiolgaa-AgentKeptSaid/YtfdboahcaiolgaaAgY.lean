/-
  Plain mathematics of AgentAny: votes in a map; what a row of shipments makes of a side; the same ballots in another order. No program, no condition but those that each theorem names.
-/
import Derived.Test.YtfdboahcaiolgaaMgA
import Derived.Test.YtfdboahcaiolgaaAgCm
set_option linter.unusedVariables false
set_option linter.unusedSimpArgs false
namespace Go.Proofs.Ytfdboahcaiolgaa

/-- The map of votes after these ballots. -/
structure VotI (P : List Bl) (M : List (Int × Int)) : Prop where
  srt : Srt M
  all : ∀ b ∈ P, getL M b.tx = some b.vt
  len : M.length ≤ 50
theorem VotI.nil : VotI [] [] := ⟨srt_nil, fun _ h => (by cases h), by simp⟩
theorem VotI.snoc {P : List Bl} {M : List (Int × Int)} (h : VotI P M) {b : Bl} (hv : ∀ v, getL M b.tx = some v → v = b.vt) (hl : M.length ≤ 49) : VotI (P ++ [b]) (putM M b.tx b.vt) := by
  refine ⟨h.srt.put _ _, fun c hc => ?_, ?_⟩
  · rw [getL_put M h.srt]
    split
    · rename_i e
      rcases List.mem_append.1 hc with hc | hc
      · have := h.all c hc
        rw [e] at this
        rw [hv _ this]
      · simp at hc
        subst hc
        rfl
    · rename_i e
      rcases List.mem_append.1 hc with hc | hc
      · exact h.all c hc
      · simp at hc
        subst hc
        exact absurd rfl e
  · rw [length_put h.srt]
    split <;> omega
theorem nodup_le : ∀ {l m : List Int}, l.Nodup → (∀ x ∈ l, x ∈ m) → l.length ≤ m.length
  | [], _, _, _ => Nat.zero_le _
  | x :: r, m, h, hs => by
    obtain ⟨a, b, rfl⟩ := List.append_of_mem (hs x (List.mem_cons_self ..))
    rw [List.nodup_cons] at h
    have := nodup_le (l := r) (m := a ++ b) h.2 (fun y hy => by
      have h1 := hs y (List.mem_cons_of_mem _ hy)
      rw [List.mem_append, List.mem_cons] at h1
      rw [List.mem_append]
      rcases h1 with h1 | rfl | h1
      · exact .inl h1
      · exact absurd hy h.1
      · exact .inr h1)
    simp at this ⊢
    omega
theorem srtB_nodup {K : List Bl} (h : SrtB K) : (K.map (·.tx)).Nodup := by
  unfold List.Nodup
  rw [List.pairwise_map]
  exact h.imp (fun {a b} hlt e => by omega)
theorem srt_nodup {M : List (Int × Int)} (h : Srt M) : (M.map (·.1)).Nodup := by
  unfold List.Nodup
  rw [List.pairwise_map]
  exact h.imp (fun {a b} hlt e => by omega)
/-- What ballots say, those that may be. -/
def Says (P : List Bl) (t v : Int) : Prop := ∃ b ∈ P, MayB b ∧ b.tx = t ∧ b.vt = v
def foldS (s : Sd) (P : List Bl) : Sd := P.foldl sSh s
theorem foldS_snoc (s : Sd) (P : List Bl) (b : Bl) : foldS s (P ++ [b]) = sSh (foldS s P) b := by simp [foldS]
theorem room_has {M : List (Int × Int)} (hs : Srt M) (hl : M.length ≤ 50) {P : List Bl} {s : Sd} {K : List Bl} (h : HasB s K) (hk : ∀ t v, valB K t = some v ↔ Says P t v) {b : Bl} (ha : ∀ c ∈ P, getL M c.tx = some c.vt) (hb : getL M b.tx = some b.vt) : ePu K b = 0 := by
  unfold ePu
  have hsk := h.right.2.2
  cases hv : valB K b.tx with
  | some v =>
    simp only
    obtain ⟨c, hc, _, e1, e2⟩ := (hk _ _).1 hv
    have h1 := ha c hc
    rw [e1, hb] at h1
    rw [if_pos (by rw [← e2]; exact (Option.some.inj h1).symm)]
  | none =>
    simp only
    have h1 : (b.tx :: K.map (·.tx)).length ≤ (M.map (·.1)).length := by
      refine nodup_le (List.nodup_cons.2 ⟨fun hm => ?_, srtB_nodup hsk⟩) fun x hx => ?_
      · obtain ⟨c, hc, e⟩ := List.mem_map.1 hm
        exact valB_none.1 hv c hc e
      · rcases List.mem_cons.1 hx with rfl | hx
        · exact List.mem_map.2 ⟨_, hs.get_iff.1 hb, rfl⟩
        · obtain ⟨c, hc, rfl⟩ := List.mem_map.1 hx
          obtain ⟨d, hd, _, e1, _⟩ := (hk _ _).1 (mem_valB hsk hc)
          have := ha d hd
          rw [e1] at this
          exact List.mem_map.2 ⟨_, hs.get_iff.1 this, rfl⟩
    simp only [List.length_cons, List.length_map] at h1
    rw [if_neg (by omega)]
theorem fold_has {M : List (Int × Int)} (hs : Srt M) (hl : M.length ≤ 50) : ∀ (Q P : List Bl) {s : Sd} {K : List Bl}, HasB s K → (∀ t v, valB K t = some v ↔ Says P t v) → (∀ b ∈ P ++ Q, getL M b.tx = some b.vt) →
    ∃ K', HasB (foldS s Q) K' ∧ (∀ t v, valB K' t = some v ↔ Says (P ++ Q) t v) ∧ (foldS s Q).l = s.l ∧ (foldS s Q).me = s.me ∧ (foldS s Q).kp = s.kp
  | [], P, s, K, h, hk, _ => ⟨K, h, by rw [List.append_nil]; exact hk, rfl, rfl, rfl⟩
  | b :: Q, P, s, K, h, hk, ha => by
    have hP : P ++ b :: Q = (P ++ [b]) ++ Q := by simp
    have hb := ha b (by simp)
    have haP : ∀ c ∈ P, getL M c.tx = some c.vt := fun c hc => ha c (by simp [hc])
    by_cases hm : MayB b
    · have hp := room_has hs hl h hk haP hb
      obtain ⟨h1, h2, h3, h4⟩ := sh_state h hm
      rw [if_pos hp] at h1
      obtain ⟨K', k1, k2, k3, k4, k5⟩ := fold_has hs hl Q (P ++ [b]) (s := sSh s b) h1 (fun t v => by
        rw [val_ins h.right hp]
        split
        · rename_i e
          constructor
          · intro hv
            cases hv
            exact ⟨b, by simp, hm, e.symm, rfl⟩
          · rintro ⟨c, hc, _, e1, e2⟩
            have h1 : getL M c.tx = some c.vt := by
              rcases List.mem_append.1 hc with hc | hc
              · exact haP c hc
              · simp at hc; subst hc; exact hb
            rw [e1, e, hb] at h1
            rw [h1, e2]
        · rename_i e
          rw [hk]
          constructor
          · rintro ⟨c, hc, h⟩; exact ⟨c, by simp [hc], h⟩
          · rintro ⟨c, hc, h0, e1, e2⟩
            rcases List.mem_append.1 hc with hc | hc
            · exact ⟨c, hc, h0, e1, e2⟩
            · simp at hc; subst hc; exact absurd e1.symm e) (by rw [← hP]; exact ha)
      exact ⟨K', k1, by rw [hP]; exact k2, k3.trans h2, k4.trans h3, k5.trans h4⟩
    · have e := (sh_may (s := s) hm).2
      obtain ⟨K', k1, k2, k3, k4, k5⟩ := fold_has hs hl Q (P ++ [b]) (s := sSh s b) (K := K) (by rw [e]; exact h) (fun t v => by
        rw [hk]
        constructor
        · rintro ⟨c, hc, h⟩; exact ⟨c, by simp [hc], h⟩
        · rintro ⟨c, hc, h0, e1, e2⟩
          rcases List.mem_append.1 hc with hc | hc
          · exact ⟨c, hc, h0, e1, e2⟩
          · simp at hc; subst hc; exact absurd h0 hm) (by rw [← hP]; exact ha)
      exact ⟨K', k1, by rw [hP]; exact k2, k3.trans (by rw [e]), k4.trans (by rw [e]), k5.trans (by rw [e])⟩
/-- The side that a law begins with. -/
def sN (n : Int) : Sd := ⟨1, ⟨n, 1, 0⟩, ByteArray.empty, false⟩
theorem sN_has {n : Int} (h : 1 ≤ n ∧ n ≤ 65536) : HasB (sN n) [] := by
  refine ⟨⟨by simp [sN], ?_, by simp [sN], by simp [sN], .inl rfl, by simp [sN]⟩, rfl, dG_nil⟩
  unfold rightL sN
  simp [inEp]
  omega
theorem any_eq {L R : List Bl} {M : List (Int × Int)} (h : VotI L M) (hm : ∀ b, b ∈ R ↔ b ∈ L) {n : Int} (hn : 1 ≤ n ∧ n ≤ 65536) : foldS (sN n) L = foldS (sN n) R := by
  have h0 : ∀ t v, valB ([] : List Bl) t = some v ↔ Says [] t v := fun t v => ⟨fun e => (by cases e), fun he => by obtain ⟨_, e, _⟩ := he; cases e⟩
  obtain ⟨K1, a1, a2, a3, a4, a5⟩ := fold_has h.srt h.len L [] (sN_has hn) h0 (fun b hb => h.all b hb)
  obtain ⟨K2, b1, b2, b3, b4, b5⟩ := fold_has h.srt h.len R [] (sN_has hn) h0 (fun b hb => h.all b ((hm b).1 hb))
  have e : K1 = K2 := srt_ext a1.right.2.2 b1.right.2.2 fun t => Option.ext fun v => by
    rw [a2, b2]
    simp only [List.nil_append, Says, hm]
  have c1 := a1.cg
  have c2 := b1.cg
  rw [e, ← c2] at c1
  generalize foldS (sN n) L = x at *
  generalize foldS (sN n) R = y at *
  obtain ⟨x1, x2, x3, x4⟩ := x
  obtain ⟨y1, y2, y3, y4⟩ := y
  simp only at a3 a4 a5 b3 b4 b5 c1
  rw [a3, a4, a5, b3, b4, b5, c1]
/-- The list, begun elsewhere. -/
def rotB (L : List Bl) (a : Nat) : List Bl := L.drop (a % L.length) ++ L.take (a % L.length)
theorem rotB_mem (L : List Bl) (a : Nat) (b : Bl) : b ∈ rotB L a ↔ b ∈ L := by
  unfold rotB
  conv => rhs; rw [← List.take_append_drop (a % L.length) L]
  rw [List.mem_append, List.mem_append, Or.comm]
theorem rotB_len (L : List Bl) (a : Nat) : (rotB L a).length = L.length := by
  unfold rotB
  rw [List.length_append, List.length_drop, List.length_take]
  omega
theorem rotB_at {L : List Bl} {n a k : Nat} (hl : L.length = n) (hk : k < n) : (rotB L a)[k]? = L[(k + a) % n]? := by
  unfold rotB
  rw [hl]
  have hr : a % n < n := Nat.mod_lt _ (by omega)
  have e : (k + a) % n = (k + a % n) % n := by simp
  rw [e]
  generalize a % n = r at *
  by_cases h : k < n - r
  · rw [List.getElem?_append_left (by rw [List.length_drop]; omega), List.getElem?_drop, Nat.mod_eq_of_lt (by omega), Nat.add_comm]
  · rw [List.getElem?_append_right (by rw [List.length_drop]; omega), List.length_drop, hl, List.getElem?_take_of_lt (by omega)]
    congr 1
    rw [show k + r = (k - (n - r)) + n by omega, Nat.add_mod_right, Nat.mod_eq_of_lt (by omega)]
end Go.Proofs.Ytfdboahcaiolgaa
