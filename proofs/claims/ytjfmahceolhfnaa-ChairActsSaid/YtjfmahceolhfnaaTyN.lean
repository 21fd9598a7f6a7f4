/-
  Plain mathematics of what the laws of tallies ask. No condition.
-/
import Derived.Test.YtjfmahceolhfnaaTyM
set_option linter.unusedVariables false
set_option linter.unusedSimpArgs false
namespace Go.Proofs.Ytjfmahceolhfnaa

/-! ### An act -/
def eDo (S : Ty) (a : Ay) : Nat := if a.hear then eHear S a.who a.ep else ePut S a.who a.ep a.vote
def sDo (S : Ty) (a : Ay) : Ty := if a.hear then sHear S a.who a.ep else sPut S a.who a.ep a.vote
theorem do_h {S : Ty} {a : Ay} (h : a.hear = true) : eDo S a = eHear S a.who a.ep ∧ sDo S a = sHear S a.who a.ep := by unfold eDo sDo; simp [h]
theorem do_p {S : Ty} {a : Ay} (h : a.hear = false) : eDo S a = ePut S a.who a.ep a.vote ∧ sDo S a = sPut S a.who a.ep a.vote := by unfold eDo sDo; simp [h]
theorem do_n {S : Ty} {a : Ay} (h : ¬ eDo S a = 0) : sDo S a = S := by
  cases hh : a.hear with
  | true => rw [(do_h hh).1] at h; rw [(do_h hh).2]; exact sHear_n h
  | false => rw [(do_p hh).1] at h; rw [(do_p hh).2]; exact sPut_n h
/-- What an act that is taken does. -/
structure Dn (S : Ty) (a : Ay) (T : Ty) : Prop where
  rs : RY S
  rt : RY T
  lt : a.who < 8
  in_ : S.wh a.who = true
  up : S.ep a.who ≤ a.ep
  wh : T.wh = S.wh
  ep : T.ep = updI S.ep a.who a.ep
  vt : ∀ i, S.vt i ≠ 0 → T.vt i = S.vt i
theorem do_z {S : Ty} {a : Ay} (h : eDo S a = 0) : Dn S a (sDo S a) := by
  cases hh : a.hear with
  | true =>
    rw [(do_h hh).1] at h
    rw [(do_h hh).2]
    obtain ⟨h1, h2, h3, h4, h5, h6⟩ := eHear_iff.1 h
    refine ⟨h1, right_hear h, h4, h5, h6, ?_, ?_, ?_⟩ <;> rw [sHear_z h]
    exact fun i _ => rfl
  | false =>
    rw [(do_p hh).1] at h
    rw [(do_p hh).2]
    obtain ⟨g1, g2, g3⟩ := ePut_iff.1 h
    obtain ⟨h1, h2, h3, h4, h5, h6⟩ := eHear_iff.1 g2
    refine ⟨h1, right_put h, h4, h5, h6, ?_, ?_, ?_⟩ <;> rw [sPut_z h]
    intro i hi
    simp only [updI]
    split
    · rename_i e
      subst e
      omega
    · rfl
theorem do_right {S : Ty} {a : Ay} (h : RY S) : RY (sDo S a) := by
  by_cases e : eDo S a = 0
  · exact (do_z e).rt
  · rw [do_n e]; exact h
theorem do_wh {S : Ty} {a : Ay} : (sDo S a).wh = S.wh := by
  by_cases e : eDo S a = 0
  · exact (do_z e).wh
  · rw [do_n e]
theorem do_ep {S : Ty} {a : Ay} (i : Nat) : S.ep i ≤ (sDo S a).ep i := by
  by_cases e : eDo S a = 0
  · rw [(do_z e).ep]
    unfold updI
    split
    · rename_i h; subst h; exact (do_z e).up
    · exact Int.le_refl _
  · rw [do_n e]; exact Int.le_refl _
theorem do_vt {S : Ty} {a : Ay} (i : Nat) (h : S.vt i ≠ 0) : (sDo S a).vt i = S.vt i := by
  by_cases e : eDo S a = 0
  · exact (do_z e).vt i h
  · rw [do_n e]

/-! ### What votes come to -/
theorem out_char {S : Ty} (h : RY S) : outY S = if anyB (two S) 8 = true then 2 else if allB (yesB S) 8 = true then 1 else 0 := by
  unfold outY
  rw [if_neg (by simp [right_iff.2 h])]
theorem out_eq {S T : Ty} (h : RY S) (k : RY T) (hw : T.wh = S.wh) (hv : T.vt = S.vt) : outY T = outY S := by
  rw [out_char h, out_char k]
  have h1 : two T = two S := by funext i; unfold two; rw [hv]
  have h2 : yesB T = yesB S := by funext i; unfold yesB; rw [hv, hw]
  rw [h1, h2]
theorem out_hear {S : Ty} {who : Nat} {x : Int} (h : eHear S who x = 0) : outY ⟨S.wh, S.vt, updI S.ep who x⟩ = outY S := by
  have := right_hear h
  rw [sHear_z h] at this
  exact out_eq (eHear_iff.1 h).1 this rfl rfl
theorem out_stays {S T : Ty} (h : RY S) (k : RY T) (hw : T.wh = S.wh) (hv : ∀ i, S.vt i ≠ 0 → T.vt i = S.vt i) (ho : ¬ outY S = 0) : outY T = outY S := by
  rw [out_char h] at ho ⊢
  rw [out_char k]
  cases h2 : anyB (two S) 8 with
  | true =>
    obtain ⟨i, hi, e⟩ := (anyB_iff _ _).1 h2
    have e : S.vt i = 2 := by simpa [two] using e
    have : anyB (two T) 8 = true := (anyB_iff _ _).2 ⟨i, hi, by unfold two; rw [hv i (by omega), e]; rfl⟩
    rw [this]
    simp
  | false =>
    rw [h2] at ho
    cases h1 : allB (yesB S) 8 with
    | false => rw [h1] at ho; simp at ho
    | true =>
      have hy := (allB_iff _ _).1 h1
      have key : ∀ i, i < 8 → (T.wh i = false ∨ T.vt i = 1) ∧ T.vt i ≠ 2 := by
        intro i hi
        have y := hy i hi
        unfold yesB at y
        cases e : S.wh i with
        | false =>
          have e' : T.wh i = false := by rw [hw]; exact e
          exact ⟨.inl e', by rw [(k.o i hi e').1]; decide⟩
        | true =>
          rw [e] at y
          have y : S.vt i = 1 := by simpa using y
          have z := hv i (by omega)
          rw [y] at z
          exact ⟨.inr z, by omega⟩
      have n2 : anyB (two T) 8 = false := (anyB_no _ _).2 fun i hi => by have := (key i hi).2; simp [two, this]
      have a1 : allB (yesB T) 8 = true := (allB_iff _ _).2 fun i hi => by
        unfold yesB
        rcases (key i hi).1 with e | e
        · simp [e]
        · simp [e]
      rw [n2, a1]
theorem out_do {S : Ty} {a : Ay} (h : RY S) (ho : ¬ outY S = 0) : outY (sDo S a) = outY S := out_stays h (do_right h) do_wh (fun i => do_vt i) ho

/-! ### How many -/
def cntB (f : Nat → Bool) : Nat → Nat
  | 0 => 0
  | k + 1 => cntB f k + if f k then 1 else 0
theorem cntB_le (f : Nat → Bool) : ∀ n, cntB f n ≤ n
  | 0 => Nat.le_refl _
  | n + 1 => by
    have := cntB_le f n
    unfold cntB
    split <;> omega
theorem cntB_yes {f : Nat → Bool} {k : Nat} (h : f k = true) : cntB f (k + 1) = cntB f k + 1 := by simp [cntB, h]
theorem cntB_no {f : Nat → Bool} {k : Nat} (h : f k = false) : cntB f (k + 1) = cntB f k := by simp [cntB, h]
theorem cntB_pos (f : Nat → Bool) : ∀ n, 0 < cntB f n ↔ ∃ i, i < n ∧ f i = true
  | 0 => by simp [cntB]
  | n + 1 => by
    have ih := cntB_pos f n
    cases h : f n with
    | true => rw [cntB_yes h]; exact ⟨fun _ => ⟨n, by omega, h⟩, fun _ => by omega⟩
    | false =>
      rw [cntB_no h, ih]
      constructor
      · rintro ⟨i, h1, h2⟩; exact ⟨i, by omega, h2⟩
      · rintro ⟨i, h1, h2⟩
        refine ⟨i, ?_, h2⟩
        rcases Nat.lt_succ_iff_lt_or_eq.1 h1 with h3 | h3
        · exact h3
        · subst h3; rw [h] at h2; cases h2
theorem cntB_all (f : Nat → Bool) : ∀ n, cntB f n = n ↔ ∀ i, i < n → f i = true
  | 0 => by simp [cntB]
  | n + 1 => by
    have ih := cntB_all f n
    have hl := cntB_le f n
    cases h : f n with
    | true =>
      rw [cntB_yes h]
      constructor
      · intro e i hi
        rcases Nat.lt_succ_iff_lt_or_eq.1 hi with h3 | h3
        · exact ih.1 (by omega) i h3
        · subst h3; exact h
      · intro e
        have := ih.2 fun i hi => e i (by omega)
        omega
    | false =>
      rw [cntB_no h]
      constructor
      · intro e; omega
      · intro e; rw [e n (by omega)] at h; cases h
theorem cntB_upd (f : Nat → Bool) (x : Nat) (h : f x = false) : ∀ n, cntB (updB f x true) n = cntB f n + if x < n then 1 else 0
  | 0 => by simp [cntB]
  | n + 1 => by
    have ih := cntB_upd f x h n
    unfold cntB
    rw [ih]
    by_cases e : n = x
    · subst e
      simp [updB, h]
    · have : (x < n + 1) ↔ (x < n) := by omega
      simp only [updB, if_neg e, this]
      omega
theorem cnt_mem : ∀ L : List Nat, (∀ x ∈ L, x < 8) → L.Nodup → cntB (memF L) 8 = L.length
  | [], _, _ => by decide
  | x :: L, h1, h2 => by
    have hx := h1 x (by simp)
    rw [List.nodup_cons] at h2
    have ih := cnt_mem L (fun y hy => h1 y (by simp [hy])) h2.2
    have e : memF (x :: L) = updB (memF L) x true := by
      funext i
      apply bool_eq
      rw [memF_iff]
      unfold updB
      split
      · rename_i e; simp [e]
      · rename_i e; rw [memF_iff]; simp [e]
    rw [e, cntB_upd _ _ (memF_no.2 h2.1), ih, if_pos hx]
    simp
theorem okL_len {L : List Nat} (h : okL L) : L.length ≤ 8 := by
  rw [← cnt_mem L h.2.1 h.2.2]
  exact cntB_le _ _
theorem out_new {L : List Nat} (h : okL L) : outY ⟨memF L, fun _ => 0, fun _ => 0⟩ = 0 := by
  have hr := right_new h
  rw [sNew_0 h] at hr
  rw [out_char hr]
  have n2 : anyB (two ⟨memF L, fun _ => 0, fun _ => 0⟩) 8 = false := (anyB_no _ _).2 fun i hi => by simp [two]
  have a1 : allB (yesB ⟨memF L, fun _ => 0, fun _ => 0⟩) 8 = false := by
    obtain ⟨i, hi, e⟩ := hr.some_
    refine (allB_no _ _).2 ⟨i, hi, ?_⟩
    have e : memF L i = true := e
    simp [yesB, e]
  rw [n2, a1]
  simp
theorem new_right {L : List Nat} (h : okL L) : rightY ⟨memF L, fun _ => 0, fun _ => 0⟩ = true := by
  have hr := right_new h
  rw [sNew_0 h] at hr
  exact right_iff.2 hr

/-! ### Votes one by one -/
def vo (V : List Nat) (i : Nat) : Nat := if i < V.length then V.getD i 0 % 3 else 0
theorem vo_lt (V : List Nat) (i : Nat) : vo V i < 3 := by unfold vo; split <;> omega
structure OneI (L V : List Nat) (k : Nat) (T : Ty) : Prop where
  wh : T.wh = memF L
  ry : RY T
  fresh : ∀ j, j ∉ L.take k → T.vt j = 0 ∧ T.ep j = 0
  vts : ∀ i, i < k → ∀ x, L[i]? = some x → T.vt x = (vo V i : Nat)
theorem one_start {L V : List Nat} (h : okL L) : OneI L V 0 ⟨memF L, fun _ => 0, fun _ => 0⟩ :=
  ⟨rfl, right_iff.1 (new_right h), fun _ _ => ⟨rfl, rfl⟩, fun i hi => by omega⟩
theorem nodup_at {L : List Nat} (h : L.Nodup) {i k x : Nat} (hi : L[i]? = some x) (hk : L[k]? = some x) : i = k := by
  obtain ⟨h1, e1⟩ := List.getElem?_eq_some_iff.1 hi
  obtain ⟨h2, e2⟩ := List.getElem?_eq_some_iff.1 hk
  have hp := List.pairwise_iff_getElem.1 h
  rcases Nat.lt_trichotomy i k with a | a | a
  · exact absurd (e1.trans e2.symm) (hp i k h1 h2 a)
  · exact a
  · exact absurd (e2.trans e1.symm) (hp k i h2 h1 a)
theorem take_not {L : List Nat} (h : L.Nodup) {k x : Nat} (hk : L[k]? = some x) : x ∉ L.take k := by
  intro hm
  obtain ⟨i, hi⟩ := List.mem_iff_getElem?.1 hm
  rw [List.getElem?_take] at hi
  split at hi
  · rename_i hlt
    have := nodup_at h hi hk
    omega
  · cases hi
theorem one_skip {L V : List Nat} (h : okL L) {k x : Nat} {T : Ty} (hx : L[k]? = some x) (hT : OneI L V k T) (hv : vo V k = 0) : OneI L V (k + 1) T := by
  refine ⟨hT.wh, hT.ry, fun j hj => hT.fresh j fun hm => hj (by rw [take_next hx]; simp [hm]), fun i hi y hy => ?_⟩
  rcases Nat.lt_succ_iff_lt_or_eq.1 hi with h3 | h3
  · exact hT.vts i h3 y hy
  · subst h3
    rw [hx] at hy
    cases hy
    rw [(hT.fresh x (take_not h.2.2 hx)).1, hv]
    rfl
theorem one_put {L V : List Nat} (h : okL L) {k x : Nat} {T : Ty} (hx : L[k]? = some x) (hk : k ≤ 100) (hT : OneI L V k T) (hv : ¬ vo V k = 0) :
    ePut T x ((1 : Int) + (k : Int)) (vo V k : Nat) = 0 ∧ OneI L V (k + 1) (sPut T x ((1 : Int) + (k : Int)) (vo V k : Nat)) := by
  have hv3 := vo_lt V k
  have hf := hT.fresh x (take_not h.2.2 hx)
  have hm : x ∈ L := List.mem_of_getElem? hx
  have he : ePut T x ((1 : Int) + (k : Int)) (vo V k : Nat) = 0 := by
    rw [ePut_iff, eHear_iff]
    exact ⟨by omega, ⟨hT.ry, by omega, by omega, h.2.1 x hm, by rw [hT.wh, memF_iff]; exact hm, by rw [hf.2]; omega⟩, .inl hf.1⟩
  refine ⟨he, ?_⟩
  have hr := right_put he
  rw [sPut_z he] at hr ⊢
  refine ⟨hT.wh, hr, fun j hj => ?_, fun i hi y hy => ?_⟩
  · rw [take_next hx] at hj
    have hjx : j ≠ x := fun e => hj (by simp [e])
    have := hT.fresh j fun hm => hj (by simp [hm])
    simp [updI, hjx, this]
  · rcases Nat.lt_succ_iff_lt_or_eq.1 hi with h3 | h3
    · have hyx : y ≠ x := fun e => by subst e; have := nodup_at h.2.2 hy hx; omega
      simp only [updI, if_neg hyx]
      exact hT.vts i h3 y hy
    · subst h3
      rw [hx] at hy
      cases hy
      simp [updI]
def cY (V : List Nat) (k : Nat) : Nat := cntB (fun i => vo V i == 1) k
def cN (V : List Nat) (k : Nat) : Nat := cntB (fun i => vo V i == 2) k
theorem one_out {L V : List Nat} (h : okL L) {n : Nat} (hn : L.length = n) {T : Ty} (hT : OneI L V n T) : outY T = if 0 < cN V n then 2 else if cY V n = n then 1 else 0 := by
  rw [out_char hT.ry]
  have hin : ∀ j, j < 8 → T.wh j = true → ∃ i, i < n ∧ L[i]? = some j := fun j _ hj => by
    rw [hT.wh, memF_iff] at hj
    obtain ⟨i, hi⟩ := List.mem_iff_getElem?.1 hj
    exact ⟨i, by rw [← hn]; exact (List.getElem?_eq_some_iff.1 hi).1, hi⟩
  have hat : ∀ i, i < n → ∃ x, L[i]? = some x ∧ x < 8 ∧ T.wh x = true := fun i hi => by
    have e : L[i]? = some L[i] := List.getElem?_eq_getElem (by omega)
    exact ⟨_, e, h.2.1 _ (List.mem_of_getElem? e), by rw [hT.wh, memF_iff]; exact List.mem_of_getElem? e⟩
  have e2 : (anyB (two T) 8 = true) ↔ 0 < cN V n := by
    unfold cN
    rw [anyB_iff, cntB_pos]
    constructor
    · rintro ⟨j, hj, e⟩
      have e : T.vt j = 2 := by simpa [two] using e
      have hw : T.wh j = true := by
        cases hw : T.wh j with
        | true => rfl
        | false => rw [(hT.ry.o j hj hw).1] at e; cases e
      obtain ⟨i, hi, hx⟩ := hin j hj hw
      have := hT.vts i hi j hx
      exact ⟨i, hi, by simp; omega⟩
    · rintro ⟨i, hi, e⟩
      obtain ⟨x, hx, h8, hw⟩ := hat i hi
      have := hT.vts i hi x hx
      have e : vo V i = 2 := by simpa using e
      exact ⟨x, h8, by simp [two]; omega⟩
  have e1 : (allB (yesB T) 8 = true) ↔ cY V n = n := by
    unfold cY
    rw [allB_iff, cntB_all]
    constructor
    · intro e i hi
      obtain ⟨x, hx, h8, hw⟩ := hat i hi
      have y := e x h8
      unfold yesB at y
      rw [hw] at y
      have y : T.vt x = 1 := by simpa using y
      have := hT.vts i hi x hx
      simp
      omega
    · intro e j hj
      unfold yesB
      cases hw : T.wh j with
      | false => rfl
      | true =>
        obtain ⟨i, hi, hx⟩ := hin j hj hw
        have := hT.vts i hi j hx
        have y : vo V i = 1 := by simpa using e i hi
        simp
        omega
  simp only [e2, e1]

/-! ### Votes in any order -/
def vB (f : Nat → Bool) (j : Nat) : Int := if f j then 1 else 2
def anyT (L : List Nat) (f m : Nat → Bool) : Ty := ⟨memF L, fun j => if m j then vB f j else 0, fun j => if m j then 5 else 0⟩
theorem any_right {L : List Nat} (h : okL L) {f m : Nat → Bool} (hm : ∀ j, m j = true → j ∈ L) : RY (anyT L f m) := by
  have hr := right_new h
  rw [sNew_0 h] at hr
  refine ⟨hr.some_, fun i hi => ?_, fun i hi => ?_, fun i hi => ?_, fun i hi ho => ?_⟩ <;> simp only [anyT, vB]
  · split
    · split <;> simp
    · simp
  · split <;> omega
  · split
    · intro _; decide
    · intro e; exact absurd rfl e
  · have ho : memF L i = false := ho
    cases e : m i with
    | false => simp
    | true => exact absurd (hm i e) (memF_no.1 ho)
theorem any_start (L : List Nat) (f : Nat → Bool) : anyT L f (fun _ => false) = ⟨memF L, fun _ => 0, fun _ => 0⟩ := by simp [anyT]
theorem any_put {L : List Nat} (h : okL L) {f m : Nat → Bool} (hm : ∀ j, m j = true → j ∈ L) {x : Nat} (hx : x ∈ L) :
    ePut (anyT L f m) x 5 (vB f x) = 0 ∧ sPut (anyT L f m) x 5 (vB f x) = anyT L f (updB m x true) := by
  have he : ePut (anyT L f m) x 5 (vB f x) = 0 := by
    rw [ePut_iff, eHear_iff]
    refine ⟨by unfold vB; split <;> simp, ⟨any_right h hm, by omega, by omega, h.2.1 x hx, memF_iff.2 hx, ?_⟩, ?_⟩
    · simp only [anyT]; split <;> omega
    · simp only [anyT]; split
      · exact .inr rfl
      · exact .inl rfl
  refine ⟨he, ?_⟩
  rw [sPut_z he]
  unfold anyT
  congr 1
  · funext j
    simp only [updI, updB]
    split
    · rename_i e; subst e; simp
    · rfl
  · funext j
    simp only [updI, updB]
    split
    · rename_i e; subst e; simp
    · rfl
def yesL (L : List Nat) (f : Nat → Bool) (k : Nat) : Bool := (L.take k).all f
theorem yesL_next {L : List Nat} {f : Nat → Bool} {k x : Nat} (hx : L[k]? = some x) : yesL L f (k + 1) = (yesL L f k && f x) := by
  unfold yesL
  rw [take_next hx]
  simp
theorem any_out {L : List Nat} (h : okL L) {n : Nat} (hn : L.length = n) {f : Nat → Bool} : outY (anyT L f (memF L)) = if yesL L f n then 1 else 2 := by
  rw [out_char (any_right h fun j hj => memF_iff.1 hj)]
  have ey : yesL L f n = true ↔ ∀ x ∈ L, f x = true := by
    unfold yesL
    rw [List.take_of_length_le (by omega)]
    simp
  have hvt : ∀ x, x ∈ L → (anyT L f (memF L)).vt x = if f x then 1 else 2 := fun x hx => by simp [anyT, vB, memF_iff.2 hx]
  have hno : ∀ x, x ∉ L → (anyT L f (memF L)).vt x = 0 := fun x hx => by simp [anyT, memF_no.2 hx]
  cases hy : yesL L f n with
  | true =>
    have hall := ey.1 hy
    have n2 : anyB (two (anyT L f (memF L))) 8 = false := (anyB_no _ _).2 fun i hi => by
      unfold two
      by_cases hm : i ∈ L
      · rw [hvt i hm, hall i hm]; rfl
      · rw [hno i hm]; rfl
    have a1 : allB (yesB (anyT L f (memF L))) 8 = true := (allB_iff _ _).2 fun i hi => by
      unfold yesB
      by_cases hm : i ∈ L
      · rw [hvt i hm, hall i hm]; simp
      · rw [show (anyT L f (memF L)).wh i = false from memF_no.2 hm]; rfl
    rw [n2, a1]
    rfl
  | false =>
    have : ∃ x, x ∈ L ∧ f x = false := by
      apply Classical.byContradiction
      intro hc
      have : yesL L f n = true := ey.2 fun x hx => by
        cases e : f x with
        | true => rfl
        | false => exact absurd ⟨x, hx, e⟩ hc
      rw [hy] at this
      cases this
    obtain ⟨x, hx, e⟩ := this
    have n2 : anyB (two (anyT L f (memF L))) 8 = true := (anyB_iff _ _).2 ⟨x, h.2.1 x hx, by unfold two; rw [hvt x hx, e]; rfl⟩
    rw [n2]
    rfl
/-- The mobiles that an order names. -/
def picks (L O : List Nat) : List Nat := O.map fun q => L.getD (q % L.length) 0
theorem picks_at {L O : List Nat} {k q : Nat} (hq : O[k]? = some q) : (picks L O)[k]? = some (L.getD (q % L.length) 0) := by simp [picks, hq]
theorem picks_in {L O : List Nat} (h : okL L) : ∀ x ∈ picks L O, x ∈ L := by
  intro x hx
  obtain ⟨q, _, rfl⟩ := List.mem_map.1 hx
  have h0 : 0 < L.length := by
    rcases Nat.eq_zero_or_pos L.length with e | e
    · exact absurd (List.eq_nil_of_length_eq_zero e) h.1
    · exact e
  have : q % L.length < L.length := Nat.mod_lt _ h0
  simp [List.getD, List.getElem?_eq_getElem this]
theorem picks_all {L O : List Nat} (h : okL L) (hO : ∀ q, q < 8 → q ∈ O) : memF (picks L O) = memF L := by
  funext i
  apply bool_eq
  rw [memF_iff, memF_iff]
  constructor
  · exact picks_in h i
  · intro hi
    obtain ⟨q, hq⟩ := List.mem_iff_getElem?.1 hi
    have hl := (List.getElem?_eq_some_iff.1 hq).1
    have h8 := okL_len h
    refine List.mem_map.2 ⟨q, hO q (by omega), ?_⟩
    rw [Nat.mod_eq_of_lt hl]
    simp [List.getD, hq]
theorem mem_take {l : List Nat} {k j : Nat} (h : memF (l.take k) j = true) : j ∈ l := List.mem_of_mem_take (memF_iff.1 h)
end Go.Proofs.Ytjfmahceolhfnaa
