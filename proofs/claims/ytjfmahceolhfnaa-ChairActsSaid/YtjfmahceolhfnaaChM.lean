/-
  Plain mathematics of layer 15 (chair): deals by their transactions, what a call makes of them, logs. It speaks of no program. No condition.
-/
import Derived.Test.YtjfmahceolhfnaaTyN
import Derived.Test.YtjfmahceolhfnaaVeM
set_option linter.unusedVariables false
set_option linter.unusedSimpArgs false
namespace Go.Proofs.Ytjfmahceolhfnaa

/-- A record. -/
structure Rd where
  kind : Int
  tx : Int
  who : Nat
  ep : Int
  vote : Int
  now : Int
  sp : Int
  cap : Int
/-- A deal. -/
structure Dl where
  ty : Ty
  tm : Te.Tm
  out : Int
abbrev DM := Nat → Option Dl
def updD (D : DM) (k : Nat) (d : Dl) : DM := fun t => if t = k then some d else D t
theorem updD_at (D : DM) (k : Nat) (d : Dl) : updD D k d k = some d := by simp [updD]
theorem updD_ne (D : DM) {k t : Nat} (d : Dl) (h : t ≠ k) : updD D k d t = D t := by simp [updD, h]
/-- The mobiles of bits. -/
def bitN (w i : Nat) : Bool := w / 2 ^ i % 2 == 1
def mems (w : Nat) : List Nat := (List.range 8).filter (bitN w)
theorem mems_ne (w : Nat) (h : w < 256) (h0 : w ≠ 0) : mems w ≠ [] := by
  intro hm
  have key : ∀ i, i < 8 → ¬ w / 2 ^ i % 2 = 1 := fun i hi hb => by
    have : i ∈ mems w := List.mem_filter.2 ⟨by simpa using hi, by simp [bitN, hb]⟩
    rw [hm] at this
    cases this
  have k0 := key 0 (by omega)
  have k1 := key 1 (by omega)
  have k2 := key 2 (by omega)
  have k3 := key 3 (by omega)
  have k4 := key 4 (by omega)
  have k5 := key 5 (by omega)
  have k6 := key 6 (by omega)
  have k7 := key 7 (by omega)
  simp at k0 k1 k2 k3 k4 k5 k6 k7
  omega
theorem mems_zero : mems 0 = [] := by decide
theorem mems_ok {w : Nat} (h : w < 256) (h0 : w ≠ 0) : okL (mems w) := by
  refine ⟨mems_ne w h h0, fun x hx => ?_, ?_⟩
  · have := (List.mem_filter.1 hx).1
    simpa using this
  · exact List.Nodup.sublist List.filter_sublist List.nodup_range
theorem mems_no : ¬ okL (mems 0) := fun h => h.1 mems_zero
theorem mems_next (w k : Nat) : (List.range (k + 1)).filter (bitN w) = (List.range k).filter (bitN w) ++ if bitN w k then [k] else [] := by
  rw [List.range_succ, List.filter_append]
  congr 1
  simp [List.filter_cons]

/-! ### A call -/
def okR (r : Rd) : Prop := (1 ≤ r.kind ∧ r.kind ≤ 4) ∧ 0 ≤ r.tx ∧ r.tx < 1000
instance (r : Rd) : Decidable (okR r) := by unfold okR; infer_instance
def eBeg (D : DM) (r : Rd) : Nat := if (D r.tx.toNat).isSome then 8 else if r.who = 0 then 2 else Te.eNew r.now r.sp r.cap
def dBeg (r : Rd) : Dl := ⟨⟨memF (mems r.who), fun _ => 0, fun _ => 0⟩, Te.sNew r.now r.sp r.cap, 0⟩
def eVot (d : Dl) (r : Rd) : Nat := if ¬ d.out = 0 then 13 else if Te.overT d.tm r.now = true then 11 else ePut d.ty r.who r.ep r.vote
def dVot (d : Dl) (r : Rd) : Dl := ⟨sPut d.ty r.who r.ep r.vote, d.tm, outY (sPut d.ty r.who r.ep r.vote)⟩
def eExD (d : Dl) (r : Rd) : Nat := if ¬ d.out = 0 then 13 else if ¬ eHear d.ty r.who r.ep = 0 then eHear d.ty r.who r.ep else Te.eExt d.tm r.now
def dExD (d : Dl) (r : Rd) : Dl := ⟨sHear d.ty r.who r.ep, Te.sExt d.tm r.now, d.out⟩
def eDeal (d : Dl) (r : Rd) : Nat := if r.kind = 3 then eExD d r else eVot d r
def dDeal (d : Dl) (r : Rd) : Dl := if r.kind = 3 then dExD d r else dVot d r
def isOO (d : Dl) (x : Int) : Bool := d.out == 0 && Te.overT d.tm x
def dTick (x : Int) (d : Dl) : Dl := if isOO d x = true then ⟨d.ty, d.tm, 2⟩ else d
def tickD (D : DM) (x : Int) : DM := fun t => (D t).map (dTick x)
def ooF (D : DM) (x : Int) (t : Nat) : Bool := match D t with | some d => isOO d x | none => false
def eDoC (D : DM) (r : Rd) : Nat := if ¬ okR r then 2 else if r.kind = 4 then 0 else if r.kind = 1 then eBeg D r else match D r.tx.toNat with | none => 7 | some d => eDeal d r
/-- What an accepted call makes. -/
def stC (D : DM) (r : Rd) : DM := if r.kind = 4 then tickD D r.now else if r.kind = 1 then updD D r.tx.toNat (dBeg r) else match D r.tx.toNat with | none => D | some d => updD D r.tx.toNat (dDeal d r)
def numC (D : DM) (r : Rd) : Nat := if r.kind = 4 then cntB (ooF D r.now) 1000 else if r.kind = 1 then 0 else match D r.tx.toNat with | none => 0 | some d => if (dDeal d r).out = 0 then 0 else 1
def sDoC (D : DM) (r : Rd) : DM := if eDoC D r = 0 then stC D r else D
def nDoC (D : DM) (r : Rd) : Nat := if eDoC D r = 0 then numC D r else 0
def lDoC (D : DM) (l : List Rd) (r : Rd) : List Rd := if eDoC D r = 0 then l ++ [r] else l
theorem sDoC_z {D : DM} {r : Rd} (h : eDoC D r = 0) : sDoC D r = stC D r := by unfold sDoC; rw [if_pos h]
theorem sDoC_n {D : DM} {r : Rd} (h : ¬ eDoC D r = 0) : sDoC D r = D := by unfold sDoC; rw [if_neg h]
theorem nDoC_z {D : DM} {r : Rd} (h : eDoC D r = 0) : nDoC D r = numC D r := by unfold nDoC; rw [if_pos h]
theorem nDoC_n {D : DM} {r : Rd} (h : ¬ eDoC D r = 0) : nDoC D r = 0 := by unfold nDoC; rw [if_neg h]
theorem lDoC_z {D : DM} {r : Rd} (l : List Rd) (h : eDoC D r = 0) : lDoC D l r = l ++ [r] := by unfold lDoC; rw [if_pos h]
theorem lDoC_n {D : DM} {r : Rd} (l : List Rd) (h : ¬ eDoC D r = 0) : lDoC D l r = l := by unfold lDoC; rw [if_neg h]
theorem eDoC_2 {D : DM} {r : Rd} (h : ¬ okR r) : eDoC D r = 2 := by unfold eDoC; rw [if_pos h]
theorem eDoC_t {D : DM} {r : Rd} (h : okR r) (h4 : r.kind = 4) : eDoC D r = 0 := by unfold eDoC; rw [if_neg (not_not_intro h), if_pos h4]
theorem eDoC_b {D : DM} {r : Rd} (h : okR r) (h1 : r.kind = 1) : eDoC D r = eBeg D r := by unfold eDoC; rw [if_neg (not_not_intro h), if_neg (by omega), if_pos h1]
theorem eDoC_7 {D : DM} {r : Rd} (h : okR r) (h1 : ¬ r.kind = 1) (h4 : ¬ r.kind = 4) (hn : D r.tx.toNat = none) : eDoC D r = 7 := by unfold eDoC; rw [if_neg (not_not_intro h), if_neg h4, if_neg h1, hn]
theorem eDoC_d {D : DM} {r : Rd} {d : Dl} (h : okR r) (h1 : ¬ r.kind = 1) (h4 : ¬ r.kind = 4) (hd : D r.tx.toNat = some d) : eDoC D r = eDeal d r := by unfold eDoC; rw [if_neg (not_not_intro h), if_neg h4, if_neg h1, hd]
theorem eDoC_ok {D : DM} {r : Rd} (h : eDoC D r = 0) : okR r := by
  apply Classical.byContradiction
  intro hn
  rw [eDoC_2 hn] at h
  cases h
theorem stC_t {D : DM} {r : Rd} (h : r.kind = 4) : stC D r = tickD D r.now := by unfold stC; rw [if_pos h]
theorem stC_b {D : DM} {r : Rd} (h : r.kind = 1) : stC D r = updD D r.tx.toNat (dBeg r) := by unfold stC; rw [if_neg (by omega), if_pos h]
theorem stC_d {D : DM} {r : Rd} {d : Dl} (h1 : ¬ r.kind = 1) (h4 : ¬ r.kind = 4) (hd : D r.tx.toNat = some d) : stC D r = updD D r.tx.toNat (dDeal d r) := by unfold stC; rw [if_neg h4, if_neg h1, hd]
theorem numC_t {D : DM} {r : Rd} (h : r.kind = 4) : numC D r = cntB (ooF D r.now) 1000 := by unfold numC; rw [if_pos h]
theorem numC_b {D : DM} {r : Rd} (h : r.kind = 1) : numC D r = 0 := by unfold numC; rw [if_neg (by omega), if_pos h]
theorem numC_d {D : DM} {r : Rd} {d : Dl} (h1 : ¬ r.kind = 1) (h4 : ¬ r.kind = 4) (hd : D r.tx.toNat = some d) : numC D r = if (dDeal d r).out = 0 then 0 else 1 := by unfold numC; rw [if_neg h4, if_neg h1, hd]
/-- The cases of an accepted call. -/
theorem do_cases {D : DM} {r : Rd} (h : eDoC D r = 0) : (r.kind = 4 ∧ sDoC D r = tickD D r.now) ∨ (r.kind = 1 ∧ D r.tx.toNat = none ∧ ¬ r.who = 0 ∧ Te.eNew r.now r.sp r.cap = 0 ∧ sDoC D r = updD D r.tx.toNat (dBeg r)) ∨
    (¬ r.kind = 1 ∧ ¬ r.kind = 4 ∧ ∃ d, D r.tx.toNat = some d ∧ d.out = 0 ∧ eDeal d r = 0 ∧ sDoC D r = updD D r.tx.toNat (dDeal d r)) := by
  have ho := eDoC_ok h
  by_cases h4 : r.kind = 4
  · exact .inl ⟨h4, by rw [sDoC_z h, stC_t h4]⟩
  · by_cases h1 : r.kind = 1
    · have hb := eDoC_b (D := D) ho h1
      rw [h] at hb
      unfold eBeg at hb
      split at hb
      · cases hb
      · rename_i hn
        split at hb
        · cases hb
        · rename_i hw
          exact .inr (.inl ⟨h1, by simpa using hn, hw, hb.symm, by rw [sDoC_z h, stC_b h1]⟩)
    · cases hd : D r.tx.toNat with
      | none => rw [eDoC_7 ho h1 h4 hd] at h; cases h
      | some d =>
        have he := eDoC_d ho h1 h4 hd
        rw [h] at he
        refine .inr (.inr ⟨h1, h4, d, rfl, ?_, he.symm, by rw [sDoC_z h, stC_d h1 h4 hd]⟩)
        apply Classical.byContradiction
        intro hn
        unfold eDeal eExD eVot at he
        rw [if_pos hn, if_pos hn] at he
        split at he <;> cases he

/-! ### What always holds -/
structure GoodD (d : Dl) : Prop where
  ry : RY d.ty
  rt : Te.RightT d.tm
  out : d.out = 0 ∨ d.out = 1 ∨ d.out = 2
  all : d.out = 1 → ∀ k, k < 8 → d.ty.wh k = true → d.ty.vt k = 1
def GoodC (D : DM) : Prop := ∀ t d, D t = some d → t < 1000 ∧ GoodD d
theorem outY_le (S : Ty) : outY S = 0 ∨ outY S = 1 ∨ outY S = 2 := by
  unfold outY
  split
  · exact .inl rfl
  · split
    · exact .inr (.inr rfl)
    · split
      · exact .inr (.inl rfl)
      · exact .inl rfl
theorem outY_yes {S : Ty} (h : RY S) (h1 : outY S = 1) : ∀ k, k < 8 → S.wh k = true → S.vt k = 1 := by
  rw [out_char h] at h1
  split at h1
  · cases h1
  · split at h1
    · rename_i ha
      intro k hk hw
      have := (allB_iff _ _).1 ha k hk
      unfold yesB at this
      rw [hw] at this
      simpa using this
    · cases h1
theorem good_tick {d : Dl} (x : Int) (h : GoodD d) : GoodD (dTick x d) := by
  unfold dTick
  split
  · exact ⟨h.ry, h.rt, .inr (.inr rfl), fun e => by cases e⟩
  · exact h
theorem deal_cases {d : Dl} {r : Rd} (h0 : d.out = 0) (h : eDeal d r = 0) :
    (r.kind = 3 ∧ eHear d.ty r.who r.ep = 0 ∧ Te.eExt d.tm r.now = 0 ∧ dDeal d r = ⟨sHear d.ty r.who r.ep, Te.sExt d.tm r.now, d.out⟩) ∨
    (¬ r.kind = 3 ∧ Te.overT d.tm r.now = false ∧ ePut d.ty r.who r.ep r.vote = 0 ∧ dDeal d r = ⟨sPut d.ty r.who r.ep r.vote, d.tm, outY (sPut d.ty r.who r.ep r.vote)⟩) := by
  unfold eDeal at h
  unfold dDeal
  split at h
  · rename_i h3
    rw [if_pos h3]
    unfold eExD at h
    rw [if_neg (not_not_intro h0)] at h
    split at h
    · rename_i hh; exact absurd h hh
    · rename_i hh; exact .inl ⟨h3, Classical.not_not.1 hh, h, rfl⟩
  · rename_i h3
    rw [if_neg h3]
    unfold eVot at h
    rw [if_neg (not_not_intro h0)] at h
    split at h
    · cases h
    · rename_i hh; exact .inr ⟨h3, by simpa using hh, h, rfl⟩
theorem good_deal {d : Dl} {r : Rd} (h : GoodD d) (h0 : d.out = 0) (he : eDeal d r = 0) : GoodD (dDeal d r) := by
  rcases deal_cases h0 he with ⟨h3, h1, h2, e⟩ | ⟨h3, h1, h2, e⟩ <;> rw [e]
  · exact ⟨right_hear h1, (Te.right_ext r.now h.rt).1, .inl h0, fun e1 => by simp only at e1; omega⟩
  · exact ⟨right_put h2, h.rt, outY_le _, fun e1 => outY_yes (right_put h2) e1⟩
theorem good_beg {r : Rd} (hw : r.who < 256) (h0 : ¬ r.who = 0) (he : Te.eNew r.now r.sp r.cap = 0) : GoodD (dBeg r) := by
  have hr := right_new (mems_ok hw h0)
  rw [sNew_0 (mems_ok hw h0)] at hr
  obtain ⟨_, hs, hT, _⟩ := Te.right_new he
  exact ⟨hr, by unfold dBeg; simp only; rw [hs]; exact hT, .inl rfl, fun e1 => by unfold dBeg at e1; cases e1⟩
theorem good_none : GoodC (fun _ => none) := fun t d h => by cases h
theorem good_upd {D : DM} {k : Nat} {d : Dl} (h : GoodC D) (hk : k < 1000) (hd : GoodD d) : GoodC (updD D k d) := fun t e he => by
  unfold updD at he
  split at he
  · rename_i hte; subst hte; cases he; exact ⟨hk, hd⟩
  · exact h t e he
theorem good_do {D : DM} {r : Rd} (h : GoodC D) (hw : r.who < 256) : GoodC (sDoC D r) := by
  by_cases he : eDoC D r = 0
  · have ho := eDoC_ok he
    have hk : r.tx.toNat < 1000 := by have := ho.2; omega
    rcases do_cases he with ⟨h4, e⟩ | ⟨h1, hn, hw0, hN, e⟩ | ⟨h1, h4, d, hd, h0, hE, e⟩ <;> rw [e]
    · intro t d hd
      unfold tickD at hd
      cases hD : D t with
      | none => rw [hD] at hd; cases hd
      | some d0 =>
        rw [hD] at hd
        cases hd
        obtain ⟨h5, h6⟩ := h t d0 hD
        exact ⟨h5, good_tick _ h6⟩
    · exact good_upd h hk (good_beg hw hw0 hN)
    · exact good_upd h hk (good_deal (h _ _ hd).2 h0 hE)
  · rw [sDoC_n he]; exact h

/-! ### What the laws ask -/
theorem do_has {D : DM} {r : Rd} {t : Nat} (h : (D t).isSome = true) : (sDoC D r t).isSome = true := by
  by_cases he : eDoC D r = 0
  · rcases do_cases he with ⟨h4, e⟩ | ⟨h1, hn, hw0, hN, e⟩ | ⟨h1, h4, d, hd, h0, hE, e⟩ <;> rw [e]
    · unfold tickD; simpa using h
    · unfold updD; split
      · rfl
      · exact h
    · unfold updD; split
      · rfl
      · exact h
  · rw [sDoC_n he]; exact h
/-- An outcome stays. -/
theorem do_stays {D : DM} {r : Rd} {t : Nat} {d : Dl} (h : D t = some d) (ho : ¬ d.out = 0) : ∃ d', sDoC D r t = some d' ∧ d'.out = d.out := by
  by_cases he : eDoC D r = 0
  · rcases do_cases he with ⟨h4, e⟩ | ⟨h1, hn, hw0, hN, e⟩ | ⟨h1, h4, d0, hd, h0, hE, e⟩ <;> rw [e]
    · refine ⟨dTick r.now d, by unfold tickD; rw [h]; rfl, ?_⟩
      unfold dTick isOO
      rw [if_neg (by simp [ho])]
    · have hne : t ≠ r.tx.toNat := fun e' => by subst e'; rw [h] at hn; cases hn
      exact ⟨d, by rw [updD_ne _ _ hne]; exact h, rfl⟩
    · have hne : t ≠ r.tx.toNat := fun e' => by subst e'; rw [h] at hd; cases hd; exact ho h0
      exact ⟨d, by rw [updD_ne _ _ hne]; exact h, rfl⟩
  · exact ⟨d, by rw [sDoC_n he]; exact h, rfl⟩
/-- A commit comes of a vote in time, with all Yes. -/
theorem do_commit {D : DM} {r : Rd} {t : Nat} {d d' : Dl} (hg : GoodC D) (hw : r.who < 256) (ht : r.tx = (t : Int)) (h : D t = some d) (h0 : d.out = 0) (h' : sDoC D r t = some d') (h1 : d'.out = 1) :
    r.kind = 2 ∧ Te.overT d.tm r.now = false ∧ ∀ k, k < 8 → d'.ty.wh k = true → d'.ty.vt k = 1 := by
  have hall := ((good_do (r := r) hg hw) t d' h').2.all h1
  have htn : r.tx.toNat = t := by omega
  by_cases he : eDoC D r = 0
  · have ho := eDoC_ok he
    rcases do_cases he with ⟨h4, e⟩ | ⟨k1, hn, hw0, hN, e⟩ | ⟨k1, h4, d0, hd, k0, hE, e⟩ <;> rw [e] at h'
    · unfold tickD at h'
      rw [h] at h'
      cases h'
      unfold dTick at h1
      split at h1
      · cases h1
      · rw [h0] at h1; cases h1
    · rw [htn, h] at hn; cases hn
    · rw [htn] at hd h'
      rw [h] at hd
      cases hd
      rw [updD_at] at h'
      cases h'
      rcases deal_cases h0 hE with ⟨a1, a2, a3, a4⟩ | ⟨a1, a2, a3, a4⟩
      · rw [a4] at h1
        simp only at h1
        omega
      · exact ⟨by have := ho.1; omega, a2, hall⟩
  · rw [sDoC_n he, h] at h'
    cases h'
    omega
/-- What is done to one changes no other one. -/
theorem do_apart {D : DM} {r : Rd} {t : Nat} (h4 : ¬ r.kind = 4) (ht : ¬ r.tx = (t : Int)) : sDoC D r t = D t := by
  by_cases he : eDoC D r = 0
  · have ho := (eDoC_ok he).2.1
    have hne : t ≠ r.tx.toNat := by omega
    rcases do_cases he with ⟨k4, e⟩ | ⟨h1, hn, hw0, hN, e⟩ | ⟨h1, k4, d, hd, h0, hE, e⟩
    · exact absurd k4 h4
    · rw [e, updD_ne _ _ hne]
    · rw [e, updD_ne _ _ hne]
  · rw [sDoC_n he]
/-- Those that are open, and how many. -/
def opF (D : DM) (t : Nat) : Bool := match D t with | some d => d.out == 0 | none => false
theorem cntB_congr {f g : Nat → Bool} : ∀ n, (∀ i, i < n → f i = g i) → cntB f n = cntB g n
  | 0, _ => rfl
  | n + 1, h => by
    unfold cntB
    rw [cntB_congr n fun i hi => h i (by omega), h n (by omega)]
theorem over_last {m : Te.Tm} {x : Int} (h : Te.RightT m) (hx : Te.lastR m ≤ x) : Te.overT m x = true := by
  have hr := Te.right_iff.2 h
  unfold Te.lastR at hx
  rw [if_pos hr] at hx
  have := Te.dl_last h
  unfold Te.overT
  rw [hr]
  simp
  omega
/-- Behind the last moment of all that are open a tick ends all of them. -/
theorem tick_ends {D : DM} {x : Int} (hg : GoodC D) (hx : ∀ t d, D t = some d → d.out = 0 → Te.lastR d.tm ≤ x) :
    (∀ t, opF (tickD D x) t = false) ∧ cntB (ooF D x) 1000 = cntB (opF D) 1000 := by
  have key : ∀ t d, D t = some d → isOO d x = (d.out == 0) := fun t d h => by
    unfold isOO
    cases h0 : (d.out == 0) with
    | false => rfl
    | true =>
      rw [over_last (hg t d h).2.rt (hx t d h (by simpa using h0))]
      rfl
  refine ⟨fun t => ?_, cntB_congr _ fun t _ => ?_⟩
  · unfold opF tickD
    cases h : D t with
    | none => rfl
    | some d =>
      simp only [Option.map_some, dTick]
      rw [key t d h]
      cases h0 : (d.out == 0) with
      | false => simp [h0]
      | true => simp
  · unfold ooF opF
    cases h : D t with
    | none => rfl
    | some d => simp only; exact key t d h

/-! ### Rows of calls, logs -/
def plC : List Rd → DM × List Rd → DM × List Rd
  | [], s => s
  | r :: l, s => plC l (sDoC s.1 r, lDoC s.1 s.2 r)
def repl : List Rd → DM → Option DM
  | [], D => some D
  | r :: l, D => if eDoC D r = 0 then repl l (sDoC D r) else none
theorem repl_app : ∀ (a b : List Rd) (D : DM), repl (a ++ b) D = (repl a D).bind (repl b)
  | [], b, D => rfl
  | r :: a, b, D => by
    simp only [List.cons_append, repl]
    split
    · exact repl_app a b _
    · rfl
/-- A chair and its log. -/
def LogOf (D : DM) (l : List Rd) : Prop := repl l (fun _ => none) = some D
theorem log_none : LogOf (fun _ => none) [] := rfl
theorem log_do {D : DM} {l : List Rd} {r : Rd} (h : LogOf D l) : LogOf (sDoC D r) (lDoC D l r) := by
  unfold LogOf at *
  by_cases he : eDoC D r = 0
  · rw [lDoC_z l he, repl_app, h]
    simp [repl, he]
  · rw [lDoC_n l he, sDoC_n he]; exact h
/-- A record that is refused at the end. -/
theorem log_bad {D : DM} {l : List Rd} {r : Rd} (h : LogOf D l) (he : ¬ eDoC D r = 0) : repl (l ++ [r]) (fun _ => none) = none := by
  unfold LogOf at h
  rw [repl_app, h]
  simp [repl, he]
theorem repl_cons {D : DM} {l : List Rd} {r : Rd} (h : eDoC D r = 0) : repl (r :: l) D = repl l (sDoC D r) := by simp [repl, h]
theorem repl_stop {D : DM} {l : List Rd} {r : Rd} (h : ¬ eDoC D r = 0) : repl (r :: l) D = none := by simp [repl, h]

/-! ### The document's list -/
structure Dd where
  tx : Int
  d : Dl
def keyL (C : List Dd) : List Int := C.map (·.tx)
structure OkC (C : List Dd) : Prop where
  nodup : (keyL C).Nodup
  rng : ∀ e ∈ C, 0 ≤ e.tx ∧ e.tx < 1000
def findD (C : List Dd) (tx : Int) : Option Nat := C.findIdx? (fun e => e.tx == tx)
def fnC (C : List Dd) : DM := fun t => (C.find? (fun e => e.tx == (t : Int))).map (·.d)
theorem okC_nil : OkC [] := ⟨List.nodup_nil, fun e h => by cases h⟩
theorem fnC_nil : fnC [] = fun _ => none := rfl
theorem fnC_none {C : List Dd} {t : Nat} : fnC C t = none ↔ ∀ e ∈ C, e.tx ≠ (t : Int) := by
  unfold fnC
  simp
theorem fnC_some {C : List Dd} (h : OkC C) {t : Nat} {d : Dl} : fnC C t = some d ↔ ∃ e ∈ C, e.tx = (t : Int) ∧ e.d = d := by
  constructor
  · intro hd
    unfold fnC at hd
    cases hf : C.find? (fun e => e.tx == (t : Int)) with
    | none => rw [hf] at hd; cases hd
    | some e =>
      rw [hf] at hd
      cases hd
      have h1 := List.find?_some hf
      exact ⟨e, List.mem_of_find?_eq_some hf, by simpa using h1, rfl⟩
  · rintro ⟨e, he, ht, rfl⟩
    cases hf : fnC C t with
    | none => exact absurd ht (fnC_none.1 hf e he)
    | some d2 =>
      unfold fnC at hf
      cases hg : C.find? (fun e => e.tx == (t : Int)) with
      | none => rw [hg] at hf; cases hf
      | some e2 =>
        rw [hg] at hf
        cases hf
        have h1 := List.find?_some hg
        have h1 : e2.tx = (t : Int) := by simpa using h1
        have h2 := List.mem_of_find?_eq_some hg
        obtain ⟨i, hi⟩ := List.mem_iff_getElem?.1 he
        obtain ⟨j, hj⟩ := List.mem_iff_getElem?.1 h2
        have hk : i = j := by
          have a1 : (keyL C)[i]? = some e.tx := by simp [keyL, hi]
          have a2 : (keyL C)[j]? = some e2.tx := by simp [keyL, hj]
          obtain ⟨b1, c1⟩ := List.getElem?_eq_some_iff.1 a1
          obtain ⟨b2, c2⟩ := List.getElem?_eq_some_iff.1 a2
          have hp := List.pairwise_iff_getElem.1 h.nodup
          have hee : (keyL C)[i] = (keyL C)[j] := by rw [c1, c2, ht, h1]
          rcases Nat.lt_trichotomy i j with a | a | a
          · exact absurd hee (hp i j b1 b2 a)
          · exact a
          · exact absurd hee.symm (hp j i b2 b1 a)
        subst hk
        rw [hi] at hj
        cases hj
        rfl
theorem fnC_at {C : List Dd} (h : OkC C) {i : Nat} {e : Dd} (he : C[i]? = some e) : fnC C e.tx.toNat = some e.d := by
  have hm := List.mem_of_getElem? he
  have := h.rng e hm
  exact (fnC_some h).2 ⟨e, hm, by omega, rfl⟩
theorem fnC_app {C : List Dd} (h : OkC C) {e : Dd} (hr : 0 ≤ e.tx ∧ e.tx < 1000) (hn : fnC C e.tx.toNat = none) : OkC (C ++ [e]) ∧ fnC (C ++ [e]) = updD (fnC C) e.tx.toNat e.d := by
  have hn' := fnC_none.1 hn
  have hN : ∀ x ∈ C, x.tx ≠ e.tx := fun x hx => by have := hn' x hx; omega
  refine ⟨⟨?_, fun x hx => ?_⟩, ?_⟩
  · unfold keyL
    rw [List.map_append, List.nodup_append]
    refine ⟨h.nodup, by simp, fun a ha b hb => ?_⟩
    obtain ⟨x, hx, rfl⟩ := List.mem_map.1 ha
    simp at hb
    rw [hb]
    exact hN x hx
  · rcases List.mem_append.1 hx with hx | hx
    · exact h.rng x hx
    · simp at hx; subst hx; exact hr
  · funext t
    unfold fnC updD
    rw [List.find?_append]
    split
    · rename_i ht
      subst ht
      have h1 : C.find? (fun x => x.tx == ((e.tx.toNat : Nat) : Int)) = none := by
        rw [List.find?_eq_none]
        intro x hx
        have := hN x hx
        simp
        omega
      rw [h1, show ((e.tx.toNat : Nat) : Int) = e.tx by omega]
      simp
    · rename_i ht
      have : (e.tx == (t : Int)) = false := by simp; omega
      cases hf : C.find? (fun x => x.tx == (t : Int)) <;> simp [this, hf]
theorem keyL_set {C : List Dd} {i : Nat} {e : Dd} (he : C[i]? = some e) (d : Dl) : keyL (C.set i ⟨e.tx, d⟩) = keyL C := by
  unfold keyL
  apply List.ext_getElem?
  intro j
  rw [List.getElem?_map, List.getElem?_map, List.getElem?_set]
  split
  · rename_i hij
    subst hij
    have hl := (List.getElem?_eq_some_iff.1 he).1
    rw [if_pos hl, he]
    rfl
  · rfl
theorem fnC_set {C : List Dd} (h : OkC C) {i : Nat} {e : Dd} (he : C[i]? = some e) (d : Dl) : OkC (C.set i ⟨e.tx, d⟩) ∧ fnC (C.set i ⟨e.tx, d⟩) = updD (fnC C) e.tx.toNat d := by
  have hr := h.rng e (List.mem_of_getElem? he)
  have hl := (List.getElem?_eq_some_iff.1 he).1
  have hok : OkC (C.set i ⟨e.tx, d⟩) := ⟨by rw [keyL_set he]; exact h.nodup, fun x hx => by
    rcases List.mem_or_eq_of_mem_set hx with hx | hx
    · exact h.rng x hx
    · subst hx; exact hr⟩
  refine ⟨hok, ?_⟩
  funext t
  by_cases ht : t = e.tx.toNat
  · subst ht
    rw [updD_at]
    refine (fnC_some hok).2 ⟨⟨e.tx, d⟩, List.mem_set hl _, by simp only; omega, rfl⟩
  · rw [updD_ne _ _ ht]
    have key : ∀ d2, fnC (C.set i ⟨e.tx, d⟩) t = some d2 ↔ fnC C t = some d2 := fun d2 => by
      rw [fnC_some hok, fnC_some h]
      constructor
      · rintro ⟨x, hx, h1, h2⟩
        obtain ⟨j, hj⟩ := List.mem_iff_getElem?.1 hx
        rw [List.getElem?_set] at hj
        split at hj
        · first
            | (rw [if_pos hl] at hj; cases hj; simp only at h1; omega)
            | (cases hj; simp only at h1; omega)
        · exact ⟨x, List.mem_of_getElem? hj, h1, h2⟩
      · rintro ⟨x, hx, h1, h2⟩
        obtain ⟨j, hj⟩ := List.mem_iff_getElem?.1 hx
        refine ⟨x, ?_, h1, h2⟩
        have hne : ¬ i = j := fun e' => by
          subst e'
          rw [he] at hj
          cases hj
          omega
        have : (C.set i ⟨e.tx, d⟩)[j]? = some x := by rw [List.getElem?_set, if_neg hne]; exact hj
        exact List.mem_of_getElem? this
    cases h1 : fnC C t with
    | some d2 => exact (key d2).2 h1
    | none =>
      cases h2 : fnC (C.set i ⟨e.tx, d⟩) t with
      | none => rfl
      | some d2 => rw [(key d2).1 h2] at h1; cases h1
/-- A tick over the list, and how many it ends. -/
def tickL (C : List Dd) (x : Int) : List Dd := C.map fun e => ⟨e.tx, dTick x e.d⟩
def cntL (C : List Dd) (x : Int) : Nat := C.countP fun e => isOO e.d x
theorem fnC_tick {C : List Dd} (h : OkC C) (x : Int) : OkC (tickL C x) ∧ fnC (tickL C x) = tickD (fnC C) x := by
  refine ⟨⟨by unfold keyL tickL; rw [List.map_map]; exact h.nodup, fun e he => ?_⟩, ?_⟩
  · obtain ⟨y, hy, rfl⟩ := List.mem_map.1 he
    exact h.rng y hy
  · funext t
    unfold fnC tickL tickD
    rw [List.find?_map]
    simp only [Function.comp_def]
    cases C.find? (fun e => e.tx == (t : Int)) <;> rfl
/-- Counting along a list whose keys are unlike. -/
theorem cnt_list (p : Dl → Bool) : ∀ (C : List Dd), OkC C → C.countP (fun e => p e.d) = cntB (fun t => match fnC C t with | some d => p d | none => false) 1000 := by
  intro C
  generalize hn : C.length = n
  induction n generalizing C with
  | zero =>
    intro h
    obtain rfl := List.eq_nil_of_length_eq_zero hn
    simp only [fnC_nil, List.countP_nil]
    symm
    have : ∀ n, cntB (fun _ => false) n = 0 := fun n => by
      induction n with
      | zero => rfl
      | succ k ih => simp [cntB, ih]
    exact this 1000
  | succ n ih =>
    intro h
    obtain ⟨C0, e, rfl⟩ : ∃ C0 e, C = C0 ++ [e] := by
      rcases List.eq_nil_or_concat C with h0 | ⟨L, b, h0⟩
      · subst h0; simp at hn
      · exact ⟨L, b, by simpa using h0⟩
    have hk : (keyL C0).Nodup ∧ ∀ x ∈ C0, x.tx ≠ e.tx := by
      have := h.nodup
      unfold keyL at this
      rw [List.map_append, List.nodup_append] at this
      exact ⟨this.1, fun x hx => this.2.2 _ (List.mem_map.2 ⟨x, hx, rfl⟩) e.tx (by simp)⟩
    have h0 : OkC C0 := ⟨hk.1, fun x hx => h.rng x (by simp [hx])⟩
    have hr := h.rng e (by simp)
    have hnone : fnC C0 e.tx.toNat = none := fnC_none.2 fun x hx => by have := hk.2 x hx; omega
    have hf := (fnC_app h0 hr hnone).2
    have hl : C0.length = n := by simpa using hn
    rw [List.countP_append, ih C0 hl h0, hf]
    have hstep : ∀ n, cntB (fun t => match updD (fnC C0) e.tx.toNat e.d t with | some d => p d | none => false) n =
        cntB (fun t => match fnC C0 t with | some d => p d | none => false) n + if e.tx.toNat < n ∧ p e.d = true then 1 else 0 := fun n => by
      induction n with
      | zero => simp [cntB]
      | succ k ih2 =>
        unfold cntB
        rw [ih2]
        by_cases hke : k = e.tx.toNat
        · subst hke
          rw [updD_at, hnone]
          cases hp : p e.d <;> simp [hp]
        · rw [updD_ne _ _ hke]
          have : (e.tx.toNat < k + 1) ↔ (e.tx.toNat < k) := by omega
          simp only [this]
          omega
    rw [hstep]
    have h1 : e.tx.toNat < 1000 := by omega
    simp only [h1, true_and, List.countP_cons, List.countP_nil, Nat.zero_add]
theorem cnt_tick {C : List Dd} (h : OkC C) (x : Int) : cntL C x = cntB (ooF (fnC C) x) 1000 := cnt_list (fun d => isOO d x) C h
theorem findD_some {C : List Dd} {tx : Int} {i : Nat} (h : findD C tx = some i) : ∃ e, C[i]? = some e ∧ e.tx = tx := by
  unfold findD at h
  obtain ⟨hl, hp, _⟩ := List.findIdx?_eq_some_iff_getElem.1 h
  exact ⟨C[i], List.getElem?_eq_getElem hl, by simpa using hp⟩
theorem findD_none {C : List Dd} {tx : Int} (h : findD C tx = none) : ∀ e ∈ C, e.tx ≠ tx := by
  unfold findD at h
  rw [List.findIdx?_eq_none_iff] at h
  intro e he
  simpa using h e he
end Go.Proofs.Ytjfmahceolhfnaa
