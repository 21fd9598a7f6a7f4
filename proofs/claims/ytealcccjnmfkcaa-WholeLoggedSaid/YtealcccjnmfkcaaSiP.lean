/-
  Plain mathematics: what the steps of a call make of a transaction's turn (its part, the locks, the ledger, what it reads), and that all of them together are a call of the site. No program, no condition but those that each theorem names.
-/
import Derived.Test.YtealcccjnmfkcaaSiN
set_option linter.unusedVariables false
set_option linter.unusedSimpArgs false
namespace Go.Proofs.Ytealcccjnmfkcaa
open Go.RowKit Go.IntWalk

/-- A call whose numbers are such as their types hold. -/
structure RcOk (r : Rc) : Prop where
  kd : -9223372036854775808 ≤ r.kd ∧ r.kd ≤ 9223372036854775807
  tx : -9223372036854775808 ≤ r.tx ∧ r.tx ≤ 9223372036854775807
  ky : 0 ≤ r.ky ∧ r.ky ≤ 255
  nn : -9223372036854775808 ≤ r.nn ∧ r.nn ≤ 9223372036854775807
structure Tn where
  own : Pt
  lk : List Hd
  led : List Dl
  sn : Int
def kHold (t : Tn) (r : Rc) (wr : Bool) : Int := if t.own.st ≠ 0 then 13 else eTake t.lk r.tx r.ky wr
def tHold (t : Tn) (r : Rc) (wr : Bool) : Tn := if t.own.st ≠ 0 then t else ⟨t.own, sTake t.lk r.tx r.ky wr, t.led, t.sn⟩
def tSet (t : Tn) (tx : Int) (d : List Dl) : Tn := ⟨t.own, fre t.lk tx, sPut t.led d, t.sn⟩
def tRead (t : Tn) (r : Rc) : Tn := ⟨(tHold t r false).own, (tHold t r false).lk, (tHold t r false).led, wrap64 (getD (tHold t r false).led r.ky + tot (tHold t r false).own.ad r.ky)⟩
def kAdd (t : Tn) (r : Rc) : Int := if kHold t r true ≠ 0 then kHold t r true else eAdd (tHold t r true).own ⟨r.ky, r.nn⟩
def tAdd (t : Tn) (r : Rc) : Tn := if kHold t r true ≠ 0 then tHold t r true else ⟨sAdd (tHold t r true).own ⟨r.ky, r.nn⟩, (tHold t r true).lk, (tHold t r true).led, (tHold t r true).sn⟩
def tVote (t : Tn) (r : Rc) : Tn := ⟨sVote t.own (decide (r.nn ≠ 0)), if (sVote t.own (decide (r.nn ≠ 0))).st = 2 then fre t.lk r.tx else t.lk, t.led, t.sn⟩
def kLoc (t : Tn) : Int := if eLoc t.own ≠ 0 then eLoc t.own else ePut t.led (dLoc t.own)
def tLoc (t : Tn) (r : Rc) : Tn := if eLoc t.own ≠ 0 then t else tSet ⟨sLoc t.own, t.lk, t.led, t.sn⟩ r.tx (dLoc t.own)
def kDec (t : Tn) (r : Rc) : Int := if eDec t.own (outc r.nn) ≠ 0 then eDec t.own (outc r.nn) else ePut t.led (dDec t.own (outc r.nn))
def tDec (t : Tn) (r : Rc) : Tn := if eDec t.own (outc r.nn) ≠ 0 then t else tSet ⟨sDec t.own (outc r.nn), t.lk, t.led, t.sn⟩ r.tx (dDec t.own (outc r.nn))
def tBeg (t : Tn) (is : Bool) : Tn := if is then t else ⟨p0, t.lk, t.led, t.sn⟩
def kBeg (is : Bool) : Int := if is then 8 else 0
/-- The turn at its beginning. -/
def tIn (s : Si) (r : Rc) : Tn := ⟨(fnd s.pts r.tx).getD p0, s.lk, s.led, 0⟩
def kAft (s : Si) (r : Rc) : Int :=
  if r.kd = 1 then kBeg (fnd s.pts r.tx).isSome else if (fnd s.pts r.tx).isSome = false then 7 else
  if r.kd = 2 then kHold (tIn s r) r false else if r.kd = 3 then kAdd (tIn s r) r else if r.kd = 4 then eVote (tIn s r).own else if r.kd = 5 then kLoc (tIn s r) else kDec (tIn s r) r
def tAft (s : Si) (r : Rc) : Tn :=
  if r.kd = 1 then tBeg (tIn s r) (fnd s.pts r.tx).isSome else if (fnd s.pts r.tx).isSome = false then tIn s r else
  if r.kd = 2 then tRead (tIn s r) r else if r.kd = 3 then tAdd (tIn s r) r else if r.kd = 4 then tVote (tIn s r) r else if r.kd = 5 then tLoc (tIn s r) r else tDec (tIn s r) r
def inR (r : Rc) : Bool := decide (1 ≤ r.kd) && decide (r.kd ≤ 6) && decide (0 ≤ r.tx) && decide (r.tx < 1000)
theorem inR_iff {r : Rc} : inR r = true ↔ ¬ (r.kd < 1 ∨ 6 < r.kd ∨ r.tx < 0 ∨ 1000 ≤ r.tx) := by
  unfold inR
  simp
  omega
theorem inR_no {r : Rc} : inR r = false ↔ (r.kd < 1 ∨ 6 < r.kd ∨ r.tx < 0 ∨ 1000 ≤ r.tx) := by
  cases h : inR r with
  | true => have := inR_iff.1 h; simp; omega
  | false =>
    simp
    by_cases k : r.kd < 1 ∨ 6 < r.kd ∨ r.tx < 0 ∨ 1000 ≤ r.tx
    · exact k
    · rw [inR_iff.2 k] at h; cases h
theorem eDo_out {s : Si} {r : Rc} (h : inR r = false) : eDo s r = 2 := by unfold eDo; rw [if_pos (inR_no.1 h)]

/-- A turn whose numbers are such as may stand there. -/
structure TOk (t : Tn) : Prop where
  ok : okP t.own = true
  wf : WfL t.own.ad
  led : RightP t.led
  wl : WfL t.led
  lk : t.lk.length ≤ 5000
/-- What always holds, the numbers and the log's length too. -/
structure Good (s : Si) (log : List Rc) : Prop where
  inv : Inv s
  wf : ∀ o ∈ s.pts, WfL o.2.ad
  lk : s.lk.length ≤ log.length
  ok : ∀ r ∈ log, RcOk r
theorem good0 : Good si0 [] := ⟨inv0, by simp [si0], by simp [si0], by simp⟩
theorem right_len {L : List Dl} (h : RightP L) (hw : WfL L) : L.length ≤ 64 := by rw [← of_self h hw]; exact len_of L
theorem tIn_ok {s : Si} {log : List Rc} (h : Good s log) (hl : log.length ≤ 5000) (r : Rc) : TOk (tIn s r) := by
  refine ⟨?_, ?_, h.inv.right, h.inv.wf, Nat.le_trans h.lk hl⟩
  · show okP ((fnd s.pts r.tx).getD p0) = true
    cases hf : fnd s.pts r.tx with
    | none => decide
    | some p => exact (h.inv.ok _ (fnd_mem hf)).1
  · show WfL ((fnd s.pts r.tx).getD p0).ad
    cases hf : fnd s.pts r.tx with
    | none => intro x hx; simp [p0] at hx
    | some p => exact h.wf _ (fnd_mem hf)
theorem dLoc_keys {p : Pt} (h : okP p = true) : KeysP (dLoc p) := by
  unfold dLoc
  split
  · exact ok_keys h
  · exact keys_nil
theorem keys_opp {L : List Dl} (h : KeysP L) : KeysP (opp L) := by
  intro x hx
  unfold opp at hx
  rw [List.mem_reverse] at hx
  exact keys_neg h x hx
theorem wf_opp {L : List Dl} (h : WfL L) : WfL (opp L) := by
  intro x hx
  unfold opp at hx
  rw [List.mem_reverse] at hx
  exact wf_neg h x hx
theorem dDec_keys {p : Pt} (h : okP p = true) (o : Int) : KeysP (dDec p o) := by
  unfold dDec
  split
  · split
    · split
      · exact keys_nil
      · exact ok_keys h
    · split
      · exact keys_opp (ok_keys h)
      · exact keys_nil
  · exact keys_nil
theorem wf_nil : WfL [] := fun x hx => by simp at hx
theorem dLoc_wf {p : Pt} (h : WfL p.ad) : WfL (dLoc p) := by
  unfold dLoc
  split
  · exact h
  · exact wf_nil
theorem dDec_wf {p : Pt} (h : WfL p.ad) (o : Int) : WfL (dDec p o) := by
  unfold dDec
  split
  · split
    · split
      · exact wf_nil
      · exact h
    · split
      · exact wf_opp h
      · exact wf_nil
  · exact wf_nil
theorem dLoc_len {p : Pt} (h : okP p = true) : (dLoc p).length ≤ 50 := by
  unfold dLoc
  split
  · exact ok_len h
  · simp
theorem dDec_len {p : Pt} (h : okP p = true) (o : Int) : (dDec p o).length ≤ 50 := by
  have := ok_len h
  unfold dDec
  split
  · split
    · split
      · simp
      · exact this
    · split
      · simp [opp]; exact this
      · simp
  · simp
theorem put_yes {L d : List Dl} (h : RightP L) (k : KeysP d) : ePut L d = 0 ∧ sPut L d = ofD (L ++ d) := by
  unfold ePut sPut
  rw [if_pos ⟨h, k⟩, if_pos ⟨h, k⟩]
  exact ⟨rfl, rfl⟩
/-- All steps together are a call. -/
theorem aft_do {s : Si} (h : Inv s) {r : Rc} (hr : inR r = true) : kAft s r = eDo s r := by
  have hr' := inR_iff.1 hr
  unfold kAft
  cases hf : fnd s.pts r.tx with
  | none =>
    unfold eDo
    rw [if_neg hr', hf]
    simp [kBeg]
  | some p =>
    obtain ⟨hok, _, _⟩ := h.ok _ (fnd_mem hf)
    rw [eDo_some hr' hf]
    have ht : tIn s r = ⟨p, s.lk, s.led, 0⟩ := by unfold tIn; rw [hf]; rfl
    rw [ht]
    simp only [Option.isSome_some, kBeg, if_true, Bool.true_eq_false, if_false]
    by_cases k1 : r.kd = 1
    · rw [if_pos k1, if_pos k1]
    · rw [if_neg k1, if_neg k1]
      by_cases k2 : r.kd = 2
      · rw [if_pos k2, if_pos k2]; rfl
      · rw [if_neg k2, if_neg k2]
        by_cases k3 : r.kd = 3
        · rw [if_pos k3, if_pos k3]
          unfold kAdd kHold tHold
          by_cases hs : p.st = 0
          · simp [hs]
          · simp [hs]
        · rw [if_neg k3, if_neg k3]
          by_cases k4 : r.kd = 4
          · rw [if_pos k4, if_pos k4]
          · rw [if_neg k4, if_neg k4]
            by_cases k5 : r.kd = 5
            · rw [if_pos k5, if_pos k5]
              unfold kLoc
              simp only
              split
              · rfl
              · rename_i e
                rw [(put_yes h.right (dLoc_keys hok)).1]
                exact (Classical.not_not.1 e).symm
            · rw [if_neg k5, if_neg k5]
              unfold kDec
              simp only
              split
              · rfl
              · rename_i e
                rw [(put_yes h.right (dDec_keys hok _)).1]
                exact (Classical.not_not.1 e).symm
theorem aft_st {s : Si} (h : Inv s) {r : Rc} (hr : inR r = true) (he : eDo s r = 0) :
    (sDo s r).led = (tAft s r).led ∧ (sDo s r).lk = (tAft s r).lk ∧ nDo s r = (if r.kd = 2 then (tAft s r).sn else 0) ∧ (tAft s r).sn = nDo s r ∧ ∀ x, fnd (sDo s r).pts x = if x = r.tx then some (tAft s r).own else fnd s.pts x := by
  have hr' := inR_iff.1 hr
  cases hf : fnd s.pts r.tx with
  | none =>
    have k1 : r.kd = 1 := by
      have e := he
      unfold eDo at e
      rw [if_neg hr', hf] at e
      by_cases k : r.kd = 1
      · exact k
      · simp [k] at e
    have e1 : sDo s r = ⟨s.led, s.lk, s.pts ++ [(r.tx, p0)]⟩ := by unfold sDo; rw [if_neg (by rw [he]; simp), hf]
    have e2 : tAft s r = ⟨p0, s.lk, s.led, 0⟩ := by unfold tAft tBeg tIn; rw [if_pos k1, hf]; rfl
    have e3 : nDo s r = 0 := by unfold nDo; rw [if_neg (by rw [he]; simp), if_neg (by omega)]
    rw [e1, e2, e3]
    refine ⟨rfl, rfl, by simp, rfl, fun x => ?_⟩
    exact fnd_snoc hf p0 x
  | some p =>
    obtain ⟨hok, _, _⟩ := h.ok _ (fnd_mem hf)
    have he0 := he
    rw [eDo_some hr' hf] at he0
    have ht : tIn s r = ⟨p, s.lk, s.led, 0⟩ := by unfold tIn; rw [hf]; rfl
    rw [sDo_some he hf]
    unfold sDone tAft
    rw [ht, hf]
    simp only [Option.isSome_some, Bool.true_eq_false, if_false]
    have hu : ∀ q x, fnd (upd s.pts r.tx q) x = if x = r.tx then some q else fnd s.pts x := fun q x => fnd_upd q hf x
    have k1 : ¬ r.kd = 1 := fun k => by rw [if_pos k] at he0; cases he0
    rw [if_neg k1] at he0
    rw [if_neg k1]
    by_cases k2 : r.kd = 2
    · rw [if_pos k2] at he0
      have hs : p.st = 0 := by
        by_cases hs : p.st = 0
        · exact hs
        · rw [if_pos hs] at he0; cases he0
      simp only [if_pos k2]
      unfold tRead tHold
      simp only [hs, ne_eq, not_true_eq_false, if_false]
      have e3 : nDo s r = sees s p r.ky := nDo_read he k2 hf
      rw [e3]
      refine ⟨by first | trivial | rfl, by first | trivial | rfl, by first | trivial | rfl, by first | trivial | rfl, fun x => ?_⟩
      by_cases hx : x = r.tx
      · rw [if_pos hx, hx]; exact hf
      · rw [if_neg hx]
    · have e3 : nDo s r = 0 := by unfold nDo; rw [if_neg (by rw [he]; simp), if_neg k2]
      rw [if_neg k2] at he0
      simp only [if_neg k2, e3]
      by_cases k3 : r.kd = 3
      · rw [if_pos k3] at he0
        have hs : p.st = 0 := by
          by_cases hs : p.st = 0
          · exact hs
          · rw [if_pos hs] at he0; cases he0
        simp only [if_pos k3]
        rw [if_neg (by simp [hs])] at he0
        have h9 : eTake s.lk r.tx r.ky true = 0 := by
          by_cases h9 : eTake s.lk r.tx r.ky true = 0
          · exact h9
          · rw [if_pos h9] at he0; exact he0
        unfold tAdd tHold kHold
        simp only [hs, ne_eq, not_true_eq_false, if_false, h9]
        exact ⟨by first | trivial | rfl, by first | trivial | rfl, by first | trivial | rfl, by first | trivial | rfl, fun x => hu _ x⟩
      · rw [if_neg k3] at he0
        simp only [if_neg k3]
        by_cases k4 : r.kd = 4
        · rw [if_pos k4] at he0
          simp only [if_pos k4]
          unfold tVote
          obtain ⟨_, hs⟩ := vote_ok he0
          have e1 : sVote p (decide (r.nn ≠ 0)) = ⟨if decide (r.nn ≠ 0) then 1 else 2, p.ad, p.lo, p.ou⟩ := by unfold sVote; rw [if_pos he0]
          refine ⟨by first | trivial | rfl, ?_, by first | trivial | rfl, by first | trivial | rfl, fun x => hu _ x⟩
          simp only [e1]
          by_cases hn : r.nn = 0
          · simp [hn]
          · simp [hn]
        · rw [if_neg k4] at he0
          simp only [if_neg k4]
          by_cases k5 : r.kd = 5
          · rw [if_pos k5] at he0
            simp only [if_pos k5]
            unfold tLoc tSet
            simp only [he0, ne_eq, not_true_eq_false, if_false]
            exact ⟨(put_yes h.right (dLoc_keys hok)).2.symm, by first | trivial | rfl, by first | trivial | rfl, by first | trivial | rfl, fun x => hu _ x⟩
          · rw [if_neg k5] at he0
            simp only [if_neg k5]
            unfold tDec tSet
            simp only [he0, ne_eq, not_true_eq_false, if_false]
            exact ⟨(put_yes h.right (dDec_keys hok _)).2.symm, by first | trivial | rfl, by first | trivial | rfl, by first | trivial | rfl, fun x => hu _ x⟩
theorem ad_same {p : Pt} (y : Bool) (o : Int) : (sVote p y).ad = p.ad ∧ (sLoc p).ad = p.ad ∧ (sDec p o).ad = p.ad := by
  refine ⟨?_, ?_, ?_⟩
  · unfold sVote; split <;> rfl
  · unfold sLoc; split <;> rfl
  · unfold sDec; split <;> rfl
theorem fre_len (L : List Hd) (t : Int) : (fre L t).length ≤ L.length := (fre_sub L t).length_le
theorem tAft_wf {s : Si} {log : List Rc} (h : Good s log) (r : Rc) (hr : RcOk r) : WfL (tAft s r).own.ad ∧ (tAft s r).lk.length ≤ s.lk.length + 1 := by
  have hw : WfL (tIn s r).own.ad := by
    show WfL ((fnd s.pts r.tx).getD p0).ad
    cases hf : fnd s.pts r.tx with
    | none => intro x hx; simp [p0] at hx
    | some p => exact h.wf _ (fnd_mem hf)
  have hl : (tIn s r).lk = s.lk := rfl
  have gen0 : ∀ t : Tn, t = tIn s r → tAft s r = tBeg t (fnd s.pts r.tx).isSome ∨ tAft s r = t ∨ tAft s r = tRead t r ∨ tAft s r = tAdd t r ∨ tAft s r = tVote t r ∨ tAft s r = tLoc t r ∨ tAft s r = tDec t r := by
    rintro t rfl
    unfold tAft
    split
    · simp
    split
    · simp
    split
    · simp
    split
    · simp
    split
    · simp
    split
    · simp
    · simp
  have gen1 := gen0 _ rfl
  generalize tIn s r = t at hw hl gen1
  have hh : ∀ wr, (tHold t r wr).own = t.own ∧ (tHold t r wr).lk.length ≤ s.lk.length + 1 := fun wr => by
    unfold tHold
    split
    · exact ⟨rfl, by rw [hl]; omega⟩
    · exact ⟨rfl, by rw [hl]; exact sTake_len _ _ _ _⟩
  have hadd : WfL (sAdd t.own ⟨r.ky, r.nn⟩).ad := by
    unfold sAdd
    split
    · exact wf_append hw (fun x hx => by simp at hx; subst hx; exact ⟨hr.ky, hr.nn⟩)
    · exact hw
  have hf : (fre t.lk r.tx).length ≤ s.lk.length := by rw [← hl]; exact fre_len _ _
  have gen : ∀ (q : Tn), q = tBeg t (fnd s.pts r.tx).isSome ∨ q = t ∨ q = tRead t r ∨ q = tAdd t r ∨ q = tVote t r ∨ q = tLoc t r ∨ q = tDec t r → WfL q.own.ad ∧ q.lk.length ≤ s.lk.length + 1 := by
    rintro q (rfl | rfl | rfl | rfl | rfl | rfl | rfl)
    · unfold tBeg
      split
      · exact ⟨hw, by rw [hl]; omega⟩
      · exact ⟨fun x hx => by simp [p0] at hx, by show t.lk.length ≤ _; rw [hl]; omega⟩
    · exact ⟨hw, by rw [hl]; omega⟩
    · unfold tRead
      exact ⟨by show WfL (tHold t r false).own.ad; rw [(hh false).1]; exact hw, (hh false).2⟩
    · unfold tAdd
      split
      · exact ⟨by rw [(hh true).1]; exact hw, (hh true).2⟩
      · exact ⟨by show WfL (sAdd (tHold t r true).own _).ad; rw [(hh true).1]; exact hadd, (hh true).2⟩
    · unfold tVote
      refine ⟨by show WfL (sVote t.own _).ad; rw [(ad_same (p := t.own) _ 0).1]; exact hw, ?_⟩
      show (if _ then fre t.lk r.tx else t.lk).length ≤ _
      split
      · omega
      · rw [hl]; omega
    · unfold tLoc
      split
      · exact ⟨hw, by rw [hl]; omega⟩
      · exact ⟨by show WfL (sLoc t.own).ad; rw [(ad_same (p := t.own) false 0).2.1]; exact hw, by show (fre t.lk r.tx).length ≤ _; omega⟩
    · unfold tDec
      split
      · exact ⟨hw, by rw [hl]; omega⟩
      · exact ⟨by show WfL (sDec t.own _).ad; rw [(ad_same (p := t.own) false _).2.2]; exact hw, by show (fre t.lk r.tx).length ≤ _; omega⟩
  exact gen _ gen1
/-- It holds behind each call. -/
theorem good_do {s : Si} {log : List Rc} (h : Good s log) (r : Rc) (hr : RcOk r) : Good (sDo s r) (if eDo s r = 0 then log ++ [r] else log) := by
  by_cases he : eDo s r = 0
  · rw [if_pos he]
    have hi : inR r = true := by
      cases hi : inR r with
      | true => rfl
      | false => rw [eDo_out hi] at he; cases he
    obtain ⟨_, e2, _, _, e5⟩ := aft_st h.inv hi he
    obtain ⟨w1, w2⟩ := tAft_wf h r hr
    refine ⟨inv_do h.inv r, fun o ho => ?_, by rw [e2, List.length_append]; have := h.lk; simp; omega, fun x hx => ?_⟩
    · have hf := fnd_of (inv_do h.inv r).tx ho
      rw [e5] at hf
      split at hf
      · rw [← Option.some.inj hf]; exact w1
      · exact h.wf _ (fnd_mem hf)
    · rcases List.mem_append.1 hx with hx | hx
      · exact h.ok x hx
      · simp at hx; subst hx; exact hr
  · rw [if_neg he, sDo_err he]
    exact h
end Go.Proofs.Ytealcccjnmfkcaa
