/-
  Plain mathematics: what calls of a site come to: sums, logs, what one reads. No program, no condition but those that each theorem names.
-/
import Derived.Test.YtealcccjnmfkcaaSiM
set_option linter.unusedVariables false
set_option linter.unusedSimpArgs false
namespace Go.Proofs.Ytealcccjnmfkcaa
open Go.RowKit Go.IntWalk

/-! ### rows of calls -/
def plays (s : Si) : List Rc → Si
  | [] => s
  | r :: l => plays (sDo s r) l
/-- The calls of a row that are done. -/
def logs (s : Si) : List Rc → List Rc
  | [] => []
  | r :: l => if eDo s r = 0 then r :: logs (sDo s r) l else logs (sDo s r) l
def allOk (s : Si) : List Rc → Prop
  | [] => True
  | r :: l => eDo s r = 0 ∧ allOk (sDo s r) l
theorem sDo_err {s : Si} {r : Rc} (h : eDo s r ≠ 0) : sDo s r = s := by unfold sDo; rw [if_pos h]
theorem nDo_err {s : Si} {r : Rc} (h : eDo s r ≠ 0) : nDo s r = 0 := by unfold nDo; rw [if_pos h]
theorem plays_snoc (s : Si) (l : List Rc) (r : Rc) : plays s (l ++ [r]) = sDo (plays s l) r := by
  induction l generalizing s with
  | nil => rfl
  | cons x l ih => exact ih (sDo s x)
theorem logs_snoc (s : Si) (l : List Rc) (r : Rc) : logs s (l ++ [r]) = logs s l ++ (if eDo (plays s l) r = 0 then [r] else []) := by
  induction l generalizing s with
  | nil =>
    show (if eDo s r = 0 then r :: [] else []) = _
    rfl
  | cons x l ih =>
    rw [List.cons_append]
    show (if eDo s x = 0 then x :: logs (sDo s x) (l ++ [r]) else logs (sDo s x) (l ++ [r])) = (if eDo s x = 0 then x :: logs (sDo s x) l else logs (sDo s x) l) ++ _
    rw [ih (sDo s x)]
    split <;> rfl
/-- A site is made again of its log. -/
theorem again_log (s : Si) (l : List Rc) : plays s (logs s l) = plays s l ∧ allOk s (logs s l) := by
  induction l generalizing s with
  | nil => exact ⟨rfl, trivial⟩
  | cons x l ih =>
    by_cases h : eDo s x = 0
    · show plays s (if eDo s x = 0 then _ else _) = _ ∧ allOk s (if eDo s x = 0 then _ else _)
      rw [if_pos h]
      exact ⟨(ih (sDo s x)).1, h, (ih (sDo s x)).2⟩
    · show plays s (if eDo s x = 0 then _ else _) = plays (sDo s x) l ∧ allOk s (if eDo s x = 0 then _ else _)
      rw [if_neg h, sDo_err h]
      exact ih s
theorem inv_plays {s : Si} (h : Inv s) (l : List Rc) : Inv (plays s l) := by
  induction l generalizing s with
  | nil => exact h
  | cons x l ih => exact ih (inv_do h x)

/-! ### sums -/
theorem get_led {s : Si} (h : Inv s) (k : Int) : getD s.led k = if 0 ≤ k ∧ k < 64 then num (allE s.pts) k else 0 := by rw [h.led]; exact get_of _ k
/-- What all transactions below n have, by their numbers. -/
def byTx (l : List (Int × Pt)) (f : Pt → List Dl) (n : Nat) : List Dl := (List.range n).flatMap (fun t : Nat => match fnd l (t : Int) with | none => [] | some p => f p)
theorem tot_flat_if (n m : Nat) (A : List Dl) (g : Nat → List Dl) (hg : g m = []) (k : Int) : tot ((List.range n).flatMap (fun t => if t = m then A else g t)) k = (if m < n then tot A k else 0) + tot ((List.range n).flatMap g) k := by
  induction n with
  | zero => rfl
  | succ n ih =>
    rw [List.range_succ, List.flatMap_append, List.flatMap_append, tot_append, tot_append, ih]
    simp only [List.flatMap_cons, List.flatMap_nil, List.append_nil]
    by_cases h : n = m
    · subst h
      rw [if_pos rfl, hg, if_neg (by omega), if_pos (by omega)]
      simp [tot]
      omega
    · rw [if_neg h]
      by_cases h2 : m < n
      · rw [if_pos h2, if_pos (by omega)]; omega
      · rw [if_neg h2, if_neg (by omega)]; omega
/-- By transaction, or in the order in which they began: the same sum. -/
theorem tot_byTx {l : List (Int × Pt)} (hd : txsD l) (n : Nat) (hb : ∀ o ∈ l, 0 ≤ o.1 ∧ o.1 < n) (f : Pt → List Dl) (k : Int) : tot (byTx l f n) k = tot (l.flatMap (fun o => f o.2)) k := by
  induction l with
  | nil =>
    have : byTx [] f n = [] := by
      unfold byTx
      rw [List.flatMap_eq_nil_iff]
      intro t _
      rfl
    rw [this]
    rfl
  | cons o r ih =>
    obtain ⟨h1, h2⟩ := List.pairwise_cons.1 hd
    obtain ⟨b1, b2⟩ := hb o (by simp)
    obtain ⟨m, hm⟩ : ∃ m : Nat, o.1 = m := ⟨o.1.toNat, by omega⟩
    have hno : fnd r m = none := by
      cases hf : fnd r (m : Int) with
      | none => rfl
      | some p => exact absurd (hm.trans rfl) (h1 _ (fnd_mem hf))
    have e : byTx (o :: r) f n = (List.range n).flatMap (fun t : Nat => if t = m then f o.2 else (match fnd r (t : Int) with | none => [] | some p => f p)) := by
      unfold byTx
      congr 1
      funext t
      rw [fnd]
      by_cases ht : t = m
      · subst ht
        rw [if_pos hm, if_pos rfl]
      · rw [if_neg (by rw [hm]; omega), if_neg ht]
    rw [e, tot_flat_if n m _ _ (by rw [hno]) k, if_pos (by omega)]
    have := ih h2 (fun q hq => hb q (by simp [hq]))
    unfold byTx at this
    rw [this, List.flatMap_cons, tot_append]
/-- The numbers are the sum of the effects of all parts. -/
theorem site_sums {s : Si} (h : Inv s) (k : Int) : getD s.led k = getD (ofD (byTx s.pts eff 1000)) k := by
  rw [get_led h, get_of]
  split
  · unfold num
    rw [tot_byTx h.tx 1000 (fun o ho => by have := h.ok o ho; omega) eff]
    rfl
  · rfl
def owns (p : Pt) : List Dl := if p.ou = 1 then p.ad else []
theorem done_num {p : Pt} (hok : okP p = true) (h3 : p.st = 3) (k : Int) : num (eff p) k = num (owns p) k := by
  rw [eff_done hok h3]
  unfold owns
  split
  · rfl
  · split
    · rw [num_opp2, num_nil]
    · rfl
theorem num_flat {l : List (Int × Pt)} {f g : Pt → List Dl} (k : Int) (h : ∀ o ∈ l, num (f o.2) k = num (g o.2) k) : num (l.flatMap (fun o => f o.2)) k = num (l.flatMap (fun o => g o.2)) k := by
  induction l with
  | nil => rfl
  | cons o r ih => rw [List.flatMap_cons, List.flatMap_cons, num_append, num_append, h o (by simp), ih (fun q hq => h q (by simp [hq]))]
/-- Where all are decided they are that of the deltas of those that were committed. -/
theorem site_done {s : Si} (h : Inv s) (hd : ∀ o ∈ s.pts, o.2.st = 3) (k : Int) : getD s.led k = getD (ofD (byTx s.pts owns 1000)) k := by
  rw [get_led h, get_of]
  split
  · have e : num (byTx s.pts owns 1000) k = num (s.pts.flatMap (fun o => owns o.2)) k := by
      unfold num
      rw [tot_byTx h.tx 1000 (fun o ho => by have := h.ok o ho; omega) owns]
    rw [e]
    exact num_flat k (fun o ho => done_num (h.ok o ho).1 (hd o ho) k)
  · rfl

/-! ### what one reads -/
theorem hold_get {L : List Hd} {t k : Int} (h : hold L t k ≠ 0) : ∃ p ∈ L, p.k = k ∧ p.t = t ∧ hold L t k = wv p.w := by
  unfold hold at h ⊢
  cases e : L.find? (isH t k) with
  | none => rw [e] at h; exact absurd rfl h
  | some p =>
    rw [e] at h
    obtain ⟨h1, h2⟩ := isH_iff.1 (List.find?_some e)
    exact ⟨p, List.mem_of_find?_eq_some e, h1, h2, rfl⟩
/-- Whoever holds a key to write is alone. -/
theorem alone {L : List Hd} (hR : RightK L) {t u k : Int} (h2 : hold L t k = 2) (hne : u ≠ t) : hold L u k = 0 := by
  by_cases h : hold L u k = 0
  · exact h
  · obtain ⟨p, hp, k1, t1, _⟩ := hold_get h
    obtain ⟨q, hq, k2, t2, e2⟩ := hold_get (by rw [h2]; omega : hold L t k ≠ 0)
    have hw : q.w = true := by
      cases hq' : q.w with
      | true => rfl
      | false => rw [h2, hq'] at e2; simp [wv] at e2
    have := (rightK_cl hR hp hq (by rw [t1, t2]; exact hne) (by rw [k1, k2])).2
    rw [hw] at this
    cases this
/-- Who holds a key can take it again to read. -/
theorem take_own {L : List Hd} (hR : RightK L) {t k : Int} (h : hold L t k ≠ 0) : eTake L t k false = 0 := by
  obtain ⟨p, hp, k1, t1, _⟩ := hold_get h
  obtain ⟨o1, o2, o3⟩ := hR.1 p hp
  refine eTake_ok.2 ⟨hR, by rw [← k1, ← t1]; exact ⟨o1, o2, o3⟩, fun q hq => ?_⟩
  cases hw : way t k false q with
  | false => rfl
  | true =>
    obtain ⟨w1, w2, w3⟩ := way_iff.1 hw
    have hqw : q.w = true := w3.resolve_right (by simp)
    have := (rightK_cl hR hp hq (by rw [t1]; exact fun e => w2 e.symm) (by rw [k1, w1])).2
    rw [hqw] at this
    cases this
theorem eDo_some {s : Si} {r : Rc} {p : Pt} (hr : ¬ (r.kd < 1 ∨ 6 < r.kd ∨ r.tx < 0 ∨ 1000 ≤ r.tx)) (hf : fnd s.pts r.tx = some p) : eDo s r =
    if r.kd = 1 then 8 else
    if r.kd = 2 then (if p.st ≠ 0 then 13 else eTake s.lk r.tx r.ky false) else
    if r.kd = 3 then (if p.st ≠ 0 then 13 else if eTake s.lk r.tx r.ky true ≠ 0 then eTake s.lk r.tx r.ky true else eAdd p ⟨r.ky, r.nn⟩) else
    if r.kd = 4 then eVote p else
    if r.kd = 5 then eLoc p else eDec p (outc r.nn) := by
  unfold eDo
  rw [if_neg hr, hf]
theorem sDo_some {s : Si} {r : Rc} {p : Pt} (he : eDo s r = 0) (hf : fnd s.pts r.tx = some p) : sDo s r = sDone s r p := by
  unfold sDo
  rw [if_neg (by rw [he]; simp), hf]
theorem nDo_read {s : Si} {r : Rc} {p : Pt} (he : eDo s r = 0) (h2 : r.kd = 2) (hf : fnd s.pts r.tx = some p) : nDo s r = sees s p r.ky := by
  unfold nDo
  rw [if_neg (by rw [he]; simp), if_pos h2, hf]
/-- One that runs, and holds a key. -/
structure Runs (s : Si) (tx key : Int) (p : Pt) : Prop where
  at_ : fnd s.pts tx = some p
  st : p.st = 0
  hold : hold s.lk tx key ≠ 0
theorem read_done {s : Si} {tx key n : Int} {p : Pt} (he : eDo s ⟨2, tx, key, n⟩ = 0) (hf : fnd s.pts tx = some p) : sDo s ⟨2, tx, key, n⟩ = ⟨s.led, sTake s.lk tx key false, s.pts⟩ := by
  rw [sDo_some (p := p) he hf]
  unfold sDone
  rw [if_pos rfl]
theorem read_runs {s : Si} {tx key n : Int} {p : Pt} (he : eDo s ⟨2, tx, key, n⟩ = 0) (hf : fnd s.pts tx = some p) (hs : p.st = 0) (ht : eTake s.lk tx key false = 0) : nDo s ⟨2, tx, key, n⟩ = sees s p key ∧ Runs (sDo s ⟨2, tx, key, n⟩) tx key p ∧ (sDo s ⟨2, tx, key, n⟩).led = s.led := by
  rw [read_done he hf]
  refine ⟨nDo_read he rfl hf, ⟨hf, hs, ?_⟩, rfl⟩
  show Go.Proofs.Ytealcccjnmfkcaa.hold (sTake s.lk tx key false) tx key ≠ 0
  rw [hold_take ht]
  simp
  omega
theorem Runs.read {s : Si} (h : Inv s) {tx key : Int} {p : Pt} (hr : Runs s tx key p) (n : Int) : eDo s ⟨2, tx, key, n⟩ = 0 ∧ nDo s ⟨2, tx, key, n⟩ = sees s p key ∧ Runs (sDo s ⟨2, tx, key, n⟩) tx key p ∧ (sDo s ⟨2, tx, key, n⟩).led = s.led := by
  obtain ⟨_, g1, g2⟩ := h.ok _ (fnd_mem hr.at_)
  have g1' : 0 ≤ tx := g1
  have g2' : tx < 1000 := g2
  have ht := take_own h.lk hr.hold
  have he : eDo s ⟨2, tx, key, n⟩ = 0 := by
    rw [eDo_some (p := p) (by show ¬ ((2 : Int) < 1 ∨ 6 < (2 : Int) ∨ tx < 0 ∨ 1000 ≤ tx); omega) hr.at_]
    rw [if_neg (by show ¬ (2 : Int) = 1; omega), if_pos rfl, if_neg (by rw [hr.st]; simp)]
    exact ht
  exact ⟨he, read_runs he hr.at_ hr.st ht⟩
/-- Whoever has read runs, and holds the key. -/
theorem runs_of {s : Si} {tx key n : Int} (he : eDo s ⟨2, tx, key, n⟩ = 0) : ∃ p, fnd s.pts tx = some p ∧ nDo s ⟨2, tx, key, n⟩ = sees s p key ∧ Runs (sDo s ⟨2, tx, key, n⟩) tx key p ∧ (sDo s ⟨2, tx, key, n⟩).led = s.led := by
  have hr : ¬ ((2 : Int) < 1 ∨ 6 < (2 : Int) ∨ tx < 0 ∨ 1000 ≤ tx) := fun k => by
    have he' := he
    unfold eDo at he'
    rw [if_pos k] at he'
    cases he'
  cases hf : fnd s.pts tx with
  | none =>
    exfalso
    have he' := he
    unfold eDo at he'
    rw [if_neg hr, show fnd s.pts (Rc.tx ⟨2, tx, key, n⟩) = none from hf] at he'
    simp only at he'
    rw [if_neg (by omega)] at he'
    cases he'
  | some p =>
    have he' := he
    rw [eDo_some (p := p) hr hf, if_neg (by show ¬ (2 : Int) = 1; omega), if_pos rfl] at he'
    split at he'
    · cases he'
    · rename_i hs
      exact ⟨p, rfl, read_runs he hf (Classical.not_not.1 hs) he'⟩

/-! ### what others do -/
theorem get_same {L d : List Dl} (hR : RightP L) (hw : WfL L) {k : Int} (h0 : num d k = 0) : getD (ofD (L ++ d)) k = getD L k := by
  rw [get_of]
  split
  · rw [num_append, h0, Int.add_zero, get_num hR.2 hw]
    exact wrap_wrap _
  · rename_i e
    exact (get_out hR hw e).symm
/-- What another one has added where one holds a key is of other keys. -/
theorem adds_miss {s : Si} (h : Inv s) {tx t key : Int} {q : Pt} (hf : fnd s.pts t = some q) (hb : keepsB q) (hne : t ≠ tx) (hh : hold s.lk tx key ≠ 0) : num q.ad key = 0 := by
  unfold num
  rw [tot_miss, wrap_zero]
  intro a ha e
  have h2 := h.adds _ (fnd_mem hf) hb a ha
  rw [e] at h2
  exact hh (alone h.lk h2 (fun x => hne x.symm))
theorem hold_keep {s : Si} (h : Inv s) {tx key : Int} (hh : hold s.lk tx key ≠ 0) (t k : Int) (w : Bool) (he : eTake s.lk t k w = 0) : hold (sTake s.lk t k w) tx key ≠ 0 := by
  by_cases hne : tx ≠ t ∨ key ≠ k
  · rw [hold_sTake h.lk t k w hne]; exact hh
  · obtain rfl : tx = t := Classical.not_not.1 fun x => hne (.inl x)
    obtain rfl : key = k := Classical.not_not.1 fun x => hne (.inr x)
    rw [hold_take he]
    split
    · omega
    · omega
theorem keep_step {s : Si} (h : Inv s) {tx key : Int} {p : Pt} (hr : Runs s tx key p) (r : Rc) (hx : r.tx ≠ tx ∨ r.kd = 2) (hl : r.kd = 6 → ∀ q, fnd s.pts r.tx = some q → q.lo = false) : Runs (sDo s r) tx key p ∧ getD (sDo s r).led key = getD s.led key := by
  by_cases he : eDo s r = 0
  · have hin : ¬ (r.kd < 1 ∨ 6 < r.kd ∨ r.tx < 0 ∨ 1000 ≤ r.tx) := fun k => by
      have he' := he
      unfold eDo at he'
      rw [if_pos k] at he'
      cases he'
    cases hf : fnd s.pts r.tx with
    | none =>
      have e : sDo s r = ⟨s.led, s.lk, s.pts ++ [(r.tx, p0)]⟩ := by
        unfold sDo
        rw [if_neg (by rw [he]; simp), hf]
      rw [e]
      refine ⟨⟨?_, hr.st, hr.hold⟩, rfl⟩
      show fnd (s.pts ++ [(r.tx, p0)]) tx = some p
      rw [fnd_snoc hf, if_neg (fun x => by rw [← x, hr.at_] at hf; cases hf)]
      exact hr.at_
    | some q =>
      have he1 := he
      rw [eDo_some hin hf] at he1
      rw [sDo_some he hf]
      unfold sDone
      split at he1
      · cases he1
      · split at he1
        · rename_i k2
          rw [if_pos k2]
          split at he1
          · cases he1
          · exact ⟨⟨hr.at_, hr.st, hold_keep h hr.hold _ _ _ he1⟩, rfl⟩
        · rename_i k2
          rw [if_neg k2]
          have hne : r.tx ≠ tx := hx.resolve_right k2
          have hfu : ∀ q', fnd (upd s.pts r.tx q') tx = some p := fun q' => by
            rw [fnd_upd q' hf, if_neg (fun x => hne x.symm)]
            exact hr.at_
          have hfr : hold (fre s.lk r.tx) tx key ≠ 0 := by
            rw [hold_fre, if_neg (fun x => hne x.symm)]
            exact hr.hold
          split at he1
          · rename_i k3
            rw [if_pos k3]
            split at he1
            · cases he1
            · split at he1
              · rename_i h9; exact absurd he1 h9
              · rename_i h9
                exact ⟨⟨hfu _, hr.st, hold_keep h hr.hold _ _ _ (Classical.not_not.1 h9)⟩, rfl⟩
          · rename_i k3
            rw [if_neg k3]
            split at he1
            · rename_i k4
              rw [if_pos k4]
              refine ⟨⟨hfu _, hr.st, ?_⟩, rfl⟩
              show Go.Proofs.Ytealcccjnmfkcaa.hold (if r.nn = 0 then fre s.lk r.tx else s.lk) tx key ≠ 0
              split
              · exact hfr
              · exact hr.hold
            · rename_i k4
              rw [if_neg k4]
              split at he1
              · rename_i k5
                rw [if_pos k5]
                refine ⟨⟨hfu _, hr.st, hfr⟩, get_same h.right h.wf ?_⟩
                obtain ⟨_, hs, hlo⟩ := loc_ok he1
                rw [show dLoc q = q.ad by unfold dLoc; rw [if_pos he1]]
                exact adds_miss h hf (.inr ⟨hs, hlo⟩) hne hr.hold
              · rename_i k5
                rw [if_neg k5]
                refine ⟨⟨hfu _, hr.st, hfr⟩, get_same h.right h.wf ?_⟩
                have hlo := hl (by omega) q hf
                unfold dDec
                split
                · rename_i hd
                  rw [hlo]
                  simp only [Bool.false_eq_true, if_false]
                  split
                  · rename_i h1
                    obtain ⟨_, _, h3⟩ := dec_ok he1
                    have hs : q.st = 1 := by
                      rcases h3 with ⟨h3, _⟩ | ⟨_, h3⟩
                      · exact absurd h3 hd.2
                      · exact h3 h1
                    exact adds_miss h hf (.inr ⟨hs, hlo⟩) hne hr.hold
                  · exact num_nil _
                · exact num_nil _
  · rw [sDo_err he]
    exact ⟨hr, rfl⟩
/-- One that adds to a key reads it afterwards. -/
theorem own_add {s : Si} (h : Inv s) {tx key : Int} {p : Pt} (hr : Runs s tx key p) (by_ : Int) (he : eDo s ⟨3, tx, key, by_⟩ = 0) : ∃ q, Runs (sDo s ⟨3, tx, key, by_⟩) tx key q ∧ sees (sDo s ⟨3, tx, key, by_⟩) q key = wrap64 (sees s p key + by_) := by
  have hin : ¬ ((3 : Int) < 1 ∨ 6 < (3 : Int) ∨ tx < 0 ∨ 1000 ≤ tx) := fun k => by
    have he' := he
    unfold eDo at he'
    rw [if_pos k] at he'
    cases he'
  have he1 := he
  rw [eDo_some (p := p) hin hr.at_, if_neg (by show ¬ (3 : Int) = 1; omega), if_neg (by show ¬ (3 : Int) = 2; omega), if_pos rfl, if_neg (by rw [hr.st]; simp)] at he1
  split at he1
  · rename_i h9; exact absurd he1 h9
  · rename_i h9
    have ht : eTake s.lk tx key true = 0 := Classical.not_not.1 h9
    have e : sDo s ⟨3, tx, key, by_⟩ = ⟨s.led, sTake s.lk tx key true, upd s.pts tx (sAdd p ⟨key, by_⟩)⟩ := by
      rw [sDo_some (p := p) he hr.at_]
      unfold sDone
      rw [if_neg (by show ¬ (3 : Int) = 2; omega), if_pos rfl]
    have ea : sAdd p ⟨key, by_⟩ = ⟨p.st, p.ad ++ [⟨key, by_⟩], p.lo, p.ou⟩ := by unfold sAdd; rw [if_pos he1]
    refine ⟨sAdd p ⟨key, by_⟩, ?_, ?_⟩
    · rw [e]
      refine ⟨?_, by rw [ea]; exact hr.st, hold_keep h hr.hold _ _ _ ht⟩
      show fnd (upd s.pts tx (sAdd p ⟨key, by_⟩)) tx = _
      rw [fnd_upd _ hr.at_, if_pos rfl]
    · rw [e, ea]
      unfold sees
      show wrap64 (getD s.led key + tot (p.ad ++ [⟨key, by_⟩]) key) = _
      rw [tot_append, wrap_left]
      simp only [tot, if_true, Int.add_zero]
      congr 1
      omega
/-- What one has added to nobody else reads or adds to. -/
theorem other_lock {s : Si} (h : Inv s) {a b key : Int} {q : Pt} (h2 : hold s.lk a key = 2) (hne : a ≠ b) (hf : fnd s.pts b = some q) (hs : q.st = 0) (hk : key < 64) (w : Bool) : eTake s.lk b key w = 9 := by
  obtain ⟨p, hp, k1, t1, e1⟩ := hold_get (by rw [h2]; omega : hold s.lk a key ≠ 0)
  obtain ⟨_, g1, g2⟩ := h.ok _ (fnd_mem hf)
  refine eTake_lock.2 ⟨h.lk, ⟨hk, g1, g2⟩, p, hp, way_iff.2 ⟨k1, by rw [t1]; exact hne, .inl ?_⟩⟩
  cases hw : p.w with
  | true => rfl
  | false => rw [h2, hw] at e1; simp [wv] at e1
theorem free_take {s : Si} (h : Inv s) {a b key : Int} {q : Pt} (h2 : hold s.lk a key = 2) (hf : fnd s.pts b = some q) (hk : key < 64) : eTake (fre s.lk a) b key false = 0 := by
  obtain ⟨_, g1, g2⟩ := h.ok _ (fnd_mem hf)
  refine eTake_ok.2 ⟨rightK_sub h.lk (fre_sub _ _), ⟨hk, g1, g2⟩, fun p hp => ?_⟩
  cases hw : way b key false p with
  | false => rfl
  | true =>
    obtain ⟨w1, _, _⟩ := way_iff.1 hw
    obtain ⟨hp1, hp2⟩ := mem_fre.1 hp
    have h0 := alone h.lk h2 hp2
    rw [hold_some h.lk hp1 w1 rfl] at h0
    cases hpw : p.w <;> rw [hpw] at h0 <;> simp [wv] at h0
end Go.Proofs.Ytealcccjnmfkcaa
