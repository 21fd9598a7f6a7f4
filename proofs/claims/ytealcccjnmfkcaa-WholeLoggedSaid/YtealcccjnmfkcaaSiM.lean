/-
  Plain mathematics: the transactions of one site: a ledger, locks and parts; what each call makes of them; what always holds. No program, no condition but those that each theorem names.
-/
import Derived.Test.YtealcccjnmfkcaaLqN
import Derived.Test.YtealcccjnmfkcaaPtN
set_option linter.unusedVariables false
set_option linter.unusedSimpArgs false
namespace Go.Proofs.Ytealcccjnmfkcaa
open Go.RowKit Go.IntWalk

/-- A call: kind, transaction, key, number. -/
structure Rc where
  kd : Int
  tx : Int
  ky : Int
  nn : Int
/-- A site, without its log. -/
structure Si where
  led : List Dl
  lk : List Hd
  pts : List (Int × Pt)
def p0 : Pt := ⟨0, [], false, 0⟩
def si0 : Si := ⟨[], [], []⟩
def fnd (l : List (Int × Pt)) (tx : Int) : Option Pt := match l with
  | [] => none
  | o :: r => if o.1 = tx then some o.2 else fnd r tx
def upd (l : List (Int × Pt)) (tx : Int) (p : Pt) : List (Int × Pt) := l.map (fun o => if o.1 = tx then (o.1, p) else o)
def outc (n : Int) : Int := if n = 1 ∨ n = 2 then n else 0
/-- What a transaction sees of a key. -/
def sees (s : Si) (p : Pt) (k : Int) : Int := wrap64 (getD s.led k + tot p.ad k)
/-- What a call answers: the number, the error. -/
def eDo (s : Si) (r : Rc) : Int :=
  if r.kd < 1 ∨ 6 < r.kd ∨ r.tx < 0 ∨ 1000 ≤ r.tx then 2 else
  match fnd s.pts r.tx with
  | none => if r.kd = 1 then 0 else 7
  | some p =>
    if r.kd = 1 then 8 else
    if r.kd = 2 then (if p.st ≠ 0 then 13 else eTake s.lk r.tx r.ky false) else
    if r.kd = 3 then (if p.st ≠ 0 then 13 else if eTake s.lk r.tx r.ky true ≠ 0 then eTake s.lk r.tx r.ky true else eAdd p ⟨r.ky, r.nn⟩) else
    if r.kd = 4 then eVote p else
    if r.kd = 5 then eLoc p else eDec p (outc r.nn)
/-- What a call that is done makes of a site whose transaction has part p. -/
def sDone (s : Si) (r : Rc) (p : Pt) : Si :=
  if r.kd = 2 then ⟨s.led, sTake s.lk r.tx r.ky false, s.pts⟩ else
  if r.kd = 3 then ⟨s.led, sTake s.lk r.tx r.ky true, upd s.pts r.tx (sAdd p ⟨r.ky, r.nn⟩)⟩ else
  if r.kd = 4 then ⟨s.led, if r.nn = 0 then fre s.lk r.tx else s.lk, upd s.pts r.tx (sVote p (decide (r.nn ≠ 0)))⟩ else
  if r.kd = 5 then ⟨ofD (s.led ++ dLoc p), fre s.lk r.tx, upd s.pts r.tx (sLoc p)⟩ else
  ⟨ofD (s.led ++ dDec p (outc r.nn)), fre s.lk r.tx, upd s.pts r.tx (sDec p (outc r.nn))⟩
def sDo (s : Si) (r : Rc) : Si :=
  if eDo s r ≠ 0 then s else
  match fnd s.pts r.tx with
  | none => ⟨s.led, s.lk, s.pts ++ [(r.tx, p0)]⟩
  | some p => sDone s r p
def nDo (s : Si) (r : Rc) : Int := if eDo s r ≠ 0 then 0 else if r.kd = 2 then (match fnd s.pts r.tx with | none => 0 | some p => sees s p r.ky) else 0

/-! ### parts by transaction -/
def txsD (l : List (Int × Pt)) : Prop := l.Pairwise (fun a b => a.1 ≠ b.1)
theorem fnd_mem {l : List (Int × Pt)} {tx : Int} {p : Pt} (h : fnd l tx = some p) : (tx, p) ∈ l := by
  induction l with
  | nil => cases h
  | cons o r ih =>
    rw [fnd] at h
    split at h
    · rename_i e
      cases h
      rw [← e]
      exact List.mem_cons_self
    · exact List.mem_cons_of_mem _ (ih h)
theorem fnd_none {l : List (Int × Pt)} {tx : Int} (h : fnd l tx = none) : ∀ o ∈ l, o.1 ≠ tx := by
  induction l with
  | nil => simp
  | cons o r ih =>
    rw [fnd] at h
    split at h
    · cases h
    · rename_i e
      intro q hq
      rcases List.mem_cons.1 hq with rfl | hq
      · exact e
      · exact ih h q hq
theorem fnd_of {l : List (Int × Pt)} (hd : txsD l) {o : Int × Pt} (ho : o ∈ l) : fnd l o.1 = some o.2 := by
  induction l with
  | nil => simp at ho
  | cons q r ih =>
    obtain ⟨h1, h2⟩ := List.pairwise_cons.1 hd
    rw [fnd]
    rcases List.mem_cons.1 ho with rfl | ho
    · rw [if_pos rfl]
    · rw [if_neg (h1 o ho), ih h2 ho]
theorem upd_tx (l : List (Int × Pt)) (tx : Int) (p : Pt) : (upd l tx p).map (·.1) = l.map (·.1) := by
  induction l with
  | nil => rfl
  | cons o r ih =>
    have ih' : (upd r tx p).map (·.1) = r.map (·.1) := ih
    show (if o.1 = tx then (o.1, p) else o).1 :: (upd r tx p).map (·.1) = o.1 :: r.map (·.1)
    rw [ih']
    congr 1
    split <;> rfl
theorem txsD_map {l : List (Int × Pt)} : txsD l ↔ (l.map (·.1)).Pairwise (· ≠ ·) := by
  unfold txsD
  rw [List.pairwise_map]
theorem upd_D {l : List (Int × Pt)} (h : txsD l) (tx : Int) (p : Pt) : txsD (upd l tx p) := by
  rw [txsD_map, upd_tx]
  exact txsD_map.1 h
theorem mem_upd {l : List (Int × Pt)} {tx : Int} {p : Pt} {q : Int × Pt} (h : q ∈ upd l tx p) : (q = (tx, p)) ∨ (q ∈ l ∧ q.1 ≠ tx) := by
  obtain ⟨o, ho, e⟩ := List.mem_map.1 h
  by_cases k : o.1 = tx
  · rw [if_pos k] at e
    exact .inl (by rw [← e, k])
  · rw [if_neg k] at e
    exact .inr ⟨by rw [← e]; exact ho, by rw [← e]; exact k⟩
theorem fnd_upd {l : List (Int × Pt)} {tx : Int} {q : Pt} (p : Pt) (h : fnd l tx = some q) (t : Int) : fnd (upd l tx p) t = if t = tx then some p else fnd l t := by
  induction l with
  | nil => cases h
  | cons o r ih =>
    rw [fnd] at h
    show fnd ((if o.1 = tx then (o.1, p) else o) :: upd r tx p) t = _
    rw [fnd]
    by_cases k : o.1 = tx
    · rw [if_pos k]
      show (if o.1 = t then some p else _) = _
      by_cases e : t = tx
      · rw [if_pos (k.trans e.symm), if_pos e]
      · rw [if_neg (fun x => e (x.symm.trans k)), if_neg e, fnd, if_neg (fun x => e (x.symm.trans k))]
        have : ∀ r : List (Int × Pt), fnd (upd r tx p) t = fnd r t := by
          intro r
          induction r with
          | nil => rfl
          | cons a b ihb =>
            show fnd ((if a.1 = tx then (a.1, p) else a) :: upd b tx p) t = _
            rw [fnd, fnd, ihb]
            by_cases ka : a.1 = tx
            · rw [if_pos ka]
              show (if a.1 = t then some p else _) = _
              rw [if_neg (fun x => e (x.symm.trans ka)), if_neg (fun x => e (x.symm.trans ka))]
            · rw [if_neg ka]
        exact this r
    · rw [if_neg k] at h
      rw [if_neg k, ih h, fnd]
      by_cases e : o.1 = t
      · rw [if_pos e, if_pos e, if_neg (fun x => k (e.trans x))]
      · rw [if_neg e, if_neg e]
theorem fnd_snoc {l : List (Int × Pt)} {tx : Int} (h : fnd l tx = none) (p : Pt) (t : Int) : fnd (l ++ [(tx, p)]) t = if t = tx then some p else fnd l t := by
  induction l with
  | nil =>
    show (if tx = t then some p else none) = _
    by_cases e : t = tx
    · rw [if_pos e.symm, if_pos e]
    · rw [if_neg (fun x => e x.symm), if_neg e]; rfl
  | cons o r ih =>
    rw [fnd] at h
    split at h
    · cases h
    · rename_i k
      rw [List.cons_append, fnd, ih h, fnd]
      by_cases e : o.1 = t
      · rw [if_pos e, if_pos e, if_neg (fun x => k (e.trans x))]
      · rw [if_neg e, if_neg e]

/-! ### what all parts have changed -/
def allE (l : List (Int × Pt)) : List Dl := l.flatMap (fun o => eff o.2)
theorem allE_snoc (l : List (Int × Pt)) (o : Int × Pt) : allE (l ++ [o]) = allE l ++ eff o.2 := by simp [allE]
/-- A part whose effect has more is put in another one's place. -/
theorem num_upd {l : List (Int × Pt)} (hd : txsD l) {tx : Int} {q p : Pt} (h : fnd l tx = some q) {d : List Dl} (he : eff p = eff q ++ d) (k : Int) : tot (allE (upd l tx p)) k = tot (allE l) k + tot d k := by
  induction l with
  | nil => cases h
  | cons o r ih =>
    obtain ⟨h1, h2⟩ := List.pairwise_cons.1 hd
    rw [fnd] at h
    show tot (eff (if o.1 = tx then (o.1, p) else o).2 ++ allE (upd r tx p)) k = tot (eff o.2 ++ allE r) k + tot d k
    rw [tot_append, tot_append]
    by_cases e : o.1 = tx
    · rw [if_pos e] at h
      cases h
      rw [if_pos e]
      have hr : upd r tx p = r := by
        unfold upd
        rw [List.map_congr_left (g := id) (fun x hx => by rw [if_neg (fun k => h1 x hx (e.trans k.symm))]; rfl), List.map_id]
      rw [hr]
      show tot (eff p) k + _ = _
      rw [he, tot_append]
      omega
    · rw [if_neg e] at h
      rw [if_neg e, ih h2 h]
      omega

/-! ### what always holds -/
/-- A part that holds its locks. -/
def keepsB (p : Pt) : Prop := p.st = 0 ∨ p.st = 1 ∧ p.lo = false
structure Inv (s : Si) : Prop where
  led : s.led = ofD (allE s.pts)
  lk : RightK s.lk
  ok : ∀ o ∈ s.pts, okP o.2 = true ∧ 0 ≤ o.1 ∧ o.1 < 1000
  tx : txsD s.pts
  adds : ∀ o ∈ s.pts, keepsB o.2 → ∀ a ∈ o.2.ad, hold s.lk o.1 a.k = 2
theorem Inv.right {s : Si} (h : Inv s) : RightP s.led := by rw [h.led]; exact right_of _
theorem Inv.wf {s : Si} (h : Inv s) : WfL s.led := by rw [h.led]; exact wf_of _
theorem inv0 : Inv si0 := ⟨of_nil.symm, rightK_nil, by simp [si0], List.Pairwise.nil, by simp [si0]⟩

/-! ### locks -/
theorem hold_none {L : List Hd} {t k : Int} (h : ∀ p ∈ L, ¬ (p.k = k ∧ p.t = t)) : hold L t k = 0 := by
  have := hold_append L [] t k (fun p hp => by
    cases e : isH t k p with
    | false => rfl
    | true => exact absurd (isH_iff.1 e) (h p hp))
  rw [List.append_nil] at this
  rw [this]
  rfl
theorem hold_some {L : List Hd} (hR : RightK L) {p : Hd} (hp : p ∈ L) {t k : Int} (hk : p.k = k) (ht : p.t = t) : hold L t k = wv p.w := by
  subst hk ht
  exact hold_of hR hp
/-- What is taken leaves what is held for other keys, and by others. -/
theorem hold_sTake {L : List Hd} (hR : RightK L) (tx key : Int) (wr : Bool) {t k : Int} (hne : t ≠ tx ∨ k ≠ key) : hold (sTake L tx key wr) t k = hold L t k := by
  by_cases he : eTake L tx key wr = 0
  · have hR2 := rightK_take (tx := tx) (key := key) (wr := wr) hR
    rw [sTake_ok he] at hR2 ⊢
    by_cases h : ∃ p ∈ L, p.k = k ∧ p.t = t
    · obtain ⟨p, hp, hk, ht⟩ := h
      have hm : p ∈ putT (ownH L tx key wr) L := by
        refine mem_put.2 (.inr ⟨hp, ?_⟩)
        have : bef p (ownH L tx key wr) ∨ bef (ownH L tx key wr) p ∨ (p.k = (ownH L tx key wr).k ∧ p.t = (ownH L tx key wr).t) := bef_or
        rcases this with h1 | h1 | ⟨h1, h2⟩
        · exact .inl h1
        · exact .inr h1
        · exfalso
          have h1' : p.k = key := h1
          have h2' : p.t = tx := h2
          rcases hne with hne | hne
          · exact hne (ht.symm.trans h2')
          · exact hne (hk.symm.trans h1')
      rw [hold_some hR2 hm hk ht, hold_some hR hp hk ht]
    · rw [hold_none (L := L) (fun p hp e => h ⟨p, hp, e⟩), hold_none]
      intro p hp e
      rcases mem_put.1 hp with rfl | ⟨hp, _⟩
      · have h1 : key = k := e.1
        have h2 : tx = t := e.2
        rcases hne with hne | hne
        · exact hne h2.symm
        · exact hne h1.symm
      · exact h ⟨p, hp, e⟩
  · rw [sTake_err he]
/-- Who holds a key to write still does. -/
theorem two_sTake {L : List Hd} (hR : RightK L) {tx key : Int} {wr : Bool} (he : eTake L tx key wr = 0) {t k : Int} (h : hold L t k = 2) : hold (sTake L tx key wr) t k = 2 := by
  by_cases hne : t ≠ tx ∨ k ≠ key
  · rw [hold_sTake hR tx key wr hne, h]
  · obtain rfl : t = tx := Classical.not_not.1 fun k => hne (.inl k)
    obtain rfl : k = key := Classical.not_not.1 fun k => hne (.inr k)
    rw [hold_take he, h]
    split
    · rfl
    · omega

/-! ### effects -/
theorem eff_vote {p : Pt} (y : Bool) (hok : okP p = true) (h0 : eVote p = 0) : eff (sVote p y) = eff p := by
  obtain ⟨_, hs⟩ := vote_ok h0
  have hl : p.lo = false := by
    cases hp : p.lo with
    | false => rfl
    | true => have := ok_lo hok hp; omega
  have hv : okP (sVote p y) = true := ok_vote y hok
  have e : sVote p y = ⟨if y then 1 else 2, p.ad, p.lo, p.ou⟩ := by unfold sVote; rw [if_pos h0]
  rw [e] at hv ⊢
  rw [eff_other (p := p) (by omega) (by omega)]
  cases y with
  | true => rw [eff_ready hv rfl, hl]; rfl
  | false => exact eff_other (by simp) (by simp)
theorem eff_add {p : Pt} {x : Dl} (h0 : eAdd p x = 0) : eff (sAdd p x) = eff p := by
  obtain ⟨_, _, hs, _⟩ := add_ok h0
  have e : sAdd p x = ⟨p.st, p.ad ++ [x], p.lo, p.ou⟩ := by unfold sAdd; rw [if_pos h0]
  rw [e, eff_other (p := p) (by omega) (by omega)]
  exact eff_other (by show p.st ≠ 1; omega) (by show p.st ≠ 3; omega)
theorem eff_dec {p : Pt} {u : Int} (h0 : eDec p u = 0) : eff (sDec p u) = eff p ++ dDec p u := by
  by_cases h3 : p.st = 3
  · obtain ⟨_, _, h2⟩ := dec_ok h0
    have ho : p.ou = u := by
      rcases h2 with ⟨_, h2⟩ | ⟨h2, _⟩
      · exact h2
      · exact absurd h3 h2
    rw [show sDec p u = p by unfold sDec; rw [if_pos h0, ← ho, ← h3], show dDec p u = [] by unfold dDec; rw [if_neg (fun k => k.2 h3)], List.append_nil]
  · exact (dec_gain h0 h3).2.2

/-! ### it holds behind each call -/
theorem inv_put {s : Si} (h : Inv s) {tx : Int} {q p : Pt} (hf : fnd s.pts tx = some q) (hok : okP p = true) {d : List Dl} (he : eff p = eff q ++ d) {lk : List Hd} (hl : RightK lk)
    (hk : ∀ t k, t ≠ tx → hold s.lk t k = 2 → hold lk t k = 2) (ha : keepsB p → ∀ a ∈ p.ad, hold lk tx a.k = 2) : Inv ⟨ofD (s.led ++ d), lk, upd s.pts tx p⟩ := by
  have hm := fnd_mem hf
  obtain ⟨_, g1, g2⟩ := h.ok _ hm
  refine ⟨?_, hl, fun o ho => ?_, upd_D h.tx _ _, fun o ho hb a hx => ?_⟩
  · show ofD (s.led ++ d) = ofD (allE (upd s.pts tx p))
    rw [h.led, of_left]
    refine of_congr fun i _ => ?_
    unfold num
    rw [num_upd h.tx hf he, tot_append]
  · rcases mem_upd ho with rfl | ⟨ho, _⟩
    · exact ⟨hok, g1, g2⟩
    · exact h.ok o ho
  · rcases mem_upd ho with rfl | ⟨ho, hne⟩
    · exact ha hb a hx
    · exact hk o.1 a.k hne (h.adds o ho hb a hx)
theorem led_nil {s : Si} (h : Inv s) : ofD (s.led ++ []) = s.led := by rw [List.append_nil]; exact of_self h.right h.wf
theorem fre_two {L : List Hd} {tx t k : Int} (hne : t ≠ tx) (h : hold L t k = 2) : hold (fre L tx) t k = 2 := by rw [hold_fre, if_neg hne, h]
theorem inv_do {s : Si} (h : Inv s) (r : Rc) : Inv (sDo s r) := by
  unfold sDo
  by_cases he : eDo s r = 0
  · rw [if_neg (by rw [he]; simp)]
    have he0 := he
    unfold eDo at he
    split at he
    · cases he
    · rename_i hr
      cases hf : fnd s.pts r.tx with
      | none =>
        rw [hf] at he
        refine ⟨?_, h.lk, fun o ho => ?_, ?_, fun o ho hb a hx => ?_⟩
        · show s.led = ofD (allE (s.pts ++ [(r.tx, p0)]))
          rw [allE_snoc, show eff (r.tx, p0).2 = [] from eff_other (p := p0) (by decide) (by decide), List.append_nil]
          exact h.led
        · rcases List.mem_append.1 ho with ho | ho
          · exact h.ok o ho
          · simp at ho
            subst ho
            exact ⟨show okP p0 = true by decide, by show 0 ≤ r.tx; omega, by show r.tx < 1000; omega⟩
        · show txsD (s.pts ++ [(r.tx, p0)])
          unfold txsD
          rw [List.pairwise_append]
          refine ⟨h.tx, List.pairwise_singleton _ _, fun a ha b hb => ?_⟩
          simp at hb
          subst hb
          exact fnd_none hf a ha
        · rcases List.mem_append.1 ho with ho | ho
          · exact h.adds o ho hb a hx
          · simp at ho
            subst ho
            exact absurd hx (by simp [p0])
      | some p =>
        rw [hf] at he
        obtain ⟨hok, _, _⟩ := h.ok _ (fnd_mem hf)
        simp only at he ⊢
        unfold sDone
        split at he
        · cases he
        · rename_i k1
          split at he
          · rename_i k2
            rw [if_pos k2]
            split at he
            · cases he
            · exact ⟨h.led, rightK_take h.lk, h.ok, h.tx, fun o ho hb a hx => two_sTake h.lk he (h.adds o ho hb a hx)⟩
          · rename_i k2
            rw [if_neg k2]
            split at he
            · rename_i k3
              rw [if_pos k3]
              split at he
              · cases he
              · rename_i hs
                split at he
                · rename_i h9; exact absurd he h9
                · rename_i h9
                  have ht : eTake s.lk r.tx r.ky true = 0 := Classical.not_not.1 h9
                  have hp := inv_put h hf (ok_add ⟨r.ky, r.nn⟩ hok) (d := []) (by rw [eff_add he, List.append_nil]) (rightK_take (tx := r.tx) (key := r.ky) (wr := true) h.lk) (fun t k _ hh => two_sTake h.lk ht hh) (fun _ a ha => by
                    rw [show sAdd p ⟨r.ky, r.nn⟩ = ⟨p.st, p.ad ++ [⟨r.ky, r.nn⟩], p.lo, p.ou⟩ by unfold sAdd; rw [if_pos he]] at ha
                    rcases List.mem_append.1 ha with ha | ha
                    · exact two_sTake h.lk ht (h.adds _ (fnd_mem hf) (.inl (Classical.not_not.1 hs)) a ha)
                    · simp at ha
                      subst ha
                      rw [hold_take ht, if_pos rfl])
                  rw [led_nil h] at hp
                  exact hp
            · rename_i k3
              rw [if_neg k3]
              split at he
              · rename_i k4
                rw [if_pos k4]
                obtain ⟨_, hs⟩ := vote_ok he
                have e1 : ∀ y, sVote p y = ⟨if y then 1 else 2, p.ad, p.lo, p.ou⟩ := fun y => by unfold sVote; rw [if_pos he]
                by_cases hn : r.nn = 0
                · rw [if_pos hn]
                  have hp := inv_put h hf (ok_vote (decide (r.nn ≠ 0)) hok) (d := []) (by rw [eff_vote _ hok he, List.append_nil]) (rightK_sub h.lk (fre_sub s.lk r.tx)) (fun t k hne hh => fre_two hne hh) (fun hb => by
                    rw [e1, show decide (r.nn ≠ 0) = false by simp [hn]] at hb
                    rcases hb with hb | ⟨hb, _⟩
                    · exact absurd hb (by simp)
                    · exact absurd hb (by simp))
                  rw [led_nil h] at hp
                  exact hp
                · rw [if_neg hn]
                  have hp := inv_put h hf (ok_vote (decide (r.nn ≠ 0)) hok) (d := []) (by rw [eff_vote _ hok he, List.append_nil]) h.lk (fun t k hne hh => hh) (fun hb a ha => by
                    rw [e1] at ha
                    exact h.adds _ (fnd_mem hf) (.inl hs) a ha)
                  rw [led_nil h] at hp
                  exact hp
              · rename_i k4
                rw [if_neg k4]
                split at he
                · rename_i k5
                  rw [if_pos k5]
                  refine inv_put h hf (ok_loc hok) (loc_gain he).2.2 (rightK_sub h.lk (fre_sub s.lk r.tx)) (fun t k hne hh => fre_two hne hh) (fun hb => ?_)
                  rw [show sLoc p = ⟨p.st, p.ad, true, p.ou⟩ by unfold sLoc; rw [if_pos he]] at hb
                  obtain ⟨_, hs, _⟩ := loc_ok he
                  rcases hb with hb | ⟨_, hb⟩
                  · exact absurd (show p.st = 0 from hb) (by omega)
                  · exact absurd hb (by simp)
                · rename_i k5
                  rw [if_neg k5]
                  refine inv_put h hf (ok_dec _ hok) (eff_dec he) (rightK_sub h.lk (fre_sub s.lk r.tx)) (fun t k hne hh => fre_two hne hh) (fun hb => ?_)
                  rw [show sDec p (outc r.nn) = ⟨3, p.ad, p.lo, outc r.nn⟩ by unfold sDec; rw [if_pos he]] at hb
                  rcases hb with hb | ⟨hb, _⟩
                  · exact absurd hb (by simp)
                  · exact absurd hb (by simp)
  · rw [if_pos he]
    exact h
end Go.Proofs.Ytealcccjnmfkcaa
