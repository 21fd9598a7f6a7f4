/-
  A play of layer 12 in memory: four sides, the messages that were said, the cargo, and the map of those that held an epoch. No condition but what each theorem names.
-/
import Derived.Test.YtmghckddofefkaaHaJ
import Derived.Test.YtmghckddofefkaaHaN
import Derived.Test.YtmghckddofefkaaCellM
import Derived.Sort.MapsRangeIn
import Derived.Maps.OwnIn
import Derived.Maps.OwnOps
set_option linter.unusedVariables false
set_option linter.unusedSimpArgs false
namespace Go.Proofs.Ytmghckddofefkaa
open Go.RowKit Go.Maps

/-! ### the map -/
theorem tightH {H : Type} {P : Program} {k : TypeId} {R : Value → Option (DataW H × List MemPlace)} {w : World} {b n : Nat} {D : DataW H} (h : w.ownsMap P k R b n D) : w.ownsMap P k R b (Maps.size D) D := by
  obtain ⟨es, clock, hb, F, hs, rfl⟩ := h
  exact ⟨es, clock, hb, F, by simp [Maps.size, length_sorted], rfl⟩
theorem lawH : Keyed Try.prog 3 := int_keyed Try.underlying3
def dH (v : Int) : DataW Unit := (DataW.lit (Lit.int .u8 v))
theorem zeroH (w : World) : (zeroValue 5).run Try.prog w = .ok (Value.int .u8 0) w := by kernel_rfl
theorem dH_inj {a b : Int} (h : dH a = dH b) : a = b := by
  unfold dH at h
  simpa using h
theorem valH {v : Int} (h : ((Lit.int .u8 v).wf = true)) : plainElem Try.prog 5 (Value.int .u8 v) = some (dH v, []) := plainElem_int Try.underlying5 h
theorem zeroH_ok : ((Lit.int .u8 0).wf = true) := by decide
/-- Block b is a map that reads as M. -/
def MH (w : World) (b : Nat) (M : List (Int × Int)) : Prop := w.ownsMap Try.prog 3 (plainElem Try.prog 5) b M.length (dat .i64 dH M) ∧ Srt M
section
variable {w w' : World} {b : Nat} {M : List (Int × Int)}
theorem MH.lt (h : MH w b M) : b < w.heap.size := h.1.lt
theorem MH.is (h : MH w b M) : ∃ es cl, w.heap[b]? = some (.map es cl) := by
  obtain ⟨es, clock, hb, _⟩ := h.1
  exact ⟨es, clock, hb⟩
theorem MH.same (h : MH w b M) (e : w'.heap[b]? = w.heap[b]?) : MH w' b M := by
  obtain ⟨⟨es, clock, hb, r⟩, hs⟩ := h
  exact ⟨⟨es, clock, e.trans hb, r⟩, hs⟩
theorem MH.drewN (h : MH w b M) (n : Nat) : MH (w.drewN n) b M := h
theorem MH.drew (h : MH w b M) : MH w.drew b M := h
theorem MH.on (h : MH w b M) (hb : Below w.heap.size w w') : MH w' b M := h.same (hb.block b h.lt)
theorem MH.made (w : World) : MH (w.alloc (.map #[] 0)) w.heap.size [] := ⟨World.ownsMap_made w _ _ _, srt_nil⟩
theorem MH.ne (h : MH w b M) {g : Nat} {t : TypeId} {cs : Array Value} {fr : Nat × Nat} (hc : w.heap[g]? = some (.cells cs t fr)) : g ≠ b := by
  rintro rfl
  obtain ⟨es, cl, hb⟩ := h.is
  rw [hc] at hb
  cases hb
theorem MH.far (h : MH w b M) {p : Addr} (hp : b ≠ p.block) (u : Value) : MH (w.setCell p u) b M := h.same (Below.heap_setCell w p u b hp)
theorem MH.look (h : MH w b M) {k : Int} (hk : (Lit.int .i64 k).wf = true) :
    (Instr.lookup 63 (.map (some b)) (.int .i64 k) true).run Try.prog w = .ok (.tuple #[.int .u8 ((getL M k).getD 0), .bool (hasL M k)]) w := by
  obtain ⟨v, ps, hrun, hv⟩ := h.1.look_ok lawH Try.underlying63 (zeroH w) (valH zeroH_ok) (keyOf_int_mk Try.underlying3 hk)
  rw [dat_has] at hrun
  obtain ⟨c, rfl, hc, _⟩ := plainElem_int_inv Try.underlying5 hv
  rw [hrun]
  have e : dH ((getL M k).getD 0) = dH c := by
    have := congrArg Prod.fst hc
    simp only [dat_at] at this
    unfold dH
    rw [← this]
    cases getL M k <;> rfl
  rw [dH_inj e]
theorem MH.store (h : MH w b M) (hn : M.length < maxLen) {k : Int} (hk : (Lit.int .i64 k).wf = true) {v : Int} (hv : ((Lit.int .u8 v).wf = true)) :
    ∃ w', (Instr.mapUpdate 63 (.map (some b)) (.int .i64 k) (Value.int .u8 v)).run Try.prog w = .ok () w' ∧ MH w' b (putL M k v) ∧ w.mapTurned w' b := by
  obtain ⟨w', hrun, ho, ht⟩ := h.1.store lawH Try.underlying63 hn (keyOf_int_mk Try.underlying3 hk) (valH hv)
  rw [dat_put] at ho
  have := tightH ho
  rw [dat_size] at this
  exact ⟨w', hrun, ⟨this, h.2.put k v⟩, ht⟩
end

/-! ### the sides -/
def sdc (s : Sd) (i : Nat) : Value := if i = 0 then .int .u8 s.me else if i = 1 then .int .i64 s.l.ep else if i = 2 then .int .i64 s.l.st else if i = 3 then .int .u8 s.l.to else if i = 4 then .string s.cg else .bool s.kp
def plc (S : Nat → Sd) (sv : Value) (c : ByteArray) (bm : Nat) (i : Nat) : Value := if i < 24 then sdc (S (i / 6)) (i % 6) else if i = 24 then sv else if i = 25 then .string c else .map (some bm)
/-- Block P is a play: its sides, the value of the slice, the cargo, the map's block. -/
def PM (w : World) (P : Nat) (S : Nat → Sd) (sv : Value) (c : ByteArray) (bm : Nat) : Prop := AN w P 65 27 (plc S sv c bm)
theorem AN.congrP {w : World} {g : Nat} {t : TypeId} {N : Nat} {f f' : Nat → Value} (h : AN w g t N f) (e : ∀ j, j < N → f j = f' j) : AN w g t N f' := by
  obtain ⟨cs, h1, h2, h3⟩ := h
  exact ⟨cs, h1, h2, fun i hi => by rw [h3 i hi, e i hi]⟩
section
variable {w w' : World} {P : Nat} {S : Nat → Sd} {sv : Value} {c : ByteArray} {bm : Nat}
theorem PM.lt (h : PM w P S sv c bm) : P < w.heap.size := AN.lt h
theorem PM.on (h : PM w P S sv c bm) (hb : Below w.heap.size w w') : PM w' P S sv c bm := AN.same h (hb.block _ (AN.lt h))
theorem PM.froz (h : PM w P S sv c bm) (i : Nat) : w.frozen? ⟨P, i, none⟩ = false := AN.frozen h i
theorem PM.block (h : PM w P S sv c bm) : ∃ cs, w.heap[P]? = some (.cells cs 65 (0, 0)) := by
  obtain ⟨cs, h1, _⟩ := h
  exact ⟨cs, h1⟩
theorem PM.ne (h : PM w P S sv c bm) {g : Nat} {T : TypeId} {cs : Array Value} (hc : CB w g T cs) (hT : 65 ≠ T) : g ≠ P := by
  obtain ⟨cs', h1, _⟩ := h
  exact fun e => CB.ne_ h1 hc hT e.symm
theorem PM.side (h : PM w P S sv c bm) {k : Nat} (hk : k < 4) : w.cell? ⟨P, k * 6, none⟩ = some (.int .u8 (S k).me) ∧ w.cell? ⟨P, k * 6 + 1, none⟩ = some (.int .i64 (S k).l.ep) ∧ w.cell? ⟨P, k * 6 + 2, none⟩ = some (.int .i64 (S k).l.st) ∧ w.cell? ⟨P, k * 6 + 3, none⟩ = some (.int .u8 (S k).l.to) ∧ w.cell? ⟨P, k * 6 + 4, none⟩ = some (.string (S k).cg) ∧ w.cell? ⟨P, k * 6 + 5, none⟩ = some (.bool (S k).kp) := by
  have key : ∀ j, j < 6 → w.cell? ⟨P, k * 6 + j, none⟩ = some (sdc (S k) j) := by
    intro j hj
    rw [AN.cell h (i := k * 6 + j) (by omega)]
    unfold plc
    rw [if_pos (by omega), show (k * 6 + j) / 6 = k by omega, show (k * 6 + j) % 6 = j by omega]
  exact ⟨key 0 (by omega), key 1 (by omega), key 2 (by omega), key 3 (by omega), key 4 (by omega), key 5 (by omega)⟩
theorem PM.rest (h : PM w P S sv c bm) : w.cell? ⟨P, 24, none⟩ = some sv ∧ w.cell? ⟨P, 25, none⟩ = some (.string c) ∧ w.cell? ⟨P, 26, none⟩ = some (.map (some bm)) :=
  ⟨AN.cell h (i := 24) (by omega), AN.cell h (i := 25) (by omega), AN.cell h (i := 26) (by omega)⟩
/-- A whole side is stored. -/
theorem PM.putS (h : PM w P S sv c bm) {k : Nat} (hk : k < 4) (s : Sd) :
    PM ((((((w.setCell ⟨P, k * 6, none⟩ (.int .u8 s.me)).setCell ⟨P, k * 6 + 1, none⟩ (.int .i64 s.l.ep)).setCell ⟨P, k * 6 + 2, none⟩ (.int .i64 s.l.st)).setCell ⟨P, k * 6 + 3, none⟩ (.int .u8 s.l.to)).setCell ⟨P, k * 6 + 4, none⟩ (.string s.cg)).setCell ⟨P, k * 6 + 5, none⟩ (.bool s.kp)) P (updS S k s) sv c bm := by
  have h0 := AN.put h (i := k * 6) (by omega) (.int .u8 s.me) (f' := fun j => if j = k * 6 then .int .u8 s.me else plc S sv c bm j) (fun _ _ => rfl)
  have h1 := AN.put h0 (i := k * 6 + 1) (by omega) (.int .i64 s.l.ep) (f' := fun j => if j = k * 6 + 1 then .int .i64 s.l.ep else if j = k * 6 then .int .u8 s.me else plc S sv c bm j) (fun _ _ => rfl)
  have h2 := AN.put h1 (i := k * 6 + 2) (by omega) (.int .i64 s.l.st) (f' := fun j => if j = k * 6 + 2 then .int .i64 s.l.st else if j = k * 6 + 1 then .int .i64 s.l.ep else if j = k * 6 then .int .u8 s.me else plc S sv c bm j) (fun _ _ => rfl)
  have h3 := AN.put h2 (i := k * 6 + 3) (by omega) (.int .u8 s.l.to) (f' := fun j => if j = k * 6 + 3 then .int .u8 s.l.to else if j = k * 6 + 2 then .int .i64 s.l.st else if j = k * 6 + 1 then .int .i64 s.l.ep else if j = k * 6 then .int .u8 s.me else plc S sv c bm j) (fun _ _ => rfl)
  have h4 := AN.put h3 (i := k * 6 + 4) (by omega) (.string s.cg) (f' := fun j => if j = k * 6 + 4 then .string s.cg else if j = k * 6 + 3 then .int .u8 s.l.to else if j = k * 6 + 2 then .int .i64 s.l.st else if j = k * 6 + 1 then .int .i64 s.l.ep else if j = k * 6 then .int .u8 s.me else plc S sv c bm j) (fun _ _ => rfl)
  have h5 := AN.put h4 (i := k * 6 + 5) (by omega) (.bool s.kp) (f' := fun j => if j = k * 6 + 5 then .bool s.kp else if j = k * 6 + 4 then .string s.cg else if j = k * 6 + 3 then .int .u8 s.l.to else if j = k * 6 + 2 then .int .i64 s.l.st else if j = k * 6 + 1 then .int .i64 s.l.ep else if j = k * 6 then .int .u8 s.me else plc S sv c bm j) (fun _ _ => rfl)
  refine AN.congrP h5 fun j hj => ?_
  clear h0 h1 h2 h3 h4 h5
  by_cases e : j / 6 = k
  · obtain ⟨i, hi, rfl⟩ : ∃ i, i < 6 ∧ j = k * 6 + i := ⟨j % 6, by omega, by omega⟩
    have r : plc (updS S k s) sv c bm (k * 6 + i) = sdc s i := by
      unfold plc
      rw [if_pos (by omega), show (k * 6 + i) / 6 = k by omega, show (k * 6 + i) % 6 = i by omega, updS_same]
    rw [r]
    match i, hi with
    | 0, _ => simp [sdc]
    | 1, _ => simp [sdc]
    | 2, _ => simp [sdc]
    | 3, _ => simp [sdc]
    | 4, _ => simp [sdc]
    | 5, _ => simp [sdc]
    | i + 6, h => omega
  · rw [if_neg (by omega), if_neg (by omega), if_neg (by omega), if_neg (by omega), if_neg (by omega), if_neg (by omega)]
    unfold plc
    by_cases h24 : j < 24
    · rw [if_pos h24, if_pos h24, updS_other _ _ e]
    · rw [if_neg h24, if_neg h24]
theorem PM.putV (h : PM w P S sv c bm) (sv' : Value) : PM (w.setCell ⟨P, 24, none⟩ sv') P S sv' c bm :=
  AN.put h (i := 24) (by omega) sv' (fun j hj => by
    by_cases e : j = 24
    · subst e
      rfl
    · rw [show (if j = 24 then sv' else plc S sv c bm j) = plc S sv c bm j from if_neg e]
      unfold plc
      by_cases e1 : j < 24
      · rw [if_pos e1, if_pos e1]
      · rw [if_neg e1, if_neg e1]
        simp only [if_neg e])
theorem PM.put4 (h : PM w P S sv c bm) {k : Nat} (hk : k < 4) (c' : ByteArray) : PM (w.setCell ⟨P, k * 6 + 4, none⟩ (.string c')) P (updS S k ⟨(S k).me, (S k).l, c', (S k).kp⟩) sv c bm := by
  have h0 := AN.put h (i := k * 6 + 4) (by omega) (.string c') (f' := fun j => if j = k * 6 + 4 then .string c' else plc S sv c bm j) (fun _ _ => rfl)
  refine AN.congrP h0 fun j hj => ?_
  clear h0
  by_cases e : j / 6 = k
  · have h24 : j < 24 := by omega
    have r : plc (updS S k ⟨(S k).me, (S k).l, c', (S k).kp⟩) sv c bm j = sdc ⟨(S k).me, (S k).l, c', (S k).kp⟩ (j % 6) := by
      unfold plc
      rw [if_pos h24, e, updS_same]
    have r2 : plc S sv c bm j = sdc (S k) (j % 6) := by
      unfold plc
      rw [if_pos h24, e]
    rw [r, r2]
    by_cases e4 : j % 6 = 4
    · rw [if_pos (by omega), e4]
      rfl
    · rw [if_neg (by omega)]
      unfold sdc
      simp only [if_neg e4]
  · rw [if_neg (by omega)]
    unfold plc
    by_cases h24 : j < 24
    · rw [if_pos h24, if_pos h24, updS_other _ _ e]
    · rw [if_neg h24, if_neg h24]
theorem PM.put25 (h : PM w P S sv c bm) (c' : ByteArray) : PM (w.setCell ⟨P, 25, none⟩ (.string c')) P S sv c' bm :=
  AN.put h (i := 25) (by omega) (.string c') (fun j hj => by
    by_cases e : j = 25
    · subst e
      rfl
    · rw [show (if j = 25 then Value.string c' else plc S sv c bm j) = plc S sv c bm j from if_neg e]
      unfold plc
      by_cases e1 : j < 24
      · rw [if_pos e1, if_pos e1]
      · rw [if_neg e1, if_neg e1]
        simp only [if_neg e])
theorem PM.putC (h : PM w P S sv c bm) {k : Nat} (hk : k < 4) (c' : ByteArray) : PM ((w.setCell ⟨P, k * 6 + 4, none⟩ (.string c')).setCell ⟨P, 25, none⟩ (.string c')) P (updS S k ⟨(S k).me, (S k).l, c', (S k).kp⟩) sv c' bm := by
  have h0 := AN.put h (i := k * 6 + 4) (by omega) (.string c') (f' := fun j => if j = k * 6 + 4 then .string c' else plc S sv c bm j) (fun _ _ => rfl)
  have h1 := AN.put h0 (i := 25) (by omega) (.string c') (f' := fun j => if j = 25 then .string c' else if j = k * 6 + 4 then .string c' else plc S sv c bm j) (fun _ _ => rfl)
  refine AN.congrP h1 fun j hj => ?_
  clear h0 h1
  by_cases e5 : j = 25
  · subst e5
    rw [if_pos rfl]
    rfl
  rw [if_neg e5]
  by_cases e : j / 6 = k
  · have h24 : j < 24 := by omega
    have r : plc (updS S k ⟨(S k).me, (S k).l, c', (S k).kp⟩) sv c' bm j = sdc ⟨(S k).me, (S k).l, c', (S k).kp⟩ (j % 6) := by
      unfold plc
      rw [if_pos h24, e, updS_same]
    have r2 : plc S sv c bm j = sdc (S k) (j % 6) := by
      unfold plc
      rw [if_pos h24, e]
    rw [r, r2]
    by_cases e4 : j % 6 = 4
    · rw [if_pos (by omega), e4]
      rfl
    · rw [if_neg (by omega)]
      unfold sdc
      simp only [if_neg e4]
  · rw [if_neg (by omega)]
    unfold plc
    by_cases h24 : j < 24
    · rw [if_pos h24, if_pos h24, updS_other _ _ e]
    · rw [if_neg h24, if_neg h24]
      simp only [if_neg e5]
end

/-- A play: all of it lies at B or above. -/
structure PL (B : Nat) (w : World) (P : Nat) (S : Nat → Sd) (L : List Mg) (c : ByteArray) (M : List (Int × Int)) : Prop where
  all : ∃ A n q G bm, PM w P S (.slice A n q) c bm ∧ Seg w 37 5 A n q (rc mc L) G ∧ (∀ g, G = some g → B ≤ g) ∧ MH w bm M ∧ B ≤ bm
  low : B ≤ P
section
variable {B : Nat} {w w' : World} {P : Nat} {S : Nat → Sd} {L : List Mg} {c : ByteArray} {M : List (Int × Int)}
theorem PL.on (h : PL B w P S L c M) (hb : Below w.heap.size w w') : PL B w' P S L c M := by
  obtain ⟨⟨A, n, q, G, bm, h1, h2, h3, h4, h5⟩, h6⟩ := h
  exact ⟨⟨A, n, q, G, bm, h1.on hb, h2.on hb, h3, h4.on hb, h5⟩, h6⟩
theorem PL.lt (h : PL B w P S L c M) : P < w.heap.size := by
  obtain ⟨⟨A, n, q, G, bm, h1, _⟩, _⟩ := h
  exact h1.lt
end
/-- A slice of the messages' lies in no play. -/
theorem Seg.offPlay {w : World} {A : Option Addr} {n q : Nat} {xs : List Value} {G : Option Nat} (h : Seg w 37 5 A n q xs G) {P : Nat} {S : Nat → Sd} {sv : Value} {c : ByteArray} {bm : Nat} (hp : PM w P S sv c bm) : G ≠ some P := by
  obtain ⟨cs, h1, _⟩ := hp
  intro e
  exact (Seg.ne_ h h1 (by decide)) e

section
variable {B : Nat} {w w' : World} {P : Nat} {S : Nat → Sd} {L : List Mg} {c : ByteArray} {M : List (Int × Int)} {sv : Value} {bm : Nat}
theorem PM.at_ (h : PM w P S sv c bm) {k : Nat} (hk : k < 4) {me ep st to : Int} {cg : ByteArray} {kp : Bool} (hS : S k = ⟨me, ⟨ep, st, to⟩, cg, kp⟩) : w.cell? ⟨P, k * 6, none⟩ = some (.int .u8 me) ∧ w.cell? ⟨P, k * 6 + 1, none⟩ = some (.int .i64 ep) ∧ w.cell? ⟨P, k * 6 + 2, none⟩ = some (.int .i64 st) ∧ w.cell? ⟨P, k * 6 + 3, none⟩ = some (.int .u8 to) ∧ w.cell? ⟨P, k * 6 + 4, none⟩ = some (.string cg) ∧ w.cell? ⟨P, k * 6 + 5, none⟩ = some (.bool kp) := by
  have := h.side hk
  rw [hS] at this
  exact this
theorem below6 {D : World} {P : Nat} (a b c d e f : Nat) (x0 x1 x2 x3 x4 x5 : Value) {B : Nat} {w0 : World} (hw : Below B w0 D) (hB : B ≤ P) :
    Below B w0 ((((((D.setCell ⟨P, a, none⟩ x0).setCell ⟨P, b, none⟩ x1).setCell ⟨P, c, none⟩ x2).setCell ⟨P, d, none⟩ x3).setCell ⟨P, e, none⟩ x4).setCell ⟨P, f, none⟩ x5) :=
  (((((hw.setCell (p := ⟨P, a, none⟩) hB _).setCell (p := ⟨P, b, none⟩) hB _).setCell (p := ⟨P, c, none⟩) hB _).setCell (p := ⟨P, d, none⟩) hB _).setCell (p := ⟨P, e, none⟩) hB _).setCell (p := ⟨P, f, none⟩) hB _
theorem RS.offPlay {A : Option Addr} {n q : Nat} {K : List Mg} (h : RS w 37 mc 5 A n q K) {P : Nat} (hp : PM w P S sv c bm) (i : Nat) (x : Value) : RS (w.setCell ⟨P, i, none⟩ x) 37 mc 5 A n q K := by
  obtain ⟨cs, h1, _⟩ := hp
  exact RS.far h h1 (by decide) i x
/-- A whole side is stored into a play: the world behind it under a name. -/
theorem PM.put6 {D : World} {A : Option Addr} {n q : Nat} {xs : List Value} {G : Option Nat} (h : PM D P S (.slice A n q) c bm) (hs : Seg D 37 5 A n q xs G) (hm : MH D bm M) {k : Nat} (hk : k < 4) (me ep st to : Int) (cg : ByteArray) (kp : Bool) :
    ∃ V, (((((D.setCell ⟨P, k * 6, none⟩ (.int .u8 me)).setCell ⟨P, k * 6 + 1, none⟩ (.int .i64 ep)).setCell ⟨P, k * 6 + 2, none⟩ (.int .i64 st)).setCell ⟨P, k * 6 + 3, none⟩ (.int .u8 to)).setCell ⟨P, k * 6 + 4, none⟩ (.string cg)).setCell ⟨P, k * 6 + 5, none⟩ (.bool kp) = V ∧
      PM V P (updS S k ⟨me, ⟨ep, st, to⟩, cg, kp⟩) (.slice A n q) c bm ∧ Seg V 37 5 A n q xs G ∧ MH V bm M ∧ (∀ B w0, Below B w0 D → B ≤ P → Below B w0 V) ∧ (∀ b T cs, b ≠ P → CB D b T cs → CB V b T cs) ∧
      (∀ A' n' q' K, RS D 37 mc 5 A' n' q' K → RS V 37 mc 5 A' n' q' K) ∧ (∀ A' n' q' ys G', Seg D 37 5 A' n' q' ys G' → Seg V 37 5 A' n' q' ys G') := by
  have hGP : G ≠ some P := Seg.offPlay hs h
  obtain ⟨cs, hb⟩ := h.block
  have hbm : bm ≠ P := fun e => (MH.ne hm hb) e.symm
  refine ⟨_, rfl, h.putS hk ⟨me, ⟨ep, st, to⟩, cg, kp⟩, ?_, ?_, fun B w0 hw hB => below6 _ _ _ _ _ _ _ _ _ _ _ _ hw hB, fun b T cs hne hc => ?_, fun A' n' q' K hr => ?_, fun A' n' q' ys G' hs' => ?_⟩
  · exact (((((hs.far (p := ⟨P, k * 6, none⟩) hGP _).far (p := ⟨P, k * 6 + 1, none⟩) hGP _).far (p := ⟨P, k * 6 + 2, none⟩) hGP _).far (p := ⟨P, k * 6 + 3, none⟩) hGP _).far (p := ⟨P, k * 6 + 4, none⟩) hGP _).far (p := ⟨P, k * 6 + 5, none⟩) hGP _
  · exact (((((hm.far (p := ⟨P, k * 6, none⟩) hbm _).far (p := ⟨P, k * 6 + 1, none⟩) hbm _).far (p := ⟨P, k * 6 + 2, none⟩) hbm _).far (p := ⟨P, k * 6 + 3, none⟩) hbm _).far (p := ⟨P, k * 6 + 4, none⟩) hbm _).far (p := ⟨P, k * 6 + 5, none⟩) hbm _
  · exact (((((hc.far (p := ⟨P, k * 6, none⟩) hne _).far (p := ⟨P, k * 6 + 1, none⟩) hne _).far (p := ⟨P, k * 6 + 2, none⟩) hne _).far (p := ⟨P, k * 6 + 3, none⟩) hne _).far (p := ⟨P, k * 6 + 4, none⟩) hne _).far (p := ⟨P, k * 6 + 5, none⟩) hne _
  · obtain ⟨cs0, c0, _⟩ := h
    have r0 := RS.far hr c0 (by decide) (k * 6) (.int .u8 me)
    have c1 := c0.put (k * 6) (.int .u8 me)
    have r1 := RS.far r0 c1 (by decide) (k * 6 + 1) (.int .i64 ep)
    have c2 := c1.put (k * 6 + 1) (.int .i64 ep)
    have r2 := RS.far r1 c2 (by decide) (k * 6 + 2) (.int .i64 st)
    have c3 := c2.put (k * 6 + 2) (.int .i64 st)
    have r3 := RS.far r2 c3 (by decide) (k * 6 + 3) (.int .u8 to)
    have c4 := c3.put (k * 6 + 3) (.int .u8 to)
    have r4 := RS.far r3 c4 (by decide) (k * 6 + 4) (.string cg)
    have c5 := c4.put (k * 6 + 4) (.string cg)
    exact RS.far r4 c5 (by decide) (k * 6 + 5) (.bool kp)
  · have hGP' : G' ≠ some P := Seg.offPlay hs' h
    exact (((((hs'.far (p := ⟨P, k * 6, none⟩) hGP' _).far (p := ⟨P, k * 6 + 1, none⟩) hGP' _).far (p := ⟨P, k * 6 + 2, none⟩) hGP' _).far (p := ⟨P, k * 6 + 3, none⟩) hGP' _).far (p := ⟨P, k * 6 + 4, none⟩) hGP' _).far (p := ⟨P, k * 6 + 5, none⟩) hGP' _
/-- Messages were appended, and are stored. -/
theorem said_end {D V4 : World} {A A' : Option Addr} {n q N q' : Nat} {G G' : Option Nat} {R : List Mg} (hw : Below B w D) (hBw : B ≤ w.heap.size) (h : PM D P S (.slice A n q) c bm) (hP : B ≤ P) (hs : Seg D 37 5 A n q (rc mc L) G) (hG : ∀ g, G = some g → B ≤ g) (hm : MH D bm M) (hbm : B ≤ bm)
    (hs' : Seg V4 37 5 A' N q' (rc mc L ++ rc mc R) G') (hg : D.grownBy V4 G) (hv : Moved D G G') :
    PM V4 P S (.slice A n q) c bm ∧ ∃ V5, V4.setCell ⟨P, 24, none⟩ (.slice A' N q') = V5 ∧ PL B V5 P S (L ++ R) c M ∧ Below B w V5 ∧ PM V5 P S (.slice A' N q') c bm := by
  have hBD : B ≤ D.heap.size := Nat.le_trans hBw hw.size
  have hGP : G ≠ some P := Seg.offPlay hs h
  obtain ⟨cs, hb⟩ := h.block
  have hbP : bm ≠ P := fun e => (MH.ne hm hb) e.symm
  have hGb : G ≠ some bm := by
    intro e
    obtain ⟨es, cl, hmb⟩ := hm.is
    rcases hs.2.2.2 with ⟨_, _, h0⟩ | ⟨g, off, cur, _, h2, h3, _⟩
    · rw [h0] at e; cases e
    · rw [h2] at e
      cases e
      have h3' : D.heap[bm]? = some (.cells cur 37 (0, 0)) := h3
      rw [h3'] at hmb
      cases hmb
  have p4 : PM V4 P S (.slice A n q) c bm := AN.same h (hg.block P h.lt (fun e => hGP e.symm))
  have m4 : MH V4 bm M := hm.same (hg.block bm hm.lt (fun e => hGb e.symm))
  have hGP' : G' ≠ some P := by
    rcases hv with e | ⟨g, e, hge⟩
    · rw [e]; exact hGP
    · rw [e]
      intro e2
      cases e2
      have := h.lt
      omega
  refine ⟨p4, _, rfl, ⟨⟨A', N, q', G', bm, p4.putV _, ?_, hv.ge hBD hG, m4.far (p := ⟨P, 24, none⟩) hbP _, hbm⟩, hP⟩, ?_, p4.putV _⟩
  · have := hs'.far (p := ⟨P, 24, none⟩) hGP' (.slice A' N q')
    rwa [← rc_append] at this
  · have h1 : Below B D V4 := grown_below hg hBD hG
    exact (hw.trans h1).setCell (p := ⟨P, 24, none⟩) hP _
end
theorem RS.srcm {w : World} {T : TypeId} {A : Option Addr} {n q : Nat} {K : List Mg} (h : RS w T mc 5 A n q K) : Src w 5 A n (rc mc K) := (RS.rr h).src
/-- One answer at most, whoever hears. -/
theorem hear_len (s : Sd) (m : Mg) : (hearM s m).r.length ≤ 1 := by
  rcases hear_kinds s m with e | ⟨_, _, _, ⟨_, e⟩ | ⟨_, e⟩ | ⟨_, e⟩ | ⟨_, e⟩⟩ <;> rw [e]
  · simp
  · unfold offerM; split <;> simp
  · unfold wantM; split
    · split <;> simp
    · split <;> simp
  · unfold giveM; simp
  · unfold gotM; split <;> simp
theorem Try.infoMsg : (Try.prog.info? 37).map (fun i => (i.zero, i.size, i.bytes)) = some (some (.agg #[.int .i64 0, .int .u8 0, .int .u8 0, .int .i64 0, .string ⟨#[]⟩]), 5, 40) := by kernel_rfl
end Go.Proofs.Ytmghckddofefkaa
