/-
  The document's site in memory: transactions and their parts as a slice, the struct of four slices. No condition.
-/
import Derived.Test.YtealcccjnmfkcaaSiP
import Derived.Test.YtealcccjnmfkcaaYSiA
import Derived.Test.YtealcccjnmfkcaaYRow
import Derived.Test.YtealcccjnmfkcaaYLqH
import Derived.Test.YtealcccjnmfkcaaYLhG
import Derived.Test.YtealcccjnmfkcaaYPvH
import Derived.Test.YtealcccjnmfkcaaYPvI
set_option linter.unusedVariables false
set_option linter.unusedSimpArgs false
namespace Go.Proofs.Ytealcccjnmfkcaa
open Go.RowKit

/-! ### the place of a transaction -/
def idx (l : List (Int × Pt)) (tx : Int) : Nat := l.findIdx (fun o => o.1 == tx)
theorem idx_cons (o : Int × Pt) (r : List (Int × Pt)) (tx : Int) : idx (o :: r) tx = if o.1 = tx then 0 else idx r tx + 1 := by
  unfold idx
  rw [List.findIdx_cons]
  by_cases h : o.1 = tx
  · simp [h]
  · rw [if_neg h, show (o.1 == tx) = false by simp [h]]
    rfl
theorem idx_some {l : List (Int × Pt)} {tx : Int} {p : Pt} (h : fnd l tx = some p) : l[idx l tx]? = some (tx, p) ∧ idx l tx < l.length := by
  induction l with
  | nil => cases h
  | cons o r ih =>
    rw [fnd] at h
    rw [idx_cons]
    by_cases e : o.1 = tx
    · rw [if_pos e] at h
      rw [if_pos e]
      cases h
      exact ⟨by rw [← e]; rfl, by simp⟩
    · rw [if_neg e] at h
      rw [if_neg e]
      obtain ⟨h1, h2⟩ := ih h
      exact ⟨by simpa using h1, by simp; omega⟩
theorem idx_none {l : List (Int × Pt)} {tx : Int} (h : fnd l tx = none) : idx l tx = l.length := by
  induction l with
  | nil => rfl
  | cons o r ih =>
    rw [fnd] at h
    rw [idx_cons]
    by_cases e : o.1 = tx
    · rw [if_pos e] at h; cases h
    · rw [if_neg e] at h
      rw [if_neg e, ih h]
      rfl
theorem idx_stop {l : List (Int × Pt)} {tx : Int} {j : Nat} (hj : j < l.length) (h1 : ∀ q ∈ l.take j, q.1 ≠ tx) (h2 : ∀ q, l[j]? = some q → q.1 = tx) : idx l tx = j := by
  unfold idx
  rw [List.findIdx_eq hj]
  refine ⟨by simpa using h2 _ (List.getElem?_eq_getElem hj), fun k hk => ?_⟩
  have hm : l[k]'(by omega) ∈ l.take j := by
    rw [List.mem_take_iff_getElem]
    exact ⟨k, by omega, rfl⟩
  simpa using h1 _ hm
theorem idx_end {l : List (Int × Pt)} {tx : Int} (h1 : ∀ q ∈ l, q.1 ≠ tx) : idx l tx = l.length := by
  unfold idx
  rw [List.findIdx_eq_length]
  intro q hq
  simpa using h1 q hq
/-- The place as the document tells it. -/
def idxI (l : List (Int × Pt)) (tx : Int) : Int := if idx l tx < l.length then idx l tx else -1
theorem upd_other {l : List (Int × Pt)} {tx : Int} (h : ∀ o ∈ l, o.1 ≠ tx) (p : Pt) : upd l tx p = l := by
  unfold upd
  have : l.map (fun o => if o.1 = tx then (o.1, p) else o) = l.map id := List.map_congr_left (fun o ho => by rw [if_neg (h o ho)]; rfl)
  rw [this, List.map_id]
theorem set_upd {l : List (Int × Pt)} (hd : txsD l) {tx : Int} {q : Pt} (h : fnd l tx = some q) (p : Pt) : l.set (idx l tx) (tx, p) = upd l tx p := by
  induction l with
  | nil => cases h
  | cons o r ih =>
    obtain ⟨h1, h2⟩ := List.pairwise_cons.1 hd
    rw [fnd] at h
    rw [idx_cons]
    by_cases e : o.1 = tx
    · rw [if_pos e, List.set_cons_zero]
      show _ = (if o.1 = tx then (o.1, p) else o) :: upd r tx p
      rw [if_pos e, upd_other (fun x hx k => h1 x hx (e.trans k.symm)), e]
    · rw [if_neg e] at h
      rw [if_neg e, List.set_cons_succ, ih h2 h]
      show _ = (if o.1 = tx then (o.1, p) else o) :: upd r tx p
      rw [if_neg e]

/-! ### its slices -/
/-- A transaction and its part as they are written. -/
structure Sh where
  tx : Int
  st : Int
  A : Option Addr
  n : Nat
  c : Nat
  lo : Bool
  ou : Int
def oc (x : Sh) : List Value := [.int .i64 x.tx, .int .i64 x.st, .slice x.A x.n x.c, .bool x.lo, .int .i64 x.ou]
instance : Nonempty (EncOk oc 5) := ⟨⟨fun _ => rfl, fun x u hu => by
  simp [oc] at hu
  rcases hu with rfl | rfl | rfl | rfl | rfl <;> rfl, by omega⟩⟩
def OD (w : World) (b : Sh) (a : Int × Pt) : Prop := b.tx = a.1 ∧ b.st = a.2.st ∧ b.lo = a.2.lo ∧ b.ou = a.2.ou ∧ DR w b.A b.n b.c a.2.ad
theorem od_firm : Firm OD := fun _ _ _ _ hb h => ⟨h.1, h.2.1, h.2.2.1, h.2.2.2.1, h.2.2.2.2.on hb⟩
abbrev OX (w : World) (A : Option Addr) (n c : Nat) (L : List (Int × Pt)) : Prop := RX oc 5 OD w A n c L
/-- The k-th transaction and its part. -/
theorem OX.at5 {w : World} {A : Option Addr} {n c : Nat} {L : List (Int × Pt)} (h : OX w A n c L) {k : Nat} (hk : k < n) : ∃ g off B m d o, A = some ⟨g, off, none⟩ ∧ L[k]? = some o ∧ DR w B m d o.2.ad ∧ w.cell? ⟨g, off + k * 5, none⟩ = some (.int .i64 o.1) ∧ w.cell? ⟨g, off + k * 5 + 1, none⟩ = some (.int .i64 o.2.st) ∧ w.cell? ⟨g, off + k * 5 + 2, none⟩ = some (.slice B m d) ∧ w.cell? ⟨g, off + k * 5 + 3, none⟩ = some (.bool o.2.lo) ∧ w.cell? ⟨g, off + k * 5 + 4, none⟩ = some (.int .i64 o.2.ou) := by
  obtain ⟨g, off, b, a, hA, ha, ⟨e1, e2, e3, e4, e5⟩, hc⟩ := h.at_ hk
  refine ⟨g, off, b.A, b.n, b.c, a, hA, ha, e5, ?_, ?_, ?_, ?_, ?_⟩
  · rw [← e1]; exact hc 0 _ rfl
  · rw [← e2]; exact hc 1 _ rfl
  · exact hc 2 _ rfl
  · rw [← e3]; exact hc 3 _ rfl
  · rw [← e4]; exact hc 4 _ rfl
abbrev dcs (A1 : Option Addr) (n1 c1 : Nat) (A2 : Option Addr) (n2 c2 : Nat) (A3 : Option Addr) (n3 c3 : Nat) (A4 : Option Addr) (n4 c4 : Nat) : Array Value := #[.slice A1 n1 c1, .slice A2 n2 c2, .slice A3 n3 c3, .slice A4 n4 c4]
abbrev dsv (A1 : Option Addr) (n1 c1 : Nat) (A2 : Option Addr) (n2 c2 : Nat) (A3 : Option Addr) (n3 c3 : Nat) (A4 : Option Addr) (n4 c4 : Nat) : Value := .agg #[.slice A1 n1 c1, .slice A2 n2 c2, .slice A3 n3 c3, .slice A4 n4 c4]
abbrev dz : Array Value := #[.slice none 0 0, .slice none 0 0, .slice none 0 0, .slice none 0 0]
/-- The document's site can be read. -/
structure DM (W : World) (A1 : Option Addr) (n1 c1 : Nat) (A2 : Option Addr) (n2 c2 : Nat) (A3 : Option Addr) (n3 c3 : Nat) (A4 : Option Addr) (n4 c4 : Nat) (s : Si) (log : List Rc) : Prop where
  led : DR W A1 n1 c1 s.led
  lk : HR W A2 n2 c2 s.lk
  pts : OX W A3 n3 c3 s.pts
  log : DKR W A4 n4 c4 log
/-- A slice touches nothing of block d. -/
def Off (A : Option Addr) (n d : Nat) : Prop := ∀ g off, A = some ⟨g, off, none⟩ → 0 < n → g ≠ d
section
variable {w W W' : World} {A1 : Option Addr} {n1 c1 : Nat} {A2 : Option Addr} {n2 c2 : Nat} {A3 : Option Addr} {n3 c3 : Nat} {A4 : Option Addr} {n4 c4 : Nat} {s : Si} {log : List Rc}
theorem DM.on (h : DM W A1 n1 c1 A2 n2 c2 A3 n3 c3 A4 n4 c4 s log) (hb : Below W.heap.size W W') : DM W' A1 n1 c1 A2 n2 c2 A3 n3 c3 A4 n4 c4 s log := ⟨h.led.on hb, h.lk.on hb, h.pts.on od_firm hb, h.log.on hb⟩
/-- A call gave a site. -/
def SPost (w : World) (s : Si) (log : List Rc) (e : Ending) (w' : World) : Prop :=
  ∃ A1 n1 c1 A2 n2 c2 A3 n3 c3 A4 n4 c4, e = .returned (dsv A1 n1 c1 A2 n2 c2 A3 n3 c3 A4 n4 c4) ∧ DM w' A1 n1 c1 A2 n2 c2 A3 n3 c3 A4 n4 c4 s log ∧ Below w.heap.size w w'
/-- .. and an error. -/
def SEPost (w : World) (s : Si) (log : List Rc) (k : Int) (e : Ending) (w' : World) : Prop :=
  ∃ A1 n1 c1 A2 n2 c2 A3 n3 c3 A4 n4 c4, e = .returned (.tuple #[dsv A1 n1 c1 A2 n2 c2 A3 n3 c3 A4 n4 c4, .int .i64 k]) ∧ DM w' A1 n1 c1 A2 n2 c2 A3 n3 c3 A4 n4 c4 s log ∧ Below w.heap.size w w'
/-- .. a number, and an error. -/
def SNPost (w : World) (s : Si) (log : List Rc) (x k : Int) (e : Ending) (w' : World) : Prop :=
  ∃ A1 n1 c1 A2 n2 c2 A3 n3 c3 A4 n4 c4, e = .returned (.tuple #[dsv A1 n1 c1 A2 n2 c2 A3 n3 c3 A4 n4 c4, .int .i64 x, .int .i64 k]) ∧ DM w' A1 n1 c1 A2 n2 c2 A3 n3 c3 A4 n4 c4 s log ∧ Below w.heap.size w w'
theorem d_cells {d : Nat} (h : CB W d 30 (dcs A1 n1 c1 A2 n2 c2 A3 n3 c3 A4 n4 c4)) : (W.cell? ⟨d, 0, none⟩ = some (.slice A1 n1 c1) ∧ W.cell? ⟨d, 1, none⟩ = some (.slice A2 n2 c2) ∧ W.cell? ⟨d, 2, none⟩ = some (.slice A3 n3 c3) ∧ W.cell? ⟨d, 3, none⟩ = some (.slice A4 n4 c4)) ∧
    W.frozen? ⟨d, 0, none⟩ = false ∧ W.frozen? ⟨d, 1, none⟩ = false ∧ W.frozen? ⟨d, 2, none⟩ = false ∧ W.frozen? ⟨d, 3, none⟩ = false :=
  ⟨⟨h.cell 0, h.cell 1, h.cell 2, h.cell 3⟩, h.frozen 0, h.frozen 1, h.frozen 2, h.frozen 3⟩
theorem set4 (a0 a1 a2 a3 x0 x1 x2 x3 : Value) : ((((#[a0, a1, a2, a3] : Array Value).setIfInBounds 0 x0).setIfInBounds 1 x1).setIfInBounds 2 x2).setIfInBounds 3 x3 = #[x0, x1, x2, x3] := by simp
/-- A site is stored into block d. -/
theorem site_all {d : Nat} {a0 a1 a2 a3 : Value} (hd : CB W d 30 #[a0, a1, a2, a3]) (A1 : Option Addr) (n1 c1 : Nat) (A2 : Option Addr) (n2 c2 : Nat) (A3 : Option Addr) (n3 c3 : Nat) (A4 : Option Addr) (n4 c4 : Nat) :
    ∃ V, (((W.setCell ⟨d, 0, none⟩ (.slice A1 n1 c1)).setCell ⟨d, 1, none⟩ (.slice A2 n2 c2)).setCell ⟨d, 2, none⟩ (.slice A3 n3 c3)).setCell ⟨d, 3, none⟩ (.slice A4 n4 c4) = V ∧ CB V d 30 (dcs A1 n1 c1 A2 n2 c2 A3 n3 c3 A4 n4 c4) ∧ Just d W V := by
  have hj := (((Just.set W d 0 (.slice A1 n1 c1)).trans (Just.set _ d 1 (.slice A2 n2 c2))).trans (Just.set _ d 2 (.slice A3 n3 c3))).trans (Just.set _ d 3 (.slice A4 n4 c4))
  have hx := (((hd.put 0 (.slice A1 n1 c1)).put 1 (.slice A2 n2 c2)).put 2 (.slice A3 n3 c3)).put 3 (.slice A4 n4 c4)
  rw [set4] at hx
  exact ⟨_, rfl, hx, hj⟩
/-- What is written as cells whose first is a number lies in no block of four slices. -/
theorem rr_off {α : Type} {c : α → List Value} {k : Nat} [Nonempty (EncOk c k)] (hc : ∀ x, ∃ q i, (c x)[0]? = some (.int q i)) {d : Nat} {A : Option Addr} {n q : Nat} {L : List α} (hd : CB W d 30 (dcs A1 n1 c1 A2 n2 c2 A3 n3 c3 A4 n4 c4)) (h : RR W c k A n q L) : Off A n d := by
  rintro g off rfl hn rfl
  obtain ⟨g', off', x, _, e, h1⟩ := h.at_ hn
  cases e
  obtain ⟨q', i, hi⟩ := hc x
  have h2 := h1 0 _ hi
  rw [hd.cell] at h2
  match hk : off + 0 * k + 0, h2 with
  | 0, h2 => simp at h2
  | 1, h2 => simp at h2
  | 2, h2 => simp at h2
  | 3, h2 => simp at h2
  | m + 4, h2 => simp at h2
theorem RR.just {α : Type} {c : α → List Value} {k : Nat} [Nonempty (EncOk c k)] {d : Nat} {A : Option Addr} {n q : Nat} {L : List α} (h : RR W c k A n q L) (ho : Off A n d) (hj : Just d W W') : RR W' c k A n q L := h.keep fun g off e hn _ => hj.block g (ho g off e hn)
theorem dc_int : ∀ x : Dl, ∃ q i, (dc x)[0]? = some (.int q i) := fun x => ⟨_, _, rfl⟩
theorem hc_int : ∀ x : Hd, ∃ q i, (hc x)[0]? = some (.int q i) := fun x => ⟨_, _, rfl⟩
theorem kc_int : ∀ x : Rc, ∃ q i, (kc x)[0]? = some (.int q i) := fun x => ⟨_, _, rfl⟩
theorem oc_int : ∀ x : Sh, ∃ q i, (oc x)[0]? = some (.int q i) := fun x => ⟨_, _, rfl⟩
/-- A store into a struct variable that is a site leaves what can be read. -/
theorem ox_just {d : Nat} {B1 : Option Addr} {m1 d1 : Nat} {B2 : Option Addr} {m2 d2 : Nat} {B3 : Option Addr} {m3 d3 : Nat} {B4 : Option Addr} {m4 d4 : Nat} (hd : CB W d 30 (dcs B1 m1 d1 B2 m2 d2 B3 m3 d3 B4 m4 d4)) {A : Option Addr} {n c : Nat} {L : List (Int × Pt)} (h : OX W A n c L) (hj : Just d W W') : OX W' A n c L := by
  obtain ⟨S, h1, h2⟩ := h
  exact ⟨S, h1.just (rr_off oc_int hd h1) hj, h2.keep fun b a ⟨e1, e2, e3, e4, e5⟩ => ⟨e1, e2, e3, e4, e5.just (rr_off dc_int hd e5) hj⟩⟩
theorem DM.just {d : Nat} {B1 : Option Addr} {m1 d1 : Nat} {B2 : Option Addr} {m2 d2 : Nat} {B3 : Option Addr} {m3 d3 : Nat} {B4 : Option Addr} {m4 d4 : Nat} (h : DM W A1 n1 c1 A2 n2 c2 A3 n3 c3 A4 n4 c4 s log) (hd : CB W d 30 (dcs B1 m1 d1 B2 m2 d2 B3 m3 d3 B4 m4 d4)) (hj : Just d W W') : DM W' A1 n1 c1 A2 n2 c2 A3 n3 c3 A4 n4 c4 s log :=
  ⟨h.led.just (rr_off dc_int hd h.led) hj, h.lk.just (rr_off hc_int hd h.lk) hj, ox_just hd h.pts hj, h.log.just (rr_off kc_int hd h.log) hj⟩
/-- A site is stored as the result. -/
theorem SFin {d : Nat} (hz : CB W d 30 dz) (hl : Below w.heap.size w W) (hd : w.heap.size ≤ d) (h : DM W A1 n1 c1 A2 n2 c2 A3 n3 c3 A4 n4 c4 s log) :
    ∃ V, (((W.setCell ⟨d, 0, none⟩ (.slice A1 n1 c1)).setCell ⟨d, 1, none⟩ (.slice A2 n2 c2)).setCell ⟨d, 2, none⟩ (.slice A3 n3 c3)).setCell ⟨d, 3, none⟩ (.slice A4 n4 c4) = V ∧
      (V.cell? ⟨d, 0, none⟩ = some (.slice A1 n1 c1) ∧ V.cell? ⟨d, 1, none⟩ = some (.slice A2 n2 c2) ∧ V.cell? ⟨d, 2, none⟩ = some (.slice A3 n3 c3) ∧ V.cell? ⟨d, 3, none⟩ = some (.slice A4 n4 c4)) ∧ DM V A1 n1 c1 A2 n2 c2 A3 n3 c3 A4 n4 c4 s log ∧ Below w.heap.size w V := by
  obtain ⟨V, hV, hb, hj⟩ := site_all hz A1 n1 c1 A2 n2 c2 A3 n3 c3 A4 n4 c4
  exact ⟨V, hV, (d_cells hb).1, h.just hz hj, hj.low hl hd⟩
/-- An element of a slice of a call's own is put. -/
theorem rc_set5 (y : Sh) (v0 v1 v2 v3 v4 : Value) (hy : oc y = [v0, v1, v2, v3, v4]) : ∀ (S : List Sh) (i : Nat), i < S.length → (((((rc oc S).set (i * 5) v0).set (i * 5 + 1) v1).set (i * 5 + 2) v2).set (i * 5 + 3) v3).set (i * 5 + 4) v4 = rc oc (S.set i y)
  | [], i, h => by simp at h
  | x :: r, 0, h => by
    rw [List.set_cons_zero, rc_cons, rc_cons, hy]
    simp [oc]
  | x :: r, i + 1, h => by
    have ih := rc_set5 y v0 v1 v2 v3 v4 hy r i (by simpa using h)
    rw [List.set_cons_succ, rc_cons, rc_cons, ← ih]
    have e : ∀ (M : List Value) (k : Nat) (v : Value), (oc x ++ M).set ((i + 1) * 5 + k) v = oc x ++ M.set (i * 5 + k) v := fun M k v => by
      rw [List.set_append_right _ _ (by simp [oc]; omega)]
      congr 1
      congr 1
      simp [oc]
      omega
    have e0 : ∀ (M : List Value) (v : Value), (oc x ++ M).set ((i + 1) * 5) v = oc x ++ M.set (i * 5) v := fun M v => e M 0 v
    rw [e0, e, e, e, e]
end
end Go.Proofs.Ytealcccjnmfkcaa
