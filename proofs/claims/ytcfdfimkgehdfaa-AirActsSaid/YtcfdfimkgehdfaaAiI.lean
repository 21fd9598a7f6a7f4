/-
  Layer 18: the document's letters in memory; the document's Len and find. Condition: the letters can be read.
-/
import Derived.Test.YtcfdfimkgehdfaaAiH
set_option linter.unusedVariables false
set_option linter.unusedSimpArgs false
namespace Go.Proofs.Ytcfdfimkgehdfaa
open Go.RowKit

/-- The document's letters in memory: a slice that can be read, of letters whose bytes can be. -/
structure DL (A : Option Addr) (n c : Nat) (L : List Lm) (w : World) : Prop where
  rr : RR w lcl 3 A n c L
  el : ∀ x ∈ L, RR w bcl 1 x.A x.n x.c x.b
/-- The blocks that they hang on. -/
def FD (A : Option Addr) (n : Nat) (L : List Lm) (i : Nat) : Prop := InR A n i ∨ ∃ x ∈ L, InR x.A x.n i
theorem DL.ob {A : Option Addr} {n c : Nat} {L : List Lm} {w : World} (h : DL A n c L w) : Ob (FD A n L) (DL A n c L) w :=
  ⟨h, fun i hi => by
    rcases hi with ⟨⟨off, e⟩, hn⟩ | ⟨x, hx, ⟨off, e⟩, hn⟩
    · exact h.rr.lt e hn
    · exact (h.el x hx).lt e hn,
   fun V V' hk _ hx => ⟨hx.rr.keep fun g off e hn _ => hk g (.inl ⟨⟨off, e⟩, hn⟩), fun x hm => (hx.el x hm).keep fun g off e hn _ => hk g (.inr ⟨x, hm, ⟨⟨off, e⟩, hn⟩⟩)⟩⟩
/-- .. lying below world w's blocks. -/
def OD (w : World) (A : Option Addr) (n c : Nat) (L : List Lm) (W : World) : Prop := Ol w (FD A n L) (DL A n c L) W
theorem OD.start {A : Option Addr} {n c : Nat} {L : List Lm} {w : World} (h : DL A n c L w) : OD w A n c L w := Ol.start h.ob
section
variable {A : Option Addr} {n c : Nat} {L : List Lm} {w W V : World}
theorem OD.dl (h : OD w A n c L W) : DL A n c L W := Ob.ok (Ol.ob h)
theorem OD.on (h : OD w A n c L W) (hb : Below W.heap.size W V) : OD w A n c L V := Ol.on h hb
theorem OD.drew (h : OD w A n c L W) : OD w A n c L W.drew := Ol.drew h
theorem OD.wr (h : OD w A n c L W) {g : Nat} (k : Wr W V g) (hg : w.heap.size ≤ g) : OD w A n c L V := Ol.wr h k hg
theorem OD.grow (h : OD w A n c L W) {G : Option Nat} (hg : W.grownBy V G) (hG : ∀ g, G = some g → w.heap.size ≤ g) : OD w A n c L V := Ol.grow h hg hG
end
def LT (L : List Lm) : List Lt := L.map Lm.lt
theorem LT_take {L : List Lm} {k : Nat} {x : Lm} (h : L[k]? = some x) : LT (L.take (k + 1)) = LT (L.take k) ++ [x.lt] := by
  unfold LT
  rw [List.take_add_one, h, List.map_append]; rfl
theorem cnt_yes {L : List Lm} {k t : Nat} {x : Lm} (h : L[k]? = some x) (ht : x.to = t) : (toR (LT (L.take (k + 1))) t).length = (toR (LT (L.take k)) t).length + 1 := by
  rw [LT_take h]
  unfold toR
  rw [List.filter_append]
  simp [Lm.lt, ht]
theorem cnt_no {L : List Lm} {k t : Nat} {x : Lm} (h : L[k]? = some x) (ht : ¬ x.to = t) : (toR (LT (L.take (k + 1))) t).length = (toR (LT (L.take k)) t).length := by
  rw [LT_take h]
  unfold toR
  rw [List.filter_append]
  simp [Lm.lt, ht]
theorem cnt_le (L : List Lm) (k t : Nat) : (toR (LT (L.take k)) t).length ≤ k := by
  unfold toR
  refine Nat.le_trans (List.length_filter_le _ _) ?_
  unfold LT
  simp; omega
/-- Behind k rounds of find's loop. -/
structure FI (L : List Lm) (t : Nat) (i : Int) (k q : Nat) : Prop where
  out : 0 ≤ i → q ≤ i.toNat ∧ fnd (LT L) t i.toNat = (fnd ((LT L).drop k) t (i.toNat - q)).map (· + k)
theorem FI.start (L : List Lm) (t : Nat) (i : Int) : FI L t i 0 0 := ⟨fun h => ⟨Nat.zero_le _, by simp⟩⟩
theorem LT_drop {L : List Lm} {k : Nat} {x : Lm} (h : L[k]? = some x) : (LT L).drop k = x.lt :: (LT L).drop (k + 1) := by
  obtain ⟨hl, hx⟩ := List.getElem?_eq_some_iff.1 h
  unfold LT
  rw [List.drop_eq_getElem_cons (by simpa using hl)]
  simp [hx]
theorem FI.skip {L : List Lm} {t : Nat} {i : Int} {k q : Nat} (h : FI L t i k q) {x : Lm} (hx : L[k]? = some x) (ht : ¬ x.to = t) : FI L t i (k + 1) q := ⟨fun hi => by
  obtain ⟨h1, h2⟩ := h.out hi
  refine ⟨h1, ?_⟩
  rw [h2, LT_drop hx]
  conv => lhs; unfold fnd
  rw [if_neg (by exact ht), Option.map_map]
  congr 1
  funext a
  simp; omega⟩
theorem FI.next {L : List Lm} {t : Nat} {i : Int} {k q : Nat} (h : FI L t i k q) {x : Lm} (hx : L[k]? = some x) (ht : x.to = t) (hq : ¬ (q : Int) = i) : FI L t i (k + 1) (q + 1) := ⟨fun hi => by
  obtain ⟨h1, h2⟩ := h.out hi
  obtain ⟨m, hm⟩ : ∃ m, i.toNat - q = m + 1 := ⟨i.toNat - q - 1, by omega⟩
  refine ⟨by omega, ?_⟩
  rw [h2, LT_drop hx, hm, show i.toNat - (q + 1) = m by omega]
  conv => lhs; unfold fnd
  rw [if_pos (by exact ht)]
  simp only [Option.map_map]
  congr 1
  funext a
  simp; omega⟩
theorem fnd_y0 {x : Lt} {L : List Lt} {t : Nat} (h : x.to = t) : fnd (x :: L) t 0 = some 0 := by unfold fnd; rw [if_pos h]
theorem FI.hit {L : List Lm} {t : Nat} {i : Int} {k q : Nat} (h : FI L t i k q) {x : Lm} (hx : L[k]? = some x) (ht : x.to = t) (hq : (q : Int) = i) : fndI (LT L) t i = (k : Int) := by
  obtain ⟨h1, h2⟩ := h.out (by omega)
  rw [LT_drop hx, show i.toNat - q = 0 by omega] at h2
  rw [fnd_y0 (by exact ht)] at h2
  unfold fndI
  rw [if_pos (by omega), h2]
  simp
theorem FI.done {L : List Lm} {t : Nat} {i : Int} {q : Nat} (h : FI L t i L.length q) : fndI (LT L) t i = -1 := by
  unfold fndI
  by_cases hi : 0 ≤ i
  · obtain ⟨h1, h2⟩ := h.out hi
    rw [List.drop_of_length_le (by simp [LT])] at h2
    rw [if_pos hi, h2]
    rfl
  · rw [if_neg hi]
set_option maxRecDepth 100000 in
set_option maxHeartbeats 4000000 in
theorem len_r (A : Option Addr) (n c : Nat) (L : List Lm) (rm : Int) (t : Nat) (w : World) (h : DL A n c L w) : Calls Try.prog 16 #[.agg (cA ⟨A, n, c, rm⟩), .int .u8 (t : Int)] w fun zz w' => zz = .returned (.int .i64 ((toR (LT L) t).length : Int)) ∧ Below w.heap.size w w' := by
  have hlen := Lib.hid h.rr.len
  have hmx := (RL.start h.rr).max
  have hl := OD.start h
  clear h
  go_enter Try.func16, Try.ntmps16
  go_wp2_with (first | ((with_reducible refine st_box 28 _ (cA ⟨A, n, c, rm⟩) ?_ ?_); exact rfl))
  refine ⟨fun V1 g1 n1 f1 => ?_⟩
  have up1 : w.heap.size ≤ g1 := Nat.le_of_eq f1.at_
  have bl1 := f1.bel
  clear f1
  have r3_d := (hl).on bl1
  have l3 := le_tr (Below.refl _ _) bl1
  clear hl
  clear bl1
  go_wp2_with fail
  go_loopw [5, 6] (fun qv iv wr => ∃ k q : Nat, k ≤ n ∧ iv = .int .i64 k ∧ qv = .int .i64 q ∧ Hid (q = (toR (LT (L.take k)) t).length) ∧ CB wr g1 28 (cA ⟨A, n, c, rm⟩) ∧ OD w A n c L wr ∧ Below w.heap.size w wr) (fun _ iv _ => n - (intOf iv).toNat)
  case atStart => exact ⟨0, 0, by omega, rfl, rfl, Lib.hid (by simp [LT, toR]), n1, r3_d, l3⟩
  case round =>
    clear n1 r3_d l3
    obtain ⟨k, q, hk, rfl, rfl, hq, ha, hd, hb⟩ := hrel
    have ca : wr.cell? ⟨g1, 0, none⟩ = some (.slice A n c) := CB.cell ha 0
    by_cases hlt : k < n
    · skip
      obtain ⟨ga, ofa, x, hx, rfl, hr⟩ := hd.dl.rr.elem hlt
      have cx : wr.cell? ⟨ga, ofa + k * 3 + 1, none⟩ = some (.int .u8 (x.to : Int)) := hr 1 _ rfl
      have l1 : (k : Int) < n := by omega
      have l2 : (0 : Int) ≤ (k : Int) := by omega
      clear hr
      have hqk : q ≤ k := by rw [hq.out]; exact cnt_le L k t
      by_cases ht : x.to = t
      · have q1 : ((x.to : Int) == (t : Int)) = true := by simp [ht]
        have HN := Lib.hid (show q + 1 = (toR (LT (L.take (k + 1))) t).length by rw [cnt_yes hx ht, hq.out])
        clear ht hx hq
        go_wp2_with fail
        go_roundw
        case rel => exact ⟨k + 1, q + 1, by omega, by go_num, by go_num, HN, ha, hd, hb⟩
        case measure => simp [intOf]; omega
      have q1 : ((x.to : Int) == (t : Int)) = false := by simp; omega
      have HN := Lib.hid (show q = (toR (LT (L.take (k + 1))) t).length by rw [cnt_no hx ht, hq.out])
      clear ht hx hq
      go_wp2_with fail
      go_roundw
      case rel => exact ⟨k + 1, q, by omega, by go_num, rfl, HN, ha, hd, hb⟩
      case measure => simp [intOf]; omega
    obtain rfl : k = n := by omega
    have HQ := Lib.hid (show q = (toR (LT L) t).length by rw [hq.out, List.take_of_length_le (by rw [hlen.out]; exact Nat.le_refl _)])
    go_wp2_with fail
    go_ret
    exact ⟨by rw [← HQ.out]; rfl, hb⟩
set_option maxRecDepth 100000 in
set_option maxHeartbeats 4000000 in
theorem find_r (A : Option Addr) (n c : Nat) (L : List Lm) (rm : Int) (t : Nat) (i : Int) (w : World) (h : DL A n c L w) : Calls Try.prog 63 #[.agg (cA ⟨A, n, c, rm⟩), .int .u8 (t : Int), .int .i64 i] w fun zz w' => zz = .returned (.int .i64 (fndI (LT L) t i)) ∧ Below w.heap.size w w' := by
  have hlen := Lib.hid h.rr.len
  have hmx := (RL.start h.rr).max
  have hl := OD.start h
  clear h
  go_enter Try.func63, Try.ntmps63
  go_wp2_with (first | ((with_reducible refine st_box 28 _ (cA ⟨A, n, c, rm⟩) ?_ ?_); exact rfl))
  refine ⟨fun V1 g1 n1 f1 => ?_⟩
  have up1 : w.heap.size ≤ g1 := Nat.le_of_eq f1.at_
  have bl1 := f1.bel
  clear f1
  have r3_d := (hl).on bl1
  have l3 := le_tr (Below.refl _ _) bl1
  clear hl
  clear bl1
  go_wp2_with fail
  go_loopw [7, 8] (fun qv iv wr => ∃ k q : Nat, k ≤ n ∧ q ≤ k ∧ iv = .int .i64 k ∧ qv = .int .i64 q ∧ FI L t i k q ∧ CB wr g1 28 (cA ⟨A, n, c, rm⟩) ∧ OD w A n c L wr ∧ Below w.heap.size w wr) (fun _ iv _ => n - (intOf iv).toNat)
  case atStart => exact ⟨0, 0, by omega, by omega, rfl, rfl, FI.start L t i, n1, r3_d, l3⟩
  case round =>
    clear n1 r3_d l3
    obtain ⟨k, q, hk, hqk, rfl, rfl, hq, ha, hd, hb⟩ := hrel
    have ca : wr.cell? ⟨g1, 0, none⟩ = some (.slice A n c) := CB.cell ha 0
    by_cases hlt : k < n
    · skip
      obtain ⟨ga, ofa, x, hx, rfl, hr⟩ := hd.dl.rr.elem hlt
      have cx : wr.cell? ⟨ga, ofa + k * 3 + 1, none⟩ = some (.int .u8 (x.to : Int)) := hr 1 _ rfl
      have l1 : (k : Int) < n := by omega
      have l2 : (0 : Int) ≤ (k : Int) := by omega
      clear hr
      by_cases ht : x.to = t
      · have q1 : ((x.to : Int) == (t : Int)) = true := by simp [ht]
        have q2 : ((x.to : Int) != (t : Int)) = false := by simp [ht]
        by_cases hi : (q : Int) = i
        · have H := Lib.hid (hq.hit hx ht hi)
          have q3 : ((q : Int) == i) = true := by simp [hi]
          clear hi ht hx hq
          go_wp2_with fail
          go_ret
          exact ⟨by rw [H.out]; rfl, hb⟩
        have HN := hq.next hx ht hi
        have q3 : ((q : Int) == i) = false := by simp [hi]
        clear hi ht hx hq
        go_wp2_with fail
        go_roundw
        case rel => exact ⟨k + 1, q + 1, by omega, by omega, by go_num, by go_num, HN, ha, hd, hb⟩
        case measure => simp [intOf]; omega
      have q1 : ((x.to : Int) == (t : Int)) = false := by simp; omega
      have q2 : ((x.to : Int) != (t : Int)) = true := by simp; omega
      have HN := hq.skip hx ht
      clear ht hx hq
      go_wp2_with fail
      go_roundw
      case rel => exact ⟨k + 1, q, by omega, by omega, by go_num, rfl, HN, ha, hd, hb⟩
      case measure => simp [intOf]; omega
    obtain rfl : k = n := by omega
    have HQ := Lib.hid (show fndI (LT L) t i = -1 from FI.done (by rw [hlen.out]; exact hq))
    clear hq
    go_wp2_with fail
    go_ret
    exact ⟨by rw [HQ.out]; rfl, hb⟩
end Go.Proofs.Ytcfdfimkgehdfaa
