/-
  Two queues side by side, one of numbers and one of pairs: what a call on the one leaves of the other, and of all else. Conditions: both are queues that New made, and lie from block s on.
-/
import Derived.Test.YtbdejcmlcjljkaaRing2B
import Derived.Test.YtbdejcmlcjljkaaThrA
namespace Go.Proofs.Ytbdejcmlcjljkaa
open Go.RowKit

theorem Seg.dj {w : World} {e e' : TypeId} {size size' : Nat} {A A' : Option Addr} {n n' c c' : Nat} {xs xs' : List Value} {X Y : Option Nat} (h : Seg w e size A n c xs X) (h' : Seg w e' size' A' n' c' xs' Y) (hne : e ≠ e') : Dj X Y := by
  rintro g rfl e2
  subst e2
  rcases h.2.2.2 with ⟨_, _, h0⟩ | ⟨g1, o1, cur1, _, h2, h3, _⟩
  · cases h0
  rcases h'.2.2.2 with ⟨_, _, h0⟩ | ⟨g2, o2, cur2, _, k2, k3, _⟩
  · cases h0
  cases h2
  cases k2
  exact h3.ne_ k3 hne rfl

/-- The queue ba of numbers holds ys, the queue bb of pairs holds zs; the result's box and the two books lie as they were laid. -/
structure Ty (w : World) (s D1 D2 ba bb : Nat) (room : Int) (ys : List Int) (zs : List (Int × Int)) (W : World) : Prop where
  cr : CB W s 4 #[.bool false]
  k1 : W.heap[D1]? = some (.deferred (some []))
  k2 : W.heap[D2]? = some (.deferred (some []))
  low : Below s w W
  la : s ≤ ba
  lb : s ≤ bb
  lw : s ≤ W.heap.size
  ra : ∃ G, RG W ba room G ys ∧ ∀ g, G = some g → s ≤ g
  rb : ∃ G, RG2 W bb room G zs ∧ ∀ g, G = some g → s ≤ g

/-- Boxes of other types stay. -/
def KeepsB (W W' : World) : Prop := W.heap.size ≤ W'.heap.size ∧ ∀ g t cs, CB W g t cs → t ≠ 2 → t ≠ 65 → t ≠ 74 → t ≠ 78 → CB W' g t cs

theorem KeepsB.of_below {W W' : World} (h : Below W.heap.size W W') : KeepsB W W' := ⟨h.size, fun g _ _ hc _ _ _ _ => hc.same (h.block g hc.lt)⟩

section
variable {w : World} {s D1 D2 ba bb : Nat} {room : Int} {ys : List Int} {zs : List (Int × Int)} {W W' : World}
theorem Ty.later (h : Ty w s D1 D2 ba bb room ys zs W) (hb : Below W.heap.size W W') : Ty w s D1 D2 ba bb room ys zs W' := by
  obtain ⟨h1, h2, h3, h4, h5, h6, h7, ⟨G, r1, r2⟩, G', r3, r4⟩ := h
  exact ⟨h1.same (hb.block _ h1.lt), (hb.block _ (Array.getElem?_eq_some_iff.1 h2).1).trans h2, (hb.block _ (Array.getElem?_eq_some_iff.1 h3).1).trans h3, h4.trans (hb.mono h7), h5, h6, Nat.le_trans h7 hb.size, ⟨G, r1.below hb r1.lt.1 r1.lt.2, r2⟩, G', r3.below hb r3.lt.1 r3.lt.2, r4⟩
/-- A step on the queue of numbers alone. -/
theorem Ty.onA (h : Ty w s D1 D2 ba bb room ys zs W) {G G' : Option Nat} {ys' : List Int} (r1 : RG W ba room G ys) (r2 : ∀ g, G = some g → s ≤ g) (k1 : RG W' ba room G' ys') (k2 : Only W W' ba G) (k3 : Moved W G G') :
    Ty w s D1 D2 ba bb room ys' zs W' ∧ KeepsB W W' := by
  obtain ⟨h1, h2, h3, h4, h5, h6, h7, _, Gb, r3, r4⟩ := h
  obtain ⟨A2, n2, c2, q1, q2⟩ := r3
  have keep : ∀ {g : Nat} {t : TypeId} {cs : Array Value}, CB W g t cs → t ≠ 2 → t ≠ 74 → CB W' g t cs := fun hc ht ht2 => k2.cb hc (r1.neb hc ht2) (r1.ne hc ht)
  have book : ∀ {D : Nat} {d : Option (List Deferred)}, W.heap[D]? = some (.deferred d) → W'.heap[D]? = some (.deferred d) := fun {D} {d} hd =>
    (k2.block D (Array.getElem?_eq_some_iff.1 hd).1 (fun e => (r1.noBook (.inr ⟨_, hd⟩)).1 e.symm) (fun e => (r1.noBook (.inr ⟨_, hd⟩)).2 e.symm)).trans hd
  have hsz := k2.size
  obtain ⟨A1, n1, c1, p1, p2⟩ := r1
  refine ⟨⟨keep h1 (by decide) (by decide), book h2, book h3, h4.trans (k2.below h7 h5 r2), h5, h6, by omega, ⟨G', k1, ?_⟩, Gb, ⟨A2, n2, c2, keep q1 (by decide) (by decide), q2.keep fun g hg => k2.block g (q2.lt g hg) ?_ ?_⟩, r4⟩, hsz, fun g t cs hc t1 _ t3 _ => keep hc t1 t3⟩
  · intro g hg
    rcases k3 with e | ⟨g', e, hg'⟩
    · exact r2 g (by rw [← e]; exact hg)
    · rw [e] at hg
      cases hg
      omega
  · rintro rfl
    exact q2.ne_ p1 (by decide) hg
  · exact fun e => q2.dj p2 (by decide) g hg e.symm
/-- A step on the queue of pairs alone. -/
theorem Ty.onB (h : Ty w s D1 D2 ba bb room ys zs W) {G G' : Option Nat} {zs' : List (Int × Int)} (r1 : RG2 W bb room G zs) (r2 : ∀ g, G = some g → s ≤ g) (k1 : RG2 W' bb room G' zs') (k2 : Only W W' bb G) (k3 : Moved W G G') :
    Ty w s D1 D2 ba bb room ys zs' W' ∧ KeepsB W W' := by
  obtain ⟨h1, h2, h3, h4, h5, h6, h7, ⟨Ga, r3, r4⟩, _⟩ := h
  obtain ⟨A2, n2, c2, q1, q2⟩ := r3
  obtain ⟨A1, n1, c1, p1, p2⟩ := r1
  have keep : ∀ {g : Nat} {t : TypeId} {cs : Array Value}, CB W g t cs → t ≠ 65 → t ≠ 78 → CB W' g t cs := fun hc ht ht2 => k2.cb hc (hc.ne_ p1 ht2) (fun e => p2.ne_ hc (Ne.symm ht) e.symm)
  have book : ∀ {D : Nat} {d : Option (List Deferred)}, W.heap[D]? = some (.deferred d) → W'.heap[D]? = some (.deferred d) := fun {D} {d} hd =>
    (k2.block D (Array.getElem?_eq_some_iff.1 hd).1 (fun e => p1.noBook (L := D) (.inr ⟨_, hd⟩) e.symm) (fun e => p2.noBook (L := D) (.inr ⟨_, hd⟩) e.symm)).trans hd
  have hsz := k2.size
  refine ⟨⟨keep h1 (by decide) (by decide), book h2, book h3, h4.trans (k2.below h7 h6 r2), h5, h6, by omega, ⟨Ga, ⟨A2, n2, c2, keep q1 (by decide) (by decide), q2.keep fun g hg => k2.block g (q2.lt g hg) ?_ ?_⟩, r4⟩, G', k1, ?_⟩, hsz, fun g t cs hc _ t2 _ t4 => keep hc t2 t4⟩
  · rintro rfl
    exact q2.ne_ p1 (by decide) hg
  · exact fun e => q2.dj p2 (by decide) g hg e.symm
  · intro g hg
    rcases k3 with e | ⟨g', e, hg'⟩
    · exact r2 g (by rw [← e]; exact hg)
    · rw [e] at hg
      cases hg
      omega
end

/-- What a call leaves of both queues. -/
def TyP (w : World) (s D1 D2 ba bb : Nat) (room : Int) (ys : List Int) (zs : List (Int × Int)) (W : World) (v : Value) (e : Ending) (W' : World) : Prop :=
  e = .returned v ∧ Ty w s D1 D2 ba bb room ys zs W' ∧ KeepsB W W'

section
variable (w : World) (s D1 D2 ba bb : Nat) (room : Int) (W : World)
theorem pushA (ys : List Int) (zs : List (Int × Int)) (h : Ty w s D1 D2 ba bb room ys zs W) (hr : 0 < room) (x : Int) (hl : (ys.length : Int) < room) (hm : ys.length ≤ 10000) :
    Calls Try.prog 18 #[.pointer (some ⟨ba, 0, none⟩), .int .i64 x] W (TyP w s D1 D2 ba bb room (ys ++ [x]) zs W (.int .i64 0)) := by
  obtain ⟨G, r1, r2⟩ := h.ra
  refine (push_ok ba room G ys x W r1 hr hl hm).mono ?_
  rintro e W' ⟨he, G', k1, k2, k3⟩
  exact ⟨he, h.onA r1 r2 k1 k2 k3⟩
theorem pushA_full (ys : List Int) (zs : List (Int × Int)) (h : Ty w s D1 D2 ba bb room ys zs W) (hr : 0 < room) (x : Int) (hl : (ys.length : Int) = room) :
    Calls Try.prog 18 #[.pointer (some ⟨ba, 0, none⟩), .int .i64 x] W (TyP w s D1 D2 ba bb room ys zs W (.int .i64 6)) := by
  obtain ⟨G, r1, r2⟩ := h.ra
  refine (push_full ba room G ys x W r1 hr hl).mono ?_
  rintro e W' ⟨he, k, rfl⟩
  exact ⟨he, h.later (below_drewN (Below.refl _ _) k), .of_below (below_drewN (Below.refl _ _) k)⟩
theorem popA (y : Int) (ys : List Int) (zs : List (Int × Int)) (h : Ty w s D1 D2 ba bb room (y :: ys) zs W) (hr : 0 < room) :
    Calls Try.prog 12 #[.pointer (some ⟨ba, 0, none⟩)] W (TyP w s D1 D2 ba bb room ys zs W (.tuple #[.int .i64 y, .int .i64 0])) := by
  obtain ⟨G, r1, r2⟩ := h.ra
  refine (pop_ok ba room G y ys W r1 hr).mono ?_
  rintro e W' ⟨he, k1, k2⟩
  exact ⟨he, h.onA r1 r2 k1 k2 (Moved.refl _ _)⟩
theorem popA_no (zs : List (Int × Int)) (h : Ty w s D1 D2 ba bb room [] zs W) (hr : 0 < room) :
    Calls Try.prog 12 #[.pointer (some ⟨ba, 0, none⟩)] W (TyP w s D1 D2 ba bb room [] zs W (.tuple #[.int .i64 0, .int .i64 7])) := by
  obtain ⟨G, r1, r2⟩ := h.ra
  refine (pop_no ba room G W r1 hr).mono ?_
  rintro e W' ⟨he, rfl⟩
  exact ⟨he, h, .of_below (Below.refl _ _)⟩
theorem dropA (ys : List Int) (zs : List (Int × Int)) (h : Ty w s D1 D2 ba bb room ys zs W) (hr : 0 < room) (k : Nat) (hk : k < ys.length) (hm : ys.length ≤ 10000) :
    Calls Try.prog 16 #[.pointer (some ⟨ba, 0, none⟩), .int .i64 k] W (TyP w s D1 D2 ba bb room (ys.take k ++ ys.drop (k + 1)) zs W (.int .i64 0)) := by
  obtain ⟨G, r1, r2⟩ := h.ra
  refine (drop_ok ba room G ys k W r1 hr hk hm).mono ?_
  rintro e W' ⟨he, k1, k2⟩
  exact ⟨he, h.onA r1 r2 k1 k2 (Moved.refl _ _)⟩
theorem dropA_no (ys : List Int) (zs : List (Int × Int)) (h : Ty w s D1 D2 ba bb room ys zs W) (hr : 0 < room) (i : Int) (hi : i < 0 ∨ ys.length ≤ i) :
    Calls Try.prog 16 #[.pointer (some ⟨ba, 0, none⟩), .int .i64 i] W (TyP w s D1 D2 ba bb room ys zs W (.int .i64 7)) := by
  obtain ⟨G, r1, r2⟩ := h.ra
  refine (drop_no ba room G ys i W r1 hr hi).mono ?_
  rintro e W' ⟨he, rfl⟩
  exact ⟨he, h, .of_below (Below.refl _ _)⟩
theorem lenA (ys : List Int) (zs : List (Int × Int)) (h : Ty w s D1 D2 ba bb room ys zs W) (hr : 0 < room) :
    Calls Try.prog 20 #[.pointer (some ⟨ba, 0, none⟩)] W fun e w' => e = .returned (.int .i64 ys.length) ∧ W = w' := by
  obtain ⟨G, r1, r2⟩ := h.ra
  exact len_any ba room G ys W r1 hr
theorem pushB (ys : List Int) (zs : List (Int × Int)) (h : Ty w s D1 D2 ba bb room ys zs W) (hr : 0 < room) (p1 p2 : Int) (hl : (zs.length : Int) < room) (hm : zs.length ≤ 10000) :
    Calls Try.prog 31 #[.pointer (some ⟨bb, 0, none⟩), .agg #[.int .i64 p1, .int .i64 p2]] W (TyP w s D1 D2 ba bb room ys (zs ++ [(p1, p2)]) W (.int .i64 0)) := by
  obtain ⟨G, r1, r2⟩ := h.rb
  refine (push2_ok bb room G zs p1 p2 W r1 hr hl hm).mono ?_
  rintro e W' ⟨he, G', k1, k2, k3⟩
  exact ⟨he, h.onB r1 r2 k1 k2 k3⟩
theorem pushB_full (ys : List Int) (zs : List (Int × Int)) (h : Ty w s D1 D2 ba bb room ys zs W) (hr : 0 < room) (p1 p2 : Int) (hl : (zs.length : Int) = room) :
    Calls Try.prog 31 #[.pointer (some ⟨bb, 0, none⟩), .agg #[.int .i64 p1, .int .i64 p2]] W (TyP w s D1 D2 ba bb room ys zs W (.int .i64 6)) := by
  obtain ⟨G, r1, r2⟩ := h.rb
  refine (push2_full bb room G zs p1 p2 W r1 hr hl).mono ?_
  rintro e W' ⟨he, hb⟩
  exact ⟨he, h.later hb, .of_below hb⟩
theorem popB (p1 p2 : Int) (ys : List Int) (zs : List (Int × Int)) (h : Ty w s D1 D2 ba bb room ys ((p1, p2) :: zs) W) (hr : 0 < room) :
    Calls Try.prog 29 #[.pointer (some ⟨bb, 0, none⟩)] W (TyP w s D1 D2 ba bb room ys zs W (.tuple #[.agg #[.int .i64 p1, .int .i64 p2], .int .i64 0])) := by
  obtain ⟨G, r1, r2⟩ := h.rb
  refine (pop2_ok bb room G p1 p2 zs W r1 hr).mono ?_
  rintro e W' ⟨he, k1, k2⟩
  exact ⟨he, h.onB r1 r2 k1 k2 (Moved.refl _ _)⟩
theorem popB_no (ys : List Int) (h : Ty w s D1 D2 ba bb room ys [] W) (hr : 0 < room) :
    Calls Try.prog 29 #[.pointer (some ⟨bb, 0, none⟩)] W (TyP w s D1 D2 ba bb room ys [] W (.tuple #[.agg #[.int .i64 0, .int .i64 0], .int .i64 7])) := by
  obtain ⟨G, r1, r2⟩ := h.rb
  refine (pop2_no bb room G W r1 hr).mono ?_
  rintro e W' ⟨he, hb⟩
  exact ⟨he, h.later hb, .of_below hb⟩
theorem dropB (ys : List Int) (zs : List (Int × Int)) (h : Ty w s D1 D2 ba bb room ys zs W) (hr : 0 < room) (k : Nat) (hk : k < zs.length) (hm : zs.length ≤ 10000) :
    Calls Try.prog 30 #[.pointer (some ⟨bb, 0, none⟩), .int .i64 k] W (TyP w s D1 D2 ba bb room ys (zs.take k ++ zs.drop (k + 1)) W (.int .i64 0)) := by
  obtain ⟨G, r1, r2⟩ := h.rb
  refine (drop2_ok bb room G zs k W r1 hr hk hm).mono ?_
  rintro e W' ⟨he, k1, k2⟩
  exact ⟨he, h.onB r1 r2 k1 k2 (Moved.refl _ _)⟩
theorem dropB_no (ys : List Int) (zs : List (Int × Int)) (h : Ty w s D1 D2 ba bb room ys zs W) (hr : 0 < room) (i : Int) (hi : i < 0 ∨ zs.length ≤ i) :
    Calls Try.prog 30 #[.pointer (some ⟨bb, 0, none⟩), .int .i64 i] W (TyP w s D1 D2 ba bb room ys zs W (.int .i64 7)) := by
  obtain ⟨G, r1, r2⟩ := h.rb
  refine (drop2_no bb room G zs i W r1 hr hi).mono ?_
  rintro e W' ⟨he, rfl⟩
  exact ⟨he, h, .of_below (Below.refl _ _)⟩
theorem lenB (ys : List Int) (zs : List (Int × Int)) (h : Ty w s D1 D2 ba bb room ys zs W) (hr : 0 < room) :
    Calls Try.prog 32 #[.pointer (some ⟨bb, 0, none⟩)] W fun e w' => e = .returned (.int .i64 zs.length) ∧ W = w' := by
  obtain ⟨G, r1, r2⟩ := h.rb
  exact len2 bb room G zs W r1 hr
end
end Go.Proofs.Ytbdejcmlcjljkaa
