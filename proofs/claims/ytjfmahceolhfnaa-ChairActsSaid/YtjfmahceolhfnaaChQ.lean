/-
  A chair in a statement's walk; Replay, played. Conditions: the records can be read, their bits are bytes, not ninety thousand are replayed.
-/
import Derived.Test.YtjfmahceolhfnaaChP
set_option linter.unusedVariables false
set_option linter.unusedSimpArgs false
namespace Go.Proofs.Ytjfmahceolhfnaa
open Go.RowKit

/-- A chair in the world W of a walk that began at w: none of its own blocks lies below B. -/
structure ST (B : Nat) (w W : World) (b m : Nat) (G : Option Nat) (D : DM) (log : List Rd) : Prop where
  cr : CR W b m G D log
  hi : ∀ i, Own b m G i → B ≤ i
  low : Below B w W
section
variable {B : Nat} {w W W' : World} {b m : Nat} {G : Option Nat} {D : DM} {log : List Rd}
theorem ST.le (h : ST B w W b m G D log) : B ≤ W.heap.size := by have := h.cr.cm.lt.1; have := h.hi b (.inl rfl); omega
theorem ST.on (h : ST B w W b m G D log) (hb : Below W.heap.size W W') : ST B w W' b m G D log := ⟨h.cr.on hb, h.hi, h.low.trans (hb.mono h.le)⟩
theorem ST.drew (h : ST B w W b m G D log) : ST B w W.drew b m G D log := ⟨h.cr.drew, h.hi, ⟨h.low.os, h.low.tape, h.low.output, h.low.size, h.low.block⟩⟩
/-- A block that the walk has written is none of the chair's. -/
theorem ST.wr (h : ST B w W b m G D log) {g : Nat} (k : Wr W W' g) (hg : ¬ Own b m G g) (hB : B ≤ g) : ST B w W' b m G D log :=
  ⟨⟨h.cr.cm.keep fun i hi => k.far i (fun e => hg (e ▸ hi)), h.cr.good, h.cr.lo⟩, h.hi, k.bel _ _ h.low hB⟩
theorem ST.fresh (h : ST B w W b m G D log) {g : Nat} (hg : W.heap.size ≤ g) : ¬ Own b m G g := fun e => by have := h.cr.cm.own_lt e; omega
/-- Behind a call. -/
theorem ST.done (h : ST B w W b m G D log) {r : Rd} {e : Ending} (hd : DoPost W b m G D log r e W') :
    e = .returned (.tuple #[.int .i64 ((nDoC D r : Nat) : Int), .int .i64 ((eDoC D r : Nat) : Int)]) ∧ ∃ G', ST B w W' b m G' (sDoC D r) (lDoC D log r) ∧ Out W W' (Own b m G) ∧ ∀ i, i < W.heap.size → ¬ Own b m G i → ¬ Own b m G' i := by
  obtain ⟨he, G', h1, h2, h3⟩ := hd
  refine ⟨he, G', ⟨h1, ?_, h.low.trans (h2.below h.le h.hi)⟩, h2, ?_⟩
  · rintro i (rfl | rfl | e)
    · exact h.hi _ (.inl rfl)
    · exact h.hi _ (.inr (.inl rfl))
    · rcases h3 i e with e' | e'
      · exact h.hi _ (.inr (.inr e'))
      · have := h.le; omega
  · rintro i hi hn (rfl | rfl | e)
    · exact hn (.inl rfl)
    · exact hn (.inr (.inl rfl))
    · rcases h3 i e with e' | e'
      · exact hn (.inr (.inr e'))
      · omega
end
theorem Out.box {w w' : World} {S : Nat → Prop} (h : Out w w' S) {g : Nat} {T : TypeId} {cs : Array Value} (hc : CB w g T cs) (hs : ¬ S g) : CB w' g T cs := CB.same hc (h.block g hc.lt hs)
theorem lDoC_len (D : DM) (log : List Rd) (r : Rd) : (lDoC D log r).length ≤ log.length + 1 := by unfold lDoC; split <;> simp
/-- The document's calls, one by one. -/
theorem plC_snoc : ∀ (l : List Rd) (s : DM × List Rd) (r : Rd), plC (l ++ [r]) s = (sDoC (plC l s).1 r, lDoC (plC l s).1 (plC l s).2 r)
  | [], s, r => rfl
  | x :: l, s, r => by
    rw [List.cons_append]
    unfold plC
    exact plC_snoc l _ r
def plD (l : List Rd) : DM := (plC l (fun _ => none, [])).1
def plL (l : List Rd) : List Rd := (plC l (fun _ => none, [])).2
theorem plD_snoc (l : List Rd) (r : Rd) : plD (l ++ [r]) = sDoC (plD l) r := by unfold plD; rw [plC_snoc]
theorem plL_snoc (l : List Rd) (r : Rd) : plL (l ++ [r]) = lDoC (plD l) (plL l) r := by unfold plL plD; rw [plC_snoc]
theorem plL_len (l : List Rd) : (plL l).length ≤ l.length := by
  generalize hn : l.length = n
  induction n generalizing l with
  | zero => obtain rfl := List.eq_nil_of_length_eq_zero hn; simp [plL, plC]
  | succ n ih =>
    obtain ⟨l0, r, rfl⟩ : ∃ l0 r, l = l0 ++ [r] := by
      rcases List.eq_nil_or_concat l with h0 | ⟨L, b, h0⟩
      · subst h0; simp at hn
      · exact ⟨L, b, by simpa using h0⟩
    rw [plL_snoc]
    have := ih l0 (by simpa using hn)
    have := lDoC_len (plD l0) (plL l0) r
    omega
theorem takeR {L : List Rd} {k : Nat} {x : Rd} (hx : L[k]? = some x) : L.take (k + 1) = L.take k ++ [x] := by rw [List.take_add_one, hx]; rfl
/-- Records that may be: their bits are a byte. -/
def OkL (L : List Rd) : Prop := ∀ r ∈ L, r.who < 256 ∧ (Lit.int .i64 r.tx).wf = true
theorem OkL.at_ {L : List Rd} (h : OkL L) {k : Nat} {x : Rd} (hx : L[k]? = some x) : x.who < 256 := (h x (List.mem_of_getElem? hx)).1
theorem OkL.wf {L : List Rd} (h : OkL L) {k : Nat} {x : Rd} (hx : L[k]? = some x) : (Lit.int .i64 x.tx).wf = true := (h x (List.mem_of_getElem? hx)).2
theorem repl_take {L : List Rd} {k : Nat} {x : Rd} {D : DM} (hx : L[k]? = some x) (h : LogOf D (L.take k)) (he : ¬ eDoC D x = 0) : repl L (fun _ => none) = none := by
  have e : L = L.take k ++ x :: L.drop (k + 1) := by
    rw [List.append_cons, ← takeR hx, List.take_append_drop]
  rw [e, repl_app]
  unfold LogOf at h
  rw [h]
  exact repl_stop he
/-- Behind Replay. -/
def RpPost (w : World) (L : List Rd) (e : Ending) (w' : World) : Prop :=
  match repl L (fun _ => none) with
  | some D => ∃ b m G, e = .returned (.tuple #[.pointer (some ⟨b, 0, none⟩), .int .i64 0]) ∧ ST w.heap.size w w' b m G D L
  | none => e = .returned (.tuple #[.pointer none, .int .i64 4]) ∧ Below w.heap.size w w'
theorem RpPost.yes {w : World} {L : List Rd} {w' : World} {b m : Nat} {G : Option Nat} {D : DM} (h : ST w.heap.size w w' b m G D L) : RpPost w L (.returned (.tuple #[.pointer (some ⟨b, 0, none⟩), .int .i64 0])) w' := by
  unfold RpPost
  have : repl L (fun _ => none) = some D := h.cr.lo
  rw [this]
  exact ⟨b, m, G, rfl, h⟩
theorem RpPost.no {w : World} {L : List Rd} {w' : World} (h : repl L (fun _ => none) = none) (hb : Below w.heap.size w w') : RpPost w L (.returned (.tuple #[.pointer none, .int .i64 4])) w' := by
  unfold RpPost
  rw [h]
  exact ⟨rfl, hb⟩
/-- A record lies in memory. -/
structure rangeN (w : World) (g o : Nat) (x : Rd) : Prop where
  out : w.rangeAt g o (kcl x)
section
variable {w V : World} {g o : Nat} {x : Rd}
theorem rangeN.lt (h : rangeN w g o x) : g < w.heap.size := World.block_lt_of_cell? w _ (h.out 0 _ rfl)
theorem rangeN.keep (h : rangeN w g o x) (e : V.heap[g]? = w.heap[g]?) : rangeN V g o x := ⟨fun i v hv => (World.cell?_of_block (a := ⟨g, o + i, none⟩) e).trans (h.out i v hv)⟩
theorem rangeN.on (h : rangeN w g o x) (hb : Below w.heap.size w V) : rangeN V g o x := h.keep (hb.block g h.lt)
theorem rangeN.drew (h : rangeN w g o x) : rangeN w.drew g o x := ⟨h.out⟩
theorem rangeN.wr (h : rangeN w g o x) {g' : Nat} (k : Wr w V g') (hne : g ≠ g') : rangeN V g o x := h.keep (k.far g hne)
end
theorem rangeN.of {w : World} {g o : Nat} {x : Rd} (h : w.rangeAt g o (kcl x)) : rangeN w g o x := ⟨h⟩
set_option maxRecDepth 100000 in
set_option maxHeartbeats 4000000 in
theorem replay_c (A : Option Addr) (n c : Nat) (L : List Rd) (w : World) (h : RR w kcl 8 A n c L) (hn : n ≤ 90000) (hok : OkL L) : Calls Try.prog 18 #[.slice A n c] w (RpPost w L) := by
  have hlen := Lib.hid h.len
  go_enter Try.func18, Try.ntmps18
  go_wp2_with fail
  (with_reducible refine (chair_new w).mono ?_)
  rintro e w1 ⟨b, m, rfl, q1, q2, q3, q4, q5⟩
  have hst : ST w.heap.size w w1 b m none (fun _ => none) [] := ⟨q1, (by rintro i (rfl | rfl | e) <;> first | assumption | cases e), q5⟩
  clear q1 q2 q3 q4 q5
  go_wp2_with fail
  go_loopw [12] (fun iv wr => ∃ (k : Nat) (G : Option Nat) (D : DM), k ≤ n ∧ iv = .int .i64 k ∧ ST w.heap.size w wr b m G D (L.take k)) (fun iv _ => n - (intOf iv).toNat)
  case atStart => exact ⟨0, none, _, by omega, rfl, by rw [List.take_zero]; exact hst⟩
  case round =>
    clear hst
    obtain ⟨k, G, D, hk, rfl, hst⟩ := hrel
    by_cases hlt : k < n
    · have l1 : (k : Int) < n := by omega
      have l2 : (0 : Int) ≤ (k : Int) := by omega
      obtain ⟨ga, ofa, x, hx, rfl, hr⟩ := (h.on hst.low).elem hlt
      have hr : wr.rangeAt ga (ofa + k * 8) (rA x).toList := hr
      have hw := hok.at_ hx
      have hT := Lib.hid (takeR hx)
      have hbad := Lib.hid (fun he => repl_take hx hst.cr.lo (x := x) he)
      have hkl : (L.take k).length ≤ 90000 := by simp; omega
      clear hx
      go_wp2_with (first | ((with_reducible refine st_elem 33 _ ga (ofa + k * 8) (rA x) ?_ hr Try.underlying33 ?_ ?_ ?_); exact rfl; exact rfl; exact Try.zRk) | ((with_reducible refine st_alloc 33 (rA zeroR) ?_ ?_); exact zero_rk))
      refine ⟨fun V1 g1 n1 f1 => ?_⟩
      have hnw := hst.fresh (Nat.le_of_eq f1.at_)
      have hup : w.heap.size ≤ g1 := Nat.le_trans hst.le (Nat.le_of_eq f1.at_)
      have st1 := hst.on f1.bel
      clear hst hr f1
      go_wp2_with (first | ((with_reducible refine st_store 33 _ _ g1 (rA x) ?_ ?_ n1 ?_ ?_ ?_ ?_); exact rfl; exact rfl; exact Try.zRk; exact rfl; exact rA_one _))
      refine ⟨fun V2 n2 k2 => ?_⟩
      have st2 := st1.wr k2 hnw hup
      have hdo := do_c b m G D (L.take k) x V2 st2.cr hw (by omega)
      clear st1 k2 n1 hup hw hkl
      go_wp2_with (first | ((with_reducible refine st_load 33 _ g1 ?_ n2 Try.underlying33 ?_ ?_ ?_); exact rfl; exact rfl; exact Try.zRk))
      (with_reducible refine hdo.mono ?_)
      intro e w3 hp
      obtain ⟨rfl, G', ht, _, _⟩ := st2.done hp
      clear hp hdo st2 n2 hnw
      by_cases he : eDoC D x = 0
      · have hl : lDoC D (L.take k) x = L.take (k + 1) := by rw [lDoC_z _ he, hT.out]
        rw [hl] at ht
        have Ht := Lib.hid ht
        rw [he]
        clear ht hl he hbad
        go_wp2_with fail
        go_roundw
        case rel => exact ⟨k + 1, G', _, by omega, by go_num, Ht.out⟩
        case measure => simp [intOf]; omega
      · have H := Lib.hid (RpPost.no (hbad.out he) ht.low)
        obtain ⟨E, hE⟩ : ∃ E, eDoC D x = E := ⟨_, rfl⟩
        rw [hE] at he ⊢
        have q5 : ((E : Int) != 0) = true := by simp [he]
        have q6 : (E != 0) = true := by simp [he]
        clear ht hbad hT he hE
        go_wp2_with fail
        go_ret2
        exact H.out
    · obtain rfl : k = n := by omega
      rw [List.take_of_length_le (by rw [hlen.out]; exact Nat.le_refl _)] at hst
      have H := Lib.hid (RpPost.yes hst)
      clear hst
      go_wp2_with fail
      go_ret2
      exact H.out
/-- Behind played. -/
def PlPost (w : World) (L : List Rd) (e : Ending) (w' : World) : Prop := ∃ b m G, e = .returned (.pointer (some ⟨b, 0, none⟩)) ∧ ST w.heap.size w w' b m G (plD (L.take 120)) (plL (L.take 120))
set_option maxRecDepth 100000 in
set_option maxHeartbeats 4000000 in
theorem played_c (A : Option Addr) (n c : Nat) (L : List Rd) (w : World) (h : RR w kcl 8 A n c L) (hok : OkL L) : Calls Try.prog 17 #[.slice A n c] w (PlPost w L) := by
  have hlen := Lib.hid h.len
  have hmx : n ≤ maxLen := Nat.le_trans h.cap h.max
  simp only [maxLen] at hmx
  go_enter Try.func17, Try.ntmps17
  go_wp2_with fail
  (with_reducible refine (chair_new w).mono ?_)
  rintro e w1 ⟨b, m, rfl, q1, q2, q3, q4, q5⟩
  have hst : ST w.heap.size w w1 b m none (fun _ => none) [] := ⟨q1, (by rintro i (rfl | rfl | e) <;> first | assumption | cases e), q5⟩
  clear q1 q2 q3 q4 q5
  go_wp2_with fail
  go_loopw [4] (fun iv wr => ∃ (k : Nat) (G : Option Nat), k ≤ n ∧ k ≤ 120 ∧ iv = .int .i64 k ∧ ST w.heap.size w wr b m G (plD (L.take k)) (plL (L.take k))) (fun iv _ => n - (intOf iv).toNat)
  case atStart => exact ⟨0, none, by omega, by omega, rfl, by rw [List.take_zero]; exact hst⟩
  case round =>
    clear hst
    obtain ⟨k, G, hk, hk2, rfl, hst⟩ := hrel
    by_cases hlt : k < n
    · have l1 : decide ((k : Int) < n) = true := by simp; omega
      have l1' : (k : Int) < n := by omega
      have l2 : (0 : Int) ≤ (k : Int) := by omega
      by_cases hl2 : k < 120
      · have l3 : decide ((k : Int) < 120) = true := by simp; omega
        obtain ⟨ga, ofa, x, hx, rfl, hr⟩ := (h.on hst.low).elem hlt
        have hr : wr.rangeAt ga (ofa + k * 8) (rA x).toList := hr
        have hw := hok.at_ hx
        have hTD := Lib.hid (show plD (L.take (k + 1)) = sDoC (plD (L.take k)) x by rw [takeR hx, plD_snoc])
        have hTL := Lib.hid (show plL (L.take (k + 1)) = lDoC (plD (L.take k)) (plL (L.take k)) x by rw [takeR hx, plL_snoc])
        have hll := plL_len (L.take k)
        have hl4 : (L.take k).length ≤ k := by simp; omega
        clear hx
        generalize plD (L.take k) = D at *
        generalize plL (L.take k) = K at *
        have hdo := do_c b m G D K x wr hst.cr hw (by omega)
        clear hw hll hl4
        go_wp2_with (first | ((with_reducible refine st_elem 34 _ ga (ofa + k * 8) (rA x) ?_ hr Try.underlying34 ?_ ?_ ?_); exact rfl; exact rfl; exact Try.zRr))
        (with_reducible refine hdo.mono ?_)
        intro e w3 hp
        obtain ⟨rfl, G', ht, _, _⟩ := hst.done hp
        rw [← hTD.out, ← hTL.out] at ht
        have Ht := Lib.hid ht
        clear hp hdo ht hr hst hTD hTL
        go_wp2_with fail
        go_roundw
        case rel => exact ⟨k + 1, G', by omega, by omega, by go_num, Ht.out⟩
        case measure => simp [intOf]; omega
      obtain rfl : k = 120 := by omega
      have l3 : decide (((120 : Nat) : Int) < 120) = false := by simp
      go_wp2_with fail
      go_ret
      exact ⟨b, m, G, rfl, hst⟩
    · obtain rfl : k = n := by omega
      have l1 : decide ((k : Int) < k) = false := by simp
      have e : L.take k = L.take 120 := by rw [List.take_of_length_le (by rw [hlen.out]; exact Nat.le_refl _), List.take_of_length_le (by rw [hlen.out]; exact hk2)]
      rw [e] at hst
      clear e
      go_wp2_with fail
      go_ret
      exact ⟨b, m, G, rfl, hst⟩
end Go.Proofs.Ytjfmahceolhfnaa
