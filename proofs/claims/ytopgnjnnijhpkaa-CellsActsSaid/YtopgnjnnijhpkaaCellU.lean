/-
  The law's own comparison 'same': it returns true where the cells hold what the slice holds, and leaves all memory that was there. Conditions: the cells and the slice read as the predicates CE and Seg say.
-/
import Derived.Test.YtopgnjnnijhpkaaCellH
import Derived.Test.YtopgnjnnijhpkaaCellP1
import Derived.StillTailTactics
namespace Go.Proofs.Ytopgnjnnijhpkaa
open Go.RowKit Go.Shelf Go.Maps UI
attribute [local go_sem] Oper.semAt_some

/-- The document's cells in memory: a slice that reads as L. -/
def RS (w : World) (a : Option Addr) (n cap : Nat) (L : List (Int × Int)) : Prop := n = L.length ∧ ∃ G, Seg w 77 2 a L.length cap (cel L) G

theorem RS.keep {w w' : World} {a : Option Addr} {n cap : Nat} {L : List (Int × Int)} (h : RS w a n cap L) (hb : Below w.heap.size w w') : RS w' a n cap L := by
  obtain ⟨h1, G, h2⟩ := h
  exact ⟨h1, G, h2.keep fun g hg => hb.block g (h2.lt g hg)⟩
theorem RS.cf {w w' : World} {a : Option Addr} {n cap : Nat} {L : List (Int × Int)} (h : RS w a n cap L) {B c : Nat} (hf : CF B w w' c) {cs : Array Value} (hc : CB w c 73 cs) : RS w' a n cap L := by
  obtain ⟨h1, G, h2⟩ := h
  exact ⟨h1, G, hf.seg h2 (h2.ne_ hc (by decide))⟩
theorem RS.at_ {w : World} {a : Option Addr} {n cap : Nat} {L : List (Int × Int)} (h : RS w a n cap L) {k : Nat} (hk : k < L.length) :
    ∃ g off, a = some ⟨g, off, none⟩ ∧ w.cell? ⟨g, off + k * 2, none⟩ = some (.int .u8 (kth L k).1) ∧ w.cell? ⟨g, off + k * 2 + 1, none⟩ = some (.int .i64 (kth L k).2) := by
  obtain ⟨h1, G, h2⟩ := h
  obtain ⟨e1, e2⟩ := cel_at L hk
  obtain ⟨g, off, rfl, rfl, hc1⟩ := h2.at_ e1
  obtain ⟨g', off', eA, _, hc2⟩ := h2.at_ e2
  cases eA
  rw [← Nat.add_assoc] at hc2
  exact ⟨g, off, rfl, hc1, hc2⟩
theorem RS.far {w : World} {a : Option Addr} {n cap : Nat} {L : List (Int × Int)} (h : RS w a n cap L) {g : Nat} {t : TypeId} {cs : Array Value} (hc : CB w g t cs) (ht : 77 ≠ t) (i : Nat) (u : Value) : RS (w.setCell ⟨g, i, none⟩ u) a n cap L := by
  obtain ⟨h1, G, h2⟩ := h
  exact ⟨h1, G, h2.far (p := ⟨g, i, none⟩) (h2.ne_ hc ht) u⟩

/-- Behind k rounds of the loop in 'same'. -/
structure SameI (w : World) (s B c : Nat) (room : Int) (a A : Option Addr) (cap cp : Nat) (G : Option Nat) (L S : List (Int × Int)) (k : Nat) (W : World) : Prop where
  cl : CB W s 26 #[.slice a L.length cap]
  cr : CB W (s + 1) 4 #[.bool false]
  ci : CB W (s + 1 + 1) 3 #[.int .i64 k]
  row : Seg W 112 2 A L.length cp (cel L) G
  cells : CE B W c room L S
  low : Below s w W

set_option maxRecDepth 100000 in
set_option maxHeartbeats 400000 in
theorem same_ok (B c : Nat) (room : Int) (L S : List (Int × Int)) (a : Option Addr) (cap : Nat) (w : World) (hc : CE B w c room L S) (hl : RS w a L.length cap L) :
    Calls Try.prog 19 #[.pointer (some ⟨c, 0, none⟩), .slice a L.length cap] w fun e w' => e = .returned (.bool true) ∧ Below w.heap.size w w' := by
  obtain ⟨w3, hw3⟩ : ∃ w3, w3 = ((w.alloc (.cells #[.slice a L.length cap] 26)).alloc (.cells #[.bool false] 4)).alloc (.cells #[.int .i64 0] 3) := ⟨_, rfl⟩
  have k1 : CB w3 w.heap.size 26 #[.slice a L.length cap] := by rw [hw3]; exact ((CB.new _ _ _).alloc _).alloc _
  have k2 : CB w3 (w.heap.size + 1) 4 #[.bool false] := by
    rw [hw3]
    have := (CB.new (w.alloc (.cells #[.slice a L.length cap] 26)) 4 #[.bool false]).alloc (.cells #[.int .i64 0] 3)
    simpa using this
  have k3 : CB w3 (w.heap.size + 1 + 1) 3 #[.int .i64 0] := by
    rw [hw3]
    have := CB.new ((w.alloc (.cells #[.slice a L.length cap] 26)).alloc (.cells #[.bool false] 4)) 3 #[.int .i64 0]
    simpa using this
  have kB : Below w.heap.size w w3 := by rw [hw3]; exact (((Below.refl _ _).alloc (Nat.le_refl _) _).alloc (by simp) _).alloc (by simp; omega) _
  have ks : w3.heap.size = w.heap.size + 3 := by rw [hw3]; simp
  have kc : CE B w3 c room L S := hc.below kB (Nat.le_refl _)
  have hlen := hc.len
  refine (callsIn_wide (n := 0)).1 ?_
  refine callsIn_of_wp_marks Try.func19 rfl trivial ?_ rfl
  simp only [Try.ntmps19, List.size_toArray, List.length_cons, List.length_nil, Nat.reduceAdd, Nat.reduceSub, Array.replicate_succ, Array.replicate_zero, List.push_toArray, List.append_toArray, List.nil_append, List.cons_append]
  have Hw3 := Lib.hid hw3
  clear hw3
  have Hks := Lib.hid ks
  clear ks
  gi_wp2_with fail
  rw [← Hw3.out]
  refine ⟨trivial, rfl, (callsIn_wide.2 (all_c B c room L S w3 kc)).mono ?_⟩
  rintro e wA ⟨A, cp, G, rfl, hsg, hG, hBA⟩
  have jc : CE B wA c room L S := kc.below hBA (Nat.le_refl _)
  rw [Hks.out] at hG hBA
  have hsz := hBA.size
  rw [Hks.out] at hsz
  have j1 := k1.same (hBA.block _ (by omega))
  have j2 := k2.same (hBA.block _ (by omega))
  have j3 := k3.same (hBA.block _ (by omega))
  have jB : Below w.heap.size w wA := kB.trans (hBA.mono (by omega))
  clear k1 k2 k3 kB hBA Hw3 Hks kc hc
  gi_wp2_with fail
  refine range_law_a (gf := 47) (fb := #[.slice A L.length cp]) rfl (enters_of Try.func47 (by kernel_rfl) rfl) (row_iter A cp L G hlen) (fun _ => rfl)
    (SameI w w.heap.size B c room a A cap cp G L S) (fun _ _ => False) (fun _ _ hh => hh.row) ?hI (fun _ _ _ hh _ => hh) ?hA ?h0
    (fun k => { tmps := #[.pointer (some ⟨c, 0, none⟩), .slice a L.length cap, undef, .pointer (some ⟨w.heap.size, 0, none⟩), .pointer (some ⟨w.heap.size + 1, 0, none⟩), .pointer (some ⟨w.heap.size + 1 + 1, 0, none⟩), .int .u8 (kth L k).1, .int .i64 (kth L k).2,
      .pointer (some ⟨c, 0, none⟩), .func (.func 47) #[.slice A L.length cp] #[], .int .u8 (kth L k).1, .int .i64 (kth L k).2, undef, undef, undef, undef, undef, undef, undef, undef, undef, undef, undef, undef, undef, undef, undef, undef, undef, undef, undef, undef, undef, undef, undef, undef, undef, undef, undef, undef, undef, undef, undef, undef, undef, undef, undef], defers := [] }) ?assign ?body ?done ?stop
  case hI =>
    rintro k W o ⟨q1, q2, q3, q4, q5, q6⟩ hbk
    exact ⟨q1.putBook hbk _, q2.putBook hbk _, q3.putBook hbk _, q4.putBook hbk _, q5.putBook hbk _, below_putObj q6 (by omega) _⟩
  case hA =>
    rintro k W cs t ⟨q1, q2, q3, q4, q5, q6⟩ hlt
    exact ⟨q1.alloc _, q2.alloc _, q3.alloc _, q4.alloc _, q5.alloc _, q6.alloc (by omega) _⟩
  case h0 =>
    intro r
    exact ⟨(j1.alloc _).alloc _, (j2.alloc _).alloc _, (j3.alloc _).alloc _, (hsg.alloc _).alloc _, (jc.alloc _).alloc _, (jB.alloc (by omega) _).alloc (by simp; omega) _⟩
  case assign =>
    intro l k W K hK
    gi_wp2
    exact hK
  case body =>
    rintro l k W hk ⟨q1, q2, q3, q4, q5, q6⟩ bk1 bk2
    obtain ⟨g, off, rfl, d1, d2⟩ := (hl.keep q6).at_ hk
    generalize kth L k = x at *
    obtain ⟨xk, xv⟩ := x
    simp only at d1 d2
    clear j1 j2 j3 hsg jc hl
    have c1 := q1.cell 0
    have c3 := q3.cell 0
    have f3 := q3.frozen 0
    simp only [List.getElem?_toArray, List.getElem?_cons_zero] at c1 c3
    have hend : SameI w w.heap.size B c room (some ⟨g, off, none⟩) A cap cp G L S (k + 1) (W.setCell ⟨w.heap.size + 1 + 1, 0, none⟩ (.int .i64 ((k : Int) + 1))) :=
      ⟨q1.far (by simp; omega) _, q2.far (by simp) _, by simpa using q3.put 0 (.int .i64 ((k : Int) + 1)), q4.far (q4.ne_ q3 (by decide)) _, q5.far q3 (by decide) 0 _, q6.setCell (p := ⟨w.heap.size + 1 + 1, 0, none⟩) (by simp; omega) _⟩
    have hend2 : Keep2 wA.heap.size W (W.setCell ⟨w.heap.size + 1 + 1, 0, none⟩ (.int .i64 ((k : Int) + 1))) := (Keep2.refl _ _).put (q3.noBook bk1) (q3.noBook bk2) _
    have Hend := Lib.hid hend
    have Hend2 := Lib.hid hend2
    have hkn : ¬ L.length ≤ k := by omega
    clear q1 q2 q3 q4 q5 q6 bk1 bk2 hend hend2
    gi_wp2
    exact ⟨Hend2.out, Hend.out⟩
  case done =>
    rintro W ⟨q1, q2, q3, q4, q5, q6⟩ hK
    have c1 := q1.cell 0
    have c2 := q2.cell 0
    have c3 := q3.cell 0
    have f2 := q2.frozen 0
    simp only [List.getElem?_toArray, List.getElem?_cons_zero] at c1 c2 c3
    clear j1 j2 j3 hsg jc hl
    gi_wp2
    refine wpIn_wide.2 ?_
    go_still_tail 11, (by kernel_rfl)
    still_call ((len_c B c room L S W.drew q5.drew).mono fun e w' hh => ⟨hh.1, hh.2.symm⟩)
    repeat still_step
    refine wpStill_nil ?_
    change wpList _ _ _ _ _ W.drew
    have d2 : W.drew.cell? ⟨w.heap.size + 1, 0, none⟩ = some (.bool false) := c2
    have e2 : W.drew.frozen? ⟨w.heap.size + 1, 0, none⟩ = false := f2
    have hq5 : Below w.heap.size w W.drew := q6.drew
    have hq2 : CB W.drew (w.heap.size + 1) 4 #[.bool false] := q2
    have hK2 : W.drew.heap[wA.heap.size]? = some (.deferred (some [])) := hK
    generalize W.drew = W2 at *
    clear c1 c2 c3 f2 q1 q2 q3 q4 q5 q6 hK
    go_wp2
    gi_wp2
    have hbk : Book W2 wA.heap.size := .inr ⟨_, hK2⟩
    have hK3 : (W2.setCell ⟨w.heap.size + 1, 0, none⟩ (.bool true)).heap[wA.heap.size]? = some (.deferred (some [])) := (Below.heap_setCell _ _ _ _ (hq2.noBook hbk).symm).trans hK2
    have hq3 := (hq2.put 0 (.bool true)).putBook (.inr ⟨_, hK3⟩) (.deferred none)
    have hc5 := hq3.cell 0
    simp only [Array.getElem?_setIfInBounds, List.size_toArray, List.length_cons, List.length_nil, if_true, Nat.zero_add, Nat.zero_lt_one] at hc5
    refine ⟨by simp, .inl ⟨_, _, rfl, run_takeDeferred hK3, ?_⟩⟩
    refine ⟨.bool true, ?_, rfl, below_putObj (hq5.setCell (p := ⟨w.heap.size + 1, 0, none⟩) (by simp) _) (by omega) _⟩
    simp [results, Try.results19, go_sem, hc5]
  case stop => exact fun _ _ hh => hh.elim
end Go.Proofs.Ytopgnjnnijhpkaa
