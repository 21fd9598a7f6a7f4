/-
  The law's own comparison 'same': it returns true where the queue holds what the slice holds, and leaves all memory that was there. Conditions: the queue and the slice read as the predicates RG and Came1 say.
-/
import Derived.Test.YtbdejcmlcjljkaaRingC
import Derived.Test.YtbdejcmlcjljkaaCame
import Derived.StillTailTactics
namespace Go.Proofs.Ytbdejcmlcjljkaa
open Go.RowKit Go.Shelf
attribute [local go_sem] Oper.semAt_some

theorem RG.below {B : Nat} {w w' : World} {b : Nat} {room : Int} {G : Option Nat} {xs : List Int} (h : RG w b room G xs) (hB : Below B w w') (h1 : b < B) (h2 : ∀ g, G = some g → g < B) : RG w' b room G xs := by
  obtain ⟨A, n, c, q1, q2⟩ := h
  exact ⟨A, n, c, q1.same (hB.block b h1), q2.keep fun g hg => hB.block g (h2 g hg)⟩
theorem RG.lt {w : World} {b : Nat} {room : Int} {G : Option Nat} {xs : List Int} (h : RG w b room G xs) : b < w.heap.size ∧ ∀ g, G = some g → g < w.heap.size := by
  obtain ⟨A, n, c, q1, q2⟩ := h
  exact ⟨q1.lt, q2.lt⟩

/-- Behind k rounds of the loop in 'same'. -/
def SameI (w : World) (s : Nat) (a A : Option Addr) (cap c : Nat) (G : Option Nat) (xs : List Int) (k : Nat) (W : World) : Prop :=
  CB W s 27 #[.slice a xs.length cap] ∧ CB W (s + 1) 4 #[.bool false] ∧ CB W (s + 1 + 1) 3 #[.int .i64 k] ∧ Seg W 2 1 A xs.length c (xs.map (.int .i64)) G ∧ Below s w W

set_option maxRecDepth 100000 in
set_option maxHeartbeats 400000 in
theorem same_ok (b : Nat) (room : Int) (G : Option Nat) (xs : List Int) (a : Option Addr) (cap : Nat) (w : World) (hb : RG w b room G xs) (h : 0 < room) (hm : xs.length ≤ 10000) (hl : Came1 .i64 w a xs) :
    Calls Try.prog 19 #[.pointer (some ⟨b, 0, none⟩), .slice a xs.length cap] w fun e w' => e = .returned (.bool true) ∧ Below w.heap.size w w' := by
  obtain ⟨hb1, hb2⟩ := hb.lt
  obtain ⟨w3, hw3⟩ : ∃ w3, w3 = ((w.alloc (.cells #[.slice a xs.length cap] 27)).alloc (.cells #[.bool false] 4)).alloc (.cells #[.int .i64 0] 3) := ⟨_, rfl⟩
  have k1 : CB w3 w.heap.size 27 #[.slice a xs.length cap] := by rw [hw3]; exact ((CB.new _ _ _).alloc _).alloc _
  have k2 : CB w3 (w.heap.size + 1) 4 #[.bool false] := by
    rw [hw3]
    have := (CB.new (w.alloc (.cells #[.slice a xs.length cap] 27)) 4 #[.bool false]).alloc (.cells #[.int .i64 0] 3)
    simpa using this
  have k3 : CB w3 (w.heap.size + 1 + 1) 3 #[.int .i64 0] := by
    rw [hw3]
    have := CB.new ((w.alloc (.cells #[.slice a xs.length cap] 27)).alloc (.cells #[.bool false] 4)) 3 #[.int .i64 0]
    simpa using this
  have kB : Below w.heap.size w w3 := by rw [hw3]; exact (((Below.refl _ _).alloc (Nat.le_refl _) _).alloc (by simp) _).alloc (by simp; omega) _
  have ks : w3.heap.size = w.heap.size + 3 := by rw [hw3]; simp
  refine (callsIn_wide (n := 0)).1 ?_
  refine callsIn_of_wp_marks Try.func19 rfl trivial ?_ rfl
  simp only [Try.ntmps19, List.size_toArray, List.length_cons, List.length_nil, Nat.reduceAdd, Nat.reduceSub, Array.replicate_succ, Array.replicate_zero, List.push_toArray, List.append_toArray, List.nil_append, List.cons_append]
  have Hw3 := Lib.hid hw3
  clear hw3
  have Hks := Lib.hid ks
  clear ks
  gi_wp2_with fail
  rw [← Hw3.out]
  refine ⟨trivial, rfl, (callsIn_wide.2 (all_ok b room G xs w3 (hb.below kB hb1 hb2) h hm)).mono ?_⟩
  rintro e wA ⟨A, c, G', rfl, hsg, hG', hBA⟩
  rw [Hks.out] at hG' hBA
  have hsz := hBA.size
  rw [Hks.out] at hsz
  have j1 := k1.same (hBA.block _ (by omega))
  have j2 := k2.same (hBA.block _ (by omega))
  have j3 := k3.same (hBA.block _ (by omega))
  have jB : Below w.heap.size w wA := kB.trans (hBA.mono (by omega))
  clear k1 k2 k3 kB hBA Hw3 Hks
  gi_wp2_with fail
  refine range_law (gf := 35) (fb := #[.slice A xs.length c]) rfl (enters_of Try.func35 (by kernel_rfl) rfl) (each_iter A c xs G' (by simp only [maxLen]; omega)) (fun _ => rfl)
    (SameI w w.heap.size a A cap c G' xs) (fun _ _ => False) (fun _ _ hh => hh.2.2.2.1) ?hI (fun _ _ _ hh _ => hh) ?h0
    (fun k => { tmps := #[.pointer (some ⟨b, 0, none⟩), .slice a xs.length cap, undef, .pointer (some ⟨w.heap.size, 0, none⟩), .pointer (some ⟨w.heap.size + 1, 0, none⟩), .pointer (some ⟨w.heap.size + 1 + 1, 0, none⟩), .int .i64 (xs[k]?.getD 0),
      .pointer (some ⟨b, 0, none⟩), .func (.func 35) #[.slice A xs.length c] #[], .int .i64 (xs[k]?.getD 0), undef, undef, undef, undef, undef, undef, undef, undef, undef, undef, undef, undef, undef, undef, undef, undef, undef, undef, undef, undef, undef, undef, undef, undef, undef], defers := [] }) ?assign ?body ?done ?stop
  case hI =>
    rintro k W o ⟨q1, q2, q3, q4, q5⟩ hbk
    exact ⟨q1.putBook hbk _, q2.putBook hbk _, q3.putBook hbk _, q4.putBook hbk _, below_putObj q5 (by omega) _⟩
  case h0 =>
    intro r
    exact ⟨(j1.alloc _).alloc _, (j2.alloc _).alloc _, (j3.alloc _).alloc _, (hsg.alloc _).alloc _, (jB.alloc (by omega) _).alloc (by simp; omega) _⟩
  case assign =>
    intro l k W K hK
    gi_wp2
    exact hK
  case body =>
    rintro l k W hk ⟨q1, q2, q3, q4, q5⟩ bk1 bk2
    obtain ⟨ba, oa, x, rfl, hx, hc⟩ := hl.at_ q5 hk
    have hx' : xs[k]?.getD 0 = x := by rw [hx.out]; rfl
    rw [hx']
    clear hx' hx j1 j2 j3 hsg hb hb2
    have c1 := q1.cell 0
    have c3 := q3.cell 0
    have f3 := q3.frozen 0
    simp only [List.getElem?_toArray, List.getElem?_cons_zero] at c1 c3
    have hend : SameI w w.heap.size (some ⟨ba, oa, none⟩) A cap c G' xs (k + 1) (W.setCell ⟨w.heap.size + 1 + 1, 0, none⟩ (.int .i64 ((k : Int) + 1))) :=
      ⟨q1.far (by simp; omega) _, q2.far (by simp) _, by simpa using q3.put 0 (.int .i64 ((k : Int) + 1)), q4.far (q4.ne_ q3 (by decide)) _, q5.setCell (p := ⟨w.heap.size + 1 + 1, 0, none⟩) (by simp; omega) _⟩
    have hend2 : Keep2 wA.heap.size W (W.setCell ⟨w.heap.size + 1 + 1, 0, none⟩ (.int .i64 ((k : Int) + 1))) := (Keep2.refl _ _).put (q3.noBook bk1) (q3.noBook bk2) _
    clear q1 q2 q3 q4 q5 bk1 bk2
    gi_wp2
    exact ⟨hend2, hend⟩
  case done =>
    rintro W ⟨q1, q2, q3, q4, q5⟩ hK
    have c1 := q1.cell 0
    have c2 := q2.cell 0
    have c3 := q3.cell 0
    have f2 := q2.frozen 0
    simp only [List.getElem?_toArray, List.getElem?_cons_zero] at c1 c2 c3
    have hbW := hb.below q5 hb1 hb2
    clear j1 j2 j3 hsg hb
    gi_wp2
    refine wpIn_wide.2 ?_
    go_still_tail 11, (by kernel_rfl)
    still_call ((len_any b room G xs W.drew (hbW.below (Below.refl _ _).drew hbW.lt.1 hbW.lt.2) h).mono fun e w' hh => ⟨hh.1, hh.2.symm⟩)
    repeat still_step
    refine wpStill_nil ?_
    change wpList _ _ _ _ _ W.drew
    have d2 : W.drew.cell? ⟨w.heap.size + 1, 0, none⟩ = some (.bool false) := c2
    have e2 : W.drew.frozen? ⟨w.heap.size + 1, 0, none⟩ = false := f2
    have hq5 : Below w.heap.size w W.drew := q5.drew
    have hq2 : CB W.drew (w.heap.size + 1) 4 #[.bool false] := q2
    have hK2 : W.drew.heap[wA.heap.size]? = some (.deferred (some [])) := hK
    generalize W.drew = W2 at *
    clear c1 c2 c3 f2 hbW q1 q2 q3 q4 q5 hK
    go_wp2
    gi_wp2
    have hbk : Book W2 wA.heap.size := .inr ⟨_, hK2⟩
    have hK3 : (W2.setCell ⟨w.heap.size + 1, 0, none⟩ (.bool true)).heap[wA.heap.size]? = some (.deferred (some [])) := (Below.heap_setCell _ _ _ _ (hq2.noBook hbk).symm).trans hK2
    have hq3 := (hq2.put 0 (.bool true)).putBook (.inr ⟨_, hK3⟩) (.deferred none)
    have hc5 := hq3.cell 0
    simp only [Array.getElem?_setIfInBounds, List.size_toArray, List.length_cons, List.length_nil, if_true, Nat.zero_add, Nat.zero_lt_one] at hc5
    refine ⟨by simp, .inl ⟨_, _, rfl, run_takeDeferred hK3, ?_⟩⟩
    refine ⟨.bool true, ?_, rfl, below_putObj (hq5.setCell (p := ⟨w.heap.size + 1, 0, none⟩) (by simp) _) (by omega) _⟩
    simp [results, Try.results19, go_sem, hc5]
  case stop => exact fun _ _ hh => hh.elim

end Go.Proofs.Ytbdejcmlcjljkaa
