/-
  Which wheels may be: ahead, ordered, distinct and Right of package wheel. Condition: the timers can be read, a hundred thousand at most.
-/
import Derived.Test.YtgpmgghjcocfmaaWhA
set_option linter.unusedVariables false
set_option linter.unusedSimpArgs false
namespace Go.Proofs.Ytgpmgghjcocfmaa
open Go.RowKit

set_option maxRecDepth 100000 in
set_option maxHeartbeats 1000000 in
theorem ahead_w (A : Option Addr) (n c : Nat) (now : Int) (L : List (Int × Int)) (w : World) (h : TR w A n c L) (hn : n ≤ 100000) :
    Calls Try.prog 31 #[.slice A n c, .int .i64 now] w fun e w' => e = .returned (.bool (decide (AheadP now L))) ∧ Below w.heap.size w w' := by
  have hlen := Lib.hid h.len
  go_enter Try.func31, Try.ntmps31
  go_wp2_with fail
  go_loopw [9] (fun i wr => ∃ j : Nat, j ≤ n ∧ i = .int .i64 j ∧ AheadP now (L.take j) ∧ Below w.heap.size w wr) (fun i _ => n - (intOf i).toNat)
  case atStart => exact ⟨0, by omega, rfl, fun p hp => by simp at hp, Below.refl _ _⟩
  case round =>
    obtain ⟨j, hj, rfl, ha, hlow⟩ := hrel
    have Ha := Lib.hid ha
    clear ha
    by_cases hlt : j < n
    · obtain ⟨g, off, rfl, _, d1, d2⟩ := (h.on hlow).at_ hlt
      have htk := Lib.hid (tk_take (L := L) (j := j) (by rw [hlen.out]; exact hlt))
      generalize tk L j = x at *
      obtain ⟨xk, xv⟩ := x
      simp only at d1 d2
      have hl2 : Below w.heap.size w (wr.alloc (.cells #[.int .i64 xk, .int .i64 xv] 66)) := hlow.alloc hlow.size _
      have HL2 := Lib.hid hl2
      clear hl2 hlow
      by_cases hok : now < xv ∧ xv ≤ lastT
      · obtain ⟨o1, o2⟩ := hok
        have k1 : ¬ xv ≤ now := by omega
        have k2 : ¬ 1099511627776 < xv := by simp only [lastT] at o2; omega
        have Hn := Lib.hid (show AheadP now (L.take (j + 1)) by rw [htk.out, ahead_snoc]; exact ⟨Ha.out, o1, o2⟩)
        clear o1 o2
        go_wp2_with fail
        go_roundw
        case rel => exact ⟨j + 1, by omega, by go_num, Hn.out, HL2.out⟩
        case measure => simp [intOf]; omega
      · have Hf := Lib.hid (show decide (AheadP now L) = false by
          rw [decide_eq_false_iff_not]
          intro hA
          have := hA.sub (List.take_sublist (j + 1) L)
          rw [htk.out, ahead_snoc] at this
          exact hok this.2)
        rcases Int.lt_or_le now xv with hx | hx
        · have k1 : ¬ xv ≤ now := by omega
          have k2 : 1099511627776 < xv := by simp only [lastT] at hok; omega
          clear hok
          go_wp2_with fail
          go_ret
          exact ⟨by rw [Hf.out]; rfl, HL2.out⟩
        · clear hok
          go_wp2_with fail
          go_ret
          exact ⟨by rw [Hf.out]; rfl, HL2.out⟩
    · obtain rfl : j = n := by omega
      have Ht := Lib.hid (show decide (AheadP now L) = true by
        rw [decide_eq_true_iff]
        have := Ha.out
        rwa [List.take_of_length_le (by rw [hlen.out]; exact Nat.le_refl _)] at this)
      go_wp2_with fail
      go_ret
      exact ⟨by rw [Ht.out]; rfl, hlow⟩

/-- The three cells of a fact on two timers stay where nothing below changes. -/
theorem cell_on {w w' : World} (hb : Below w.heap.size w w') {b o : Nat} {v : Value} (h : w.cell? ⟨b, o, none⟩ = some v) : w'.cell? ⟨b, o, none⟩ = some v := by
  rw [← h]
  exact World.cell?_of_block (a := ⟨b, o, none⟩) (hb.block b (World.block_lt_of_cell? w _ h))

set_option maxRecDepth 100000 in
set_option maxHeartbeats 1000000 in
theorem ordered_w (A : Option Addr) (n c : Nat) (L : List (Int × Int)) (w : World) (h : TR w A n c L) (hn : n ≤ 100000) :
    Calls Try.prog 32 #[.slice A n c] w fun e w' => e = .returned (.bool (decide (OrdP L))) ∧ Below w.heap.size w w' := by
  have hlen := Lib.hid h.len
  go_enter Try.func32, Try.ntmps32
  go_wp2_with fail
  go_loopw [3] (fun i wr => ∃ j : Nat, 1 ≤ j ∧ (j ≤ n ∨ n = 0 ∧ j = 1) ∧ i = .int .i64 j ∧ OrdP (L.take j) ∧ Below w.heap.size w wr) (fun i _ => n - (intOf i).toNat)
  case atStart =>
    refine ⟨1, by omega, by omega, rfl, ?_, Below.refl _ _⟩
    have h1 : (L.take 1).length ≤ 1 := by simp; omega
    unfold OrdP
    match L.take 1, h1 with
    | [], _ => exact List.Pairwise.nil
    | [x], _ => simp
  case round =>
    obtain ⟨j, hj1, hj, rfl, ha, hlow⟩ := hrel
    have Ha := Lib.hid ha
    clear ha
    by_cases hlt : j < n
    · obtain ⟨g, off, rfl, _, d1, d2⟩ := (h.on hlow).at_ hlt
      obtain ⟨g', off', eA, _, d3, d4⟩ := (h.on hlow).at_ (k := j - 1) (by omega)
      cases eA
      have htk := Lib.hid (tk_take (L := L) (j := j) (by rw [hlen.out]; exact hlt))
      have htk2 := Lib.hid (show L.take j = L.take (j - 1) ++ [tk L (j - 1)] by
        have := tk_take (L := L) (j := j - 1) (by rw [hlen.out]; omega)
        rwa [show j - 1 + 1 = j by omega] at this)
      generalize tk L j = x at *
      generalize tk L (j - 1) = y at *
      obtain ⟨xk, xv⟩ := x
      obtain ⟨yk, yv⟩ := y
      simp only at d1 d2 d3 d4
      have hjj : ((j : Int) - 1) = ((j - 1 : Nat) : Int) := by omega
      have hjs : j - 1 < n := by omega
      have q1 : IntKind.i64.wrap ((j : Int) - 1) = ((j - 1 : Nat) : Int) := by rw [hjj]; exact IntWalk.i64_in _ (by omega)
      generalize j - 1 = i at *
      clear hjj
      have hi0 : (0 : Int) ≤ (i : Int) := by omega
      have hi1 : (i : Int) < (n : Int) := by omega
      have hi2 : (i : Int) ≤ (n : Int) := by omega
      have hT : OrdP (L.take (j + 1)) ↔ bef (yk, yv) (xk, xv) := by
        have := Ha.out
        rw [htk2.out] at this
        rw [htk.out, htk2.out]
        exact ord_two this
      have HT := Lib.hid hT
      clear hT
      cases hb : befB (yk, yv) (xk, xv) with
      | true =>
        have Hn := Lib.hid (HT.out.2 (befB_iff.1 hb))
        go_wp2_with fail
        go_region_held3 (fun W' => W'.cell? ⟨g, off + i * 2, none⟩ = some (.int .i64 yk) ∧ W'.cell? ⟨g, off + i * 2 + 1, none⟩ = some (.int .i64 yv) ∧ W'.cell? ⟨g, off + j * 2, none⟩ = some (.int .i64 xk) ∧ W'.cell? ⟨g, off + j * 2 + 1, none⟩ = some (.int .i64 xv)) (first | exact ⟨d3, d4, d1, d2⟩ | exact ⟨cell_on hb1 d3, cell_on hb1 d4, cell_on hb1 d1, cell_on hb1 d2⟩) (first
          | (go_at_call 34; refine (before_c yk yv xk xv wr.drew).mono ?_; rintro e w1 ⟨rfl, hb1⟩; rw [hb]))
        have hlow2 := bel2B hlow hlow.size (below_drew hb1)
        clear d1 d2 d3 d4 hb1 q1 hi0 hi1 hi2 hlow h
        go_wp2_with fail
        go_roundw
        case rel => exact ⟨j + 1, by omega, by omega, by go_num, Hn.out, hlow2⟩
        case measure => simp [intOf]; omega
      | false =>
        have Hf := Lib.hid (show decide (OrdP L) = false by
          rw [decide_eq_false_iff_not]
          intro hA
          exact befB_no.1 hb (HT.out.1 (hA.sub (List.take_sublist (j + 1) L))))
        go_wp2_with fail
        go_region_held3 (fun W' => W'.cell? ⟨g, off + i * 2, none⟩ = some (.int .i64 yk) ∧ W'.cell? ⟨g, off + i * 2 + 1, none⟩ = some (.int .i64 yv) ∧ W'.cell? ⟨g, off + j * 2, none⟩ = some (.int .i64 xk) ∧ W'.cell? ⟨g, off + j * 2 + 1, none⟩ = some (.int .i64 xv)) (first | exact ⟨d3, d4, d1, d2⟩ | exact ⟨cell_on hb1 d3, cell_on hb1 d4, cell_on hb1 d1, cell_on hb1 d2⟩) (first
          | (go_at_call 34; refine (before_c yk yv xk xv wr.drew).mono ?_; rintro e w1 ⟨rfl, hb1⟩; rw [hb]))
        have hlow2 := bel2B hlow hlow.size (below_drew hb1)
        clear d1 d2 d3 d4 hb1 q1 hi0 hi1 hi2 hlow h
        go_wp2_with fail
        go_ret
        exact ⟨by rw [Hf.out]; rfl, hlow2⟩
    · have Ht := Lib.hid (show decide (OrdP L) = true by
        rw [decide_eq_true_iff]
        have := Ha.out
        rwa [List.take_of_length_le (by rw [hlen.out]; omega)] at this)
      have hlt' : ¬ (j : Int) < (n : Int) := by omega
      go_wp2_with fail
      go_ret
      exact ⟨by rw [Ht.out]; rfl, hlow⟩

/-! ### distinct: a map of ids -/
theorem lawI : Maps.Keyed Try.prog 3 := Maps.int_keyed Try.underlying3
def RU : Value → Option (DataW Unit × List MemPlace) := fun _ => some (.nil, [])
def dU (_ : Unit) : DataW Unit := .nil
/-- Block b is a map of ids that reads as s. -/
def MU (w : World) (b : Nat) (s : List (Int × Unit)) : Prop := w.ownsMap Try.prog 3 RU b s.length (dat .i64 dU s) ∧ Srt s
theorem tight {H : Type} {P : Program} {k : TypeId} {R : Value → Option (DataW H × List MemPlace)} {w : World} {b n : Nat} {D : DataW H} (h : w.ownsMap P k R b n D) : w.ownsMap P k R b (Maps.size D) D := by
  obtain ⟨es, clock, hb, F, hs, rfl⟩ := h
  exact ⟨es, clock, hb, F, by simp [Maps.size, length_sorted], rfl⟩
theorem MU.same {w w' : World} {b : Nat} {s : List (Int × Unit)} (h : MU w b s) (e : w'.heap[b]? = w.heap[b]?) : MU w' b s := by
  obtain ⟨⟨es, clock, hb, r⟩, hs⟩ := h
  exact ⟨⟨es, clock, e.trans hb, r⟩, hs⟩
theorem MU.lt {w : World} {b : Nat} {s : List (Int × Unit)} (h : MU w b s) : b < w.heap.size := h.1.lt
theorem MU.alloc {w : World} {b : Nat} {s : List (Int × Unit)} (h : MU w b s) (o : Obj) : MU (w.alloc o) b s := h.same (Below.heap_alloc w o b h.lt)
theorem MU.made (w : World) : MU (w.alloc (.map #[] 0)) w.heap.size [] := ⟨World.ownsMap_made w _ _ _, srt_nil⟩
theorem MU.len {w : World} {b : Nat} {s : List (Int × Unit)} (h : MU w b s) (ty : TypeId) : (Builtin.len_ #[75] ty #[.map (some b)]).run Try.prog w = .ok (.int .i64 s.length) w := by
  have := h.1.len Try.underlying75 ty
  rwa [dat_size] at this
theorem MU.store {w : World} {b : Nat} {s : List (Int × Unit)} (h : MU w b s) (hn : s.length < maxLen) {k : Int} (hk : (Lit.int .i64 k).wf = true) (v : Value) :
    ∃ w', (Instr.mapUpdate 75 (.map (some b)) (.int .i64 k) v).run Try.prog w = .ok () w' ∧ MU w' b (putL s k ()) ∧ w.mapTurned w' b := by
  obtain ⟨w', hrun, ho, ht⟩ := h.1.store (val := v) lawI Try.underlying75 hn (Maps.keyOf_int_mk Try.underlying3 hk) rfl
  have ho' : w'.ownsMap Try.prog 3 RU b (s.length + 1) ((dat .i64 dU s).put (.int .i64 k) (dU ())) := ho
  rw [dat_put] at ho'
  have := tight ho'
  rw [dat_size] at this
  exact ⟨w', hrun, ⟨this, h.2.put k ()⟩, ht⟩

/-- The ids alone. -/
def idl (L : List (Int × Int)) : List (Int × Unit) := L.map fun p => (p.1, ())
theorem snocInd {α : Type} {P : List α → Prop} (h0 : P []) (h1 : ∀ s p, P s → P (s ++ [p])) : ∀ s, P s := by
  intro s
  rw [← List.reverse_reverse s]
  induction s.reverse with
  | nil => exact h0
  | cons a r ih => rw [List.reverse_cons]; exact h1 _ _ ih
theorem has_ofL (k : Int) : ∀ s : List (Int × Unit), (∃ q ∈ ofL s, q.1 = k) ↔ ∃ q ∈ s, q.1 = k := by
  refine snocInd (by simp [ofL]) fun s p ih => ?_
  rw [ofL_snoc]
  constructor
  · rintro ⟨q, hq, rfl⟩
    rcases mem_putL.1 hq with rfl | ⟨hq, _⟩
    · exact ⟨p, by simp, rfl⟩
    · obtain ⟨q', h1, h2⟩ := ih.1 ⟨q, hq, rfl⟩
      exact ⟨q', by simp [h1], h2⟩
  · rintro ⟨q, hq, rfl⟩
    by_cases e : q.1 = p.1
    · exact ⟨(p.1, p.2), mem_putL.2 (.inl rfl), e.symm⟩
    · rcases List.mem_append.1 hq with hq | hq
      · obtain ⟨q', h1, h2⟩ := ih.2 ⟨q, hq, rfl⟩
        exact ⟨q', mem_putL.2 (.inr ⟨h1, by rw [h2]; exact e⟩), h2⟩
      · simp at hq
        subst hq
        exact absurd rfl e
theorem len_ofL : ∀ s : List (Int × Unit), (ofL s).length ≤ s.length ∧ ((ofL s).length = s.length → Apart s) := by
  refine snocInd ⟨by simp [ofL], fun _ => List.Pairwise.nil⟩ fun s p ih => ?_
  rw [ofL_snoc, length_put (srt_ofL s), List.length_append, List.length_singleton]
  obtain ⟨h1, h2⟩ := ih
  split
  · exact ⟨by omega, fun h => by omega⟩
  · rename_i hn
    refine ⟨by omega, fun h => ?_⟩
    refine List.pairwise_append.2 ⟨h2 (by omega), by simp, fun q hq r hr => ?_⟩
    simp at hr
    subst hr
    intro e
    obtain ⟨q', k1, k2⟩ := (has_ofL r.1 s).2 ⟨q, hq, e⟩
    exact hn (List.any_eq_true.2 ⟨q', k1, by simp [k2]⟩)
theorem apart_idl (L : List (Int × Int)) : Apart (idl L) ↔ DisP L := by
  unfold Apart idl DisP
  rw [List.pairwise_map]
theorem dis_len (L : List (Int × Int)) : (ofL (idl L)).length = L.length ↔ DisP L := by
  have hl : (idl L).length = L.length := List.length_map _
  rw [← apart_idl, ← hl]
  exact ⟨(len_ofL _).2, fun h => ofL_length h⟩
theorem run_makeHint {P : Program} {t k e : TypeId} (ht : P.underlying t = some (.map k e)) (n : Int) (w : World) : (Instr.makeMap t (some (.int .i64 n))).run P w = .ok (.map (some w.heap.size)) (w.alloc (.map #[] 0)) := by
  simp [Instr.makeMap, run_underlying ht, asInt, asIntOf, Result.andThen]
theorem turned_below {B : Nat} {w w' w'' : World} {b : Nat} (h : Below B w w') (ht : w'.mapTurned w'' b) (hb : B ≤ b) (hB : B ≤ w'.heap.size) : Below B w w'' :=
  h.grown ht.grown hB (fun j hj => by cases hj; exact hb)

set_option maxRecDepth 100000 in
set_option maxHeartbeats 1000000 in
theorem distinct_w (A : Option Addr) (n c : Nat) (L : List (Int × Int)) (w : World) (h : TR w A n c L) (hn : n ≤ 100000) :
    Calls Try.prog 33 #[.slice A n c] w fun e w' => e = .returned (.bool (decide (DisP L))) ∧ Below w.heap.size w w' := by
  have hlen := Lib.hid h.len
  have hmm : ∀ n w, (Instr.makeMap 75 (some (.int .i64 n))).run Try.prog w = .ok (.map (some w.heap.size)) (w.alloc (.map #[] 0)) := run_makeHint Try.underlying75
  have hB0 := Lib.hid ((Below.refl w.heap.size w).alloc (Nat.le_refl _) (.map #[] 0))
  have hM0 := Lib.hid (MU.made w)
  go_enter Try.func33, Try.ntmps33
  go_wp2_with fail
  clear hmm
  go_loopw [11] (fun i wr => ∃ j : Nat, j ≤ n ∧ i = .int .i64 j ∧ MU wr w.heap.size (ofL (idl (L.take j))) ∧ Below w.heap.size w wr) (fun i _ => n - (intOf i).toNat)
  case atStart => exact ⟨0, by omega, rfl, by simpa [idl, ofL] using hM0.out, hB0.out⟩
  case round =>
    obtain ⟨j, hj, rfl, hm, hlow⟩ := hrel
    by_cases hlt : j < n
    · obtain ⟨g, off, rfl, _, d1, d2⟩ := (h.on hlow).at_ hlt
      have hjl : j < L.length := by rw [hlen.out]; exact hlt
      have htk := Lib.hid (tk_take (L := L) hjl)
      have hwf := (h.wf _ (tk_mem hjl)).1
      generalize tk L j = x at *
      obtain ⟨xk, xv⟩ := x
      simp only at d1 d2 hwf
      have hnl : (ofL (idl (L.take j))).length < maxLen := by
        have := (len_ofL (idl (L.take j))).1
        unfold idl at this
        rw [List.length_map, List.length_take] at this
        simp only [maxLen]
        unfold idl
        omega
      obtain ⟨w1, hrun, hm1, ht1⟩ := (hm.alloc (.cells #[.int .i64 xk, .int .i64 xv] 66)).store hnl hwf (.agg #[])
      have hl1 := turned_below (hlow.alloc hlow.size (.cells #[.int .i64 xk, .int .i64 xv] 66)) ht1 (Nat.le_refl _) (by simp; have := hlow.size; omega)
      have Hm1 := Lib.hid (show MU w1 w.heap.size (ofL (idl (L.take (j + 1)))) by
        rw [htk.out]
        unfold idl at hm1 ⊢
        rw [List.map_append, List.map_singleton, ofL_snoc]
        exact hm1)
      have Hl1 := Lib.hid hl1
      clear hm hm1 ht1 hl1 hnl hwf hlow h
      go_wp2_with fail
      go_roundw
      case rel => exact ⟨j + 1, by omega, by go_num, Hm1.out, Hl1.out⟩
      case measure => simp [intOf]; omega
    · obtain rfl : j = n := by omega
      rw [List.take_of_length_le (by rw [hlen.out]; exact Nat.le_refl _)] at hm
      have hD := dis_len L
      rw [hlen.out] at hD
      have hml := hm.len
      generalize (ofL (idl L)).length = m at *
      have HD := Lib.hid hD
      clear hD hm
      go_wp2_with fail
      go_ret
      refine ⟨ret_bool ?_, hlow⟩
      rw [Bool.eq_iff_iff, decide_eq_true_iff, ← HD.out]
      simp
      omega

set_option maxRecDepth 100000 in
set_option maxHeartbeats 1000000 in
theorem right_w (now : Int) (A : Option Addr) (n c : Nat) (L : List (Int × Int)) (w : World) (h : TR w A n c L) (hn : n ≤ 100000) :
    Calls Try.prog 20 #[.agg #[.int .i64 now, .slice A n c]] w fun e w' => e = .returned (.bool (rightB now L)) ∧ Below w.heap.size w w' := by
  obtain ⟨W, hW, bx, hb0⟩ := boxed w 28 now A n c
  have HW := Lib.hid hW
  clear hW
  have ha := ahead_w A n c now L W (h.on hb0) hn
  have hr : rightB now L = (decide (n ≤ 1000) && decide (0 ≤ now) && decide (now ≤ lastT) && decide (AheadP now L) && decide (OrdP L) && decide (DisP L)) := by
    have e := h.len
    rw [Bool.eq_iff_iff, rightB_iff]
    simp only [Bool.and_eq_true, decide_eq_true_eq]
    unfold RightP
    rw [e]
    constructor
    · rintro ⟨a, b, c, d, e, f⟩; exact ⟨⟨⟨⟨⟨a, b⟩, c⟩, d⟩, e⟩, f⟩
    · rintro ⟨⟨⟨⟨⟨a, b⟩, c⟩, d⟩, e⟩, f⟩; exact ⟨a, b, c, d, e, f⟩
  have h0 := h.on hb0
  obtain ⟨c0, c1⟩ := bx.cells
  clear h
  by_cases h1 : n ≤ 1000
  · by_cases h2 : 0 ≤ now
    · by_cases h3 : now ≤ 1099511627776
      · cases b1 : decide (AheadP now L) with
        | false =>
          have HR := Lib.hid (show rightB now L = false by rw [hr, b1]; simp)
          rw [b1] at ha
          clear hr b1
          go_enter Try.func20, Try.ntmps20
          go_wp2_with fail
          rw [HW.out]
          refine ha.mono ?_
          rintro e w1 ⟨rfl, hb1⟩
          have hbb := bel2 hb0 hb1
          clear ha hb1 c0 c1
          go_wp2_with fail
          go_ret
          exact ⟨by rw [HR.out]; rfl, hbb⟩
        | true =>
          rw [b1] at ha
          cases b2 : decide (OrdP L) with
          | false =>
            have HR := Lib.hid (show rightB now L = false by rw [hr, b2]; simp)
            clear hr b1
            go_enter Try.func20, Try.ntmps20
            go_wp2_with fail
            rw [HW.out]
            refine ha.mono ?_
            rintro e w1 ⟨rfl, hb1⟩
            have ho := ordered_w A n c L w1 (h0.on hb1) hn
            rw [b2] at ho
            obtain ⟨k0, k1⟩ := (bx.on hb1 bx.lt).cells
            have hbb := bel2 hb0 hb1
            clear ha hb1 c0 c1 b2
            go_wp2_with fail
            refine ho.mono ?_
            rintro e w2 ⟨rfl, hb2⟩
            have hbc := bel2 hbb hb2
            clear ho hb2 k0 k1
            go_wp2_with fail
            go_ret
            exact ⟨by rw [HR.out]; rfl, hbc⟩
          | true =>
            have HR := Lib.hid (show rightB now L = decide (DisP L) by rw [hr, b1, b2]; simp [h1, h2, h3, lastT])
            clear hr b1
            go_enter Try.func20, Try.ntmps20
            go_wp2_with fail
            rw [HW.out]
            refine ha.mono ?_
            rintro e w1 ⟨rfl, hb1⟩
            have ho := ordered_w A n c L w1 (h0.on hb1) hn
            rw [b2] at ho
            have bx1 := bx.on hb1 bx.lt
            obtain ⟨k0, k1⟩ := bx1.cells
            have hbb := bel2 hb0 hb1
            have h1' := h0.on hb1
            clear ha hb1 c0 c1 b2 bx h0
            go_wp2_with fail
            refine ho.mono ?_
            rintro e w2 ⟨rfl, hb2⟩
            have hd := distinct_w A n c L w2 (h1'.on hb2) hn
            obtain ⟨k2, k3⟩ := (bx1.on hb2 bx1.lt).cells
            have hbc := bel2 hbb hb2
            clear ho hb2 k0 k1 h1' hbb bx1
            generalize decide (DisP L) = b3 at *
            go_wp2_with fail
            refine hd.mono ?_
            rintro e w3 ⟨rfl, hb3⟩
            have hbd := bel2 hbc hb3
            clear hd hb3 k2 k3 hbc
            go_wp2_with fail
            go_ret
            exact ⟨by rw [HR.out]; rfl, hbd⟩
      · have HR := Lib.hid (show rightB now L = false by rw [hr]; simp [h1, h2, h3, lastT])
        clear hr ha
        go_enter Try.func20, Try.ntmps20
        go_wp2_with fail
        go_ret
        exact ⟨by rw [HR.out]; rfl, by rw [HW.out]; exact hb0⟩
    · have HR := Lib.hid (show rightB now L = false by rw [hr]; simp [h1, h2])
      clear hr ha
      go_enter Try.func20, Try.ntmps20
      go_wp2_with fail
      go_ret
      exact ⟨by rw [HR.out]; rfl, by rw [HW.out]; exact hb0⟩
  · have HR := Lib.hid (show rightB now L = false by rw [hr]; simp [h1])
    clear hr ha
    go_enter Try.func20, Try.ntmps20
    go_wp2_with fail
    go_ret
    exact ⟨by rw [HR.out]; rfl, by rw [HW.out]; exact hb0⟩
end Go.Proofs.Ytgpmgghjcocfmaa
