/-
  A copy of a table of package cells, keys and values uint8, waystation/hand.Side. Condition: the block reads as a map.
-/
import Derived.Test.YtmghckddofefkaaCellB3
namespace Go.Proofs.Ytmghckddofefkaa.US
open Go.RowKit Go.Shelf Go.Maps
attribute [local go_sem] Oper.semAt_some

theorem turned_below {B : Nat} {w w' w'' : World} {b : Nat} (h : Below B w w') (ht : w'.mapTurned w'' b) (hb : B ≤ b) (hB : B ≤ w'.heap.size) : Below B w w'' :=
  h.grown ht.grown hB (fun j hj => by cases hj; exact hb)

/-- Behind some rounds: the box of the variable, and the map that it has gathered. -/
structure CI (w : World) (s : List (Int × Sd)) (W : World) : Prop where
  box : CB W (w.heap.size + 1) 109 #[.map (some w.heap.size)]
  map : MP W w.heap.size (ofL s)
  low : Below w.heap.size w W

theorem CI.mur {w : World} {s : List (Int × Sd)} {W W' : World} (h : CI w s W) {B : Nat} (hm : Mur B W W') (hB : w.heap.size ≤ B) : CI w s W' := by
  obtain ⟨h1, h2, h3⟩ := h
  obtain ⟨es, cl, hb⟩ := h2.is
  refine ⟨h1.same (hm.block _ h1.lt (.inr fun m s sn c e => ?_)), h2.same (hm.block _ h2.lt (.inr fun m s sn c e => ?_)), hm.below h3 hB h3.size⟩
  · have h1' : W.heap[w.heap.size + 1]? = some (.cells _ _ (0, 0)) := h1
    rw [h1'] at e
    cases e
  · rw [hb] at e
    cases e

theorem run_makeHint {P : Program} {t k e : TypeId} (ht : P.underlying t = some (.map k e)) (n : Int) (w : World) : (Instr.makeMap t (some (.int .i64 n))).run P w = .ok (.map (some w.heap.size)) (w.alloc (.map #[] 0)) := by
  simp [Instr.makeMap, run_underlying ht, asInt, asIntOf, Result.andThen]

set_option maxRecDepth 100000 in
set_option maxHeartbeats 400000 in
theorem clone_c (w : World) (b : Nat) (L : List (Int × Sd)) (h : MP w b L) (hm : L.length ≤ 10000) :
    Calls Try.prog 58 #[.map (some b)] w fun e w' => ∃ b', e = .returned (.map (some b')) ∧ MP w' b' L ∧ w.heap.size ≤ b' ∧ Below w.heap.size w w' := by
  have hlen := h.len
  have hmm : ∀ n w, (Instr.makeMap 109 (some (.int .i64 n))).run Try.prog w = .ok (.map (some w.heap.size)) (w.alloc (.map #[] 0)) := run_makeHint Try.underlying109
  have hlt := h.lt
  have hN1 : MP ((w.alloc (.map #[] 0)).alloc (.cells #[.map (some w.heap.size)] 109)) w.heap.size [] := (MP.made w).alloc _
  have hN2 : CB ((w.alloc (.map #[] 0)).alloc (.cells #[.map (some w.heap.size)] 109)) (w.heap.size + 1) 109 #[.map (some w.heap.size)] := by
    have := CB.new (w.alloc (.map #[] 0)) 109 #[.map (some w.heap.size)]
    rwa [World.size_alloc] at this
  have hB : Below w.heap.size w ((w.alloc (.map #[] 0)).alloc (.cells #[.map (some w.heap.size)] 109)) := ((Below.refl _ _).alloc (Nat.le_refl _) _).alloc (by simp) _
  have hsz : ((w.alloc (.map #[] 0)).alloc (.cells #[.map (some w.heap.size)] 109)).heap.size = w.heap.size + 1 + 1 := by simp
  have HN1 := Lib.hid hN1
  have HN2 := Lib.hid hN2
  have HB := Lib.hid hB
  have Hsz := Lib.hid hsz
  clear hN1 hN2 hB hsz
  refine (callsIn_wide (n := 0)).1 ?_
  refine callsIn_of_wp_marks Try.func58 rfl trivial ?_ rfl
  simp only [Try.ntmps58, List.size_toArray, List.length_cons, List.length_nil, Nat.reduceAdd, Nat.reduceSub, Array.replicate_succ, Array.replicate_zero, List.push_toArray, List.append_toArray, List.nil_append, List.cons_append]
  gi_wp2_with fail
  refine range_law_mb (gf := 78) (fb := #[.map (some b)]) rfl (enters_of Try.func78 (by kernel_rfl) rfl) (each_iter w b L h) (fun _ => rfl)
    (CI w) ?need ?hI ?hM ?h0
    (fun p => .cells #[.int .u8 (p.2).me, .int .i64 (p.2).l.ep, .int .i64 (p.2).l.st, .int .u8 (p.2).l.to, .string (p.2).cg, .bool (p.2).kp] 31) (fun _ => ⟨_, _, _, rfl⟩)
    (fun p n => { tmps := #[.map (some b), undef, .map none, .pointer (some ⟨w.heap.size + 1, 0, none⟩), .int .u8 p.1, .pointer (some ⟨n, 0, none⟩), .map (some b), .int .i64 L.length, .map (some w.heap.size), .map (some b), .func (.func 78) #[.map (some b)] #[], .int .u8 p.1, (Value.agg #[.int .u8 (p.2).me, .int .i64 (p.2).l.ep, .int .i64 (p.2).l.st, .int .u8 (p.2).l.to, .string (p.2).cg, .bool (p.2).kp]), undef, undef, undef, undef], defers := [] }) ?assign ?body ?done
  case need => exact fun s W hi => hi.low.block b hlt
  case hI =>
    intro s W o hi hbk
    rw [Hsz.out] at hbk ⊢
    exact ⟨hi.box.putBook hbk _, hi.map.same (World.putObj_heap_other (hi.map.noBook hbk)), below_putObj hi.low (by omega) _⟩
  case hM => exact fun s W W' hi hmu => hi.mur hmu (by rw [Hsz.out]; omega)
  case h0 =>
    intro r
    exact ⟨(HN2.out.alloc _).alloc _, (HN1.out.alloc _).alloc _, (HB.out.alloc (by rw [Hsz.out]; omega) _).alloc (by rw [World.size_alloc, Hsz.out]; omega) _⟩
  case assign =>
    intro l p W K hK
    gi_wp2
    exact hK
  case body =>
    rintro l s ⟨k, v⟩ W n hap hsub ⟨q1, q2, q3⟩ bk1 bk2 hn hnl
    have cbn : CB W n 31 #[.int .u8 (v).me, .int .i64 (v).l.ep, .int .i64 (v).l.st, .int .u8 (v).l.to, .string (v).cg, .bool (v).kp] := hn
    have b0 := cbn.cell 0
    have b1 := cbn.cell 1
    have b2 := cbn.cell 2
    have b3 := cbn.cell 3
    have b4 := cbn.cell 4
    have b5 := cbn.cell 5
    simp only [List.getElem?_toArray, List.getElem?_cons_zero, List.getElem?_cons_succ] at b0 b1 b2 b3 b4 b5
    rw [Hsz.out] at bk1 bk2 ⊢
    obtain ⟨wk, wv⟩ := h.wf (hsub (k, v) (by simp))
    have hln : (ofL s).length < maxLen := by
      have h1 : Apart s := (List.pairwise_append.1 hap).1
      rw [ofL_length h1]
      have := apart_length h1 (L := L) (fun x hx => hsub x (List.mem_append_left _ hx))
      simp only [maxLen]
      omega
    obtain ⟨w1, hrun, hmp, htn⟩ := q2.store hln wk wv
    have cN := q1.cell 0
    simp only [List.getElem?_toArray, List.getElem?_cons_zero] at cN
    have hlt2 := bk2.lt
    have hmp' : MP w1 w.heap.size (ofL (s ++ [(k, v)])) := by rw [ofL_snoc]; exact hmp
    have hend : RoundEndM (w.heap.size + 1 + 1) (CI w) (s ++ [(k, v)]) W .normal { tmps := #[], defers := [] } w1 := by
      refine ⟨⟨htn.grown.block _ bk1.lt (by simp; omega), htn.grown.block _ bk2.lt (by simp; omega)⟩, ⟨q1.same (htn.grown.block _ q1.lt (by simp)), hmp', turned_below q3 htn (Nat.le_refl _) q3.size⟩, ?_⟩
      refine (KI.refl W).grown htn.grown (fun g hg m s sn c e => ?_)
      cases hg
      obtain ⟨es, cl, hb⟩ := q2.is
      rw [hb] at e
      cases e
    have Hend := Lib.hid hend
    clear cbn hn hnl hlen hmm hsub hap hln htn hmp hmp' hend q1 q2 q3 bk1 bk2 HN1 HN2 HB Hsz
    gi_wp2
    exact Hend.out
  case done =>
    intro s W hap hpm hi hdf
    obtain ⟨q1, q2, q3⟩ := hi
    rw [ofL_eq hap h.srt hpm] at q2
    have cN := q1.cell 0
    simp only [List.getElem?_toArray, List.getElem?_cons_zero] at cN
    rw [Hsz.out] at hdf ⊢
    have bk : Book W (w.heap.size + 1 + 1) := .inr ⟨_, hdf⟩
    clear hlen hmm HN1 HN2 HB Hsz q1
    gi_wp2
    refine ⟨by simp, .inl ⟨_, _, rfl, run_takeDeferred hdf, ?_⟩⟩
    exact ⟨_, results_tmp rfl _ _ _, w.heap.size, rfl, q2.same (World.putObj_heap_other (q2.noBook bk)), Nat.le_refl _, below_putObj q3 (by omega) _⟩
end Go.Proofs.Ytmghckddofefkaa.US
