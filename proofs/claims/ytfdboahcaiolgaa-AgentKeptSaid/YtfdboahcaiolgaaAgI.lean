/-
  The iterator that pairs returns: it goes through values two by two. Conditions: the values can be read, and stay while it goes.
-/
import Derived.Test.YtfdboahcaiolgaaMgA
import Derived.Test.YtfdboahcaiolgaaAgA
import Derived.Test.YtfdboahcaiolgaaRangeC
import Derived.LoopIn
import Derived.TacticsInMore
set_option linter.unusedVariables false
set_option linter.unusedSimpArgs false
namespace Go.Proofs.Ytfdboahcaiolgaa
open Go.RowKit
attribute [local go_sem] Oper.semAt_some

theorem wpAnyIn_takeD {F : Fence} {n : Nat} {P : Program} {md : Region.Mode} {ops : Array Oper} {Q : Exit → Act → World → Prop} {i : Nat} {oi : Oper} {v : Value} {d : Option Tmp} {fuel : Nat} {listed : Array Bool} {a : Act} {w : World} (hro : F.round = none) (hi : ops[i]? = some oi) (hd : oi.dst = d)
    (hs : Region.noSelect ops = true) (hf : Region.free md ops listed i = true) (hr : (Region.ready md ops listed).contains i = true)
    (hQ : ∀ c a w, Q (.panic c) (a.put oi.dst v) w → Q (.panic c) a w) (hy : YieldsFenced P ops oi v a)
    (h : wpAnyIn F n P md ops Q fuel (listed.setIfInBounds i true) (a.put d v) w) : wpAnyIn F n P md ops Q (fuel + 1) listed a w := by
  subst hd
  exact wpAnyIn_take hro hi hs hf hr hQ hy h
theorem rdIn_val {F : Fence} {n : Nat} {P : Program} {ops : Array Oper} {o : Oper} {a : Act} {w : World} {K : Act → World → Prop} {Q : Exit → Act → World → Prop} (hro : F.round = none) (hF : ∀ f, F.fn f) (hw : Region.wanted o (yielded ops a.tmps) = true) (d : Option Tmp) (hd : o.dst = d) (v : Value)
    (hrun : (execOp a.eval o).run P w = .ok (.value v) w) (k : K (a.put d v) w) : if Region.wanted o (yielded ops a.tmps) = true then Oper.wpIn F n P o a w K Q else (∀ f, o.about P w a.eval = some f → F.fn f) ∧ K (a.put o.dst undef) w := by
  subst hd
  rw [if_pos hw]
  refine ⟨fun f _ => hF f, ?_⟩
  rw [hro, Oper.semAt_none, hrun]
  exact k
def vAt (l : List Dk.CV) (i : Nat) : Dk.CV := l[i]?.getD zV
theorem vAt_get {l : List Dk.CV} {i : Nat} (h : i < l.length) : l[i]? = some (vAt l i) := by
  unfold vAt; rw [List.getElem?_eq_getElem h]; rfl
/-- What the k-th round is handed. -/
def prE (l : List Dk.CV) (k : Nat) : Array Value := #[.agg (vA (vAt l (2 * k))), .agg (vA (vAt l (2 * k + 1)))]
set_option maxRecDepth 100000 in
set_option maxHeartbeats 4000000 in
theorem pairs_c (A : Option Addr) (n q : Nat) (w : World) : Calls Try.prog 35 #[.slice A n q] w fun e w' => ∃ bp, e = .returned (.func (.func 62) #[] #[.pointer (some ⟨bp, 0, none⟩)]) ∧ CB w' bp 81 #[.slice A n q] ∧ w.heap.size ≤ bp ∧ Below w.heap.size w w' := by
  go_enter Try.func35, Try.ntmps35
  go_wp2_with fail
  go_ret
  exact ⟨w.heap.size, rfl, CB.new _ _ _, Nat.le_refl _, le_al _ _⟩
set_option maxRecDepth 100000 in
set_option maxHeartbeats 4000000 in
theorem pairs_iter (A : Option Addr) (N M q bp : Nat) (l : List Dk.CV) (hl : l.length = M) (hM : M = 2 * N) (hN : N ≤ 1000) :
    IterD Try.prog 62 #[.pointer (some ⟨bp, 0, none⟩)] N (prE l) (fun W => CB W bp 81 #[.slice A M q] ∧ Dk.VR W A l) := by
  intro ll J Jx W hNd hD hY h0
  have HM := Lib.hid hM
  have HL := Lib.hid hl
  have hMb : M ≤ 2000 := by omega
  clear hM hl
  refine callsIn_of_wp Try.func62 rfl trivial ?_ rfl
  simp only [Try.ntmps62, List.size_toArray, List.length_cons, List.length_nil, Nat.reduceAdd, Nat.reduceSub, Array.replicate_succ, Array.replicate_zero, List.push_toArray, List.append_toArray, List.nil_append, List.cons_append]
  gi_wp2
  gi_loopw [3] (fun i wr => ∃ k j : Nat, Hid (j = 2 * k) ∧ k ≤ N ∧ j ≤ 2000 ∧ i = .int .i64 ((j : Int) + 1) ∧ J k wr) (fun i _ => 2002 - (intOf i).toNat)
  case atStart => exact ⟨0, 0, Lib.hid rfl, by omega, by omega, rfl, h0⟩
  case round =>
    obtain ⟨k, j, hjk, hk, hjb, rfl, hJ⟩ := hrel
    obtain ⟨hb, hv⟩ := hNd k wr hJ
    have c0 := hb.cell 0
    simp only [List.getElem?_toArray, List.getElem?_cons_zero] at c0
    by_cases hlt : k < N
    · have hj2 : j + 1 < M := by have := hjk.out; have := HM.out; omega
      have hj1 : j < M := by omega
      obtain ⟨v, g, off, hv0, _, _, rfl, d0, d1⟩ := hv.at_ (i := j) (by rw [HL.out]; omega)
      obtain ⟨u, g', off', hu0, _, _, hA, e0, e1⟩ := hv.at_ (i := j + 1) (by rw [HL.out]; omega)
      cases hA
      obtain ⟨fn, tmps, assign, body, hy, hR⟩ := hY k wr.drew hlt (hD k wr hJ)
      have ev : vAt l (2 * k) = v := by unfold vAt; rw [← hjk.out, hv0.out]; rfl
      have eu : vAt l (2 * k + 1) = u := by unfold vAt; rw [← hjk.out, hu0.out]; rfl
      simp only [prE, vA, ev, eu] at hy hR
      have l1 : (j : Int) + 1 < (M : Int) := by omega
      have wj : IntKind.i64.wrap (j : Int) = (j : Int) := IntWalk.i64_in _ (by omega)
      have nj : ¬ ((j : Int) + 1 < 0) := by omega
      clear hv hv0 hu0 ev eu hY hNd hb
      gi_wp2
      refine wpIn_region_any (by kernel_rfl) ?_
      change wpAnyIn _ _ _ _ _ _ _ _ _ wr.drew
      refine wpAnyIn_takeD (i := 0) (d := some 10) (v := .func (.yield ll) #[] #[]) rfl rfl rfl (by kernel_rfl) (by kernel_rfl) (by kernel_rfl) (fun _ _ _ h => h) ⟨Or.inl ⟨by rfl, ?_⟩, ?_⟩ ?_
      · intro w; go_simp
      · intro w; first | rfl | kernel_rfl
      try simp only [Act.put, List.setIfInBounds_toArray, List.set_cons_zero, List.set_cons_succ]
      refine wpAnyIn_takeD (i := 2) (d := some 12) (v := .int .i64 ((j : Int) + 1)) rfl rfl rfl (by kernel_rfl) (by kernel_rfl) (by kernel_rfl) (fun _ _ _ h => h) ⟨Or.inl ⟨by rfl, ?_⟩, ?_⟩ ?_
      · intro w; go_simp
      · intro w; first | rfl | kernel_rfl
      try simp only [Act.put, List.setIfInBounds_toArray, List.set_cons_zero, List.set_cons_succ]
      refine wpAnyIn_takeD (i := 3) (d := some 13) (v := .int .i64 (j : Int)) rfl rfl rfl (by kernel_rfl) (by kernel_rfl) (by kernel_rfl) (fun _ _ _ h => h) ⟨Or.inl ⟨by rfl, ?_⟩, ?_⟩ ?_
      · intro w; go_simp
      · intro w; first | rfl | kernel_rfl
      try simp only [Act.put, List.setIfInBounds_toArray, List.set_cons_zero, List.set_cons_succ]
      refine wpAnyIn_takeD (i := 7) (d := some 17) (v := .int .i64 ((j : Int) + 1)) rfl rfl rfl (by kernel_rfl) (by kernel_rfl) (by kernel_rfl) (fun _ _ _ h => h) ⟨Or.inl ⟨by rfl, ?_⟩, ?_⟩ ?_
      · intro w; go_simp
      · intro w; first | rfl | kernel_rfl
      try simp only [Act.put, List.setIfInBounds_toArray, List.set_cons_zero, List.set_cons_succ]
      refine wpAnyIn_ready (rs := [1, 6]) (by kernel_rfl) (by simp) ?_
      refine AllReadyIn.cons rfl (fun K hK => ?_) (AllReadyIn.cons rfl (fun K hK => ?_) AllReadyIn.nil)
      · skip
        refine rdIn_val rfl (fun _ => trivial) (by kernel_rfl) (some 11) rfl (.slice (some ⟨g, off, none⟩) M q) (by go_simp) (hK _ _ ?_)
        clear hK K
        try simp only [Act.put, List.setIfInBounds_toArray, List.set_cons_zero, List.set_cons_succ]
        refine wpAnyIn_takeD (i := 4) (d := some 14) (v := .pointer (some ⟨g, off + j * 2, none⟩)) rfl rfl rfl (by kernel_rfl) (by kernel_rfl) (by kernel_rfl) (fun _ _ _ h => h) ⟨Or.inl ⟨by rfl, ?_⟩, ?_⟩ ?_
        · intro w; go_simp
        · intro w; first | rfl | kernel_rfl
        try simp only [Act.put, List.setIfInBounds_toArray, List.set_cons_zero, List.set_cons_succ]
        refine wpAnyIn_ready (rs := [5, 6]) (by kernel_rfl) (by simp) ?_
        refine AllReadyIn.cons rfl (fun K hK => ?_) (AllReadyIn.cons rfl (fun K hK => ?_) AllReadyIn.nil)
        · skip
          refine rdIn_val rfl (fun _ => trivial) (by kernel_rfl) (some 15) rfl (.agg #[.int .u64 (v.n : Int), .string v.s]) (by go_simp) (hK _ _ ?_)
          clear hK K
          try simp only [Act.put, List.setIfInBounds_toArray, List.set_cons_zero, List.set_cons_succ]
          refine wpAnyIn_ready (rs := [6]) (by kernel_rfl) (by simp) ?_
          refine AllReadyIn.cons rfl (fun K hK => ?_) AllReadyIn.nil
          refine rdIn_val rfl (fun _ => trivial) (by kernel_rfl) (some 16) rfl (.slice (some ⟨g, off, none⟩) M q) (by go_simp) (hK _ _ ?_)
          clear hK K
          try simp only [Act.put, List.setIfInBounds_toArray, List.set_cons_zero, List.set_cons_succ]
          refine wpAnyIn_takeD (i := 8) (d := some 18) (v := .pointer (some ⟨g, off + (j + 1) * 2, none⟩)) rfl rfl rfl (by kernel_rfl) (by kernel_rfl) (by kernel_rfl) (fun _ _ _ h => h) ⟨Or.inl ⟨by rfl, ?_⟩, ?_⟩ ?_
          · intro w; go_simp
          · intro w; first | rfl | kernel_rfl
          try simp only [Act.put, List.setIfInBounds_toArray, List.set_cons_zero, List.set_cons_succ]
          refine wpAnyIn_ready (rs := [9]) (by kernel_rfl) (by simp) ?_
          refine AllReadyIn.cons rfl (fun K hK => ?_) AllReadyIn.nil
          refine rdIn_val rfl (fun _ => trivial) (by kernel_rfl) (some 19) rfl (.agg #[.int .u64 (u.n : Int), .string u.s]) (by go_simp) (hK _ _ ?_)
          clear hK K
          try simp only [Act.put, List.setIfInBounds_toArray, List.set_cons_zero, List.set_cons_succ]
          refine wpAnyIn_ready (rs := [10]) (by kernel_rfl) (by simp) ?_
          refine AllReadyIn.cons rfl (fun K hK => ?_) AllReadyIn.nil
          go_simp
          gi_wp2
          refine ⟨rfl, hR.mono ?_⟩
          rintro e W3 (⟨rfl, hJ3⟩ | ⟨rfl, hJ3⟩)
          · refine hK _ _ ?_
            clear hK K
            try simp only [Act.put, List.setIfInBounds_toArray, List.set_cons_zero, List.set_cons_succ]
            refine wpAnyIn_takeD (i := 11) (d := some 21) (v := .bool false) rfl rfl rfl (by kernel_rfl) (by kernel_rfl) (by kernel_rfl) (fun _ _ _ h => h) ⟨Or.inl ⟨by rfl, ?_⟩, ?_⟩ ?_
            · intro w; go_simp
            · intro w; first | rfl | kernel_rfl
            try simp only [Act.put, List.setIfInBounds_toArray, List.set_cons_zero, List.set_cons_succ]
            refine wpAnyIn_done (by kernel_rfl) ?_ _
            gi_wp2
            go_roundw
            case rel => exact ⟨k + 1, j + 2, Lib.hid (by have := hjk.out; omega), by omega, by have := hjk.out; omega, by go_num, hJ3⟩
            case measure => simp [intOf]; omega
          · refine hK _ _ ?_
            clear hK K
            try simp only [Act.put, List.setIfInBounds_toArray, List.set_cons_zero, List.set_cons_succ]
            refine wpAnyIn_takeD (i := 11) (d := some 21) (v := .bool true) rfl rfl rfl (by kernel_rfl) (by kernel_rfl) (by kernel_rfl) (fun _ _ _ h => h) ⟨Or.inl ⟨by rfl, ?_⟩, ?_⟩ ?_
            · intro w; go_simp
            · intro w; first | rfl | kernel_rfl
            try simp only [Act.put, List.setIfInBounds_toArray, List.set_cons_zero, List.set_cons_succ]
            refine wpAnyIn_done (by kernel_rfl) ?_ _
            gi_wp2
            refine bodyPost_ret (results_none rfl _ _ _) rfl ?_
            exact ⟨⟨_, rfl⟩, .inr hJ3⟩
        · skip
          refine rdIn_val rfl (fun _ => trivial) (by kernel_rfl) (some 16) rfl (.slice (some ⟨g, off, none⟩) M q) (by go_simp) (hK _ _ ?_)
          clear hK K
          try simp only [Act.put, List.setIfInBounds_toArray, List.set_cons_zero, List.set_cons_succ]
          refine wpAnyIn_takeD (i := 8) (d := some 18) (v := .pointer (some ⟨g, off + (j + 1) * 2, none⟩)) rfl rfl rfl (by kernel_rfl) (by kernel_rfl) (by kernel_rfl) (fun _ _ _ h => h) ⟨Or.inl ⟨by rfl, ?_⟩, ?_⟩ ?_
          · intro w; go_simp
          · intro w; first | rfl | kernel_rfl
          try simp only [Act.put, List.setIfInBounds_toArray, List.set_cons_zero, List.set_cons_succ]
          refine wpAnyIn_ready (rs := [5, 9]) (by kernel_rfl) (by simp) ?_
          refine AllReadyIn.cons rfl (fun K hK => ?_) (AllReadyIn.cons rfl (fun K hK => ?_) AllReadyIn.nil)
          · skip
            refine rdIn_val rfl (fun _ => trivial) (by kernel_rfl) (some 15) rfl (.agg #[.int .u64 (v.n : Int), .string v.s]) (by go_simp) (hK _ _ ?_)
            clear hK K
            try simp only [Act.put, List.setIfInBounds_toArray, List.set_cons_zero, List.set_cons_succ]
            refine wpAnyIn_ready (rs := [9]) (by kernel_rfl) (by simp) ?_
            refine AllReadyIn.cons rfl (fun K hK => ?_) AllReadyIn.nil
            refine rdIn_val rfl (fun _ => trivial) (by kernel_rfl) (some 19) rfl (.agg #[.int .u64 (u.n : Int), .string u.s]) (by go_simp) (hK _ _ ?_)
            clear hK K
            try simp only [Act.put, List.setIfInBounds_toArray, List.set_cons_zero, List.set_cons_succ]
            refine wpAnyIn_ready (rs := [10]) (by kernel_rfl) (by simp) ?_
            refine AllReadyIn.cons rfl (fun K hK => ?_) AllReadyIn.nil
            go_simp
            gi_wp2
            refine ⟨rfl, hR.mono ?_⟩
            rintro e W3 (⟨rfl, hJ3⟩ | ⟨rfl, hJ3⟩)
            · refine hK _ _ ?_
              clear hK K
              try simp only [Act.put, List.setIfInBounds_toArray, List.set_cons_zero, List.set_cons_succ]
              refine wpAnyIn_takeD (i := 11) (d := some 21) (v := .bool false) rfl rfl rfl (by kernel_rfl) (by kernel_rfl) (by kernel_rfl) (fun _ _ _ h => h) ⟨Or.inl ⟨by rfl, ?_⟩, ?_⟩ ?_
              · intro w; go_simp
              · intro w; first | rfl | kernel_rfl
              try simp only [Act.put, List.setIfInBounds_toArray, List.set_cons_zero, List.set_cons_succ]
              refine wpAnyIn_done (by kernel_rfl) ?_ _
              gi_wp2
              go_roundw
              case rel => exact ⟨k + 1, j + 2, Lib.hid (by have := hjk.out; omega), by omega, by have := hjk.out; omega, by go_num, hJ3⟩
              case measure => simp [intOf]; omega
            · refine hK _ _ ?_
              clear hK K
              try simp only [Act.put, List.setIfInBounds_toArray, List.set_cons_zero, List.set_cons_succ]
              refine wpAnyIn_takeD (i := 11) (d := some 21) (v := .bool true) rfl rfl rfl (by kernel_rfl) (by kernel_rfl) (by kernel_rfl) (fun _ _ _ h => h) ⟨Or.inl ⟨by rfl, ?_⟩, ?_⟩ ?_
              · intro w; go_simp
              · intro w; first | rfl | kernel_rfl
              try simp only [Act.put, List.setIfInBounds_toArray, List.set_cons_zero, List.set_cons_succ]
              refine wpAnyIn_done (by kernel_rfl) ?_ _
              gi_wp2
              refine bodyPost_ret (results_none rfl _ _ _) rfl ?_
              exact ⟨⟨_, rfl⟩, .inr hJ3⟩
          · skip
            refine rdIn_val rfl (fun _ => trivial) (by kernel_rfl) (some 19) rfl (.agg #[.int .u64 (u.n : Int), .string u.s]) (by go_simp) (hK _ _ ?_)
            clear hK K
            try simp only [Act.put, List.setIfInBounds_toArray, List.set_cons_zero, List.set_cons_succ]
            refine wpAnyIn_ready (rs := [5]) (by kernel_rfl) (by simp) ?_
            refine AllReadyIn.cons rfl (fun K hK => ?_) AllReadyIn.nil
            refine rdIn_val rfl (fun _ => trivial) (by kernel_rfl) (some 15) rfl (.agg #[.int .u64 (v.n : Int), .string v.s]) (by go_simp) (hK _ _ ?_)
            clear hK K
            try simp only [Act.put, List.setIfInBounds_toArray, List.set_cons_zero, List.set_cons_succ]
            refine wpAnyIn_ready (rs := [10]) (by kernel_rfl) (by simp) ?_
            refine AllReadyIn.cons rfl (fun K hK => ?_) AllReadyIn.nil
            go_simp
            gi_wp2
            refine ⟨rfl, hR.mono ?_⟩
            rintro e W3 (⟨rfl, hJ3⟩ | ⟨rfl, hJ3⟩)
            · refine hK _ _ ?_
              clear hK K
              try simp only [Act.put, List.setIfInBounds_toArray, List.set_cons_zero, List.set_cons_succ]
              refine wpAnyIn_takeD (i := 11) (d := some 21) (v := .bool false) rfl rfl rfl (by kernel_rfl) (by kernel_rfl) (by kernel_rfl) (fun _ _ _ h => h) ⟨Or.inl ⟨by rfl, ?_⟩, ?_⟩ ?_
              · intro w; go_simp
              · intro w; first | rfl | kernel_rfl
              try simp only [Act.put, List.setIfInBounds_toArray, List.set_cons_zero, List.set_cons_succ]
              refine wpAnyIn_done (by kernel_rfl) ?_ _
              gi_wp2
              go_roundw
              case rel => exact ⟨k + 1, j + 2, Lib.hid (by have := hjk.out; omega), by omega, by have := hjk.out; omega, by go_num, hJ3⟩
              case measure => simp [intOf]; omega
            · refine hK _ _ ?_
              clear hK K
              try simp only [Act.put, List.setIfInBounds_toArray, List.set_cons_zero, List.set_cons_succ]
              refine wpAnyIn_takeD (i := 11) (d := some 21) (v := .bool true) rfl rfl rfl (by kernel_rfl) (by kernel_rfl) (by kernel_rfl) (fun _ _ _ h => h) ⟨Or.inl ⟨by rfl, ?_⟩, ?_⟩ ?_
              · intro w; go_simp
              · intro w; first | rfl | kernel_rfl
              try simp only [Act.put, List.setIfInBounds_toArray, List.set_cons_zero, List.set_cons_succ]
              refine wpAnyIn_done (by kernel_rfl) ?_ _
              gi_wp2
              refine bodyPost_ret (results_none rfl _ _ _) rfl ?_
              exact ⟨⟨_, rfl⟩, .inr hJ3⟩
      · skip
        refine rdIn_val rfl (fun _ => trivial) (by kernel_rfl) (some 16) rfl (.slice (some ⟨g, off, none⟩) M q) (by go_simp) (hK _ _ ?_)
        clear hK K
        try simp only [Act.put, List.setIfInBounds_toArray, List.set_cons_zero, List.set_cons_succ]
        refine wpAnyIn_takeD (i := 8) (d := some 18) (v := .pointer (some ⟨g, off + (j + 1) * 2, none⟩)) rfl rfl rfl (by kernel_rfl) (by kernel_rfl) (by kernel_rfl) (fun _ _ _ h => h) ⟨Or.inl ⟨by rfl, ?_⟩, ?_⟩ ?_
        · intro w; go_simp
        · intro w; first | rfl | kernel_rfl
        try simp only [Act.put, List.setIfInBounds_toArray, List.set_cons_zero, List.set_cons_succ]
        refine wpAnyIn_ready (rs := [1, 9]) (by kernel_rfl) (by simp) ?_
        refine AllReadyIn.cons rfl (fun K hK => ?_) (AllReadyIn.cons rfl (fun K hK => ?_) AllReadyIn.nil)
        · skip
          refine rdIn_val rfl (fun _ => trivial) (by kernel_rfl) (some 11) rfl (.slice (some ⟨g, off, none⟩) M q) (by go_simp) (hK _ _ ?_)
          clear hK K
          try simp only [Act.put, List.setIfInBounds_toArray, List.set_cons_zero, List.set_cons_succ]
          refine wpAnyIn_takeD (i := 4) (d := some 14) (v := .pointer (some ⟨g, off + j * 2, none⟩)) rfl rfl rfl (by kernel_rfl) (by kernel_rfl) (by kernel_rfl) (fun _ _ _ h => h) ⟨Or.inl ⟨by rfl, ?_⟩, ?_⟩ ?_
          · intro w; go_simp
          · intro w; first | rfl | kernel_rfl
          try simp only [Act.put, List.setIfInBounds_toArray, List.set_cons_zero, List.set_cons_succ]
          refine wpAnyIn_ready (rs := [5, 9]) (by kernel_rfl) (by simp) ?_
          refine AllReadyIn.cons rfl (fun K hK => ?_) (AllReadyIn.cons rfl (fun K hK => ?_) AllReadyIn.nil)
          · skip
            refine rdIn_val rfl (fun _ => trivial) (by kernel_rfl) (some 15) rfl (.agg #[.int .u64 (v.n : Int), .string v.s]) (by go_simp) (hK _ _ ?_)
            clear hK K
            try simp only [Act.put, List.setIfInBounds_toArray, List.set_cons_zero, List.set_cons_succ]
            refine wpAnyIn_ready (rs := [9]) (by kernel_rfl) (by simp) ?_
            refine AllReadyIn.cons rfl (fun K hK => ?_) AllReadyIn.nil
            refine rdIn_val rfl (fun _ => trivial) (by kernel_rfl) (some 19) rfl (.agg #[.int .u64 (u.n : Int), .string u.s]) (by go_simp) (hK _ _ ?_)
            clear hK K
            try simp only [Act.put, List.setIfInBounds_toArray, List.set_cons_zero, List.set_cons_succ]
            refine wpAnyIn_ready (rs := [10]) (by kernel_rfl) (by simp) ?_
            refine AllReadyIn.cons rfl (fun K hK => ?_) AllReadyIn.nil
            go_simp
            gi_wp2
            refine ⟨rfl, hR.mono ?_⟩
            rintro e W3 (⟨rfl, hJ3⟩ | ⟨rfl, hJ3⟩)
            · refine hK _ _ ?_
              clear hK K
              try simp only [Act.put, List.setIfInBounds_toArray, List.set_cons_zero, List.set_cons_succ]
              refine wpAnyIn_takeD (i := 11) (d := some 21) (v := .bool false) rfl rfl rfl (by kernel_rfl) (by kernel_rfl) (by kernel_rfl) (fun _ _ _ h => h) ⟨Or.inl ⟨by rfl, ?_⟩, ?_⟩ ?_
              · intro w; go_simp
              · intro w; first | rfl | kernel_rfl
              try simp only [Act.put, List.setIfInBounds_toArray, List.set_cons_zero, List.set_cons_succ]
              refine wpAnyIn_done (by kernel_rfl) ?_ _
              gi_wp2
              go_roundw
              case rel => exact ⟨k + 1, j + 2, Lib.hid (by have := hjk.out; omega), by omega, by have := hjk.out; omega, by go_num, hJ3⟩
              case measure => simp [intOf]; omega
            · refine hK _ _ ?_
              clear hK K
              try simp only [Act.put, List.setIfInBounds_toArray, List.set_cons_zero, List.set_cons_succ]
              refine wpAnyIn_takeD (i := 11) (d := some 21) (v := .bool true) rfl rfl rfl (by kernel_rfl) (by kernel_rfl) (by kernel_rfl) (fun _ _ _ h => h) ⟨Or.inl ⟨by rfl, ?_⟩, ?_⟩ ?_
              · intro w; go_simp
              · intro w; first | rfl | kernel_rfl
              try simp only [Act.put, List.setIfInBounds_toArray, List.set_cons_zero, List.set_cons_succ]
              refine wpAnyIn_done (by kernel_rfl) ?_ _
              gi_wp2
              refine bodyPost_ret (results_none rfl _ _ _) rfl ?_
              exact ⟨⟨_, rfl⟩, .inr hJ3⟩
          · skip
            refine rdIn_val rfl (fun _ => trivial) (by kernel_rfl) (some 19) rfl (.agg #[.int .u64 (u.n : Int), .string u.s]) (by go_simp) (hK _ _ ?_)
            clear hK K
            try simp only [Act.put, List.setIfInBounds_toArray, List.set_cons_zero, List.set_cons_succ]
            refine wpAnyIn_ready (rs := [5]) (by kernel_rfl) (by simp) ?_
            refine AllReadyIn.cons rfl (fun K hK => ?_) AllReadyIn.nil
            refine rdIn_val rfl (fun _ => trivial) (by kernel_rfl) (some 15) rfl (.agg #[.int .u64 (v.n : Int), .string v.s]) (by go_simp) (hK _ _ ?_)
            clear hK K
            try simp only [Act.put, List.setIfInBounds_toArray, List.set_cons_zero, List.set_cons_succ]
            refine wpAnyIn_ready (rs := [10]) (by kernel_rfl) (by simp) ?_
            refine AllReadyIn.cons rfl (fun K hK => ?_) AllReadyIn.nil
            go_simp
            gi_wp2
            refine ⟨rfl, hR.mono ?_⟩
            rintro e W3 (⟨rfl, hJ3⟩ | ⟨rfl, hJ3⟩)
            · refine hK _ _ ?_
              clear hK K
              try simp only [Act.put, List.setIfInBounds_toArray, List.set_cons_zero, List.set_cons_succ]
              refine wpAnyIn_takeD (i := 11) (d := some 21) (v := .bool false) rfl rfl rfl (by kernel_rfl) (by kernel_rfl) (by kernel_rfl) (fun _ _ _ h => h) ⟨Or.inl ⟨by rfl, ?_⟩, ?_⟩ ?_
              · intro w; go_simp
              · intro w; first | rfl | kernel_rfl
              try simp only [Act.put, List.setIfInBounds_toArray, List.set_cons_zero, List.set_cons_succ]
              refine wpAnyIn_done (by kernel_rfl) ?_ _
              gi_wp2
              go_roundw
              case rel => exact ⟨k + 1, j + 2, Lib.hid (by have := hjk.out; omega), by omega, by have := hjk.out; omega, by go_num, hJ3⟩
              case measure => simp [intOf]; omega
            · refine hK _ _ ?_
              clear hK K
              try simp only [Act.put, List.setIfInBounds_toArray, List.set_cons_zero, List.set_cons_succ]
              refine wpAnyIn_takeD (i := 11) (d := some 21) (v := .bool true) rfl rfl rfl (by kernel_rfl) (by kernel_rfl) (by kernel_rfl) (fun _ _ _ h => h) ⟨Or.inl ⟨by rfl, ?_⟩, ?_⟩ ?_
              · intro w; go_simp
              · intro w; first | rfl | kernel_rfl
              try simp only [Act.put, List.setIfInBounds_toArray, List.set_cons_zero, List.set_cons_succ]
              refine wpAnyIn_done (by kernel_rfl) ?_ _
              gi_wp2
              refine bodyPost_ret (results_none rfl _ _ _) rfl ?_
              exact ⟨⟨_, rfl⟩, .inr hJ3⟩
        · skip
          refine rdIn_val rfl (fun _ => trivial) (by kernel_rfl) (some 19) rfl (.agg #[.int .u64 (u.n : Int), .string u.s]) (by go_simp) (hK _ _ ?_)
          clear hK K
          try simp only [Act.put, List.setIfInBounds_toArray, List.set_cons_zero, List.set_cons_succ]
          refine wpAnyIn_ready (rs := [1]) (by kernel_rfl) (by simp) ?_
          refine AllReadyIn.cons rfl (fun K hK => ?_) AllReadyIn.nil
          refine rdIn_val rfl (fun _ => trivial) (by kernel_rfl) (some 11) rfl (.slice (some ⟨g, off, none⟩) M q) (by go_simp) (hK _ _ ?_)
          clear hK K
          try simp only [Act.put, List.setIfInBounds_toArray, List.set_cons_zero, List.set_cons_succ]
          refine wpAnyIn_takeD (i := 4) (d := some 14) (v := .pointer (some ⟨g, off + j * 2, none⟩)) rfl rfl rfl (by kernel_rfl) (by kernel_rfl) (by kernel_rfl) (fun _ _ _ h => h) ⟨Or.inl ⟨by rfl, ?_⟩, ?_⟩ ?_
          · intro w; go_simp
          · intro w; first | rfl | kernel_rfl
          try simp only [Act.put, List.setIfInBounds_toArray, List.set_cons_zero, List.set_cons_succ]
          refine wpAnyIn_ready (rs := [5]) (by kernel_rfl) (by simp) ?_
          refine AllReadyIn.cons rfl (fun K hK => ?_) AllReadyIn.nil
          refine rdIn_val rfl (fun _ => trivial) (by kernel_rfl) (some 15) rfl (.agg #[.int .u64 (v.n : Int), .string v.s]) (by go_simp) (hK _ _ ?_)
          clear hK K
          try simp only [Act.put, List.setIfInBounds_toArray, List.set_cons_zero, List.set_cons_succ]
          refine wpAnyIn_ready (rs := [10]) (by kernel_rfl) (by simp) ?_
          refine AllReadyIn.cons rfl (fun K hK => ?_) AllReadyIn.nil
          go_simp
          gi_wp2
          refine ⟨rfl, hR.mono ?_⟩
          rintro e W3 (⟨rfl, hJ3⟩ | ⟨rfl, hJ3⟩)
          · refine hK _ _ ?_
            clear hK K
            try simp only [Act.put, List.setIfInBounds_toArray, List.set_cons_zero, List.set_cons_succ]
            refine wpAnyIn_takeD (i := 11) (d := some 21) (v := .bool false) rfl rfl rfl (by kernel_rfl) (by kernel_rfl) (by kernel_rfl) (fun _ _ _ h => h) ⟨Or.inl ⟨by rfl, ?_⟩, ?_⟩ ?_
            · intro w; go_simp
            · intro w; first | rfl | kernel_rfl
            try simp only [Act.put, List.setIfInBounds_toArray, List.set_cons_zero, List.set_cons_succ]
            refine wpAnyIn_done (by kernel_rfl) ?_ _
            gi_wp2
            go_roundw
            case rel => exact ⟨k + 1, j + 2, Lib.hid (by have := hjk.out; omega), by omega, by have := hjk.out; omega, by go_num, hJ3⟩
            case measure => simp [intOf]; omega
          · refine hK _ _ ?_
            clear hK K
            try simp only [Act.put, List.setIfInBounds_toArray, List.set_cons_zero, List.set_cons_succ]
            refine wpAnyIn_takeD (i := 11) (d := some 21) (v := .bool true) rfl rfl rfl (by kernel_rfl) (by kernel_rfl) (by kernel_rfl) (fun _ _ _ h => h) ⟨Or.inl ⟨by rfl, ?_⟩, ?_⟩ ?_
            · intro w; go_simp
            · intro w; first | rfl | kernel_rfl
            try simp only [Act.put, List.setIfInBounds_toArray, List.set_cons_zero, List.set_cons_succ]
            refine wpAnyIn_done (by kernel_rfl) ?_ _
            gi_wp2
            refine bodyPost_ret (results_none rfl _ _ _) rfl ?_
            exact ⟨⟨_, rfl⟩, .inr hJ3⟩
    · obtain rfl : k = N := by omega
      have hjM : ¬ ((j : Int) + 1 < (M : Int)) := by have := hjk.out; have := HM.out; omega
      gi_wp2
      go_end0
      exact ⟨⟨_, rfl⟩, .inl hJ⟩
end Go.Proofs.Ytfdboahcaiolgaa
