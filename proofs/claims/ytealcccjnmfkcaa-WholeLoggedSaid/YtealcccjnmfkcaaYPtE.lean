/-
  Effect and gained of package part. Condition: the deltas can be read, a thousand at most.
-/
import Derived.Test.YtealcccjnmfkcaaYPtD
import Derived.Deep.CutRange
import Derived.Deep.RegionHeld3
set_option linter.unusedVariables false
set_option linter.unusedSimpArgs false
namespace Go.Proofs.Ytealcccjnmfkcaa
open Go.RowKit

set_option maxRecDepth 100000 in
set_option maxHeartbeats 2000000 in
theorem effect_c (s : Int) (A : Option Addr) (n c : Nat) (l : Bool) (o : Int) (L : List Dl) (w : World) (h : DR w A n c L) (hn : n ≤ 1000) :
    Calls Try.prog 24 #[.agg #[.int .i64 s, .slice A n c, .bool l, .int .i64 o]] w (LPost w (eff ⟨s, L, l, o⟩)) := by
  obtain ⟨W, hW⟩ : ∃ W, w.alloc (.cells #[.int .i64 s, .slice A n c, .bool l, .int .i64 o] 40) = W := ⟨_, rfl⟩
  have hp : PB W (w.heap.size) 40 s A n c l o := by
    rw [← hW]
    have := (PB.new w 40 s A n c l o)
    simpa using this
  have hb : Below w.heap.size w W := by rw [← hW]; exact belA _ _
  have hS := Lib.hid (show W.heap.size = w.heap.size + 1 by rw [← hW]; simp)
  have HW := Lib.hid hW
  clear hW
  have hd := h.on hb
  obtain ⟨c0, c1, c2, c3⟩ := hp.cells
  have hc := right_c s A n c l o L W hd
  go_enter Try.func24, Try.ntmps24
  go_wp2_with fail
  rw [HW.out]
  go_wp2_with fail
  refine hc.mono ?_
  rintro e w1 ⟨rfl, b1⟩
  have hp1 := hp.on b1
  have hd1 := hd.on b1
  have hb1 := bel2 hb b1
  clear hc b1 hp hd hb c0 c1 c2 c3 hS
  obtain ⟨c0, c1, c2, c3⟩ := hp1.cells
  have Hnil := Lib.hid (fun (e : eff ⟨s, L, l, o⟩ = []) => (show LPost w (eff ⟨s, L, l, o⟩) (.returned (.slice none 0 0)) w1 by rw [e]; exact ⟨none, 0, 0, rfl, RS.nil _ _ _ _, hb1⟩))
  have Hcopy := Lib.hid (fun (e : eff ⟨s, L, l, o⟩ = L) => show Calls Try.prog 41 #[.slice A n c] w1 (LPost w (eff ⟨s, L, l, o⟩)) from (copyD_o A n c L w1 hd1 hn).mono (by
    rintro e' w2 ⟨A1, c1', rfl, hos⟩
    obtain ⟨A2, n2, c2', e2, hs2, hl2⟩ := RPost.of_os hos
    cases e2
    rw [e]
    exact ⟨A1, n, c1', rfl, hs2, bel2 hb1 hl2⟩))
  have Happ := Lib.hid (fun (e : eff ⟨s, L, l, o⟩ = L ++ opp L) => e)
  cases hok : okP ⟨s, L, l, o⟩ with
  | false =>
    have H := Lib.hid (Hnil.out (by unfold eff; rw [if_pos hok]))
    clear Hnil Hcopy Happ hok
    go_wp2_with fail
    go_ret
    exact H.out
  | true =>
    have hne : ¬ okP ⟨s, L, l, o⟩ = false := by rw [hok]; simp
    clear hok
    by_cases h1 : s = 1
    · have h1a : (s == 1) = true := by simp [h1]
      have h3a : (s == 3) = false := by simp [h1]
      cases l with
      | true =>
        have H := Lib.hid (Hcopy.out (by unfold eff; rw [if_neg hne, if_pos (.inr ⟨h1, rfl⟩)]))
        clear Hnil Hcopy Happ hne h1
        go_wp2_with fail
        refine H.out.mono ?_
        rintro e w2 ⟨A2, n2, c2', rfl, hs2, hl2⟩
        go_wp2_with fail
        go_ret
        exact ⟨A2, n2, c2', rfl, hs2, hl2⟩
      | false =>
        have H := Lib.hid (Hnil.out (by unfold eff; rw [if_neg hne, if_neg (by show ¬ (s = 3 ∧ o = 1 ∨ s = 1 ∧ false = true); rw [h1]; simp), if_neg (by simp)]))
        clear Hnil Hcopy Happ hne h1
        go_wp2_with fail
        go_ret
        exact H.out
    · have h1a : (s == 1) = false := by simp [h1]
      by_cases h3 : s = 3
      · have h3a : (s == 3) = true := by simp [h3]
        by_cases ho : o = 1
        · have hoa : (o == 1) = true := by simp [ho]
          have H := Lib.hid (Hcopy.out (by unfold eff; rw [if_neg hne, if_pos (.inl ⟨h3, ho⟩)]))
          clear Hnil Hcopy Happ hne h1 h3 ho
          go_wp2_with fail
          refine H.out.mono ?_
          rintro e w2 ⟨A2, n2, c2', rfl, hs2, hl2⟩
          go_wp2_with fail
          go_ret
          exact ⟨A2, n2, c2', rfl, hs2, hl2⟩
        · have hoa : (o == 1) = false := by simp [ho]
          cases l with
          | true =>
            have He := Lib.hid (Happ.out (by unfold eff; rw [if_neg hne, if_neg (by show ¬ (s = 3 ∧ o = 1 ∨ s = 1 ∧ true = true); simp [h1, ho]), if_pos ⟨h3, rfl⟩]))
            clear Hnil Hcopy Happ hne h1 h3 ho
            obtain ⟨i0, hi0, hz0, hz1, hz2⟩ := info_parts Try.infoD
            have p03 : 0 < 2 := by omega
            have q1 : n + n ≤ maxLen := by simp only [maxLen]; omega
            have q2 : (n + n) * 16 ≤ 140737488355328 := by omega
            obtain ⟨N, hN⟩ : ∃ N, n + n = N := ⟨_, rfl⟩
            have HN := Lib.hid hN
            have Hi := Lib.hid hi0
            have Hz := Lib.hid hz0
            have Hz1 := Lib.hid hz1
            have Hz2 := Lib.hid hz2
            clear hN hi0 hz0 hz1 hz2
            go_upto_region 7 with fail
            go_region_held3 (fun W' => W'.cell? ⟨w.heap.size, 1, none⟩ = some (.slice A n c)) (first | exact c1 | exact y1 | exact y2 | exact y3) (first
              | (refine step_append_src _ (.tmp 36) (.tmp 39) _ (by rfl) 102 i0 _ 2 16 Try.underlying26 Hi.out Hz.out Hz1.out Hz2.out rfl p03 (by rfl) s2 (by rfl) r3 (rc_one 2 _) q1 q2 (by rfl) N HN.out ?_; intro A5 c5 G5 w5 hs5 hg5 hm5; have y3 := (show PB w5 _ _ _ _ _ _ _ _ from CB.same hq (hg5.block _ hq.lt (fun e => absurd (hG2 _ e.symm) (Nat.not_le.2 hp1.lt)))).cells.2.1)
              | (go_at_call 41; refine (copyD_o A n c L w1.drew hd1.drew hn).mono ?_; rintro e w2 ⟨A2, c2', rfl, hos2⟩; have y1 := (hp1.drew.on hos2.low).cells.2.1)
              | (go_at_call 42; refine (compens_c A n c L w2 ((hd1.drew).on hos2.low) hn).mono ?_; rintro e w3 ⟨A3, c3', rfl, hos3⟩; have hq := (hp1.drew.on hos2.low).on hos3.low; have y2 := hq.cells.2.1; obtain ⟨⟨A9, m9, c9, G2, hv2, s2, hG2⟩, hl2⟩ := hos2.on hos3.low; cases hv2; obtain ⟨⟨A8, m8, c8, G3, hv3, s3, hG3⟩, hl3⟩ := hos3; cases hv3; have r3 := s3.src))
            have H := Lib.hid (show LPost w (eff ⟨s, L, true, o⟩) (.returned (.slice A5 N c5)) w5 by
              rw [He.out]
              rw [← rc_append] at hs5
              exact ⟨A5, N, c5, rfl, ⟨G5, hs5⟩, (bel2 hb1 (below_drew (W := w1) hl2)).grown hg5 (bel2 hb1 (below_drew (W := w1) hl2)).size (fun g e => Nat.le_trans hb1.size (hG2 g e))⟩)
            clear hs5 hg5 hm5 s2 s3 r3 hos2 hq y1 y2 y3 hl2 hl3
            go_wp2_with fail
            go_ret
            exact H.out
          | false =>
            have H := Lib.hid (Hnil.out (by unfold eff; rw [if_neg hne, if_neg (by show ¬ (s = 3 ∧ o = 1 ∨ s = 1 ∧ false = true); simp [h1, ho]), if_neg (by simp)]))
            clear Hnil Hcopy Happ hne h1 h3 ho
            go_wp2_with fail
            go_ret
            exact H.out
      · have h3a : (s == 3) = false := by simp [h3]
        have H := Lib.hid (Hnil.out (eff_other h1 h3))
        clear Hnil Hcopy Happ hne h1 h3
        go_wp2_with fail
        go_ret
        exact H.out

/-- A call gave a slice back that can be read. -/
def GPost (w : World) (D : List Dl) (e : Ending) (w' : World) : Prop := ∃ A n c, e = .returned (.slice A n c) ∧ DR w' A n c D ∧ Below w.heap.size w w'
theorem cut_D {w : World} {A : Option Addr} {n c : Nat} {L : List Dl} (h : DR w A n c L) (k : Nat) (hk : k ≤ n) :
    ∃ A', (∀ V, (Instr.slice 26 (.slice A n c) (some (.int .i64 (k : Int))) none none).run Try.prog V = .ok (.slice A' (n - k) (c - k)) V) ∧ DR w A' (n - k) (c - k) (L.drop k) :=
  ⟨_, fun V => run_cut_from _ _ Try.underlying26 2 size_D A n c k hk V, h.cut hk⟩
set_option maxRecDepth 100000 in
set_option maxHeartbeats 2000000 in
theorem gained_c (s : Int) (A : Option Addr) (n c : Nat) (l : Bool) (o : Int) (L : List Dl) (s' : Int) (A' : Option Addr) (n' c' : Nat) (l' : Bool) (o' : Int) (M : List Dl) (w : World) (h : DR w A n c L) (hn : n ≤ 1000) (h' : DR w A' n' c' M) (hn' : n' ≤ 1000)
    (hle : (eff ⟨s, L, l, o⟩).length ≤ (eff ⟨s', M, l', o'⟩).length) :
    Calls Try.prog 99 #[.agg #[.int .i64 s, .slice A n c, .bool l, .int .i64 o], .agg #[.int .i64 s', .slice A' n' c', .bool l', .int .i64 o']] w (GPost w ((eff ⟨s', M, l', o'⟩).drop (eff ⟨s, L, l, o⟩).length)) := by
  obtain ⟨W, hW⟩ : ∃ W, (w.alloc (.cells #[.int .i64 s, .slice A n c, .bool l, .int .i64 o] 40)).alloc (.cells #[.int .i64 s', .slice A' n' c', .bool l', .int .i64 o'] 40) = W := ⟨_, rfl⟩
  have hp : PB W (w.heap.size) 40 s A n c l o := by
    rw [← hW]
    have := ((PB.new w 40 s A n c l o).alloc (.cells #[.int .i64 s', .slice A' n' c', .bool l', .int .i64 o'] 40))
    simpa using this
  have hq : PB W (w.heap.size + 1) 40 s' A' n' c' l' o' := by
    rw [← hW]
    have := (PB.new (w.alloc (.cells #[.int .i64 s, .slice A n c, .bool l, .int .i64 o] 40)) 40 s' A' n' c' l' o')
    simpa using this
  have hb : Below w.heap.size w W := by rw [← hW]; exact bel2 (belA _ _) (belA _ _)
  have hS := Lib.hid (show W.heap.size = w.heap.size + 2 by rw [← hW]; simp)
  have HW := Lib.hid hW
  clear hW
  have hd := h.on hb
  have hd' := h'.on hb
  have Hle := Lib.hid hle
  have Hy := Lib.hid (show (W.cell? ⟨w.heap.size, 0, none⟩ = some (.int .i64 s) ∧ W.cell? ⟨w.heap.size, 1, none⟩ = some (.slice A n c) ∧ W.cell? ⟨w.heap.size, 2, none⟩ = some (.bool l) ∧ W.cell? ⟨w.heap.size, 3, none⟩ = some (.int .i64 o)) ∧ (W.cell? ⟨w.heap.size + 1, 0, none⟩ = some (.int .i64 s') ∧ W.cell? ⟨w.heap.size + 1, 1, none⟩ = some (.slice A' n' c') ∧ W.cell? ⟨w.heap.size + 1, 2, none⟩ = some (.bool l') ∧ W.cell? ⟨w.heap.size + 1, 3, none⟩ = some (.int .i64 o')) from ⟨hp.cells, hq.cells⟩)
  clear hS hle
  go_enter Try.func99, Try.ntmps99
  go_upto_region 1 with fail
  rw [HW.out]
  go_region_held3 (fun W' => (W'.cell? ⟨w.heap.size, 0, none⟩ = some (.int .i64 s) ∧ W'.cell? ⟨w.heap.size, 1, none⟩ = some (.slice A n c) ∧ W'.cell? ⟨w.heap.size, 2, none⟩ = some (.bool l) ∧ W'.cell? ⟨w.heap.size, 3, none⟩ = some (.int .i64 o)) ∧ (W'.cell? ⟨w.heap.size + 1, 0, none⟩ = some (.int .i64 s') ∧ W'.cell? ⟨w.heap.size + 1, 1, none⟩ = some (.slice A' n' c') ∧ W'.cell? ⟨w.heap.size + 1, 2, none⟩ = some (.bool l') ∧ W'.cell? ⟨w.heap.size + 1, 3, none⟩ = some (.int .i64 o'))) (first | exact Hy.out | exact y1.out | exact y2.out) (first
    | (go_at_call 24; (with_reducible refine (effect_c s' A' n' c' l' o' M W.drew hd'.drew hn').mono ?_); rintro e w2 ⟨A1, n1, c1, rfl, hs1, hl1⟩; have y1 := Lib.hid (And.intro (hp.drew.on hl1).cells (hq.drew.on hl1).cells))
    | (go_at_call 24; (with_reducible refine (effect_c s A n c l o L w2 (hd.drew.on hl1) hn).mono ?_); rintro e w3 ⟨A2, n2, c2, rfl, hs2, hl2⟩; have y2 := Lib.hid (And.intro ((hp.drew.on hl1).on hl2).cells ((hq.drew.on hl1).on hl2).cells); obtain ⟨A3, hcut, hres⟩ := cut_D (hs1.on hl2).rr n2 (by rw [← hs1.rr.len, ← hs2.rr.len]; exact Hle.out)))
  have H := Lib.hid (show GPost w ((eff ⟨s', M, l', o'⟩).drop (eff ⟨s, L, l, o⟩).length) (.returned (.slice A3 (n1 - n2) (c1 - n2))) w3 by
    rw [hs2.rr.len]
    exact ⟨A3, _, _, rfl, hres, bel2 (bel2 hb (below_drew (W := W) hl1)) hl2⟩)
  clear hres hs1 hs2 hl1 hl2 y1 y2 hcut
  go_wp2_with fail
  go_ret
  exact H.out
end Go.Proofs.Ytealcccjnmfkcaa
