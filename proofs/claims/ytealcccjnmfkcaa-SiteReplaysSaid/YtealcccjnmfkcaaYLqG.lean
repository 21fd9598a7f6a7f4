/-
  Right of the document's answer of layer 7. Condition: the holds can be read, a hundred thousand at most.
-/
import Derived.Test.YtealcccjnmfkcaaYLqF
set_option linter.unusedVariables false
set_option linter.unusedSimpArgs false
namespace Go.Proofs.Ytealcccjnmfkcaa
open Go.RowKit

theorem tkK_get {L : List Hd} {i : Nat} (h : i < L.length) : tkK L i = L[i] := by unfold tkK; rw [List.getElem?_eq_getElem h]; rfl
theorem ord_two {M : List Hd} {x y : Hd} (h : (M ++ [y]).Pairwise bef) (k : bef y x) : (M ++ [y] ++ [x]).Pairwise bef := by
  rw [List.pairwise_append]
  refine ⟨h, by simp, fun a ha b hb => ?_⟩
  simp at hb
  subst hb
  rcases List.mem_append.1 ha with ha | ha
  · rw [List.pairwise_append] at h
    exact bef_trans (h.2.2 a ha y (by simp)) k
  · simp at ha; subst ha; exact k
/-- What the document has seen of the first j holds. -/
structure DRk (L : List Hd) (j : Nat) : Prop where
  ok : ∀ h ∈ L.take j, okH h
  ord : (L.take j).Pairwise bef
  al : ∀ i, i < j → ∀ k, k < L.length → k ≠ i → (tkK L k).k = (tkK L i).k → (tkK L i).w = false
theorem DRk.zero (L : List Hd) : DRk L 0 := ⟨by simp, by simp, fun i h => by omega⟩
theorem DRk.right {L : List Hd} (h : DRk L L.length) : RightK L := by
  obtain ⟨h1, h2, h3⟩ := h
  rw [List.take_length] at h1 h2
  refine ⟨h1, h2, List.pairwise_iff_getElem.2 fun i j hi hj hij => ?_⟩
  have a := h3 i hi j hj (by omega)
  have b := h3 j hj i hi (by omega)
  rw [tkK_get hi, tkK_get hj] at a b
  exact fun e => ⟨a e.symm, b e⟩
theorem DRk.next {L : List Hd} {j : Nat} (h : DRk L j) (hj : j < L.length) (h1 : okH (tkK L j)) (h2 : 0 < j → bef (tkK L (j - 1)) (tkK L j)) (h3 : ∀ k, k < L.length → k ≠ j → (tkK L k).k = (tkK L j).k → (tkK L j).w = false) : DRk L (j + 1) := by
  refine ⟨?_, ?_, fun i hi k hk hne e => ?_⟩
  · rw [tkK_take hj]
    intro p hp
    rcases List.mem_append.1 hp with hp | hp
    · exact h.ok p hp
    · simp at hp; subst hp; exact h1
  · rcases Nat.eq_zero_or_pos j with h0 | h0
    · subst h0; rw [tkK_take hj]; simp
    · have e := tkK_take (L := L) (j := j - 1) (by omega)
      rw [show j - 1 + 1 = j by omega] at e
      have ho := h.ord
      rw [tkK_take hj]
      rw [e] at ho ⊢
      exact ord_two ho (h2 h0)
  · rcases Nat.lt_succ_iff_lt_or_eq.1 hi with hi | rfl
    · exact h.al i hi k hk hne e
    · exact h3 k hk hne e
theorem no_ok {L : List Hd} {j : Nat} (hj : j < L.length) (h : okB (tkK L j) = false) : rightKB L = false := by
  rw [rightKB_no]
  intro k
  have := okB_iff.2 (k.1 _ (tkK_mem hj))
  rw [h] at this
  cases this
theorem no_ord {L : List Hd} {j : Nat} (hj : j < L.length) (h0 : 0 < j) (h : ¬ bef (tkK L (j - 1)) (tkK L j)) : rightKB L = false := by
  rw [rightKB_no]
  intro k
  have := List.pairwise_iff_getElem.1 k.2.1 (j - 1) j (by omega) hj (by omega)
  rw [← tkK_get, ← tkK_get] at this
  exact h this
theorem no_al {L : List Hd} {j k : Nat} (hj : j < L.length) (hk : k < L.length) (hne : k ≠ j) (he : (tkK L k).k = (tkK L j).k) (hw : (tkK L j).w = true) : rightKB L = false := by
  rw [rightKB_no]
  intro h
  rcases Nat.lt_or_gt_of_ne hne with hl | hl
  · have := List.pairwise_iff_getElem.1 h.2.2 k j hk hj hl
    rw [← tkK_get, ← tkK_get] at this
    have := (this he).2
    rw [hw] at this
    cases this
  · have := List.pairwise_iff_getElem.1 h.2.2 j k hj hk hl
    rw [← tkK_get, ← tkK_get] at this
    have := (this he.symm).1
    rw [hw] at this
    cases this

set_option maxRecDepth 100000 in
set_option maxHeartbeats 4000000 in
theorem rightRK_c (A : Option Addr) (n c : Nat) (L : List Hd) (w : World) (h : HR w A n c L) (hn : n ≤ 100000) :
    Calls Try.prog 101 #[.slice A n c] w fun e w' => e = .returned (.bool (rightKB L)) ∧ Below w.heap.size w w' := by
  have hlen := Lib.hid h.len
  go_enter Try.func101, Try.ntmps101
  go_wp2_with fail
  go_loopw [3] (fun i wr => ∃ j : Nat, j ≤ n ∧ i = .int .i64 j ∧ DRk L j ∧ Below w.heap.size w wr) (fun i _ => n - (intOf i).toNat)
  case atStart => exact ⟨0, by omega, rfl, DRk.zero L, Below.refl _ _⟩
  case round =>
    obtain ⟨j, hj, rfl, hal, hlow⟩ := hrel
    have Hal := Lib.hid hal
    clear hal
    by_cases hlt : j < n
    · obtain ⟨g, off, rfl, d1, d2, d3⟩ := (h.on hlow).at3 hlt
      have hjl : j < L.length := by rw [hlen.out]; exact hlt
      have Hok := Lib.hid (fun hx : okB (tkK L j) = false => no_ok hjl hx)
      have Hal2 := Lib.hid (fun (k : Nat) (hk : k < n) (hne : k ≠ j) (he : (tkK L k).k = (tkK L j).k) (hw : (tkK L j).w = true) => no_al (k := k) hjl (by rw [hlen.out]; exact hk) hne he hw)
      have Hnx := Lib.hid (fun (h1 : okH (tkK L j)) (h2 : 0 < j → bef (tkK L (j - 1)) (tkK L j)) (h3 : ∀ k, k < n → k ≠ j → (tkK L k).k = (tkK L j).k → (tkK L j).w = false) => Hal.out.next hjl h1 h2 (fun k hk => h3 k (by rw [hlen.out] at hk; exact hk)))
      have Hor := Lib.hid (fun (h0 : 0 < j) (hx : ¬ bef (tkK L (j - 1)) (tkK L j)) => no_ord hjl h0 hx)
      generalize hxx : tkK L j = x at *
      have Hxx := Lib.hid hxx
      clear hxx
      obtain ⟨W1, hW1⟩ : ∃ W1, wr.alloc (.cells #[.int .u8 x.k, .int .i64 x.t, .bool x.w] 172) = W1 := ⟨_, rfl⟩
      have k1 : Below wr.heap.size wr W1 := by rw [← hW1]; exact belA wr _
      have cx : CB W1 wr.heap.size 172 #[.int .u8 x.k, .int .i64 x.t, .bool x.w] := by rw [← hW1]; exact CB.new wr _ _
      have hl1 := bel2 hlow k1
      have HW := Lib.hid hW1
      have x0 := cx.cell 0
      have x1 := cx.cell 1
      have x2 := cx.cell 2
      simp only [List.getElem?_toArray, List.getElem?_cons_zero, List.getElem?_cons_succ] at x0 x1 x2
      clear hW1 hlow k1
      go_wp2_with fail
      rw [HW.out]
      refine (may_c x.k x.t x.w W1).mono ?_
      rintro e w1 ⟨rfl, hb1⟩
      have cx1 := cx.same (hb1.block _ cx.lt)
      have hl2 := bel2 hl1 hb1
      clear x0 x1 x2 d1 d2 d3 hb1 hl1 HW cx
      have x0 := cx1.cell 0
      have x1 := cx1.cell 1
      have x2 := cx1.cell 2
      simp only [List.getElem?_toArray, List.getElem?_cons_zero, List.getElem?_cons_succ] at x0 x1 x2
      cases hok : okB x with
      | false =>
        have Hf := Lib.hid (Hok.out hok)
        go_wp2_with fail
        go_ret
        exact ⟨by rw [Hf.out]; rfl, hl2⟩
      | true =>
        have Hok2 := Lib.hid (okB_iff.1 hok)
        clear hok Hok
        rcases Nat.eq_zero_or_pos j with hj0 | hj0
        · have Hbf := Lib.hid (show 0 < j → bef (tkK L (j - 1)) x from fun h => by omega)
          have hz : ¬ (0 : Int) < (j : Int) := by omega
          have hd : decide ((0 : Int) < (j : Int)) = false := by rw [decide_eq_false_iff_not]; exact hz
          have hnj : ¬ 0 < j := by omega
          have hdn : decide (0 < j) = false := by rw [decide_eq_false_iff_not]; exact hnj
          clear hj0 Hor
          go_wp2_with fail
          go_quiet (fail)
          have hl3 := belowN hl2 nq
          have cx2 := cx1.drewN nq
          clear hz hd hnj hdn x0 x1 x2 hl2 cx1
          generalize w1.drewN nq = V at *
          go_wp2_with fail
          go_loopw [5] (fun k wk => ∃ m : Nat, m ≤ n ∧ k = .int .i64 m ∧ (∀ q, q < m → q ≠ j → (tkK L q).k = x.k → x.w = false) ∧ Below V.heap.size V wk) (fun k _ => n - (intOf k).toNat)
          case atStart => exact ⟨0, by omega, rfl, fun q hq => by omega, Below.refl _ _⟩
          case round =>
            obtain ⟨m, hm, rfl, hin2, hlo⟩ := hrel
            have Hin2 := Lib.hid hin2
            clear hin2
            by_cases hmn : m < n
            · have hVw := bel2 hl3 hlo
              obtain ⟨g9, off9, hA9, z0, z1, z2⟩ := (h.on hVw).at3 hmn
              cases hA9
              have cx3 := cx2.same (hlo.block _ cx2.lt)
              have x0 := cx3.cell 0
              have x1 := cx3.cell 1
              have x2 := cx3.cell 2
              simp only [List.getElem?_toArray, List.getElem?_cons_zero, List.getElem?_cons_succ] at x0 x1 x2
              have Hstop := Lib.hid (fun (h1 : m ≠ j) (h2 : (tkK L m).k = x.k) (h3 : x.w = true) => Hal2.out m hmn h1 h2 h3)
              have Hgo := Lib.hid (fun (hx : m ≠ j → (tkK L m).k = x.k → x.w = false) => (show ∀ q, q < m + 1 → q ≠ j → (tkK L q).k = x.k → x.w = false from fun q hq h1 h2 => by
                rcases Nat.lt_succ_iff_lt_or_eq.1 hq with hq | rfl
                · exact Hin2.out q hq h1 h2
                · exact hx h1 h2))
              generalize tkK L m = z at *
              by_cases hmj : m = j
              · have Hg := Lib.hid (Hgo.out (fun h => absurd hmj h))
                have e1 : ((m : Int) != (j : Int)) = false := by simp [hmj]
                have e2 : (m != j) = false := by simp [hmj]
                clear hmj
                go_wp2_with fail
                go_quiet (fail)
                have hlq := Lib.hid (belowN hlo nq)
                clear e1 e2 x0 x1 x2 z0 z1 z2 hlo hVw cx3
                go_wp2_with fail
                go_roundw
                case rel => exact ⟨m + 1, by omega, by go_num, Hg.out, hlq.out⟩
                case measure => simp [intOf]; omega
              · have e1 : ((m : Int) != (j : Int)) = true := by simp; omega
                by_cases hzk : z.k = x.k
                · have e3 : (z.k == x.k) = true := by simp [hzk]
                  rcases (show x.w = true ∨ x.w = false by cases x.w <;> simp) with hxw | hxw
                  · have Hf := Lib.hid (Hstop.out hmj hzk hxw)
                    rw [hxw] at x2
                    clear hmj hzk hxw
                    go_wp2_with fail
                    go_quiet (fail)
                    have hlq := Lib.hid (bel2 hl3 (belowN hlo nq))
                    clear e1 e3 x0 x1 x2 z0 z1 z2 hlo hVw cx3
                    go_wp2_with fail
                    go_ret
                    exact ⟨by rw [Hf.out]; rfl, hlq.out⟩
                  · have Hg := Lib.hid (Hgo.out (fun _ _ => hxw))
                    rw [hxw] at x2
                    clear hmj hzk hxw
                    go_wp2_with fail
                    go_quiet (fail)
                    have hlq := Lib.hid (belowN hlo nq)
                    clear e1 e3 x0 x1 x2 z0 z1 z2 hlo hVw cx3
                    go_wp2_with fail
                    go_roundw
                    case rel => exact ⟨m + 1, by omega, by go_num, Hg.out, hlq.out⟩
                    case measure => simp [intOf]; omega
                · have e3 : (z.k == x.k) = false := by simp [hzk]
                  have Hg := Lib.hid (Hgo.out (fun _ h => absurd h hzk))
                  clear hmj hzk
                  go_wp2_with fail
                  go_quiet (fail)
                  have hlq := Lib.hid (belowN hlo nq)
                  clear e1 e3 x0 x1 x2 z0 z1 z2 hlo hVw cx3
                  go_wp2_with fail
                  go_roundw
                  case rel => exact ⟨m + 1, by omega, by go_num, Hg.out, hlq.out⟩
                  case measure => simp [intOf]; omega
            · obtain rfl : m = n := by omega
              have Hn := Lib.hid (Hnx.out Hok2.out Hbf.out Hin2.out)
              have hlq := Lib.hid (bel2 hl3 hlo)
              clear hlo cx2 hl3
              go_wp2_with fail
              go_roundw
              case rel => exact ⟨j + 1, by omega, by go_num, Hn.out, hlq.out⟩
              case measure => simp [intOf]; omega
        · obtain ⟨i, hi⟩ : ∃ i, i = j - 1 := ⟨_, rfl⟩
          rw [← hi] at Hor Hnx
          have hin : i < n := by omega
          obtain ⟨g9, off9, hA9, y0, y1, y2⟩ := (h.on hl2).at3 hin
          cases hA9
          have Hor2 := Lib.hid (Hor.out hj0)
          clear Hor
          have Hy := Lib.hid (show tkK L i = tkK L i from rfl)
          generalize tkK L i = y at *
          clear Hy
          have q1 : IntKind.i64.wrap ((j : Int) - 1) = (i : Int) := by rw [show (j : Int) - 1 = (i : Int) by omega]; exact IntWalk.i64_in _ (by omega)
          have q1' : wrap64 ((j : Int) - 1) = (i : Int) := by unfold wrap64; omega
          have hi0 : (0 : Int) ≤ (i : Int) := by omega
          have hi1 : (i : Int) < (n : Int) := by omega
          have hz : (0 : Int) < (j : Int) := by omega
          clear hi
          rcases (show y.k < x.k ∨ y.k = x.k ∧ y.t < x.t ∨ (¬ y.k < x.k ∧ ¬ (y.k = x.k ∧ y.t < x.t)) by omega) with hc | ⟨hc, hc'⟩ | ⟨hc, hc'⟩
          · have Hbf := Lib.hid (show 0 < j → bef y x from fun _ => .inl hc)
            have hd1 : decide (y.k < x.k) = true := by rw [decide_eq_true_iff]; exact hc
            clear Hor2
            go_wp2_with fail
            go_quiet (fail)
            have hl3 := belowN hl2 nq
            have cx2 := cx1.drewN nq
            clear q1 q1' hi0 hi1 hz hc hd1 x0 x1 x2 y0 y1 y2 hl2 cx1
            generalize w1.drewN nq = V at *
            go_wp2_with fail
            go_loopw [5] (fun k wk => ∃ m : Nat, m ≤ n ∧ k = .int .i64 m ∧ (∀ q, q < m → q ≠ j → (tkK L q).k = x.k → x.w = false) ∧ Below V.heap.size V wk) (fun k _ => n - (intOf k).toNat)
            case atStart => exact ⟨0, by omega, rfl, fun q hq => by omega, Below.refl _ _⟩
            case round =>
              obtain ⟨m, hm, rfl, hin2, hlo⟩ := hrel
              have Hin2 := Lib.hid hin2
              clear hin2
              by_cases hmn : m < n
              · have hVw := bel2 hl3 hlo
                obtain ⟨g9, off9, hA9, z0, z1, z2⟩ := (h.on hVw).at3 hmn
                cases hA9
                have cx3 := cx2.same (hlo.block _ cx2.lt)
                have x0 := cx3.cell 0
                have x1 := cx3.cell 1
                have x2 := cx3.cell 2
                simp only [List.getElem?_toArray, List.getElem?_cons_zero, List.getElem?_cons_succ] at x0 x1 x2
                have Hstop := Lib.hid (fun (h1 : m ≠ j) (h2 : (tkK L m).k = x.k) (h3 : x.w = true) => Hal2.out m hmn h1 h2 h3)
                have Hgo := Lib.hid (fun (hx : m ≠ j → (tkK L m).k = x.k → x.w = false) => (show ∀ q, q < m + 1 → q ≠ j → (tkK L q).k = x.k → x.w = false from fun q hq h1 h2 => by
                  rcases Nat.lt_succ_iff_lt_or_eq.1 hq with hq | rfl
                  · exact Hin2.out q hq h1 h2
                  · exact hx h1 h2))
                generalize tkK L m = z at *
                by_cases hmj : m = j
                · have Hg := Lib.hid (Hgo.out (fun h => absurd hmj h))
                  have e1 : ((m : Int) != (j : Int)) = false := by simp [hmj]
                  have e2 : (m != j) = false := by simp [hmj]
                  clear hmj
                  go_wp2_with fail
                  go_quiet (fail)
                  have hlq := Lib.hid (belowN hlo nq)
                  clear e1 e2 x0 x1 x2 z0 z1 z2 hlo hVw cx3
                  go_wp2_with fail
                  go_roundw
                  case rel => exact ⟨m + 1, by omega, by go_num, Hg.out, hlq.out⟩
                  case measure => simp [intOf]; omega
                · have e1 : ((m : Int) != (j : Int)) = true := by simp; omega
                  by_cases hzk : z.k = x.k
                  · have e3 : (z.k == x.k) = true := by simp [hzk]
                    rcases (show x.w = true ∨ x.w = false by cases x.w <;> simp) with hxw | hxw
                    · have Hf := Lib.hid (Hstop.out hmj hzk hxw)
                      rw [hxw] at x2
                      clear hmj hzk hxw
                      go_wp2_with fail
                      go_quiet (fail)
                      have hlq := Lib.hid (bel2 hl3 (belowN hlo nq))
                      clear e1 e3 x0 x1 x2 z0 z1 z2 hlo hVw cx3
                      go_wp2_with fail
                      go_ret
                      exact ⟨by rw [Hf.out]; rfl, hlq.out⟩
                    · have Hg := Lib.hid (Hgo.out (fun _ _ => hxw))
                      rw [hxw] at x2
                      clear hmj hzk hxw
                      go_wp2_with fail
                      go_quiet (fail)
                      have hlq := Lib.hid (belowN hlo nq)
                      clear e1 e3 x0 x1 x2 z0 z1 z2 hlo hVw cx3
                      go_wp2_with fail
                      go_roundw
                      case rel => exact ⟨m + 1, by omega, by go_num, Hg.out, hlq.out⟩
                      case measure => simp [intOf]; omega
                  · have e3 : (z.k == x.k) = false := by simp [hzk]
                    have Hg := Lib.hid (Hgo.out (fun _ h => absurd h hzk))
                    clear hmj hzk
                    go_wp2_with fail
                    go_quiet (fail)
                    have hlq := Lib.hid (belowN hlo nq)
                    clear e1 e3 x0 x1 x2 z0 z1 z2 hlo hVw cx3
                    go_wp2_with fail
                    go_roundw
                    case rel => exact ⟨m + 1, by omega, by go_num, Hg.out, hlq.out⟩
                    case measure => simp [intOf]; omega
              · obtain rfl : m = n := by omega
                have Hn := Lib.hid (Hnx.out Hok2.out Hbf.out Hin2.out)
                have hlq := Lib.hid (bel2 hl3 hlo)
                clear hlo cx2 hl3
                go_wp2_with fail
                go_roundw
                case rel => exact ⟨j + 1, by omega, by go_num, Hn.out, hlq.out⟩
                case measure => simp [intOf]; omega
          · have Hbf := Lib.hid (show 0 < j → bef y x from fun _ => .inr ⟨hc, hc'⟩)
            have hd1 : decide (y.k < x.k) = false := by rw [decide_eq_false_iff_not]; omega
            have hd2 : (y.k == x.k) = true := by simp [hc]
            have hd3 : decide (y.t < x.t) = true := by rw [decide_eq_true_iff]; exact hc'
            clear Hor2 hc
            go_wp2_with fail
            go_quiet (fail)
            have hl3 := belowN hl2 nq
            have cx2 := cx1.drewN nq
            clear q1 q1' hi0 hi1 hz hc' hd1 hd2 hd3 x0 x1 x2 y0 y1 y2 hl2 cx1
            generalize w1.drewN nq = V at *
            go_wp2_with fail
            go_loopw [5] (fun k wk => ∃ m : Nat, m ≤ n ∧ k = .int .i64 m ∧ (∀ q, q < m → q ≠ j → (tkK L q).k = x.k → x.w = false) ∧ Below V.heap.size V wk) (fun k _ => n - (intOf k).toNat)
            case atStart => exact ⟨0, by omega, rfl, fun q hq => by omega, Below.refl _ _⟩
            case round =>
              obtain ⟨m, hm, rfl, hin2, hlo⟩ := hrel
              have Hin2 := Lib.hid hin2
              clear hin2
              by_cases hmn : m < n
              · have hVw := bel2 hl3 hlo
                obtain ⟨g9, off9, hA9, z0, z1, z2⟩ := (h.on hVw).at3 hmn
                cases hA9
                have cx3 := cx2.same (hlo.block _ cx2.lt)
                have x0 := cx3.cell 0
                have x1 := cx3.cell 1
                have x2 := cx3.cell 2
                simp only [List.getElem?_toArray, List.getElem?_cons_zero, List.getElem?_cons_succ] at x0 x1 x2
                have Hstop := Lib.hid (fun (h1 : m ≠ j) (h2 : (tkK L m).k = x.k) (h3 : x.w = true) => Hal2.out m hmn h1 h2 h3)
                have Hgo := Lib.hid (fun (hx : m ≠ j → (tkK L m).k = x.k → x.w = false) => (show ∀ q, q < m + 1 → q ≠ j → (tkK L q).k = x.k → x.w = false from fun q hq h1 h2 => by
                  rcases Nat.lt_succ_iff_lt_or_eq.1 hq with hq | rfl
                  · exact Hin2.out q hq h1 h2
                  · exact hx h1 h2))
                generalize tkK L m = z at *
                by_cases hmj : m = j
                · have Hg := Lib.hid (Hgo.out (fun h => absurd hmj h))
                  have e1 : ((m : Int) != (j : Int)) = false := by simp [hmj]
                  have e2 : (m != j) = false := by simp [hmj]
                  clear hmj
                  go_wp2_with fail
                  go_quiet (fail)
                  have hlq := Lib.hid (belowN hlo nq)
                  clear e1 e2 x0 x1 x2 z0 z1 z2 hlo hVw cx3
                  go_wp2_with fail
                  go_roundw
                  case rel => exact ⟨m + 1, by omega, by go_num, Hg.out, hlq.out⟩
                  case measure => simp [intOf]; omega
                · have e1 : ((m : Int) != (j : Int)) = true := by simp; omega
                  by_cases hzk : z.k = x.k
                  · have e3 : (z.k == x.k) = true := by simp [hzk]
                    rcases (show x.w = true ∨ x.w = false by cases x.w <;> simp) with hxw | hxw
                    · have Hf := Lib.hid (Hstop.out hmj hzk hxw)
                      rw [hxw] at x2
                      clear hmj hzk hxw
                      go_wp2_with fail
                      go_quiet (fail)
                      have hlq := Lib.hid (bel2 hl3 (belowN hlo nq))
                      clear e1 e3 x0 x1 x2 z0 z1 z2 hlo hVw cx3
                      go_wp2_with fail
                      go_ret
                      exact ⟨by rw [Hf.out]; rfl, hlq.out⟩
                    · have Hg := Lib.hid (Hgo.out (fun _ _ => hxw))
                      rw [hxw] at x2
                      clear hmj hzk hxw
                      go_wp2_with fail
                      go_quiet (fail)
                      have hlq := Lib.hid (belowN hlo nq)
                      clear e1 e3 x0 x1 x2 z0 z1 z2 hlo hVw cx3
                      go_wp2_with fail
                      go_roundw
                      case rel => exact ⟨m + 1, by omega, by go_num, Hg.out, hlq.out⟩
                      case measure => simp [intOf]; omega
                  · have e3 : (z.k == x.k) = false := by simp [hzk]
                    have Hg := Lib.hid (Hgo.out (fun _ h => absurd h hzk))
                    clear hmj hzk
                    go_wp2_with fail
                    go_quiet (fail)
                    have hlq := Lib.hid (belowN hlo nq)
                    clear e1 e3 x0 x1 x2 z0 z1 z2 hlo hVw cx3
                    go_wp2_with fail
                    go_roundw
                    case rel => exact ⟨m + 1, by omega, by go_num, Hg.out, hlq.out⟩
                    case measure => simp [intOf]; omega
              · obtain rfl : m = n := by omega
                have Hn := Lib.hid (Hnx.out Hok2.out Hbf.out Hin2.out)
                have hlq := Lib.hid (bel2 hl3 hlo)
                clear hlo cx2 hl3
                go_wp2_with fail
                go_roundw
                case rel => exact ⟨j + 1, by omega, by go_num, Hn.out, hlq.out⟩
                case measure => simp [intOf]; omega
          · have Hf := Lib.hid (Hor2.out (show ¬ bef y x by unfold bef; omega))
            have hd1 : decide (y.k < x.k) = false := by rw [decide_eq_false_iff_not]; exact hc
            rcases (show y.k ≠ x.k ∨ y.k = x.k ∧ ¬ y.t < x.t by omega) with hq | ⟨hq, hq'⟩
            · have hd2 : (y.k == x.k) = false := by simp [hq]
              clear hq hc hc' Hor2
              go_wp2_with fail
              go_quiet (fail)
              have hl3 := belowN hl2 nq
              clear q1 q1' hi0 hi1 hz hd1 hd2 x0 x1 x2 y0 y1 y2 hl2 cx1
              go_wp2_with fail
              go_ret
              exact ⟨by rw [Hf.out]; rfl, hl3⟩
            · have hd2 : (y.k == x.k) = true := by simp [hq]
              have hd3 : decide (y.t < x.t) = false := by rw [decide_eq_false_iff_not]; exact hq'
              clear hq hc hc' Hor2
              go_wp2_with fail
              go_quiet (fail)
              have hl3 := belowN hl2 nq
              clear q1 q1' hi0 hi1 hz hd1 hd2 hd3 hq' x0 x1 x2 y0 y1 y2 hl2 cx1
              go_wp2_with fail
              go_ret
              exact ⟨by rw [Hf.out]; rfl, hl3⟩
    · obtain rfl : j = n := by omega
      have hr := Lib.hid (show rightKB L = true by
        have := Hal.out
        rw [← hlen.out] at this
        exact rightKB_iff.2 this.right)
      go_wp2_with fail
      go_ret
      exact ⟨by rw [hr.out]; rfl, hlow⟩
end Go.Proofs.Ytealcccjnmfkcaa
