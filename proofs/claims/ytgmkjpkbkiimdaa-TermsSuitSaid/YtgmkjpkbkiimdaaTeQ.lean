/-
  The walk of the law TermsSuit: it returns true and leaves all memory that was there. Condition: the numbers can be read.
-/
import Derived.Test.YtgmkjpkbkiimdaaTeE
set_option linter.unusedVariables false
set_option linter.unusedSimpArgs false
namespace Go.Proofs.Ytgmkjpkbkiimdaa
open Go.RowKit


theorem suit_in {l : List Int} {a b : Int} (h : eAgr l a b = 0) : a ≤ vAgr l a b ∧ vAgr l a b ≤ b ∧ (1 ≤ vAgr l a b ∧ vAgr l a b ≤ 1048576) := by
  obtain ⟨h1, h2, h3, _, hv⟩ := agr_zero h
  rw [hv]
  omega
theorem suit_ge {l : List Int} {a b x : Int} (h : eAgr l a b = 0) (hx : x ∈ l) (hb : x ≤ b) : ¬ vAgr l a b < x := by
  obtain ⟨h1, h2, h3, _, hv⟩ := agr_zero h
  have := maxL_ge hx
  rw [hv]
  omega
theorem suit_met {l : List Int} {a b : Int} (h : eAgr l a b = 0) : vAgr l a b = a ∨ vAgr l a b = b ∨ vAgr l a b ∈ l := by
  obtain ⟨h1, h2, h3, hl, hv⟩ := agr_zero h
  have hm := maxL_mem hl
  by_cases ha : maxL l < a
  · exact .inl (by rw [hv]; omega)
  · by_cases hb : b < maxL l
    · exact .inr (.inl (by rw [hv]; omega))
    · have : vAgr l a b = maxL l := by rw [hv]; omega
      exact .inr (.inr (by rw [this]; exact hm))
theorem new_of {v : Int} (h : 1 ≤ v ∧ v ≤ 1048576) : eNew 0 v 0 = 0 ∧ sNew 0 v 0 = ⟨v, v, 0, 0⟩ := by
  have ho : okN 0 v 0 := ⟨⟨by omega, by omega⟩, h, by omega, by omega⟩
  have he : eNew 0 v 0 = 0 := eNew_0 ho (by rw [show (0 + 1 : Int) = 1 from rfl, Int.one_mul]; omega)
  exact ⟨he, by rw [sNew_z he, Int.zero_add]⟩
theorem mem_next {l : List Int} {k : Nat} {x v : Int} {q p : Bool} (hx : l[k]? = some x) (hq : q = (p || decide (v ∈ l.take k))) : (q || (v == x)) = (p || decide (v ∈ l.take (k + 1))) := by
  obtain ⟨hk, rfl⟩ := List.getElem?_eq_some_iff.1 hx
  have e : v ∈ l.take (k + 1) ↔ (v ∈ l.take k ∨ v = l[k]) := by rw [List.take_succ_eq_append_getElem hk]; simp only [List.mem_append, List.mem_singleton]
  rw [hq, Bool.eq_iff_iff]
  simp only [Bool.or_eq_true, decide_eq_true_eq, beq_iff_eq, e, or_assoc]

set_option maxRecDepth 100000 in
set_option maxHeartbeats 8000000 in
theorem suit_walk (A : Option Addr) (n c : Nat) (l : List Int) (a b : Int) (w : World) (h : RR w ic 1 A n c l) : Calls Try.prog 6 #[.slice A n c, .int .i64 a, .int .i64 b] w fun r w' => r = .returned (.bool true) ∧ Below w.heap.size w w' := by
  have hmx : n ≤ maxLen := Nat.le_trans h.cap h.max
  simp only [maxLen] at hmx
  have hlen := h.len
  by_cases hn : 200 < n
  · have hn' : decide ((200 : Int) < (n : Int)) = true := by simp; omega
    clear hn hlen h
    go_enter Try.func6, Try.ntmps6
    go_wp2_with fail
    refine (alive_c _).mono ?_
    rintro e w1 ⟨rfl, b1⟩
    have l2 := b1
    clear b1
    go_wp2_with fail
    go_ret
    exact ⟨rfl, l2⟩
  have hn' : decide ((200 : Int) < (n : Int)) = false := by simp; omega
  clear hn
  have A1 := fun W => agree_c A n c l a b W
  by_cases he : eAgr l a b = 0
  · obtain ⟨i1, i2, i3⟩ := suit_in he
    have G1 := fun x hx hb => suit_ge (x := x) he hx hb
    have M1 := suit_met he
    simp only [he] at A1
    obtain ⟨v, hv⟩ : ∃ v, vAgr l a b = v := ⟨_, rfl⟩
    rw [hv] at i1 i2 i3 M1
    simp only [hv] at A1 G1
    clear hv he
    have n1 := new_of i3
    have N1 := fun W => new_c 0 v 0 W
    simp only [n1.1, n1.2] at N1
    have q1 : decide (a ≤ v) = true := by simp [i1]
    have q2 : decide (v ≤ b) = true := by simp [i2]
    have G1 := Lib.hid G1
    have M1 := Lib.hid M1
    clear n1 i1 i2 i3
    by_cases v1 : v = a
    · have f1 : (v == a) = true := by simp [v1]
      clear v1
      go_enter Try.func6, Try.ntmps6
      go_wp2_with fail
      refine (alive_c _).mono ?_
      rintro e w1 ⟨rfl, b1⟩
      have r2_h := (h).on b1
      have l2 := b1
      clear h
      clear b1
      go_wp2_with fail
      refine (A1 _ r2_h).mono ?_
      rintro e w3 ⟨rfl, b3⟩
      have r4_h := (r2_h).on b3
      have l4 := le_tr l2 b3
      clear r2_h l2
      clear b3
      have H := Lib.hid r4_h
      have hlow := Lib.hid l4
      clear r4_h l4
      generalize w3 = V at *
      go_wp2_with fail
      go_loopw [9, 40] (fun m i wr => ∃ (k : Nat) (q : Bool), k ≤ n ∧ i = .int .i64 k ∧ m = .bool q ∧ Hid (q = (true || decide (v ∈ l.take k))) ∧ wr = V) (fun _ i _ => n - (intOf i).toNat)
      case atStart => exact ⟨0, true, by omega, rfl, rfl, Lib.hid (by simp), rfl⟩
      case round =>
        obtain ⟨k, q, hk, rfl, rfl, hq, rfl⟩ := hrel
        by_cases hlt : k < n
        · obtain ⟨g, off, x, hx, rfl, c1⟩ := H.out.i64 hlt
          have hg := G1.out x (List.mem_of_getElem? hx)
          have Hn := Lib.hid (mem_next (v := v) hx hq.out)
          clear hx hq
          by_cases hxb : x ≤ b
          · have x1 : decide (x ≤ b) = true := by simp [hxb]
            have x2 : decide (v < x) = false := by have := hg hxb; simp; omega
            clear hxb hg
            cases q with
            | true =>
              go_wp2_with fail
              go_roundw
              case rel => exact ⟨k + 1, true, by omega, by go_num, rfl, Lib.hid (by rw [← Hn.out]; rfl), by first | rfl | trivial⟩
              case measure => simp [intOf]; omega
            | false =>
              go_wp2_with fail
              go_roundw
              case rel => exact ⟨k + 1, (v == x), by omega, by go_num, rfl, Lib.hid (by rw [← Hn.out]; rfl), by first | rfl | trivial⟩
              case measure => simp [intOf]; omega
          · have x1 : decide (x ≤ b) = false := by simp; omega
            clear hxb hg
            cases q with
            | true =>
              go_wp2_with fail
              go_roundw
              case rel => exact ⟨k + 1, true, by omega, by go_num, rfl, Lib.hid (by rw [← Hn.out]; rfl), by first | rfl | trivial⟩
              case measure => simp [intOf]; omega
            | false =>
              go_wp2_with fail
              go_roundw
              case rel => exact ⟨k + 1, (v == x), by omega, by go_num, rfl, Lib.hid (by rw [← Hn.out]; rfl), by first | rfl | trivial⟩
              case measure => simp [intOf]; omega
        · obtain rfl : k = n := by omega
          have hqt : q = true := by
            rw [hq.out, show l.take k = l from List.take_of_length_le (by omega)]
            have M2 := M1.out
            simp
          subst hqt
          clear hq hlt
          go_wp2_with fail
          refine (N1 _).mono ?_
          rintro e w9 ⟨rfl, b9⟩
          have l9 := Lib.hid ((le_tr hlow.out b9).alloc (le_tr hlow.out b9).size (.cells #[.int .i64 v, .int .i64 v, .int .i64 0, .int .i64 0] 25))
          clear b9
          go_wp2_with fail
          go_ret
          exact ⟨rfl, l9.out⟩
    have f1 : (v == a) = false := by simp [v1]
    by_cases v2 : v = b
    · have f2 : (v == b) = true := by simp [v2]
      have v1 := Lib.hid v1
      clear v2
      go_enter Try.func6, Try.ntmps6
      go_wp2_with fail
      refine (alive_c _).mono ?_
      rintro e w1 ⟨rfl, b1⟩
      have r2_h := (h).on b1
      have l2 := b1
      clear h
      clear b1
      go_wp2_with fail
      refine (A1 _ r2_h).mono ?_
      rintro e w3 ⟨rfl, b3⟩
      have r4_h := (r2_h).on b3
      have l4 := le_tr l2 b3
      clear r2_h l2
      clear b3
      have H := Lib.hid r4_h
      have hlow := Lib.hid l4
      clear r4_h l4
      generalize w3 = V at *
      go_wp2_with fail
      go_loopw [9, 40] (fun m i wr => ∃ (k : Nat) (q : Bool), k ≤ n ∧ i = .int .i64 k ∧ m = .bool q ∧ Hid (q = (true || decide (v ∈ l.take k))) ∧ wr = V) (fun _ i _ => n - (intOf i).toNat)
      case atStart => exact ⟨0, true, by omega, rfl, rfl, Lib.hid (by simp), rfl⟩
      case round =>
        obtain ⟨k, q, hk, rfl, rfl, hq, rfl⟩ := hrel
        by_cases hlt : k < n
        · obtain ⟨g, off, x, hx, rfl, c1⟩ := H.out.i64 hlt
          have hg := G1.out x (List.mem_of_getElem? hx)
          have Hn := Lib.hid (mem_next (v := v) hx hq.out)
          clear hx hq
          by_cases hxb : x ≤ b
          · have x1 : decide (x ≤ b) = true := by simp [hxb]
            have x2 : decide (v < x) = false := by have := hg hxb; simp; omega
            clear hxb hg
            cases q with
            | true =>
              go_wp2_with fail
              go_roundw
              case rel => exact ⟨k + 1, true, by omega, by go_num, rfl, Lib.hid (by rw [← Hn.out]; rfl), by first | rfl | trivial⟩
              case measure => simp [intOf]; omega
            | false =>
              go_wp2_with fail
              go_roundw
              case rel => exact ⟨k + 1, (v == x), by omega, by go_num, rfl, Lib.hid (by rw [← Hn.out]; rfl), by first | rfl | trivial⟩
              case measure => simp [intOf]; omega
          · have x1 : decide (x ≤ b) = false := by simp; omega
            clear hxb hg
            cases q with
            | true =>
              go_wp2_with fail
              go_roundw
              case rel => exact ⟨k + 1, true, by omega, by go_num, rfl, Lib.hid (by rw [← Hn.out]; rfl), by first | rfl | trivial⟩
              case measure => simp [intOf]; omega
            | false =>
              go_wp2_with fail
              go_roundw
              case rel => exact ⟨k + 1, (v == x), by omega, by go_num, rfl, Lib.hid (by rw [← Hn.out]; rfl), by first | rfl | trivial⟩
              case measure => simp [intOf]; omega
        · obtain rfl : k = n := by omega
          have hqt : q = true := by
            rw [hq.out, show l.take k = l from List.take_of_length_le (by omega)]
            have M2 := M1.out
            simp
          subst hqt
          clear hq hlt
          go_wp2_with fail
          refine (N1 _).mono ?_
          rintro e w9 ⟨rfl, b9⟩
          have l9 := Lib.hid ((le_tr hlow.out b9).alloc (le_tr hlow.out b9).size (.cells #[.int .i64 v, .int .i64 v, .int .i64 0, .int .i64 0] 25))
          clear b9
          go_wp2_with fail
          go_ret
          exact ⟨rfl, l9.out⟩
    have f2 : (v == b) = false := by simp [v2]
    have V1 := Lib.hid v1
    have V2 := Lib.hid v2
    clear v1 v2
    go_enter Try.func6, Try.ntmps6
    go_wp2_with fail
    refine (alive_c _).mono ?_
    rintro e w1 ⟨rfl, b1⟩
    have r2_h := (h).on b1
    have l2 := b1
    clear h
    clear b1
    go_wp2_with fail
    refine (A1 _ r2_h).mono ?_
    rintro e w3 ⟨rfl, b3⟩
    have r4_h := (r2_h).on b3
    have l4 := le_tr l2 b3
    clear r2_h l2
    clear b3
    have H := Lib.hid r4_h
    have hlow := Lib.hid l4
    clear r4_h l4
    generalize w3 = V at *
    go_wp2_with fail
    go_loopw [9, 40] (fun m i wr => ∃ (k : Nat) (q : Bool), k ≤ n ∧ i = .int .i64 k ∧ m = .bool q ∧ Hid (q = (false || decide (v ∈ l.take k))) ∧ wr = V) (fun _ i _ => n - (intOf i).toNat)
    case atStart => exact ⟨0, false, by omega, rfl, rfl, Lib.hid (by simp), rfl⟩
    case round =>
      obtain ⟨k, q, hk, rfl, rfl, hq, rfl⟩ := hrel
      by_cases hlt : k < n
      · obtain ⟨g, off, x, hx, rfl, c1⟩ := H.out.i64 hlt
        have hg := G1.out x (List.mem_of_getElem? hx)
        have Hn := Lib.hid (mem_next (v := v) hx hq.out)
        clear hx hq
        by_cases hxb : x ≤ b
        · have x1 : decide (x ≤ b) = true := by simp [hxb]
          have x2 : decide (v < x) = false := by have := hg hxb; simp; omega
          clear hxb hg
          cases q with
          | true =>
            go_wp2_with fail
            go_roundw
            case rel => exact ⟨k + 1, true, by omega, by go_num, rfl, Lib.hid (by rw [← Hn.out]; rfl), by first | rfl | trivial⟩
            case measure => simp [intOf]; omega
          | false =>
            go_wp2_with fail
            go_roundw
            case rel => exact ⟨k + 1, (v == x), by omega, by go_num, rfl, Lib.hid (by rw [← Hn.out]; rfl), by first | rfl | trivial⟩
            case measure => simp [intOf]; omega
        · have x1 : decide (x ≤ b) = false := by simp; omega
          clear hxb hg
          cases q with
          | true =>
            go_wp2_with fail
            go_roundw
            case rel => exact ⟨k + 1, true, by omega, by go_num, rfl, Lib.hid (by rw [← Hn.out]; rfl), by first | rfl | trivial⟩
            case measure => simp [intOf]; omega
          | false =>
            go_wp2_with fail
            go_roundw
            case rel => exact ⟨k + 1, (v == x), by omega, by go_num, rfl, Lib.hid (by rw [← Hn.out]; rfl), by first | rfl | trivial⟩
            case measure => simp [intOf]; omega
      · obtain rfl : k = n := by omega
        have hqt : q = true := by
          rw [hq.out, show l.take k = l from List.take_of_length_le (by omega)]
          have M2 := M1.out
          rcases M2 with M2 | M2 | M2
          · exact absurd M2 V1.out
          · exact absurd M2 V2.out
          · simp [M2]
        subst hqt
        clear hq hlt
        go_wp2_with fail
        refine (N1 _).mono ?_
        rintro e w9 ⟨rfl, b9⟩
        have l9 := Lib.hid ((le_tr hlow.out b9).alloc (le_tr hlow.out b9).size (.cells #[.int .i64 v, .int .i64 v, .int .i64 0, .int .i64 0] 25))
        clear b9
        go_wp2_with fail
        go_ret
        exact ⟨rfl, l9.out⟩
  · have hv := vAgr_n he
    obtain ⟨k, hk⟩ : ∃ k, eAgr l a b = k := ⟨_, rfl⟩
    rw [hk] at he
    simp only [hv, hk] at A1
    have k1 : ((k : Int) != 0) = true := by simp; omega
    have k2 : ((k : Int) == 0) = false := by simp; omega
    clear hv hk he
    go_enter Try.func6, Try.ntmps6
    go_wp2_with fail
    refine (alive_c _).mono ?_
    rintro e w1 ⟨rfl, b1⟩
    have r2_h := (h).on b1
    have l2 := b1
    clear h
    clear b1
    go_wp2_with fail
    refine (A1 _ r2_h).mono ?_
    rintro e w3 ⟨rfl, b3⟩
    have r4_h := (r2_h).on b3
    have l4 := le_tr l2 b3
    clear r2_h l2
    clear b3
    go_wp2_with fail
    go_ret
    exact ⟨rfl, l4⟩
end Go.Proofs.Ytgmkjpkbkiimdaa
