/-
  The law AirRows, walked. Condition: the bytes can be read.
-/
import Derived.Test.YtcfdfimkgehdfaaAiS
set_option linter.unusedVariables false
set_option linter.unusedSimpArgs false
namespace Go.Proofs.Ytcfdfimkgehdfaa
open Go.RowKit

/-- The letters of slices of bytes, of those alone that are short enough. -/
def LZ (f t : Nat) (L : List Ym) : List Lt := LY f t (L.filter fun y => decide (y.n ≤ 4000))
theorem LZ_yes {f t : Nat} {L : List Ym} {k : Nat} {y : Ym} (h : L[k]? = some y) (hy : y.n ≤ 4000) : LZ f t (L.take (k + 1)) = LZ f t (L.take k) ++ [⟨f, t, y.b⟩] := by
  unfold LZ LY
  rw [List.take_add_one, h, List.filter_append, List.map_append]
  simp [hy]
theorem LZ_no {f t : Nat} {L : List Ym} {k : Nat} {y : Ym} (h : L[k]? = some y) (hy : ¬ y.n ≤ 4000) : LZ f t (L.take (k + 1)) = LZ f t (L.take k) := by
  unfold LZ LY
  rw [List.take_add_one, h, List.filter_append]
  simp; omega
theorem LZ_len {f t : Nat} {L : List Ym} : (LZ f t L).length ≤ L.length := by
  unfold LZ
  rw [LY_len]
  exact List.length_filter_le _ _
theorem drop_at {L : List Ym} {k : Nat} {y : Ym} (h : L[k]? = some y) : L.drop k = y :: L.drop (k + 1) := by
  obtain ⟨hl, hx⟩ := List.getElem?_eq_some_iff.1 h
  rw [List.drop_eq_getElem_cons hl, hx]
theorem LZ_dyes {f t : Nat} {L : List Ym} {k : Nat} {y : Ym} (h : L[k]? = some y) (hy : y.n ≤ 4000) : LZ f t (L.drop k) = ⟨f, t, y.b⟩ :: LZ f t (L.drop (k + 1)) := by
  unfold LZ LY
  rw [drop_at h, List.filter_cons_of_pos (by simpa using hy)]; rfl
theorem LZ_dno {f t : Nat} {L : List Ym} {k : Nat} {y : Ym} (h : L[k]? = some y) (hy : ¬ y.n ≤ 4000) : LZ f t (L.drop k) = LZ f t (L.drop (k + 1)) := by
  unfold LZ LY
  rw [drop_at h, List.filter_cons_of_neg (by simpa using hy)]
set_option maxRecDepth 100000 in
set_option maxHeartbeats 8000000 in
theorem rows_walk (A : Option Addr) (n c : Nat) (L : List Ym) (t f : Nat) (w : World) (h : RR w ycl 1 A n c L) (hk : ∀ y ∈ L, RR w bcl 1 y.A y.n y.c y.b) : Calls Try.prog 7 #[.slice A n c, .int .u8 (t : Int), .int .u8 (f : Int)] w fun e w' => e = .returned (.bool true) ∧ Below w.heap.size w w' := by
  have hlen := Lib.hid h.len
  have hy := YR.start h hk
  clear h hk
  by_cases h1 : n ≤ 500
  rotate_left
  · skip
    have q2 : decide ((500 : Int) < (n : Int)) = true := by simp; omega
    have q2' : decide ((n : Int) > (500 : Int)) = true := by simp; omega
    go_enter Try.func7, Try.ntmps7
    go_wp2_with fail
    (with_reducible refine (alive_c _).mono ?_)
    rintro e w1 ⟨rfl, b1⟩
    have r4_yy := (hy).on b1
    have l4 := le_tr (Below.refl _ _) b1
    clear hy
    clear b1
    go_wp2_with fail
    have cn5 := anew_c (1000 : Int) w1
    (with_reducible refine cn5.mono ?_)
    clear cn5
    intro e w5 hp5
    obtain ⟨ba5, S5, rfl, ao5, h05, bl5⟩ := NPost.yes (r := 1000) (by omega) (by omega) hp5
    clear hp5
    have hi5 : ∀ i, S5 i → w.heap.size ≤ i := fun i e => Nat.le_trans (l4).size (h05 i e)
    clear h05
    have r8_yy := (r4_yy).on bl5
    have l8 := le_tr l4 bl5
    clear r4_yy l4
    clear bl5
    go_wp2_with fail
    go_ret
    exact ⟨rfl, l8⟩
  have q2 : decide ((500 : Int) < (n : Int)) = false := by simp; omega
  have q2' : decide ((n : Int) > (500 : Int)) = false := by simp; omega
  obtain ⟨tq, htq⟩ : ∃ tq, t % 17 = tq := ⟨_, rfl⟩
  obtain ⟨fq, hfq⟩ : ∃ fq, f % 17 = fq := ⟨_, rfl⟩
  have ht : tq < 17 := by rw [← htq]; exact Nat.mod_lt _ (by decide)
  have hf : fq < 17 := by rw [← hfq]; exact Nat.mod_lt _ (by decide)
  have tm : Int.tmod (t : Int) 17 = (tq : Int) := (tmod_nat t 17).trans (by rw [htq])
  have fm : Int.tmod (f : Int) 17 = (fq : Int) := (tmod_nat f 17).trans (by rw [hfq])
  clear htq hfq
  go_enter Try.func7, Try.ntmps7
  go_wp2_with fail
  (with_reducible refine (alive_c _).mono ?_)
  rintro e w1 ⟨rfl, b1⟩
  have r4_yy := (hy).on b1
  have l4 := le_tr (Below.refl _ _) b1
  clear hy
  clear b1
  go_wp2_with fail
  have cn5 := anew_c (1000 : Int) w1
  (with_reducible refine cn5.mono ?_)
  clear cn5
  intro e w5 hp5
  obtain ⟨ba5, S5, rfl, ao5, h05, bl5⟩ := NPost.yes (r := 1000) (by omega) (by omega) hp5
  clear hp5
  have hi5 : ∀ i, S5 i → w.heap.size ≤ i := fun i e => Nat.le_trans (l4).size (h05 i e)
  clear h05
  have r8_yy := (r4_yy).on bl5
  have l8 := le_tr l4 bl5
  clear r4_yy l4
  clear bl5
  have ao0 : AO S5 ba5 1000 (QL tq (LZ fq tq (L.take 0))) w5 := by rw [List.take_zero]; exact ql_nil ▸ ao5
  clear ao5
  go_wp2_with fail
  go_loopw [32] (fun iv wr => ∃ (k : Nat) (S : Nat → Prop), k ≤ n ∧ iv = .int .i64 k ∧ AO S ba5 1000 (QL tq (LZ fq tq (L.take k))) wr ∧ (∀ i, S i → w.heap.size ≤ i) ∧ YR w wr A n c L ∧ Below w.heap.size w wr) (fun iv _ => n - (intOf iv).toNat)
  case atStart => exact ⟨0, _, by omega, rfl, ao0, hi5, r8_yy, l8⟩
  case round =>
    clear ao0 hi5 r8_yy l8
    obtain ⟨k, S, hkn, rfl, ha, hi, hy, hw⟩ := hrel
    by_cases hlt : k < n
    · skip
      obtain ⟨gy, oy, x, hx, rfl, cx⟩ := hy.at_ hlt
      have l1 : (k : Int) < n := by omega
      have l2 : (0 : Int) ≤ (k : Int) := by omega
      have hxm := List.mem_of_getElem? hx
      have hxl := (hy.el x hxm).rr.len
      by_cases h4 : x.n ≤ 4000
      rotate_left
      · skip
        have q3 : decide ((x.n : Int) ≤ (4000 : Int)) = false := by simp; omega
        have q3' : decide ((4000 : Int) ≥ (x.n : Int)) = false := by simp; omega
        have q4 : ¬ x.n ≤ 4000 := h4
        have HZ := Lib.hid (LZ_no (f := fq) (t := tq) hx h4)
        clear h4 hx hxl
        go_wp2_with fail
        go_roundw
        case rel => exact ⟨k + 1, S, by omega, by go_num, by rw [HZ.out]; exact ha, hi, hy, hw⟩
        case measure => simp [intOf]; omega
      have q3 : decide ((x.n : Int) ≤ (4000 : Int)) = true := by simp; omega
      have q3' : decide ((4000 : Int) ≥ (x.n : Int)) = true := by simp; omega
      obtain ⟨z1, z2⟩ := ql_snd (t := tq) (room := 1000) (f := fq) (L := LZ fq tq (L.take k)) (b := x.b) ht hf (by omega) (by have := @LZ_len fq tq (L.take k); simp at this; omega)
      have Z1 := Lib.hid (z1.trans (by rw [LZ_yes hx h4]) : sSn 1000 (QL tq (LZ fq tq (L.take k))) ⟨fq, tq, x.b⟩ = QL tq (LZ fq tq (L.take (k + 1))))
      have Z2 := Lib.hid z2
      clear z1 z2
      go_wp2_with (first | ((with_reducible refine st_built3G 40 _ _ _ (.int .u8 (fq : Int)) (.int .u8 (tq : Int)) (.slice x.A x.n x.c) (lA ⟨fq, tq, x.b, x.A, x.n, x.c⟩) ?_ ?_ ?_ ?_ ?_ ?_); exact rfl; exact rfl; exact rfl; exact built_l _ _ _ _ _ _; exact rfl))
      have cc201 := (show Calls Try.prog 19 #[.pointer (some ⟨ba5, 0, none⟩), .agg (lA ⟨fq, tq, x.b, x.A, x.n, x.c⟩)] _ _ from send_k (l := ⟨fq, tq, x.b⟩) (z := 0) (⟨fq, tq, x.b, x.A, x.n, x.c⟩ : Lm) ha ((hy).el x hxm).rr rfl Z1.out Z2.out)
      (with_reducible refine cc201.mono ?_)
      clear cc201
      rintro e w201 ⟨rfl, S201, ao201, ou201, nw201⟩
      have q201_yy := (hy).out ou201 hi
      have hi201 : ∀ i, S201 i → w.heap.size ≤ i := fun i e => (nw201 i e).elim (hi i) (fun e => Nat.le_trans (hw).size e)
      have l201 := below_out hw ou201 hi
      clear ou201 nw201 ha hy hi hw
      go_wp2_with fail
      go_roundw
      case rel => exact ⟨k + 1, _, by omega, by go_num, ao201, hi201, q201_yy, l201⟩
      case measure => simp [intOf]; omega
    obtain rfl : k = n := by omega
    have ha2 : AO S ba5 1000 (QL tq (LZ fq tq (L.drop 0))) wr := by rw [List.take_of_length_le (by rw [hlen.out]; exact Nat.le_refl _)] at ha; rw [List.drop_zero]; exact ha
    clear ha hlt hkn
    go_wp2_with fail
    go_loopw [51] (fun iv wr => ∃ (a : Nat) (S : Nat → Prop), a ≤ k ∧ iv = .int .i64 a ∧ AO S ba5 1000 (QL tq (LZ fq tq (L.drop a))) wr ∧ (∀ i, S i → w.heap.size ≤ i) ∧ YR w wr A k c L ∧ Below w.heap.size w wr) (fun iv _ => k - (intOf iv).toNat)
    case atStart => exact ⟨0, _, by omega, rfl, ha2, hi, hy, hw⟩
    case round =>
      clear ha2 hi hy hw
      obtain ⟨a, S, han, rfl, ha, hi, hy, hw⟩ := hrel
      by_cases hlt : a < k
      · skip
        obtain ⟨gy, oy, x, hx, rfl, cx⟩ := hy.at_ hlt
        have l1 : (a : Int) < k := by omega
        have l2 : (0 : Int) ≤ (a : Int) := by omega
        have hxm := List.mem_of_getElem? hx
        by_cases h4 : x.n ≤ 4000
        rotate_left
        · skip
          have q3 : decide ((4000 : Int) < (x.n : Int)) = true := by simp; omega
          have q3' : decide ((x.n : Int) > (4000 : Int)) = true := by simp; omega
          have HZ := Lib.hid (LZ_dno (f := fq) (t := tq) hx h4)
          clear h4 hx
          go_wp2_with fail
          go_roundw
          case rel => exact ⟨a + 1, S, by omega, by go_num, by rw [← HZ.out]; exact ha, hi, hy, hw⟩
          case measure => simp [intOf]; omega
        have q3 : decide ((4000 : Int) < (x.n : Int)) = false := by simp; omega
        have q3' : decide ((x.n : Int) > (4000 : Int)) = false := by simp; omega
        obtain ⟨d1, d2, d3⟩ := ql_tk (t := tq) (L := LZ fq tq (L.drop a)) (k := 0) (l := ⟨fq, tq, x.b⟩) ht (by rw [LZ_dyes hx h4]; rfl)
        have d4 : (LZ fq tq (L.drop a)).eraseIdx 0 = LZ fq tq (L.drop (a + 1)) := by rw [LZ_dyes hx h4]; rfl
        rw [d4] at d1
        have E1 := Lib.hid d1
        have E2 := Lib.hid d2
        have E3 := Lib.hid d3
        clear d1 d2 d3 d4 hx h4
        go_wp2_with fail
        have cc501 := (show Calls Try.prog 17 #[.pointer (some ⟨ba5, 0, none⟩), .int .u8 (tq : Int), .int .i64 0] _ _ from take_k (t := tq) (i := 0) (z := 0) ha E2.out E1.out E3.out)
        (with_reducible refine cc501.mono ?_)
        clear cc501
        rintro e w501 ⟨x501, rfl, hx501, rs501, S501, ao501, ou501, nw501, xo501⟩
        clear cx
        have q501_yy := (hy).out ou501 hi
        have hi501 : ∀ i, S501 i → w.heap.size ≤ i := fun i e => (nw501 i e).elim (hi i) (fun e => Nat.le_trans (hw).size e)
        have l501 := below_out hw ou501 hi
        have rb501 := rs501.ob
        have xa501 : ∀ i, InB x501.A i → ¬ S501 i := fun i a => (xo501 i a).2
        have xb501 : ∀ i, S501 i → ¬ InB x501.A i := fun i a b => xa501 i b a
        have hx501_ : ∀ i, InB x501.A i → w.heap.size ≤ i := fun i e => hi i (xo501 i e).1
        clear ou501 nw501 rs501 xo501 ha hy hi hw
        go_wp2_with (first | ((with_reducible refine st_alloc 40 (lA zeroL) ?_ ?_); exact zero_lc))
        refine ⟨fun V502 g502 n502 f502 => ?_⟩
        have nn502_oa := ao501.fresh (Nat.le_of_eq f502.at_)
        have nn502_tl := rb501.fresh (Nat.le_of_eq f502.at_)
        have up502 : w.heap.size ≤ g502 := f502.up l501
        have bl502 := f502.bel
        clear f502
        have r503_oa := ao501.on bl502
        have r503_tl := rb501.on bl502
        have r505_yy := (q501_yy).on bl502
        have l505 := le_tr l501 bl502
        clear q501_yy l501
        clear ao501 rb501
        clear bl502
        go_wp2_with (first | ((with_reducible refine st_store 40 _ _ g502 (lA x501) ?_ ?_ n502 ?_ ?_ ?_ ?_); exact rfl; exact rfl; exact Try.zLc; exact rfl; exact lA_one _))
        refine ⟨fun V506 n506 k506 => ?_⟩
        have m506_yy := (r505_yy).wr k506 up502
        have m506_oa := r503_oa.wr k506 nn502_oa
        have m506_tl := r503_tl.wr k506 nn502_tl
        have o506 := k506.bel _ _ l505 up502
        clear k506
        clear n502 r505_yy r503_oa r503_tl l505
        have cu := conv_of m506_tl.ok.rr hx501
        have cb := conv_C (m506_yy.el x hxm).rr
        have gt : ((Dk.mkS x.b).toList == (Dk.mkS x.b).toList) = true := beq_self_eq_true _
        have hfr : x501.fr = fq := congrArg Lt.fr hx501
        have hto : x501.to = tq := congrArg Lt.to hx501
        have k0 : V506.cell? ⟨g502, 0, none⟩ = some (.int .u8 (fq : Int)) := (CB.cell n506 0).trans (by rw [← hfr]; rfl)
        have k1 : V506.cell? ⟨g502, 1, none⟩ = some (.int .u8 (tq : Int)) := (CB.cell n506 1).trans (by rw [← hto]; rfl)
        clear hfr hto
        have c507 : V506.cell? ⟨g502, 2, none⟩ = some (.slice (x501.A) (x501.n) (x501.c)) := CB.cell n506 2
        go_wp2_with fail
        go_roundw
        case rel => exact ⟨a + 1, _, by omega, by go_num, m506_oa, hi501, m506_yy, o506⟩
        case measure => simp [intOf]; omega
      obtain rfl : a = k := by omega
      have hz9 : (((QL tq (LZ fq tq (L.drop a))) tq).length : Int) = 0 := by rw [ql_at, List.drop_of_length_le (by rw [hlen.out]; exact Nat.le_refl _)]; rfl
      go_wp2_with fail
      have cl9 : Calls Try.prog 15 #[.pointer (some ⟨ba5, 0, none⟩), .int .u8 (tq : Int)] _ _ := alen_k (t := tq) (z := 0) ha hz9
      (with_reducible refine cl9.mono ?_)
      clear cl9
      rintro e w' ⟨rfl, rfl⟩
      go_wp2_with fail
      go_ret
      exact ⟨rfl, hw⟩
end Go.Proofs.Ytcfdfimkgehdfaa
