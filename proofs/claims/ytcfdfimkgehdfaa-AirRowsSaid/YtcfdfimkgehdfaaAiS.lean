/-
  The law AirTurns, walked. Conditions: the bytes can be read, the numbers are in their types' ranges.
-/
import Derived.Test.YtcfdfimkgehdfaaAiR
import Derived.Test.YtcfdfimkgehdfaaAiO
set_option linter.unusedVariables false
set_option linter.unusedSimpArgs false
namespace Go.Proofs.Ytcfdfimkgehdfaa
open Go.RowKit

/-- Slices of bytes that lie below world w's blocks. -/
structure YR (w W : World) (A : Option Addr) (n c : Nat) (L : List Ym) : Prop where
  rr : RL w W ycl 1 A n c L
  el : ∀ y ∈ L, RL w W bcl 1 y.A y.n y.c y.b
section
variable {w W V : World} {A : Option Addr} {n c : Nat} {L : List Ym}
theorem YR.start (h : RR w ycl 1 A n c L) (k : ∀ y ∈ L, RR w bcl 1 y.A y.n y.c y.b) : YR w w A n c L := ⟨RL.start h, fun y hy => RL.start (k y hy)⟩
theorem YR.on (h : YR w W A n c L) (hb : Below W.heap.size W V) : YR w V A n c L := ⟨h.rr.on hb, fun y hy => (h.el y hy).on hb⟩
theorem YR.wr (h : YR w W A n c L) {g : Nat} (k : Wr W V g) (hg : w.heap.size ≤ g) : YR w V A n c L := ⟨h.rr.wr k hg, fun y hy => (h.el y hy).wr k hg⟩
theorem YR.out {S : Nat → Prop} (h : YR w W A n c L) (o : Out W V S) (hS : ∀ i, S i → w.heap.size ≤ i) : YR w V A n c L := ⟨h.rr.out o hS, fun y hy => (h.el y hy).out o hS⟩
theorem YR.drew (h : YR w W A n c L) : YR w W.drew A n c L := ⟨h.rr.drew, fun y hy => (h.el y hy).drew⟩
theorem YR.at_ (h : YR w W A n c L) {k : Nat} (hk : k < n) : ∃ g off y, L[k]? = some y ∧ A = some ⟨g, off, none⟩ ∧ W.cell? ⟨g, off + k, none⟩ = some (.slice y.A y.n y.c) := RR.one (f := fun y : Ym => Value.slice y.A y.n y.c) h.rr.rr (fun _ => rfl) hk
end
theorem set_self {α : Type} {L : List α} {j : Nat} {x : α} (h : L[j]? = some x) : L.set j x = L := by
  apply List.ext_getElem?
  intro i
  by_cases e : j = i
  · subst e
    rw [List.getElem?_set_self (List.getElem?_eq_some_iff.1 h).1, h]
  · rw [List.getElem?_set_ne e]
/-- The letters of slices of bytes. -/
def LY (f t : Nat) (L : List Ym) : List Lt := L.map fun y => ⟨f, t, y.b⟩
theorem LY_take {f t : Nat} {L : List Ym} {k : Nat} {y : Ym} (h : L[k]? = some y) : LY f t (L.take (k + 1)) = LY f t (L.take k) ++ [⟨f, t, y.b⟩] := by
  unfold LY
  rw [List.take_add_one, h, List.map_append]; rfl
theorem LY_at {f t : Nat} {L : List Ym} {k : Nat} {y : Ym} (h : L[k]? = some y) : (LY f t L)[k]? = some ⟨f, t, y.b⟩ := by
  unfold LY
  rw [List.getElem?_map, h]; rfl
theorem LY_len {f t : Nat} {L : List Ym} : (LY f t L).length = L.length := by unfold LY; simp
theorem LY_drop {f t : Nat} {L : List Ym} {k : Nat} {y : Ym} (h : L[k]? = some y) : (LY f t L).drop k = ⟨f, t, y.b⟩ :: (LY f t L).drop (k + 1) := by
  obtain ⟨hl, hx⟩ := List.getElem?_eq_some_iff.1 h
  unfold LY
  rw [List.drop_eq_getElem_cons (by simpa using hl)]
  simp [hx]
theorem built_l12 (t : Nat) (A : Option Addr) (n c : Nat) (b : List UInt8) : Try.prog.built 40 [(1, .int .u8 (t : Int)), (2, .slice A n c)] = some (lA ⟨0, t, b, A, n, c⟩) := by kernel_rfl
set_option maxRecDepth 100000 in
set_option maxHeartbeats 8000000 in
theorem turns_walk (A : Option Addr) (n c : Nat) (L : List Ym) (m : Nat) (y : UInt8) (p : Nat) (w : World) (h : RR w ycl 1 A n c L) (hk : ∀ y ∈ L, RR w bcl 1 y.A y.n y.c y.b) (hp : p < 65536) (hm : m < 256) : Calls Try.prog 8 #[.slice A n c, .agg #[.int .u8 (m : Int), .int .u8 (y.toNat : Int)], .int .u16 (p : Int)] w fun e w' => e = .returned (.bool true) ∧ Below w.heap.size w w' := by
  have hlen := Lib.hid h.len
  have hy := YR.start h hk
  clear h hk
  by_cases h0 : n = 0
  · have q1 : ((n : Int) == 0) = true := by simp [h0]
    go_enter Try.func8, Try.ntmps8
    go_wp2_with (first | ((with_reducible refine st_box 59 _ #[.int .u8 (m : Int), .int .u8 (y.toNat : Int)] ?_ ?_); exact rfl))
    refine ⟨fun V1 gt nt f1 => ?_⟩
    have bt := f1.bel
    clear f1
    have r4_yy := (hy).on bt
    have l4 := le_tr (Below.refl _ _) bt
    clear hy
    clear bt
    go_wp2_with fail
    (with_reducible refine (alive_c _).mono ?_)
    rintro e w5 ⟨rfl, b5⟩
    have r8_t := le_on nt b5
    have r8_yy := (r4_yy).on b5
    have l8 := le_tr l4 b5
    clear nt r4_yy l4
    clear b5
    have c1 : w5.cell? ⟨gt, 0, none⟩ = some (.int .u8 (m : Int)) := CB.cell r8_t 0
    have c2 : w5.cell? ⟨gt, 1, none⟩ = some (.int .u8 (y.toNat : Int)) := CB.cell r8_t 1
    go_wp2_with fail
    go_region
    clear c1 c2 r8_t
    obtain ⟨D9, hD9⟩ : ∃ V, w5.drew = V := ⟨_, rfl⟩
    have bd9 : Below w5.heap.size w5 D9 := by rw [← hD9]; exact le_dr (Below.refl _ _)
    rw [hD9]
    clear hD9
    have r12_yy := (r8_yy).on bd9
    have l12 := le_tr l8 bd9
    clear r8_yy l8
    clear bd9
    go_wp2_with fail
    have cn13 := anew_c (1000 : Int) D9
    (with_reducible refine cn13.mono ?_)
    clear cn13
    intro e w13 hp13
    obtain ⟨ba13, S13, rfl, ao13, h013, bl13⟩ := NPost.yes (r := 1000) (by omega) (by omega) hp13
    clear hp13
    have hi13 : ∀ i, S13 i → w.heap.size ≤ i := fun i e => Nat.le_trans (l12).size (h013 i e)
    clear h013
    have r16_yy := (r12_yy).on bl13
    have l16 := le_tr l12 bl13
    clear r12_yy l12
    clear bl13
    go_wp2_with fail
    go_ret
    exact ⟨rfl, l16⟩
  have q1 : ((n : Int) == 0) = false := by simp; omega
  by_cases h1 : n ≤ 100
  rotate_left
  · skip
    have q2 : decide ((100 : Int) < (n : Int)) = true := by simp; omega
    have q2' : decide ((n : Int) > (100 : Int)) = true := by simp; omega
    go_enter Try.func8, Try.ntmps8
    go_wp2_with (first | ((with_reducible refine st_box 59 _ #[.int .u8 (m : Int), .int .u8 (y.toNat : Int)] ?_ ?_); exact rfl))
    refine ⟨fun V1 gt nt f1 => ?_⟩
    have bt := f1.bel
    clear f1
    have r4_yy := (hy).on bt
    have l4 := le_tr (Below.refl _ _) bt
    clear hy
    clear bt
    go_wp2_with fail
    (with_reducible refine (alive_c _).mono ?_)
    rintro e w5 ⟨rfl, b5⟩
    have r8_t := le_on nt b5
    have r8_yy := (r4_yy).on b5
    have l8 := le_tr l4 b5
    clear nt r4_yy l4
    clear b5
    have c1 : w5.cell? ⟨gt, 0, none⟩ = some (.int .u8 (m : Int)) := CB.cell r8_t 0
    have c2 : w5.cell? ⟨gt, 1, none⟩ = some (.int .u8 (y.toNat : Int)) := CB.cell r8_t 1
    go_wp2_with fail
    go_region
    clear c1 c2 r8_t
    obtain ⟨D9, hD9⟩ : ∃ V, w5.drew = V := ⟨_, rfl⟩
    have bd9 : Below w5.heap.size w5 D9 := by rw [← hD9]; exact le_dr (Below.refl _ _)
    rw [hD9]
    clear hD9
    have r12_yy := (r8_yy).on bd9
    have l12 := le_tr l8 bd9
    clear r8_yy l8
    clear bd9
    go_wp2_with fail
    have cn13 := anew_c (1000 : Int) D9
    (with_reducible refine cn13.mono ?_)
    clear cn13
    intro e w13 hp13
    obtain ⟨ba13, S13, rfl, ao13, h013, bl13⟩ := NPost.yes (r := 1000) (by omega) (by omega) hp13
    clear hp13
    have hi13 : ∀ i, S13 i → w.heap.size ≤ i := fun i e => Nat.le_trans (l12).size (h013 i e)
    clear h013
    have r16_yy := (r12_yy).on bl13
    have l16 := le_tr l12 bl13
    clear r12_yy l12
    clear bl13
    go_wp2_with fail
    go_ret
    exact ⟨rfl, l16⟩
  have q2 : decide ((100 : Int) < (n : Int)) = false := by simp; omega
  have q2' : decide ((n : Int) > (100 : Int)) = false := by simp; omega
  obtain ⟨j, hj⟩ : ∃ j, m % n = j := ⟨_, rfl⟩
  have hjn : j < n := by rw [← hj]; exact Nat.mod_lt _ (by omega)
  have tm : Int.tmod (m : Int) (n : Int) = (j : Int) := by rw [tmod_nat, hj]
  have wm : IntKind.i64.wrap (m : Int) = (m : Int) := IntWalk.i64_in _ (by omega)
  have n1 : ¬ (n : Int) = 0 := by omega
  clear hj h0
  go_enter Try.func8, Try.ntmps8
  go_wp2_with (first | ((with_reducible refine st_box 59 _ #[.int .u8 (m : Int), .int .u8 (y.toNat : Int)] ?_ ?_); exact rfl))
  refine ⟨fun V1 gt nt f1 => ?_⟩
  have bt := f1.bel
  clear f1
  have r4_yy := (hy).on bt
  have l4 := le_tr (Below.refl _ _) bt
  clear hy
  clear bt
  go_wp2_with fail
  (with_reducible refine (alive_c _).mono ?_)
  rintro e w5 ⟨rfl, b5⟩
  have r8_t := le_on nt b5
  have r8_yy := (r4_yy).on b5
  have l8 := le_tr l4 b5
  clear nt r4_yy l4
  clear b5
  have c1 : w5.cell? ⟨gt, 0, none⟩ = some (.int .u8 (m : Int)) := CB.cell r8_t 0
  have c2 : w5.cell? ⟨gt, 1, none⟩ = some (.int .u8 (y.toNat : Int)) := CB.cell r8_t 1
  go_wp2_with fail
  go_region
  clear c1 c2 r8_t
  obtain ⟨D9, hD9⟩ : ∃ V, w5.drew = V := ⟨_, rfl⟩
  have bd9 : Below w5.heap.size w5 D9 := by rw [← hD9]; exact le_dr (Below.refl _ _)
  rw [hD9]
  clear hD9
  have r12_yy := (r8_yy).on bd9
  have l12 := le_tr l8 bd9
  clear r8_yy l8
  clear bd9
  go_wp2_with fail
  have cn13 := anew_c (1000 : Int) D9
  (with_reducible refine cn13.mono ?_)
  clear cn13
  intro e w13 hp13
  obtain ⟨ba13, S13, rfl, ao13, h013, bl13⟩ := NPost.yes (r := 1000) (by omega) (by omega) hp13
  clear hp13
  have hi13 : ∀ i, S13 i → w.heap.size ≤ i := fun i e => Nat.le_trans (l12).size (h013 i e)
  clear h013
  have r16_yy := (r12_yy).on bl13
  have l16 := le_tr l12 bl13
  clear r12_yy l12
  clear bl13
  have ao0 : AO S13 ba13 1000 (QL 2 (LY 0 2 (L.take 0))) w13 := by rw [List.take_zero]; exact ql_nil ▸ ao13
  clear ao13
  go_wp2_with fail
  go_loopw [43] (fun iv wr => ∃ (k : Nat) (S : Nat → Prop), k ≤ n ∧ iv = .int .i64 k ∧ AO S ba13 1000 (QL 2 (LY 0 2 (L.take k))) wr ∧ (∀ i, S i → w.heap.size ≤ i) ∧ (∀ y ∈ L.take k, y.n ≤ 4000) ∧ YR w wr A n c L ∧ Below w.heap.size w wr) (fun iv _ => n - (intOf iv).toNat)
  case atStart => exact ⟨0, _, by omega, rfl, ao0, hi13, (fun y hy => by simp at hy), r16_yy, l16⟩
  case round =>
    clear ao0 hi13 r16_yy l16
    obtain ⟨k, S, hkn, rfl, ha, hi, hle, hy, hw⟩ := hrel
    by_cases hlt : k < n
    · skip
      obtain ⟨gy, oy, x, hx, rfl, cx⟩ := hy.at_ hlt
      have l1 : (k : Int) < n := by omega
      have l2 : (0 : Int) ≤ (k : Int) := by omega
      have hxm := List.mem_of_getElem? hx
      have hxl := (hy.el x hxm).rr.len
      by_cases h4 : x.n ≤ 4000
      rotate_left
      · skip
        have q3 : decide ((4000 : Int) < (x.n : Int)) = true := by simp; omega
        have q3' : decide ((x.n : Int) > (4000 : Int)) = true := by simp; omega
        go_wp2_with fail
        go_ret
        exact ⟨rfl, hw⟩
      have q3 : decide ((4000 : Int) < (x.n : Int)) = false := by simp; omega
      have q3' : decide ((x.n : Int) > (4000 : Int)) = false := by simp; omega
      obtain ⟨z1, z2⟩ := ql_snd (t := 2) (room := 1000) (f := 0) (L := LY 0 2 (L.take k)) (b := x.b) (by decide) (by decide) (by omega) (by rw [LY_len]; simp; omega)
      have Z1 := Lib.hid (z1.trans (by rw [LY_take hx]) : sSn 1000 (QL 2 (LY 0 2 (L.take k))) ⟨0, 2, x.b⟩ = QL 2 (LY 0 2 (L.take (k + 1))))
      have Z2 := Lib.hid z2
      have hle2 : ∀ y ∈ L.take (k + 1), y.n ≤ 4000 := fun y hy => by
        rw [List.take_add_one, hx] at hy
        rcases List.mem_append.1 hy with hy | hy
        · exact hle y hy
        · simp at hy; subst hy; exact h4
      clear z1 z2 hle
      go_wp2_with (first | ((with_reducible refine st_built2G 40 1 2 _ _ (.int .u8 2) (.slice x.A x.n x.c) (lA ⟨0, 2, x.b, x.A, x.n, x.c⟩) ?_ ?_ ?_ ?_ ?_); exact rfl; exact rfl; exact built_l12 _ _ _ _ _; exact rfl))
      have cc201 := (show Calls Try.prog 19 #[.pointer (some ⟨ba13, 0, none⟩), .agg (lA ⟨0, 2, x.b, x.A, x.n, x.c⟩)] _ _ from send_k (l := ⟨0, 2, x.b⟩) (z := 0) (⟨0, 2, x.b, x.A, x.n, x.c⟩ : Lm) ha ((hy).el x hxm).rr rfl Z1.out Z2.out)
      (with_reducible refine cc201.mono ?_)
      clear cc201
      rintro e w201 ⟨rfl, S201, ao201, ou201, nw201⟩
      have q201_yy := (hy).out ou201 hi
      have hi201 : ∀ i, S201 i → w.heap.size ≤ i := fun i e => (nw201 i e).elim (hi i) (fun e => Nat.le_trans (hw).size e)
      have l201 := below_out hw ou201 hi
      clear ou201 nw201 ha hy hi hw
      go_wp2_with fail
      go_roundw
      case rel => exact ⟨k + 1, _, by omega, by go_num, ao201, hi201, hle2, q201_yy, l201⟩
      case measure => simp [intOf]; omega
    obtain rfl : k = n := by omega
    have ha2 : AO S ba13 1000 (QL 2 (LY 0 2 L)) wr := by rw [List.take_of_length_le (by rw [hlen.out]; exact Nat.le_refl _)] at ha; exact ha
    have hle2 : ∀ y ∈ L, y.n ≤ 4000 := by rw [List.take_of_length_le (by rw [hlen.out]; exact Nat.le_refl _)] at hle; exact hle
    clear ha hle hlt hkn
    obtain ⟨gy, oy, x, hx, rfl, cx⟩ := hy.at_ hjn
    have hxm := List.mem_of_getElem? hx
    have hxl := (hy.el x hxm).rr.len
    have l1 : (j : Int) < k := by omega
    have l2 : (0 : Int) ≤ (j : Int) := by omega
    have hat := LY_at (f := 0) (t := 2) hx
    have hx2 : tnL (tnL ⟨0, 2, x.b⟩ p y) p y = ⟨0, 2, x.b⟩ := by unfold tnL; simp only [tnB_twice]
    have hlj : j < (LY 0 2 L).length := by rw [LY_len, hlen.out]; exact hjn
    have hset : ((LY 0 2 L).set j (tnL ⟨0, 2, x.b⟩ p y)).set j (tnL (tnL ⟨0, 2, x.b⟩ p y) p y) = LY 0 2 L := by
      rw [List.set_set, hx2]
      exact set_self hat
    obtain ⟨g1, g2⟩ := ql_ag (t := 2) (room := 1000) (L := LY 0 2 L) (k := j) (by decide) hat (by rw [LY_len, hlen.out]; omega)
    obtain ⟨d1, d2, d3⟩ := ql_tk (t := 2) (L := LY 0 2 L ++ [⟨0, 2, x.b⟩]) (k := k) (l := ⟨0, 2, x.b⟩) (by decide) (by rw [List.getElem?_append_right (by rw [LY_len, hlen.out]; exact Nat.le_refl _), LY_len, hlen.out, Nat.sub_self]; rfl)
    have d4 : (LY 0 2 L ++ ([⟨0, 2, x.b⟩] : List Lt)).eraseIdx k = LY 0 2 L := by rw [List.eraseIdx_append_of_length_le (by rw [LY_len, hlen.out]; exact Nat.le_refl _), LY_len, hlen.out, Nat.sub_self]; simp
    rw [d4] at d1
    have G1 := Lib.hid g1
    have G2 := Lib.hid g2
    have D1 := Lib.hid d1
    have D2 := Lib.hid d2
    have D3 := Lib.hid d3
    clear g1 g2 d1 d2 d3 d4
    have hlj2 := Lib.hid hlj
    clear hlj
    by_cases hb0 : x.n = 0
    · skip
      obtain ⟨z1, z2⟩ := ql_tn7 (t := 2) (L := LY 0 2 L) (k := j) (p := p) (y := y) (by decide) hat (by simp only; omega)
      have Z1 := Lib.hid z1
      have Z2 := Lib.hid z2
      have Z3 := Lib.hid z1
      have Z4 := Lib.hid z2
      have q5 : decide ((0 : Int) < (x.n : Int)) = false := by simp; omega
      have q6 : decide ((x.n : Int) > 0) = false := by simp; omega
      have q7 : ¬ 0 < x.n := by omega
      have q8 : decide (0 < x.n) = false := by simp; omega
      clear z1 z2 hset hx2 hat hb0
      clear cx
      go_wp2_with fail
      have cc201 := (show Calls Try.prog 21 #[.pointer (some ⟨ba13, 0, none⟩), .int .u8 2, .int .i64 (j : Int), .int .u16 (p : Int), .int .u8 (y.toNat : Int)] _ _ from turn_k (t := 2) (i := (j : Int)) (z := 7) hp ha2 Z1.out Z2.out)
      (with_reducible refine cc201.mono ?_)
      clear cc201
      rintro e w201 ⟨rfl, S201, ao201, ou201, nw201⟩
      have q201_yy := (hy).out ou201 hi
      have hi201 : ∀ i, S201 i → w.heap.size ≤ i := fun i e => (nw201 i e).elim (hi i) (fun e => Nat.le_trans (hw).size e)
      have l201 := below_out hw ou201 hi
      clear ou201 nw201 ha2 hy hi hw
      obtain ⟨gz, oz, x', hx', hA', cx'⟩ := (q201_yy).at_ hjn
      cases hA'
      rw [hx] at hx'
      cases hx'
      go_wp2_with fail
      have cc202 := (show Calls Try.prog 21 #[.pointer (some ⟨ba13, 0, none⟩), .int .u8 2, .int .i64 (j : Int), .int .u16 (p : Int), .int .u8 (y.toNat : Int)] _ _ from turn_k (t := 2) (i := (j : Int)) (z := 7) hp ao201 Z3.out Z4.out)
      (with_reducible refine cc202.mono ?_)
      clear cc202
      rintro e w202 ⟨rfl, S202, ao202, ou202, nw202⟩
      clear cx'
      have q202_yy := (q201_yy).out ou202 hi201
      have hi202 : ∀ i, S202 i → w.heap.size ≤ i := fun i e => (nw202 i e).elim (hi201 i) (fun e => Nat.le_trans (l201).size e)
      have l202 := below_out l201 ou202 hi201
      clear ou202 nw202 ao201 q201_yy hi201 l201
      go_wp2_with fail
      have cc203 := (show Calls Try.prog 20 #[.pointer (some ⟨ba13, 0, none⟩), .int .u8 2, .int .i64 (j : Int)] _ _ from again_k (t := 2) (i := (j : Int)) (z := 0) ao202 G1.out G2.out)
      (with_reducible refine cc203.mono ?_)
      clear cc203
      rintro e w203 ⟨rfl, S203, ao203, ou203, nw203⟩
      have q203_yy := (q202_yy).out ou203 hi202
      have hi203 : ∀ i, S203 i → w.heap.size ≤ i := fun i e => (nw203 i e).elim (hi202 i) (fun e => Nat.le_trans (l202).size e)
      have l203 := below_out l202 ou203 hi202
      clear ou203 nw203 ao202 q202_yy hi202 l202
      go_wp2_with fail
      have cc204 := (show Calls Try.prog 17 #[.pointer (some ⟨ba13, 0, none⟩), .int .u8 2, .int .i64 (k : Int)] _ _ from take_k (t := 2) (i := (k : Int)) (z := 0) ao203 D2.out D1.out D3.out)
      (with_reducible refine cc204.mono ?_)
      clear cc204
      rintro e w204 ⟨x204, rfl, hx204, rs204, S204, ao204, ou204, nw204, xo204⟩
      have q204_yy := (q203_yy).out ou204 hi203
      have hi204 : ∀ i, S204 i → w.heap.size ≤ i := fun i e => (nw204 i e).elim (hi203 i) (fun e => Nat.le_trans (l203).size e)
      have l204 := below_out l203 ou204 hi203
      have rb204 := rs204.ob
      have xa204 : ∀ i, InB x204.A i → ¬ S204 i := fun i a => (xo204 i a).2
      have xb204 : ∀ i, S204 i → ¬ InB x204.A i := fun i a b => xa204 i b a
      have hx204_ : ∀ i, InB x204.A i → w.heap.size ≤ i := fun i e => hi203 i (xo204 i e).1
      clear ou204 nw204 rs204 xo204 ao203 q203_yy hi203 l203
      go_wp2_with (first | ((with_reducible refine st_alloc 40 (lA zeroL) ?_ ?_); exact zero_lc))
      refine ⟨fun V205 g205 n205 f205 => ?_⟩
      have nn205_oa := ao204.fresh (Nat.le_of_eq f205.at_)
      have nn205_t0 := rb204.fresh (Nat.le_of_eq f205.at_)
      have up205 : w.heap.size ≤ g205 := f205.up l204
      have bl205 := f205.bel
      clear f205
      have r206_oa := ao204.on bl205
      have r206_t0 := rb204.on bl205
      have r208_yy := (q204_yy).on bl205
      have l208 := le_tr l204 bl205
      clear q204_yy l204
      clear ao204 rb204
      clear bl205
      go_wp2_with (first | ((with_reducible refine st_store 40 _ _ g205 (lA x204) ?_ ?_ n205 ?_ ?_ ?_ ?_); exact rfl; exact rfl; exact Try.zLc; exact rfl; exact lA_one _))
      refine ⟨fun V209 n209 k209 => ?_⟩
      have m209_yy := (r208_yy).wr k209 up205
      have m209_oa := r206_oa.wr k209 nn205_oa
      have m209_t0 := r206_t0.wr k209 nn205_t0
      have o209 := k209.bel _ _ l208 up205
      clear k209
      clear n205 r208_yy r206_oa r206_t0 l208
      go_wp2_with fail
      have hd0 : AO S204 ba13 1000 (QL 2 ((LY 0 2 L).drop 0)) V209 := by rw [List.drop_zero]; exact m209_oa
      clear m209_oa
      go_loopw [106] (fun iv wr => ∃ (a : Nat) (S : Nat → Prop), a ≤ k ∧ iv = .int .i64 a ∧ AO S ba13 1000 (QL 2 ((LY 0 2 L).drop a)) wr ∧ (∀ i, S i → w.heap.size ≤ i) ∧ YR w wr (some ⟨gy, oy, none⟩) k c L ∧ Below w.heap.size w wr) (fun iv _ => k - (intOf iv).toNat)
      case atStart => exact ⟨0, _, by omega, rfl, hd0, hi204, m209_yy, o209⟩
      case round =>
        clear hd0 hi204 m209_yy o209
        obtain ⟨a, S, han, rfl, ha, hi, hy, hw⟩ := hrel
        by_cases hlt : a < k
        · skip
          obtain ⟨gq, oq, xa, hxa, hAq, cxa⟩ := hy.at_ hlt
          cases hAq
          have l3 : (a : Int) < k := by omega
          have l4 : (0 : Int) ≤ (a : Int) := by omega
          obtain ⟨d1, d2, d3⟩ := ql_tk (t := 2) (L := (LY 0 2 L).drop a) (k := 0) (l := ⟨0, 2, xa.b⟩) (by decide) (by rw [LY_drop hxa]; rfl)
          have d4 : ((LY 0 2 L).drop a).eraseIdx 0 = (LY 0 2 L).drop (a + 1) := by rw [LY_drop hxa]; rfl
          rw [d4] at d1
          have E1 := Lib.hid d1
          have E2 := Lib.hid d2
          have E3 := Lib.hid d3
          have hxm2 := List.mem_of_getElem? hxa
          clear d1 d2 d3 d4
          go_wp2_with fail
          have cc501 := (show Calls Try.prog 17 #[.pointer (some ⟨ba13, 0, none⟩), .int .u8 2, .int .i64 0] _ _ from take_k (t := 2) (i := 0) (z := 0) ha E2.out E1.out E3.out)
          (with_reducible refine cc501.mono ?_)
          clear cc501
          rintro e w501 ⟨x501, rfl, hx501, rs501, S501, ao501, ou501, nw501, xo501⟩
          clear cxa
          have q501_yy := (hy).out ou501 hi
          have hi501 : ∀ i, S501 i → w.heap.size ≤ i := fun i e => (nw501 i e).elim (hi i) (fun e => Nat.le_trans (hw).size e)
          have l501 := below_out hw ou501 hi
          have rb501 := rs501.ob
          have xa501 : ∀ i, InB x501.A i → ¬ S501 i := fun i a => (xo501 i a).2
          have xb501 : ∀ i, S501 i → ¬ InB x501.A i := fun i a b => xa501 i b a
          have hx501_ : ∀ i, InB x501.A i → w.heap.size ≤ i := fun i e => hi i (xo501 i e).1
          clear ou501 nw501 rs501 xo501 ha hy hi hw
          go_wp2_with (first | ((with_reducible refine st_alloc 40 (lA zeroL) ?_ ?_); exact zero_lc))
          refine ⟨fun V502 g502 n502 f502 => ?_⟩
          have nn502_oa := ao501.fresh (Nat.le_of_eq f502.at_)
          have nn502_tl := rb501.fresh (Nat.le_of_eq f502.at_)
          have up502 : w.heap.size ≤ g502 := f502.up l501
          have bl502 := f502.bel
          clear f502
          have r503_oa := ao501.on bl502
          have r503_tl := rb501.on bl502
          have r505_yy := (q501_yy).on bl502
          have l505 := le_tr l501 bl502
          clear q501_yy l501
          clear ao501 rb501
          clear bl502
          go_wp2_with (first | ((with_reducible refine st_store 40 _ _ g502 (lA x501) ?_ ?_ n502 ?_ ?_ ?_ ?_); exact rfl; exact rfl; exact Try.zLc; exact rfl; exact lA_one _))
          refine ⟨fun V506 n506 k506 => ?_⟩
          have m506_yy := (r505_yy).wr k506 up502
          have m506_oa := r503_oa.wr k506 nn502_oa
          have m506_tl := r503_tl.wr k506 nn502_tl
          have o506 := k506.bel _ _ l505 up502
          clear k506
          clear n502 r505_yy r503_oa r503_tl l505
          have cu := conv_of m506_tl.ok.rr hx501
          have cb := conv_C (m506_yy.el xa hxm2).rr
          have gt : ((Dk.mkS xa.b).toList == (Dk.mkS xa.b).toList) = true := beq_self_eq_true _
          have c507 : V506.cell? ⟨g502, 2, none⟩ = some (.slice (x501.A) (x501.n) (x501.c)) := CB.cell n506 2
          go_wp2_with fail
          go_roundw
          case rel => exact ⟨a + 1, _, by omega, by go_num, m506_oa, hi501, m506_yy, o506⟩
          case measure => simp [intOf]; omega
        obtain rfl : a = k := by omega
        have hz9 : (((QL 2 ((LY 0 2 L).drop a)) 2).length : Int) = 0 := by rw [ql_at, List.drop_of_length_le (by rw [LY_len, hlen.out]; exact Nat.le_refl _)]; rfl
        go_wp2_with fail
        have cl9 : Calls Try.prog 15 #[.pointer (some ⟨ba13, 0, none⟩), .int .u8 2] _ _ := alen_k (t := 2) (z := 0) ha hz9
        (with_reducible refine cl9.mono ?_)
        clear cl9
        rintro e w' ⟨rfl, rfl⟩
        go_wp2_with fail
        go_ret
        exact ⟨rfl, hw⟩
    obtain ⟨z1, z2⟩ := ql_tn (t := 2) (L := LY 0 2 L) (k := j) (p := p) (y := y) (by decide) hat (by simp only; omega)
    obtain ⟨z3, z4⟩ := ql_tn (t := 2) (L := (LY 0 2 L).set j (tnL ⟨0, 2, x.b⟩ p y)) (k := j) (l := tnL ⟨0, 2, x.b⟩ p y) (p := p) (y := y) (by decide) (List.getElem?_set_self hlj2.out) (by simp only [tnL, tnB_length]; omega)
    rw [hset] at z3
    have Z1 := Lib.hid z1
    have Z2 := Lib.hid z2
    have Z3 := Lib.hid z3
    have Z4 := Lib.hid z4
    have q5 : decide ((0 : Int) < (x.n : Int)) = true := by simp; omega
    have q6 : decide ((x.n : Int) > 0) = true := by simp; omega
    have q7 : 0 < x.n := by omega
    have q8 : decide (0 < x.n) = true := by simp; omega
    clear z1 z2 z3 z4 hset hx2 hat hb0
    clear cx
    go_wp2_with fail
    have cc201 := (show Calls Try.prog 21 #[.pointer (some ⟨ba13, 0, none⟩), .int .u8 2, .int .i64 (j : Int), .int .u16 (p : Int), .int .u8 (y.toNat : Int)] _ _ from turn_k (t := 2) (i := (j : Int)) (z := 0) hp ha2 Z1.out Z2.out)
    (with_reducible refine cc201.mono ?_)
    clear cc201
    rintro e w201 ⟨rfl, S201, ao201, ou201, nw201⟩
    have q201_yy := (hy).out ou201 hi
    have hi201 : ∀ i, S201 i → w.heap.size ≤ i := fun i e => (nw201 i e).elim (hi i) (fun e => Nat.le_trans (hw).size e)
    have l201 := below_out hw ou201 hi
    clear ou201 nw201 ha2 hy hi hw
    obtain ⟨gz, oz, x', hx', hA', cx'⟩ := (q201_yy).at_ hjn
    cases hA'
    rw [hx] at hx'
    cases hx'
    go_wp2_with fail
    have cc202 := (show Calls Try.prog 21 #[.pointer (some ⟨ba13, 0, none⟩), .int .u8 2, .int .i64 (j : Int), .int .u16 (p : Int), .int .u8 (y.toNat : Int)] _ _ from turn_k (t := 2) (i := (j : Int)) (z := 0) hp ao201 Z3.out Z4.out)
    (with_reducible refine cc202.mono ?_)
    clear cc202
    rintro e w202 ⟨rfl, S202, ao202, ou202, nw202⟩
    clear cx'
    have q202_yy := (q201_yy).out ou202 hi201
    have hi202 : ∀ i, S202 i → w.heap.size ≤ i := fun i e => (nw202 i e).elim (hi201 i) (fun e => Nat.le_trans (l201).size e)
    have l202 := below_out l201 ou202 hi201
    clear ou202 nw202 ao201 q201_yy hi201 l201
    go_wp2_with fail
    have cc203 := (show Calls Try.prog 20 #[.pointer (some ⟨ba13, 0, none⟩), .int .u8 2, .int .i64 (j : Int)] _ _ from again_k (t := 2) (i := (j : Int)) (z := 0) ao202 G1.out G2.out)
    (with_reducible refine cc203.mono ?_)
    clear cc203
    rintro e w203 ⟨rfl, S203, ao203, ou203, nw203⟩
    have q203_yy := (q202_yy).out ou203 hi202
    have hi203 : ∀ i, S203 i → w.heap.size ≤ i := fun i e => (nw203 i e).elim (hi202 i) (fun e => Nat.le_trans (l202).size e)
    have l203 := below_out l202 ou203 hi202
    clear ou203 nw203 ao202 q202_yy hi202 l202
    go_wp2_with fail
    have cc204 := (show Calls Try.prog 17 #[.pointer (some ⟨ba13, 0, none⟩), .int .u8 2, .int .i64 (k : Int)] _ _ from take_k (t := 2) (i := (k : Int)) (z := 0) ao203 D2.out D1.out D3.out)
    (with_reducible refine cc204.mono ?_)
    clear cc204
    rintro e w204 ⟨x204, rfl, hx204, rs204, S204, ao204, ou204, nw204, xo204⟩
    have q204_yy := (q203_yy).out ou204 hi203
    have hi204 : ∀ i, S204 i → w.heap.size ≤ i := fun i e => (nw204 i e).elim (hi203 i) (fun e => Nat.le_trans (l203).size e)
    have l204 := below_out l203 ou204 hi203
    have rb204 := rs204.ob
    have xa204 : ∀ i, InB x204.A i → ¬ S204 i := fun i a => (xo204 i a).2
    have xb204 : ∀ i, S204 i → ¬ InB x204.A i := fun i a b => xa204 i b a
    have hx204_ : ∀ i, InB x204.A i → w.heap.size ≤ i := fun i e => hi203 i (xo204 i e).1
    clear ou204 nw204 rs204 xo204 ao203 q203_yy hi203 l203
    go_wp2_with (first | ((with_reducible refine st_alloc 40 (lA zeroL) ?_ ?_); exact zero_lc))
    refine ⟨fun V205 g205 n205 f205 => ?_⟩
    have nn205_oa := ao204.fresh (Nat.le_of_eq f205.at_)
    have nn205_t0 := rb204.fresh (Nat.le_of_eq f205.at_)
    have up205 : w.heap.size ≤ g205 := f205.up l204
    have bl205 := f205.bel
    clear f205
    have r206_oa := ao204.on bl205
    have r206_t0 := rb204.on bl205
    have r208_yy := (q204_yy).on bl205
    have l208 := le_tr l204 bl205
    clear q204_yy l204
    clear ao204 rb204
    clear bl205
    go_wp2_with (first | ((with_reducible refine st_store 40 _ _ g205 (lA x204) ?_ ?_ n205 ?_ ?_ ?_ ?_); exact rfl; exact rfl; exact Try.zLc; exact rfl; exact lA_one _))
    refine ⟨fun V209 n209 k209 => ?_⟩
    have m209_yy := (r208_yy).wr k209 up205
    have m209_oa := r206_oa.wr k209 nn205_oa
    have m209_t0 := r206_t0.wr k209 nn205_t0
    have o209 := k209.bel _ _ l208 up205
    clear k209
    clear n205 r208_yy r206_oa r206_t0 l208
    go_wp2_with fail
    have hd0 : AO S204 ba13 1000 (QL 2 ((LY 0 2 L).drop 0)) V209 := by rw [List.drop_zero]; exact m209_oa
    clear m209_oa
    go_loopw [106] (fun iv wr => ∃ (a : Nat) (S : Nat → Prop), a ≤ k ∧ iv = .int .i64 a ∧ AO S ba13 1000 (QL 2 ((LY 0 2 L).drop a)) wr ∧ (∀ i, S i → w.heap.size ≤ i) ∧ YR w wr (some ⟨gy, oy, none⟩) k c L ∧ Below w.heap.size w wr) (fun iv _ => k - (intOf iv).toNat)
    case atStart => exact ⟨0, _, by omega, rfl, hd0, hi204, m209_yy, o209⟩
    case round =>
      clear hd0 hi204 m209_yy o209
      obtain ⟨a, S, han, rfl, ha, hi, hy, hw⟩ := hrel
      by_cases hlt : a < k
      · skip
        obtain ⟨gq, oq, xa, hxa, hAq, cxa⟩ := hy.at_ hlt
        cases hAq
        have l3 : (a : Int) < k := by omega
        have l4 : (0 : Int) ≤ (a : Int) := by omega
        obtain ⟨d1, d2, d3⟩ := ql_tk (t := 2) (L := (LY 0 2 L).drop a) (k := 0) (l := ⟨0, 2, xa.b⟩) (by decide) (by rw [LY_drop hxa]; rfl)
        have d4 : ((LY 0 2 L).drop a).eraseIdx 0 = (LY 0 2 L).drop (a + 1) := by rw [LY_drop hxa]; rfl
        rw [d4] at d1
        have E1 := Lib.hid d1
        have E2 := Lib.hid d2
        have E3 := Lib.hid d3
        have hxm2 := List.mem_of_getElem? hxa
        clear d1 d2 d3 d4
        go_wp2_with fail
        have cc501 := (show Calls Try.prog 17 #[.pointer (some ⟨ba13, 0, none⟩), .int .u8 2, .int .i64 0] _ _ from take_k (t := 2) (i := 0) (z := 0) ha E2.out E1.out E3.out)
        (with_reducible refine cc501.mono ?_)
        clear cc501
        rintro e w501 ⟨x501, rfl, hx501, rs501, S501, ao501, ou501, nw501, xo501⟩
        clear cxa
        have q501_yy := (hy).out ou501 hi
        have hi501 : ∀ i, S501 i → w.heap.size ≤ i := fun i e => (nw501 i e).elim (hi i) (fun e => Nat.le_trans (hw).size e)
        have l501 := below_out hw ou501 hi
        have rb501 := rs501.ob
        have xa501 : ∀ i, InB x501.A i → ¬ S501 i := fun i a => (xo501 i a).2
        have xb501 : ∀ i, S501 i → ¬ InB x501.A i := fun i a b => xa501 i b a
        have hx501_ : ∀ i, InB x501.A i → w.heap.size ≤ i := fun i e => hi i (xo501 i e).1
        clear ou501 nw501 rs501 xo501 ha hy hi hw
        go_wp2_with (first | ((with_reducible refine st_alloc 40 (lA zeroL) ?_ ?_); exact zero_lc))
        refine ⟨fun V502 g502 n502 f502 => ?_⟩
        have nn502_oa := ao501.fresh (Nat.le_of_eq f502.at_)
        have nn502_tl := rb501.fresh (Nat.le_of_eq f502.at_)
        have up502 : w.heap.size ≤ g502 := f502.up l501
        have bl502 := f502.bel
        clear f502
        have r503_oa := ao501.on bl502
        have r503_tl := rb501.on bl502
        have r505_yy := (q501_yy).on bl502
        have l505 := le_tr l501 bl502
        clear q501_yy l501
        clear ao501 rb501
        clear bl502
        go_wp2_with (first | ((with_reducible refine st_store 40 _ _ g502 (lA x501) ?_ ?_ n502 ?_ ?_ ?_ ?_); exact rfl; exact rfl; exact Try.zLc; exact rfl; exact lA_one _))
        refine ⟨fun V506 n506 k506 => ?_⟩
        have m506_yy := (r505_yy).wr k506 up502
        have m506_oa := r503_oa.wr k506 nn502_oa
        have m506_tl := r503_tl.wr k506 nn502_tl
        have o506 := k506.bel _ _ l505 up502
        clear k506
        clear n502 r505_yy r503_oa r503_tl l505
        have cu := conv_of m506_tl.ok.rr hx501
        have cb := conv_C (m506_yy.el xa hxm2).rr
        have gt : ((Dk.mkS xa.b).toList == (Dk.mkS xa.b).toList) = true := beq_self_eq_true _
        have c507 : V506.cell? ⟨g502, 2, none⟩ = some (.slice (x501.A) (x501.n) (x501.c)) := CB.cell n506 2
        go_wp2_with fail
        go_roundw
        case rel => exact ⟨a + 1, _, by omega, by go_num, m506_oa, hi501, m506_yy, o506⟩
        case measure => simp [intOf]; omega
      obtain rfl : a = k := by omega
      have hz9 : (((QL 2 ((LY 0 2 L).drop a)) 2).length : Int) = 0 := by rw [ql_at, List.drop_of_length_le (by rw [LY_len, hlen.out]; exact Nat.le_refl _)]; rfl
      go_wp2_with fail
      have cl9 : Calls Try.prog 15 #[.pointer (some ⟨ba13, 0, none⟩), .int .u8 2] _ _ := alen_k (t := 2) (z := 0) ha hz9
      (with_reducible refine cl9.mono ?_)
      clear cl9
      rintro e w' ⟨rfl, rfl⟩
      go_wp2_with fail
      go_ret
      exact ⟨rfl, hw⟩
end Go.Proofs.Ytcfdfimkgehdfaa
