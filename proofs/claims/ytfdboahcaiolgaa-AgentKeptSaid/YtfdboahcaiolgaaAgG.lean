/-
  cmp.Compare, agent.byTx, slices.BinarySearchFunc at ballots. Conditions: the ballots can be read and rise by their transactions, there are not too many for an int's half.
-/
import Derived.Test.YtfdboahcaiolgaaAgC
import Derived.Test.YtfdboahcaiolgaaStg
import Derived.Deep.LoopGhost
set_option linter.unusedVariables false
set_option linter.unusedSimpArgs false
namespace Go.Proofs.Ytfdboahcaiolgaa
open Go.RowKit
open Dk (Nt InN RightN BoundN MsgN NoMsg KindN EpN bound_n)


def cmpI (x y : Int) : Int := if x < y then -1 else if y < x then 1 else 0
theorem cmpI_neg {x y : Int} : cmpI x y < 0 ↔ x < y := by unfold cmpI; (repeat' split) <;> omega
theorem cmpI_zero {x y : Int} : cmpI x y = 0 ↔ x = y := by unfold cmpI; (repeat' split) <;> omega
set_option maxRecDepth 100000 in
set_option maxHeartbeats 4000000 in
theorem nan_c (x : Int) (w : World) : Calls Try.prog 98 #[.int .i64 x] w fun e w' => e = .returned (.bool false) ∧ w = w' := by
  go_enter Try.func98, Try.ntmps98
  have q : (x != x) = false := by simp
  go_wp2_with fail
  go_ret
  exact ⟨rfl, rfl⟩
set_option maxRecDepth 100000 in
set_option maxHeartbeats 4000000 in
theorem cmp_c (x y : Int) (w : World) : Calls Try.prog 88 #[.int .i64 x, .int .i64 y] w fun e w' => e = .returned (.int .i64 (cmpI x y)) ∧ w = w' := by
  rcases Int.lt_trichotomy x y with h | h | h
  · have H := Lib.hid (show cmpI x y = -1 from if_pos h)
    have q1 : decide (x < y) = true := by simp [h]
    clear h
    go_enter Try.func88, Try.ntmps88
    go_wp2_with fail
    refine (nan_c x _).mono ?_
    rintro e w1 ⟨rfl, rfl⟩
    go_wp2_with fail
    refine (nan_c y _).mono ?_
    rintro e w1 ⟨rfl, rfl⟩
    go_wp2_with fail
    go_ret
    exact ⟨ret_int H.out.symm, rfl⟩
  · have H := Lib.hid (show cmpI x y = 0 from cmpI_zero.2 h)
    have q1 : decide (x < y) = false := by simp; omega
    have q2 : decide (y < x) = false := by simp; omega
    have q3 : decide (x > y) = false := by simp; omega
    clear h
    go_enter Try.func88, Try.ntmps88
    go_wp2_with fail
    refine (nan_c x _).mono ?_
    rintro e w1 ⟨rfl, rfl⟩
    go_wp2_with fail
    refine (nan_c y _).mono ?_
    rintro e w1 ⟨rfl, rfl⟩
    go_wp2_with fail
    go_ret
    exact ⟨ret_int H.out.symm, rfl⟩
  · have H := Lib.hid (show cmpI x y = 1 by unfold cmpI; rw [if_neg (by omega), if_pos h])
    have q1 : decide (x < y) = false := by simp; omega
    have q2 : decide (y < x) = true := by simp; omega
    have q3 : decide (x > y) = true := by simp; omega
    clear h
    go_enter Try.func88, Try.ntmps88
    go_wp2_with fail
    refine (nan_c x _).mono ?_
    rintro e w1 ⟨rfl, rfl⟩
    go_wp2_with fail
    refine (nan_c y _).mono ?_
    rintro e w1 ⟨rfl, rfl⟩
    go_wp2_with fail
    go_ret
    exact ⟨ret_int H.out.symm, rfl⟩
/-- Where a search ends. -/
def SPost (w : World) (L : List Bl) (b : Bl) (e : Ending) (w' : World) : Prop :=
  ∃ (i : Nat) (B : Bool), e = .returned (.tuple #[.int .i64 (i : Int), .bool B]) ∧ AtB L b i ∧ (B = true ↔ ∃ x, L[i]? = some x ∧ x.tx = b.tx) ∧ Below w.heap.size w w'
theorem half_le {lo hi n : Nat} (h1 : lo < hi) (h2 : hi ≤ n) : lo ≤ (lo + hi) / 2 ∧ (lo + hi) / 2 < hi ∧ (lo + hi) / 2 < n := by omega
set_option maxRecDepth 100000 in
set_option maxHeartbeats 4000000 in
theorem byTx_c (a b : Bl) (w : World) : Calls Try.prog 65 #[.agg (btA a), .agg (btA b)] w fun zz w' => zz = .returned (.int .i64 (cmpI a.tx b.tx)) ∧ Below w.heap.size w w' := by
  go_enter Try.func65, Try.ntmps65
  go_wp2_with (first | ((with_reducible refine st_box 49 _ (btA a) ?_ ?_); exact rfl))
  refine ⟨fun V1 g1 n1 f1 => ?_⟩
  have up1 : w.heap.size ≤ g1 := Nat.le_of_eq f1.at_
  have bl1 := f1.bel
  clear f1
  have l3 := le_tr (Below.refl _ _) bl1
  clear bl1
  go_wp2_with (first | ((with_reducible refine st_box 49 _ (btA b) ?_ ?_); exact rfl))
  refine ⟨fun V4 g4 n4 f4 => ?_⟩
  have ne4_a := f4.ne n1
  have up4 : w.heap.size ≤ g4 := f4.up l3
  have bl4 := f4.bel
  clear f4
  have r6_a := le_on n1 bl4
  have l6 := le_tr l3 bl4
  clear n1 l3
  clear bl4
  have c7 : V4.cell? ⟨g1, 0, none⟩ = some (.int .i64 (a.tx)) := CB.cell r6_a 0
  have c8 : V4.cell? ⟨g4, 0, none⟩ = some (.int .i64 (b.tx)) := CB.cell n4 0
  go_wp2_with fail
  refine (cmp_c a.tx b.tx _).mono ?_
  rintro e w9 ⟨rfl, rfl⟩
  go_wp2_with fail
  go_ret
  exact ⟨rfl, l6⟩
set_option maxRecDepth 100000 in
set_option maxHeartbeats 4000000 in
theorem search_c (A : Option Addr) (n q : Nat) (L : List Bl) (b : Bl) (w : World) (h : RR w dcl 2 A n q L) (hs : SrtB L) (hn : n ≤ 1000000) : Calls Try.prog 64 #[.slice A n q, .agg (btA b), .func (.func 65) #[] #[]] w (SPost w L b) := by
  have hlen := Lib.hid h.len
  have hx := RL.start h
  have HS := Lib.hid hs
  clear h hs
  go_enter Try.func64, Try.ntmps64
  go_wp2_with (first | ((with_reducible refine st_box 49 _ (btA b) ?_ ?_); exact rfl))
  refine ⟨fun V1 g1 n1 f1 => ?_⟩
  have up1 : w.heap.size ≤ g1 := Nat.le_of_eq f1.at_
  have bl1 := f1.bel
  clear f1
  have r3_l := (hx).on bl1
  have l3 := le_tr (Below.refl _ _) bl1
  clear hx
  clear bl1
  go_wp2_with fail
  go_loopg [9, 10] n (fun kx s9 s10 wr => ∃ lo hi : Nat, s9 = .int .i64 lo ∧ s10 = .int .i64 hi ∧ lo ≤ hi ∧ hi ≤ n ∧ hi - lo ≤ kx ∧ Hid ((∀ t x, t < lo → L[t]? = some x → x.tx < b.tx) ∧ (∀ t x, hi ≤ t → L[t]? = some x → ¬ x.tx < b.tx)) ∧ CB wr g1 49 (btA b) ∧ RL w wr dcl 2 A n q L ∧ Below w.heap.size w wr)
  case atStart => exact ⟨0, n, rfl, rfl, Nat.zero_le _, Nat.le_refl _, by omega, Lib.hid ⟨fun t x ht _ => absurd ht (Nat.not_lt_zero _), fun t x ht hx' => by have := (List.getElem?_eq_some_iff.1 hx').1; have := hlen.out; omega⟩, n1, r3_l, l3⟩
  case round =>
    clear n1 r3_l l3
    obtain ⟨lo, hi, rfl, rfl, hlh, hin, hg, I, hb, hx, hw⟩ := hrel
    by_cases hlt : lo < hi
    · skip
      obtain ⟨h1, h2, h3⟩ := half_le hlt hin
      obtain ⟨m, hm⟩ : ∃ m, (lo + hi) / 2 = m := ⟨_, rfl⟩
      rw [hm] at h1 h2 h3
      obtain ⟨g, off, x, hxm, hA, _⟩ := hx.rr.elem h3
      subst hA
      have em : ((lo : Int) + (hi : Int)) / 2 = (m : Int) := by omega
      have M := Lib.hid hm
      have HX := Lib.hid hxm
      clear hm hxm
      by_cases hd : x.tx < b.tx
      · skip
        have HD := Lib.hid (at_lt HS.out HX.out hd)
        have q1 : decide (cmpI x.tx b.tx < 0) = true := by simp [cmpI_neg, hd]
        have C := fun V => byTx_c x b V
        clear hd
        go_wp2_with fail
        have y101 := Lib.hid (show (fun V : World => CB V g1 49 (btA b) ∧ RL w V dcl 2 (some ⟨g, off, none⟩) n q L) wr.drew from ⟨CB.drew hb, (hx).drew⟩)
        refine wp_region_held_drew (S := (fun V : World => CB V g1 49 (btA b) ∧ RL w V dcl 2 (some ⟨g, off, none⟩) n q L)) (by kernel_rfl) y101.out (fun hHeld => ?_)
        obtain ⟨D101, hD101⟩ : ∃ V, wr.drew = V := ⟨_, rfl⟩
        have b101 : Below wr.heap.size wr D101 := by rw [← hD101]; exact le_dr (Below.refl _ _)
        rw [hD101] at hHeld ⊢
        clear hD101
        have r103_b := le_on hb b101
        have r103_l := (hx).on b101
        have l103 := le_tr hw b101
        clear hb hx hw
        clear b101
        refine wpAnyH_takeL (i := 0) (d := some 24) (v := .func (.func 65) #[] #[]) rfl rfl (by kernel_rfl) (by kernel_rfl) (by kernel_rfl) (fun _ _ _ h => h) (Or.inl ⟨by rfl, ?_⟩) hHeld ?_
        · intro w hSw; (try dsimp only at hSw); go_simp
        try simp only [Act.put, List.setIfInBounds_toArray, List.set_cons_zero, List.set_cons_succ]
        refine wpAnyH_takeL (i := 1) (d := some 25) (v := .slice (some ⟨g, off, none⟩) n q) rfl rfl (by kernel_rfl) (by kernel_rfl) (by kernel_rfl) (fun _ _ _ h => h) (Or.inl ⟨by rfl, ?_⟩) hHeld ?_
        · intro w hSw; (try dsimp only at hSw); go_simp
        try simp only [Act.put, List.setIfInBounds_toArray, List.set_cons_zero, List.set_cons_succ]
        refine wpAnyH_takeL (i := 2) (d := some 26) (v := .int .i64 (m : Int)) rfl rfl (by kernel_rfl) (by kernel_rfl) (by kernel_rfl) (fun _ _ _ h => h) (Or.inl ⟨by rfl, ?_⟩) hHeld ?_
        · intro w hSw; (try dsimp only at hSw); go_simp
        try simp only [Act.put, List.setIfInBounds_toArray, List.set_cons_zero, List.set_cons_succ]
        refine wpAnyH_takeL (i := 3) (d := some 27) (v := .pointer (some ⟨g, off + m * 2, none⟩)) rfl rfl (by kernel_rfl) (by kernel_rfl) (by kernel_rfl) (fun _ _ _ h => h) (Or.inl ⟨by rfl, ?_⟩) hHeld ?_
        · intro w hSw; (try dsimp only at hSw); go_simp
        try simp only [Act.put, List.setIfInBounds_toArray, List.set_cons_zero, List.set_cons_succ]
        refine wpAnyH_takeL (i := 4) (d := some 28) (v := .agg (btA x)) rfl rfl (by kernel_rfl) (by kernel_rfl) (by kernel_rfl) (fun _ _ _ h => h) (Or.inl ⟨by rfl, ?_⟩) hHeld ?_
        · intro w hSw; exact yl_elem 49 _ g (off + m * 2) (btA x) rfl (RR.elemAt hSw.2.rr HX.out rfl) Try.underlying49 rfl Try.zBc
        try simp only [Act.put, List.setIfInBounds_toArray, List.set_cons_zero, List.set_cons_succ]
        refine wpAnyH_takeL (i := 5) (d := some 29) (v := .agg (btA b)) rfl rfl (by kernel_rfl) (by kernel_rfl) (by kernel_rfl) (fun _ _ _ h => h) (Or.inl ⟨by rfl, ?_⟩) hHeld ?_
        · intro w hSw; exact yl_whole 49 _ g1 rfl hSw.1 Try.underlying49 rfl Try.zBc
        try simp only [Act.put, List.setIfInBounds_toArray, List.set_cons_zero, List.set_cons_succ]
        refine wpAnyH_ready (rs := [6]) (by kernel_rfl) (by simp) ?_
        refine AllReadyH.cons rfl (fun K hK => ?_) AllReadyH.nil
        go_simp
        (with_reducible refine (C _).mono ?_)
        rintro e u104 ⟨rfl, b104⟩
        have r106_b := le_on r103_b b104
        have r106_l := (r103_l).on b104
        have l106 := le_tr l103 b104
        clear r103_b r103_l l103
        clear b104
        go_wp2_with fail
        have y107 := Lib.hid (show (fun V : World => CB V g1 49 (btA b) ∧ RL w V dcl 2 (some ⟨g, off, none⟩) n q L) u104 from ⟨r106_b, r106_l⟩)
        refine hK.out _ _ y107.out (fun hHeld => ?_)
        clear hK K y107
        try simp only [Act.put, List.setIfInBounds_toArray, List.set_cons_zero, List.set_cons_succ]
        refine wpAnyH_takeL (i := 7) (d := some 31) (v := .bool true) rfl rfl (by kernel_rfl) (by kernel_rfl) (by kernel_rfl) (fun _ _ _ h => h) (Or.inl ⟨by rfl, ?_⟩) hHeld ?_
        · intro w hSw; (try dsimp only at hSw); go_simp
        try simp only [Act.put, List.setIfInBounds_toArray, List.set_cons_zero, List.set_cons_succ]
        refine wpAnyH_done (by kernel_rfl) ?_ _
        go_wp2_with fail
        go_roundg (hi - (m + 1))
        case measure => omega
        case rel => exact ⟨m + 1, hi, by go_num, rfl, by omega, by omega, by omega, Lib.hid ⟨HD.out, I.out.2⟩, r106_b, r106_l, l106⟩
      · skip
        have HD := Lib.hid (at_ge HS.out HX.out hd)
        have q1 : decide (cmpI x.tx b.tx < 0) = false := by simp [cmpI_neg]; omega
        have C := fun V => byTx_c x b V
        clear hd
        go_wp2_with fail
        have y101 := Lib.hid (show (fun V : World => CB V g1 49 (btA b) ∧ RL w V dcl 2 (some ⟨g, off, none⟩) n q L) wr.drew from ⟨CB.drew hb, (hx).drew⟩)
        refine wp_region_held_drew (S := (fun V : World => CB V g1 49 (btA b) ∧ RL w V dcl 2 (some ⟨g, off, none⟩) n q L)) (by kernel_rfl) y101.out (fun hHeld => ?_)
        obtain ⟨D101, hD101⟩ : ∃ V, wr.drew = V := ⟨_, rfl⟩
        have b101 : Below wr.heap.size wr D101 := by rw [← hD101]; exact le_dr (Below.refl _ _)
        rw [hD101] at hHeld ⊢
        clear hD101
        have r103_b := le_on hb b101
        have r103_l := (hx).on b101
        have l103 := le_tr hw b101
        clear hb hx hw
        clear b101
        refine wpAnyH_takeL (i := 0) (d := some 24) (v := .func (.func 65) #[] #[]) rfl rfl (by kernel_rfl) (by kernel_rfl) (by kernel_rfl) (fun _ _ _ h => h) (Or.inl ⟨by rfl, ?_⟩) hHeld ?_
        · intro w hSw; (try dsimp only at hSw); go_simp
        try simp only [Act.put, List.setIfInBounds_toArray, List.set_cons_zero, List.set_cons_succ]
        refine wpAnyH_takeL (i := 1) (d := some 25) (v := .slice (some ⟨g, off, none⟩) n q) rfl rfl (by kernel_rfl) (by kernel_rfl) (by kernel_rfl) (fun _ _ _ h => h) (Or.inl ⟨by rfl, ?_⟩) hHeld ?_
        · intro w hSw; (try dsimp only at hSw); go_simp
        try simp only [Act.put, List.setIfInBounds_toArray, List.set_cons_zero, List.set_cons_succ]
        refine wpAnyH_takeL (i := 2) (d := some 26) (v := .int .i64 (m : Int)) rfl rfl (by kernel_rfl) (by kernel_rfl) (by kernel_rfl) (fun _ _ _ h => h) (Or.inl ⟨by rfl, ?_⟩) hHeld ?_
        · intro w hSw; (try dsimp only at hSw); go_simp
        try simp only [Act.put, List.setIfInBounds_toArray, List.set_cons_zero, List.set_cons_succ]
        refine wpAnyH_takeL (i := 3) (d := some 27) (v := .pointer (some ⟨g, off + m * 2, none⟩)) rfl rfl (by kernel_rfl) (by kernel_rfl) (by kernel_rfl) (fun _ _ _ h => h) (Or.inl ⟨by rfl, ?_⟩) hHeld ?_
        · intro w hSw; (try dsimp only at hSw); go_simp
        try simp only [Act.put, List.setIfInBounds_toArray, List.set_cons_zero, List.set_cons_succ]
        refine wpAnyH_takeL (i := 4) (d := some 28) (v := .agg (btA x)) rfl rfl (by kernel_rfl) (by kernel_rfl) (by kernel_rfl) (fun _ _ _ h => h) (Or.inl ⟨by rfl, ?_⟩) hHeld ?_
        · intro w hSw; exact yl_elem 49 _ g (off + m * 2) (btA x) rfl (RR.elemAt hSw.2.rr HX.out rfl) Try.underlying49 rfl Try.zBc
        try simp only [Act.put, List.setIfInBounds_toArray, List.set_cons_zero, List.set_cons_succ]
        refine wpAnyH_takeL (i := 5) (d := some 29) (v := .agg (btA b)) rfl rfl (by kernel_rfl) (by kernel_rfl) (by kernel_rfl) (fun _ _ _ h => h) (Or.inl ⟨by rfl, ?_⟩) hHeld ?_
        · intro w hSw; exact yl_whole 49 _ g1 rfl hSw.1 Try.underlying49 rfl Try.zBc
        try simp only [Act.put, List.setIfInBounds_toArray, List.set_cons_zero, List.set_cons_succ]
        refine wpAnyH_ready (rs := [6]) (by kernel_rfl) (by simp) ?_
        refine AllReadyH.cons rfl (fun K hK => ?_) AllReadyH.nil
        go_simp
        (with_reducible refine (C _).mono ?_)
        rintro e u104 ⟨rfl, b104⟩
        have r106_b := le_on r103_b b104
        have r106_l := (r103_l).on b104
        have l106 := le_tr l103 b104
        clear r103_b r103_l l103
        clear b104
        go_wp2_with fail
        have y107 := Lib.hid (show (fun V : World => CB V g1 49 (btA b) ∧ RL w V dcl 2 (some ⟨g, off, none⟩) n q L) u104 from ⟨r106_b, r106_l⟩)
        refine hK.out _ _ y107.out (fun hHeld => ?_)
        clear hK K y107
        try simp only [Act.put, List.setIfInBounds_toArray, List.set_cons_zero, List.set_cons_succ]
        refine wpAnyH_takeL (i := 7) (d := some 31) (v := .bool false) rfl rfl (by kernel_rfl) (by kernel_rfl) (by kernel_rfl) (fun _ _ _ h => h) (Or.inl ⟨by rfl, ?_⟩) hHeld ?_
        · intro w hSw; (try dsimp only at hSw); go_simp
        try simp only [Act.put, List.setIfInBounds_toArray, List.set_cons_zero, List.set_cons_succ]
        refine wpAnyH_done (by kernel_rfl) ?_ _
        go_wp2_with fail
        go_roundg (m - lo)
        case measure => omega
        case rel => exact ⟨lo, m, rfl, rfl, by omega, by omega, by omega, Lib.hid ⟨I.out.1, HD.out⟩, r106_b, r106_l, l106⟩
    · skip
      obtain rfl : lo = hi := by omega
      have HA := Lib.hid (show AtB L b lo from ⟨by rw [hlen.out]; exact hin, I.out.1, I.out.2⟩)
      have gz0 : ¬ ((lo : Int) < lo) := by omega
      clear hlt hlh hg
      by_cases hn : lo < n
      · skip
        obtain ⟨g, off, x, hxm, hA, _⟩ := hx.rr.elem hn
        subst hA
        have HX := Lib.hid hxm
        have HB := Lib.hid (show ((cmpI x.tx b.tx == 0) = true ↔ ∃ y, L[lo]? = some y ∧ y.tx = b.tx) by rw [beq_iff_eq, cmpI_zero, hxm]; exact ⟨fun h => ⟨x, rfl, h⟩, fun ⟨y, e, h⟩ => by cases e; exact h⟩)
        have q1 : decide ((lo : Int) < (n : Int)) = true := by simp [hn]
        have C := fun V => byTx_c x b V
        clear hxm
        go_wp2_with fail
        have y101 := Lib.hid (show (fun V : World => CB V g1 49 (btA b) ∧ RL w V dcl 2 (some ⟨g, off, none⟩) n q L) wr.drew from ⟨CB.drew hb, (hx).drew⟩)
        refine wp_region_held_drew (S := (fun V : World => CB V g1 49 (btA b) ∧ RL w V dcl 2 (some ⟨g, off, none⟩) n q L)) (by kernel_rfl) y101.out (fun hHeld => ?_)
        obtain ⟨D101, hD101⟩ : ∃ V, wr.drew = V := ⟨_, rfl⟩
        have b101 : Below wr.heap.size wr D101 := by rw [← hD101]; exact le_dr (Below.refl _ _)
        rw [hD101] at hHeld ⊢
        clear hD101
        have r103_b := le_on hb b101
        have r103_l := (hx).on b101
        have l103 := le_tr hw b101
        clear hb hx hw
        clear b101
        refine wpAnyH_takeL (i := 0) (d := some 35) (v := .int .i64 (lo : Int)) rfl rfl (by kernel_rfl) (by kernel_rfl) (by kernel_rfl) (fun _ _ _ h => h) (Or.inl ⟨by rfl, ?_⟩) hHeld ?_
        · intro w hSw; (try dsimp only at hSw); go_simp
        try simp only [Act.put, List.setIfInBounds_toArray, List.set_cons_zero, List.set_cons_succ]
        refine wpAnyH_takeL (i := 1) (d := some 36) (v := .int .i64 (lo : Int)) rfl rfl (by kernel_rfl) (by kernel_rfl) (by kernel_rfl) (fun _ _ _ h => h) (Or.inl ⟨by rfl, ?_⟩) hHeld ?_
        · intro w hSw; (try dsimp only at hSw); go_simp
        try simp only [Act.put, List.setIfInBounds_toArray, List.set_cons_zero, List.set_cons_succ]
        refine wpAnyH_takeL (i := 2) (d := some 37) (v := .int .i64 (n : Int)) rfl rfl (by kernel_rfl) (by kernel_rfl) (by kernel_rfl) (fun _ _ _ h => h) (Or.inl ⟨by rfl, ?_⟩) hHeld ?_
        · intro w hSw; (try dsimp only at hSw); go_simp
        try simp only [Act.put, List.setIfInBounds_toArray, List.set_cons_zero, List.set_cons_succ]
        refine wpAnyH_takeL (i := 3) (d := some 38) (v := .bool true) rfl rfl (by kernel_rfl) (by kernel_rfl) (by kernel_rfl) (fun _ _ _ h => h) (Or.inl ⟨by rfl, ?_⟩) hHeld ?_
        · intro w hSw; (try dsimp only at hSw); go_simp
        try simp only [Act.put, List.setIfInBounds_toArray, List.set_cons_zero, List.set_cons_succ]
        refine wpAnyH_takeL (i := 4) (d := some 39) (v := .bool true) rfl rfl (by kernel_rfl) (by kernel_rfl) (by kernel_rfl) (fun _ _ _ h => h) (Or.inl ⟨by rfl, ?_⟩) hHeld ?_
        · intro w hSw; (try dsimp only at hSw); go_simp
        try simp only [Act.put, List.setIfInBounds_toArray, List.set_cons_zero, List.set_cons_succ]
        refine wpAnyH_takeL (i := 5) (d := some 40) (v := .func (.func 65) #[] #[]) rfl rfl (by kernel_rfl) (by kernel_rfl) (by kernel_rfl) (fun _ _ _ h => h) (Or.inl ⟨by rfl, ?_⟩) hHeld ?_
        · intro w hSw; (try dsimp only at hSw); go_simp
        try simp only [Act.put, List.setIfInBounds_toArray, List.set_cons_zero, List.set_cons_succ]
        refine wpAnyH_takeL (i := 6) (d := some 41) (v := .slice (some ⟨g, off, none⟩) n q) rfl rfl (by kernel_rfl) (by kernel_rfl) (by kernel_rfl) (fun _ _ _ h => h) (Or.inl ⟨by rfl, ?_⟩) hHeld ?_
        · intro w hSw; (try dsimp only at hSw); go_simp
        try simp only [Act.put, List.setIfInBounds_toArray, List.set_cons_zero, List.set_cons_succ]
        refine wpAnyH_takeL (i := 7) (d := some 42) (v := .int .i64 (lo : Int)) rfl rfl (by kernel_rfl) (by kernel_rfl) (by kernel_rfl) (fun _ _ _ h => h) (Or.inl ⟨by rfl, ?_⟩) hHeld ?_
        · intro w hSw; (try dsimp only at hSw); go_simp
        try simp only [Act.put, List.setIfInBounds_toArray, List.set_cons_zero, List.set_cons_succ]
        refine wpAnyH_takeL (i := 8) (d := some 43) (v := .pointer (some ⟨g, off + lo * 2, none⟩)) rfl rfl (by kernel_rfl) (by kernel_rfl) (by kernel_rfl) (fun _ _ _ h => h) (Or.inl ⟨by rfl, ?_⟩) hHeld ?_
        · intro w hSw; (try dsimp only at hSw); go_simp
        try simp only [Act.put, List.setIfInBounds_toArray, List.set_cons_zero, List.set_cons_succ]
        refine wpAnyH_takeL (i := 9) (d := some 44) (v := .agg (btA x)) rfl rfl (by kernel_rfl) (by kernel_rfl) (by kernel_rfl) (fun _ _ _ h => h) (Or.inl ⟨by rfl, ?_⟩) hHeld ?_
        · intro w hSw; exact yl_elem 49 _ g (off + lo * 2) (btA x) rfl (RR.elemAt hSw.2.rr HX.out rfl) Try.underlying49 rfl Try.zBc
        try simp only [Act.put, List.setIfInBounds_toArray, List.set_cons_zero, List.set_cons_succ]
        refine wpAnyH_takeL (i := 10) (d := some 45) (v := .agg (btA b)) rfl rfl (by kernel_rfl) (by kernel_rfl) (by kernel_rfl) (fun _ _ _ h => h) (Or.inl ⟨by rfl, ?_⟩) hHeld ?_
        · intro w hSw; exact yl_whole 49 _ g1 rfl hSw.1 Try.underlying49 rfl Try.zBc
        try simp only [Act.put, List.setIfInBounds_toArray, List.set_cons_zero, List.set_cons_succ]
        refine wpAnyH_ready (rs := [11]) (by kernel_rfl) (by simp) ?_
        refine AllReadyH.cons rfl (fun K hK => ?_) AllReadyH.nil
        go_simp
        (with_reducible refine (C _).mono ?_)
        rintro e u104 ⟨rfl, b104⟩
        have r106_b := le_on r103_b b104
        have r106_l := (r103_l).on b104
        have l106 := le_tr l103 b104
        clear r103_b r103_l l103
        clear b104
        go_wp2_with fail
        have y107 := Lib.hid (show (fun V : World => CB V g1 49 (btA b) ∧ RL w V dcl 2 (some ⟨g, off, none⟩) n q L) u104 from ⟨r106_b, r106_l⟩)
        refine hK.out _ _ y107.out (fun hHeld => ?_)
        clear hK K y107
        try simp only [Act.put, List.setIfInBounds_toArray, List.set_cons_zero, List.set_cons_succ]
        refine wpAnyH_takeL (i := 12) (d := some 47) (v := .bool (cmpI x.tx b.tx == 0)) rfl rfl (by kernel_rfl) (by kernel_rfl) (by kernel_rfl) (fun _ _ _ h => h) (Or.inl ⟨by rfl, ?_⟩) hHeld ?_
        · intro w hSw; (try dsimp only at hSw); go_simp
        try simp only [Act.put, List.setIfInBounds_toArray, List.set_cons_zero, List.set_cons_succ]
        refine wpAnyH_takeL (i := 13) (d := some 48) (v := .bool (cmpI x.tx b.tx == 0)) rfl rfl (by kernel_rfl) (by kernel_rfl) (by kernel_rfl) (fun _ _ _ h => h) (Or.inl ⟨by rfl, ?_⟩) hHeld ?_
        · intro w hSw; (try dsimp only at hSw); go_simp
        try simp only [Act.put, List.setIfInBounds_toArray, List.set_cons_zero, List.set_cons_succ]
        refine wpAnyH_takeL (i := 14) (d := some 6) (v := .int .i64 (lo : Int)) rfl rfl (by kernel_rfl) (by kernel_rfl) (by kernel_rfl) (fun _ _ _ h => h) (Or.inl ⟨by rfl, ?_⟩) hHeld ?_
        · intro w hSw; (try dsimp only at hSw); go_simp
        try simp only [Act.put, List.setIfInBounds_toArray, List.set_cons_zero, List.set_cons_succ]
        refine wpAnyH_takeL (i := 15) (d := some 7) (v := .bool (cmpI x.tx b.tx == 0)) rfl rfl (by kernel_rfl) (by kernel_rfl) (by kernel_rfl) (fun _ _ _ h => h) (Or.inl ⟨by rfl, ?_⟩) hHeld ?_
        · intro w hSw; (try dsimp only at hSw); go_simp
        try simp only [Act.put, List.setIfInBounds_toArray, List.set_cons_zero, List.set_cons_succ]
        refine wpAnyH_done (by kernel_rfl) ?_ _
        go_wp2_with fail
        exact bodyPost_ret (v := .tuple #[.int .i64 (lo : Int), .bool (cmpI x.tx b.tx == 0)]) (by simp [results, Try.results64, go_sem]) rfl ⟨lo, _, rfl, HA.out, HB.out, l106⟩
      · skip
        have q1 : decide ((lo : Int) < (n : Int)) = false := by simp; omega
        have HB := Lib.hid (show (false = true ↔ ∃ y, L[lo]? = some y ∧ y.tx = b.tx) from ⟨fun h => (by cases h), fun ⟨y, e, h⟩ => by have := (List.getElem?_eq_some_iff.1 e).1; have := hlen.out; omega⟩)
        go_wp2_with fail
        have y101 := Lib.hid (show (fun V : World => CB V g1 49 (btA b)) wr.drew from CB.drew hb)
        refine wp_region_held_drew (S := (fun V : World => CB V g1 49 (btA b))) (by kernel_rfl) y101.out (fun hHeld => ?_)
        obtain ⟨D101, hD101⟩ : ∃ V, wr.drew = V := ⟨_, rfl⟩
        have b101 : Below wr.heap.size wr D101 := by rw [← hD101]; exact le_dr (Below.refl _ _)
        rw [hD101] at hHeld ⊢
        clear hD101
        have r103_b := le_on hb b101
        have r103_l := (hx).on b101
        have l103 := le_tr hw b101
        clear hb hx hw
        clear b101
        refine wpAnyH_takeL (i := 0) (d := some 35) (v := .int .i64 (lo : Int)) rfl rfl (by kernel_rfl) (by kernel_rfl) (by kernel_rfl) (fun _ _ _ h => h) (Or.inl ⟨by rfl, ?_⟩) hHeld ?_
        · intro w hSw; (try dsimp only at hSw); go_simp
        try simp only [Act.put, List.setIfInBounds_toArray, List.set_cons_zero, List.set_cons_succ]
        refine wpAnyH_takeL (i := 1) (d := some 36) (v := .int .i64 (lo : Int)) rfl rfl (by kernel_rfl) (by kernel_rfl) (by kernel_rfl) (fun _ _ _ h => h) (Or.inl ⟨by rfl, ?_⟩) hHeld ?_
        · intro w hSw; (try dsimp only at hSw); go_simp
        try simp only [Act.put, List.setIfInBounds_toArray, List.set_cons_zero, List.set_cons_succ]
        refine wpAnyH_takeL (i := 2) (d := some 37) (v := .int .i64 (n : Int)) rfl rfl (by kernel_rfl) (by kernel_rfl) (by kernel_rfl) (fun _ _ _ h => h) (Or.inl ⟨by rfl, ?_⟩) hHeld ?_
        · intro w hSw; (try dsimp only at hSw); go_simp
        try simp only [Act.put, List.setIfInBounds_toArray, List.set_cons_zero, List.set_cons_succ]
        refine wpAnyH_takeL (i := 3) (d := some 38) (v := .bool false) rfl rfl (by kernel_rfl) (by kernel_rfl) (by kernel_rfl) (fun _ _ _ h => h) (Or.inl ⟨by rfl, ?_⟩) hHeld ?_
        · intro w hSw; (try dsimp only at hSw); go_simp
        try simp only [Act.put, List.setIfInBounds_toArray, List.set_cons_zero, List.set_cons_succ]
        refine wpAnyH_takeL (i := 4) (d := some 39) (v := .bool false) rfl rfl (by kernel_rfl) (by kernel_rfl) (by kernel_rfl) (fun _ _ _ h => h) (Or.inl ⟨by rfl, ?_⟩) hHeld ?_
        · intro w hSw; (try dsimp only at hSw); go_simp
        try simp only [Act.put, List.setIfInBounds_toArray, List.set_cons_zero, List.set_cons_succ]
        refine wpAnyH_takeL (i := 5) (d := some 40) (v := undef) rfl rfl (by kernel_rfl) (by kernel_rfl) (by kernel_rfl) (fun _ _ _ h => h) (Or.inr ⟨by kernel_rfl, rfl⟩) hHeld ?_
        try simp only [Act.put, List.setIfInBounds_toArray, List.set_cons_zero, List.set_cons_succ]
        refine wpAnyH_takeL (i := 6) (d := some 41) (v := undef) rfl rfl (by kernel_rfl) (by kernel_rfl) (by kernel_rfl) (fun _ _ _ h => h) (Or.inr ⟨by kernel_rfl, rfl⟩) hHeld ?_
        try simp only [Act.put, List.setIfInBounds_toArray, List.set_cons_zero, List.set_cons_succ]
        refine wpAnyH_takeL (i := 7) (d := some 42) (v := undef) rfl rfl (by kernel_rfl) (by kernel_rfl) (by kernel_rfl) (fun _ _ _ h => h) (Or.inr ⟨by kernel_rfl, rfl⟩) hHeld ?_
        try simp only [Act.put, List.setIfInBounds_toArray, List.set_cons_zero, List.set_cons_succ]
        refine wpAnyH_takeL (i := 8) (d := some 43) (v := undef) rfl rfl (by kernel_rfl) (by kernel_rfl) (by kernel_rfl) (fun _ _ _ h => h) (Or.inr ⟨by kernel_rfl, rfl⟩) hHeld ?_
        try simp only [Act.put, List.setIfInBounds_toArray, List.set_cons_zero, List.set_cons_succ]
        refine wpAnyH_takeL (i := 9) (d := some 44) (v := undef) rfl rfl (by kernel_rfl) (by kernel_rfl) (by kernel_rfl) (fun _ _ _ h => h) (Or.inr ⟨by kernel_rfl, rfl⟩) hHeld ?_
        try simp only [Act.put, List.setIfInBounds_toArray, List.set_cons_zero, List.set_cons_succ]
        refine wpAnyH_takeL (i := 10) (d := some 45) (v := undef) rfl rfl (by kernel_rfl) (by kernel_rfl) (by kernel_rfl) (fun _ _ _ h => h) (Or.inr ⟨by kernel_rfl, rfl⟩) hHeld ?_
        try simp only [Act.put, List.setIfInBounds_toArray, List.set_cons_zero, List.set_cons_succ]
        refine wpAnyH_takeL (i := 11) (d := some 46) (v := undef) rfl rfl (by kernel_rfl) (by kernel_rfl) (by kernel_rfl) (fun _ _ _ h => h) (Or.inr ⟨by kernel_rfl, rfl⟩) hHeld ?_
        try simp only [Act.put, List.setIfInBounds_toArray, List.set_cons_zero, List.set_cons_succ]
        refine wpAnyH_takeL (i := 12) (d := some 47) (v := undef) rfl rfl (by kernel_rfl) (by kernel_rfl) (by kernel_rfl) (fun _ _ _ h => h) (Or.inr ⟨by kernel_rfl, rfl⟩) hHeld ?_
        try simp only [Act.put, List.setIfInBounds_toArray, List.set_cons_zero, List.set_cons_succ]
        refine wpAnyH_takeL (i := 13) (d := some 48) (v := .bool false) rfl rfl (by kernel_rfl) (by kernel_rfl) (by kernel_rfl) (fun _ _ _ h => h) (Or.inl ⟨by rfl, ?_⟩) hHeld ?_
        · intro w hSw; (try dsimp only at hSw); go_simp
        try simp only [Act.put, List.setIfInBounds_toArray, List.set_cons_zero, List.set_cons_succ]
        refine wpAnyH_takeL (i := 14) (d := some 6) (v := .int .i64 (lo : Int)) rfl rfl (by kernel_rfl) (by kernel_rfl) (by kernel_rfl) (fun _ _ _ h => h) (Or.inl ⟨by rfl, ?_⟩) hHeld ?_
        · intro w hSw; (try dsimp only at hSw); go_simp
        try simp only [Act.put, List.setIfInBounds_toArray, List.set_cons_zero, List.set_cons_succ]
        refine wpAnyH_takeL (i := 15) (d := some 7) (v := .bool false) rfl rfl (by kernel_rfl) (by kernel_rfl) (by kernel_rfl) (fun _ _ _ h => h) (Or.inl ⟨by rfl, ?_⟩) hHeld ?_
        · intro w hSw; (try dsimp only at hSw); go_simp
        try simp only [Act.put, List.setIfInBounds_toArray, List.set_cons_zero, List.set_cons_succ]
        refine wpAnyH_done (by kernel_rfl) ?_ _
        go_wp2_with fail
        exact bodyPost_ret (v := .tuple #[.int .i64 (lo : Int), .bool false]) (by simp [results, Try.results64, go_sem]) rfl ⟨lo, _, rfl, HA.out, HB.out, l103⟩
end Go.Proofs.Ytfdboahcaiolgaa
