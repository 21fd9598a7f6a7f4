/-
  AgentAny. Conditions: the ballots can be read, their numbers are of their type.
-/
import Derived.Test.YtfdboahcaiolgaaAgT
import Derived.Test.YtfdboahcaiolgaaAgX
import Derived.Test.YtfdboahcaiolgaaAgY
set_option linter.unusedVariables false
set_option linter.unusedSimpArgs false
namespace Go.Proofs.Ytfdboahcaiolgaa
open Go.RowKit
open Dk (Nt InN RightN BoundN MsgN NoMsg KindN EpN bound_n)


theorem vote_none {M : List (Int × Int)} {t : Int} (h : getL M t = none) : hasL M t = false := by rw [has_get, h]; rfl
theorem vote_some {M : List (Int × Int)} {t v : Int} (h : getL M t = some v) : hasL M t = true := by rw [has_get, h]; rfl
theorem foldS_next {s : Sd} {L : List Bl} {k : Nat} {x : Bl} (h : L[k]? = some x) : foldS s (L.take (k + 1)) = sSh (foldS s (L.take k)) x := by rw [take_snoc h, foldS_snoc]
theorem VotI.next {L : List Bl} {k : Nat} {x : Bl} {M : List (Int × Int)} (h : VotI (L.take k) M) (hx : L[k]? = some x) (hv : ∀ v, getL M x.tx = some v → v = x.vt) (hl : M.length ≤ 49) : VotI (L.take (k + 1)) (putM M x.tx x.vt) := by rw [take_snoc hx]; exact h.snoc hv hl
theorem any_end {L : List Bl} {n a : Nat} {M : List (Int × Int)} {x y : Sd} (h : VotI (L.take n) M) (hl : L.length = n) (hx : x = foldS (sN 1) (L.take n)) (hy : y = foldS (sN 1) ((rotB L a).take n)) : x = y := by
  rw [List.take_of_length_le (by omega)] at h hx
  rw [List.take_of_length_le (by rw [rotB_len]; omega)] at hy
  rw [hx, hy]
  exact any_eq h (rotB_mem L a) (by decide)
set_option maxRecDepth 100000 in
set_option maxHeartbeats 4000000 in
theorem any_walk (A : Option Addr) (n q : Nat) (L : List Bl) (at_ : Nat) (w : World) (h : RR w dcl 2 A n q L) (hwf : ∀ b ∈ L, (Lit.int .i64 b.tx).wf = true ∧ (Lit.int .i64 b.vt).wf = true) (hat : at_ < 256) : Calls Try.prog 7 #[.slice A n q, .int .u8 (at_ : Int)] w fun r w' => r = .returned (.bool true) ∧ Below w.heap.size w w' := by
  have hlen := Lib.hid h.len
  have hx := RL.start h
  have hmx := hx.max
  clear h
  by_cases hn : n ≤ 600
  rotate_left
  · skip
    have q1 : decide ((600 : Int) < (n : Int)) = true := by simp; omega
    have q1' : decide ((n : Int) > 600) = true := by simp; omega
    go_enter Try.func7, Try.ntmps7
    go_wp2_with fail
    (with_reducible refine (alive_c _).mono ?_)
    rintro e w1 ⟨rfl, b1⟩
    have r3_l := (hx).on b1
    have l3 := le_tr (Below.refl _ _) b1
    clear hx
    clear b1
    go_wp2_with fail
    go_ret
    exact ⟨rfl, l3⟩
  have q1 : decide ((600 : Int) < (n : Int)) = false := by simp; omega
  have q1' : decide ((n : Int) > 600) = false := by simp; omega
  go_enter Try.func7, Try.ntmps7
  go_wp2_with fail
  (with_reducible refine (alive_c _).mono ?_)
  rintro e w1 ⟨rfl, b1⟩
  have r3_l := (hx).on b1
  have l3 := le_tr (Below.refl _ _) b1
  clear hx
  clear b1
  have hmk := run_mkI w1
  obtain ⟨V5, hV5⟩ : ∃ V, w1.alloc (.map #[] 0) = V := ⟨_, rfl⟩
  obtain ⟨mb, hmb⟩ : ∃ m, w1.heap.size = m := ⟨_, rfl⟩
  have hm0 : MI V5 mb [] := by rw [← hV5, ← hmb]; exact MI.made _
  have bl5 : Below w1.heap.size w1 V5 := by rw [← hV5]; exact le_al _ _
  have upm : w.heap.size ≤ mb := by rw [← hmb]; exact (l3).size
  rw [hmb, hV5] at hmk
  clear hmb hV5
  go_wp2_with fail
  clear hmk
  have r5_l := (r3_l).on bl5
  have l5 := le_tr l3 bl5
  clear r3_l l3
  clear bl5
  go_loopw [22] (fun iv wr => ∃ (k : Nat) (M : List (Int × Int)), k ≤ n ∧ iv = .int .i64 k ∧ RL w wr dcl 2 A n q L ∧ MI wr mb M ∧ Hid (VotI (L.take k) M) ∧ Below w.heap.size w wr) (fun iv _ => n - (intOf iv).toNat)
  case atStart => exact ⟨0, [], by omega, rfl, r5_l, hm0, Lib.hid VotI.nil, l5⟩
  case round =>
    clear r5_l hm0 l5
    obtain ⟨k, M, hk, rfl, hx, hm, HV, hw⟩ := hrel
    by_cases hlt : k < n
    · skip
      obtain ⟨g, off, x, hxk, hA, _⟩ := hx.rr.elem hlt
      subst hA
      have l1 : (k : Int) < (n : Int) := by omega
      obtain ⟨wt, wv⟩ := hwf x (List.mem_of_getElem? hxk)
      have HX := Lib.hid hxk
      have hr2 : wr.rangeAt g (off + k * 2) (btA x).toList := RR.elemAt hx.rr hxk rfl
      clear hxk
      go_wp2_with (first | ((with_reducible refine st_elem 42 _ g (off + k * 2) (btA x) ?_ hr2 Try.underlying42 ?_ ?_ ?_); exact rfl; exact rfl; exact Try.zBr) | ((with_reducible refine st_alloc 42 (btA zB) ?_ ?_); exact zero_br))
      refine ⟨fun V101 g101 n101 f101 => ?_⟩
      have up101 : w.heap.size ≤ g101 := f101.up hw
      have bl101 := f101.bel
      clear f101
      have r103_l := (hx).on bl101
      have r103_m := (hm).on bl101
      have l103 := le_tr hw bl101
      clear hx hm hw
      clear bl101
      go_wp2_with (first | ((with_reducible refine st_store 42 _ _ g101 (btA x) ?_ ?_ n101 ?_ ?_ ?_ ?_); exact rfl; exact rfl; exact Try.zBr; exact rfl; exact btA_one _))
      refine ⟨fun V104 n104 k104 => ?_⟩
      have m104_l := (r103_l).wr k104 up101
      have m104_m := (r103_m).wr k104 n101
      have o104 := k104.bel _ _ l103 up101
      clear k104
      clear n101 r103_l r103_m l103
      clear hr2
      cases hg : getL M x.tx with
      | none =>
        have hlk := MI.look m104_m wt
        have hll : ∀ ty, (Builtin.len_ #[62] ty #[.map (some mb)]).run Try.prog V104 = .ok (.int .i64 M.length) V104 := fun ty => MI.len m104_m ty
        rw [hg, vote_none hg] at hlk
        simp only [Option.getD_some, Option.getD_none] at hlk
        have c105 : V104.cell? ⟨g101, 0, none⟩ = some (.int .i64 (x.tx)) := CB.cell n104 0
        have c106 : V104.cell? ⟨g101, 1, none⟩ = some (.int .i64 (x.vt)) := CB.cell n104 1
        by_cases h49 : M.length ≤ 49
        · skip
          have q3 : decide ((49 : Int) < (M.length : Int)) = false := by simp; omega
          have q3' : decide ((M.length : Int) > 49) = false := by simp; omega
          have HN := Lib.hid (VotI.next HV.out HX.out (fun v e => by rw [hg] at e; cases e) h49)
          obtain ⟨V7, hs7, hm7, k7⟩ := MI.store m104_m (by simp only [maxLen]; omega) wt wv
          have mm107_b := k7.on n104 (MI.ne m104_m n104)
          have mm107_l := (m104_l).wr k7 upm
          have lm107 := k7.bel _ _ o104 upm
          clear k7
          go_wp2_with fail
          go_roundw
          case rel => exact ⟨k + 1, _, by omega, by go_num, mm107_l, hm7, HN, lm107⟩
          case measure => simp [intOf]; omega
        have q3 : decide ((49 : Int) < (M.length : Int)) = true := by simp; omega
        have q3' : decide ((M.length : Int) > 49) = true := by simp; omega
        go_wp2_with fail
        go_ret
        exact ⟨rfl, o104⟩
      | some v2 =>
        have hlk := MI.look m104_m wt
        have hll : ∀ ty, (Builtin.len_ #[62] ty #[.map (some mb)]).run Try.prog V104 = .ok (.int .i64 M.length) V104 := fun ty => MI.len m104_m ty
        rw [hg, vote_some hg] at hlk
        simp only [Option.getD_some, Option.getD_none] at hlk
        have c105 : V104.cell? ⟨g101, 0, none⟩ = some (.int .i64 (x.tx)) := CB.cell n104 0
        have c106 : V104.cell? ⟨g101, 1, none⟩ = some (.int .i64 (x.vt)) := CB.cell n104 1
        by_cases hq : v2 = x.vt
        rotate_left
        · skip
          have q4 : (v2 != x.vt) = true := by simp [hq]
          clear hq
          go_wp2_with fail
          go_ret
          exact ⟨rfl, o104⟩
        have q4 : (v2 != x.vt) = false := by simp [hq]
        by_cases h49 : M.length ≤ 49
        · skip
          have q3 : decide ((49 : Int) < (M.length : Int)) = false := by simp; omega
          have q3' : decide ((M.length : Int) > 49) = false := by simp; omega
          have HN := Lib.hid (VotI.next HV.out HX.out (fun v e => by rw [hg] at e; cases e; exact hq) h49)
          obtain ⟨V7, hs7, hm7, k7⟩ := MI.store m104_m (by simp only [maxLen]; omega) wt wv
          have mm107_b := k7.on n104 (MI.ne m104_m n104)
          have mm107_l := (m104_l).wr k7 upm
          have lm107 := k7.bel _ _ o104 upm
          clear k7
          go_wp2_with fail
          go_roundw
          case rel => exact ⟨k + 1, _, by omega, by go_num, mm107_l, hm7, HN, lm107⟩
          case measure => simp [intOf]; omega
        have q3 : decide ((49 : Int) < (M.length : Int)) = true := by simp; omega
        have q3' : decide ((M.length : Int) > 49) = true := by simp; omega
        go_wp2_with fail
        go_ret
        exact ⟨rfl, o104⟩
    · skip
      obtain rfl : k = n := by omega
      have gz0 : ¬ ((k : Int) < (k : Int)) := by omega
      clear hlt hm
      go_wp2_with (first | ((with_reducible refine st_builtk2 43 (v0 := .int .i64 1) (v1 := .int .i64 1) ?_ ?_ (built_l2 1 1) ?_); exact rfl; exact rfl) | ((with_reducible refine st_builtk2 45 (v0 := .int .u8 1) (v1 := .agg (lsA ⟨1, 1, 0⟩)) ?_ ?_ (built_s2 1 ⟨1, 1, 0⟩) ?_); exact rfl; exact rfl) | ((with_reducible refine st_alloc 45 (siA zS) ?_ ?_); exact zero_sc))
      refine ⟨fun V101 g101 n101 f101 => ?_⟩
      have up101 : w.heap.size ≤ g101 := f101.up hw
      have bl101 := f101.bel
      clear f101
      have r103_l := (hx).on bl101
      have l103 := le_tr hw bl101
      clear hx hw
      clear bl101
      go_wp2_with (first | ((with_reducible refine st_store 45 _ _ g101 (siA (sN 1)) ?_ ?_ n101 ?_ ?_ ?_ ?_); exact rfl; exact rfl; exact Try.zSc; exact rfl; exact siA_one _))
      refine ⟨fun V104 n104 k104 => ?_⟩
      have m104_l := (r103_l).wr k104 up101
      have o104 := k104.bel _ _ l103 up101
      clear k104
      clear n101 r103_l l103
      go_wp2_with fail
      have y105 := Lib.hid (show (fun V : World => CB V g101 45 (siA (sN 1))) V104.drew from CB.drew n104)
      refine wp_region_held_drew (S := (fun V : World => CB V g101 45 (siA (sN 1)))) (by kernel_rfl) y105.out (fun hHeld => ?_)
      obtain ⟨D105, hD105⟩ : ∃ V, V104.drew = V := ⟨_, rfl⟩
      have b105 : Below V104.heap.size V104 D105 := by rw [← hD105]; exact le_dr (Below.refl _ _)
      rw [hD105] at hHeld ⊢
      clear hD105
      have r107_s := le_on n104 b105
      have r107_l := (m104_l).on b105
      have l107 := le_tr o104 b105
      clear n104 m104_l o104
      clear b105
      refine wpAnyH_takeL (i := 0) (d := some 53) (v := .agg (siA (sN 1))) rfl rfl (by kernel_rfl) (by kernel_rfl) (by kernel_rfl) (fun _ _ _ h => h) (Or.inl ⟨by rfl, ?_⟩) hHeld ?_
      · intro w hSw; exact yl_whole 45 _ g101 rfl hSw Try.underlying45 rfl Try.zSc
      try simp only [Act.put, List.setIfInBounds_toArray, List.set_cons_zero, List.set_cons_succ]
      refine wpAnyH_takeL (i := 1) (d := some 54) (v := .agg (siA (sN 1))) rfl rfl (by kernel_rfl) (by kernel_rfl) (by kernel_rfl) (fun _ _ _ h => h) (Or.inl ⟨by rfl, ?_⟩) hHeld ?_
      · intro w hSw; exact yl_whole 45 _ g101 rfl hSw Try.underlying45 rfl Try.zSc
      try simp only [Act.put, List.setIfInBounds_toArray, List.set_cons_zero, List.set_cons_succ]
      refine wpAnyH_ready (rs := [2, 3]) (by kernel_rfl) (by simp) ?_
      refine AllReadyH.cons rfl (fun K hK => ?_) (AllReadyH.cons rfl (fun K hK => ?_) AllReadyH.nil)
      · skip
        refine rd_alloc rfl 45 rfl (some 11) rfl (siA zS) zero_sc ?_
        refine ⟨fun V108 g108 n108 f108 => ?_⟩
        have ne108_s := f108.ne r107_s
        have up108 : w.heap.size ≤ g108 := f108.up l107
        have bl108 := f108.bel
        clear f108
        have r110_s := le_on r107_s bl108
        have r110_l := (r107_l).on bl108
        have l110 := le_tr l107 bl108
        clear r107_s r107_l l107
        clear bl108
        have y111 := Lib.hid (show (fun V : World => CB V g101 45 (siA (sN 1))) V108 from r110_s)
        refine hK.out _ _ y111.out (fun hHeld => ?_)
        clear hK K y111
        try simp only [Act.put, List.setIfInBounds_toArray, List.set_cons_zero, List.set_cons_succ]
        refine wpAnyH_ready (rs := [3]) (by kernel_rfl) (by simp) ?_
        refine AllReadyH.cons rfl (fun K hK => ?_) AllReadyH.nil
        refine rd_alloc rfl 45 rfl (some 12) rfl (siA zS) zero_sc ?_
        refine ⟨fun V112 g112 n112 f112 => ?_⟩
        have ne112_s := f112.ne r110_s
        have ne112_a := f112.ne n108
        have up112 : w.heap.size ≤ g112 := f112.up l110
        have bl112 := f112.bel
        clear f112
        have r114_s := le_on r110_s bl112
        have r114_a := le_on n108 bl112
        have r114_l := (r110_l).on bl112
        have l114 := le_tr l110 bl112
        clear r110_s n108 r110_l l110
        clear bl112
        have y115 := Lib.hid (show (fun V : World => CB V g101 45 (siA (sN 1))) V112 from r114_s)
        refine hK.out _ _ y115.out (fun hHeld => ?_)
        clear hK K y115
        try simp only [Act.put, List.setIfInBounds_toArray, List.set_cons_zero, List.set_cons_succ]
        refine wpAnyH_ready (rs := [4]) (by kernel_rfl) (by simp) ?_
        refine AllReadyH.cons rfl (fun K hK => ?_) AllReadyH.nil
        refine rd_store rfl 45 _ _ rfl none rfl g108 (siA (sN 1)) rfl rfl r114_a Try.zSc rfl (siA_one _) ?_
        refine ⟨fun V116 n116 k116 => ?_⟩
        have m116_s := k116.on r114_s ne108_s
        have m116_c := k116.on n112 (Ne.symm ne112_a)
        have m116_l := (r114_l).wr k116 up108
        have o116 := k116.bel _ _ l114 up108
        clear k116
        clear r114_a r114_s n112 r114_l l114
        have y117 := Lib.hid (show (fun V : World => CB V g101 45 (siA (sN 1))) V116 from m116_s)
        refine hK.out _ _ y117.out (fun hHeld => ?_)
        clear hK K y117
        try simp only [Act.put, List.setIfInBounds_toArray, List.set_cons_zero, List.set_cons_succ]
        refine wpAnyH_ready (rs := [5]) (by kernel_rfl) (by simp) ?_
        refine AllReadyH.cons rfl (fun K hK => ?_) AllReadyH.nil
        refine rd_store rfl 45 _ _ rfl none rfl g112 (siA (sN 1)) rfl rfl m116_c Try.zSc rfl (siA_one _) ?_
        refine ⟨fun V118 n118 k118 => ?_⟩
        have m118_s := k118.on m116_s ne112_s
        have m118_a := k118.on n116 ne112_a
        have m118_l := (m116_l).wr k118 up112
        have o118 := k118.bel _ _ o116 up112
        clear k118
        clear m116_c m116_s n116 m116_l o116
        have y119 := Lib.hid (show (fun V : World => CB V g101 45 (siA (sN 1))) V118 from m118_s)
        refine hK.out _ _ y119.out (fun hHeld => ?_)
        clear hK K y119
        try simp only [Act.put, List.setIfInBounds_toArray, List.set_cons_zero, List.set_cons_succ]
        refine wpAnyH_done (by kernel_rfl) ?_ _
        go_wp2_with fail
        go_loopw [57] (fun iv wr => ∃ (j : Nat) (x y : Sd), j ≤ k ∧ iv = .int .i64 j ∧ RL w wr dcl 2 A k q L ∧ CB wr g108 45 (siA x) ∧ CB wr g112 45 (siA y) ∧ Hid (x = foldS (sN 1) (L.take j)) ∧ Hid (y = foldS (sN 1) ((rotB L at_).take j)) ∧ Below w.heap.size w wr) (fun iv _ => k - (intOf iv).toNat)
        case atStart => exact ⟨0, _, _, by omega, rfl, m118_l, m118_a, n118, Lib.hid rfl, Lib.hid rfl, o118⟩
        case round =>
          clear m118_l m118_a n118 m118_s o118
          obtain ⟨j, x, y, hj, rfl, hx, ha, hc, HA, HC, hw⟩ := hrel
          by_cases hlt : j < k
          · skip
            obtain ⟨g, off, e, hek, hA, _⟩ := hx.rr.elem hlt
            subst hA
            obtain ⟨ja, hja⟩ : ∃ ja, j + at_ = ja := ⟨_, rfl⟩
            obtain ⟨r, hr⟩ : ∃ r, ja % k = r := ⟨_, rfl⟩
            have hrk : r < k := by rw [← hr]; exact Nat.mod_lt _ (by omega)
            obtain ⟨d, hdr⟩ : ∃ d, L[r]? = some d := ⟨_, List.getElem?_eq_getElem (by rw [hlen.out]; exact hrk)⟩
            have HE := Lib.hid hek
            have HD := Lib.hid hdr
            have HA2 := Lib.hid ((foldS_next (s := sN 1) hek).trans (congrArg (fun z => sSh z e) HA.out.symm))
            have HC2 := Lib.hid ((foldS_next (s := sN 1) (show (rotB L at_)[j]? = some d by rw [rotB_at hlen.out hlt, hja, hr]; exact hdr)).trans (congrArg (fun z => sSh z d) HC.out.symm))
            have l1 : (j : Int) < (k : Int) := by omega
            have l2 : (r : Int) < (k : Int) := by omega
            have wa : IntKind.i64.wrap (at_ : Int) = (at_ : Int) := IntWalk.i64_in _ (by omega)
            have w1 : IntKind.i64.wrap ((j : Int) + (at_ : Int)) = (ja : Int) := by rw [show (j : Int) + (at_ : Int) = (ja : Int) by omega]; exact IntWalk.i64_in _ (by omega)
            have w2 : (j : Int) + (at_ : Int) = (ja : Int) := by omega
            have W2 := Lib.hid w2
            have tm : Int.tmod (ja : Int) (k : Int) = (r : Int) := by rw [tmod_nat, hr]
            have wj : IntKind.i64.wrap (ja : Int) = (ja : Int) := IntWalk.i64_in _ (by omega)
            have n3 : ¬ k = 0 := by omega
            have wp : IntKind.i64.wrap (r : Int) = (r : Int) := IntWalk.i64_in _ (by omega)
            have n1 : ¬ (k : Int) = 0 := by omega
            have n2 : ((k : Int) == 0) = false := by simp; omega
            obtain ⟨x2, hx2⟩ : ∃ z, sSh x e = z := ⟨_, rfl⟩
            obtain ⟨ex, hex⟩ : ∃ z, eSh x e = z := ⟨_, rfl⟩
            obtain ⟨y2, hy2⟩ : ∃ z, sSh y d = z := ⟨_, rfl⟩
            obtain ⟨ey, hey⟩ : ∃ z, eSh y d = z := ⟨_, rfl⟩
            have CA : ∀ V : World, Calls Try.prog 16 #[.agg (siA x), .agg (btA e)] V (fun e w' => e = .returned (.tuple #[.agg (siA x2), .int .i64 (ex : Int)]) ∧ Below V.heap.size V w') := fun V => by have h := ship_c x e V; rw [hex, hx2] at h; exact h
            have CC : ∀ V : World, Calls Try.prog 16 #[.agg (siA y), .agg (btA d)] V (fun e w' => e = .returned (.tuple #[.agg (siA y2), .int .i64 (ey : Int)]) ∧ Below V.heap.size V w') := fun V => by have h := ship_c y d V; rw [hey, hy2] at h; exact h
            rw [hx2] at HA2
            rw [hy2] at HC2
            clear hx2 hex hy2 hey hek hdr hja hr HA HC w2
            go_wp2_with fail
            have y401 := Lib.hid (show (fun V : World => RL w V dcl 2 (some ⟨g, off, none⟩) k q L) wr.drew from (hx).drew)
            refine wp_region_held_drew (S := (fun V : World => RL w V dcl 2 (some ⟨g, off, none⟩) k q L)) (by kernel_rfl) y401.out (fun hHeld => ?_)
            obtain ⟨D401, hD401⟩ : ∃ V, wr.drew = V := ⟨_, rfl⟩
            have b401 : Below wr.heap.size wr D401 := by rw [← hD401]; exact le_dr (Below.refl _ _)
            rw [hD401] at hHeld ⊢
            clear hD401
            have r403_a := le_on ha b401
            have r403_c := le_on hc b401
            have r403_l := (hx).on b401
            have l403 := le_tr hw b401
            clear ha hc hx hw
            clear b401
            refine wpAnyH_takeL (i := 1) (d := some 62) (v := .slice (some ⟨g, off, none⟩) k q) rfl rfl (by kernel_rfl) (by kernel_rfl) (by kernel_rfl) (fun _ _ _ h => h) (Or.inl ⟨by rfl, ?_⟩) hHeld ?_
            · intro w hSw; (try dsimp only at hSw); go_simp
            try simp only [Act.put, List.setIfInBounds_toArray, List.set_cons_zero, List.set_cons_succ]
            refine wpAnyH_takeL (i := 2) (d := some 63) (v := .int .i64 (j : Int)) rfl rfl (by kernel_rfl) (by kernel_rfl) (by kernel_rfl) (fun _ _ _ h => h) (Or.inl ⟨by rfl, ?_⟩) hHeld ?_
            · intro w hSw; (try dsimp only at hSw); go_simp
            try simp only [Act.put, List.setIfInBounds_toArray, List.set_cons_zero, List.set_cons_succ]
            refine wpAnyH_takeL (i := 3) (d := some 64) (v := .pointer (some ⟨g, off + j * 2, none⟩)) rfl rfl (by kernel_rfl) (by kernel_rfl) (by kernel_rfl) (fun _ _ _ h => h) (Or.inl ⟨by rfl, ?_⟩) hHeld ?_
            · intro w hSw; (try dsimp only at hSw); go_simp
            try simp only [Act.put, List.setIfInBounds_toArray, List.set_cons_zero, List.set_cons_succ]
            refine wpAnyH_takeL (i := 4) (d := some 65) (v := .agg (btA e)) rfl rfl (by kernel_rfl) (by kernel_rfl) (by kernel_rfl) (fun _ _ _ h => h) (Or.inl ⟨by rfl, ?_⟩) hHeld ?_
            · intro w hSw; exact yl_elem 42 _ g (off + j * 2) (btA e) rfl (RR.elemAt hSw.rr HE.out rfl) Try.underlying42 rfl Try.zBr
            try simp only [Act.put, List.setIfInBounds_toArray, List.set_cons_zero, List.set_cons_succ]
            refine wpAnyH_ready (rs := [0]) (by kernel_rfl) (by simp) ?_
            refine AllReadyH.cons rfl (fun K hK => ?_) AllReadyH.nil
            refine rd_load rfl 45 _ rfl (some 61) rfl (.agg (siA x)) g108 (0) rfl (ld_part 45 g108 0 r403_a (by simp) Try.underlying45 rfl Try.zSc) ?_
            refine ⟨?_⟩
            have y404 := Lib.hid (show (fun V : World => RL w V dcl 2 (some ⟨g, off, none⟩) k q L) D401 from r403_l)
            refine hK.out _ _ y404.out (fun hHeld => ?_)
            clear hK K y404
            try simp only [Act.put, List.setIfInBounds_toArray, List.set_cons_zero, List.set_cons_succ]
            refine wpAnyH_ready (rs := [5]) (by kernel_rfl) (by simp) ?_
            refine AllReadyH.cons rfl (fun K hK => ?_) AllReadyH.nil
            go_simp
            (with_reducible refine (CA _).mono ?_)
            rintro e u405 ⟨rfl, b405⟩
            have r407_a := le_on r403_a b405
            have r407_c := le_on r403_c b405
            have r407_l := (r403_l).on b405
            have l407 := le_tr l403 b405
            clear r403_a r403_c r403_l l403
            clear b405
            go_wp2_with fail
            have y408 := Lib.hid (show (fun V : World => RL w V dcl 2 (some ⟨g, off, none⟩) k q L) u405 from r407_l)
            refine hK.out _ _ y408.out (fun hHeld => ?_)
            clear hK K y408
            try simp only [Act.put, List.setIfInBounds_toArray, List.set_cons_zero, List.set_cons_succ]
            refine wpAnyH_takeL (i := 6) (d := some 60) (v := .tuple #[.agg (siA x2), .int .i64 (ex : Int)]) rfl rfl (by kernel_rfl) (by kernel_rfl) (by kernel_rfl) (fun _ _ _ h => h) (Or.inl ⟨by rfl, ?_⟩) hHeld ?_
            · intro w hSw; (try dsimp only at hSw); go_simp
            try simp only [Act.put, List.setIfInBounds_toArray, List.set_cons_zero, List.set_cons_succ]
            refine wpAnyH_takeL (i := 7) (d := some 67) (v := .agg (siA x2)) rfl rfl (by kernel_rfl) (by kernel_rfl) (by kernel_rfl) (fun _ _ _ h => h) (Or.inl ⟨by rfl, ?_⟩) hHeld ?_
            · intro w hSw; (try dsimp only at hSw); go_simp
            try simp only [Act.put, List.setIfInBounds_toArray, List.set_cons_zero, List.set_cons_succ]
            refine wpAnyH_takeL (i := 8) (d := some 68) (v := .int .i64 (ex : Int)) rfl rfl (by kernel_rfl) (by kernel_rfl) (by kernel_rfl) (fun _ _ _ h => h) (Or.inl ⟨by rfl, ?_⟩) hHeld ?_
            · intro w hSw; (try dsimp only at hSw); go_simp
            try simp only [Act.put, List.setIfInBounds_toArray, List.set_cons_zero, List.set_cons_succ]
            refine wpAnyH_ready (rs := [9]) (by kernel_rfl) (by simp) ?_
            refine AllReadyH.cons rfl (fun K hK => ?_) AllReadyH.nil
            refine rd_store rfl 45 _ _ rfl none rfl g108 (siA x2) rfl rfl r407_a Try.zSc rfl (siA_one _) ?_
            refine ⟨fun V409 n409 k409 => ?_⟩
            have m409_c := k409.on r407_c (Ne.symm ne112_a)
            have m409_l := (r407_l).wr k409 up108
            have o409 := k409.bel _ _ l407 up108
            clear k409
            clear r407_a r407_c r407_l l407
            have y410 := Lib.hid (show (fun V : World => RL w V dcl 2 (some ⟨g, off, none⟩) k q L) V409 from m409_l)
            refine hK.out _ _ y410.out (fun hHeld => ?_)
            clear hK K y410
            try simp only [Act.put, List.setIfInBounds_toArray, List.set_cons_zero, List.set_cons_succ]
            refine wpAnyH_done (by kernel_rfl) ?_ _
            go_wp2_with fail
            have y411 := Lib.hid (show (fun V : World => RL w V dcl 2 (some ⟨g, off, none⟩) k q L) V409.drew from (m409_l).drew)
            refine wp_region_held_drew (S := (fun V : World => RL w V dcl 2 (some ⟨g, off, none⟩) k q L)) (by kernel_rfl) y411.out (fun hHeld => ?_)
            obtain ⟨D411, hD411⟩ : ∃ V, V409.drew = V := ⟨_, rfl⟩
            have b411 : Below V409.heap.size V409 D411 := by rw [← hD411]; exact le_dr (Below.refl _ _)
            rw [hD411] at hHeld ⊢
            clear hD411
            have r413_a := le_on n409 b411
            have r413_c := le_on m409_c b411
            have r413_l := (m409_l).on b411
            have l413 := le_tr o409 b411
            clear n409 m409_c m409_l o409
            clear b411
            refine wpAnyH_takeL (i := 1) (d := some 71) (v := .slice (some ⟨g, off, none⟩) k q) rfl rfl (by kernel_rfl) (by kernel_rfl) (by kernel_rfl) (fun _ _ _ h => h) (Or.inl ⟨by rfl, ?_⟩) hHeld ?_
            · intro w hSw; (try dsimp only at hSw); go_simp
            try simp only [Act.put, List.setIfInBounds_toArray, List.set_cons_zero, List.set_cons_succ]
            refine wpAnyH_takeL (i := 2) (d := some 72) (v := .int .i64 (j : Int)) rfl rfl (by kernel_rfl) (by kernel_rfl) (by kernel_rfl) (fun _ _ _ h => h) (Or.inl ⟨by rfl, ?_⟩) hHeld ?_
            · intro w hSw; (try dsimp only at hSw); go_simp
            try simp only [Act.put, List.setIfInBounds_toArray, List.set_cons_zero, List.set_cons_succ]
            refine wpAnyH_takeL (i := 3) (d := some 73) (v := .int .u8 (at_ : Int)) rfl rfl (by kernel_rfl) (by kernel_rfl) (by kernel_rfl) (fun _ _ _ h => h) (Or.inl ⟨by rfl, ?_⟩) hHeld ?_
            · intro w hSw; (try dsimp only at hSw); go_simp
            try simp only [Act.put, List.setIfInBounds_toArray, List.set_cons_zero, List.set_cons_succ]
            refine wpAnyH_takeL (i := 4) (d := some 74) (v := .int .i64 (at_ : Int)) rfl rfl (by kernel_rfl) (by kernel_rfl) (by kernel_rfl) (fun _ _ _ h => h) (Or.inl ⟨by rfl, ?_⟩) hHeld ?_
            · intro w hSw; (try dsimp only at hSw); go_simp
            try simp only [Act.put, List.setIfInBounds_toArray, List.set_cons_zero, List.set_cons_succ]
            refine wpAnyH_takeL (i := 5) (d := some 75) (v := .int .i64 (ja : Int)) rfl rfl (by kernel_rfl) (by kernel_rfl) (by kernel_rfl) (fun _ _ _ h => h) (Or.inl ⟨by rfl, ?_⟩) hHeld ?_
            · intro w hSw; have w2 := W2.out; go_simp
            try simp only [Act.put, List.setIfInBounds_toArray, List.set_cons_zero, List.set_cons_succ]
            refine wpAnyH_takeL (i := 6) (d := some 76) (v := .slice (some ⟨g, off, none⟩) k q) rfl rfl (by kernel_rfl) (by kernel_rfl) (by kernel_rfl) (fun _ _ _ h => h) (Or.inl ⟨by rfl, ?_⟩) hHeld ?_
            · intro w hSw; (try dsimp only at hSw); go_simp
            try simp only [Act.put, List.setIfInBounds_toArray, List.set_cons_zero, List.set_cons_succ]
            refine wpAnyH_takeL (i := 7) (d := some 77) (v := .int .i64 (k : Int)) rfl rfl (by kernel_rfl) (by kernel_rfl) (by kernel_rfl) (fun _ _ _ h => h) (Or.inl ⟨by rfl, ?_⟩) hHeld ?_
            · intro w hSw; (try dsimp only at hSw); go_simp
            try simp only [Act.put, List.setIfInBounds_toArray, List.set_cons_zero, List.set_cons_succ]
            refine wpAnyH_takeL (i := 8) (d := some 78) (v := .int .i64 (r : Int)) rfl rfl (by kernel_rfl) (by kernel_rfl) (by kernel_rfl) (fun _ _ _ h => h) (Or.inl ⟨by rfl, ?_⟩) hHeld ?_
            · intro w hSw; (try dsimp only at hSw); go_simp
            try simp only [Act.put, List.setIfInBounds_toArray, List.set_cons_zero, List.set_cons_succ]
            refine wpAnyH_takeL (i := 9) (d := some 79) (v := .pointer (some ⟨g, off + r * 2, none⟩)) rfl rfl (by kernel_rfl) (by kernel_rfl) (by kernel_rfl) (fun _ _ _ h => h) (Or.inl ⟨by rfl, ?_⟩) hHeld ?_
            · intro w hSw; (try dsimp only at hSw); go_simp
            try simp only [Act.put, List.setIfInBounds_toArray, List.set_cons_zero, List.set_cons_succ]
            refine wpAnyH_takeL (i := 10) (d := some 80) (v := .agg (btA d)) rfl rfl (by kernel_rfl) (by kernel_rfl) (by kernel_rfl) (fun _ _ _ h => h) (Or.inl ⟨by rfl, ?_⟩) hHeld ?_
            · intro w hSw; exact yl_elem 42 _ g (off + r * 2) (btA d) rfl (RR.elemAt hSw.rr HD.out rfl) Try.underlying42 rfl Try.zBr
            try simp only [Act.put, List.setIfInBounds_toArray, List.set_cons_zero, List.set_cons_succ]
            refine wpAnyH_ready (rs := [0]) (by kernel_rfl) (by simp) ?_
            refine AllReadyH.cons rfl (fun K hK => ?_) AllReadyH.nil
            refine rd_load rfl 45 _ rfl (some 70) rfl (.agg (siA y)) g112 (0) rfl (ld_part 45 g112 0 r413_c (by simp) Try.underlying45 rfl Try.zSc) ?_
            refine ⟨?_⟩
            have y414 := Lib.hid (show (fun V : World => RL w V dcl 2 (some ⟨g, off, none⟩) k q L) D411 from r413_l)
            refine hK.out _ _ y414.out (fun hHeld => ?_)
            clear hK K y414
            try simp only [Act.put, List.setIfInBounds_toArray, List.set_cons_zero, List.set_cons_succ]
            refine wpAnyH_ready (rs := [11]) (by kernel_rfl) (by simp) ?_
            refine AllReadyH.cons rfl (fun K hK => ?_) AllReadyH.nil
            go_simp
            (with_reducible refine (CC _).mono ?_)
            rintro e u415 ⟨rfl, b415⟩
            have r417_a := le_on r413_a b415
            have r417_c := le_on r413_c b415
            have r417_l := (r413_l).on b415
            have l417 := le_tr l413 b415
            clear r413_a r413_c r413_l l413
            clear b415
            go_wp2_with fail
            have y418 := Lib.hid (show (fun V : World => RL w V dcl 2 (some ⟨g, off, none⟩) k q L) u415 from r417_l)
            refine hK.out _ _ y418.out (fun hHeld => ?_)
            clear hK K y418
            try simp only [Act.put, List.setIfInBounds_toArray, List.set_cons_zero, List.set_cons_succ]
            refine wpAnyH_takeL (i := 12) (d := some 69) (v := .tuple #[.agg (siA y2), .int .i64 (ey : Int)]) rfl rfl (by kernel_rfl) (by kernel_rfl) (by kernel_rfl) (fun _ _ _ h => h) (Or.inl ⟨by rfl, ?_⟩) hHeld ?_
            · intro w hSw; (try dsimp only at hSw); go_simp
            try simp only [Act.put, List.setIfInBounds_toArray, List.set_cons_zero, List.set_cons_succ]
            refine wpAnyH_takeL (i := 13) (d := some 82) (v := .agg (siA y2)) rfl rfl (by kernel_rfl) (by kernel_rfl) (by kernel_rfl) (fun _ _ _ h => h) (Or.inl ⟨by rfl, ?_⟩) hHeld ?_
            · intro w hSw; (try dsimp only at hSw); go_simp
            try simp only [Act.put, List.setIfInBounds_toArray, List.set_cons_zero, List.set_cons_succ]
            refine wpAnyH_takeL (i := 14) (d := some 83) (v := .int .i64 (ey : Int)) rfl rfl (by kernel_rfl) (by kernel_rfl) (by kernel_rfl) (fun _ _ _ h => h) (Or.inl ⟨by rfl, ?_⟩) hHeld ?_
            · intro w hSw; (try dsimp only at hSw); go_simp
            try simp only [Act.put, List.setIfInBounds_toArray, List.set_cons_zero, List.set_cons_succ]
            refine wpAnyH_ready (rs := [15]) (by kernel_rfl) (by simp) ?_
            refine AllReadyH.cons rfl (fun K hK => ?_) AllReadyH.nil
            refine rd_store rfl 45 _ _ rfl none rfl g112 (siA y2) rfl rfl r417_c Try.zSc rfl (siA_one _) ?_
            refine ⟨fun V419 n419 k419 => ?_⟩
            have m419_a := k419.on r417_a ne112_a
            have m419_l := (r417_l).wr k419 up112
            have o419 := k419.bel _ _ l417 up112
            clear k419
            clear r417_c r417_a r417_l l417
            have y420 := Lib.hid (show (fun V : World => RL w V dcl 2 (some ⟨g, off, none⟩) k q L) V419 from m419_l)
            refine hK.out _ _ y420.out (fun hHeld => ?_)
            clear hK K y420
            try simp only [Act.put, List.setIfInBounds_toArray, List.set_cons_zero, List.set_cons_succ]
            refine wpAnyH_done (by kernel_rfl) ?_ _
            go_wp2_with fail
            go_roundw
            case rel => exact ⟨j + 1, x2, y2, by omega, by go_num, m419_l, m419_a, n419, Lib.hid HA2.out.symm, Lib.hid HC2.out.symm, o419⟩
            case measure => simp [intOf]; omega
          · skip
            obtain rfl : j = k := by omega
            have gz0 : ¬ ((j : Int) < (j : Int)) := by omega
            obtain rfl : x = y := any_end HV.out hlen.out HA.out HC.out
            have E : ∀ V : World, (Op.equalIn 10000 45 (.agg (siA x)) (.agg (siA x))).run Try.prog V = .ok true V := fun V => by have := eq_sc x x V; rw [eqS_refl] at this; exact this
            clear hlt
            go_wp2_with (first | (first | ((with_reducible refine st_load 45 _ g108 ?_ ha Try.underlying45 ?_ ?_ ?_); exact rfl; exact rfl; exact Try.zSc) | ((with_reducible refine st_loadG 45 _ g108 ?_ ha Try.underlying45 ?_ ?_ ?_ ?_); exact rfl; exact rfl; exact Try.zSc; exact rfl)) | (first | ((with_reducible refine st_load 45 _ g112 ?_ hc Try.underlying45 ?_ ?_ ?_); exact rfl; exact rfl; exact Try.zSc) | ((with_reducible refine st_loadG 45 _ g112 ?_ hc Try.underlying45 ?_ ?_ ?_ ?_); exact rfl; exact rfl; exact Try.zSc; exact rfl)))
            go_ret
            exact ⟨rfl, hw⟩
      · skip
        refine rd_alloc rfl 45 rfl (some 12) rfl (siA zS) zero_sc ?_
        refine ⟨fun V108 g108 n108 f108 => ?_⟩
        have ne108_s := f108.ne r107_s
        have up108 : w.heap.size ≤ g108 := f108.up l107
        have bl108 := f108.bel
        clear f108
        have r110_s := le_on r107_s bl108
        have r110_l := (r107_l).on bl108
        have l110 := le_tr l107 bl108
        clear r107_s r107_l l107
        clear bl108
        have y111 := Lib.hid (show (fun V : World => CB V g101 45 (siA (sN 1))) V108 from r110_s)
        refine hK.out _ _ y111.out (fun hHeld => ?_)
        clear hK K y111
        try simp only [Act.put, List.setIfInBounds_toArray, List.set_cons_zero, List.set_cons_succ]
        refine wpAnyH_ready (rs := [2]) (by kernel_rfl) (by simp) ?_
        refine AllReadyH.cons rfl (fun K hK => ?_) AllReadyH.nil
        refine rd_alloc rfl 45 rfl (some 11) rfl (siA zS) zero_sc ?_
        refine ⟨fun V112 g112 n112 f112 => ?_⟩
        have ne112_s := f112.ne r110_s
        have ne112_c := f112.ne n108
        have up112 : w.heap.size ≤ g112 := f112.up l110
        have bl112 := f112.bel
        clear f112
        have r114_s := le_on r110_s bl112
        have r114_c := le_on n108 bl112
        have r114_l := (r110_l).on bl112
        have l114 := le_tr l110 bl112
        clear r110_s n108 r110_l l110
        clear bl112
        have y115 := Lib.hid (show (fun V : World => CB V g101 45 (siA (sN 1))) V112 from r114_s)
        refine hK.out _ _ y115.out (fun hHeld => ?_)
        clear hK K y115
        try simp only [Act.put, List.setIfInBounds_toArray, List.set_cons_zero, List.set_cons_succ]
        refine wpAnyH_ready (rs := [4]) (by kernel_rfl) (by simp) ?_
        refine AllReadyH.cons rfl (fun K hK => ?_) AllReadyH.nil
        refine rd_store rfl 45 _ _ rfl none rfl g112 (siA (sN 1)) rfl rfl n112 Try.zSc rfl (siA_one _) ?_
        refine ⟨fun V116 n116 k116 => ?_⟩
        have m116_s := k116.on r114_s ne112_s
        have m116_c := k116.on r114_c ne112_c
        have m116_l := (r114_l).wr k116 up112
        have o116 := k116.bel _ _ l114 up112
        clear k116
        clear n112 r114_s r114_c r114_l l114
        have y117 := Lib.hid (show (fun V : World => CB V g101 45 (siA (sN 1))) V116 from m116_s)
        refine hK.out _ _ y117.out (fun hHeld => ?_)
        clear hK K y117
        try simp only [Act.put, List.setIfInBounds_toArray, List.set_cons_zero, List.set_cons_succ]
        refine wpAnyH_ready (rs := [5]) (by kernel_rfl) (by simp) ?_
        refine AllReadyH.cons rfl (fun K hK => ?_) AllReadyH.nil
        refine rd_store rfl 45 _ _ rfl none rfl g108 (siA (sN 1)) rfl rfl m116_c Try.zSc rfl (siA_one _) ?_
        refine ⟨fun V118 n118 k118 => ?_⟩
        have m118_s := k118.on m116_s ne108_s
        have m118_a := k118.on n116 (Ne.symm ne112_c)
        have m118_l := (m116_l).wr k118 up108
        have o118 := k118.bel _ _ o116 up108
        clear k118
        clear m116_c m116_s n116 m116_l o116
        have y119 := Lib.hid (show (fun V : World => CB V g101 45 (siA (sN 1))) V118 from m118_s)
        refine hK.out _ _ y119.out (fun hHeld => ?_)
        clear hK K y119
        try simp only [Act.put, List.setIfInBounds_toArray, List.set_cons_zero, List.set_cons_succ]
        refine wpAnyH_done (by kernel_rfl) ?_ _
        go_wp2_with fail
        go_loopw [57] (fun iv wr => ∃ (j : Nat) (x y : Sd), j ≤ k ∧ iv = .int .i64 j ∧ RL w wr dcl 2 A k q L ∧ CB wr g112 45 (siA x) ∧ CB wr g108 45 (siA y) ∧ Hid (x = foldS (sN 1) (L.take j)) ∧ Hid (y = foldS (sN 1) ((rotB L at_).take j)) ∧ Below w.heap.size w wr) (fun iv _ => k - (intOf iv).toNat)
        case atStart => exact ⟨0, _, _, by omega, rfl, m118_l, m118_a, n118, Lib.hid rfl, Lib.hid rfl, o118⟩
        case round =>
          clear m118_l m118_a n118 m118_s o118
          obtain ⟨j, x, y, hj, rfl, hx, ha, hc, HA, HC, hw⟩ := hrel
          by_cases hlt : j < k
          · skip
            obtain ⟨g, off, e, hek, hA, _⟩ := hx.rr.elem hlt
            subst hA
            obtain ⟨ja, hja⟩ : ∃ ja, j + at_ = ja := ⟨_, rfl⟩
            obtain ⟨r, hr⟩ : ∃ r, ja % k = r := ⟨_, rfl⟩
            have hrk : r < k := by rw [← hr]; exact Nat.mod_lt _ (by omega)
            obtain ⟨d, hdr⟩ : ∃ d, L[r]? = some d := ⟨_, List.getElem?_eq_getElem (by rw [hlen.out]; exact hrk)⟩
            have HE := Lib.hid hek
            have HD := Lib.hid hdr
            have HA2 := Lib.hid ((foldS_next (s := sN 1) hek).trans (congrArg (fun z => sSh z e) HA.out.symm))
            have HC2 := Lib.hid ((foldS_next (s := sN 1) (show (rotB L at_)[j]? = some d by rw [rotB_at hlen.out hlt, hja, hr]; exact hdr)).trans (congrArg (fun z => sSh z d) HC.out.symm))
            have l1 : (j : Int) < (k : Int) := by omega
            have l2 : (r : Int) < (k : Int) := by omega
            have wa : IntKind.i64.wrap (at_ : Int) = (at_ : Int) := IntWalk.i64_in _ (by omega)
            have w1 : IntKind.i64.wrap ((j : Int) + (at_ : Int)) = (ja : Int) := by rw [show (j : Int) + (at_ : Int) = (ja : Int) by omega]; exact IntWalk.i64_in _ (by omega)
            have w2 : (j : Int) + (at_ : Int) = (ja : Int) := by omega
            have W2 := Lib.hid w2
            have tm : Int.tmod (ja : Int) (k : Int) = (r : Int) := by rw [tmod_nat, hr]
            have wj : IntKind.i64.wrap (ja : Int) = (ja : Int) := IntWalk.i64_in _ (by omega)
            have n3 : ¬ k = 0 := by omega
            have wp : IntKind.i64.wrap (r : Int) = (r : Int) := IntWalk.i64_in _ (by omega)
            have n1 : ¬ (k : Int) = 0 := by omega
            have n2 : ((k : Int) == 0) = false := by simp; omega
            obtain ⟨x2, hx2⟩ : ∃ z, sSh x e = z := ⟨_, rfl⟩
            obtain ⟨ex, hex⟩ : ∃ z, eSh x e = z := ⟨_, rfl⟩
            obtain ⟨y2, hy2⟩ : ∃ z, sSh y d = z := ⟨_, rfl⟩
            obtain ⟨ey, hey⟩ : ∃ z, eSh y d = z := ⟨_, rfl⟩
            have CA : ∀ V : World, Calls Try.prog 16 #[.agg (siA x), .agg (btA e)] V (fun e w' => e = .returned (.tuple #[.agg (siA x2), .int .i64 (ex : Int)]) ∧ Below V.heap.size V w') := fun V => by have h := ship_c x e V; rw [hex, hx2] at h; exact h
            have CC : ∀ V : World, Calls Try.prog 16 #[.agg (siA y), .agg (btA d)] V (fun e w' => e = .returned (.tuple #[.agg (siA y2), .int .i64 (ey : Int)]) ∧ Below V.heap.size V w') := fun V => by have h := ship_c y d V; rw [hey, hy2] at h; exact h
            rw [hx2] at HA2
            rw [hy2] at HC2
            clear hx2 hex hy2 hey hek hdr hja hr HA HC w2
            go_wp2_with fail
            have y401 := Lib.hid (show (fun V : World => RL w V dcl 2 (some ⟨g, off, none⟩) k q L) wr.drew from (hx).drew)
            refine wp_region_held_drew (S := (fun V : World => RL w V dcl 2 (some ⟨g, off, none⟩) k q L)) (by kernel_rfl) y401.out (fun hHeld => ?_)
            obtain ⟨D401, hD401⟩ : ∃ V, wr.drew = V := ⟨_, rfl⟩
            have b401 : Below wr.heap.size wr D401 := by rw [← hD401]; exact le_dr (Below.refl _ _)
            rw [hD401] at hHeld ⊢
            clear hD401
            have r403_a := le_on ha b401
            have r403_c := le_on hc b401
            have r403_l := (hx).on b401
            have l403 := le_tr hw b401
            clear ha hc hx hw
            clear b401
            refine wpAnyH_takeL (i := 1) (d := some 62) (v := .slice (some ⟨g, off, none⟩) k q) rfl rfl (by kernel_rfl) (by kernel_rfl) (by kernel_rfl) (fun _ _ _ h => h) (Or.inl ⟨by rfl, ?_⟩) hHeld ?_
            · intro w hSw; (try dsimp only at hSw); go_simp
            try simp only [Act.put, List.setIfInBounds_toArray, List.set_cons_zero, List.set_cons_succ]
            refine wpAnyH_takeL (i := 2) (d := some 63) (v := .int .i64 (j : Int)) rfl rfl (by kernel_rfl) (by kernel_rfl) (by kernel_rfl) (fun _ _ _ h => h) (Or.inl ⟨by rfl, ?_⟩) hHeld ?_
            · intro w hSw; (try dsimp only at hSw); go_simp
            try simp only [Act.put, List.setIfInBounds_toArray, List.set_cons_zero, List.set_cons_succ]
            refine wpAnyH_takeL (i := 3) (d := some 64) (v := .pointer (some ⟨g, off + j * 2, none⟩)) rfl rfl (by kernel_rfl) (by kernel_rfl) (by kernel_rfl) (fun _ _ _ h => h) (Or.inl ⟨by rfl, ?_⟩) hHeld ?_
            · intro w hSw; (try dsimp only at hSw); go_simp
            try simp only [Act.put, List.setIfInBounds_toArray, List.set_cons_zero, List.set_cons_succ]
            refine wpAnyH_takeL (i := 4) (d := some 65) (v := .agg (btA e)) rfl rfl (by kernel_rfl) (by kernel_rfl) (by kernel_rfl) (fun _ _ _ h => h) (Or.inl ⟨by rfl, ?_⟩) hHeld ?_
            · intro w hSw; exact yl_elem 42 _ g (off + j * 2) (btA e) rfl (RR.elemAt hSw.rr HE.out rfl) Try.underlying42 rfl Try.zBr
            try simp only [Act.put, List.setIfInBounds_toArray, List.set_cons_zero, List.set_cons_succ]
            refine wpAnyH_ready (rs := [0]) (by kernel_rfl) (by simp) ?_
            refine AllReadyH.cons rfl (fun K hK => ?_) AllReadyH.nil
            refine rd_load rfl 45 _ rfl (some 61) rfl (.agg (siA x)) g112 (0) rfl (ld_part 45 g112 0 r403_a (by simp) Try.underlying45 rfl Try.zSc) ?_
            refine ⟨?_⟩
            have y404 := Lib.hid (show (fun V : World => RL w V dcl 2 (some ⟨g, off, none⟩) k q L) D401 from r403_l)
            refine hK.out _ _ y404.out (fun hHeld => ?_)
            clear hK K y404
            try simp only [Act.put, List.setIfInBounds_toArray, List.set_cons_zero, List.set_cons_succ]
            refine wpAnyH_ready (rs := [5]) (by kernel_rfl) (by simp) ?_
            refine AllReadyH.cons rfl (fun K hK => ?_) AllReadyH.nil
            go_simp
            (with_reducible refine (CA _).mono ?_)
            rintro e u405 ⟨rfl, b405⟩
            have r407_a := le_on r403_a b405
            have r407_c := le_on r403_c b405
            have r407_l := (r403_l).on b405
            have l407 := le_tr l403 b405
            clear r403_a r403_c r403_l l403
            clear b405
            go_wp2_with fail
            have y408 := Lib.hid (show (fun V : World => RL w V dcl 2 (some ⟨g, off, none⟩) k q L) u405 from r407_l)
            refine hK.out _ _ y408.out (fun hHeld => ?_)
            clear hK K y408
            try simp only [Act.put, List.setIfInBounds_toArray, List.set_cons_zero, List.set_cons_succ]
            refine wpAnyH_takeL (i := 6) (d := some 60) (v := .tuple #[.agg (siA x2), .int .i64 (ex : Int)]) rfl rfl (by kernel_rfl) (by kernel_rfl) (by kernel_rfl) (fun _ _ _ h => h) (Or.inl ⟨by rfl, ?_⟩) hHeld ?_
            · intro w hSw; (try dsimp only at hSw); go_simp
            try simp only [Act.put, List.setIfInBounds_toArray, List.set_cons_zero, List.set_cons_succ]
            refine wpAnyH_takeL (i := 7) (d := some 67) (v := .agg (siA x2)) rfl rfl (by kernel_rfl) (by kernel_rfl) (by kernel_rfl) (fun _ _ _ h => h) (Or.inl ⟨by rfl, ?_⟩) hHeld ?_
            · intro w hSw; (try dsimp only at hSw); go_simp
            try simp only [Act.put, List.setIfInBounds_toArray, List.set_cons_zero, List.set_cons_succ]
            refine wpAnyH_takeL (i := 8) (d := some 68) (v := .int .i64 (ex : Int)) rfl rfl (by kernel_rfl) (by kernel_rfl) (by kernel_rfl) (fun _ _ _ h => h) (Or.inl ⟨by rfl, ?_⟩) hHeld ?_
            · intro w hSw; (try dsimp only at hSw); go_simp
            try simp only [Act.put, List.setIfInBounds_toArray, List.set_cons_zero, List.set_cons_succ]
            refine wpAnyH_ready (rs := [9]) (by kernel_rfl) (by simp) ?_
            refine AllReadyH.cons rfl (fun K hK => ?_) AllReadyH.nil
            refine rd_store rfl 45 _ _ rfl none rfl g112 (siA x2) rfl rfl r407_a Try.zSc rfl (siA_one _) ?_
            refine ⟨fun V409 n409 k409 => ?_⟩
            have m409_c := k409.on r407_c ne112_c
            have m409_l := (r407_l).wr k409 up112
            have o409 := k409.bel _ _ l407 up112
            clear k409
            clear r407_a r407_c r407_l l407
            have y410 := Lib.hid (show (fun V : World => RL w V dcl 2 (some ⟨g, off, none⟩) k q L) V409 from m409_l)
            refine hK.out _ _ y410.out (fun hHeld => ?_)
            clear hK K y410
            try simp only [Act.put, List.setIfInBounds_toArray, List.set_cons_zero, List.set_cons_succ]
            refine wpAnyH_done (by kernel_rfl) ?_ _
            go_wp2_with fail
            have y411 := Lib.hid (show (fun V : World => RL w V dcl 2 (some ⟨g, off, none⟩) k q L) V409.drew from (m409_l).drew)
            refine wp_region_held_drew (S := (fun V : World => RL w V dcl 2 (some ⟨g, off, none⟩) k q L)) (by kernel_rfl) y411.out (fun hHeld => ?_)
            obtain ⟨D411, hD411⟩ : ∃ V, V409.drew = V := ⟨_, rfl⟩
            have b411 : Below V409.heap.size V409 D411 := by rw [← hD411]; exact le_dr (Below.refl _ _)
            rw [hD411] at hHeld ⊢
            clear hD411
            have r413_a := le_on n409 b411
            have r413_c := le_on m409_c b411
            have r413_l := (m409_l).on b411
            have l413 := le_tr o409 b411
            clear n409 m409_c m409_l o409
            clear b411
            refine wpAnyH_takeL (i := 1) (d := some 71) (v := .slice (some ⟨g, off, none⟩) k q) rfl rfl (by kernel_rfl) (by kernel_rfl) (by kernel_rfl) (fun _ _ _ h => h) (Or.inl ⟨by rfl, ?_⟩) hHeld ?_
            · intro w hSw; (try dsimp only at hSw); go_simp
            try simp only [Act.put, List.setIfInBounds_toArray, List.set_cons_zero, List.set_cons_succ]
            refine wpAnyH_takeL (i := 2) (d := some 72) (v := .int .i64 (j : Int)) rfl rfl (by kernel_rfl) (by kernel_rfl) (by kernel_rfl) (fun _ _ _ h => h) (Or.inl ⟨by rfl, ?_⟩) hHeld ?_
            · intro w hSw; (try dsimp only at hSw); go_simp
            try simp only [Act.put, List.setIfInBounds_toArray, List.set_cons_zero, List.set_cons_succ]
            refine wpAnyH_takeL (i := 3) (d := some 73) (v := .int .u8 (at_ : Int)) rfl rfl (by kernel_rfl) (by kernel_rfl) (by kernel_rfl) (fun _ _ _ h => h) (Or.inl ⟨by rfl, ?_⟩) hHeld ?_
            · intro w hSw; (try dsimp only at hSw); go_simp
            try simp only [Act.put, List.setIfInBounds_toArray, List.set_cons_zero, List.set_cons_succ]
            refine wpAnyH_takeL (i := 4) (d := some 74) (v := .int .i64 (at_ : Int)) rfl rfl (by kernel_rfl) (by kernel_rfl) (by kernel_rfl) (fun _ _ _ h => h) (Or.inl ⟨by rfl, ?_⟩) hHeld ?_
            · intro w hSw; (try dsimp only at hSw); go_simp
            try simp only [Act.put, List.setIfInBounds_toArray, List.set_cons_zero, List.set_cons_succ]
            refine wpAnyH_takeL (i := 5) (d := some 75) (v := .int .i64 (ja : Int)) rfl rfl (by kernel_rfl) (by kernel_rfl) (by kernel_rfl) (fun _ _ _ h => h) (Or.inl ⟨by rfl, ?_⟩) hHeld ?_
            · intro w hSw; have w2 := W2.out; go_simp
            try simp only [Act.put, List.setIfInBounds_toArray, List.set_cons_zero, List.set_cons_succ]
            refine wpAnyH_takeL (i := 6) (d := some 76) (v := .slice (some ⟨g, off, none⟩) k q) rfl rfl (by kernel_rfl) (by kernel_rfl) (by kernel_rfl) (fun _ _ _ h => h) (Or.inl ⟨by rfl, ?_⟩) hHeld ?_
            · intro w hSw; (try dsimp only at hSw); go_simp
            try simp only [Act.put, List.setIfInBounds_toArray, List.set_cons_zero, List.set_cons_succ]
            refine wpAnyH_takeL (i := 7) (d := some 77) (v := .int .i64 (k : Int)) rfl rfl (by kernel_rfl) (by kernel_rfl) (by kernel_rfl) (fun _ _ _ h => h) (Or.inl ⟨by rfl, ?_⟩) hHeld ?_
            · intro w hSw; (try dsimp only at hSw); go_simp
            try simp only [Act.put, List.setIfInBounds_toArray, List.set_cons_zero, List.set_cons_succ]
            refine wpAnyH_takeL (i := 8) (d := some 78) (v := .int .i64 (r : Int)) rfl rfl (by kernel_rfl) (by kernel_rfl) (by kernel_rfl) (fun _ _ _ h => h) (Or.inl ⟨by rfl, ?_⟩) hHeld ?_
            · intro w hSw; (try dsimp only at hSw); go_simp
            try simp only [Act.put, List.setIfInBounds_toArray, List.set_cons_zero, List.set_cons_succ]
            refine wpAnyH_takeL (i := 9) (d := some 79) (v := .pointer (some ⟨g, off + r * 2, none⟩)) rfl rfl (by kernel_rfl) (by kernel_rfl) (by kernel_rfl) (fun _ _ _ h => h) (Or.inl ⟨by rfl, ?_⟩) hHeld ?_
            · intro w hSw; (try dsimp only at hSw); go_simp
            try simp only [Act.put, List.setIfInBounds_toArray, List.set_cons_zero, List.set_cons_succ]
            refine wpAnyH_takeL (i := 10) (d := some 80) (v := .agg (btA d)) rfl rfl (by kernel_rfl) (by kernel_rfl) (by kernel_rfl) (fun _ _ _ h => h) (Or.inl ⟨by rfl, ?_⟩) hHeld ?_
            · intro w hSw; exact yl_elem 42 _ g (off + r * 2) (btA d) rfl (RR.elemAt hSw.rr HD.out rfl) Try.underlying42 rfl Try.zBr
            try simp only [Act.put, List.setIfInBounds_toArray, List.set_cons_zero, List.set_cons_succ]
            refine wpAnyH_ready (rs := [0]) (by kernel_rfl) (by simp) ?_
            refine AllReadyH.cons rfl (fun K hK => ?_) AllReadyH.nil
            refine rd_load rfl 45 _ rfl (some 70) rfl (.agg (siA y)) g108 (0) rfl (ld_part 45 g108 0 r413_c (by simp) Try.underlying45 rfl Try.zSc) ?_
            refine ⟨?_⟩
            have y414 := Lib.hid (show (fun V : World => RL w V dcl 2 (some ⟨g, off, none⟩) k q L) D411 from r413_l)
            refine hK.out _ _ y414.out (fun hHeld => ?_)
            clear hK K y414
            try simp only [Act.put, List.setIfInBounds_toArray, List.set_cons_zero, List.set_cons_succ]
            refine wpAnyH_ready (rs := [11]) (by kernel_rfl) (by simp) ?_
            refine AllReadyH.cons rfl (fun K hK => ?_) AllReadyH.nil
            go_simp
            (with_reducible refine (CC _).mono ?_)
            rintro e u415 ⟨rfl, b415⟩
            have r417_a := le_on r413_a b415
            have r417_c := le_on r413_c b415
            have r417_l := (r413_l).on b415
            have l417 := le_tr l413 b415
            clear r413_a r413_c r413_l l413
            clear b415
            go_wp2_with fail
            have y418 := Lib.hid (show (fun V : World => RL w V dcl 2 (some ⟨g, off, none⟩) k q L) u415 from r417_l)
            refine hK.out _ _ y418.out (fun hHeld => ?_)
            clear hK K y418
            try simp only [Act.put, List.setIfInBounds_toArray, List.set_cons_zero, List.set_cons_succ]
            refine wpAnyH_takeL (i := 12) (d := some 69) (v := .tuple #[.agg (siA y2), .int .i64 (ey : Int)]) rfl rfl (by kernel_rfl) (by kernel_rfl) (by kernel_rfl) (fun _ _ _ h => h) (Or.inl ⟨by rfl, ?_⟩) hHeld ?_
            · intro w hSw; (try dsimp only at hSw); go_simp
            try simp only [Act.put, List.setIfInBounds_toArray, List.set_cons_zero, List.set_cons_succ]
            refine wpAnyH_takeL (i := 13) (d := some 82) (v := .agg (siA y2)) rfl rfl (by kernel_rfl) (by kernel_rfl) (by kernel_rfl) (fun _ _ _ h => h) (Or.inl ⟨by rfl, ?_⟩) hHeld ?_
            · intro w hSw; (try dsimp only at hSw); go_simp
            try simp only [Act.put, List.setIfInBounds_toArray, List.set_cons_zero, List.set_cons_succ]
            refine wpAnyH_takeL (i := 14) (d := some 83) (v := .int .i64 (ey : Int)) rfl rfl (by kernel_rfl) (by kernel_rfl) (by kernel_rfl) (fun _ _ _ h => h) (Or.inl ⟨by rfl, ?_⟩) hHeld ?_
            · intro w hSw; (try dsimp only at hSw); go_simp
            try simp only [Act.put, List.setIfInBounds_toArray, List.set_cons_zero, List.set_cons_succ]
            refine wpAnyH_ready (rs := [15]) (by kernel_rfl) (by simp) ?_
            refine AllReadyH.cons rfl (fun K hK => ?_) AllReadyH.nil
            refine rd_store rfl 45 _ _ rfl none rfl g108 (siA y2) rfl rfl r417_c Try.zSc rfl (siA_one _) ?_
            refine ⟨fun V419 n419 k419 => ?_⟩
            have m419_a := k419.on r417_a (Ne.symm ne112_c)
            have m419_l := (r417_l).wr k419 up108
            have o419 := k419.bel _ _ l417 up108
            clear k419
            clear r417_c r417_a r417_l l417
            have y420 := Lib.hid (show (fun V : World => RL w V dcl 2 (some ⟨g, off, none⟩) k q L) V419 from m419_l)
            refine hK.out _ _ y420.out (fun hHeld => ?_)
            clear hK K y420
            try simp only [Act.put, List.setIfInBounds_toArray, List.set_cons_zero, List.set_cons_succ]
            refine wpAnyH_done (by kernel_rfl) ?_ _
            go_wp2_with fail
            go_roundw
            case rel => exact ⟨j + 1, x2, y2, by omega, by go_num, m419_l, m419_a, n419, Lib.hid HA2.out.symm, Lib.hid HC2.out.symm, o419⟩
            case measure => simp [intOf]; omega
          · skip
            obtain rfl : j = k := by omega
            have gz0 : ¬ ((j : Int) < (j : Int)) := by omega
            obtain rfl : x = y := any_end HV.out hlen.out HA.out HC.out
            have E : ∀ V : World, (Op.equalIn 10000 45 (.agg (siA x)) (.agg (siA x))).run Try.prog V = .ok true V := fun V => by have := eq_sc x x V; rw [eqS_refl] at this; exact this
            clear hlt
            go_wp2_with (first | (first | ((with_reducible refine st_load 45 _ g112 ?_ ha Try.underlying45 ?_ ?_ ?_); exact rfl; exact rfl; exact Try.zSc) | ((with_reducible refine st_loadG 45 _ g112 ?_ ha Try.underlying45 ?_ ?_ ?_ ?_); exact rfl; exact rfl; exact Try.zSc; exact rfl)) | (first | ((with_reducible refine st_load 45 _ g108 ?_ hc Try.underlying45 ?_ ?_ ?_); exact rfl; exact rfl; exact Try.zSc) | ((with_reducible refine st_loadG 45 _ g108 ?_ hc Try.underlying45 ?_ ?_ ?_ ?_); exact rfl; exact rfl; exact Try.zSc; exact rfl)))
            go_ret
            exact ⟨rfl, hw⟩
end Go.Proofs.Ytfdboahcaiolgaa
