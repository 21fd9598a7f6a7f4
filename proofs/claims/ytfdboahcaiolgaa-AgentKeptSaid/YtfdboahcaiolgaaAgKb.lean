/-
  AgentKept. Conditions: the ballots can be read, their numbers are of their type.
-/
import Derived.Test.YtfdboahcaiolgaaAgKa
import Derived.Test.YtfdboahcaiolgaaAgZ
import Derived.Test.YtfdboahcaiolgaaAqHe
set_option linter.unusedVariables false
set_option linter.unusedSimpArgs false
namespace Go.Proofs.Ytfdboahcaiolgaa
open Go.RowKit
open Dk (Nt InN RightN BoundN MsgN NoMsg KindN EpN bound_n)


theorem built_m4 (N : Int) : Try.prog.built 68 [(0, .int .i64 2), (1, .int .u8 2), (2, .int .u8 1), (3, .int .i64 N)] = some #[.int .i64 2, .int .u8 2, .int .u8 1, .int .i64 N, .string ⟨#[]⟩] := by kernel_rfl
/-- A call of Hear, as the law sees it. -/
def MPost (w : World) (s : Sd) (m : Mg) (e : Ending) (w' : World) : Prop := ∃ A q, e = .returned (.tuple #[.agg (siA s), .slice A 1 q, .int .i64 0]) ∧ RS w' 68 mc 5 A 1 q [m] ∧ Below w.heap.size w w'
theorem hear_k {s s' : Sd} {m r : Mg} (h : hearM s m = ⟨s', [r], 0⟩) (w : World) : Calls Try.prog 24 #[.agg (siA s), .agg #[.int .i64 m.kd, .int .u8 m.fr, .int .u8 m.to, .int .i64 m.ep, .string m.cg]] w (MPost w s' r) := by
  have h0 : Calls Try.prog 24 #[.agg (siA s), .agg #[.int .i64 m.kd, .int .u8 m.fr, .int .u8 m.to, .int .i64 m.ep, .string m.cg]] w (HPost w 68 (hearM s m)) := hhear_c s.me s.l.ep s.l.st s.l.to s.cg s.kp m.kd m.fr m.to m.ep m.cg w
  rw [h] at h0
  refine h0.mono fun e w' hp => ?_
  obtain ⟨A, n, q, e1, e2, e3⟩ := hp
  obtain rfl : n = 1 := by rw [← e2.len]; rfl
  exact ⟨A, q, e1, e2, e3⟩
theorem ms_el {w : World} {A : Option Addr} {q : Nat} {m : Mg} (h : RS w 68 mc 5 A 1 q [m]) : ∃ g off, A = some ⟨g, off, none⟩ ∧ w.rangeAt g off #[.int .i64 m.kd, .int .u8 m.fr, .int .u8 m.to, .int .i64 m.ep, .string m.cg].toList := by
  obtain ⟨g, off, x, hx, hA, hr⟩ := h.rr.elem (k := 0) (by omega)
  obtain rfl : m = x := by simpa using hx
  rw [Nat.zero_mul, Nat.add_zero] at hr
  exact ⟨g, off, hA, hr⟩
set_option maxRecDepth 100000 in
set_option maxHeartbeats 4000000 in
theorem kept_walk (A : Option Addr) (n q : Nat) (L : List Bl) (m0 e0 : Nat) (w : World) (h : RR w dcl 2 A n q L) (hwf : ∀ b ∈ L, (Lit.int .i64 b.tx).wf = true ∧ (Lit.int .i64 b.vt).wf = true) (hm0 : m0 < 256) (he0 : e0 < 65536) : Calls Try.prog 5 #[.slice A n q, .int .u8 (m0 : Int), .int .u16 (e0 : Int)] w fun r w' => r = .returned (.bool true) ∧ Below w.heap.size w w' := by
  have hlen := Lib.hid h.len
  have hx := RL.start h
  have hmx := hx.max
  clear h
  by_cases hn : n ≤ 600
  rotate_left
  · skip
    have q1 : decide ((600 : Int) < (n : Int)) = true := by simp; omega
    have q1' : decide ((n : Int) > 600) = true := by simp; omega
    go_enter Try.func5, Try.ntmps5
    go_wp2_with fail
    (with_reducible refine (alive_c _).mono ?_)
    rintro e w1 ⟨rfl, b1⟩
    have r3_l := (hx).on b1
    have l3 := le_tr (Below.refl _ _) b1
    clear hx
    clear b1
    go_wp2_with fail
    go_ret
    exact ⟨rfl, l3⟩
  have q1 : decide ((600 : Int) < (n : Int)) = false := by simp; omega
  have q1' : decide ((n : Int) > 600) = false := by simp; omega
  obtain ⟨r8, hr8⟩ : ∃ r8, m0 % 8 = r8 := ⟨_, rfl⟩
  have hr : r8 < 8 := by omega
  have tm : Int.tmod (m0 : Int) 8 = (r8 : Int) := (tmod_nat m0 8).trans (by rw [hr8])
  obtain ⟨N, hN⟩ : ∃ N, e0 + 1 = N := ⟨_, rfl⟩
  have hNb : 1 ≤ (N : Int) ∧ (N : Int) ≤ 65536 := by omega
  have we : IntKind.i64.wrap (e0 : Int) = (e0 : Int) := IntWalk.i64_in _ (by omega)
  have w1 : (e0 : Int) + 1 = (N : Int) := by omega
  have wN : IntKind.i64.wrap (N : Int) = (N : Int) := IntWalk.i64_in _ (by omega)
  have wu : IntKind.u8.wrap (r8 : Int) = (r8 : Int) := IntWalk.u8_in _ (by omega)
  have wN1 : IntKind.i64.wrap ((N : Int) + 1) = (N : Int) + 1 := IntWalk.i64_in _ (by omega)
  clear hr8 hN
  go_enter Try.func5, Try.ntmps5
  go_wp2_with fail
  (with_reducible refine (alive_c _).mono ?_)
  rintro e w1 ⟨rfl, b1⟩
  have r3_l := (hx).on b1
  have l3 := le_tr (Below.refl _ _) b1
  clear hx
  clear b1
  go_wp2_with (first | ((with_reducible refine st_builtk2 43 (v0 := .int .i64 (N : Int)) (v1 := .int .i64 1) ?_ ?_ (built_l2 (N : Int) 1) ?_); exact rfl; exact rfl) | ((with_reducible refine st_builtk2 45 (v0 := .int .u8 1) (v1 := .agg (lsA ⟨(N : Int), 1, 0⟩)) ?_ ?_ (built_s2 1 ⟨(N : Int), 1, 0⟩) ?_); exact rfl; exact rfl) | ((with_reducible refine st_alloc 45 (siA zS) ?_ ?_); exact zero_sc))
  refine ⟨fun V4 g4 n4 f4 => ?_⟩
  have up4 : w.heap.size ≤ g4 := f4.up l3
  have bl4 := f4.bel
  clear f4
  have r6_l := (r3_l).on bl4
  have l6 := le_tr l3 bl4
  clear r3_l l3
  clear bl4
  go_wp2_with (first | ((with_reducible refine st_store 45 _ _ g4 (siA (sN (N : Int))) ?_ ?_ n4 ?_ ?_ ?_ ?_); exact rfl; exact rfl; exact Try.zSc; exact rfl; exact siA_one _))
  refine ⟨fun V7 n7 k7 => ?_⟩
  have m7_l := (r6_l).wr k7 up4
  have o7 := k7.bel _ _ l6 up4
  clear k7
  clear n4 r6_l l6
  clear w1
  have hmk := run_mkI V7
  obtain ⟨V5, hV5⟩ : ∃ V, V7.alloc (.map #[] 0) = V := ⟨_, rfl⟩
  obtain ⟨mb, hmb⟩ : ∃ m, V7.heap.size = m := ⟨_, rfl⟩
  have hm0 : MI V5 mb [] := by rw [← hV5, ← hmb]; exact MI.made _
  have bl5 : Below V7.heap.size V7 V5 := by rw [← hV5]; exact le_al _ _
  have upm : w.heap.size ≤ mb := by rw [← hmb]; exact (o7).size
  rw [hmb, hV5] at hmk
  clear hmb hV5
  go_wp2_with fail
  clear hmk
  have r9_a := le_on n7 bl5
  have r9_l := (m7_l).on bl5
  have l9 := le_tr o7 bl5
  clear n7 m7_l o7
  clear bl5
  have na0 : mb ≠ g4 := Ne.symm (MI.ne hm0 r9_a)
  go_loopw [44] (fun iv wr => ∃ (k : Nat) (s : Sd) (Kb : List Bl) (M : List (Int × Int)), k ≤ n ∧ iv = .int .i64 k ∧ RL w wr dcl 2 A n q L ∧ CB wr g4 45 (siA s) ∧ MI wr mb M ∧ Hid (KepI (N : Int) s Kb M) ∧ M.length ≤ 50 ∧ Below w.heap.size w wr) (fun iv _ => n - (intOf iv).toNat)
  case atStart => exact ⟨0, _, [], [], by omega, rfl, r9_l, r9_a, hm0, Lib.hid (KepI.start hNb), by simp, l9⟩
  case round =>
    clear r9_l r9_a hm0 l9
    obtain ⟨k, s, Kb, M, hk, rfl, hx, ha, hm, HK, hM, hw⟩ := hrel
    by_cases hlt : k < n
    · skip
      obtain ⟨g, off, x, hxk, hA, _⟩ := hx.rr.elem hlt
      subst hA
      have l1 : (k : Int) < (n : Int) := by omega
      obtain ⟨wt, wv⟩ := hwf x (List.mem_of_getElem? hxk)
      have hr2 : wr.rangeAt g (off + k * 2) (btA x).toList := RR.elemAt hx.rr hxk rfl
      clear hxk
      by_cases he : eSh s x = 0
      · skip
        have HN := Lib.hid (HK.out.next he)
        obtain ⟨s2_, hs2⟩ : ∃ z, sSh s x = z := ⟨_, rfl⟩
        rw [hs2] at HN
        have hM2 : (putM M x.tx x.vt).length ≤ 50 := by rw [HN.out.len]; exact HN.out.h.right.1
        have CA : ∀ V : World, Calls Try.prog 16 #[.agg (siA s), .agg (btA x)] V (fun e w' => e = .returned (.tuple #[.agg (siA s2_), .int .i64 0]) ∧ Below V.heap.size V w') := fun V => by have h := ship_c s x V; rw [he, hs2] at h; exact h
        clear he hs2
        go_wp2_with (first | ((with_reducible refine st_elem 42 _ g (off + k * 2) (btA x) ?_ hr2 Try.underlying42 ?_ ?_ ?_); exact rfl; exact rfl; exact Try.zBr) | ((with_reducible refine st_alloc 42 (btA zB) ?_ ?_); exact zero_br))
        refine ⟨fun V101 g101 n101 f101 => ?_⟩
        have ne101_a := f101.ne ha
        have up101 : w.heap.size ≤ g101 := f101.up hw
        have bl101 := f101.bel
        clear f101
        have r103_a := le_on ha bl101
        have r103_l := (hx).on bl101
        have r103_m := (hm).on bl101
        have l103 := le_tr hw bl101
        clear ha hx hm hw
        clear bl101
        go_wp2_with (first | ((with_reducible refine st_store 42 _ _ g101 (btA x) ?_ ?_ n101 ?_ ?_ ?_ ?_); exact rfl; exact rfl; exact Try.zBr; exact rfl; exact btA_one _))
        refine ⟨fun V104 n104 k104 => ?_⟩
        have m104_a := k104.on r103_a ne101_a
        have m104_l := (r103_l).wr k104 up101
        have m104_m := (r103_m).wr k104 n101
        have o104 := k104.bel _ _ l103 up101
        clear k104
        clear n101 r103_a r103_l r103_m l103
        clear hr2
        go_wp2_with (first | (first | ((with_reducible refine st_load 45 _ g4 ?_ m104_a Try.underlying45 ?_ ?_ ?_); exact rfl; exact rfl; exact Try.zSc) | ((with_reducible refine st_loadG 45 _ g4 ?_ m104_a Try.underlying45 ?_ ?_ ?_ ?_); exact rfl; exact rfl; exact Try.zSc; exact rfl)) | (first | ((with_reducible refine st_load 42 _ g101 ?_ n104 Try.underlying42 ?_ ?_ ?_); exact rfl; exact rfl; exact Try.zBr) | ((with_reducible refine st_loadG 42 _ g101 ?_ n104 Try.underlying42 ?_ ?_ ?_ ?_); exact rfl; exact rfl; exact Try.zBr; exact rfl)))
        (with_reducible refine (CA _).mono ?_)
        rintro e w105 ⟨rfl, b105⟩
        have r107_a := le_on m104_a b105
        have r107_b := le_on n104 b105
        have r107_l := (m104_l).on b105
        have r107_m := (m104_m).on b105
        have l107 := le_tr o104 b105
        clear m104_a n104 m104_l m104_m o104
        clear b105
        go_wp2_with (first | ((with_reducible refine st_alloc 45 (siA zS) ?_ ?_); exact zero_sc))
        refine ⟨fun V108 g108 n108 f108 => ?_⟩
        have ne108_a := f108.ne r107_a
        have ne108_b := f108.ne r107_b
        have up108 : w.heap.size ≤ g108 := f108.up l107
        have bl108 := f108.bel
        clear f108
        have r110_a := le_on r107_a bl108
        have r110_b := le_on r107_b bl108
        have r110_l := (r107_l).on bl108
        have r110_m := (r107_m).on bl108
        have l110 := le_tr l107 bl108
        clear r107_a r107_b r107_l r107_m l107
        clear bl108
        go_wp2_with (first | ((with_reducible refine st_store 45 _ _ g108 (siA s2_) ?_ ?_ n108 ?_ ?_ ?_ ?_); exact rfl; exact rfl; exact Try.zSc; exact rfl; exact siA_one _))
        refine ⟨fun V111 n111 k111 => ?_⟩
        have m111_a := k111.on r110_a ne108_a
        have m111_b := k111.on r110_b ne108_b
        have m111_l := (r110_l).wr k111 up108
        have m111_m := (r110_m).wr k111 n108
        have o111 := k111.bel _ _ l110 up108
        clear k111
        clear n108 r110_a r110_b r110_l r110_m l110
        have c112 : V111.cell? ⟨g101, 0, none⟩ = some (.int .i64 (x.tx)) := CB.cell m111_b 0
        have c113 : V111.cell? ⟨g101, 1, none⟩ = some (.int .i64 (x.vt)) := CB.cell m111_b 1
        obtain ⟨V7, hs7, hm7, k7⟩ := MI.store m111_m (by simp only [maxLen]; omega) wt wv
        have mm114_a := k7.on m111_a (MI.ne m111_m m111_a)
        have mm114_b := k7.on m111_b (MI.ne m111_m m111_b)
        have mm114_x := k7.on n111 (MI.ne m111_m n111)
        have mm114_l := (m111_l).wr k7 upm
        have lm114 := k7.bel _ _ o111 upm
        clear k7
        go_wp2_with (first | (first | ((with_reducible refine st_load 45 _ g108 ?_ mm114_x Try.underlying45 ?_ ?_ ?_); exact rfl; exact rfl; exact Try.zSc) | ((with_reducible refine st_loadG 45 _ g108 ?_ mm114_x Try.underlying45 ?_ ?_ ?_ ?_); exact rfl; exact rfl; exact Try.zSc; exact rfl)) | ((with_reducible refine st_store 45 _ _ g4 (siA s2_) ?_ ?_ mm114_a ?_ ?_ ?_ ?_); exact rfl; exact rfl; exact Try.zSc; exact rfl; exact siA_one _))
        refine ⟨fun V115 n115 k115 => ?_⟩
        clear c112 c113
        have m115_b := k115.on mm114_b (Ne.symm ne101_a)
        have m115_x := k115.on mm114_x (Ne.symm ne108_a)
        have m115_l := (mm114_l).wr k115 up4
        have m115_m := (hm7).wr k115 mm114_a
        have o115 := k115.bel _ _ lm114 up4
        clear k115
        clear mm114_a mm114_b mm114_x mm114_l hm7 lm114
        go_wp2_with fail
        go_roundw
        case rel => exact ⟨k + 1, _, _, _, by omega, by go_num, m115_l, n115, m115_m, HN, hM2, o115⟩
        case measure => simp [intOf]; omega
      obtain ⟨z9, hz9⟩ : ∃ z, eSh s x = z := ⟨_, rfl⟩
      have hs2 := sh_err he
      rw [hz9] at he
      have q5 : ((z9 : Int) == 0) = false := by simp; omega
      have CA : ∀ V : World, Calls Try.prog 16 #[.agg (siA s), .agg (btA x)] V (fun e w' => e = .returned (.tuple #[.agg (siA s), .int .i64 (z9 : Int)]) ∧ Below V.heap.size V w') := fun V => by have h := ship_c s x V; rw [hz9, hs2] at h; exact h
      have E : ∀ V : World, (Op.equalIn 10000 45 (.agg (siA s)) (.agg (siA s))).run Try.prog V = .ok true V := fun V => by have := eq_sc s s V; rw [eqS_refl] at this; exact this
      clear he hs2 hz9
      go_wp2_with (first | ((with_reducible refine st_elem 42 _ g (off + k * 2) (btA x) ?_ hr2 Try.underlying42 ?_ ?_ ?_); exact rfl; exact rfl; exact Try.zBr) | ((with_reducible refine st_alloc 42 (btA zB) ?_ ?_); exact zero_br))
      refine ⟨fun V101 g101 n101 f101 => ?_⟩
      have ne101_a := f101.ne ha
      have up101 : w.heap.size ≤ g101 := f101.up hw
      have bl101 := f101.bel
      clear f101
      have r103_a := le_on ha bl101
      have r103_l := (hx).on bl101
      have r103_m := (hm).on bl101
      have l103 := le_tr hw bl101
      clear ha hx hm hw
      clear bl101
      go_wp2_with (first | ((with_reducible refine st_store 42 _ _ g101 (btA x) ?_ ?_ n101 ?_ ?_ ?_ ?_); exact rfl; exact rfl; exact Try.zBr; exact rfl; exact btA_one _))
      refine ⟨fun V104 n104 k104 => ?_⟩
      have m104_a := k104.on r103_a ne101_a
      have m104_l := (r103_l).wr k104 up101
      have m104_m := (r103_m).wr k104 n101
      have o104 := k104.bel _ _ l103 up101
      clear k104
      clear n101 r103_a r103_l r103_m l103
      clear hr2
      go_wp2_with (first | (first | ((with_reducible refine st_load 45 _ g4 ?_ m104_a Try.underlying45 ?_ ?_ ?_); exact rfl; exact rfl; exact Try.zSc) | ((with_reducible refine st_loadG 45 _ g4 ?_ m104_a Try.underlying45 ?_ ?_ ?_ ?_); exact rfl; exact rfl; exact Try.zSc; exact rfl)) | (first | ((with_reducible refine st_load 42 _ g101 ?_ n104 Try.underlying42 ?_ ?_ ?_); exact rfl; exact rfl; exact Try.zBr) | ((with_reducible refine st_loadG 42 _ g101 ?_ n104 Try.underlying42 ?_ ?_ ?_ ?_); exact rfl; exact rfl; exact Try.zBr; exact rfl)))
      (with_reducible refine (CA _).mono ?_)
      rintro e w105 ⟨rfl, b105⟩
      have r107_a := le_on m104_a b105
      have r107_b := le_on n104 b105
      have r107_l := (m104_l).on b105
      have r107_m := (m104_m).on b105
      have l107 := le_tr o104 b105
      clear m104_a n104 m104_l m104_m o104
      clear b105
      go_wp2_with (first | ((with_reducible refine st_alloc 45 (siA zS) ?_ ?_); exact zero_sc))
      refine ⟨fun V108 g108 n108 f108 => ?_⟩
      have ne108_a := f108.ne r107_a
      have ne108_b := f108.ne r107_b
      have up108 : w.heap.size ≤ g108 := f108.up l107
      have bl108 := f108.bel
      clear f108
      have r110_a := le_on r107_a bl108
      have r110_b := le_on r107_b bl108
      have r110_l := (r107_l).on bl108
      have r110_m := (r107_m).on bl108
      have l110 := le_tr l107 bl108
      clear r107_a r107_b r107_l r107_m l107
      clear bl108
      go_wp2_with (first | ((with_reducible refine st_store 45 _ _ g108 (siA s) ?_ ?_ n108 ?_ ?_ ?_ ?_); exact rfl; exact rfl; exact Try.zSc; exact rfl; exact siA_one _))
      refine ⟨fun V111 n111 k111 => ?_⟩
      have m111_a := k111.on r110_a ne108_a
      have m111_b := k111.on r110_b ne108_b
      have m111_l := (r110_l).wr k111 up108
      have m111_m := (r110_m).wr k111 n108
      have o111 := k111.bel _ _ l110 up108
      clear k111
      clear n108 r110_a r110_b r110_l r110_m l110
      go_wp2_with (first | (first | ((with_reducible refine st_load 45 _ g108 ?_ n111 Try.underlying45 ?_ ?_ ?_); exact rfl; exact rfl; exact Try.zSc) | ((with_reducible refine st_loadG 45 _ g108 ?_ n111 Try.underlying45 ?_ ?_ ?_ ?_); exact rfl; exact rfl; exact Try.zSc; exact rfl)) | (first | ((with_reducible refine st_load 45 _ g4 ?_ m111_a Try.underlying45 ?_ ?_ ?_); exact rfl; exact rfl; exact Try.zSc) | ((with_reducible refine st_loadG 45 _ g4 ?_ m111_a Try.underlying45 ?_ ?_ ?_ ?_); exact rfl; exact rfl; exact Try.zSc; exact rfl)) | ((with_reducible refine st_store 45 _ _ g4 (siA s) ?_ ?_ m111_a ?_ ?_ ?_ ?_); exact rfl; exact rfl; exact Try.zSc; exact rfl; exact siA_one _))
      refine ⟨fun V112 n112 k112 => ?_⟩
      have m112_b := k112.on m111_b (Ne.symm ne101_a)
      have m112_x := k112.on n111 (Ne.symm ne108_a)
      have m112_l := (m111_l).wr k112 up4
      have m112_m := (m111_m).wr k112 m111_a
      have o112 := k112.bel _ _ o111 up4
      clear k112
      clear m111_a m111_b n111 m111_l m111_m o111
      go_wp2_with fail
      go_roundw
      case rel => exact ⟨k + 1, _, _, _, by omega, by go_num, m112_l, n112, m112_m, HK, hM, o112⟩
      case measure => simp [intOf]; omega
    · skip
      obtain rfl : k = n := by omega
      have gz0 : ¬ ((k : Int) < (k : Int)) := by omega
      obtain ⟨k1, k2⟩ := HK.out.says (mb := (r8 : Int)) (by omega)
      obtain ⟨k3, k4⟩ := HK.out.away hNb (mb := (r8 : Int)) (by omega)
      obtain ⟨k5, k6⟩ := sp_has (HK.out.there hNb) (mb := (r8 : Int)) (by omega)
      have HSP := Lib.hid HK.out.spk
      obtain ⟨c, hc⟩ : ∃ c, s.cg = c := ⟨_, rfl⟩
      have C1 : ∀ V : World, Calls Try.prog 19 #[.agg (siA s), .int .u8 (r8 : Int)] V (LPostN V 75 (Kb.map (ntB (r8 : Int) (N : Int))) 0) := fun V => by have h := speak_c s (r8 : Int) V; rw [k1, k2] at h; exact h
      have C2 : ∀ V : World, Calls Try.prog 24 #[.agg (siA s), .agg #[.int .i64 2, .int .u8 2, .int .u8 1, .int .i64 (N : Int), .string ⟨#[]⟩]] V (MPost V (sG (N : Int) c) ⟨3, 1, 2, (N : Int) + 1, c⟩) := fun V => by have h := hear_k (HK.out.gone hNb) V; rw [hc] at h; exact h
      have C3 : ∀ V : World, Calls Try.prog 24 #[.agg (siA ⟨2, zL, ByteArray.empty, false⟩), .agg #[.int .i64 3, .int .u8 1, .int .u8 2, .int .i64 ((N : Int) + 1), .string c]] V (MPost V (sH (N : Int) c) ⟨4, 2, 1, (N : Int) + 1, ⟨#[]⟩⟩) := fun V => by have h := hear_k (HK.out.come hNb) V; rw [hc] at h; exact h
      rw [hc] at k3 k4 k5 k6
      have C4 : ∀ V : World, Calls Try.prog 19 #[.agg (siA (sH (N : Int) c)), .int .u8 (r8 : Int)] V (LPostN V 75 (Kb.map (ntB (r8 : Int) ((N : Int) + 1))) 0) := fun V => by have h := speak_c (sH (N : Int) c) (r8 : Int) V; rw [k5, k6] at h; exact h
      have C5 : ∀ V : World, Calls Try.prog 19 #[.agg (siA (sG (N : Int) c)), .int .u8 (r8 : Int)] V (LPostN V 75 [] 7) := fun V => by have h := speak_c (sG (N : Int) c) (r8 : Int) V; rw [k3, k4] at h; exact h
      clear k1 k2 k3 k4 k5 k6 hc hlt
      go_wp2_with (first | (first | ((with_reducible refine st_load 45 _ g4 ?_ ha Try.underlying45 ?_ ?_ ?_); exact rfl; exact rfl; exact Try.zSc) | ((with_reducible refine st_loadG 45 _ g4 ?_ ha Try.underlying45 ?_ ?_ ?_ ?_); exact rfl; exact rfl; exact Try.zSc; exact rfl)))
      (with_reducible refine (C1 _).mono ?_)
      rintro e w101 ⟨A2, n2, q2, rfl, h4, b101⟩
      have r103_a := le_on ha b101
      have r103_l := (hx).on b101
      have r103_m := (hm).on b101
      have l103 := le_tr hw b101
      clear ha hx hm hw
      clear b101
      have hb := RL.start h4.rr
      clear h4
      go_wp2_with fail
      (with_reducible refine (spoken_c A2 n2 q2 mb Kb M (r8 : Int) (N : Int) _ (hb).rr r103_m HSP.out (by omega) (by omega)).mono ?_)
      rintro e w104 ⟨rfl, b104⟩
      have r106_a := le_on r103_a b104
      have r106_l := (r103_l).on b104
      have r106_m := (r103_m).on b104
      have l106 := le_tr l103 b104
      clear r103_a r103_l r103_m hb l103
      clear b104
      go_wp2_with (first | (first | ((with_reducible refine st_load 45 _ g4 ?_ r106_a Try.underlying45 ?_ ?_ ?_); exact rfl; exact rfl; exact Try.zSc) | ((with_reducible refine st_loadG 45 _ g4 ?_ r106_a Try.underlying45 ?_ ?_ ?_ ?_); exact rfl; exact rfl; exact Try.zSc; exact rfl)) | ((with_reducible refine st_builtk4 68 (v0 := .int .i64 2) (v1 := .int .u8 2) (v2 := .int .u8 1) (v3 := .int .i64 (N : Int)) ?_ ?_ ?_ ?_ (built_m4 (N : Int)) ?_); exact rfl; exact rfl; exact rfl; exact rfl))
      (with_reducible refine (C2 _).mono ?_)
      rintro e w107 ⟨A3, q3, rfl, h5, b107⟩
      have r109_a := le_on r106_a b107
      have r109_l := (r106_l).on b107
      have r109_m := (r106_m).on b107
      have l109 := le_tr l106 b107
      clear r106_a r106_l r106_m l106
      clear b107
      go_wp2_with (first | ((with_reducible refine st_store 45 _ _ g4 (siA (sG (N : Int) c)) ?_ ?_ r109_a ?_ ?_ ?_ ?_); exact rfl; exact rfl; exact Try.zSc; exact rfl; exact siA_one _))
      refine ⟨fun V110 n110 k110 => ?_⟩
      have m110_l := (r109_l).wr k110 up4
      have m110_m := (r109_m).wr k110 r109_a
      have m110_ms := RS.wr (h5) k110 r109_a (by decide)
      have o110 := k110.bel _ _ l109 up4
      clear k110
      clear r109_a r109_l r109_m h5 l109
      obtain ⟨g3, o3, hA3, hr3⟩ := ms_el m110_ms
      subst hA3
      have hr4 : V110.rangeAt g3 o3 #[.int .i64 3, .int .u8 1, .int .u8 2, .int .i64 ((N : Int) + 1), .string c].toList := hr3
      clear hr3
      go_wp2_with (first | ((with_reducible refine st_builtk1 45 (v0 := .int .u8 2) ?_ (built_s0 2) ?_); exact rfl) | ((with_reducible refine st_elem 68 _ g3 (o3) (#[.int .i64 3, .int .u8 1, .int .u8 2, .int .i64 ((N : Int) + 1), .string c]) ?_ hr4 Try.underlying68 ?_ ?_ ?_); exact rfl; exact rfl; exact Try.zMc))
      (with_reducible refine (C3 _).mono ?_)
      rintro e w111 ⟨A4, q4, rfl, h6, b111⟩
      have r113_a := le_on n110 b111
      have r113_l := (m110_l).on b111
      have r113_m := (m110_m).on b111
      have l113 := le_tr o110 b111
      clear n110 m110_l m110_m o110
      clear b111
      clear h6
      go_wp2_with (first | ((with_reducible refine st_alloc 45 (siA zS) ?_ ?_); exact zero_sc))
      refine ⟨fun V114 g114 n114 f114 => ?_⟩
      have ne114_a := f114.ne r113_a
      have up114 : w.heap.size ≤ g114 := f114.up l113
      have bl114 := f114.bel
      clear f114
      have r116_a := le_on r113_a bl114
      have r116_l := (r113_l).on bl114
      have r116_m := (r113_m).on bl114
      have l116 := le_tr l113 bl114
      clear r113_a r113_l r113_m l113
      clear bl114
      go_wp2_with (first | ((with_reducible refine st_store 45 _ _ g114 (siA (sH (N : Int) c)) ?_ ?_ n114 ?_ ?_ ?_ ?_); exact rfl; exact rfl; exact Try.zSc; exact rfl; exact siA_one _))
      refine ⟨fun V117 n117 k117 => ?_⟩
      have m117_a := k117.on r116_a ne114_a
      have m117_l := (r116_l).wr k117 up114
      have m117_m := (r116_m).wr k117 n114
      have o117 := k117.bel _ _ l116 up114
      clear k117
      clear n114 r116_a r116_l r116_m l116
      go_wp2_with (first | (first | ((with_reducible refine st_load 45 _ g114 ?_ n117 Try.underlying45 ?_ ?_ ?_); exact rfl; exact rfl; exact Try.zSc) | ((with_reducible refine st_loadG 45 _ g114 ?_ n117 Try.underlying45 ?_ ?_ ?_ ?_); exact rfl; exact rfl; exact Try.zSc; exact rfl)))
      (with_reducible refine (C4 _).mono ?_)
      rintro e w118 ⟨A5, n5, q5, rfl, h7, b118⟩
      have r120_a := le_on m117_a b118
      have r120_d := le_on n117 b118
      have r120_l := (m117_l).on b118
      have r120_m := (m117_m).on b118
      have l120 := le_tr o117 b118
      clear m117_a n117 m117_l m117_m o117
      clear b118
      have hb := RL.start h7.rr
      clear h7
      go_wp2_with (first | (first | ((with_reducible refine st_load 45 _ g4 ?_ r120_a Try.underlying45 ?_ ?_ ?_); exact rfl; exact rfl; exact Try.zSc) | ((with_reducible refine st_loadG 45 _ g4 ?_ r120_a Try.underlying45 ?_ ?_ ?_ ?_); exact rfl; exact rfl; exact Try.zSc; exact rfl)))
      (with_reducible refine (C5 _).mono ?_)
      rintro e w121 ⟨A6, n6, q6, rfl, h8, b121⟩
      have r123_a := le_on r120_a b121
      have r123_d := le_on r120_d b121
      have r123_l := (r120_l).on b121
      have r123_m := (r120_m).on b121
      have r123_af := (hb).on b121
      have l123 := le_tr l120 b121
      clear r120_a r120_d r120_l r120_m hb l120
      clear b121
      clear h8
      go_wp2_with fail
      (with_reducible refine (spoken_c A5 n5 q5 mb Kb M (r8 : Int) ((N : Int) + 1) _ (r123_af).rr r123_m HSP.out (by omega) (by omega)).mono ?_)
      rintro e w124 ⟨rfl, b124⟩
      have r126_a := le_on r123_a b124
      have r126_d := le_on r123_d b124
      have r126_l := (r123_l).on b124
      have r126_m := (r123_m).on b124
      have r126_af := (r123_af).on b124
      have l126 := le_tr l123 b124
      clear r123_a r123_d r123_l r123_m r123_af l123
      clear b124
      go_wp2_with fail
      go_ret
      exact ⟨rfl, l126⟩
end Go.Proofs.Ytfdboahcaiolgaa
