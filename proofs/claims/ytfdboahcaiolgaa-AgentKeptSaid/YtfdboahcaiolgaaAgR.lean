/-
  side, ours, theirs, same, notes of the laws. Conditions: the slices can be read; theirs: no longer than the laws let them be; same, notes: the two lists are equal.
-/
import Derived.Test.YtfdboahcaiolgaaAgA
import Derived.Test.YtfdboahcaiolgaaMgA
set_option linter.unusedVariables false
set_option linter.unusedSimpArgs false
namespace Go.Proofs.Ytfdboahcaiolgaa
open Go.RowKit
open Dk (Nt InN RightN BoundN MsgN NoMsg KindN EpN bound_n)


theorem st_builtk2 {P : Program} {ops : Array Oper} {rest : List Oper} {dst : Option Tmp} {ty : TypeId} {pos : String} {aft : Array Edge} {a : Act} {w : World} {Q : Exit → Act → World → Prop} (T : TypeId) {i0 i1 : Nat} {x0 x1 : Operand} {v0 v1 : Value} {cs : Array Value} (h0 : a.eval x0 = v0) (h1 : a.eval x1 = v1) (hb : P.built T [(i0, v0), (i1, v1)] = some cs)
    (k : wpList P ops Q rest (a.put dst (.agg cs)) w) : wpList P ops Q (⟨dst, .build T #[(i0, x0), (i1, x1)], ty, pos, aft, none⟩ :: rest) a w := by
  have h : P.built T ((#[(i0, x0), (i1, x1)] : Array (Nat × Operand)).map fun (i, x) => (i, a.eval x)).toList = some cs := by simpa [h0, h1] using hb
  exact wpList_build rfl T #[(i0, x0), (i1, x1)] rfl (by rw [h]; rfl) (by rw [h]; exact k)
theorem st_builtk4 {P : Program} {ops : Array Oper} {rest : List Oper} {dst : Option Tmp} {ty : TypeId} {pos : String} {aft : Array Edge} {a : Act} {w : World} {Q : Exit → Act → World → Prop} (T : TypeId) {i0 i1 i2 i3 : Nat} {x0 x1 x2 x3 : Operand} {v0 v1 v2 v3 : Value} {cs : Array Value} (h0 : a.eval x0 = v0) (h1 : a.eval x1 = v1) (h2 : a.eval x2 = v2) (h3 : a.eval x3 = v3) (hb : P.built T [(i0, v0), (i1, v1), (i2, v2), (i3, v3)] = some cs)
    (k : wpList P ops Q rest (a.put dst (.agg cs)) w) : wpList P ops Q (⟨dst, .build T #[(i0, x0), (i1, x1), (i2, x2), (i3, x3)], ty, pos, aft, none⟩ :: rest) a w := by
  have h : P.built T ((#[(i0, x0), (i1, x1), (i2, x2), (i3, x3)] : Array (Nat × Operand)).map fun (i, x) => (i, a.eval x)).toList = some cs := by simpa [h0, h1, h2, h3] using hb
  exact wpList_build rfl T #[(i0, x0), (i1, x1), (i2, x2), (i3, x3)] rfl (by rw [h]; rfl) (by rw [h]; exact k)
theorem st_builtk2G {P : Program} {ops : Array Oper} {rest : List Oper} {dst : Option Tmp} {ty : TypeId} {pos : String} {aft : Array Edge} {gd : Nat × Bool} {a : Act} {w : World} {Q : Exit → Act → World → Prop} (T : TypeId) {i0 i1 : Nat} {x0 x1 : Operand} {v0 v1 : Value} {cs : Array Value} (h0 : a.eval x0 = v0) (h1 : a.eval x1 = v1) (hb : P.built T [(i0, v0), (i1, v1)] = some cs) (hw : Region.wanted ⟨dst, .build T #[(i0, x0), (i1, x1)], ty, pos, aft, some gd⟩ (yielded ops a.tmps) = true)
    (k : wpList P ops Q rest (a.put dst (.agg cs)) w) : wpList P ops Q (⟨dst, .build T #[(i0, x0), (i1, x1)], ty, pos, aft, some gd⟩ :: rest) a w :=
  wpList_step fun K hK => by
    have h := run_build (P := P) w T #[(i0, v0), (i1, v1)] cs hb
    rw [if_pos hw]
    unfold Oper.wp execOp
    simp [Sem.run_bind, h0, h1, h]
    exact hK _ _ k
theorem st_builtk5G {P : Program} {ops : Array Oper} {rest : List Oper} {dst : Option Tmp} {ty : TypeId} {pos : String} {aft : Array Edge} {gd : Nat × Bool} {a : Act} {w : World} {Q : Exit → Act → World → Prop} (T : TypeId) {i0 i1 i2 i3 i4 : Nat} {x0 x1 x2 x3 x4 : Operand} {v0 v1 v2 v3 v4 : Value} {cs : Array Value} (h0 : a.eval x0 = v0) (h1 : a.eval x1 = v1) (h2 : a.eval x2 = v2) (h3 : a.eval x3 = v3) (h4 : a.eval x4 = v4) (hb : P.built T [(i0, v0), (i1, v1), (i2, v2), (i3, v3), (i4, v4)] = some cs) (hw : Region.wanted ⟨dst, .build T #[(i0, x0), (i1, x1), (i2, x2), (i3, x3), (i4, x4)], ty, pos, aft, some gd⟩ (yielded ops a.tmps) = true)
    (k : wpList P ops Q rest (a.put dst (.agg cs)) w) : wpList P ops Q (⟨dst, .build T #[(i0, x0), (i1, x1), (i2, x2), (i3, x3), (i4, x4)], ty, pos, aft, some gd⟩ :: rest) a w :=
  wpList_step fun K hK => by
    have h := run_build (P := P) w T #[(i0, v0), (i1, v1), (i2, v2), (i3, v3), (i4, v4)] cs hb
    rw [if_pos hw]
    unfold Oper.wp execOp
    simp [Sem.run_bind, h0, h1, h2, h3, h4, h]
    exact hK _ _ k
theorem siA_plc (s : Sd) : (siA s).extract 1 (1 + (lsA s.l).size) = lsA s.l := siA_pl s
theorem siA_plr (s : Sd) : (siA s).extract 1 (1 + (lsA s.l).size) = lsA s.l := siA_pl s
theorem yl_built6 {P : Program} {ev : Operand → Value} {dst : Option Tmp} {ty : TypeId} {pos : String} {aft : Array Edge} {gd : Option (Nat × Bool)} {w : World} (T : TypeId) (x0 x1 x2 x3 x4 x5 : Operand) (v0 v1 v2 v3 v4 v5 : Value) (cs : Array Value) (h0 : ev x0 = v0) (h1 : ev x1 = v1) (h2 : ev x2 = v2) (h3 : ev x3 = v3) (h4 : ev x4 = v4) (h5 : ev x5 = v5) (hb : P.built T [(0, v0), (1, v1), (2, v2), (3, v3), (4, v4), (5, v5)] = some cs) :
    (execOp ev ⟨dst, .build T #[(0, x0), (1, x1), (2, x2), (3, x3), (4, x4), (5, x5)], ty, pos, aft, gd⟩).run P w = .ok (.value (.agg cs)) w := by
  have h := run_build (P := P) w T #[(0, v0), (1, v1), (2, v2), (3, v3), (4, v4), (5, v5)] cs hb
  unfold execOp
  simp [Sem.run_bind, h0, h1, h2, h3, h4, h5, h]
set_option maxRecDepth 100000 in
set_option maxHeartbeats 4000000 in
theorem side_c (s : Sd) (w : World) : Calls Try.prog 17 #[.agg (siA s)] w fun zz w' => zz = .returned (.agg (siA s)) ∧ Below w.heap.size w w' := by
  go_enter Try.func17, Try.ntmps17
  go_wp2_with (first | ((with_reducible refine st_box 40 _ (siA s) ?_ ?_); exact rfl))
  refine ⟨fun V1 g1 n1 f1 => ?_⟩
  have up1 : w.heap.size ≤ g1 := Nat.le_of_eq f1.at_
  have bl1 := f1.bel
  clear f1
  have l3 := le_tr (Below.refl _ _) bl1
  clear bl1
  go_wp2_with (first | ((with_reducible refine st_alloc 45 (siA zS) ?_ ?_); exact zero_sc))
  refine ⟨fun V4 g4 n4 f4 => ?_⟩
  have ne4_s := f4.ne n1
  have up4 : w.heap.size ≤ g4 := f4.up l3
  have bl4 := f4.bel
  clear f4
  have r6_s := le_on n1 bl4
  have l6 := le_tr l3 bl4
  clear n1 l3
  clear bl4
  have c7 : V4.cell? ⟨g1, 0, none⟩ = some (.int .u8 (s.me)) := CB.cell r6_s 0
  have c8 : V4.cell? ⟨g1, 4, none⟩ = some (.string (s.cg)) := CB.cell r6_s 4
  have c9 : V4.cell? ⟨g1, 5, none⟩ = some (.bool (s.kp)) := CB.cell r6_s 5
  go_wp2_with (first | ((with_reducible refine st_part 38 _ g1 1 ?_ (pt := lsA (s.l)) r6_s ?_ Try.underlying38 ?_ ?_ ?_); exact rfl; exact siA_plr _; exact rfl; exact Try.zLr) | ((with_reducible refine st_builtk4 45 (v0 := .int .u8 s.me) (v1 := .agg (lsA s.l)) (v2 := .string s.cg) (v3 := .bool s.kp) ?_ ?_ ?_ ?_ (built_s4 s) ?_); exact rfl; exact rfl; exact rfl; exact rfl) | ((with_reducible refine st_store 45 _ _ g4 (siA s) ?_ ?_ n4 ?_ ?_ ?_ ?_); exact rfl; exact rfl; exact Try.zSc; exact rfl; exact siA_one _))
  refine ⟨fun V10 n10 k10 => ?_⟩
  clear c7 c8 c9
  have m10_s := k10.on r6_s ne4_s
  have o10 := k10.bel _ _ l6 up4
  clear k10
  clear n4 r6_s l6
  go_wp2_with fail
  exact bodyPost_ret (v := .agg (siA s)) (res_one Try.results17 rfl n10 Try.underlying45 rfl Try.zSc) rfl ⟨rfl, o10⟩
set_option maxRecDepth 100000 in
set_option maxHeartbeats 4000000 in
theorem ours_c (s : Sd) (w : World) : Calls Try.prog 21 #[.agg (siA s)] w fun zz w' => zz = .returned (.agg (siA s)) ∧ Below w.heap.size w w' := by
  go_enter Try.func21, Try.ntmps21
  go_wp2_with (first | ((with_reducible refine st_box 45 _ (siA s) ?_ ?_); exact rfl))
  refine ⟨fun V1 g1 n1 f1 => ?_⟩
  have up1 : w.heap.size ≤ g1 := Nat.le_of_eq f1.at_
  have bl1 := f1.bel
  clear f1
  have l3 := le_tr (Below.refl _ _) bl1
  clear bl1
  go_wp2_with (first | ((with_reducible refine st_alloc 40 (siA zS) ?_ ?_); exact zero_sr))
  refine ⟨fun V4 g4 n4 f4 => ?_⟩
  have ne4_s := f4.ne n1
  have up4 : w.heap.size ≤ g4 := f4.up l3
  have bl4 := f4.bel
  clear f4
  have r6_s := le_on n1 bl4
  have l6 := le_tr l3 bl4
  clear n1 l3
  clear bl4
  have c7 : V4.cell? ⟨g1, 0, none⟩ = some (.int .u8 (s.me)) := CB.cell r6_s 0
  have c8 : V4.cell? ⟨g1, 4, none⟩ = some (.string (s.cg)) := CB.cell r6_s 4
  have c9 : V4.cell? ⟨g1, 5, none⟩ = some (.bool (s.kp)) := CB.cell r6_s 5
  go_wp2_with (first | ((with_reducible refine st_part 43 _ g1 1 ?_ (pt := lsA (s.l)) r6_s ?_ Try.underlying43 ?_ ?_ ?_); exact rfl; exact siA_plc _; exact rfl; exact Try.zLc) | ((with_reducible refine st_builtk4 40 (v0 := .int .u8 s.me) (v1 := .agg (lsA s.l)) (v2 := .string s.cg) (v3 := .bool s.kp) ?_ ?_ ?_ ?_ (built_q4 s) ?_); exact rfl; exact rfl; exact rfl; exact rfl) | ((with_reducible refine st_store 40 _ _ g4 (siA s) ?_ ?_ n4 ?_ ?_ ?_ ?_); exact rfl; exact rfl; exact Try.zSr; exact rfl; exact siA_one _))
  refine ⟨fun V10 n10 k10 => ?_⟩
  clear c7 c8 c9
  have m10_s := k10.on r6_s ne4_s
  have o10 := k10.bel _ _ l6 up4
  clear k10
  clear n4 r6_s l6
  go_wp2_with fail
  exact bodyPost_ret (v := .agg (siA s)) (res_one Try.results21 rfl n10 Try.underlying40 rfl Try.zSr) rfl ⟨rfl, o10⟩
set_option maxRecDepth 100000 in
set_option maxHeartbeats 4000000 in
theorem theirs_c (A : Option Addr) (n q : Nat) (L : List Bl) (w : World) (h : RR w dcl 2 A n q L) (hn : n ≤ 600) : Calls Try.prog 11 #[.slice A n q] w (fun e w' => ∃ B m c, e = .returned (.slice B m c) ∧ RS w' 49 dcl 2 B m c L ∧ Below w.heap.size w w') := by
  have hx := RL.start h
  have hlen := Lib.hid h.len
  clear h
  go_enter Try.func11, Try.ntmps11
  go_wp2_with fail
  go_loopw [3, 8] (fun sv iv wr => ∃ (k : Nat) (B : Option Addr) (c : Nat) (G : Option Nat), k ≤ n ∧ iv = .int .i64 k ∧ sv = .slice B k c ∧ RL w wr dcl 2 A n q L ∧ SO w.heap.size wr 49 dcl 2 B k c (L.take k) G ∧ Below w.heap.size w wr) (fun _ iv _ => n - (intOf iv).toNat)
  case atStart => exact ⟨0, none, 0, none, by omega, rfl, rfl, hx, SO.nil _ _ _ _ _, Below.refl _ _⟩
  case round =>
    clear hx
    obtain ⟨k, B, c, G, hk, rfl, rfl, hx, hm, hw⟩ := hrel
    by_cases hlt : k < n
    · skip
      obtain ⟨g, off, x, hxk, hA, _⟩ := hx.rr.elem hlt
      subst hA
      have HN := Lib.hid (take_snoc hxk)
      have l1 : (k : Int) < (n : Int) := by omega
      have hr2 : wr.rangeAt g (off + k * 2) (btA x).toList := RR.elemAt hx.rr hxk rfl
      clear hxk
      go_wp2_with (first | ((with_reducible refine st_elem 42 _ g (off + k * 2) (btA x) ?_ hr2 Try.underlying42 ?_ ?_ ?_); exact rfl; exact rfl; exact Try.zBr) | ((with_reducible refine st_alloc 42 (btA zB) ?_ ?_); exact zero_br))
      refine ⟨fun V101 g101 n101 f101 => ?_⟩
      have no101_m := SO.fresh hm (Nat.le_of_eq f101.at_)
      have up101 : w.heap.size ≤ g101 := f101.up hw
      have bl101 := f101.bel
      clear f101
      have r102_m := SO.on hm bl101
      have r103_l := (hx).on bl101
      have l103 := le_tr hw bl101
      clear hx hw
      clear hm
      clear bl101
      go_wp2_with (first | ((with_reducible refine st_store 42 _ _ g101 (btA x) ?_ ?_ n101 ?_ ?_ ?_ ?_); exact rfl; exact rfl; exact Try.zBr; exact rfl; exact btA_one _))
      refine ⟨fun V104 n104 k104 => ?_⟩
      have m104_l := (r103_l).wr k104 up101
      have m104_m := SO.wr r102_m k104 no101_m
      have o104 := k104.bel _ _ l103 up101
      clear k104
      clear n101 r103_l r102_m l103
      clear hr2
      go_wp2_with (first | ((with_reducible refine st_load 42 _ g101 ?_ n104 Try.underlying42 ?_ ?_ ?_); exact rfl; exact rfl; exact Try.zBr) | ((with_reducible refine st_lit1 27 49 _ (btA x) ?_ Try.underlying27 Try.lit_bc rfl (by decide) (by decide) ?_); exact rfl))
      refine ⟨fun V105 g105 n105 f105 => ?_⟩
      have ne105_b := f105.ne n104
      have no105_m := SO.fresh m104_m (Nat.le_of_eq f105.at_)
      have up105 : w.heap.size ≤ g105 := f105.up o104
      have bl105 := f105.bel
      clear f105
      have r106_m := SO.on m104_m bl105
      have r107_b := le_on n104 bl105
      have r107_l := (m104_l).on bl105
      have l107 := le_tr o104 bl105
      clear n104 m104_l o104
      clear m104_m
      clear bl105
      go_wp2_with (first | ((with_reducible refine st_app (.tmp 12) (.tmp 14) 27 49 Try.underlying27 Try.infoBc rfl (by decide) (A := B) (n := k) (c := c) (G := G) rfl r106_m.seg (As := (some ⟨g105, 0, none⟩)) (m := 1) (k := 1) rfl (Src.box n105 rfl) (all_list (btA_one _)) (by simp only [maxLen]; omega) (by omega) (k + 1) (by omega) ?_)))
      refine ⟨fun B108 m108 q108 w108 s108 h108 k108 => ?_⟩
      have s108 : Seg w108 49 2 B108 (k + 1) m108 (rc dcl (L.take k ++ [x])) q108 := by rw [← rc_snoc]; exact s108
      have hg108 : ∀ g, G = some g → w.heap.size ≤ g := fun g e => r106_m.hi g e
      have so108 : SO w.heap.size w108 49 dcl 2 B108 (k + 1) m108 (L.take k ++ [x]) q108 := ⟨s108, k108.ge (l107).size hg108⟩
      have e108_b := CB.same r107_b (h108.block _ (CB.lt r107_b) (fun e => no101_m _ e.symm rfl))
      have na108_b := moved_ne k108 (CB.lt r107_b) no101_m
      have e108_q := CB.same n105 (h108.block _ (CB.lt n105) (fun e => no105_m _ e.symm rfl))
      have na108_q := moved_ne k108 (CB.lt n105) no105_m
      have e108_l := (r107_l).grow h108 hg108
      have lw108 := (l107).grown h108 (l107).size hg108
      clear h108 k108 s108 hg108 r106_m r107_b no101_m n105 no105_m r107_l l107
      go_wp2_with fail
      go_roundw
      case rel => exact ⟨k + 1, B108, m108, q108, by omega, by go_num, rfl, e108_l, by rw [HN.out]; exact so108, lw108⟩
      case measure => simp [intOf]; omega
    · skip
      obtain rfl : k = n := by omega
      have gz0 : ¬ ((k : Int) < (k : Int)) := by omega
      have hm2 : RS wr 49 dcl 2 B k c L := by have := SO.rs hm; rw [List.take_of_length_le (by rw [hlen.out]; exact Nat.le_refl _)] at this; exact this
      clear hm hlt
      go_wp2_with fail
      go_ret
      exact ⟨B, k, c, rfl, hm2, hw⟩
set_option maxRecDepth 100000 in
set_option maxHeartbeats 4000000 in
theorem same_c (A A2 : Option Addr) (n q m q2 : Nat) (L : List Bl) (w : World) (h : RR w dcl 2 A n q L) (h2 : RR w dcl 2 A2 m q2 L) : Calls Try.prog 15 #[.slice A n q, .slice A2 m q2] w fun e w' => e = .returned (.bool true) ∧ Below w.heap.size w w' := by
  have hx := RL.start h
  have hy := RL.start h2
  have hnm : m = n := by rw [← h.len, ← h2.len]
  subst hnm
  have hmx := (RL.start h2).max
  clear h h2
  go_enter Try.func15, Try.ntmps15
  go_wp2_with fail
  go_loopw [13] (fun iv wr => ∃ (k : Nat), k ≤ m ∧ iv = .int .i64 k ∧ RL w wr dcl 2 A m q L ∧ RL w wr dcl 2 A2 m q2 L ∧ Below w.heap.size w wr) (fun iv _ => m - (intOf iv).toNat)
  case atStart => exact ⟨0, by omega, rfl, hx, hy, Below.refl _ _⟩
  case round =>
    clear hx hy
    obtain ⟨k, hk, rfl, hx, hy, hw⟩ := hrel
    by_cases hlt : k < m
    · skip
      obtain ⟨g, off, x, hxk, hA, _⟩ := hx.rr.elem hlt
      subst hA
      obtain ⟨g2, off2, y, hyk, hA2, _⟩ := hy.rr.elem hlt
      subst hA2
      obtain rfl : x = y := by rw [hxk] at hyk; exact Option.some.inj hyk
      have l1 : (k : Int) < (m : Int) := by omega
      have HX := Lib.hid hxk
      have E : ∀ V : World, (Op.equalIn 10000 42 (.agg (btA x)) (.agg (btA x))).run Try.prog V = .ok true V := fun V => by have := eq_br x x V; rw [eqB_refl] at this; exact this
      clear hxk hyk
      go_wp2_with fail
      have y101 := Lib.hid (show (fun V : World => RL w V dcl 2 (some ⟨g, off, none⟩) m q L ∧ RL w V dcl 2 (some ⟨g2, off2, none⟩) m q2 L) wr.drew from ⟨(hx).drew, (hy).drew⟩)
      refine wp_region_held_drew (S := (fun V : World => RL w V dcl 2 (some ⟨g, off, none⟩) m q L ∧ RL w V dcl 2 (some ⟨g2, off2, none⟩) m q2 L)) (by kernel_rfl) y101.out (fun hHeld => ?_)
      obtain ⟨D101, hD101⟩ : ∃ V, wr.drew = V := ⟨_, rfl⟩
      have b101 : Below wr.heap.size wr D101 := by rw [← hD101]; exact le_dr (Below.refl _ _)
      rw [hD101] at hHeld ⊢
      clear hD101
      have r103_l := (hx).on b101
      have r103_y := (hy).on b101
      have l103 := le_tr hw b101
      clear hx hy hw
      clear b101
      refine wpAnyH_takeL (i := 0) (d := some 16) (v := .slice (some ⟨g, off, none⟩) m q) rfl rfl (by kernel_rfl) (by kernel_rfl) (by kernel_rfl) (fun _ _ _ h => h) (Or.inl ⟨by rfl, ?_⟩) hHeld ?_
      · intro w hSw; (try dsimp only at hSw); go_simp
      try simp only [Act.put, List.setIfInBounds_toArray, List.set_cons_zero, List.set_cons_succ]
      refine wpAnyH_takeL (i := 1) (d := some 17) (v := .int .i64 (k : Int)) rfl rfl (by kernel_rfl) (by kernel_rfl) (by kernel_rfl) (fun _ _ _ h => h) (Or.inl ⟨by rfl, ?_⟩) hHeld ?_
      · intro w hSw; (try dsimp only at hSw); go_simp
      try simp only [Act.put, List.setIfInBounds_toArray, List.set_cons_zero, List.set_cons_succ]
      refine wpAnyH_takeL (i := 2) (d := some 18) (v := .pointer (some ⟨g, off + k * 2, none⟩)) rfl rfl (by kernel_rfl) (by kernel_rfl) (by kernel_rfl) (fun _ _ _ h => h) (Or.inl ⟨by rfl, ?_⟩) hHeld ?_
      · intro w hSw; (try dsimp only at hSw); go_simp
      try simp only [Act.put, List.setIfInBounds_toArray, List.set_cons_zero, List.set_cons_succ]
      refine wpAnyH_takeL (i := 3) (d := some 19) (v := .agg (btA x)) rfl rfl (by kernel_rfl) (by kernel_rfl) (by kernel_rfl) (fun _ _ _ h => h) (Or.inl ⟨by rfl, ?_⟩) hHeld ?_
      · intro w hSw; exact yl_elem 49 _ g (off + k * 2) (btA x) rfl (RR.elemAt hSw.1.rr HX.out rfl) Try.underlying49 rfl Try.zBc
      try simp only [Act.put, List.setIfInBounds_toArray, List.set_cons_zero, List.set_cons_succ]
      refine wpAnyH_takeL (i := 4) (d := some 20) (v := .slice (some ⟨g2, off2, none⟩) m q2) rfl rfl (by kernel_rfl) (by kernel_rfl) (by kernel_rfl) (fun _ _ _ h => h) (Or.inl ⟨by rfl, ?_⟩) hHeld ?_
      · intro w hSw; (try dsimp only at hSw); go_simp
      try simp only [Act.put, List.setIfInBounds_toArray, List.set_cons_zero, List.set_cons_succ]
      refine wpAnyH_takeL (i := 5) (d := some 21) (v := .int .i64 (k : Int)) rfl rfl (by kernel_rfl) (by kernel_rfl) (by kernel_rfl) (fun _ _ _ h => h) (Or.inl ⟨by rfl, ?_⟩) hHeld ?_
      · intro w hSw; (try dsimp only at hSw); go_simp
      try simp only [Act.put, List.setIfInBounds_toArray, List.set_cons_zero, List.set_cons_succ]
      refine wpAnyH_takeL (i := 6) (d := some 22) (v := .pointer (some ⟨g2, off2 + k * 2, none⟩)) rfl rfl (by kernel_rfl) (by kernel_rfl) (by kernel_rfl) (fun _ _ _ h => h) (Or.inl ⟨by rfl, ?_⟩) hHeld ?_
      · intro w hSw; (try dsimp only at hSw); go_simp
      try simp only [Act.put, List.setIfInBounds_toArray, List.set_cons_zero, List.set_cons_succ]
      refine wpAnyH_takeL (i := 7) (d := some 23) (v := .agg (btA x)) rfl rfl (by kernel_rfl) (by kernel_rfl) (by kernel_rfl) (fun _ _ _ h => h) (Or.inl ⟨by rfl, ?_⟩) hHeld ?_
      · intro w hSw; exact yl_elem 42 _ g2 (off2 + k * 2) (btA x) rfl (RR.elemAt hSw.2.rr HX.out rfl) Try.underlying42 rfl Try.zBr
      try simp only [Act.put, List.setIfInBounds_toArray, List.set_cons_zero, List.set_cons_succ]
      refine wpAnyH_takeL (i := 8) (d := some 24) (v := .bool false) rfl rfl (by kernel_rfl) (by kernel_rfl) (by kernel_rfl) (fun _ _ _ h => h) (Or.inl ⟨by rfl, ?_⟩) hHeld ?_
      · intro w hSw; have hE := E w; go_simp
      try simp only [Act.put, List.setIfInBounds_toArray, List.set_cons_zero, List.set_cons_succ]
      refine wpAnyH_done (by kernel_rfl) ?_ _
      go_wp2_with fail
      go_roundw
      case rel => exact ⟨k + 1, by omega, by go_num, r103_l, r103_y, l103⟩
      case measure => simp [intOf]; omega
    · skip
      obtain rfl : k = m := by omega
      have gz0 : ¬ ((k : Int) < (k : Int)) := by omega
      clear hlt
      go_wp2_with fail
      go_ret
      exact ⟨rfl, hw⟩
set_option maxRecDepth 100000 in
set_option maxHeartbeats 4000000 in
theorem notes_c (A A2 : Option Addr) (n q m q2 : Nat) (L : List Nt) (w : World) (h : RR w ncl 10 A n q L) (h2 : RR w ncl 10 A2 m q2 L) : Calls Try.prog 22 #[.slice A n q, .slice A2 m q2] w fun e w' => e = .returned (.bool true) ∧ Below w.heap.size w w' := by
  have hx := RL.start h
  have hy := RL.start h2
  have hnm : m = n := by rw [← h.len, ← h2.len]
  subst hnm
  have hmx := (RL.start h2).max
  clear h h2
  go_enter Try.func22, Try.ntmps22
  go_wp2_with fail
  go_loopw [14] (fun iv wr => ∃ (k : Nat), k ≤ m ∧ iv = .int .i64 k ∧ RL w wr ncl 10 A m q L ∧ RL w wr ncl 10 A2 m q2 L ∧ Below w.heap.size w wr) (fun iv _ => m - (intOf iv).toNat)
  case atStart => exact ⟨0, by omega, rfl, hx, hy, Below.refl _ _⟩
  case round =>
    clear hx hy
    obtain ⟨k, hk, rfl, hx, hy, hw⟩ := hrel
    by_cases hlt : k < m
    · skip
      obtain ⟨g, off, x, hxk, hA, _⟩ := hx.rr.elem hlt
      subst hA
      obtain ⟨g2, off2, y, hyk, hA2, _⟩ := hy.rr.elem hlt
      subst hA2
      obtain rfl : x = y := by rw [hxk] at hyk; exact Option.some.inj hyk
      have l1 : (k : Int) < (m : Int) := by omega
      have HX := Lib.hid hxk
      have hr2 : wr.rangeAt g (off + k * 10) (ntA x).toList := RR.elemAt hx.rr hxk rfl
      have E : ∀ V : World, (Op.equalIn 10000 109 (.agg (ntA x)) (.agg (ntA x))).run Try.prog V = .ok true V := fun V => by have := eq_nr x x V; rw [eqN_refl] at this; exact this
      clear hxk hyk
      go_wp2_with (first | ((with_reducible refine st_elem 75 _ g (off + k * 10) (ntA x) ?_ hr2 Try.underlying75 ?_ ?_ ?_); exact rfl; exact rfl; exact Try.zNc) | ((with_reducible refine st_alloc 75 (ntA zN) ?_ ?_); exact zero_nc))
      refine ⟨fun V101 g101 n101 f101 => ?_⟩
      have up101 : w.heap.size ≤ g101 := f101.up hw
      have bl101 := f101.bel
      clear f101
      have r103_l := (hx).on bl101
      have r103_y := (hy).on bl101
      have l103 := le_tr hw bl101
      clear hx hy hw
      clear bl101
      go_wp2_with (first | ((with_reducible refine st_store 75 _ _ g101 (ntA x) ?_ ?_ n101 ?_ ?_ ?_ ?_); exact rfl; exact rfl; exact Try.zNc; exact rfl; exact ntA_one _))
      refine ⟨fun V104 n104 k104 => ?_⟩
      have m104_l := (r103_l).wr k104 up101
      have m104_y := (r103_y).wr k104 up101
      have o104 := k104.bel _ _ l103 up101
      clear k104
      clear n101 r103_l r103_y l103
      clear hr2
      go_wp2_with fail
      have y105 := Lib.hid (show (fun V : World => CB V g101 75 (ntA x) ∧ RL w V ncl 10 (some ⟨g2, off2, none⟩) m q2 L) V104.drew from ⟨CB.drew n104, (m104_y).drew⟩)
      refine wp_region_held_drew (S := (fun V : World => CB V g101 75 (ntA x) ∧ RL w V ncl 10 (some ⟨g2, off2, none⟩) m q2 L)) (by kernel_rfl) y105.out (fun hHeld => ?_)
      obtain ⟨D105, hD105⟩ : ∃ V, V104.drew = V := ⟨_, rfl⟩
      have b105 : Below V104.heap.size V104 D105 := by rw [← hD105]; exact le_dr (Below.refl _ _)
      rw [hD105] at hHeld ⊢
      clear hD105
      have r107_n := le_on n104 b105
      have r107_l := (m104_l).on b105
      have r107_y := (m104_y).on b105
      have l107 := le_tr o104 b105
      clear n104 m104_l m104_y o104
      clear b105
      refine wpAnyH_takeL (i := 0) (d := some 19) (v := .pointer (some ⟨g101, 0, none⟩)) rfl rfl (by kernel_rfl) (by kernel_rfl) (by kernel_rfl) (fun _ _ _ h => h) (Or.inl ⟨by rfl, ?_⟩) hHeld ?_
      · intro w hSw; (try dsimp only at hSw); go_simp
      try simp only [Act.put, List.setIfInBounds_toArray, List.set_cons_zero, List.set_cons_succ]
      refine wpAnyH_takeL (i := 1) (d := some 20) (v := .int .i64 (x.kd)) rfl rfl (by kernel_rfl) (by kernel_rfl) (by kernel_rfl) (fun _ _ _ h => h) (Or.inl ⟨by rfl, ?_⟩) hHeld ?_
      · intro w hSw; (try dsimp only at hSw); have hcc : w.cell? ⟨g101, 0, none⟩ = some (.int .i64 (x.kd)) := CB.cell hSw.1 0; go_simp
      try simp only [Act.put, List.setIfInBounds_toArray, List.set_cons_zero, List.set_cons_succ]
      refine wpAnyH_takeL (i := 2) (d := some 21) (v := .pointer (some ⟨g101, 1, none⟩)) rfl rfl (by kernel_rfl) (by kernel_rfl) (by kernel_rfl) (fun _ _ _ h => h) (Or.inl ⟨by rfl, ?_⟩) hHeld ?_
      · intro w hSw; (try dsimp only at hSw); go_simp
      try simp only [Act.put, List.setIfInBounds_toArray, List.set_cons_zero, List.set_cons_succ]
      refine wpAnyH_takeL (i := 3) (d := some 22) (v := .int .u8 (x.mb)) rfl rfl (by kernel_rfl) (by kernel_rfl) (by kernel_rfl) (fun _ _ _ h => h) (Or.inl ⟨by rfl, ?_⟩) hHeld ?_
      · intro w hSw; (try dsimp only at hSw); have hcc : w.cell? ⟨g101, 1, none⟩ = some (.int .u8 (x.mb)) := CB.cell hSw.1 1; go_simp
      try simp only [Act.put, List.setIfInBounds_toArray, List.set_cons_zero, List.set_cons_succ]
      refine wpAnyH_takeL (i := 4) (d := some 23) (v := .pointer (some ⟨g101, 2, none⟩)) rfl rfl (by kernel_rfl) (by kernel_rfl) (by kernel_rfl) (fun _ _ _ h => h) (Or.inl ⟨by rfl, ?_⟩) hHeld ?_
      · intro w hSw; (try dsimp only at hSw); go_simp
      try simp only [Act.put, List.setIfInBounds_toArray, List.set_cons_zero, List.set_cons_succ]
      refine wpAnyH_takeL (i := 5) (d := some 24) (v := .int .i64 (x.tx)) rfl rfl (by kernel_rfl) (by kernel_rfl) (by kernel_rfl) (fun _ _ _ h => h) (Or.inl ⟨by rfl, ?_⟩) hHeld ?_
      · intro w hSw; (try dsimp only at hSw); have hcc : w.cell? ⟨g101, 2, none⟩ = some (.int .i64 (x.tx)) := CB.cell hSw.1 2; go_simp
      try simp only [Act.put, List.setIfInBounds_toArray, List.set_cons_zero, List.set_cons_succ]
      refine wpAnyH_takeL (i := 6) (d := some 25) (v := .pointer (some ⟨g101, 3, none⟩)) rfl rfl (by kernel_rfl) (by kernel_rfl) (by kernel_rfl) (fun _ _ _ h => h) (Or.inl ⟨by rfl, ?_⟩) hHeld ?_
      · intro w hSw; (try dsimp only at hSw); go_simp
      try simp only [Act.put, List.setIfInBounds_toArray, List.set_cons_zero, List.set_cons_succ]
      refine wpAnyH_takeL (i := 7) (d := some 26) (v := .int .i64 (x.ep)) rfl rfl (by kernel_rfl) (by kernel_rfl) (by kernel_rfl) (fun _ _ _ h => h) (Or.inl ⟨by rfl, ?_⟩) hHeld ?_
      · intro w hSw; (try dsimp only at hSw); have hcc : w.cell? ⟨g101, 3, none⟩ = some (.int .i64 (x.ep)) := CB.cell hSw.1 3; go_simp
      try simp only [Act.put, List.setIfInBounds_toArray, List.set_cons_zero, List.set_cons_succ]
      refine wpAnyH_takeL (i := 8) (d := some 27) (v := .pointer (some ⟨g101, 4, none⟩)) rfl rfl (by kernel_rfl) (by kernel_rfl) (by kernel_rfl) (fun _ _ _ h => h) (Or.inl ⟨by rfl, ?_⟩) hHeld ?_
      · intro w hSw; (try dsimp only at hSw); go_simp
      try simp only [Act.put, List.setIfInBounds_toArray, List.set_cons_zero, List.set_cons_succ]
      refine wpAnyH_takeL (i := 9) (d := some 28) (v := .int .i64 (x.vl)) rfl rfl (by kernel_rfl) (by kernel_rfl) (by kernel_rfl) (fun _ _ _ h => h) (Or.inl ⟨by rfl, ?_⟩) hHeld ?_
      · intro w hSw; (try dsimp only at hSw); have hcc : w.cell? ⟨g101, 4, none⟩ = some (.int .i64 (x.vl)) := CB.cell hSw.1 4; go_simp
      try simp only [Act.put, List.setIfInBounds_toArray, List.set_cons_zero, List.set_cons_succ]
      refine wpAnyH_takeL (i := 10) (d := some 29) (v := .pointer (some ⟨g101, 5, none⟩)) rfl rfl (by kernel_rfl) (by kernel_rfl) (by kernel_rfl) (fun _ _ _ h => h) (Or.inl ⟨by rfl, ?_⟩) hHeld ?_
      · intro w hSw; (try dsimp only at hSw); go_simp
      try simp only [Act.put, List.setIfInBounds_toArray, List.set_cons_zero, List.set_cons_succ]
      refine wpAnyH_takeL (i := 11) (d := some 30) (v := .agg (mgA x)) rfl rfl (by kernel_rfl) (by kernel_rfl) (by kernel_rfl) (fun _ _ _ h => h) (Or.inl ⟨by rfl, ?_⟩) hHeld ?_
      · intro w hSw; exact yl_part 68 _ g101 5 rfl (pt := mgA x) hSw.1 (ntA_pmc _) Try.underlying68 rfl Try.zMc
      try simp only [Act.put, List.setIfInBounds_toArray, List.set_cons_zero, List.set_cons_succ]
      refine wpAnyH_takeL (i := 12) (d := some 31) (v := .agg (ntA x)) rfl rfl (by kernel_rfl) (by kernel_rfl) (by kernel_rfl) (fun _ _ _ h => h) (Or.inl ⟨by rfl, ?_⟩) hHeld ?_
      · intro w hSw; exact yl_built6 109 _ _ _ _ _ _ _ _ _ _ _ _ _ rfl rfl rfl rfl rfl rfl (built_r6 x)
      try simp only [Act.put, List.setIfInBounds_toArray, List.set_cons_zero, List.set_cons_succ]
      refine wpAnyH_takeL (i := 13) (d := some 32) (v := .slice (some ⟨g2, off2, none⟩) m q2) rfl rfl (by kernel_rfl) (by kernel_rfl) (by kernel_rfl) (fun _ _ _ h => h) (Or.inl ⟨by rfl, ?_⟩) hHeld ?_
      · intro w hSw; (try dsimp only at hSw); go_simp
      try simp only [Act.put, List.setIfInBounds_toArray, List.set_cons_zero, List.set_cons_succ]
      refine wpAnyH_takeL (i := 14) (d := some 33) (v := .int .i64 (k : Int)) rfl rfl (by kernel_rfl) (by kernel_rfl) (by kernel_rfl) (fun _ _ _ h => h) (Or.inl ⟨by rfl, ?_⟩) hHeld ?_
      · intro w hSw; (try dsimp only at hSw); go_simp
      try simp only [Act.put, List.setIfInBounds_toArray, List.set_cons_zero, List.set_cons_succ]
      refine wpAnyH_takeL (i := 15) (d := some 34) (v := .pointer (some ⟨g2, off2 + k * 10, none⟩)) rfl rfl (by kernel_rfl) (by kernel_rfl) (by kernel_rfl) (fun _ _ _ h => h) (Or.inl ⟨by rfl, ?_⟩) hHeld ?_
      · intro w hSw; (try dsimp only at hSw); go_simp
      try simp only [Act.put, List.setIfInBounds_toArray, List.set_cons_zero, List.set_cons_succ]
      refine wpAnyH_takeL (i := 16) (d := some 35) (v := .agg (ntA x)) rfl rfl (by kernel_rfl) (by kernel_rfl) (by kernel_rfl) (fun _ _ _ h => h) (Or.inl ⟨by rfl, ?_⟩) hHeld ?_
      · intro w hSw; exact yl_elem 109 _ g2 (off2 + k * 10) (ntA x) rfl (RR.elemAt hSw.2.rr HX.out rfl) Try.underlying109 rfl Try.zNr
      try simp only [Act.put, List.setIfInBounds_toArray, List.set_cons_zero, List.set_cons_succ]
      refine wpAnyH_takeL (i := 17) (d := some 36) (v := .bool false) rfl rfl (by kernel_rfl) (by kernel_rfl) (by kernel_rfl) (fun _ _ _ h => h) (Or.inl ⟨by rfl, ?_⟩) hHeld ?_
      · intro w hSw; have hE := E w; go_simp
      try simp only [Act.put, List.setIfInBounds_toArray, List.set_cons_zero, List.set_cons_succ]
      refine wpAnyH_done (by kernel_rfl) ?_ _
      go_wp2_with fail
      go_roundw
      case rel => exact ⟨k + 1, by omega, by go_num, r107_l, r107_y, l107⟩
      case measure => simp [intOf]; omega
    · skip
      obtain rfl : k = m := by omega
      have gz0 : ¬ ((k : Int) < (k : Int)) := by omega
      clear hlt
      go_wp2_with fail
      go_ret
      exact ⟨rfl, hw⟩
end Go.Proofs.Ytfdboahcaiolgaa
