/-
  Layer 16: clone and from of package party. Conditions: the packets can be read, a thousand at most.
-/
import Derived.Test.YtcfdfimkgehdfaaQaB
set_option linter.unusedVariables false
set_option linter.unusedSimpArgs false
namespace Go.Proofs.Ytcfdfimkgehdfaa
open Go.RowKit

/-- Behind a call that hands one back who says. -/
def OPost (w : World) (nx : Int) (n : Nat) (rm : Int) (L : List Pk) (e : Ending) (w' : World) : Prop :=
  ∃ A c G, e = .returned (.agg (oA ⟨nx, A, n, c, rm⟩)) ∧ SO w.heap.size w' 70 pcl 2 A n c L G ∧ Below w.heap.size w w'
/-- Behind a call that hands a list of packets back. -/
def WPost (w : World) (L : List Pk) (e : Ending) (w' : World) : Prop :=
  ∃ A n c G, e = .returned (.slice A n c) ∧ SO w.heap.size w' 70 pcl 2 A n c L G ∧ Below w.heap.size w w'
theorem flt_yes {L : List Pk} {k : Nat} {p : Pk} {h : Int} (hp : L[k]? = some p) (hh : h ≤ p.seq) : (L.take (k + 1)).filter (fun p => decide (h ≤ p.seq)) = (L.take k).filter (fun p => decide (h ≤ p.seq)) ++ [p] := by
  rw [List.take_add_one, hp, List.filter_append]
  simp [hh]
theorem flt_no {L : List Pk} {k : Nat} {p : Pk} {h : Int} (hp : L[k]? = some p) (hh : ¬ h ≤ p.seq) : (L.take (k + 1)).filter (fun p => decide (h ≤ p.seq)) = (L.take k).filter (fun p => decide (h ≤ p.seq)) := by
  rw [List.take_add_one, hp, List.filter_append]
  simp; omega
theorem flt_len (L : List Pk) (k : Nat) (h : Int) : ((L.take k).filter (fun p => decide (h ≤ p.seq))).length ≤ k := Nat.le_trans (List.length_filter_le _ _) (by simp; omega)
set_option maxRecDepth 100000 in
set_option maxHeartbeats 4000000 in
theorem clone_p (nx : Int) (A : Option Addr) (n c : Nat) (L : List Pk) (rm : Int) (w : World) (h : RR w pcl 2 A n c L) (hn3 : n ≤ 1000) : Calls Try.prog 52 #[.agg (oA ⟨nx, A, n, c, rm⟩)] w (OPost w nx n rm L) := by
  have hlen := h.len
  have hl := RL.start h
  have hmx := hl.max
  clear h
  go_enter Try.func52, Try.ntmps52
  go_wp2_with (first | ((with_reducible refine st_box 64 _ (oA ⟨nx, A, n, c, rm⟩) ?_ ?_); exact rfl))
  refine ⟨fun V1 g1 n1 f1 => ?_⟩
  have up1 : w.heap.size ≤ g1 := Nat.le_of_eq f1.at_
  have bl1 := f1.bel
  clear f1
  have r3_l := (hl).on bl1
  have l3 := le_tr (Below.refl _ _) bl1
  clear hl
  clear bl1
  go_wp2_with (first | ((with_reducible refine st_alloc 64 (oA zeroO) ?_ ?_); exact zero_ou))
  refine ⟨fun V4 g4 n4 f4 => ?_⟩
  have ne4_o := f4.ne n1
  have up4 : w.heap.size ≤ g4 := f4.up l3
  have bl4 := f4.bel
  clear f4
  have r6_o := le_on n1 bl4
  have r6_l := (r3_l).on bl4
  have l6 := le_tr l3 bl4
  clear n1 r3_l l3
  clear bl4
  have c7 : V4.cell? ⟨g1, 1, none⟩ = some (.slice A n c) := CB.cell r6_o 1
  go_wp2_with (first | ((with_reducible refine st_app (.const (.slice none 0 0)) (.tmp 4) 62 70 Try.underlying62 Try.infoP rfl (by decide) (A := none) (n := 0) (c := 0) (G := none) rfl (Seg.nil _ _ _) (As := A) (m := n) (k := c) rfl r6_l.rr.src (rc_one 2 L) (by simp only [maxLen]; omega) (by omega) (n) (by omega) ?_)))
  refine ⟨fun B8 m8 q8 w8 s8 h8 k8 => ?_⟩
  clear c7
  have s8 : Seg w8 70 2 B8 (n) m8 (rc pcl (L)) q8 := by simpa using s8
  have so8 : SO w.heap.size w8 70 pcl 2 B8 (n) m8 (L) q8 := ⟨s8, k8.ge (l6).size (fun g e => by cases e)⟩
  have e8_o := CB.same r6_o (h8.block _ (CB.lt r6_o) (by simp))
  have na8_o := moved_ne k8 (CB.lt r6_o) (fun b e => by cases e)
  have e8_r := CB.same n4 (h8.block _ (CB.lt n4) (by simp))
  have na8_r := moved_ne k8 (CB.lt n4) (fun b e => by cases e)
  have e8_l := (r6_l).grow h8 (fun g e => by cases e)
  have lw8 := (l6).grown h8 (l6).size (fun g e => by cases e)
  clear h8 k8 s8 r6_o n4 r6_l l6
  go_wp2_with (first | ((with_reducible refine st_cell 62 _ _ g1 1 (.slice B8 n m8) ?_ ?_ e8_o (new := oA ⟨nx, B8, n, m8, rm⟩) ?_ ?_ ?_ ?_ ?_ ?_); exact rfl; exact rfl; exact (by rw [oA_size]; decide); exact oA_w _ _ _ _; exact one_pp; exact rfl; exact rfl))
  refine ⟨fun V9 n9 k9 => ?_⟩
  have m9_r := k9.on e8_r (Ne.symm ne4_o)
  have m9_l := (e8_l).wr k9 up1
  have m9_s := SO.wr so8 k9 na8_o
  have o9 := k9.bel _ _ lw8 up1
  clear k9
  clear e8_o e8_r e8_l so8 lw8
  go_wp2_with (first | ((with_reducible refine st_load 64 _ g1 ?_ n9 Try.underlying64 ?_ ?_ ?_); exact rfl; exact rfl; exact Try.zOu) | ((with_reducible refine st_store 64 _ _ g4 (oA ⟨nx, B8, n, m8, rm⟩) ?_ ?_ m9_r ?_ ?_ ?_ ?_); exact rfl; exact rfl; exact Try.zOu; exact rfl; exact oA_one _))
  refine ⟨fun V10 n10 k10 => ?_⟩
  have m10_o := k10.on n9 ne4_o
  have m10_l := (m9_l).wr k10 up4
  have m10_s := SO.wr m9_s k10 na8_r
  have o10 := k10.bel _ _ o9 up4
  clear k10
  clear m9_r n9 m9_l m9_s o9
  go_wp2_with fail
  exact bodyPost_ret (v := .agg (oA ⟨nx, B8, n, m8, rm⟩)) (res_one Try.results52 rfl n10 Try.underlying64 rfl Try.zOu) rfl ⟨B8, m8, q8, rfl, m10_s, o10⟩
set_option maxRecDepth 100000 in
set_option maxHeartbeats 4000000 in
theorem from_c (A : Option Addr) (n c : Nat) (L : List Pk) (h : Int) (w : World) (hw : RR w pcl 2 A n c L) (hn3 : n ≤ 1000) : Calls Try.prog 53 #[.slice A n c, .int .i64 h] w (WPost w (L.filter (fun p => decide (h ≤ p.seq)))) := by
  have hlen := Lib.hid hw.len
  have hl := RL.start hw
  have hmx := hl.max
  clear hw
  go_enter Try.func53, Try.ntmps53
  go_wp2_with fail
  go_loopw [5, 10] (fun sv iv wr => ∃ (k : Nat) (B : Option Addr) (m q : Nat) (G : Option Nat), k ≤ n ∧ iv = .int .i64 k ∧ sv = .slice B m q ∧ RL w wr pcl 2 A n c L ∧ SO w.heap.size wr 70 pcl 2 B m q ((L.take k).filter (fun p => decide (h ≤ p.seq))) G ∧ Below w.heap.size w wr) (fun _ iv _ => n - (intOf iv).toNat)
  case atStart => exact ⟨0, none, 0, 0, none, by omega, rfl, rfl, hl, SO.nil _ _ _ _ _, Below.refl _ _⟩
  case round =>
    clear hl
    obtain ⟨k, B, m, q, G, hk, rfl, rfl, hx, hs, hb⟩ := hrel
    by_cases hlt : k < n
    · obtain ⟨ga, ofa, p, hp, rfl, hr⟩ := hx.rr.elem hlt
      have hr2 : wr.rangeAt ga (ofa + k * 2) (pA p).toList := hr
      have l1 : (k : Int) < n := by omega
      have l2 : (0 : Int) ≤ (k : Int) := by omega
      have hm : m ≤ k := by rw [← hs.len]; exact flt_len L k h
      by_cases hh : h ≤ p.seq
      · have HN := Lib.hid (flt_yes hp hh)
        have q1 : decide (p.seq ≥ h) = true := by simp [hh]
        have q2 : decide (h ≤ p.seq) = true := by simp [hh]
        clear hh hp
        go_wp2_with (first | ((with_reducible refine st_elem 70 _ ga (ofa + k * 2) (pA p) ?_ hr2 Try.underlying70 ?_ ?_ ?_); exact rfl; exact rfl; exact Try.zPk) | ((with_reducible refine st_alloc 70 (pA zeroP) ?_ ?_); exact zero_pk))
        refine ⟨fun V101 g101 n101 f101 => ?_⟩
        have no101_s := SO.fresh hs (Nat.le_of_eq f101.at_)
        have up101 : w.heap.size ≤ g101 := f101.up hb
        have bl101 := f101.bel
        clear f101
        have r102_s := SO.on hs bl101
        have r103_l := (hx).on bl101
        have l103 := le_tr hb bl101
        clear hx hb
        clear hs
        clear bl101
        go_wp2_with (first | ((with_reducible refine st_store 70 _ _ g101 (pA p) ?_ ?_ n101 ?_ ?_ ?_ ?_); exact rfl; exact rfl; exact Try.zPk; exact rfl; exact pA_one _))
        refine ⟨fun V104 n104 k104 => ?_⟩
        have m104_l := (r103_l).wr k104 up101
        have m104_s := SO.wr r102_s k104 no101_s
        have o104 := k104.bel _ _ l103 up101
        clear k104
        clear n101 r103_l r102_s l103
        have c105 : V104.cell? ⟨g101, 0, none⟩ = some (.int .i64 (p.seq)) := CB.cell n104 0
        go_wp2_with (first | ((with_reducible refine st_load 70 _ g101 ?_ n104 Try.underlying70 ?_ ?_ ?_); exact rfl; exact rfl; exact Try.zPk) | ((with_reducible refine st_lit1 62 70 _ (pA p) ?_ Try.underlying62 Try.infoP2 rfl (by decide) (by decide) ?_); exact rfl))
        refine ⟨fun V106 g106 n106 f106 => ?_⟩
        clear c105
        have ne106_p := f106.ne n104
        have no106_s := SO.fresh m104_s (Nat.le_of_eq f106.at_)
        have up106 : w.heap.size ≤ g106 := f106.up o104
        have bl106 := f106.bel
        clear f106
        have r107_s := SO.on m104_s bl106
        have r108_p := le_on n104 bl106
        have r108_l := (m104_l).on bl106
        have l108 := le_tr o104 bl106
        clear n104 m104_l o104
        clear m104_s
        clear bl106
        go_wp2_with (first | ((with_reducible refine st_app (.tmp 18) (.tmp 20) 62 70 Try.underlying62 Try.infoP rfl (by decide) (A := B) (n := m) (c := q) (G := G) rfl r107_s.seg (As := (some ⟨g106, 0, none⟩)) (m := 1) (k := 1) rfl (Src.box n106 rfl) (all_list (pA_one _)) (by simp only [maxLen]; omega) (by omega) (m + 1) (by omega) ?_)))
        refine ⟨fun B109 m109 q109 w109 s109 h109 k109 => ?_⟩
        have s109 : Seg w109 70 2 B109 (m + 1) m109 (rc pcl ((L.take k).filter (fun p => decide (h ≤ p.seq)) ++ [p])) q109 := by rw [← rc_snoc]; exact s109
        have hg109 : ∀ g, G = some g → w.heap.size ≤ g := fun g e => r107_s.hi g e
        have so109 : SO w.heap.size w109 70 pcl 2 B109 (m + 1) m109 ((L.take k).filter (fun p => decide (h ≤ p.seq)) ++ [p]) q109 := ⟨s109, k109.ge (l108).size hg109⟩
        have e109_p := CB.same r108_p (h109.block _ (CB.lt r108_p) (fun e => no101_s _ e.symm rfl))
        have na109_p := moved_ne k109 (CB.lt r108_p) no101_s
        have e109_q := CB.same n106 (h109.block _ (CB.lt n106) (fun e => no106_s _ e.symm rfl))
        have na109_q := moved_ne k109 (CB.lt n106) no106_s
        have e109_l := (r108_l).grow h109 hg109
        have lw109 := (l108).grown h109 (l108).size hg109
        clear h109 k109 s109 hg109 r107_s r108_p no101_s n106 no106_s r108_l l108
        go_wp2_with fail
        go_roundw
        case rel => exact ⟨k + 1, B109, m + 1, m109, q109, by omega, by go_num, rfl, e109_l, by rw [HN.out]; exact so109, lw109⟩
        case measure => simp [intOf]; omega
      have HN := Lib.hid (flt_no hp hh)
      have q1 : decide (p.seq ≥ h) = false := by simp; omega
      have q2 : decide (h ≤ p.seq) = false := by simp; omega
      clear hh hp
      go_wp2_with (first | ((with_reducible refine st_elem 70 _ ga (ofa + k * 2) (pA p) ?_ hr2 Try.underlying70 ?_ ?_ ?_); exact rfl; exact rfl; exact Try.zPk) | ((with_reducible refine st_alloc 70 (pA zeroP) ?_ ?_); exact zero_pk))
      refine ⟨fun V101 g101 n101 f101 => ?_⟩
      have no101_s := SO.fresh hs (Nat.le_of_eq f101.at_)
      have up101 : w.heap.size ≤ g101 := f101.up hb
      have bl101 := f101.bel
      clear f101
      have r102_s := SO.on hs bl101
      have r103_l := (hx).on bl101
      have l103 := le_tr hb bl101
      clear hx hb
      clear hs
      clear bl101
      go_wp2_with (first | ((with_reducible refine st_store 70 _ _ g101 (pA p) ?_ ?_ n101 ?_ ?_ ?_ ?_); exact rfl; exact rfl; exact Try.zPk; exact rfl; exact pA_one _))
      refine ⟨fun V104 n104 k104 => ?_⟩
      have m104_l := (r103_l).wr k104 up101
      have m104_s := SO.wr r102_s k104 no101_s
      have o104 := k104.bel _ _ l103 up101
      clear k104
      clear n101 r103_l r102_s l103
      have c105 : V104.cell? ⟨g101, 0, none⟩ = some (.int .i64 (p.seq)) := CB.cell n104 0
      go_wp2_with fail
      go_roundw
      case rel => exact ⟨k + 1, B, m, q, G, by omega, by go_num, rfl, m104_l, by rw [HN.out]; exact m104_s, o104⟩
      case measure => simp [intOf]; omega
    obtain rfl : k = n := by omega
    have hs2 : SO w.heap.size wr 70 pcl 2 B m q (L.filter (fun p => decide (h ≤ p.seq))) G := by rw [List.take_of_length_le (by rw [hlen.out]; exact Nat.le_refl _)] at hs; exact hs
    go_wp2_with fail
    go_ret
    exact ⟨B, m, q, G, rfl, hs2, hb⟩
end Go.Proofs.Ytcfdfimkgehdfaa
