/-
  values, Pack of package agent; the document's N. Conditions: the ballots can be read; there are no more than may be, and each may be, where values is called.
-/
import Derived.Test.YtfdboahcaiolgaaAgC
import Derived.Test.YtfdboahcaiolgaaAgD
import Derived.Test.YtfdboahcaiolgaaStg
set_option linter.unusedVariables false
set_option linter.unusedSimpArgs false
namespace Go.Proofs.Ytfdboahcaiolgaa
open Go.RowKit
open Dk (Nt InN RightN BoundN MsgN NoMsg KindN EpN bound_n)


/-- Two values side by side. -/
def v2A (p : Dk.CV × Dk.CV) : Array Value := #[.int .u64 (p.1.n : Int), .string p.1.s, .int .u64 (p.2.n : Int), .string p.2.s]
theorem v2A_one (p : Dk.CV × Dk.CV) : (v2A p).all (·.oneCell') = true := by simp [v2A, Value.oneCell']
theorem v2A_size (p : Dk.CV × Dk.CV) : (v2A p).size = 4 := rfl
theorem rc_v2A (a b : Dk.CV) : (v2A (a, b)).toList = rc vcl [a, b] := rfl
theorem fill_2v (a b : Dk.CV) : Instr.fill (fun i => some (i * 2, 2)) ((Array.range (2 * 2)).map ((Value.agg #[.int .u64 0, .string ⟨#[]⟩]).cells[· % (Value.agg #[.int .u64 0, .string ⟨#[]⟩]).cells.size]!)) [(0, .agg (vA a)), (1, .agg (vA b))] = some (v2A (a, b)) := by kernel_rfl
/-- A ballot that may be is made of small natural numbers. -/
theorem nat_b {b : Bl} (h : MayB b) : ∃ t v : Nat, b = ⟨(t : Int), (v : Int)⟩ ∧ t < 1000 ∧ v ≤ 2 := by
  unfold MayB at h
  exact ⟨b.tx.toNat, b.vt.toNat, Bl.ext_ (by simp only; omega) (by simp only; omega), by omega, by omega⟩
theorem cvG_next {L : List Bl} {k t v : Nat} (hx : L[k]? = some ⟨(t : Int), (v : Int)⟩) : cvG (L.take (k + 1)) = cvG (L.take k) ++ [⟨t, ByteArray.empty⟩, ⟨v, ByteArray.empty⟩] := by
  rw [take_snoc hx, cvG_snoc]; rfl
/-- A call gave values, or bytes, back. -/
def GVPost (w : World) (l : List Dk.CV) (e : Ending) (w' : World) : Prop := ∃ B q, e = .returned (.slice B l.length q) ∧ RR w' vcl 2 B l.length q l ∧ Below w.heap.size w w'
theorem GVPost.mk_ {w w' : World} {B : Option Addr} {n q : Nat} {l : List Dk.CV} {G : Option Nat} {T : TypeId} {N : Nat} (h : SO N w' T vcl 2 B n q l G) (hb : Below w.heap.size w w') : GVPost w l (.returned (.slice B n q)) w' := by
  have hl := h.len
  subst hl
  exact ⟨B, q, rfl, h.rr, hb⟩
theorem bPk_yes {L : List Bl} (h : RightB L) : ePk L = 0 ∧ bPk L = Dk.mkS (encG L) := ⟨if_pos h, if_pos h⟩
theorem bPk_no {L : List Bl} (h : ¬ RightB L) : ePk L = 2 ∧ bPk L = ⟨#[]⟩ := ⟨if_neg h, if_neg h⟩
theorem shS_max {n : Nat} (h : n ≤ 1000000) : (Dk.mkS (shG n)).size ≤ maxLen := by rw [Dk.mkS_size, shG_length]; simp only [maxLen]; omega
/-- The bytes of a text, as a slice that is new. -/
theorem conv_B (w : World) (s : ByteArray) (hs : s.size ≤ maxLen) : ∃ c V', (convert 9 77 (.string s)).run Try.prog w = .ok (.slice (some ⟨w.heap.size, 0, none⟩) s.size c) V' ∧ RR V' bcl 1 (some ⟨w.heap.size, 0, none⟩) s.size c (Dk.bl s) ∧ Below w.heap.size w V' := by
  refine ⟨_, _, Lib.run_convert_string_bytes (P := Try.prog) w 9 77 5 s Try.underlying9 Try.underlying77 Try.underlying5, ⟨Dk.bl_length s, grownCap_ge w s.size 0 5, grownCap_le_maxLen w s.size 0 5 hs, fun hn => ⟨w.heap.size, 0, rfl, fun i v hv => ?_⟩⟩, ⟨rfl, rfl, rfl, by rw [Lib.bytesWorld_size]; omega, fun i hi => Lib.bytesWorld_at_old w 5 s i hi⟩⟩
  rw [rc_bcl] at hv
  have hil : i < (Dk.bc (Dk.bl s)).length := (List.getElem?_eq_some_iff.1 hv).1
  have hi2 : i < s.size := by rw [Dk.bc_length, Dk.bl_length] at hil; exact hil
  rw [Nat.zero_add, Lib.bytesWorld_cell w 5 s i hi2]
  unfold Dk.bc at hv
  rw [List.getElem?_map] at hv
  unfold Dk.bl at hv
  rw [List.getD_eq_getElem?_getD]
  cases hx : s.data.toList[i]? with
  | none => rw [hx] at hv; cases hv
  | some x => rw [hx] at hv; simpa using hv
set_option maxRecDepth 100000 in
set_option maxHeartbeats 4000000 in
theorem gvals_c (A : Option Addr) (n q : Nat) (L : List Bl) (w : World) (h : RR w dcl 2 A n q L) (hn : n ≤ 50) (hm : ∀ b ∈ L, MayB b) : Calls Try.prog 29 #[.slice A n q] w (GVPost w (cvG L)) := by
  have hx := RL.start h
  have hlen := Lib.hid h.len
  clear h
  obtain ⟨m2, hm2⟩ : ∃ m, 2 * n = m := ⟨_, rfl⟩
  have e2 : 2 * (n : Int) = (m2 : Int) := by omega
  have w2 : IntKind.i64.wrap (2 * (n : Int)) = (m2 : Int) := by rw [e2]; exact IntWalk.i64_in _ (by omega)
  have M2 := Lib.hid hm2
  have hmb : m2 ≤ 100 := by omega
  clear hm2
  go_enter Try.func29, Try.ntmps29
  go_wp2_with (first | ((with_reducible refine st_make (c := vcl) (s := 2) 81 96 _ _ m2 ?_ ?_ Try.underlying81 Try.infoVc (by omega) (by simp only [maxLen]; omega) ?_); exact rfl; exact rfl))
  refine ⟨fun V1 g1 n1 f1 => ?_⟩
  have up1 : w.heap.size ≤ g1 := Nat.le_of_eq f1.at_
  have so1 : SO w.heap.size V1 96 vcl 2 (some ⟨g1, 0, none⟩) 0 m2 [] (some g1) := ⟨n1.seg, fun g e => by cases e; exact up1⟩
  have bl1 := f1.bel
  clear f1 n1
  have r3_l := (hx).on bl1
  have l3 := le_tr (Below.refl _ _) bl1
  clear hx
  clear bl1
  go_wp2_with fail
  go_loopw [3, 12] (fun sv iv wr => ∃ (k : Nat) (B : Option Addr) (c : Nat) (G : Option Nat), k ≤ n ∧ iv = .int .i64 k ∧ sv = .slice B (2 * k) c ∧ RL w wr dcl 2 A n q L ∧ SO w.heap.size wr 96 vcl 2 B (2 * k) c (cvG (L.take k)) G ∧ Below w.heap.size w wr) (fun _ iv _ => n - (intOf iv).toNat)
  case atStart => exact ⟨0, some ⟨g1, 0, none⟩, m2, some g1, by omega, rfl, rfl, r3_l, so1, l3⟩
  case round =>
    obtain ⟨k, B, c, G, hk, rfl, rfl, hx, hs, hw⟩ := hrel
    by_cases hlt : k < n
    · skip
      obtain ⟨g, off, x, hxk, hA, _⟩ := hx.rr.elem hlt
      subst hA
      obtain ⟨t, u, rfl, ht, hu⟩ := nat_b (hm x (List.mem_of_getElem? hxk))
      have l1 : (k : Int) < n := by omega
      have HN := Lib.hid (cvG_next hxk)
      have zt : IntKind.u64.wrap (t : Int) = (t : Int) := IntWalk.u64_in _ (by omega)
      have zu : IntKind.u64.wrap (u : Int) = (u : Int) := IntWalk.u64_in _ (by omega)
      have hr2 : wr.rangeAt g (off + k * 2) (btA ⟨(t : Int), (u : Int)⟩).toList := RR.elemAt hx.rr hxk rfl
      clear hxk
      go_wp2_with (first | ((with_reducible refine st_elem 49 _ g (off + k * 2) (btA ⟨(t : Int), (u : Int)⟩) ?_ hr2 Try.underlying49 ?_ ?_ ?_); exact rfl; exact rfl; exact Try.zBc) | ((with_reducible refine st_alloc 49 (btA zB) ?_ ?_); exact zero_bc))
      refine ⟨fun V101 g101 n101 f101 => ?_⟩
      have no101_s := SO.fresh hs (Nat.le_of_eq f101.at_)
      have up101 : w.heap.size ≤ g101 := f101.up hw
      have bl101 := f101.bel
      clear f101
      have r102_s := SO.on hs bl101
      have r103_l := (hx).on bl101
      have l103 := le_tr hw bl101
      clear hx hw
      clear hs
      clear bl101
      go_wp2_with (first | ((with_reducible refine st_store 49 _ _ g101 (btA ⟨(t : Int), (u : Int)⟩) ?_ ?_ n101 ?_ ?_ ?_ ?_); exact rfl; exact rfl; exact Try.zBc; exact rfl; exact btA_one _))
      refine ⟨fun V104 n104 k104 => ?_⟩
      have m104_l := (r103_l).wr k104 up101
      have m104_s := SO.wr r102_s k104 no101_s
      have o104 := k104.bel _ _ l103 up101
      clear k104
      clear n101 r103_l r102_s l103
      clear hr2
      have c105 : V104.cell? ⟨g101, 0, none⟩ = some (.int .i64 (t : Int)) := CB.cell n104 0
      have c106 : V104.cell? ⟨g101, 1, none⟩ = some (.int .i64 (u : Int)) := CB.cell n104 1
      go_wp2_with (first | ((with_reducible refine st_builtk1 96 ?_  ?_ ?_); exact rfl; exact built_v1 t) | ((with_reducible refine st_builtk1 96 ?_  ?_ ?_); exact rfl; exact built_v1 u) | ((with_reducible refine st_lits2 81 96 (v0 := .agg (vA ⟨t, ByteArray.empty⟩)) (v1 := .agg (vA ⟨u, ByteArray.empty⟩)) (v2A (⟨t, ByteArray.empty⟩, ⟨u, ByteArray.empty⟩)) ?_ ?_ Try.underlying81 Try.lit_vc (by decide) (by decide) (fill_2v ⟨t, ByteArray.empty⟩ ⟨u, ByteArray.empty⟩) ?_); exact rfl; exact rfl))
      refine ⟨fun V107 g107 n107 f107 => ?_⟩
      clear c105 c106
      have ne107_b := f107.ne n104
      have no107_s := SO.fresh m104_s (Nat.le_of_eq f107.at_)
      have up107 : w.heap.size ≤ g107 := f107.up o104
      have bl107 := f107.bel
      clear f107
      have r108_s := SO.on m104_s bl107
      have r109_b := le_on n104 bl107
      have r109_l := (m104_l).on bl107
      have l109 := le_tr o104 bl107
      clear n104 m104_l o104
      clear m104_s
      clear bl107
      go_wp2_with (first | ((with_reducible refine st_app (.tmp 16) (.tmp 25) 81 96 Try.underlying81 Try.infoVc rfl (by decide) (A := B) (n := (2 * k)) (c := c) (G := G) rfl r108_s.seg (As := (some ⟨g107, 0, none⟩)) (m := 2) (k := 2) rfl (Src.box2 n107 rfl) (all_list (v2A_one _)) (by simp only [maxLen]; omega) (by omega) (2 * k + 2) (by omega) ?_)))
      refine ⟨fun B110 m110 q110 w110 s110 h110 k110 => ?_⟩
      have s110 : Seg w110 96 2 B110 (2 * k + 2) m110 (rc vcl (cvG (L.take k) ++ [⟨t, ByteArray.empty⟩, ⟨u, ByteArray.empty⟩])) q110 := by rw [rc_append, ← rc_v2A]; exact s110
      have hg110 : ∀ g, G = some g → w.heap.size ≤ g := fun g e => r108_s.hi g e
      have so110 : SO w.heap.size w110 96 vcl 2 B110 (2 * k + 2) m110 (cvG (L.take k) ++ [⟨t, ByteArray.empty⟩, ⟨u, ByteArray.empty⟩]) q110 := ⟨s110, k110.ge (l109).size hg110⟩
      have e110_b := CB.same r109_b (h110.block _ (CB.lt r109_b) (fun e => no101_s _ e.symm rfl))
      have na110_b := moved_ne k110 (CB.lt r109_b) no101_s
      have e110_q := CB.same n107 (h110.block _ (CB.lt n107) (fun e => no107_s _ e.symm rfl))
      have na110_q := moved_ne k110 (CB.lt n107) no107_s
      have e110_l := (r109_l).grow h110 hg110
      have lw110 := (l109).grown h110 (l109).size hg110
      clear h110 k110 s110 hg110 r108_s r109_b no101_s n107 no107_s r109_l l109
      go_wp2_with fail
      go_roundw
      case rel => exact ⟨k + 1, B110, m110, q110, by omega, by go_num, by rw [show 2 * (k + 1) = 2 * k + 2 by omega], e110_l, by rw [HN.out, show 2 * (k + 1) = 2 * k + 2 by omega]; exact so110, lw110⟩
      case measure => simp [intOf]; omega
    · skip
      obtain rfl : k = n := by omega
      have g1 : ¬ ((k : Int) < k) := by omega
      have hs2 : SO w.heap.size wr 96 vcl 2 B (2 * k) c (cvG L) G := by rw [List.take_of_length_le (by rw [hlen.out]; exact Nat.le_refl _)] at hs; exact hs
      clear hs hlt
      go_wp2_with fail
      go_ret
      exact GVPost.mk_ hs2 hw
set_option maxRecDepth 100000 in
set_option maxHeartbeats 4000000 in
theorem gpack_c (A : Option Addr) (n q : Nat) (L : List Bl) (w : World) (h : RR w dcl 2 A n q L) : Calls Try.prog 10 #[.slice A n q] w fun zz w' => zz = .returned (.tuple #[.string (bPk L), .int .i64 ((ePk L : Nat) : Int)]) ∧ Below w.heap.size w w' := by
  have hlen := h.len
  have hmx := (RL.start h).max
  have hx := RL.start h
  have CR := fun V (hV : RL w V dcl 2 A n q L) => gright_c A n q L V hV.rr
  by_cases hr : RightB L
  rotate_left
  · skip
    obtain ⟨b1, b2⟩ := bPk_no hr
    have B1 := Lib.hid b1
    have B2 := Lib.hid b2
    simp only [decide_eq_false hr] at CR
    clear b1 b2 hr
    go_enter Try.func10, Try.ntmps10
    go_wp2_with fail
    (with_reducible refine (CR _ hx).mono ?_)
    rintro e w1 ⟨rfl, b1⟩
    have r3_l := (hx).on b1
    have l3 := le_tr (Below.refl _ _) b1
    clear hx
    clear b1
    go_wp2_with fail
    exact bodyPost_ret (v := .tuple #[.string ⟨#[]⟩, .int .i64 2]) (by simp [results, Try.results10, go_sem]) rfl ⟨by rw [B1.out, B2.out] <;> rfl, l3⟩
  obtain ⟨b1, b2⟩ := bPk_yes hr
  obtain ⟨e1, e2⟩ := encG_ok hr
  have B1 := Lib.hid b1
  have B2 := Lib.hid b2
  have hn : n ≤ 50 := by have := hr.1; omega
  have hmy := hr.2.1
  have ho := okV_cvG hmy
  have CS := fun V => shape_c n V (by omega)
  have hsm := shS_max (n := n) (by omega)
  have CE : ∀ V B c, RR V vcl 2 B (cvG L).length c (cvG L) → Calls Try.prog 27 #[.string (Dk.mkS (shG n)), .slice B (cvG L).length c] V (YPost V (encG L) 0) := fun V B c hV => by
    have := enc_C B c (cvG L) V (Dk.mkS (shG n)) hsm hV ho
    rw [Dk.bl_mkS, ← hlen, e1, e2] at this
    rw [← hlen]
    exact this
  simp only [decide_eq_true hr] at CR
  obtain ⟨S, hS⟩ : ∃ S, Dk.mkS (shG n) = S := ⟨_, rfl⟩
  simp only [hS] at CS CE hsm
  have HL := Lib.hid hlen
  obtain ⟨l, hl⟩ : ∃ l, cvG L = l := ⟨_, rfl⟩
  clear b1 b2 e1 e2 hr hS hlen
  have CV := fun V (hV : RL w V dcl 2 A n q L) => gvals_c A n q L V hV.rr hn hmy
  simp only [hl] at CV CE ho
  clear hl
  go_enter Try.func10, Try.ntmps10
  go_wp2_with fail
  (with_reducible refine (CR _ hx).mono ?_)
  rintro e w1 ⟨rfl, b1⟩
  have r3_l := (hx).on b1
  have l3 := le_tr (Below.refl _ _) b1
  clear hx
  clear b1
  go_wp2_with fail
  (with_reducible refine (CS _).mono ?_)
  rintro e w4 ⟨rfl, b4⟩
  have r6_l := (r3_l).on b4
  have l6 := le_tr l3 b4
  clear r3_l l3
  clear b4
  go_wp2_with fail
  (with_reducible refine (CV _ r6_l).mono ?_)
  rintro e w7 ⟨B3, q3, rfl, h3, b7⟩
  have r9_l := (r6_l).on b7
  have l9 := le_tr l6 b7
  clear r6_l l6
  clear b7
  go_wp2_with fail
  (with_reducible refine (CE _ _ _ h3).mono ?_)
  rintro e w10 ⟨A4, n4, q4, rfl, h4, b10⟩
  have r12_l := (r9_l).on b10
  have l12 := le_tr l9 b10
  clear r9_l l9
  clear b10
  have cv := conv_C h4
  go_wp2_with fail
  exact bodyPost_ret (v := .tuple #[.string (Dk.mkS (encG L)), .int .i64 0]) (by simp [results, Try.results10, go_sem]) rfl ⟨by rw [B1.out, B2.out] <;> rfl, l12⟩
set_option maxRecDepth 100000 in
set_option maxHeartbeats 4000000 in
theorem gn_r (x : Nat) (w : World) : Calls Try.prog 31 #[.int .u64 (x : Int)] w fun zz w' => zz = .returned (.agg (vA ⟨x, ByteArray.empty⟩)) ∧ Below w.heap.size w w' := by
  go_enter Try.func31, Try.ntmps31
  go_wp2_with (first | ((with_reducible refine st_alloc 87 (vA zV) ?_ ?_); exact zero_vr))
  refine ⟨fun V1 g1 n1 f1 => ?_⟩
  have up1 : w.heap.size ≤ g1 := Nat.le_of_eq f1.at_
  have bl1 := f1.bel
  clear f1
  have l3 := le_tr (Below.refl _ _) bl1
  clear bl1
  go_wp2_with (first | ((with_reducible refine st_builtk1 87 ?_  ?_ ?_); exact rfl; exact built_u1 x) | ((with_reducible refine st_store 87 _ _ g1 (vA ⟨x, ByteArray.empty⟩) ?_ ?_ n1 ?_ ?_ ?_ ?_); exact rfl; exact rfl; exact Try.zVr; exact rfl; exact vA_one _))
  refine ⟨fun V4 n4 k4 => ?_⟩
  have o4 := k4.bel _ _ l3 up1
  clear k4
  clear n1 l3
  go_wp2_with fail
  exact bodyPost_ret (v := .agg (vA ⟨x, ByteArray.empty⟩)) (res_one Try.results31 rfl n4 Try.underlying87 rfl Try.zVr) rfl ⟨rfl, o4⟩
end Go.Proofs.Ytfdboahcaiolgaa
