/-
  Layer 17: the document's Encode. Condition: the bytes are in their type's range.
-/
import Derived.Test.YtbkfepgcnijlfaaNoE
import Derived.Test.YtbkfepgcnijlfaaNoD
set_option linter.unusedVariables false
set_option linter.unusedSimpArgs false
namespace Go.Proofs.Ytbkfepgcnijlfaa
open Go.RowKit
open Dk (Nt InN RightN BoundN MsgN NoMsg KindN EpN bound_n)


/-- A natural number as an element of a slice. -/
def jcl (x : Nat) : List Value := [.int .i64 (x : Int)]
instance : Nonempty (EncOk jcl 1) := ⟨⟨fun _ => rfl, fun x u hu => by simp [jcl] at hu; subst hu; rfl, by omega⟩⟩
def jA (L : List Nat) : Array Value := (rc jcl L).toArray
def zvl (x : Nat) : Dk.CV := ⟨x, ByteArray.empty⟩
theorem fill_nats (a b c d e f g h i : Nat) : Instr.fill (fun i => some (i * 1, 1)) ((Array.range (9 * 1)).map ((Value.int .i64 0).cells[· % (Value.int .i64 0).cells.size]!)) [(0, .int .i64 (a : Int)), (1, .int .i64 (b : Int)), (2, .int .i64 (c : Int)), (3, .int .i64 (d : Int)), (4, .int .i64 (e : Int)), (5, .int .i64 (f : Int)), (6, .int .i64 (g : Int)), (7, .int .i64 (h : Int)), (8, .int .i64 (i : Int))] = some (jA [a, b, c, d, e, f, g, h, i]) := by kernel_rfl
theorem Try.infoV : (Try.prog.info? 58).map (fun i => (i.zero, i.size, i.bytes)) = some (some (.agg (vA ⟨0, ByteArray.empty⟩)), 2, 24) := by kernel_rfl
theorem Try.infoV2 : (Try.prog.info? 58).map (fun i => (i.zero, i.size)) = some (some (.agg (vA ⟨0, ByteArray.empty⟩)), 2) := by kernel_rfl
theorem jA_at {W : World} {g : Nat} {T : TypeId} {L : List Nat} (h : CB W g T (jA L)) {k : Nat} {x : Nat} (hx : L[k]? = some x) : W.cell? ⟨g, k, none⟩ = some (.int .i64 (x : Int)) := by
  have h1 : (rc jcl L)[k * 1 + 0]? = some (Value.int .i64 (x : Int)) := rc_at 1 L hx rfl
  rw [h.cell]
  unfold jA
  simpa using h1
theorem tk_zvl {L : List Nat} {k x : Nat} (hx : L[k]? = some x) : (L.take (k + 1)).map zvl = (L.take k).map zvl ++ [zvl x] := by
  rw [List.take_add_one, hx]; simp
theorem cvN_zvl (k b t e v q f g m : Nat) (cg : ByteArray) : Dk.cvN ⟨(k : Int), (b : Int), (t : Int), (e : Int), (v : Int), (q : Int), (f : Int), (g : Int), (m : Int), cg⟩ = [k, b, t, e, v, q, f, g, m].map zvl ++ [⟨0, cg⟩] := rfl
set_option maxRecDepth 100000 in
set_option maxHeartbeats 4000000 in
theorem encr_yes (k b t e v q f g m : Nat) (cg : ByteArray) (w : World) (hx : k ≤ 5 ∧ b < 8 ∧ t < 1000 ∧ e ≤ 1048576 ∧ v ≤ 2 ∧ q ≤ 4 ∧ f < 8 ∧ g < 8 ∧ m ≤ 1048576) (hr : RightN ⟨(k : Int), (b : Int), (t : Int), (e : Int), (v : Int), (q : Int), (f : Int), (g : Int), (m : Int), cg⟩) (hb : BoundN ⟨(k : Int), (b : Int), (t : Int), (e : Int), (v : Int), (q : Int), (f : Int), (g : Int), (m : Int), cg⟩) : Calls Try.prog 11 #[.agg (ntA ⟨(k : Int), (b : Int), (t : Int), (e : Int), (v : Int), (q : Int), (f : Int), (g : Int), (m : Int), cg⟩)] w (EPost w ⟨(k : Int), (b : Int), (t : Int), (e : Int), (v : Int), (q : Int), (f : Int), (g : Int), (m : Int), cg⟩) := by
  have zk : IntKind.u64.wrap (k : Int) = (k : Int) := IntWalk.u64_in _ (by omega)
  have zb : IntKind.u64.wrap (b : Int) = (b : Int) := IntWalk.u64_in _ (by omega)
  have zt : IntKind.u64.wrap (t : Int) = (t : Int) := IntWalk.u64_in _ (by omega)
  have ze : IntKind.u64.wrap (e : Int) = (e : Int) := IntWalk.u64_in _ (by omega)
  have zv : IntKind.u64.wrap (v : Int) = (v : Int) := IntWalk.u64_in _ (by omega)
  have zq : IntKind.u64.wrap (q : Int) = (q : Int) := IntWalk.u64_in _ (by omega)
  have zf : IntKind.u64.wrap (f : Int) = (f : Int) := IntWalk.u64_in _ (by omega)
  have zg : IntKind.u64.wrap (g : Int) = (g : Int) := IntWalk.u64_in _ (by omega)
  have zm : IntKind.u64.wrap (m : Int) = (m : Int) := IntWalk.u64_in _ (by omega)
  have yb : IntKind.i64.wrap (b : Int) = (b : Int) := IntWalk.i64_in _ (by omega)
  have yf : IntKind.i64.wrap (f : Int) = (f : Int) := IntWalk.i64_in _ (by omega)
  have yg : IntKind.i64.wrap (g : Int) = (g : Int) := IntWalk.i64_in _ (by omega)
  have C1 := fun W => right_r ⟨(k : Int), (b : Int), (t : Int), (e : Int), (v : Int), (q : Int), (f : Int), (g : Int), (m : Int), cg⟩ W
  simp only [decide_eq_true hr] at C1
  have HR := Lib.hid hr
  have HB := Lib.hid hb
  obtain ⟨L, hL⟩ : ∃ L : List Nat, [k, b, t, e, v, q, f, g, m] = L := ⟨_, rfl⟩
  have hlen : L.length = 9 := by rw [← hL]; rfl
  have hle : ∀ x ∈ L, x ≤ 1048576 := by rw [← hL]; intro x hx'; simp only [List.mem_cons, List.not_mem_nil, or_false] at hx'; omega
  have hcv := Lib.hid (show Dk.cvN ⟨(k : Int), (b : Int), (t : Int), (e : Int), (v : Int), (q : Int), (f : Int), (g : Int), (m : Int), cg⟩ = L.map zvl ++ [⟨0, cg⟩] by rw [← hL]; rfl)
  have hfl := fill_nats k b t e v q f g m
  rw [hL] at hfl
  have hfl := Lib.hid hfl
  clear hr hb hL hx
  go_enter Try.func11, Try.ntmps11
  go_wp2_with (first | ((with_reducible refine st_box 25 _ (ntA ⟨(k : Int), (b : Int), (t : Int), (e : Int), (v : Int), (q : Int), (f : Int), (g : Int), (m : Int), cg⟩) ?_ ?_); exact rfl))
  refine ⟨fun V1 g1 n1 f1 => ?_⟩
  have up1 : w.heap.size ≤ g1 := Nat.le_of_eq f1.at_
  have bl1 := f1.bel
  clear f1
  have l3 := le_tr (Below.refl _ _) bl1
  clear bl1
  go_wp2_with (first | (first | ((with_reducible refine st_load 25 _ g1 ?_ n1 Try.underlying25 ?_ ?_ ?_); exact rfl; exact rfl; exact Try.zNr) | ((with_reducible refine st_loadG 25 _ g1 ?_ n1 Try.underlying25 ?_ ?_ ?_ ?_); exact rfl; exact rfl; exact Try.zNr; exact rfl)))
  (with_reducible refine (C1 _).mono ?_)
  rintro e w4 ⟨rfl, b4⟩
  have r6_n := le_on n1 b4
  have l6 := le_tr l3 b4
  clear n1 l3
  clear b4
  go_wp2_with (first | (first | ((with_reducible refine st_part 23 _ g1 5 ?_ (pt := mgA ⟨(k : Int), (b : Int), (t : Int), (e : Int), (v : Int), (q : Int), (f : Int), (g : Int), (m : Int), cg⟩) r6_n ?_ Try.underlying23 ?_ ?_ ?_); exact rfl; exact ntA_pmr _; exact rfl; exact Try.zMr) | ((with_reducible refine st_partG 23 _ g1 5 ?_ (pt := mgA ⟨(k : Int), (b : Int), (t : Int), (e : Int), (v : Int), (q : Int), (f : Int), (g : Int), (m : Int), cg⟩) r6_n ?_ Try.underlying23 ?_ ?_ ?_ ?_); exact rfl; exact ntA_pmr _; exact rfl; exact Try.zMr; exact rfl)) | ((with_reducible refine st_alloc 23 (mgA zN) ?_ ?_); exact zero_mr))
  refine ⟨fun V7 g7 n7 f7 => ?_⟩
  have ne7_n := f7.ne r6_n
  have up7 : w.heap.size ≤ g7 := f7.up l6
  have bl7 := f7.bel
  clear f7
  have r9_n := le_on r6_n bl7
  have l9 := le_tr l6 bl7
  clear r6_n l6
  clear bl7
  go_wp2_with (first | (first | ((with_reducible refine st_part 23 _ g1 5 ?_ (pt := mgA ⟨(k : Int), (b : Int), (t : Int), (e : Int), (v : Int), (q : Int), (f : Int), (g : Int), (m : Int), cg⟩) r9_n ?_ Try.underlying23 ?_ ?_ ?_); exact rfl; exact ntA_pmr _; exact rfl; exact Try.zMr) | ((with_reducible refine st_partG 23 _ g1 5 ?_ (pt := mgA ⟨(k : Int), (b : Int), (t : Int), (e : Int), (v : Int), (q : Int), (f : Int), (g : Int), (m : Int), cg⟩) r9_n ?_ Try.underlying23 ?_ ?_ ?_ ?_); exact rfl; exact ntA_pmr _; exact rfl; exact Try.zMr; exact rfl)) | ((with_reducible refine st_store 23 _ _ g7 (mgA ⟨(k : Int), (b : Int), (t : Int), (e : Int), (v : Int), (q : Int), (f : Int), (g : Int), (m : Int), cg⟩) ?_ ?_ n7 ?_ ?_ ?_ ?_); exact rfl; exact rfl; exact Try.zMr; exact rfl; exact mgA_one _))
  refine ⟨fun V10 n10 k10 => ?_⟩
  have m10_n := k10.on r9_n ne7_n
  have o10 := k10.bel _ _ l9 up7
  clear k10
  clear n7 r9_n l9
  have c11 : V10.cell? ⟨g1, 0, none⟩ = some (.int .i64 (k : Int)) := CB.cell m10_n 0
  have c12 : V10.cell? ⟨g1, 1, none⟩ = some (.int .u8 (b : Int)) := CB.cell m10_n 1
  have c13 : V10.cell? ⟨g1, 2, none⟩ = some (.int .i64 (t : Int)) := CB.cell m10_n 2
  have c14 : V10.cell? ⟨g1, 3, none⟩ = some (.int .i64 (e : Int)) := CB.cell m10_n 3
  have c15 : V10.cell? ⟨g1, 4, none⟩ = some (.int .i64 (v : Int)) := CB.cell m10_n 4
  have c16 : V10.cell? ⟨g7, 0, none⟩ = some (.int .i64 (q : Int)) := CB.cell n10 0
  have c17 : V10.cell? ⟨g7, 1, none⟩ = some (.int .u8 (f : Int)) := CB.cell n10 1
  have c18 : V10.cell? ⟨g7, 2, none⟩ = some (.int .u8 (g : Int)) := CB.cell n10 2
  have c19 : V10.cell? ⟨g7, 3, none⟩ = some (.int .i64 (m : Int)) := CB.cell n10 3
  go_wp2_with (first | ((with_reducible refine st_lits9 54 3 (jA L) (v0 := .int .i64 (k : Int)) (v1 := .int .i64 (b : Int)) (v2 := .int .i64 (t : Int)) (v3 := .int .i64 (e : Int)) (v4 := .int .i64 (v : Int)) (v5 := .int .i64 (q : Int)) (v6 := .int .i64 (f : Int)) (v7 := .int .i64 (g : Int)) (v8 := .int .i64 (m : Int)) ?_ ?_ ?_ ?_ ?_ ?_ ?_ ?_ ?_  Try.underlying54 lit_zi (by decide) (by decide) hfl.out ?_); exact rfl; exact rfl; exact rfl; exact rfl; exact rfl; exact rfl; exact rfl; exact rfl; exact rfl))
  refine ⟨fun V20 g20 n20 f20 => ?_⟩
  clear c11 c12 c13 c14 c15 c16 c17 c18 c19
  have ne20_n := f20.ne m10_n
  have ne20_m := f20.ne n10
  have up20 : w.heap.size ≤ g20 := f20.up o10
  have bl20 := f20.bel
  clear f20
  have r22_n := le_on m10_n bl20
  have r22_m := le_on n10 bl20
  have l22 := le_tr o10 bl20
  clear m10_n n10 o10
  clear bl20
  go_wp2_with fail
  go_loopw [6, 7] (fun sv iv wr => ∃ (j : Nat) (B : Option Addr) (c : Nat) (G : Option Nat), j ≤ 9 ∧ iv = .int .i64 j ∧ sv = .slice B j c ∧ CB wr g20 3 (jA L) ∧ CB wr g7 23 (mgA ⟨(k : Int), (b : Int), (t : Int), (e : Int), (v : Int), (q : Int), (f : Int), (g : Int), (m : Int), cg⟩) ∧ SO w.heap.size wr 58 vcl 2 B j c ((L.take j).map zvl) G ∧ Below w.heap.size w wr) (fun _ iv _ => 9 - (intOf iv).toNat)
  case atStart => exact ⟨0, none, 0, none, by omega, rfl, rfl, n20, r22_m, SO.nil _ _ _ _ _, l22⟩
  case round =>
    clear r22_n r22_m n20 l22
    obtain ⟨j, B, c, G, hj, rfl, rfl, hz, hm, hs, hbl⟩ := hrel
    by_cases hlt : j < 9
    have nz := SO.noT hs hz (by decide)
    have nm := SO.noT hs hm (by decide)
    · obtain ⟨x, hxx⟩ : ∃ x, L[j]? = some x := ⟨L[j], List.getElem?_eq_getElem (by omega)⟩
      have hxl := hle x (List.mem_of_getElem? hxx)
      have HN := Lib.hid (tk_zvl hxx)
      have zx : IntKind.u64.wrap (x : Int) = (x : Int) := IntWalk.u64_in _ (by omega)
      have l1 : (j : Int) < 9 := by omega
      have l2 : (0 : Int) ≤ (j : Int) := by omega
      have cx := jA_at hz hxx
      clear hxx
      go_wp2_with fail
      (with_reducible refine (nn_c x _).mono ?_)
      rintro e w101 ⟨rfl, b101⟩
      clear cx
      have r102_s := SO.on hs b101
      have r103_z := le_on hz b101
      have r103_m := le_on hm b101
      have l103 := le_tr hbl b101
      clear hz hm hbl
      clear hs
      clear b101
      go_wp2_with (first | ((with_reducible refine st_lit1 55 58 _ (vA (zvl x)) ?_ Try.underlying55 Try.infoV2 rfl (by decide) (by decide) ?_); exact rfl))
      refine ⟨fun V104 g104 n104 f104 => ?_⟩
      have ne104_z := f104.ne r103_z
      have ne104_m := f104.ne r103_m
      have no104_s := SO.fresh r102_s (Nat.le_of_eq f104.at_)
      have up104 : w.heap.size ≤ g104 := f104.up l103
      have bl104 := f104.bel
      clear f104
      have r105_s := SO.on r102_s bl104
      have r106_z := le_on r103_z bl104
      have r106_m := le_on r103_m bl104
      have l106 := le_tr l103 bl104
      clear r103_z r103_m l103
      clear r102_s
      clear bl104
      go_wp2_with (first | ((with_reducible refine st_app (.tmp 45) (.tmp 52) 55 58 Try.underlying55 Try.infoV rfl (by decide) (A := B) (n := j) (c := c) (G := G) rfl r105_s.seg (As := (some ⟨g104, 0, none⟩)) (m := 1) (k := 1) rfl (Src.box n104 rfl) (all_list (vA_one _)) (by simp only [maxLen]; omega) (by omega) (j + 1) (by omega) ?_)))
      refine ⟨fun B107 m107 q107 w107 s107 h107 k107 => ?_⟩
      have s107 : Seg w107 58 2 B107 (j + 1) m107 (rc vcl ((L.take j).map zvl ++ [zvl x])) q107 := by rw [← rc_snoc]; exact s107
      have hg107 : ∀ g, G = some g → w.heap.size ≤ g := fun g e => r105_s.hi g e
      have so107 : SO w.heap.size w107 58 vcl 2 B107 (j + 1) m107 ((L.take j).map zvl ++ [zvl x]) q107 := ⟨s107, k107.ge (l106).size hg107⟩
      have e107_z := CB.same r106_z (h107.block _ (CB.lt r106_z) (fun e => nz _ e.symm rfl))
      have na107_z := moved_ne k107 (CB.lt r106_z) nz
      have e107_m := CB.same r106_m (h107.block _ (CB.lt r106_m) (fun e => nm _ e.symm rfl))
      have na107_m := moved_ne k107 (CB.lt r106_m) nm
      have e107_q := CB.same n104 (h107.block _ (CB.lt n104) (fun e => no104_s _ e.symm rfl))
      have na107_q := moved_ne k107 (CB.lt n104) no104_s
      have lw107 := (l106).grown h107 (l106).size hg107
      clear h107 k107 s107 hg107 r105_s r106_z nz r106_m nm n104 no104_s l106
      go_wp2_with fail
      go_roundw
      case rel => exact ⟨j + 1, B107, m107, q107, by omega, by go_num, rfl, e107_z, e107_m, by rw [HN.out]; exact so107, lw107⟩
      case measure => simp [intOf]; omega
    obtain rfl : j = 9 := by omega
    have hs2 : SO w.heap.size wr 58 vcl 2 B 9 c (L.map zvl) G := by rw [List.take_of_length_le (by rw [hlen]; exact Nat.le_refl _)] at hs; exact hs
    clear hs hlt hj
    have nz2 := SO.noT hs2 hz (by decide)
    have nm2 := SO.noT hs2 hm (by decide)
    have c101 : wr.cell? ⟨g7, 4, none⟩ = some (.string cg) := CB.cell hm 4
    go_wp2_with fail
    (with_reducible refine (tt_c cg _).mono ?_)
    rintro e w102 ⟨rfl, b102⟩
    clear c101
    have r103_s := SO.on hs2 b102
    have r104_z := le_on hz b102
    have r104_m := le_on hm b102
    have l104 := le_tr hbl b102
    clear hz hm hbl
    clear hs2
    clear b102
    go_wp2_with (first | ((with_reducible refine st_lit1 55 58 _ (vA ⟨0, cg⟩) ?_ Try.underlying55 Try.infoV2 rfl (by decide) (by decide) ?_); exact rfl))
    refine ⟨fun V105 g105 n105 f105 => ?_⟩
    have ne105_z := f105.ne r104_z
    have ne105_m := f105.ne r104_m
    have no105_s := SO.fresh r103_s (Nat.le_of_eq f105.at_)
    have up105 : w.heap.size ≤ g105 := f105.up l104
    have bl105 := f105.bel
    clear f105
    have r106_s := SO.on r103_s bl105
    have r107_z := le_on r104_z bl105
    have r107_m := le_on r104_m bl105
    have l107 := le_tr l104 bl105
    clear r104_z r104_m l104
    clear r103_s
    clear bl105
    go_wp2_with (first | ((with_reducible refine st_app (.tmp 55) (.tmp 59) 55 58 Try.underlying55 Try.infoV rfl (by decide) (A := B) (n := 9) (c := c) (G := G) rfl r106_s.seg (As := (some ⟨g105, 0, none⟩)) (m := 1) (k := 1) rfl (Src.box n105 rfl) (all_list (vA_one _)) (by simp only [maxLen]; omega) (by omega) (10) (by omega) ?_)))
    refine ⟨fun B108 m108 q108 w108 s108 h108 k108 => ?_⟩
    have s108 : Seg w108 58 2 B108 (10) m108 (rc vcl (L.map zvl ++ [⟨0, cg⟩])) q108 := by rw [← rc_snoc]; exact s108
    have hg108 : ∀ g, G = some g → w.heap.size ≤ g := fun g e => r106_s.hi g e
    have so108 : SO w.heap.size w108 58 vcl 2 B108 (10) m108 (L.map zvl ++ [⟨0, cg⟩]) q108 := ⟨s108, k108.ge (l107).size hg108⟩
    have e108_z := CB.same r107_z (h108.block _ (CB.lt r107_z) (fun e => nz2 _ e.symm rfl))
    have na108_z := moved_ne k108 (CB.lt r107_z) nz2
    have e108_m := CB.same r107_m (h108.block _ (CB.lt r107_m) (fun e => nm2 _ e.symm rfl))
    have na108_m := moved_ne k108 (CB.lt r107_m) nm2
    have e108_q := CB.same n105 (h108.block _ (CB.lt n105) (fun e => no105_s _ e.symm rfl))
    have na108_q := moved_ne k108 (CB.lt n105) no105_s
    have lw108 := (l107).grown h108 (l107).size hg108
    clear h108 k108 s108 hg108 r106_s r107_z nz2 r107_m nm2 n105 no105_s l107
    have o2 := SO.rr so108
    rw [← hcv.out] at o2
    go_wp2_with fail
    (with_reducible refine (encn_R HB.out _ _ _ o2).mono ?_)
    rintro e w109 ⟨A3, n3, q3, rfl, h3, b109⟩
    have r110_s := SO.on so108 b109
    have r111_z := le_on e108_z b109
    have r111_m := le_on e108_m b109
    have r111_q := le_on e108_q b109
    have l111 := le_tr lw108 b109
    clear e108_z e108_m e108_q lw108
    clear so108
    clear b109
    clear o2
    go_wp2_with fail
    have lz := Below.size (B := w.heap.size) l111
    (with_reducible refine (frmn_R HB.out _ _ _ _ h3).mono ?_)
    rintro e w112 ⟨A4, n4, q4, G4, rfl, h4, b112⟩
    have r113_s := SO.on r110_s b112
    have r114_z := le_on r111_z b112
    have r114_m := le_on r111_m b112
    have r114_q := le_on r111_q b112
    have l114 := le_tr l111 b112
    clear r111_z r111_m r111_q l111
    clear r110_s
    clear b112
    go_wp2_with fail
    exact bodyPost_ret (v := .tuple #[.slice A4 n4 q4, .int .i64 0]) (by simp [results, Try.results11, go_sem]) rfl (EPost.yes HR.out (SO.mono h4 lz) l114)
set_option maxRecDepth 100000 in
set_option maxHeartbeats 4000000 in
theorem encode_r (n : Nt) (w : World) (hi : InN n) : Calls Try.prog 11 #[.agg (ntA n)] w (EPost w n) := by
  have C1 := fun W => right_r n W
  by_cases hr : RightN n
  · have hb := bound_n hi hr
    obtain ⟨k, b, t, e, v, q, f, g, m, en, hx⟩ := nat_n hb
    generalize n.cg = cg at en
    subst en
    exact encr_yes k b t e v q f g m cg w hx hr hb
  have q0 : decide (RightN n) = false := decide_eq_false hr
  have HR := Lib.hid hr
  clear hr
  simp only [q0] at C1
  go_enter Try.func11, Try.ntmps11
  go_wp2_with (first | ((with_reducible refine st_box 25 _ (ntA n) ?_ ?_); exact rfl))
  refine ⟨fun V1 g1 n1 f1 => ?_⟩
  have up1 : w.heap.size ≤ g1 := Nat.le_of_eq f1.at_
  have bl1 := f1.bel
  clear f1
  have l3 := le_tr (Below.refl _ _) bl1
  clear bl1
  go_wp2_with (first | (first | ((with_reducible refine st_load 25 _ g1 ?_ n1 Try.underlying25 ?_ ?_ ?_); exact rfl; exact rfl; exact Try.zNr) | ((with_reducible refine st_loadG 25 _ g1 ?_ n1 Try.underlying25 ?_ ?_ ?_ ?_); exact rfl; exact rfl; exact Try.zNr; exact rfl)))
  (with_reducible refine (C1 _).mono ?_)
  rintro e w4 ⟨rfl, b4⟩
  have r6_n := le_on n1 b4
  have l6 := le_tr l3 b4
  clear n1 l3
  clear b4
  go_wp2_with fail
  exact bodyPost_ret (v := .tuple #[.slice none 0 0, .int .i64 2]) (by simp [results, Try.results11, go_sem]) rfl (EPost.no HR.out l6)
end Go.Proofs.Ytbkfepgcnijlfaa
