/-
  alive of layer 15's laws. No condition.
-/
import Derived.Test.YtjfmahceolhfnaaChQ
import Derived.Test.YtjfmahceolhfnaaChT
set_option linter.unusedVariables false
set_option linter.unusedSimpArgs false
namespace Go.Proofs.Ytjfmahceolhfnaa
open Go.RowKit

/-- A line of alive's table. -/
structure Al where
  r : Rd
  n : Int
  e : Int
def alA (a : Al) : Array Value := #[.int .i64 a.r.kind, .int .i64 a.r.tx, .int .u8 (a.r.who : Int), .int .i64 a.r.ep, .int .i64 a.r.vote, .int .i64 a.r.now, .int .i64 a.r.sp, .int .i64 a.r.cap, .int .i64 a.n, .int .i64 a.e]
def acl (a : Al) : List Value := (alA a).toList
theorem alA_size (a : Al) : (alA a).size = 10 := rfl
theorem alA_one (a : Al) : (alA a).all (·.oneCell') = true := by simp [alA, Value.oneCell']
theorem alA_rec (a : Al) : (alA a).extract 0 (0 + (rA a.r).size) = rA a.r := by simp [alA, rA]
instance : Nonempty (EncOk acl 10) := ⟨⟨fun _ => rfl, fun x => all_list (alA_one x), by omega⟩⟩
theorem Try.zAl : (Try.prog.info? 70).map (·.size) = some 10 := by kernel_rfl
def zeroA : Al := ⟨zeroR, 0, 0⟩
theorem zero_al (V : World) : (zeroValue 70).run Try.prog V = .ok (.agg (alA zeroA)) V := Try.zeroValue70 V
def tab : List Al := [⟨⟨1, 7, 6, 0, 0, 0, 10, 0⟩, 0, 0⟩, ⟨⟨2, 7, 1, 1, 1, 3, 0, 0⟩, 0, 0⟩, ⟨⟨1, 8, 1, 0, 0, 0, 5, 0⟩, 0, 0⟩, ⟨⟨2, 7, 2, 1, 1, 9, 0, 0⟩, 1, 0⟩, ⟨⟨4, 0, 0, 0, 0, 5, 0, 0⟩, 1, 0⟩, ⟨⟨2, 8, 0, 1, 1, 0, 0, 0⟩, 0, 13⟩]
def tabR : List Rd := tab.map (·.r)
def tabD (k : Nat) : DM := plD (tabR.take k)
def tabL (k : Nat) : List Rd := plL (tabR.take k)
set_option maxRecDepth 100000 in
theorem tab_ok : ∀ k, k < 6 → ∃ x, tab[k]? = some x ∧ x.n = ((nDoC (tabD k) x.r : Nat) : Int) ∧ x.e = ((eDoC (tabD k) x.r : Nat) : Int) ∧ x.r.who < 256 := by
  intro k hk
  match k, hk with
  | 0, _ => exact ⟨_, rfl, by decide, by decide, by decide⟩
  | 1, _ => exact ⟨_, rfl, by decide, by decide, by decide⟩
  | 2, _ => exact ⟨_, rfl, by decide, by decide, by decide⟩
  | 3, _ => exact ⟨_, rfl, by decide, by decide, by decide⟩
  | 4, _ => exact ⟨_, rfl, by decide, by decide, by decide⟩
  | 5, _ => exact ⟨_, rfl, by decide, by decide, by decide⟩
theorem tab_next {k : Nat} {x : Al} (h : tab[k]? = some x) : tabD (k + 1) = sDoC (tabD k) x.r ∧ tabL (k + 1) = lDoC (tabD k) (tabL k) x.r := by
  have hx : tabR[k]? = some x.r := by unfold tabR; rw [List.getElem?_map, h]; rfl
  unfold tabD tabL
  rw [takeR hx, plD_snoc, plL_snoc]
  exact ⟨rfl, rfl⟩
theorem tab_len (k : Nat) : (tabL k).length ≤ 6 := by
  have := plL_len (tabR.take k)
  unfold tabL
  have : (tabR.take k).length ≤ 6 := by rw [List.length_take]; exact Nat.min_le_right _ _
  omega
set_option maxRecDepth 100000 in
theorem tab_end : (∃ d, dOf (tabD 6) 7 = some d ∧ d.out = 1) ∧ (∃ d, dOf (tabD 6) 8 = some d ∧ d.out = 2) ∧ opensF (tabD 6) = [] ∧ (tabL 6).length = 5 := by
  refine ⟨?_, ?_, ?_, by decide⟩
  · cases h : dOf (tabD 6) 7 with
    | none => exact absurd h (by decide)
    | some d =>
      refine ⟨d, rfl, ?_⟩
      have : (dGet (tabD 6) 7).out = 1 := by decide
      unfold dGet at this
      rw [h] at this
      exact this
  · cases h : dOf (tabD 6) 8 with
    | none => exact absurd h (by decide)
    | some d =>
      refine ⟨d, rfl, ?_⟩
      have : (dGet (tabD 6) 8).out = 2 := by decide
      unfold dGet at this
      rw [h] at this
      exact this
  · unfold opensF keysF
    rw [List.filter_eq_nil_iff]
    intro t _
    have e : tabD 6 = fun t => tabD 6 t := rfl
    have h5 : tabD 6 = sDoC (tabD 5) ⟨2, 8, 0, 1, 1, 0, 0, 0⟩ := (tab_next (k := 5) rfl).1
    rw [sDoC_n (by decide)] at h5
    have h4 : tabD 5 = tickD (tabD 4) 5 := by rw [(tab_next (k := 4) rfl).1, sDoC_z (by decide)]; rfl
    by_cases h7 : t = 7
    · subst h7; decide
    · by_cases h8 : t = 8
      · subst h8; decide
      · have hne : ∀ k, k ≤ 4 → tabD k t = none := by
          intro k hk
          match k, hk with
          | 0, _ => rfl
          | 1, _ => rw [(tab_next (k := 0) rfl).1, do_apart (by decide) (by simp; omega)]; rfl
          | 2, _ => rw [(tab_next (k := 1) rfl).1, do_apart (by decide) (by simp; omega), (tab_next (k := 0) rfl).1, do_apart (by decide) (by simp; omega)]; rfl
          | 3, _ => rw [(tab_next (k := 2) rfl).1, do_apart (by decide) (by simp; omega), (tab_next (k := 1) rfl).1, do_apart (by decide) (by simp; omega), (tab_next (k := 0) rfl).1, do_apart (by decide) (by simp; omega)]; rfl
          | 4, _ => rw [(tab_next (k := 3) rfl).1, do_apart (by decide) (by simp; omega), (tab_next (k := 2) rfl).1, do_apart (by decide) (by simp; omega), (tab_next (k := 1) rfl).1, do_apart (by decide) (by simp; omega), (tab_next (k := 0) rfl).1, do_apart (by decide) (by simp; omega)]; rfl
        unfold wantB
        rw [h5, h4]
        unfold tickD
        rw [hne 4 (by omega)]
        simp
theorem RR.of_cb {α : Type} {c : α → List Value} {s : Nat} [Nonempty (EncOk c s)] {w : World} {g : Nat} {T : TypeId} {L : List α} (h : CB w g T (rc c L).toArray) (hm : L.length ≤ maxLen) : RR w c s (some ⟨g, 0, none⟩) L.length L.length L :=
  ⟨rfl, Nat.le_refl _, hm, fun _ => ⟨g, 0, rfl, fun i v hv => by rw [Nat.zero_add, h.cell]; simpa using hv⟩⟩
set_option maxRecDepth 100000 in
set_option maxHeartbeats 4000000 in
theorem alive_c (w : World) : Calls Try.prog 10 #[] w fun zz w' => zz = .returned (.bool true) ∧ Below w.heap.size w w' := by
  have hlit : (#[.int .i64 1, .int .i64 7, .int .u8 6, .int .i64 0, .int .i64 0, .int .i64 0, .int .i64 10, .int .i64 0, .int .i64 0, .int .i64 0, .int .i64 2, .int .i64 7, .int .u8 1, .int .i64 1, .int .i64 1, .int .i64 3, .int .i64 0, .int .i64 0, .int .i64 0, .int .i64 0, .int .i64 1, .int .i64 8, .int .u8 1, .int .i64 0, .int .i64 0, .int .i64 0, .int .i64 5, .int .i64 0, .int .i64 0, .int .i64 0, .int .i64 2, .int .i64 7, .int .u8 2, .int .i64 1, .int .i64 1, .int .i64 9, .int .i64 0, .int .i64 0, .int .i64 1, .int .i64 0, .int .i64 4, .int .i64 0, .int .u8 0, .int .i64 0, .int .i64 0, .int .i64 5, .int .i64 0, .int .i64 0, .int .i64 1, .int .i64 0, .int .i64 2, .int .i64 8, .int .u8 0, .int .i64 1, .int .i64 1, .int .i64 0, .int .i64 0, .int .i64 0, .int .i64 0, .int .i64 13] : Array Value) = (rc acl tab).toArray := rfl
  go_enter Try.func10, Try.ntmps10
  go_wp2_with fail
  (with_reducible refine (chair_new w).mono ?_)
  rintro e w1 ⟨b, m, rfl, q1, q2, q3, q4, q5⟩
  have st1 : ST w.heap.size w w1 b m none (fun _ => none) [] := ⟨q1, (by rintro i (rfl | rfl | e) <;> first | (exact Nat.le_trans (Below.refl w.heap.size w).size q2) | (exact Nat.le_trans (Below.refl w.heap.size w).size q3) | cases e), le_tr (Below.refl _ _) q5⟩
  clear q1 q2 q3 q4
  clear q5
  obtain ⟨V2, hV2⟩ : ∃ V, w1.alloc (.cells #[.int .i64 1, .int .i64 7, .int .u8 6, .int .i64 0, .int .i64 0, .int .i64 0, .int .i64 10, .int .i64 0, .int .i64 0, .int .i64 0, .int .i64 2, .int .i64 7, .int .u8 1, .int .i64 1, .int .i64 1, .int .i64 3, .int .i64 0, .int .i64 0, .int .i64 0, .int .i64 0, .int .i64 1, .int .i64 8, .int .u8 1, .int .i64 0, .int .i64 0, .int .i64 0, .int .i64 5, .int .i64 0, .int .i64 0, .int .i64 0, .int .i64 2, .int .i64 7, .int .u8 2, .int .i64 1, .int .i64 1, .int .i64 9, .int .i64 0, .int .i64 0, .int .i64 1, .int .i64 0, .int .i64 4, .int .i64 0, .int .u8 0, .int .i64 0, .int .i64 0, .int .i64 5, .int .i64 0, .int .i64 0, .int .i64 1, .int .i64 0, .int .i64 2, .int .i64 8, .int .u8 0, .int .i64 1, .int .i64 1, .int .i64 0, .int .i64 0, .int .i64 0, .int .i64 0, .int .i64 13] 70) = V := ⟨_, rfl⟩
  have n2 : CB V2 w1.heap.size 70 (rc acl tab).toArray := by rw [← hV2, ← hlit]; exact CB.new _ _ _
  have st2 := st1.on (by rw [← hV2]; exact le_al _ _ : Below w1.heap.size w1 V2)
  have no2 := st1.fresh (Nat.le_refl _)
  have HV := Lib.hid hV2
  clear hV2 st1 hlit
  go_upto_region 4 with fail
  go_wp2_with fail
  rw [HV.out]
  clear HV
  go_wp2_with fail
  go_loopw [27] (fun iv wr => ∃ (k : Nat) (G : Option Nat), k ≤ 6 ∧ iv = .int .i64 k ∧ ST w.heap.size w wr b m G (tabD k) (tabL k) ∧ CB wr w1.heap.size 70 (rc acl tab).toArray ∧ ¬ Own b m G w1.heap.size) (fun iv _ => 6 - (intOf iv).toNat)
  case atStart => exact ⟨0, none, by omega, rfl, st2, n2, no2⟩
  case round =>
    clear st2 n2 no2
    obtain ⟨k, G, hk, rfl, hst, hcb, hno⟩ := hrel
    by_cases hlt : k < 6
    · have l1 : (k : Int) < 6 := by omega
      have l2 : (0 : Int) ≤ (k : Int) := by omega
      obtain ⟨x, hx, hxn, hxe, hxw⟩ := tab_ok k hlt
      obtain ⟨hTD, hTL⟩ := tab_next hx
      obtain ⟨ga, ofa, x', hx', hga, hr⟩ := (RR.of_cb (s := 10) hcb (by decide)).elem hlt
      obtain rfl : x = x' := by rw [hx] at hx'; cases hx'; rfl
      obtain ⟨rfl, rfl⟩ : ga = w1.heap.size ∧ ofa = 0 := by cases hga; exact ⟨rfl, rfl⟩
      have hr : wr.rangeAt w1.heap.size (k * 10) (alA x).toList := by rw [Nat.zero_add] at hr; exact hr
      have hxl := tab_len k
      have HTD := Lib.hid hTD
      have HTL := Lib.hid hTL
      clear hx hx' hga hTD hTL
      generalize tabD k = D at *
      generalize tabL k = K at *
      have l9 := hst.low
      go_wp2_with (first | ((with_reducible refine st_elem 70 _ _ (k * 10) (alA x) ?_ hr Try.underlying70 ?_ ?_ ?_); exact rfl; exact rfl; exact Try.zAl) | ((with_reducible refine st_alloc 70 (alA zeroA) ?_ ?_); exact zero_al))
      refine ⟨fun V101 g101 n101 f101 => ?_⟩
      have ne101_t := f101.ne hcb
      have no101_c := hst.fresh (Nat.le_of_eq f101.at_)
      have up101 : w.heap.size ≤ g101 := f101.up l9
      have bl101 := f101.bel
      clear f101
      have r102_t := le_on hcb bl101
      have r102_c := hst.on bl101
      have l102 := le_tr l9 bl101
      clear hcb hst l9
      clear bl101
      clear hr
      go_wp2_with (first | ((with_reducible refine st_store 70 _ _ g101 (alA x) ?_ ?_ n101 ?_ ?_ ?_ ?_); exact rfl; exact rfl; exact Try.zAl; exact rfl; exact alA_one _))
      refine ⟨fun V103 n103 k103 => ?_⟩
      have m103_t := k103.on r102_t ne101_t
      have m103_c := r102_c.wr k103 no101_c up101
      have o103 := k103.bel _ _ l102 up101
      clear k103
      clear n101 r102_t r102_c l102
      have hdo104 := do_c b m G D K (x.r) V103 m103_c.cr hxw (by omega)
      go_wp2_with (first | ((with_reducible refine st_part 33 _ g101 0 ?_ (pt := rA x.r) n103 ?_ Try.underlying33 ?_ ?_ ?_); exact rfl; exact alA_rec _; exact rfl; exact Try.zRk))
      (with_reducible refine hdo104.mono ?_)
      intro e w104 hp104
      obtain ⟨rfl, G104, st104, ou104, nw104⟩ := m103_c.done hp104
      clear hp104 hdo104
      have q104_t := ou104.box m103_t hno
      have no104_t := nw104 _ (m103_t).lt hno
      have q104_x := ou104.box n103 no101_c
      have no104_x := nw104 _ (n103).lt no101_c
      have l104 := st104.low
      clear ou104 nw104 m103_c m103_t hno n103 no101_c o103
      rw [← hxn, ← hxe]
      have c105 : w104.cell? ⟨g101, 8, none⟩ = some (.int .i64 x.n) := CB.cell q104_x 8
      have c106 : w104.cell? ⟨g101, 9, none⟩ = some (.int .i64 x.e) := CB.cell q104_x 9
      have ht := st104
      rw [← HTD.out, ← HTL.out] at ht
      clear st104
      go_wp2_with fail
      go_roundw
      case rel => exact ⟨k + 1, G104, by omega, by go_num, ht, q104_t, no104_t⟩
      case measure => simp [intOf]; omega
    · obtain rfl : k = 6 := by omega
      obtain ⟨⟨d7, e1, e2⟩, ⟨d8, e3, e4⟩, e5, e6⟩ := tab_end
      have D7 := fun (W : World) (h : CM W b m G (tabD 6) (tabL 6)) => deal_c b m G (tabD 6) (tabL 6) 7 W h (by decide)
      have D8 := fun (W : World) (h : CM W b m G (tabD 6) (tabL 6)) => deal_c b m G (tabD 6) (tabL 6) 8 W h (by decide)
      have E7 : dGet (tabD 6) 7 = d7 := by unfold dGet; rw [e1]; rfl
      have E8 : dGet (tabD 6) 8 = d8 := by unfold dGet; rw [e3]; rfl
      rw [E7, e1] at D7
      rw [E8, e3] at D8
      have hf := hst.cr.good.few
      have O1 := fun (W : World) (h : CM W b m G (tabD 6) (tabL 6)) => open_c b m G (tabD 6) (tabL 6) W h hf
      rw [e5] at O1
      have L1 := fun (W : World) (h : CM W b m G (tabD 6) (tabL 6)) => log_c b m G (tabD 6) (tabL 6) W h (by rw [e6]; decide)
      have He6 := Lib.hid e6
      clear E7 E8 e1 e3 e5 e6 hf hcb hno
      generalize tabD 6 = D at *
      generalize tabL 6 = K at *
      have l9 := hst.low
      go_wp2_with fail
      refine (D7 _ hst.cr.cm).mono ?_
      rintro e w301 ⟨rfl, b301⟩
      have r302_c := hst.on b301
      have l302 := le_tr l9 b301
      clear hst l9
      clear b301
      go_wp2_with (first | ((with_reducible refine st_alloc 44 (dA zeroD) ?_ ?_); exact zero_dl))
      refine ⟨fun V303 g303 n303 f303 => ?_⟩
      have no303_c := r302_c.fresh (Nat.le_of_eq f303.at_)
      have up303 : w.heap.size ≤ g303 := f303.up l302
      have bl303 := f303.bel
      clear f303
      have r304_c := r302_c.on bl303
      have l304 := le_tr l302 bl303
      clear r302_c l302
      clear bl303
      go_wp2_with (first | ((with_reducible refine st_store 44 _ _ g303 (dA d7) ?_ ?_ n303 ?_ ?_ ?_ ?_); exact rfl; exact rfl; exact Try.zDl; exact rfl; exact dA_one _))
      refine ⟨fun V305 n305 k305 => ?_⟩
      have m305_c := r304_c.wr k305 no303_c up303
      have o305 := k305.bel _ _ l304 up303
      clear k305
      clear n303 r304_c l304
      go_wp2_with fail
      refine (D8 _ m305_c.cr.cm).mono ?_
      rintro e w306 ⟨rfl, b306⟩
      have r307_d7 := le_on n305 b306
      have r307_c := m305_c.on b306
      have l307 := le_tr o305 b306
      clear n305 m305_c o305
      clear b306
      go_wp2_with (first | ((with_reducible refine st_alloc 44 (dA zeroD) ?_ ?_); exact zero_dl))
      refine ⟨fun V308 g308 n308 f308 => ?_⟩
      have ne308_d7 := f308.ne r307_d7
      have no308_c := r307_c.fresh (Nat.le_of_eq f308.at_)
      have up308 : w.heap.size ≤ g308 := f308.up l307
      have bl308 := f308.bel
      clear f308
      have r309_d7 := le_on r307_d7 bl308
      have r309_c := r307_c.on bl308
      have l309 := le_tr l307 bl308
      clear r307_d7 r307_c l307
      clear bl308
      go_wp2_with (first | ((with_reducible refine st_store 44 _ _ g308 (dA d8) ?_ ?_ n308 ?_ ?_ ?_ ?_); exact rfl; exact rfl; exact Try.zDl; exact rfl; exact dA_one _))
      refine ⟨fun V310 n310 k310 => ?_⟩
      have m310_d7 := k310.on r309_d7 ne308_d7
      have m310_c := r309_c.wr k310 no308_c up308
      have o310 := k310.bel _ _ l309 up308
      clear k310
      clear n308 r309_d7 r309_c l309
      have x7 : V310.cell? ⟨g303, 28, none⟩ = some (.int .i64 d7.out) := CB.cell m310_d7 28
      have x8 : V310.cell? ⟨g308, 28, none⟩ = some (.int .i64 d8.out) := CB.cell n310 28
      rw [e2] at x7
      rw [e4] at x8
      go_wp2_with fail
      refine (O1 _ m310_c.cr.cm).mono ?_
      rintro e w311 ⟨Ao, no, co, rfl, so, b311⟩
      clear x7 x8
      have r312_d7 := le_on m310_d7 b311
      have r312_d8 := le_on n310 b311
      have r312_c := m310_c.on b311
      have l312 := le_tr o310 b311
      clear m310_d7 n310 m310_c o310
      clear b311
      obtain rfl : no = 0 := so.len.symm
      clear so
      go_wp2_with fail
      refine (L1 _ r312_c.cr.cm).mono ?_
      rintro e w313 ⟨Al, nl, cl, rfl, sl, b313⟩
      have r314_d7 := le_on r312_d7 b313
      have r314_d8 := le_on r312_d8 b313
      have r314_c := r312_c.on b313
      have l314 := le_tr l312 b313
      clear r312_d7 r312_d8 r312_c l312
      clear b313
      obtain rfl : nl = 5 := by rw [← sl.len]; exact He6.out
      clear sl
      go_wp2_with fail
      go_ret
      exact ⟨rfl, l314⟩
end Go.Proofs.Ytjfmahceolhfnaa
