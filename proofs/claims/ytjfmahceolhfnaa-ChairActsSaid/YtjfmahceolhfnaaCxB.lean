/-
  The document's layer 15: Find, begin. Conditions: the deals can be read, no transaction stands twice, all are below a thousand.
-/
import Derived.Test.YtjfmahceolhfnaaCxA
set_option linter.unusedVariables false
set_option linter.unusedSimpArgs false
namespace Go.Proofs.Ytjfmahceolhfnaa
open Go.RowKit
variable {w : World}

theorem Try.infoX : (Try.prog.info? 76).map (fun i => (i.zero, i.size, i.bytes)) = some (some (.agg (xA zeroX)), 30, 184) := by kernel_rfl
theorem Try.infoX2 : (Try.prog.info? 76).map (fun i => (i.zero, i.size)) = some (some (.agg (xA zeroX)), 30) := by kernel_rfl
theorem Try.infoR : (Try.prog.info? 34).map (fun i => (i.zero, i.size, i.bytes)) = some (some (.agg (rA zeroR)), 8, 64) := by kernel_rfl
theorem Try.infoR2 : (Try.prog.info? 34).map (fun i => (i.zero, i.size)) = some (some (.agg (rA zeroR)), 8) := by kernel_rfl
theorem one_sx : (Try.prog.info? 26).map (·.size) = some 1 := by kernel_rfl
theorem one_sr : (Try.prog.info? 22).map (·.size) = some 1 := by kernel_rfl
/-- The place of a deal; -1: there is none. -/
def findI (C : List Dd) (tx : Int) : Int := match findD C tx with | some i => (i : Int) | none => -1
theorem findI_some {C : List Dd} {tx : Int} {k : Nat} {e : Dd} (h : ∀ j x, j < k → C[j]? = some x → x.tx ≠ tx) (hk : C[k]? = some e) (he : e.tx = tx) : findI C tx = (k : Int) := by
  have : findD C tx = some k := by
    unfold findD
    rw [List.findIdx?_eq_some_iff_getElem]
    obtain ⟨hl, hx⟩ := List.getElem?_eq_some_iff.1 hk
    refine ⟨hl, by rw [hx]; simpa using he, fun j hj => ?_⟩
    have := h j C[j] hj (List.getElem?_eq_getElem (by omega))
    simpa using this
  unfold findI
  rw [this]
theorem findI_none {C : List Dd} {tx : Int} (h : ∀ e ∈ C, e.tx ≠ tx) : findI C tx = -1 := by
  have : findD C tx = none := by
    unfold findD
    rw [List.findIdx?_eq_none_iff]
    intro e he
    have := h e he
    simpa using this
  unfold findI
  rw [this]
theorem findI_cases (C : List Dd) (tx : Int) : (findI C tx = -1 ∧ ∀ e ∈ C, e.tx ≠ tx) ∨ ∃ (k : Nat) (e : Dd), findI C tx = (k : Int) ∧ C[k]? = some e ∧ e.tx = tx := by
  unfold findI
  cases h : findD C tx with
  | none => exact .inl ⟨rfl, findD_none h⟩
  | some k =>
    obtain ⟨e, h1, h2⟩ := findD_some h
    exact .inr ⟨k, e, rfl, h1, h2⟩
theorem fnC_of {C : List Dd} (h : OkC C) {k : Nat} {e : Dd} (hk : C[k]? = some e) {tx : Int} (he : e.tx = tx) : fnC C tx.toNat = some e.d := by rw [← he]; exact fnC_at h hk
theorem fnC_not {C : List Dd} {tx : Int} (h0 : 0 ≤ tx) (h : ∀ e ∈ C, e.tx ≠ tx) : fnC C tx.toNat = none := fnC_none.2 fun e he => by have := h e he; omega
theorem okC_len {C : List Dd} (h : OkC C) : C.length ≤ 1000 := by
  have := few_nodup 1000 (C.map fun e => e.tx.toNat) (fun x hx => by
    obtain ⟨e, he, rfl⟩ := List.mem_map.1 hx
    have := h.rng e he
    omega) (by
    have h1 := h.nodup
    unfold keyL at h1
    refine List.pairwise_map.2 ((List.pairwise_map.1 h1).imp_of_mem fun {a b} ha hb hne e => hne ?_)
    have := h.rng a ha
    have := h.rng b hb
    omega)
  simpa using this
theorem Seg.grow_cb {w V : World} {T U : TypeId} {s : Nat} {A : Option Addr} {n c : Nat} {xs : List Value} {G : Option Nat} (h : Seg w T s A n c xs G) (hg : w.grownBy V G) {g : Nat} {cs : Array Value} (hc : CB w g U cs) (hne : T ≠ U) : CB V g U cs :=
  CB.same hc (hg.block g hc.lt (fun e => h.ne_ hc hne e.symm))
theorem seg_typeS {e : TypeId} {size : Nat} {A : Option Addr} {n c : Nat} {xs : List Value} {g : Nat} (h : Seg w e size A n c xs (some g)) : ∃ cs, CB w g e cs := by
  rcases h.2.2.2 with ⟨_, _, h0⟩ | ⟨g', off, cur, _, h3, h4, _⟩
  · cases h0
  · cases h3; exact ⟨cur, h4⟩
theorem RS.grow {α : Type} {c : α → List Value} {s : Nat} [Nonempty (EncOk c s)] {w V : World} {T U : TypeId} {A : Option Addr} {n q : Nat} {L : List α} (h : RS w U c s A n q L) {la : Option Addr} {ln lc s2 : Nat} {xs : List Value} {G : Option Nat} (h2 : Seg w T s2 la ln lc xs G) (hg : w.grownBy V G) (hne : U ≠ T) : RS V U c s A n q L := by
  obtain ⟨G', h'⟩ := h
  refine ⟨G', h'.keep fun g e => hg.block g (h'.lt g e) (fun e' => ?_)⟩
  subst e
  obtain ⟨cs, hc⟩ := seg_typeS (e := T) (by rw [← e'] at h2; exact h2)
  obtain ⟨cs', hc'⟩ := seg_typeS h'
  exact hc'.ne_ hc hne rfl
set_option maxRecDepth 100000 in
set_option maxHeartbeats 4000000 in
theorem find_r (xa : Option Addr) (xn xc : Nat) (la : Option Addr) (ln lc : Nat) (C : List Dd) (tx : Int) (w : World) (h : XD w xa xn xc C) : Calls Try.prog 15 #[.agg (yA ⟨xa, xn, xc, la, ln, lc⟩), .int .i64 tx] w fun zz w' => zz = .returned (.int .i64 (findI C tx)) ∧ Below w.heap.size w w' := by
  have hlen := Lib.hid h.len
  have hmx := h.max
  go_enter Try.func15, Try.ntmps15
  go_wp2_with (first | ((with_reducible refine st_box 28 _ (yA ⟨xa, xn, xc, la, ln, lc⟩) ?_ ?_); exact rfl))
  refine ⟨fun V1 g1 n1 f1 => ?_⟩
  have up1 : w.heap.size ≤ g1 := Nat.le_of_eq f1.at_
  have bl1 := f1.bel
  clear f1
  have r2_xs := (h).on bl1
  have l2 := le_tr (Below.refl _ _) bl1
  clear h
  clear bl1
  go_wp2_with fail
  go_loopw [5] (fun iv wr => ∃ k : Nat, k ≤ xn ∧ iv = .int .i64 k ∧ CB wr g1 28 (yA ⟨xa, xn, xc, la, ln, lc⟩) ∧ XD wr xa xn xc C ∧ Hid (∀ j x, j < k → C[j]? = some x → x.tx ≠ tx) ∧ Below w.heap.size w wr) (fun iv _ => xn - (intOf iv).toNat)
  case atStart => exact ⟨0, by omega, rfl, n1, r2_xs, Lib.hid (fun j x hj => by omega), l2⟩
  case round =>
    clear n1 r2_xs l2
    obtain ⟨k, hk, rfl, hy, hx, HN, hb⟩ := hrel
    have cy : wr.cell? ⟨g1, 0, none⟩ = some (.slice xa xn xc) := CB.cell hy 0
    by_cases hlt : k < xn
    · have l1 : (k : Int) < xn := by omega
      have l2 : (0 : Int) ≤ (k : Int) := by omega
      obtain ⟨ga, ofa, e, he, rfl, hr⟩ := hx.rr.elem hlt
      have cx : wr.cell? ⟨ga, ofa + k * 30, none⟩ = some (.int .i64 e.tx) := hr 0 _ rfl
      clear hr
      by_cases heq : e.tx = tx
      · have q1 : (e.tx == tx) = true := by simp [heq]
        have H := Lib.hid (findI_some HN.out he heq)
        clear heq he HN
        go_wp2_with fail
        go_ret
        exact ⟨by rw [H.out]; rfl, hb⟩
      have q1 : (e.tx == tx) = false := by simp [heq]
      have HN2 := Lib.hid (show ∀ j x, j < k + 1 → C[j]? = some x → x.tx ≠ tx from fun j x hj hx => by
        by_cases e2 : j = k
        · subst e2; rw [he] at hx; cases hx; exact heq
        · exact HN.out j x (by omega) hx)
      clear heq he HN
      go_wp2_with fail
      go_roundw
      case rel => exact ⟨k + 1, by omega, by go_num, hy, hx, HN2, hb⟩
      case measure => simp [intOf]; omega
    · obtain rfl : k = xn := by omega
      have H := Lib.hid (findI_none (C := C) (tx := tx) fun e he => by
        obtain ⟨j, hj⟩ := List.mem_iff_getElem?.1 he
        exact HN.out j e (by have := (List.getElem?_eq_some_iff.1 hj).1; have := hlen.out; omega) hj)
      clear HN hlt
      go_wp2_with fail
      go_ret
      exact ⟨by rw [H.out]; rfl, hb⟩
/-- The deals behind begin. -/
def bgL (C : List Dd) (r : Rd) : List Dd := if eBeg (fnC C) r = 0 then C ++ [⟨r.tx, dBeg r⟩] else C
/-- Behind a call of the document that hands a chair and an error back. -/
def BgPost (w : World) (la : Option Addr) (ln lc : Nat) (C : List Dd) (r : Rd) (e : Ending) (w' : World) : Prop :=
  ∃ A n c, e = .returned (.tuple #[.agg (yA ⟨A, n, c, la, ln, lc⟩), .int .i64 ((eBeg (fnC C) r : Nat) : Int)]) ∧ XD w' A n c (bgL C r) ∧ Below w.heap.size w w'
set_option maxRecDepth 100000 in
set_option maxHeartbeats 4000000 in
theorem begin_r (xa : Option Addr) (xn xc : Nat) (la : Option Addr) (ln lc : Nat) (C : List Dd) (r : Rd) (w : World) (h : XD w xa xn xc C) (hC : OkC C) (h0 : 0 ≤ r.tx) (hw : r.who < 256) : Calls Try.prog 34 #[.agg (yA ⟨xa, xn, xc, la, ln, lc⟩), .agg (rA r)] w (BgPost w la ln lc C r) := by
  have hlen := h.len
  have hl3 := okC_len hC
  have hn3 : xn ≤ 1000 := by omega
  have F1 := fun (W : World) (h : XD W xa xn xc C) => find_r xa xn xc la ln lc C r.tx W h
  rcases findI_cases C r.tx with ⟨hf, hno⟩ | ⟨k, e0, hf, hk, he0⟩
  · rw [hf] at F1
    have hD := fnC_not (C := C) h0 hno
    have hE0 : eBeg (fnC C) r = eBg r := by unfold eBeg eBg; rw [hD]; rfl
    have q0 : decide ((-1 : Int) ≥ 0) = false := by decide
    clear hf hno
    have M1 := fun W => members_r r.who W hw
    have N1 := fun (A : Option Addr) (n c : Nat) (W : World) (h : RR W uc 1 A n c (mems r.who)) => new_r A n c (mems r.who) W h
    by_cases hz : r.who = 0
    · have HE := Lib.hid (hE0.trans (show eBg r = 2 by unfold eBg; rw [if_pos hz]))
      have HL := Lib.hid (show bgL C r = C by unfold bgL; rw [if_neg (by rw [HE.out]; decide)])
      have hnk : ¬ okL (mems r.who) := by rw [hz]; exact mems_no
      rw [eNew_2 hnk, sNew_2 hnk] at N1
      clear hnk hz hE0 hD
      go_enter Try.func34, Try.ntmps34
      go_wp2_with (first | ((with_reducible refine st_box 28 _ (yA ⟨xa, xn, xc, la, ln, lc⟩) ?_ ?_); exact rfl))
      refine ⟨fun V1 g1 n1 f1 => ?_⟩
      have up1 : w.heap.size ≤ g1 := Nat.le_of_eq f1.at_
      have bl1 := f1.bel
      clear f1
      have r2_xs := (h).on bl1
      have l2 := le_tr (Below.refl _ _) bl1
      clear h
      clear bl1
      go_wp2_with (first | ((with_reducible refine st_box 34 _ (rA r) ?_ ?_); exact rfl))
      refine ⟨fun V3 g3 n3 f3 => ?_⟩
      have ne3_y := f3.ne n1
      have up3 : w.heap.size ≤ g3 := f3.up l2
      have bl3 := f3.bel
      clear f3
      have r4_y := le_on n1 bl3
      have r4_xs := (r2_xs).on bl3
      have l4 := le_tr l2 bl3
      clear n1 r2_xs l2
      clear bl3
      go_wp2_with (first | ((with_reducible refine st_alloc 28 (yA zeroC) ?_ ?_); exact zero_cr))
      refine ⟨fun V5 g5 n5 f5 => ?_⟩
      have ne5_y := f5.ne r4_y
      have ne5_r := f5.ne n3
      have up5 : w.heap.size ≤ g5 := f5.up l4
      have bl5 := f5.bel
      clear f5
      have r6_y := le_on r4_y bl5
      have r6_r := le_on n3 bl5
      have r6_xs := (r4_xs).on bl5
      have l6 := le_tr l4 bl5
      clear r4_y n3 r4_xs l4
      clear bl5
      have c7 : V5.cell? ⟨g3, 1, none⟩ = some (.int .i64 r.tx) := CB.cell r6_r 1
      go_wp2_with (first | ((with_reducible refine st_load 28 _ g1 ?_ r6_y Try.underlying28 ?_ ?_ ?_); exact rfl; exact rfl; exact Try.zCr))
      refine (F1 _ r6_xs).mono ?_
      rintro e w8 ⟨rfl, b8⟩
      clear c7
      have r9_y := le_on r6_y b8
      have r9_r := le_on r6_r b8
      have r9_z := le_on n5 b8
      have r9_xs := (r6_xs).on b8
      have l9 := le_tr l6 b8
      clear r6_y r6_r n5 r6_xs l6
      clear b8
      have c10 : w8.cell? ⟨g3, 2, none⟩ = some (.int .u8 (r.who : Int)) := CB.cell r9_r 2
      go_wp2_with fail
      refine (M1 _).mono ?_
      rintro e w11 ⟨A5, n5, c5, rfl, hs5, b11⟩
      clear c10
      have r12_y := le_on r9_y b11
      have r12_r := le_on r9_r b11
      have r12_z := le_on r9_z b11
      have r12_xs := (r9_xs).on b11
      have l12 := le_tr l9 b11
      clear r9_y r9_r r9_z r9_xs l9
      clear b11
      go_wp2_with fail
      refine (N1 _ _ _ _ (hs5).rr).mono ?_
      rintro e w13 ⟨rfl, b13⟩
      have r14_y := le_on r12_y b13
      have r14_r := le_on r12_r b13
      have r14_z := le_on r12_z b13
      have r14_xs := (r12_xs).on b13
      have l14 := le_tr l12 b13
      clear r12_y r12_r r12_z r12_xs hs5 l12
      clear b13
      go_wp2_with (first | ((with_reducible refine st_alloc 73 (tA zeroY) ?_ ?_); exact zero_r))
      refine ⟨fun V15 g15 n15 f15 => ?_⟩
      have ne15_y := f15.ne r14_y
      have ne15_r := f15.ne r14_r
      have ne15_z := f15.ne r14_z
      have up15 : w.heap.size ≤ g15 := f15.up l14
      have bl15 := f15.bel
      clear f15
      have r16_y := le_on r14_y bl15
      have r16_r := le_on r14_r bl15
      have r16_z := le_on r14_z bl15
      have r16_xs := (r14_xs).on bl15
      have l16 := le_tr l14 bl15
      clear r14_y r14_r r14_z r14_xs l14
      clear bl15
      go_wp2_with (first | ((with_reducible refine st_store 73 _ _ g15 (tA zeroY) ?_ ?_ n15 ?_ ?_ ?_ ?_); exact rfl; exact rfl; exact Try.zTr; exact rfl; exact tA_one _))
      refine ⟨fun V17 n17 k17 => ?_⟩
      have m17_y := k17.on r16_y ne15_y
      have m17_r := k17.on r16_r ne15_r
      have m17_z := k17.on r16_z ne15_z
      have m17_xs := (r16_xs).wr k17 n15 (by decide)
      have o17 := k17.bel _ _ l16 up15
      clear k17
      clear n15 r16_y r16_r r16_z r16_xs l16
      go_wp2_with (first | ((with_reducible refine st_load 28 _ g1 ?_ m17_y Try.underlying28 ?_ ?_ ?_); exact rfl; exact rfl; exact Try.zCr) | ((with_reducible refine st_store 28 _ _ g5 (yA ⟨xa, xn, xc, la, ln, lc⟩) ?_ ?_ m17_z ?_ ?_ ?_ ?_); exact rfl; exact rfl; exact Try.zCr; exact rfl; exact yA_one _))
      refine ⟨fun V18 n18 k18 => ?_⟩
      have m18_y := k18.on m17_y ne5_y
      have m18_r := k18.on m17_r ne5_r
      have m18_t := k18.on n17 (Ne.symm ne15_z)
      have m18_xs := (m17_xs).wr k18 m17_z (by decide)
      have o18 := k18.bel _ _ o17 up5
      clear k18
      clear m17_z m17_y m17_r n17 m17_xs o17
      go_wp2_with fail
      refine bodyPost_ret (v := .tuple #[.agg (yA ⟨xa, xn, xc, la, ln, lc⟩), .int .i64 2]) (res_two Try.results34 rfl rfl n18 Try.underlying28 rfl Try.zCr) rfl ⟨xa, xn, xc, by rw [HE.out] <;> rfl, by rw [HL.out]; exact m18_xs, o18⟩
    have hok := mems_ok hw hz
    rw [eNew_0 hok, sNew_0 hok] at N1
    clear hok
    have X1 := fun W => new_x r.now r.sp r.cap W
    obtain ⟨t, ht⟩ : ∃ t, Te.sNew r.now r.sp r.cap = t := ⟨_, rfl⟩
    obtain ⟨U, hU⟩ : ∃ U : Ty, ⟨memF (mems r.who), fun _ => 0, fun _ => 0⟩ = U := ⟨_, rfl⟩
    have hB : dBeg r = ⟨U, t, 0⟩ := by unfold dBeg; rw [ht, hU]
    rw [ht] at X1
    rw [hU] at N1
    clear ht hU
    obtain ⟨E, hE⟩ : ∃ E, Te.eNew r.now r.sp r.cap = E := ⟨_, rfl⟩
    rw [hE] at X1
    have HE0 := Lib.hid (hE0.trans (show eBg r = E by unfold eBg; rw [if_neg hz, hE]))
    clear hE hz hE0
    by_cases hx : E = 0
    · subst hx
      have HE := HE0
      have HL := Lib.hid (show bgL C r = C ++ [⟨r.tx, ⟨U, t, 0⟩⟩] by unfold bgL; rw [if_pos HE.out, hB])
      clear HE0 hB hD
      go_enter Try.func34, Try.ntmps34
      go_wp2_with (first | ((with_reducible refine st_box 28 _ (yA ⟨xa, xn, xc, la, ln, lc⟩) ?_ ?_); exact rfl))
      refine ⟨fun V1 g1 n1 f1 => ?_⟩
      have up1 : w.heap.size ≤ g1 := Nat.le_of_eq f1.at_
      have bl1 := f1.bel
      clear f1
      have r2_xs := (h).on bl1
      have l2 := le_tr (Below.refl _ _) bl1
      clear h
      clear bl1
      go_wp2_with (first | ((with_reducible refine st_box 34 _ (rA r) ?_ ?_); exact rfl))
      refine ⟨fun V3 g3 n3 f3 => ?_⟩
      have ne3_y := f3.ne n1
      have up3 : w.heap.size ≤ g3 := f3.up l2
      have bl3 := f3.bel
      clear f3
      have r4_y := le_on n1 bl3
      have r4_xs := (r2_xs).on bl3
      have l4 := le_tr l2 bl3
      clear n1 r2_xs l2
      clear bl3
      go_wp2_with (first | ((with_reducible refine st_alloc 28 (yA zeroC) ?_ ?_); exact zero_cr))
      refine ⟨fun V5 g5 n5 f5 => ?_⟩
      have ne5_y := f5.ne r4_y
      have ne5_r := f5.ne n3
      have up5 : w.heap.size ≤ g5 := f5.up l4
      have bl5 := f5.bel
      clear f5
      have r6_y := le_on r4_y bl5
      have r6_r := le_on n3 bl5
      have r6_xs := (r4_xs).on bl5
      have l6 := le_tr l4 bl5
      clear r4_y n3 r4_xs l4
      clear bl5
      have c7 : V5.cell? ⟨g3, 1, none⟩ = some (.int .i64 r.tx) := CB.cell r6_r 1
      go_wp2_with (first | ((with_reducible refine st_load 28 _ g1 ?_ r6_y Try.underlying28 ?_ ?_ ?_); exact rfl; exact rfl; exact Try.zCr))
      refine (F1 _ r6_xs).mono ?_
      rintro e w8 ⟨rfl, b8⟩
      clear c7
      have r9_y := le_on r6_y b8
      have r9_r := le_on r6_r b8
      have r9_z := le_on n5 b8
      have r9_xs := (r6_xs).on b8
      have l9 := le_tr l6 b8
      clear r6_y r6_r n5 r6_xs l6
      clear b8
      have c10 : w8.cell? ⟨g3, 2, none⟩ = some (.int .u8 (r.who : Int)) := CB.cell r9_r 2
      go_wp2_with fail
      refine (M1 _).mono ?_
      rintro e w11 ⟨A5, n5, c5, rfl, hs5, b11⟩
      clear c10
      have r12_y := le_on r9_y b11
      have r12_r := le_on r9_r b11
      have r12_z := le_on r9_z b11
      have r12_xs := (r9_xs).on b11
      have l12 := le_tr l9 b11
      clear r9_y r9_r r9_z r9_xs l9
      clear b11
      go_wp2_with fail
      refine (N1 _ _ _ _ (hs5).rr).mono ?_
      rintro e w13 ⟨rfl, b13⟩
      have r14_y := le_on r12_y b13
      have r14_r := le_on r12_r b13
      have r14_z := le_on r12_z b13
      have r14_xs := (r12_xs).on b13
      have l14 := le_tr l12 b13
      clear r12_y r12_r r12_z r12_xs hs5 l12
      clear b13
      go_wp2_with (first | ((with_reducible refine st_alloc 73 (tA zeroY) ?_ ?_); exact zero_r))
      refine ⟨fun V15 g15 n15 f15 => ?_⟩
      have ne15_y := f15.ne r14_y
      have ne15_r := f15.ne r14_r
      have ne15_z := f15.ne r14_z
      have up15 : w.heap.size ≤ g15 := f15.up l14
      have bl15 := f15.bel
      clear f15
      have r16_y := le_on r14_y bl15
      have r16_r := le_on r14_r bl15
      have r16_z := le_on r14_z bl15
      have r16_xs := (r14_xs).on bl15
      have l16 := le_tr l14 bl15
      clear r14_y r14_r r14_z r14_xs l14
      clear bl15
      go_wp2_with (first | ((with_reducible refine st_store 73 _ _ g15 (tA U) ?_ ?_ n15 ?_ ?_ ?_ ?_); exact rfl; exact rfl; exact Try.zTr; exact rfl; exact tA_one _))
      refine ⟨fun V17 n17 k17 => ?_⟩
      have m17_y := k17.on r16_y ne15_y
      have m17_r := k17.on r16_r ne15_r
      have m17_z := k17.on r16_z ne15_z
      have m17_xs := (r16_xs).wr k17 n15 (by decide)
      have o17 := k17.bel _ _ l16 up15
      clear k17
      clear n15 r16_y r16_r r16_z r16_xs l16
      have c18 : V17.cell? ⟨g3, 5, none⟩ = some (.int .i64 r.now) := CB.cell m17_r 5
      have c19 : V17.cell? ⟨g3, 6, none⟩ = some (.int .i64 r.sp) := CB.cell m17_r 6
      have c20 : V17.cell? ⟨g3, 7, none⟩ = some (.int .i64 r.cap) := CB.cell m17_r 7
      go_wp2_with fail
      refine (X1 _).mono ?_
      rintro e w21 ⟨rfl, b21⟩
      clear c18 c19 c20
      have r22_y := le_on m17_y b21
      have r22_r := le_on m17_r b21
      have r22_z := le_on m17_z b21
      have r22_t := le_on n17 b21
      have r22_xs := (m17_xs).on b21
      have l22 := le_tr o17 b21
      clear m17_y m17_r m17_z n17 m17_xs o17
      clear b21
      go_wp2_with (first | ((with_reducible refine st_alloc 74 (mA zeroM) ?_ ?_); exact zero_tmr))
      refine ⟨fun V23 g23 n23 f23 => ?_⟩
      have ne23_y := f23.ne r22_y
      have ne23_r := f23.ne r22_r
      have ne23_z := f23.ne r22_z
      have ne23_t := f23.ne r22_t
      have up23 : w.heap.size ≤ g23 := f23.up l22
      have bl23 := f23.bel
      clear f23
      have r24_y := le_on r22_y bl23
      have r24_r := le_on r22_r bl23
      have r24_z := le_on r22_z bl23
      have r24_t := le_on r22_t bl23
      have r24_xs := (r22_xs).on bl23
      have l24 := le_tr l22 bl23
      clear r22_y r22_r r22_z r22_t r22_xs l22
      clear bl23
      go_wp2_with (first | ((with_reducible refine st_store 74 _ _ g23 (mA t) ?_ ?_ n23 ?_ ?_ ?_ ?_); exact rfl; exact rfl; exact Try.zTmr; exact rfl; exact mA_one _))
      refine ⟨fun V25 n25 k25 => ?_⟩
      have m25_y := k25.on r24_y ne23_y
      have m25_r := k25.on r24_r ne23_r
      have m25_z := k25.on r24_z ne23_z
      have m25_t := k25.on r24_t ne23_t
      have m25_xs := (r24_xs).wr k25 n23 (by decide)
      have o25 := k25.bel _ _ l24 up23
      clear k25
      clear n23 r24_y r24_r r24_z r24_t r24_xs l24
      have lo26 : w.heap.size ≤ V25.heap.size := o25.size
      go_wp2_with (first | ((with_reducible refine st_lit0 26 76 Try.underlying26 Try.infoX2 ?_)))
      refine ⟨fun V26 g26 n26 f26 => ?_⟩
      have ys26 := le_on m25_y f26.bel
      have xs26 := (m25_xs).on f26.bel
      have bl26 := f26.bel
      have at26 := f26.at_
      clear f26
      have cy26 : V26.cell? ⟨g1, 0, none⟩ = some (.slice xa xn xc) := CB.cell ys26 0
      obtain ⟨Gx26, sx26⟩ := xs26
      go_wp2_with (first | ((with_reducible refine st_app (.tmp 42) (.tmp 44) 26 76 Try.underlying26 Try.infoX rfl (by decide) (A := some ⟨g26, 0, none⟩) (n := 0) (c := 0) (G := some g26) rfl (Seg.lit0 n26) (k := xc) rfl sx26.src (rc_one 30 C) (by simp only [maxLen]; omega) (by omega) xn (by omega) ?_)))
      refine ⟨fun B26 m26 q26 w26 s26 h26 k26 => ?_⟩
      simp only [List.nil_append] at s26
      have hG26 : ∀ g, q26 = some g → w.heap.size ≤ g := fun g e => by
        rcases k26 with e' | ⟨g', e', hg'⟩
        · rw [e'] at e; cases e; omega
        · rw [e'] at e; cases e; exact Nat.le_trans lo26 (Nat.le_trans bl26.size hg')
      have hGG26 : ∀ g, q26 = some g → V25.heap.size ≤ g := fun g e => by
        rcases k26 with e' | ⟨g', e', hg'⟩
        · rw [e'] at e; cases e; omega
        · rw [e'] at e; cases e; exact Nat.le_trans bl26.size hg'
      have bb26 : Below V25.heap.size V25 w26 := bl26.grown h26 bl26.size (fun g e => by cases e; omega)
      clear h26 k26 n26 ys26 sx26 cy26 bl26
      have r27_y := le_on m25_y bb26
      have r27_r := le_on m25_r bb26
      have r27_z := le_on m25_z bb26
      have r27_t := le_on m25_t bb26
      have r27_m := le_on n25 bb26
      have r27_xs := (m25_xs).on bb26
      have l27 := le_tr o25 bb26
      clear m25_y m25_r m25_z m25_t n25 m25_xs o25
      clear bb26 at26
      have c28 : w26.cell? ⟨g3, 1, none⟩ = some (.int .i64 r.tx) := CB.cell r27_r 1
      go_wp2_with (first | ((with_reducible refine st_load 73 _ g15 ?_ r27_t Try.underlying73 ?_ ?_ ?_); exact rfl; exact rfl; exact Try.zTr) | ((with_reducible refine st_load 74 _ g23 ?_ r27_m Try.underlying74 ?_ ?_ ?_); exact rfl; exact rfl; exact Try.zTmr) | ((with_reducible refine st_built3 76 _ _ _ (.int .i64 r.tx) (.agg (tA U)) (.agg (mA t)) (xA ⟨r.tx, U, t, 0⟩) ?_ ?_ ?_ ?_ ?_); exact rfl; exact rfl; exact rfl; exact built_x _ _ _) | ((with_reducible refine st_lit1 26 76 _ (xA ⟨r.tx, U, t, 0⟩) ?_ Try.underlying26 Try.infoX2 rfl (by decide) (by decide) ?_); exact rfl))
      refine ⟨fun V29 g29 n29 f29 => ?_⟩
      clear c28
      have sl29 := s26.on f29.bel
      have up29 : w.heap.size ≤ g29 := f29.up l27
      have bl29 := f29.bel
      clear f29 s26
      have r30_y := le_on r27_y bl29
      have r30_r := le_on r27_r bl29
      have r30_z := le_on r27_z bl29
      have r30_t := le_on r27_t bl29
      have r30_m := le_on r27_m bl29
      have r30_xs := (r27_xs).on bl29
      have l30 := le_tr l27 bl29
      clear r27_y r27_r r27_z r27_t r27_m r27_xs l27
      clear bl29
      go_wp2_with (first | ((with_reducible refine st_app (.tmp 46) (.tmp 52) 26 76 Try.underlying26 Try.infoX rfl (by decide) rfl sl29 (k := 1) rfl (Src.box n29 rfl) (all_list (xA_one _)) (by simp only [maxLen]; omega) (by omega) (xn + 1) rfl ?_)))
      refine ⟨fun B31 m31 q31 w31 s31 h31 k31 => ?_⟩
      have s31 : Seg w31 76 30 B31 (xn + 1) m31 (rc xcl (C ++ [⟨r.tx, U, t, 0⟩])) q31 := by rw [← rc_snoc]; exact s31
      have e31_y := sl29.grow_cb h31 r30_y (by decide)
      have e31_r := sl29.grow_cb h31 r30_r (by decide)
      have e31_z := sl29.grow_cb h31 r30_z (by decide)
      have e31_t := sl29.grow_cb h31 r30_t (by decide)
      have e31_m := sl29.grow_cb h31 r30_m (by decide)
      have e31_low := l30.grown h31 l30.size (fun g e => hG26 g e)
      clear h31 k31 sl29 n29 r30_y r30_r r30_z r30_t r30_m l30 r30_xs
      go_wp2_with (first | ((with_reducible refine st_cell 26 _ _ g1 0 (.slice B31 (xn + 1) m31) ?_ ?_ e31_y (new := yA ⟨B31, xn + 1, m31, la, ln, lc⟩) ?_ ?_ ?_ ?_ ?_ ?_); exact rfl; exact rfl; exact (by rw [yA_size]; decide); exact yA_1 _ _ _ _; exact one_sx; exact rfl; exact rfl))
      refine ⟨fun V32 n32 k32 => ?_⟩
      have m32_r := k32.on e31_r (Ne.symm ne3_y)
      have m32_z := k32.on e31_z (Ne.symm ne5_y)
      have m32_t := k32.on e31_t (Ne.symm ne15_y)
      have m32_m := k32.on e31_m (Ne.symm ne23_y)
      have m32_l := (s31).keep fun g e => k32.far g (fun e' => (s31).ne_ e31_y (by decide) (by rw [e, e']))
      have o32 := k32.bel _ _ e31_low up1
      clear k32
      clear e31_y e31_r e31_z e31_t e31_m s31 e31_low
      go_wp2_with (first | ((with_reducible refine st_load 28 _ g1 ?_ n32 Try.underlying28 ?_ ?_ ?_); exact rfl; exact rfl; exact Try.zCr) | ((with_reducible refine st_store 28 _ _ g5 (yA ⟨B31, xn + 1, m31, la, ln, lc⟩) ?_ ?_ m32_z ?_ ?_ ?_ ?_); exact rfl; exact rfl; exact Try.zCr; exact rfl; exact yA_one _))
      refine ⟨fun V33 n33 k33 => ?_⟩
      have m33_y := k33.on n32 ne5_y
      have m33_r := k33.on m32_r ne5_r
      have m33_t := k33.on m32_t (Ne.symm ne15_z)
      have m33_m := k33.on m32_m (Ne.symm ne23_z)
      have m33_l := (m32_l).keep fun g e => k33.far g (fun e' => (m32_l).ne_ m32_z (by decide) (by rw [e, e']))
      have o33 := k33.bel _ _ o32 up5
      clear k33
      clear m32_z n32 m32_r m32_t m32_m m32_l o32
      go_wp2_with fail
      refine bodyPost_ret (v := .tuple #[.agg (yA ⟨B31, xn + 1, m31, la, ln, lc⟩), .int .i64 0]) (res_two Try.results34 rfl rfl n33 Try.underlying28 rfl Try.zCr) rfl ⟨B31, xn + 1, m31, by rw [HE.out] <;> rfl, by rw [HL.out]; exact ⟨_, m33_l⟩, o33⟩
    have HE := HE0
    have HL := Lib.hid (show bgL C r = C by unfold bgL; rw [if_neg (by rw [HE.out]; exact hx)])
    have q5 : ((E : Int) != 0) = true := by simp [hx]
    have q6 : (E != 0) = true := by simp [hx]
    clear hx HE0 hB hD
    go_enter Try.func34, Try.ntmps34
    go_wp2_with (first | ((with_reducible refine st_box 28 _ (yA ⟨xa, xn, xc, la, ln, lc⟩) ?_ ?_); exact rfl))
    refine ⟨fun V1 g1 n1 f1 => ?_⟩
    have up1 : w.heap.size ≤ g1 := Nat.le_of_eq f1.at_
    have bl1 := f1.bel
    clear f1
    have r2_xs := (h).on bl1
    have l2 := le_tr (Below.refl _ _) bl1
    clear h
    clear bl1
    go_wp2_with (first | ((with_reducible refine st_box 34 _ (rA r) ?_ ?_); exact rfl))
    refine ⟨fun V3 g3 n3 f3 => ?_⟩
    have ne3_y := f3.ne n1
    have up3 : w.heap.size ≤ g3 := f3.up l2
    have bl3 := f3.bel
    clear f3
    have r4_y := le_on n1 bl3
    have r4_xs := (r2_xs).on bl3
    have l4 := le_tr l2 bl3
    clear n1 r2_xs l2
    clear bl3
    go_wp2_with (first | ((with_reducible refine st_alloc 28 (yA zeroC) ?_ ?_); exact zero_cr))
    refine ⟨fun V5 g5 n5 f5 => ?_⟩
    have ne5_y := f5.ne r4_y
    have ne5_r := f5.ne n3
    have up5 : w.heap.size ≤ g5 := f5.up l4
    have bl5 := f5.bel
    clear f5
    have r6_y := le_on r4_y bl5
    have r6_r := le_on n3 bl5
    have r6_xs := (r4_xs).on bl5
    have l6 := le_tr l4 bl5
    clear r4_y n3 r4_xs l4
    clear bl5
    have c7 : V5.cell? ⟨g3, 1, none⟩ = some (.int .i64 r.tx) := CB.cell r6_r 1
    go_wp2_with (first | ((with_reducible refine st_load 28 _ g1 ?_ r6_y Try.underlying28 ?_ ?_ ?_); exact rfl; exact rfl; exact Try.zCr))
    refine (F1 _ r6_xs).mono ?_
    rintro e w8 ⟨rfl, b8⟩
    clear c7
    have r9_y := le_on r6_y b8
    have r9_r := le_on r6_r b8
    have r9_z := le_on n5 b8
    have r9_xs := (r6_xs).on b8
    have l9 := le_tr l6 b8
    clear r6_y r6_r n5 r6_xs l6
    clear b8
    have c10 : w8.cell? ⟨g3, 2, none⟩ = some (.int .u8 (r.who : Int)) := CB.cell r9_r 2
    go_wp2_with fail
    refine (M1 _).mono ?_
    rintro e w11 ⟨A5, n5, c5, rfl, hs5, b11⟩
    clear c10
    have r12_y := le_on r9_y b11
    have r12_r := le_on r9_r b11
    have r12_z := le_on r9_z b11
    have r12_xs := (r9_xs).on b11
    have l12 := le_tr l9 b11
    clear r9_y r9_r r9_z r9_xs l9
    clear b11
    go_wp2_with fail
    refine (N1 _ _ _ _ (hs5).rr).mono ?_
    rintro e w13 ⟨rfl, b13⟩
    have r14_y := le_on r12_y b13
    have r14_r := le_on r12_r b13
    have r14_z := le_on r12_z b13
    have r14_xs := (r12_xs).on b13
    have l14 := le_tr l12 b13
    clear r12_y r12_r r12_z r12_xs hs5 l12
    clear b13
    go_wp2_with (first | ((with_reducible refine st_alloc 73 (tA zeroY) ?_ ?_); exact zero_r))
    refine ⟨fun V15 g15 n15 f15 => ?_⟩
    have ne15_y := f15.ne r14_y
    have ne15_r := f15.ne r14_r
    have ne15_z := f15.ne r14_z
    have up15 : w.heap.size ≤ g15 := f15.up l14
    have bl15 := f15.bel
    clear f15
    have r16_y := le_on r14_y bl15
    have r16_r := le_on r14_r bl15
    have r16_z := le_on r14_z bl15
    have r16_xs := (r14_xs).on bl15
    have l16 := le_tr l14 bl15
    clear r14_y r14_r r14_z r14_xs l14
    clear bl15
    go_wp2_with (first | ((with_reducible refine st_store 73 _ _ g15 (tA U) ?_ ?_ n15 ?_ ?_ ?_ ?_); exact rfl; exact rfl; exact Try.zTr; exact rfl; exact tA_one _))
    refine ⟨fun V17 n17 k17 => ?_⟩
    have m17_y := k17.on r16_y ne15_y
    have m17_r := k17.on r16_r ne15_r
    have m17_z := k17.on r16_z ne15_z
    have m17_xs := (r16_xs).wr k17 n15 (by decide)
    have o17 := k17.bel _ _ l16 up15
    clear k17
    clear n15 r16_y r16_r r16_z r16_xs l16
    have c18 : V17.cell? ⟨g3, 5, none⟩ = some (.int .i64 r.now) := CB.cell m17_r 5
    have c19 : V17.cell? ⟨g3, 6, none⟩ = some (.int .i64 r.sp) := CB.cell m17_r 6
    have c20 : V17.cell? ⟨g3, 7, none⟩ = some (.int .i64 r.cap) := CB.cell m17_r 7
    go_wp2_with fail
    refine (X1 _).mono ?_
    rintro e w21 ⟨rfl, b21⟩
    clear c18 c19 c20
    have r22_y := le_on m17_y b21
    have r22_r := le_on m17_r b21
    have r22_z := le_on m17_z b21
    have r22_t := le_on n17 b21
    have r22_xs := (m17_xs).on b21
    have l22 := le_tr o17 b21
    clear m17_y m17_r m17_z n17 m17_xs o17
    clear b21
    go_wp2_with (first | ((with_reducible refine st_alloc 74 (mA zeroM) ?_ ?_); exact zero_tmr))
    refine ⟨fun V23 g23 n23 f23 => ?_⟩
    have ne23_y := f23.ne r22_y
    have ne23_r := f23.ne r22_r
    have ne23_z := f23.ne r22_z
    have ne23_t := f23.ne r22_t
    have up23 : w.heap.size ≤ g23 := f23.up l22
    have bl23 := f23.bel
    clear f23
    have r24_y := le_on r22_y bl23
    have r24_r := le_on r22_r bl23
    have r24_z := le_on r22_z bl23
    have r24_t := le_on r22_t bl23
    have r24_xs := (r22_xs).on bl23
    have l24 := le_tr l22 bl23
    clear r22_y r22_r r22_z r22_t r22_xs l22
    clear bl23
    go_wp2_with (first | ((with_reducible refine st_store 74 _ _ g23 (mA t) ?_ ?_ n23 ?_ ?_ ?_ ?_); exact rfl; exact rfl; exact Try.zTmr; exact rfl; exact mA_one _))
    refine ⟨fun V25 n25 k25 => ?_⟩
    have m25_y := k25.on r24_y ne23_y
    have m25_r := k25.on r24_r ne23_r
    have m25_z := k25.on r24_z ne23_z
    have m25_t := k25.on r24_t ne23_t
    have m25_xs := (r24_xs).wr k25 n23 (by decide)
    have o25 := k25.bel _ _ l24 up23
    clear k25
    clear n23 r24_y r24_r r24_z r24_t r24_xs l24
    go_wp2_with (first | ((with_reducible refine st_load 28 _ g1 ?_ m25_y Try.underlying28 ?_ ?_ ?_); exact rfl; exact rfl; exact Try.zCr) | ((with_reducible refine st_store 28 _ _ g5 (yA ⟨xa, xn, xc, la, ln, lc⟩) ?_ ?_ m25_z ?_ ?_ ?_ ?_); exact rfl; exact rfl; exact Try.zCr; exact rfl; exact yA_one _))
    refine ⟨fun V26 n26 k26 => ?_⟩
    have m26_y := k26.on m25_y ne5_y
    have m26_r := k26.on m25_r ne5_r
    have m26_t := k26.on m25_t (Ne.symm ne15_z)
    have m26_m := k26.on n25 (Ne.symm ne23_z)
    have m26_xs := (m25_xs).wr k26 m25_z (by decide)
    have o26 := k26.bel _ _ o25 up5
    clear k26
    clear m25_z m25_y m25_r m25_t n25 m25_xs o25
    go_wp2_with fail
    refine bodyPost_ret (v := .tuple #[.agg (yA ⟨xa, xn, xc, la, ln, lc⟩), .int .i64 (E : Int)]) (res_two Try.results34 rfl rfl n26 Try.underlying28 rfl Try.zCr) rfl ⟨xa, xn, xc, by rw [HE.out] <;> rfl, by rw [HL.out]; exact m26_xs, o26⟩
  · rw [hf] at F1
    have hD := fnC_of hC hk he0
    have HE := Lib.hid (show eBeg (fnC C) r = 8 by unfold eBeg; rw [hD]; rfl)
    have HL := Lib.hid (show bgL C r = C by unfold bgL; rw [if_neg (by rw [HE.out]; decide)])
    have q0 : decide ((k : Int) ≥ 0) = true := by simp
    have q0' : (0 : Int) ≤ (k : Int) := by omega
    clear hf hk he0 hD
    go_enter Try.func34, Try.ntmps34
    go_wp2_with (first | ((with_reducible refine st_box 28 _ (yA ⟨xa, xn, xc, la, ln, lc⟩) ?_ ?_); exact rfl))
    refine ⟨fun V1 g1 n1 f1 => ?_⟩
    have up1 : w.heap.size ≤ g1 := Nat.le_of_eq f1.at_
    have bl1 := f1.bel
    clear f1
    have r2_xs := (h).on bl1
    have l2 := le_tr (Below.refl _ _) bl1
    clear h
    clear bl1
    go_wp2_with (first | ((with_reducible refine st_box 34 _ (rA r) ?_ ?_); exact rfl))
    refine ⟨fun V3 g3 n3 f3 => ?_⟩
    have ne3_y := f3.ne n1
    have up3 : w.heap.size ≤ g3 := f3.up l2
    have bl3 := f3.bel
    clear f3
    have r4_y := le_on n1 bl3
    have r4_xs := (r2_xs).on bl3
    have l4 := le_tr l2 bl3
    clear n1 r2_xs l2
    clear bl3
    go_wp2_with (first | ((with_reducible refine st_alloc 28 (yA zeroC) ?_ ?_); exact zero_cr))
    refine ⟨fun V5 g5 n5 f5 => ?_⟩
    have ne5_y := f5.ne r4_y
    have ne5_r := f5.ne n3
    have up5 : w.heap.size ≤ g5 := f5.up l4
    have bl5 := f5.bel
    clear f5
    have r6_y := le_on r4_y bl5
    have r6_r := le_on n3 bl5
    have r6_xs := (r4_xs).on bl5
    have l6 := le_tr l4 bl5
    clear r4_y n3 r4_xs l4
    clear bl5
    have c7 : V5.cell? ⟨g3, 1, none⟩ = some (.int .i64 r.tx) := CB.cell r6_r 1
    go_wp2_with (first | ((with_reducible refine st_load 28 _ g1 ?_ r6_y Try.underlying28 ?_ ?_ ?_); exact rfl; exact rfl; exact Try.zCr))
    refine (F1 _ r6_xs).mono ?_
    rintro e w8 ⟨rfl, b8⟩
    clear c7
    have r9_y := le_on r6_y b8
    have r9_r := le_on r6_r b8
    have r9_z := le_on n5 b8
    have r9_xs := (r6_xs).on b8
    have l9 := le_tr l6 b8
    clear r6_y r6_r n5 r6_xs l6
    clear b8
    go_wp2_with (first | ((with_reducible refine st_load 28 _ g1 ?_ r9_y Try.underlying28 ?_ ?_ ?_); exact rfl; exact rfl; exact Try.zCr) | ((with_reducible refine st_store 28 _ _ g5 (yA ⟨xa, xn, xc, la, ln, lc⟩) ?_ ?_ r9_z ?_ ?_ ?_ ?_); exact rfl; exact rfl; exact Try.zCr; exact rfl; exact yA_one _))
    refine ⟨fun V10 n10 k10 => ?_⟩
    have m10_y := k10.on r9_y ne5_y
    have m10_r := k10.on r9_r ne5_r
    have m10_xs := (r9_xs).wr k10 r9_z (by decide)
    have o10 := k10.bel _ _ l9 up5
    clear k10
    clear r9_z r9_y r9_r r9_xs l9
    go_wp2_with fail
    refine bodyPost_ret (v := .tuple #[.agg (yA ⟨xa, xn, xc, la, ln, lc⟩), .int .i64 8]) (res_two Try.results34 rfl rfl n10 Try.underlying28 rfl Try.zCr) rfl ⟨xa, xn, xc, by rw [HE.out] <;> rfl, by rw [HL.out]; exact m10_xs, o10⟩
end Go.Proofs.Ytjfmahceolhfnaa
