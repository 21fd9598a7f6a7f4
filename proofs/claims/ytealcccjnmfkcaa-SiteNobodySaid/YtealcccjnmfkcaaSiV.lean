/-
  The walk of SiteNobody: it returns true; what a site that no call made answers. Condition: the calls can be read, the numbers such as their types hold.
-/
import Derived.Test.YtealcccjnmfkcaaSiJ
import Derived.Test.YtealcccjnmfkcaaSiT
set_option linter.unusedVariables false
set_option linter.unusedSimpArgs false
namespace Go.Proofs.Ytealcccjnmfkcaa
open Go.RowKit

/-- The pointer p is no site that a call made, in w and behind. -/
def NoSite (w : World) (p : Value) : Prop := ∀ W : World, Below w.heap.size w W → Calls Try.prog 34 #[p] W fun e w' => e = .returned (.bool false) ∧ w' = W
theorem NoSite.on {w W : World} {p : Value} (h : NoSite w p) (hb : Below w.heap.size w W) : NoSite W p := fun U hU => h U (bel2 hb hU)

set_option maxRecDepth 100000 in
set_option maxHeartbeats 1000000 in
theorem nosite_nil (w : World) : NoSite w (.pointer none) := by
  intro W hb
  go_enter Try.func34, Try.ntmps34
  go_wp2_with fail
  go_ret
  exact ⟨rfl, rfl⟩

set_option maxRecDepth 100000 in
set_option maxHeartbeats 1000000 in
theorem nosite_zero (w : World) (z : Nat) (u v x : Value) (hz : CB w z 63 #[u, v, .map none, x]) : NoSite w (.pointer (some ⟨z, 0, none⟩)) := by
  intro W hb
  have c0 := (hz.on hb).cell 2
  simp at c0
  have hne : ∀ W : World, (binOp BinOp.neq 61 (Value.map none) (Value.map none)).run Try.prog W = .ok (.bool false) W := fun W => by rfl
  go_enter Try.func34, Try.ntmps34
  go_wp2_with fail
  go_ret
  exact ⟨rfl, rfl⟩

set_option maxRecDepth 100000 in
set_option maxHeartbeats 1000000 in
theorem no_do (w : World) (p : Value) (r : Rc) (h : NoSite w p) : Calls Try.prog 15 #[p, kv r] w fun e w' => e = .returned (.tuple #[.int .i64 0, .int .i64 1]) ∧ Below w.heap.size w w' := by
  obtain ⟨W, hW⟩ : ∃ W, w.alloc (.cells (kcs r) 35) = W := ⟨_, rfl⟩
  have bW : Below w.heap.size w W := by rw [← hW]; exact belA _ _
  have HW := Lib.hid hW
  have hc := h W bW
  clear hW
  go_enter Try.func15, Try.ntmps15
  go_upto_region 1 with fail
  rw [HW.out]
  go_wp2_with fail
  (with_reducible refine hc.mono ?_)
  rintro e w' ⟨rfl, rfl⟩
  go_wp2_with fail
  go_ret2
  exact ⟨rfl, bW⟩

set_option maxRecDepth 100000 in
set_option maxHeartbeats 1000000 in
theorem no_get (w : World) (p : Value) (k : Int) (h : NoSite w p) : Calls Try.prog 23 #[p, .int .u8 k] w fun e w' => e = .returned (.int .i64 0) ∧ Below w.heap.size w w' := by
  have hc := h w (Below.refl _ _)
  go_enter Try.func23, Try.ntmps23
  go_wp2_with fail
  (with_reducible refine hc.mono ?_)
  rintro e w' ⟨rfl, rfl⟩
  go_wp2_with fail
  go_ret
  exact ⟨rfl, Below.refl _ _⟩

set_option maxRecDepth 100000 in
set_option maxHeartbeats 1000000 in
theorem no_log (w : World) (p : Value) (h : NoSite w p) : Calls Try.prog 22 #[p] w fun e w' => e = .returned (.slice none 0 0) ∧ Below w.heap.size w w' := by
  have hc := h w (Below.refl _ _)
  go_enter Try.func22, Try.ntmps22
  go_wp2_with fail
  (with_reducible refine hc.mono ?_)
  rintro e w' ⟨rfl, rfl⟩
  go_wp2_with fail
  go_ret
  exact ⟨rfl, Below.refl _ _⟩

set_option maxRecDepth 100000 in
set_option maxHeartbeats 1000000 in
theorem no_part (w : World) (p : Value) (tx : Int) (h : NoSite w p) : Calls Try.prog 17 #[p, .int .i64 tx] w fun e w' => e = .returned (.tuple #[pz, .bool false]) ∧ Below w.heap.size w w' := by
  obtain ⟨W, hW⟩ : ∃ W, w.alloc (.cells #[.int .i64 0, .slice none 0 0, .bool false, .int .i64 0] 40) = W := ⟨_, rfl⟩
  have bW : Below w.heap.size w W := by rw [← hW]; exact belA _ _
  have zW : PB W w.heap.size 40 0 none 0 0 false 0 := by rw [← hW]; exact PB.new _ _ _ _ _ _ _ _
  have HW := Lib.hid hW
  have hc := h W bW
  obtain ⟨z0, z1, z2, z3⟩ := zW.cells
  obtain ⟨y0, y1, y2, y3⟩ := zW.froz
  obtain ⟨U, hU, hrU, hkU⟩ := store_end zW Try.neP 0 none 0 0 false 0
  obtain ⟨v0, v1, v2, v3⟩ := hrU.cells
  have HU := Lib.hid hU
  have Hl := Lib.hid (hkU.low _ _ bW (Nat.le_refl _))
  clear hW hU hrU hkU
  go_enter Try.func17, Try.ntmps17
  go_upto_region 1 with fail
  rw [HW.out]
  go_wp2_with fail
  (with_reducible refine hc.mono ?_)
  rintro e w' ⟨rfl, rfl⟩
  go_wp2_with fail
  rw [HU.out]
  exact bodyPost_ret (v := .tuple #[pz, .bool false]) (by simp [results, Try.results17, go_sem, v0, v1, v2, v3]) rfl ⟨rfl, Hl.out⟩

set_option maxRecDepth 100000 in
set_option maxHeartbeats 4000000 in
theorem nobody_walk (A : Option Addr) (n c : Nat) (L : List Rc) (r : Rc) (w : World) (h : KR w A n c L) (hr : ∀ r ∈ L, RcOk r) (hok : RcOk r) :
    Calls Try.prog 8 #[.slice A n c, kv r] w fun e w' => e = .returned (.bool true) ∧ Below w.heap.size w w' := by
  obtain ⟨W, hW⟩ : ∃ W, w.alloc (.cells (kcs r) 36) = W := ⟨_, rfl⟩
  have rW : CB W w.heap.size 36 (kcs r) := by rw [← hW]; exact CB.new _ _ _
  have bW : Below w.heap.size w W := by rw [← hW]; exact belA _ _
  have HW := Lib.hid hW
  clear hW
  go_enter Try.func8, Try.ntmps8
  go_upto_region 1 with fail
  rw [HW.out]
  go_wp2_with fail
  (with_reducible refine (alive_c W).mono ?_)
  rintro e w1 ⟨rfl, b1⟩
  obtain ⟨V, hV⟩ : ∃ V, (w1.alloc (.cells #[.slice none 0 0, .slice none 0 0, .map none, .slice none 0 0] 63)).alloc (.cells #[.pointer none, .pointer (some ⟨w1.heap.size, 0, none⟩)] 24) = V := ⟨_, rfl⟩
  have zV : CB V w1.heap.size 63 #[.slice none 0 0, .slice none 0 0, .map none, .slice none 0 0] := by rw [← hV]; exact (CB.new _ _ _).alloc _
  have pV : CB V (w1.heap.size + 1) 24 #[.pointer none, .pointer (some ⟨w1.heap.size, 0, none⟩)] := by
    rw [← hV]
    have := CB.new (w1.alloc (.cells #[.slice none 0 0, .slice none 0 0, .map none, .slice none 0 0] 63)) 24 #[.pointer none, .pointer (some ⟨w1.heap.size, 0, none⟩)]
    simpa using this
  have bV : Below w1.heap.size w1 V := by rw [← hV]; exact bel2 (belA _ _) (belA _ _)
  have rV := (rW.on b1).on bV
  have HV := Lib.hid hV
  have Hl := Lib.hid (bel2 (bel2 bW b1) bV)
  have hat := Lib.hid (fun (j : Nat) (hj : j < 2) => show ∃ p, (#[.pointer none, .pointer (some ⟨w1.heap.size, 0, none⟩)] : Array Value)[j]? = some p ∧ NoSite V p from by
    match j, hj with
    | 0, _ => exact ⟨_, rfl, nosite_nil V⟩
    | 1, _ => exact ⟨_, rfl, nosite_zero V _ _ _ _ zV⟩)
  have Hw := Lib.hid (h.on (bel2 (bel2 bW b1) bV))
  clear hV rW bW b1 bV zV h
  go_upto_region 4 with fail
  rw [HV.out]
  go_wp2_with fail
  go_loopw [27] (fun i wr => ∃ j : Nat, j ≤ 2 ∧ i = .int .i64 j ∧ Below V.heap.size V wr) (fun i _ => 2 - (intOf i).toNat)
  case atStart => exact ⟨0, by omega, rfl, Below.refl _ _⟩
  case round =>
    obtain ⟨j, hj, rfl, hbl⟩ := hrel
    by_cases hlt : j < 2
    · have hlt1 : (j : Int) < 2 := by omega
      obtain ⟨p, hp1, hp2⟩ := hat.out j hlt
      have d0 := (pV.on hbl).cell j
      rw [hp1] at d0
      obtain ⟨r0, r1, r2, r3⟩ : wr.cell? ⟨w.heap.size, 0, none⟩ = some (.int .i64 r.kd) ∧ wr.cell? ⟨w.heap.size, 1, none⟩ = some (.int .i64 r.tx) ∧ wr.cell? ⟨w.heap.size, 2, none⟩ = some (.int .u8 r.ky) ∧ wr.cell? ⟨w.heap.size, 3, none⟩ = some (.int .i64 r.nn) := ⟨(rV.on hbl).cell 0, (rV.on hbl).cell 1, (rV.on hbl).cell 2, (rV.on hbl).cell 3⟩
      have hc := no_do wr p r (hp2.on hbl)
      clear hp1
      go_wp2_with fail
      (with_reducible refine hc.mono ?_)
      rintro e w2 ⟨rfl, b2⟩
      have l2 := bel2 hbl b2
      clear d0 r0 r1 r2 r3 hc b2 hbl
      have r1 := (rV.on l2).cell 1
      simp only [List.getElem?_toArray, List.getElem?_cons_zero, List.getElem?_cons_succ] at r1
      have hc := no_part w2 p r.tx (hp2.on l2)
      go_wp2_with fail
      (with_reducible refine hc.mono ?_)
      rintro e w3 ⟨rfl, b3⟩
      have l3 := bel2 l2 b3
      obtain ⟨X, hX⟩ : ∃ X, w3.alloc (.cells #[.int .i64 0, .slice none 0 0, .bool false, .int .i64 0] 40) = X := ⟨_, rfl⟩
      have l4 := bel2 l3 (show Below w3.heap.size w3 X by rw [← hX]; exact belA _ _)
      have HX := Lib.hid hX
      clear r1 hc b3 l2 l3 hX
      have r2 := (rV.on l4).cell 2
      simp only [List.getElem?_toArray, List.getElem?_cons_zero, List.getElem?_cons_succ] at r2
      have hc := no_get X p r.ky (hp2.on l4)
      go_upto_region 8 with fail
      rw [HX.out]
      go_wp2_with fail
      (with_reducible refine hc.mono ?_)
      rintro e w5 ⟨rfl, b5⟩
      have l5 := bel2 l4 b5
      clear r2 hc b5 l4
      have hc := no_log w5 p (hp2.on l5)
      go_wp2_with fail
      (with_reducible refine hc.mono ?_)
      rintro e w6 ⟨rfl, b6⟩
      have l6 := bel2 l5 b6
      clear hc b6 l5 hp2
      go_wp2_with fail
      go_roundw
      case rel => exact ⟨j + 1, by omega, by go_num, l6⟩
      case measure => simp [intOf]; omega
    · obtain rfl : j = 2 := by omega
      have hlt1 : ¬ ((2 : Nat) : Int) < 2 := by omega
      have hw := Hw.out.on hbl
      have rz := rV.on hbl
      have Hlz := Lib.hid (bel2 Hl.out hbl)
      obtain ⟨wz, hwz⟩ : ∃ z, z = wr := ⟨_, rfl⟩
      subst hwz
      clear Hw Hl hat pV rV hbl
      have hp := played_c A n c L wz hw hr
      go_wp2_with fail
      (with_reducible refine hp.mono ?_)
      rintro e w2 ⟨b, m, G, rfl, hst⟩
      have hK : (logs si0 (L.take 120)).length ≤ 120 := by have := logs_len si0 (L.take 120); rw [List.length_take] at this; omega
      have hp := played_c A n c L w2 (hw.on hst.low) hr
      have r2 := rz.on hst.low
      clear hw rz
      go_wp2_with fail
      (with_reducible refine hp.mono ?_)
      rintro e w3 ⟨b', m', G', rfl, hs2⟩
      generalize plays si0 (L.take 120) = S at *
      generalize logs si0 (L.take 120) = K at *
      obtain ⟨l1, l2, l3⟩ := hst.sr.lt
      have hB : wz.heap.size ≤ w2.heap.size := hst.low.size
      have hst3 := hst.onw hs2.low
      have r3 := r2.on hs2.low
      have hT : TT wz.heap.size wz w3 (fun _ => False) b m G S K b' m' G' S K :=
        ⟨hst3, ⟨hs2.sr, ⟨Nat.le_trans hB hs2.hi.b, Nat.le_trans hB hs2.hi.m, fun g e => Nat.le_trans hB (hs2.hi.G g e)⟩, hst3.low, fun R hR => hR.elim⟩, by have := hs2.hi.b; omega, by have := hs2.hi.m; omega, fun g e e' => by have := l3 g e; have := hs2.hi.G g e'; omega⟩
      clear hp hst hst3 hs2 l1 l2 l3 hB r2
      have hdo := do_c b m G S K r w3 hT.one.sr hok (by omega)
      obtain ⟨r0, r1, r2, r3'⟩ : w3.cell? ⟨w.heap.size, 0, none⟩ = some (.int .i64 r.kd) ∧ w3.cell? ⟨w.heap.size, 1, none⟩ = some (.int .i64 r.tx) ∧ w3.cell? ⟨w.heap.size, 2, none⟩ = some (.int .u8 r.ky) ∧ w3.cell? ⟨w.heap.size, 3, none⟩ = some (.int .i64 r.nn) := ⟨r3.cell 0, r3.cell 1, r3.cell 2, r3.cell 3⟩
      go_wp2_with fail
      (with_reducible refine hdo.mono ?_)
      intro e w4 hp
      obtain ⟨rfl, G1, hT4, _⟩ := hT.done hp (Nat.le_refl _)
      clear hp hdo hT r0 r1 r2 r3 r3'
      by_cases he : eDo S r = 0
      · have he1 : (eDo S r == 0) = true := by simp [he]
        have Hz := Lib.hid (bel2 Hlz.out hT4.one.low)
        clear he hT4
        go_wp2_with fail
        go_ret
        exact ⟨rfl, Hz.out⟩
      · have he1 : (eDo S r == 0) = false := by simp [he]
        rw [if_neg he, sDo_err he] at hT4
        clear he
        generalize eDo S r = e9 at *
        generalize nDo S r = n9 at *
        go_wp2_with fail
        go_loopw [85] (fun i wr => ∃ (j : Nat) (Ga Gb : Option Nat) (S1 : Si) (K1 : List Rc), j ≤ 8 ∧ i = .int .u8 j ∧ K1.length ≤ 120 + 2 * j ∧ TT wz.heap.size wz wr (fun _ => False) b m Ga S1 K1 b' m' Gb S1 K1) (fun i _ => 8 - (intOf i).toNat)
        case atStart => exact ⟨0, G1, G', S, K, by omega, rfl, by omega, hT4⟩
        case round =>
          clear hT4
          obtain ⟨j, Ga, Gb, S1, K1, hj, rfl, hK1, hT⟩ := hrel
          by_cases hlt : j < 8
          · have hlt2 : (j : Int) < 8 := by omega
            have okB : RcOk ⟨1, 999, 0, 0⟩ := ⟨by decide, by decide, by decide, by decide⟩
            have okX : RcOk ⟨2, 999, (j : Int), 0⟩ := ⟨by show (-9223372036854775808 : Int) ≤ 2 ∧ (2 : Int) ≤ 9223372036854775807; omega, by show (-9223372036854775808 : Int) ≤ 999 ∧ (999 : Int) ≤ 9223372036854775807; omega, by show (0 : Int) ≤ j ∧ (j : Int) ≤ 255; omega, by show (-9223372036854775808 : Int) ≤ 0 ∧ (0 : Int) ≤ 9223372036854775807; omega⟩
            obtain ⟨V2, hV2⟩ : ∃ V, wr.alloc (.cells (kcs ⟨2, 999, (j : Int), 0⟩) 35) = V := ⟨_, rfl⟩
            have cV : CB V2 wr.heap.size 35 (kcs ⟨2, 999, (j : Int), 0⟩) := by rw [← hV2]; exact CB.new _ _ _
            have hTV := hT.add (R := wr.heap.size) (W' := V2) (by rw [← hV2]; exact belA _ _) (Nat.le_refl _) cV.lt
            have HV2 := Lib.hid hV2
            clear hV2 hT
            have hK2 := logIf_len (eDo S1 ⟨1, 999, 0, 0⟩ = 0) K1 ⟨1, 999, 0, 0⟩
            have hdo := do_c b m Ga S1 K1 ⟨1, 999, 0, 0⟩ V2 hTV.one.sr okB (by omega)
            go_upto_region 21 with fail
            rw [HV2.out]
            go_wp2_with fail
            (with_reducible refine hdo.mono ?_)
            intro e w5 hp
            obtain ⟨rfl, G5, hT5, hk, _⟩ := hTV.done hp (Nat.le_refl _)
            have c5 := cV.same (hk _ (.inr rfl))
            clear hp hdo hTV cV hk
            have hdo := do_c b' m' Gb S1 K1 ⟨1, 999, 0, 0⟩ w5 hT5.two.sr okB (by omega)
            go_wp2_with fail
            (with_reducible refine hdo.mono ?_)
            intro e w6 hp
            obtain ⟨rfl, G6, hT6, hk, _⟩ := hT5.swap.done hp (Nat.le_refl _)
            have c6 := c5.same (hk _ (.inr rfl))
            have hT6 := hT6.swap
            clear hp hdo hT5 c5 hk
            generalize sDo S1 ⟨1, 999, 0, 0⟩ = S2 at *
            generalize (if eDo S1 ⟨1, 999, 0, 0⟩ = 0 then K1 ++ [(⟨1, 999, 0, 0⟩ : Rc)] else K1) = K2 at *
            obtain ⟨r0, r1, r2, r3⟩ := rec_cells c6
            have hK3 := logIf_len (eDo S2 ⟨2, 999, (j : Int), 0⟩ = 0) K2 ⟨2, 999, (j : Int), 0⟩
            have hdo := do_c b m G5 S2 K2 ⟨2, 999, (j : Int), 0⟩ w6 hT6.one.sr okX (by omega)
            go_wp2_with fail
            (with_reducible refine hdo.mono ?_)
            intro e w7 hp
            obtain ⟨rfl, G7, hT7, hk, _⟩ := hT6.done hp (Nat.le_refl _)
            have c7 := c6.same (hk _ (.inr rfl))
            clear hp hdo hT6 c6 hk r0 r1 r2 r3
            obtain ⟨r0, r1, r2, r3⟩ := rec_cells c7
            have hdo := do_c b' m' G6 S2 K2 ⟨2, 999, (j : Int), 0⟩ w7 hT7.two.sr okX (by omega)
            go_wp2_with fail
            (with_reducible refine hdo.mono ?_)
            intro e w8 hp
            obtain ⟨rfl, G8, hT8, _⟩ := hT7.swap.done hp (Nat.le_refl _)
            have hT8 := (hT8.swap).less (Rs' := fun _ => False) (fun x hx => hx.elim)
            clear hp hdo hT7 c7 r0 r1 r2 r3
            generalize sDo S2 ⟨2, 999, (j : Int), 0⟩ = S3 at *
            generalize nDo S2 ⟨2, 999, (j : Int), 0⟩ = n3 at *
            generalize hK3' : (if eDo S2 ⟨2, 999, (j : Int), 0⟩ = 0 then K2 ++ [(⟨2, 999, (j : Int), 0⟩ : Rc)] else K2) = K3 at *
            clear hK3'
            generalize eDo S2 ⟨2, 999, (j : Int), 0⟩ = e3 at *
            have hg1 := sget_c b m G7 S3 K3 (j : Int) w8 hT8.one.sr
            go_wp2_with fail
            (with_reducible refine hg1.mono ?_)
            rintro e w9 ⟨rfl, b9⟩
            have hT9 := hT8.onw b9
            have hg2 := sget_c b' m' G8 S3 K3 (j : Int) w9 hT9.two.sr
            clear hg1 b9 hT8
            go_wp2_with fail
            (with_reducible refine hg2.mono ?_)
            rintro e w10 ⟨rfl, b10⟩
            have HT := Lib.hid (hT9.onw b10)
            clear hg2 b10 hT9
            go_wp2_with fail
            go_roundw
            case rel => exact ⟨j + 1, G7, G8, S3, K3, by omega, by go_num, by omega, HT.out⟩
            case measure => simp [intOf]; omega
          · obtain rfl : j = 8 := by omega
            have hlt2 : ¬ ((8 : Nat) : Int) < 8 := by omega
            have hl1 := slog_c b m Ga S1 K1 wr hT.one.sr (by omega)
            go_wp2_with fail
            (with_reducible refine hl1.mono ?_)
            rintro e w5 ⟨A5, n5, c5, rfl, k5, b5⟩
            have hT3 := hT.onw b5
            have hl2 := slog_c b' m' Gb S1 K1 w5 hT3.two.sr (by omega)
            have e5 := k5.len
            clear hl1 b5 hT k5
            go_wp2_with fail
            (with_reducible refine hl2.mono ?_)
            rintro e w6 ⟨A6, n6, c6, rfl, k6, b6⟩
            have e6 : n6 = n5 := k6.len.symm.trans e5
            subst e6
            have Hz := Lib.hid (bel2 Hlz.out (hT3.onw b6).one.low)
            clear hl2 b6 hT3 k6
            go_wp2_with fail
            go_ret
            exact ⟨rfl, Hz.out⟩
end Go.Proofs.Ytealcccjnmfkcaa
