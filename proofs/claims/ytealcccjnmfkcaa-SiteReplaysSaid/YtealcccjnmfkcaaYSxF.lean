/-
  same of stage 10: a site is the document's. Conditions: both are such as the same lists say, the log not long.
-/
import Derived.Test.YtealcccjnmfkcaaYSiI
import Derived.Test.YtealcccjnmfkcaaYSxA
import Derived.Deep.RegionHeld3
import Derived.BigQuiet
set_option linter.unusedVariables false
set_option linter.unusedSimpArgs false
namespace Go.Proofs.Ytealcccjnmfkcaa
open Go.RowKit

set_option maxRecDepth 100000 in
set_option maxHeartbeats 4000000 in
theorem samesite_c (b m : Nat) (G : Option Nat) (S : Si) (K : List Rc) (A1 : Option Addr) (n1 c1 : Nat) (A2 : Option Addr) (n2 c2 : Nat) (A3 : Option Addr) (n3 c3 : Nat) (A4 : Option Addr) (n4 c4 : Nat) (w : World) (h : SR w b m G S K) (hm : DM w A1 n1 c1 A2 n2 c2 A3 n3 c3 A4 n4 c4 S K) (hl : K.length ≤ 4000) :
    Calls Try.prog 19 #[.pointer (some ⟨b, 0, none⟩), dsv A1 n1 c1 A2 n2 c2 A3 n3 c3 A4 n4 c4] w fun e w' => e = .returned (.bool true) ∧ Below w.heap.size w w' := by
  obtain ⟨W, hW⟩ : ∃ W, w.alloc (.cells (dcs A1 n1 c1 A2 n2 c2 A3 n3 c3 A4 n4 c4) 30) = W := ⟨_, rfl⟩
  have cW : CB W w.heap.size 30 (dcs A1 n1 c1 A2 n2 c2 A3 n3 c3 A4 n4 c4) := by rw [← hW]; exact CB.new _ _ _
  have bW : Below w.heap.size w W := by rw [← hW]; exact belA _ _
  have HW := Lib.hid hW
  have sW := h.on bW
  have mW := hm.on bW
  have hinv := Lib.hid h.good.inv
  have hlo := slog_c b m G S K W sW (by omega)
  obtain ⟨⟨q0, q1, q2, q3⟩, _⟩ := d_cells cW
  clear hW h hm
  go_enter Try.func19, Try.ntmps19
  go_upto_region 1 with fail
  rw [HW.out]
  go_wp2_with fail
  (with_reducible refine hlo.mono ?_)
  rintro e w1 ⟨A5, n5, c5, rfl, k5, b1⟩
  have s1 := sW.on b1
  have m1 := mW.on b1
  have c1' := cW.on b1
  have l1 := bel2 bW b1
  have e5 : n5 = n4 := k5.len.symm.trans m1.log.len
  subst e5
  have r5 := k5.rr0
  have hmx : n5 ≤ maxLen := Nat.le_trans r5.cap r5.max
  simp only [maxLen] at hmx
  clear hlo q0 q1 q2 q3 b1 sW mW cW bW k5
  obtain ⟨⟨q0, q1, q2, q3⟩, _⟩ := d_cells c1'
  go_wp2_with fail
  go_loopw [22] (fun i wr => ∃ t : Nat, t ≤ n5 ∧ i = .int .i64 t ∧ Below w1.heap.size w1 wr) (fun i _ => n5 - (intOf i).toNat)
  case atStart => exact ⟨0, by omega, rfl, Below.refl _ _⟩
  case round =>
    obtain ⟨t, ht, rfl, hbl⟩ := hrel
    by_cases hlt : t < n5
    · have hlt1 : (t : Int) < (n5 : Int) := by omega
      obtain ⟨g, off, rfl, d0, d1, d2, d3⟩ := (r5.on hbl).at4 hlt
      obtain ⟨g', off', rfl, d4, d5, d6, d7⟩ := (m1.log.on hbl).at4 hlt
      clear q0 q1 q2 q3
      obtain ⟨⟨q0, q1, q2, q3⟩, _⟩ := d_cells (c1'.on hbl)
      generalize tkR K t = x at *
      go_wp2_with fail
      go_quiet (fail)
      go_wp2_with fail
      go_roundw
      case rel => exact ⟨t + 1, by omega, by go_num, belowN hbl _⟩
      case measure => simp [intOf]; omega
    · obtain rfl : t = n5 := by omega
      have hlt1 : ¬ (t : Int) < (t : Int) := by omega
      have s2 := s1.on hbl
      have m2 := m1.on hbl
      have c2' := c1'.on hbl
      have l2 := bel2 l1 hbl
      obtain ⟨wz, hwz⟩ : ∃ z, z = wr := ⟨_, rfl⟩
      subst hwz
      have k1 : n1 ≤ 100000 := by have := m2.led.len; have := right_len hinv.out.right hinv.out.wf; omega
      clear q0 q1 q2 q3 s1 m1 c1' l1 hbl r5
      go_wp2_with fail
      go_loopw [36] (fun i wr => ∃ j : Nat, j ≤ 66 ∧ i = .int .u8 j ∧ Below wz.heap.size wz wr) (fun i _ => 66 - (intOf i).toNat)
      case atStart => exact ⟨0, by omega, rfl, Below.refl _ _⟩
      case round =>
        obtain ⟨j, hj, rfl, hbl⟩ := hrel
        by_cases hlt2 : j < 66
        · have hlt3 : (j : Int) < 66 := by omega
          have hg1 := sget_c b m G S K (j : Int) wr.drew (s2.on (belowD hbl))
          have Hev := Lib.hid (fun (U : World) (hb : Below wz.heap.size wz U) => show U.cell? ⟨w.heap.size, 0, none⟩ = some (.slice A1 n1 c1) from (d_cells (c2'.on hb)).1.1)
          have Hc := Lib.hid (Hev.out wr hbl)
          go_wp2_with fail
          go_region_held3 (fun W' => W'.cell? ⟨w.heap.size, 0, none⟩ = some (.slice A1 n1 c1)) (first | exact Hc.out | exact x1.out | exact x2.out) (first
            | (go_at_call 23; (with_reducible refine hg1.mono ?_); rintro e u1 ⟨rfl, d1⟩; have b1 : Below wr.heap.size wr u1 := below_drew (W := wr) d1; have v1 := bel2 hbl b1; have x1 := Lib.hid (Hev.out u1 v1); have hg2 := getR_c A1 n1 c1 (j : Int) S.led u1 (m2.led.on v1) k1)
            | (go_at_call 26; (with_reducible refine hg2.mono ?_); rintro e u2 ⟨rfl, d2⟩; have v2 := bel2 v1 d2; have x2 := Lib.hid (Hev.out u2 v2)))
          have V2 := Lib.hid v2
          clear x1 x2 hg1 hg2 d1 d2 b1 v1 v2 Hev Hc
          go_wp2_with fail
          go_roundw
          case rel => exact ⟨j + 1, by omega, by go_num, V2.out⟩
          case measure => simp [intOf]; omega
        · obtain rfl : j = 66 := by omega
          have hlt3 : ¬ ((66 : Nat) : Int) < 66 := by omega
          have s3 := s2.on hbl
          have m3 := m2.on hbl
          have c3' := c2'.on hbl
          have l3 := bel2 l2 hbl
          obtain ⟨wy, hwy⟩ : ∃ z, z = wr := ⟨_, rfl⟩
          subst hwy
          obtain ⟨⟨q0, q1, q2, q3⟩, _⟩ := d_cells c3'
          have hmx3 : n3 ≤ 9223372036854775807 := by obtain ⟨S3, h1, _⟩ := m3.pts; have := Nat.le_trans h1.cap h1.max; simp only [maxLen] at this; omega
          have hlen3 := Lib.hid m3.pts.len
          clear s2 m2 c2' l2 hbl
          go_wp2_with fail
          go_loopw [51] (fun i wr => ∃ j : Nat, j ≤ n3 ∧ i = .int .i64 j ∧ Below wy.heap.size wy wr) (fun i _ => n3 - (intOf i).toNat)
          case atStart => exact ⟨0, by omega, rfl, Below.refl _ _⟩
          case round =>
            obtain ⟨j, hj, rfl, hbl⟩ := hrel
            by_cases hlt4 : j < n3
            · have hlt5 : (j : Int) < (n3 : Int) := by omega
              obtain ⟨g, off, B, mm, dd, o, rfl, ho, dp, t0, t1, t2, t3, t4⟩ := OX.at5 (RX.on od_firm m3.pts hbl) hlt4
              have hmem := List.mem_of_getElem? ho
              have hf := fnd_of hinv.out.tx hmem
              have hrg := (hinv.out.ok _ hmem).2
              obtain ⟨V, hV⟩ : ∃ V, wr.alloc (.cells #[.int .i64 o.1, .int .i64 o.2.st, .slice B mm dd, .bool o.2.lo, .int .i64 o.2.ou] 97) = V := ⟨_, rfl⟩
              have oV : CB V wr.heap.size 97 #[.int .i64 o.1, .int .i64 o.2.st, .slice B mm dd, .bool o.2.lo, .int .i64 o.2.ou] := by rw [← hV]; exact CB.new _ _ _
              have bV : Below wr.heap.size wr V := by rw [← hV]; exact belA _ _
              have lV := bel2 hbl bV
              have dV := dp.on bV
              have hpt := spart_c b m G S K o.1 V (s3.on lV) (by omega)
              rw [hf] at hpt
              simp only [Option.getD_some, Option.isSome_some] at hpt
              have HV := Lib.hid hV
              have v0 := oV.cell 0
              simp only [List.getElem?_toArray, List.getElem?_cons_zero] at v0
              clear hV bV hf hmem hrg ho dp
              go_upto_region 19 with fail
              rw [HV.out]
              go_wp2_with fail
              (with_reducible refine hpt.mono ?_)
              rintro e u1 ⟨E1, x1, y1, rfl, de, b4, _⟩
              obtain ⟨X, hX⟩ : ∃ V, u1.alloc (.cells #[.int .i64 o.2.st, .slice E1 x1 y1, .bool o.2.lo, .int .i64 o.2.ou] 40) = V := ⟨_, rfl⟩
              have pX : PB X u1.heap.size 40 o.2.st E1 x1 y1 o.2.lo o.2.ou := by rw [← hX]; exact PB.new _ _ _ _ _ _ _ _
              have bX : Below u1.heap.size u1 X := by rw [← hX]; exact belA _ _
              have oX := (oV.on b4).on bX
              have lX := bel2 (bel2 lV b4) bX
              have dX := (dV.on b4).on bX
              have eX := de.rr.on bX
              have HX := Lib.hid hX
              obtain ⟨z0, z1, z2, z3⟩ := pX.cells
              have w1' := oX.cell 1
              have w2' := oX.cell 2
              have w3' := oX.cell 3
              have w4' := oX.cell 4
              simp only [List.getElem?_toArray, List.getElem?_cons_zero, List.getElem?_cons_succ] at w1' w2' w3' w4'
              have hs := same_c o.2.st E1 x1 y1 B mm dd o.2.lo o.2.ou o.2.ad X eX dX
              clear hX bX b4 hpt v0 oV lV dV de t0 t1 t2 t3 t4
              go_upto_region 20 with fail
              rw [HX.out]
              go_wp2_with fail
              (with_reducible refine hs.mono ?_)
              rintro e u2 ⟨rfl, b5⟩
              have l5 := Lib.hid (bel2 lX b5)
              clear hs b5 lX dX eX oX pX z0 z1 z2 z3 w1' w2' w3' w4'
              go_wp2_with fail
              go_roundw
              case rel => exact ⟨j + 1, by omega, by go_num, l5.out⟩
              case measure => simp [intOf]; omega
            · obtain rfl : j = n3 := by omega
              have hlt5 : ¬ (j : Int) < (j : Int) := by omega
              go_wp2_with fail
              go_ret
              exact ⟨rfl, bel2 l3 hbl⟩
end Go.Proofs.Ytealcccjnmfkcaa
