/-
  The walk of LedgerAny: it returns true. Condition: the deltas can be read and are such as a program can have, the number is a byte.
-/
import Derived.Test.YtdekijaognfjcaaLgH
set_option linter.unusedVariables false
set_option linter.unusedSimpArgs false
namespace Go.Proofs.Ytdekijaognfjcaa
open Go.RowKit

/-- Two slices that a loop makes, each in a block of its own that is new since w. -/
structure Two (w : World) (T : TypeId) (s : Nat) (X Y : List Value) (v u : Value) (W : World) : Prop where
  out : ∃ A m c G A' m' c' G', v = .slice A m c ∧ u = .slice A' m' c' ∧ Seg W T s A m c X G ∧ Seg W T s A' m' c' Y G' ∧ (∀ g, G = some g → w.heap.size ≤ g) ∧ (∀ g, G' = some g → w.heap.size ≤ g) ∧ ∀ g, G = some g → G' ≠ some g
  low : Below w.heap.size w W
theorem Two.start (w : World) (T : TypeId) (s : Nat) {W : World} (h : Below w.heap.size w W) : Two w T s [] [] (.slice none 0 0) (.slice none 0 0) W :=
  ⟨⟨none, 0, 0, none, none, 0, 0, none, rfl, rfl, Seg.nil _ _ _, Seg.nil _ _ _, fun _ e => (by cases e), fun _ e => (by cases e), fun _ e => (by cases e)⟩, h⟩
theorem Two.swap {w : World} {T : TypeId} {s : Nat} {X Y : List Value} {v u : Value} {W : World} (h : Two w T s X Y v u W) : Two w T s Y X u v W := by
  obtain ⟨⟨A, m, c, G, A', m', c', G', h1, h2, h3, h4, h5, h6, h7⟩, h8⟩ := h
  exact ⟨⟨A', m', c', G', A, m, c, G, h2, h1, h4, h3, h6, h5, fun g e e' => h7 g e' e⟩, h8⟩
theorem Two.left {w : World} {T : TypeId} {s : Nat} {W w1 : World} (hl : Below w.heap.size w W) {A' : Option Addr} {m' c' : Nat} {Y : List Value} {G G' : Option Nat} (hs : Seg W T s A' m' c' Y G') (hG : ∀ g, G = some g → w.heap.size ≤ g) (hG' : ∀ g, G' = some g → w.heap.size ≤ g)
    (hne : ∀ g, G = some g → G' ≠ some g) {A1 : Option Addr} {N c1 : Nat} {X1 : List Value} {G1 : Option Nat} (n1 : Seg w1 T s A1 N c1 X1 G1) (n2 : W.grownBy w1 G) (n3 : Moved W G G1) : Two w T s X1 Y (.slice A1 N c1) (.slice A' m' c') w1 := by
  refine ⟨⟨A1, N, c1, G1, A', m', c', G', rfl, rfl, n1, hs.keep fun g hg => n2.block g (hs.lt g hg) (fun e => hne g e.symm hg), n3.ge hl.size hG, hG', fun g e e' => ?_⟩, hl.grown n2 hl.size hG⟩
  rcases n3 with h | ⟨g1, h, hg1⟩
  · exact hne g (h.symm.trans e) e'
  · rw [h] at e
    cases e
    have := hs.lt _ e'
    omega
/-- The deltas in another order. -/
structure Turn (M R : List Dl) (n kn : Nat) : Prop where
  len : R.length = n
  at_ : ∀ j, j < n → tk M ((j + kn) % n) = tk R j
  num_ : ∀ k, num R k = num M k
  mem : ∀ x, x ∈ R → x ∈ M
theorem turn_of {M : List Dl} {n : Nat} (hn : M.length = n) (kn : Nat) : ∃ R, Turn M R n kn := by
  subst hn
  refine ⟨M.drop (kn % M.length) ++ M.take (kn % M.length), ?_, fun j hj => ?_, fun k => ?_, fun x hx => ?_⟩
  · rw [List.length_append, List.length_drop, List.length_take]
    rcases Nat.eq_zero_or_pos M.length with h | h
    · omega
    · have := Nat.mod_lt kn h; omega
  · have := Nat.mod_lt kn (show 0 < M.length by omega)
    rw [← tk_turn (by omega) hj, Nat.add_mod_mod]
  · rw [num_comm, List.take_append_drop]
  · rcases List.mem_append.1 hx with hx | hx
    · exact List.mem_of_mem_drop hx
    · exact List.mem_of_mem_take hx

set_option maxRecDepth 100000 in
set_option maxHeartbeats 4000000 in
theorem any_walk (A : Option Addr) (n c : Nat) (A' : Option Addr) (n' c' : Nat) (kn : Nat) (L M : List Dl) (w : World) (h : DR w A n c L) (h' : DR w A' n' c' M) (wL : WfL L) (wM : WfL M) (hkn : kn < 256) :
    Calls Try.prog 4 #[.slice A n c, .slice A' n' c', .int .u8 kn] w fun e w' => e = .returned (.bool true) ∧ Below w.heap.size w w' := by
  have WL := Lib.hid wL
  have WM := Lib.hid wM
  have hlen' := Lib.hid h'.len
  have hmx : n ≤ maxLen := Nat.le_trans h.cap h.max
  have hmx' : n' ≤ maxLen := Nat.le_trans h'.cap h'.max
  simp only [maxLen] at hmx hmx'
  clear wL wM
  obtain ⟨i0, hi0, hz0, hz1, hz2⟩ := info_parts Try.infoD
  have Hi := Lib.hid hi0
  have Hz := Lib.hid hz0
  have Hz1 := Lib.hid hz1
  have Hz2 := Lib.hid hz2
  clear hi0 hz0 hz1 hz2
  obtain ⟨R, hT⟩ := turn_of h'.len kn
  go_enter Try.func4, Try.ntmps4
  have hc := alive_c w
  go_wp2_with fail
  refine hc.mono ?_
  rintro e w1 ⟨rfl, b1⟩
  have r1_a := h.on b1
  have r1_b := h'.on b1
  have l1 := b1
  clear hc b1 
  by_cases hbign : 100 < n
  · have hbi : (100 : Int) < (n : Int) := by omega
    go_wp2_with fail
    go_ret
    exact ⟨rfl, l1⟩
  have hbin : ¬ (100 : Int) < (n : Int) := by omega
  have hnn : n ≤ 100000 := by omega
  by_cases hbign_ : 100 < n'
  · have hbi : (100 : Int) < (n' : Int) := by omega
    go_wp2_with fail
    go_ret
    exact ⟨rfl, l1⟩
  have hbin_ : ¬ (100 : Int) < (n' : Int) := by omega
  have hnn_ : n' ≤ 100000 := by omega
  have hc := rightR_c A n c L w1 r1_a hnn
  go_wp2_with fail
  refine hc.mono ?_
  rintro e w2 ⟨rfl, b2⟩
  have r2_a := r1_a.on b2
  have r2_b := r1_b.on b2
  have l2 := bel2 l1 b2
  clear hc b2 r1_a r1_b l1
  rcases (show rightB L = false ∨ rightB L = true by cases rightB L <;> simp) with hg | hg
  · rw [hg]
    go_wp2_with fail
    go_ret
    exact ⟨rfl, l2⟩
  rw [hg]
  have RL := Lib.hid (rightB_iff.1 hg)
  clear hg
  have hc := keys_c A' n' c' M w2 r2_b hnn_
  go_wp2_with fail
  refine hc.mono ?_
  rintro e w3 ⟨rfl, b3⟩
  have r3_a := r2_a.on b3
  have r3_b := r2_b.on b3
  have l3 := bel2 l2 b3
  clear hc b3 r2_a r2_b l2
  rcases (show keysB M = false ∨ keysB M = true by cases keysB M <;> simp) with hg | hg
  · rw [hg]
    go_wp2_with fail
    go_ret
    exact ⟨rfl, l3⟩
  rw [hg]
  have KM := Lib.hid (keysB_iff.1 hg)
  clear hg
  clear r3_a r3_b
  go_wp2_with fail
  go_loopw [7, 8, 38] (fun v u i wr => ∃ j : Nat, j ≤ n' ∧ i = .int .i64 j ∧ Two w 24 2 (rc dc (R.take j)) (rc dc ((M.take j).map negD)) v u wr) (fun _ _ i _ => n' - (intOf i).toNat)
  case atStart => exact ⟨0, by omega, rfl, Two.start w _ _ l3⟩
  case round =>
    clear l3
    obtain ⟨j, hj, rfl, htw⟩ := hrel
    obtain ⟨⟨A1, m1, c1, G1, A2, m2, c2, G2, rfl, rfl, s1, s2, g1, g2, hne⟩, hlow⟩ := htw
    by_cases hlt : j < n'
    · have hm1 : m1 ≤ j := by have := rc_len s1; rw [List.length_take] at this; omega
      have hm2 : m2 ≤ j := by have := rc_len s2; rw [List.length_map, List.length_take] at this; omega
      obtain ⟨q, hq⟩ : ∃ q, q = (j + kn) % n' := ⟨_, rfl⟩
      have hqn : q < n' := by rw [hq]; exact Nat.mod_lt _ (by omega)
      have hqi : ((j : Int) + (kn : Int)) % (n' : Int) = (q : Int) := by rw [hq]; simp
      have hn0 : ¬ (n' : Int) = 0 := by omega
      obtain ⟨g, off, rfl, d1, d2⟩ := (h'.on hlow).at2 hqn
      have hty := hT.at_ j hlt
      rw [← hq] at hty
      rw [hty] at d1 d2
      have htk := Lib.hid (tk_take (L := M) (j := j) (by rw [hlen'.out]; exact hlt))
      have htkR := Lib.hid (tk_take (L := R) (j := j) (by rw [hT.len]; exact hlt))
      have Hd := Lib.hid (fun W (hb : Below w.heap.size w W) => (show W.cell? ⟨g, off + j * 2, none⟩ = some (.int .u8 (tk M j).k) ∧ W.cell? ⟨g, off + j * 2 + 1, none⟩ = some (.int .i64 (tk M j).b) by
        obtain ⟨g', off', e, f1, f2⟩ := (h'.on hb).at2 hlt
        cases e
        exact ⟨f1, f2⟩))
      clear hty hq
      generalize tk R j = y at *
      generalize tk M j = x at *
      have p0 : 0 < 1 := by omega
      have p03 : 0 < 2 := by omega
      obtain ⟨p3, p4⟩ := app2 (n := m1) (by omega)
      obtain ⟨p5, p6⟩ := app2 (n := m2) (by omega)
      have hlowA := hlow.alloc hlow.size (.cells #[.int .u8 y.k, .int .i64 y.b] 24)
      go_wp2_with (at_builtin; refine wpList_append_seg _ rfl (.tmp 41) (.tmp 52) _ rfl 24 i0 _ 2 16 Try.underlying22 Hi.out Hz.out Hz1.out Hz2.out rfl p03 rfl (s1.alloc _) ⟨wr.heap.size, 0, none⟩ 1 1 (dc y) rfl rfl (cells_at _ _ (dc y) _ rfl) (dc_one y) p0 p3 p4 ?_; intro A5 c5 G5 w5 n5 m5 r5; refine Stay.mk ?_)
      refine Stay.open_ ?_
      rw [rc_snoc, ← htkR.out] at n5
      have htw := Two.left hlowA (s2.alloc _) g1 g2 hne n5 m5 r5
      clear s1 s2 g1 g2 hne n5 m5 r5 d1 d2 hlow hlowA hqi hqn hn0
      obtain ⟨⟨A6, m6, c6, G6, A7, m7, c7, G7, e6, e7, s1, s2, g1, g2, hne⟩, hlow⟩ := htw
      cases e6
      cases e7
      obtain ⟨d1, d2⟩ := Hd.out _ hlow
      obtain ⟨N, hN⟩ : ∃ N, m2 + 1 = N := ⟨_, rfl⟩
      have HN := Lib.hid hN
      have hlow2 := Lib.hid (belowD (hlow.alloc hlow.size (.cells #[.int .u8 x.k, .int .i64 (IntKind.i64.wrap (-x.b))] 24)))
      have hsr := Src.lit w5 24 [.int .u8 x.k, .int .i64 (IntKind.i64.wrap (-x.b))] 2 1 w5.heap.size rfl rfl
      have s1a := s1.alloc (.cells #[.int .u8 x.k, .int .i64 (IntKind.i64.wrap (-x.b))] 24)
      have s2a := s2.alloc (.cells #[.int .u8 x.k, .int .i64 (IntKind.i64.wrap (-x.b))] 24)
      have ho : ∀ u ∈ [Value.int .u8 x.k, .int .i64 (IntKind.i64.wrap (-x.b))], u.oneCell' = true := by intro u hu; simp at hu; rcases hu with rfl | rfl <;> rfl
      clear hN hlow s1 s2
      go_wp2_with fail
      go_region_held3 (fun W' => W'.cell? ⟨g, off + j * 2, none⟩ = some (.int .u8 x.k) ∧ W'.cell? ⟨g, off + j * 2 + 1, none⟩ = some (.int .i64 x.b)) (first | exact ⟨d1, d2⟩ | exact Hd.out _ hlow2.out | exact Hd.out _ Hnx.out.low) (first
        | (refine step_append_src _ (.tmp 54) (.tmp 67) _ (by rfl) 24 i0 _ 2 16 Try.underlying22 Hi.out Hz.out Hz1.out Hz2.out rfl p03 (by rfl) s2a (by rfl) hsr ho p5 p6 (by rfl) N HN.out ?_; intro A8 c8 G8 w8 hs8 hg8 hm8; have Hnx := Lib.hid (Two.swap (Two.left hlow2.out s1a.drew g2 g1 (fun g e e' => hne g e' e) hs8 hg8 hm8))))
      have Hn := Lib.hid (show Two w 24 2 (rc dc (R.take (j + 1))) (rc dc ((M.take (j + 1)).map negD)) _ (.slice A8 N c8) w8 by
        have := Hnx.out
        rw [Go.IntWalk.i64_left, show [Value.int .u8 x.k, .int .i64 (wrap64 (-x.b))] = dc (negD x) from rfl, rc_snoc] at this
        rw [htk.out, List.map_append]
        exact this)
      clear hs8 hg8 hm8 Hnx s1a s2a hsr d1 d2 ho Hd hlow2 g1 g2 hne
      go_wp2_with fail
      go_roundw
      case rel => exact ⟨j + 1, by omega, by go_num, Hn.out⟩
      case measure => simp [intOf]; omega
    · obtain rfl : j = n' := by omega
      rw [take_all hT.len] at s1
      rw [take_all hlen'.out] at s2
      have ra := h.on hlow
      have rb := h'.on hlow
      have ro := RR.of_seg s1
      have rk := RR.of_seg s2
      have hm1 : m1 ≤ 100000 := by rw [← ro.len, hT.len]; exact hnn_
      have hm2 : m2 ≤ 100000 := by rw [← rk.len, List.length_map, hlen'.out]; exact hnn_
      have WR := Lib.hid (show WfL R from fun x hx => WM.out x (hT.mem x hx))
      have KR := Lib.hid (show KeysP R from fun x hx => KM.out x (hT.mem x hx))
      have HR := Lib.hid (show ofD (L ++ R) = ofD (L ++ M) from of_congr fun i _ => by rw [num_append, num_append, hT.num_])
      have HB := Lib.hid (of_back (D := M) RL.out WL.out)
      have RX := Lib.hid (right_of (L ++ M))
      have WX := Lib.hid (wf_of (L ++ M))
      have LX := Lib.hid (len_of (L ++ M))
      have WK := Lib.hid (wf_neg WM.out)
      have KK := Lib.hid (keys_neg KM.out)
      have QX := Lib.hid (rightB_iff.2 (right_of (L ++ M)))
      clear s1 s2 g1 g2 hne hT
      have hc := put_c A n c L A' j c' M wr ra rb hnn hnn_ WL.out WM.out
      rw [(put_ok RL.out KM.out).1] at hc
      rw [(put_ok RL.out KM.out).2] at hc
      go_wp2_with fail
      refine hc.mono ?_
      rintro e w11 ⟨A11, n11, c11, rfl, x11, b11⟩
      have r11_a := ra.on b11
      have r11_o := ro.on b11
      have r11_k := rk.on b11
      have l11 := bel2 hlow b11
      have m11 : n11 ≤ 100000 := by rw [← x11.len]; exact Nat.le_trans LX.out (by omega)
      clear hc b11 ra rb ro rk hlow
      have hc := put_c A n c L A1 m1 c1 R w11 r11_a r11_o hnn hm1 WL.out WR.out
      rw [(put_ok RL.out KR.out).1] at hc
      rw [(put_ok RL.out KR.out).2] at hc
      rw [HR.out] at hc
      go_wp2_with fail
      refine hc.mono ?_
      rintro e w12 ⟨A12, n12, c12, rfl, x12, b12⟩
      have r12_a := r11_a.on b12
      have r12_k := r11_k.on b12
      have r12_x := x11.on b12
      have l12 := bel2 l11 b12
      clear hc b12 r11_a r11_o r11_k x11 l11
      obtain ⟨X, hX⟩ : ∃ X, X = ofD (L ++ M) := ⟨_, rfl⟩
      rw [← hX] at r12_x x12 HB RX WX QX
      clear hX HR LX
      have hc := put_c A11 n11 c11 X A2 m2 c2 _ w12 r12_x r12_k m11 hm2 WX.out WK.out
      rw [(put_ok RX.out KK.out).1] at hc
      rw [(put_ok RX.out KK.out).2] at hc
      rw [HB.out] at hc
      go_wp2_with fail
      refine hc.mono ?_
      rintro e w13 ⟨A13, n13, c13, rfl, x13, b13⟩
      have r13_a := r12_a.on b13
      have r13_x := r12_x.on b13
      have r13_y := x12.on b13
      have l13 := bel2 l12 b13
      clear hc b13 r12_a r12_k r12_x x12 l12
      have hc := same_c A11 A12 n11 c11 n12 c12 X w13 r13_x r13_y
      go_wp2_with fail
      refine hc.mono ?_
      rintro e w14 ⟨rfl, b14⟩
      have r14_a := r13_a.on b14
      have r14_x := r13_x.on b14
      have r14_y := r13_y.on b14
      have r14_z := x13.on b14
      have l14 := bel2 l13 b14
      clear hc b14 r13_a r13_x r13_y x13 l13
      have hc := same_c A13 A n13 c13 n c L w14 r14_z r14_a
      go_wp2_with fail
      refine hc.mono ?_
      rintro e w15 ⟨rfl, b15⟩
      have r15_a := r14_a.on b15
      have r15_x := r14_x.on b15
      have r15_y := r14_y.on b15
      have r15_z := r14_z.on b15
      have l15 := bel2 l14 b15
      clear hc b15 r14_a r14_x r14_y r14_z l14
      have hc := right_c A11 n11 c11 X w15 r15_x m11
      rw [QX.out] at hc
      go_wp2_with fail
      refine hc.mono ?_
      rintro e w16 ⟨rfl, b16⟩
      have r16_a := r15_a.on b16
      have r16_x := r15_x.on b16
      have r16_y := r15_y.on b16
      have r16_z := r15_z.on b16
      have l16 := bel2 l15 b16
      clear hc b16 r15_a r15_x r15_y r15_z l15
      go_wp2_with fail
      go_ret
      exact ⟨rfl, l16⟩
end Go.Proofs.Ytdekijaognfjcaa
