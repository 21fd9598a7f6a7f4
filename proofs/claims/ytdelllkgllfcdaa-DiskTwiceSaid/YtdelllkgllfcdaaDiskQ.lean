/-
  The walk of the law DiskTwice: it returns true and leaves all memory that was there. Conditions: the bytes can be read, the numbers are of 16 bits.
-/
import Derived.Test.YtdelllkgllfcdaaDiskP
namespace Go.Proofs.Ytdelllkgllfcdaa
open Go.RowKit

theorem kC_same (K k : Nat) : kC K K k = K := by unfold kC; simp [Nat.mod_one]
theorem kx_on {W W' : World} {b : Nat} {T : TypeId} {cs : Array Value} (h : CB W b T cs) (hb : Below W.heap.size W W') : CB W' b T cs := h.same (hb.block _ h.lt)

set_option maxRecDepth 100000 in
set_option maxHeartbeats 4000000 in
theorem twice_walk (A : Option Addr) (n c : Nat) (s r : Int) (bs : List UInt8) (Ar : Option Addr) (nr cr : Nat) (rs : List UInt8) (k0 k1 : Nat) (w : World) (hb : BR w w.heap.size A n c bs) (hrb : BR w w.heap.size Ar nr cr rs) (h0 : k0 < 65536) (h1 : k1 < 65536) :
    Calls Try.prog 6 #[.agg #[.slice A n c, .int .i64 s, .int .i64 r], .slice Ar nr cr, .agg #[.int .u16 k0, .int .u16 k1]] w fun e w' => e = .returned (.bool true) ∧ Below w.heap.size w w' := by
  have hnm := hb.max
  have hrm := hrb.max
  obtain ⟨W, hW, bx, kx, hbW⟩ := two_cells w 24 50 A n c s r (.int .u16 k0) (.int .u16 k1)
  go_enter Try.func6, Try.ntmps6
  go_wp2_with fail
  try rw [hW]
  clear hW
  refine (alive_c W).mono ?_
  rintro e w1 ⟨rfl, hb1⟩
  have bx1 := bx.on hb1 bx.lt
  have kx1 := kx_on kx hb1
  have hb01 := hbW.trans (hb1.mono hbW.size)
  clear bx kx hbW hb1
  obtain ⟨d0, d1, d2⟩ := bx1.cells
  by_cases hbig : (9000 : Int) < (n : Int)
  · go_wp2_with fail
    go_ret
    exact ⟨rfl, hb01⟩
  by_cases hbig2 : (9000 : Int) < (nr : Int)
  · go_wp2_with fail
    go_ret
    exact ⟨rfl, hb01⟩
  go_wp2_with fail
  refine (right_c A n c s r w1).mono ?_
  rintro e w2 ⟨rfl, hb2⟩
  have bx2 := bx1.on hb2 bx1.lt
  have kx2 := kx_on kx1 hb2
  have hb02 := hb01.trans (hb2.mono hb01.size)
  clear bx1 kx1 hb01 hb2 d0 d1 d2
  cases hright : rightB n s r with
  | false =>
    clear hright
    go_wp2_with fail
    go_ret
    exact ⟨rfl, hb02⟩
  | true =>
    obtain ⟨s', r', rfl, rfl, hs, hr, hr2⟩ := right_of hright
    clear hright
    obtain ⟨d0, d1, d2⟩ := bx2.cells
    have m0 := kx2.cell 0
    have m1 := kx2.cell 1
    simp at m0 m1
    have hx2 := hb.on hb02
    obtain ⟨K, hK⟩ : ∃ K, kC n s' k0 = K := ⟨_, rfl⟩
    have hKl := kC_le (k := k0) hs
    rw [hK] at hKl
    have HK := Lib.hid hK
    clear hK
    go_wp2_with fail
    refine (crash_d A n c s' k0 r' bs w2 hx2 (by omega) hs h0).mono ?_
    rw [HK.out]
    rintro e w3 ⟨A3, c3, rfl, hx3, hb3⟩
    have bx3 := bx2.on hb3 bx2.lt
    have kx3 := kx_on kx2 hb3
    have hb03 := hb02.trans (hb3.mono hb02.size)
    clear bx2 kx2 hb02 hb3 hx2 d0 d1 d2 m0 m1
    have m1 := (kx3.alloc (.cells #[.slice A3 K c3, .int .i64 K, .int .i64 r'] 28)).cell 1
    simp at m1
    have hne : w.heap.size + 1 ≠ w3.heap.size := by have := kx3.lt; omega
    go_wp2_with fail
    obtain ⟨W4, hW4, ax4, hbW4⟩ := boxed w3 28 A3 K c3 K r'
    rw [hW4]
    have bx4 := bx3.on hbW4 bx3.lt
    have hx4 := hx3.on hbW4
    have hb04 := hb03.trans (hbW4.mono hb03.size)
    clear hW4 bx3 kx3 hx3 hb03 hbW4 m1 hne
    generalize w3.heap.size = a at *
    have hKK : kC K K k1 = K := kC_same K k1
    refine (crash_d A3 K c3 K k1 r' _ W4 hx4 (by omega) (Nat.le_refl _) h1).mono ?_
    rw [hKK, List.take_take, Nat.min_self]
    clear hKK
    rintro e w5 ⟨A5, c5, rfl, hx5, hb5⟩
    have bx5 := bx4.on hb5 bx4.lt
    have ax5 := ax4.on hb5 ax4.lt
    have hx45 := hx4.on hb5
    have hb05 := hb04.trans (hb5.mono hb04.size)
    clear bx4 ax4 hx4 hb04 hb5
    obtain ⟨d0, d1, d2⟩ := (bx5.alloc (.cells #[.slice A5 K c5, .int .i64 K, .int .i64 r'] 28)).cells
    go_wp2_with fail
    obtain ⟨W6, hW6, bb6, hbW6⟩ := boxed w5 28 A5 K c5 K r'
    rw [hW6]
    have bx6 := bx5.on hbW6 bx5.lt
    have ax6 := ax5.on hbW6 ax5.lt
    have hx6 := hx45.on hbW6
    have hy6 := hx5.on hbW6
    have hb06 := hb05.trans (hbW6.mono hb05.size)
    clear hW6 bx5 ax5 hx45 hx5 hb05 hbW6 d0 d1 d2
    generalize w5.heap.size = b at *
    refine (append_d A n c r' s' bs Ar nr cr rs W6 (hb.on hb06) (hrb.on hb06) (by omega) (by omega)).mono ?_
    rintro e w7 ⟨A7, n7, c7, rfl, hx7, hb7⟩
    have bx7 := bx6.on hb7 bx6.lt
    have ax7 := ax6.on hb7 ax6.lt
    have bb7 := bb6.on hb7 bb6.lt
    have hz7 := hx6.on hb7
    have hy7 := hy6.on hb7
    have hb07 := hb06.trans (hb7.mono hb06.size)
    clear bx6 ax6 bb6 hx6 hy6 hb06 hb7
    obtain ⟨d0, d1, d2⟩ := (bx7.alloc (.cells #[.slice A7 n7 c7, .int .i64 s', .int .i64 r'] 28)).cells
    by_cases hE : eA n r' rs = 0
    · rw [hE]
      have hn7 : n7 = n + nr + 7 := by
        have h8 := hx7.1
        rw [bA_ok (by rw [hb.1]; exact hE), List.length_append, frameB_length, hb.1, hrb.1] at h8
        omega
      have hnI : ((n7 : Int) != (n : Int) + (nr : Int) + 7) = false := by rw [bne_eq_false_iff_eq]; omega
      have hsI : ((s' : Int) != (s' : Int)) = false := by simp
      have hn7' : n7 ≤ 30000 := by omega
      clear hn7 hE hx7
      go_wp2_with fail
      obtain ⟨w8, hw8, _, hbW8⟩ := boxed w7 28 A7 n7 c7 s' r'
      rw [hw8]
      have bx8 := bx7.on hbW8 bx7.lt
      have ax8 := ax7.on hbW8 ax7.lt
      have bb8 := bb7.on hbW8 bb7.lt
      have hz8 := hz7.on hbW8
      have hy8 := hy7.on hbW8
      have hb08 := hb07.trans (hbW8.mono hb07.size)
      clear hw8 bx7 ax7 bb7 hz7 hy7 hb07 hbW8 hnI hsI hn7'
      have hcv1 := conv_br hz8
      obtain ⟨hcut, hxC⟩ := cut_upto (hb.on hb08) K K rfl hKl.2
      have hcv2 := conv_br hxC
      have hge : (s' : Int) ≤ (K : Int) := by omega
      have hle : K ≤ n := hKl.2
      have hee : ((mkS (bs.take K)).toList == (mkS (bs.take K)).toList) = true := beq_self_eq_true _
      clear d0 d1 d2 hnm hrm
      go_region_held3 (fun W' => (W'.cell? ⟨a, 0, none⟩ = some (.slice A3 K c3) ∧ W'.cell? ⟨a, 1, none⟩ = some (.int .i64 K) ∧ W'.cell? ⟨a, 2, none⟩ = some (.int .i64 r')) ∧ (W'.cell? ⟨b, 0, none⟩ = some (.slice A5 K c5) ∧ W'.cell? ⟨b, 1, none⟩ = some (.int .i64 K) ∧ W'.cell? ⟨b, 2, none⟩ = some (.int .i64 r')) ∧ (W'.cell? ⟨w.heap.size, 0, none⟩ = some (.slice A n c) ∧ W'.cell? ⟨w.heap.size, 1, none⟩ = some (.int .i64 s') ∧ W'.cell? ⟨w.heap.size, 2, none⟩ = some (.int .i64 r')) ∧ (convert 22 9 (.slice A3 K c3)).run Try.prog W' = .ok (.string (mkS (bs.take K))) W' ∧ (convert 22 9 (.slice A K c)).run Try.prog W' = .ok (.string (mkS (bs.take K))) W')
        (first | exact ⟨ax8.cells, bb8.cells, bx8.cells, hcv1, hcv2⟩ | exact ⟨ax8.cells, bb8.cells, bx8.cells, conv_br hz8.drew, conv_br hxC.drew⟩ | exact y9) (first
        | (go_at_call 15; (with_reducible refine (same_d A3 A5 K c3 K c5 K r' (bs.take K) w8.drew hz8.drewS hy8.drewS).mono ?_); rintro e w9 ⟨rfl, hb9⟩; have y9 := And.intro (ax8.drew.on hb9 ax8.lt).cells (And.intro (bb8.drew.on hb9 bb8.lt).cells (And.intro (bx8.drew.on hb9 bx8.lt).cells (And.intro (conv_br (hz8.drewS.on hb9)) (conv_br (hxC.drewS.on hb9)))))))
      go_wp2_with fail
      go_ret
      exact ⟨rfl, hb08.trans ((below_drew hb9).mono hb08.size)⟩
    · have hbA := bA_bad (r := r') (bs := bs) (rec := rs) (by rw [hb.1]; exact hE)
      rw [hbA] at hx7
      obtain rfl : n = n7 := by rw [← hb.1, ← hx7.1]
      have hEn : ((eA n r' rs : Int) != 0) = true := by rw [bne_iff_ne]; omega
      have hEe : ((eA n r' rs : Int) == 0) = false := by rw [beq_eq_false_iff_ne]; omega
      generalize eA n r' rs = E at *
      clear hE hbA
      go_wp2_with fail
      obtain ⟨W7, hW7, _, hbW7⟩ := boxed w7 28 A7 n c7 s' r'
      rw [hW7]
      have bx7' := bx7.on hbW7 bx7.lt
      have ax7' := ax7.on hbW7 ax7.lt
      have bb7' := bb7.on hbW7 bb7.lt
      have hz7' := hz7.on hbW7
      have hy7' := hy7.on hbW7
      have hx7' := hx7.on hbW7
      have hb07' := hb07.trans (hbW7.mono hb07.size)
      clear hW7 bx7 ax7 bb7 hz7 hy7 hb07 hbW7 hx7
      refine (same_d A7 A n c7 n c s' r' bs W7 hx7' (hb.on hb07')).mono ?_
      rintro e w8 ⟨rfl, hb8⟩
      have bx8 := bx7'.on hb8 bx7'.lt
      have ax8 := ax7'.on hb8 ax7'.lt
      have bb8 := bb7'.on hb8 bb7'.lt
      have hz8 := hz7'.on hb8
      have hy8 := hy7'.on hb8
      have hb08 := hb07'.trans (hb8.mono hb07'.size)
      clear bx7' ax7' bb7' hz7' hy7' hb07' hx7' hb8
      go_wp2_with fail
      clear hEn hEe
      have hcv1 := conv_br hz8
      obtain ⟨hcut, hxC⟩ := cut_upto (hb.on hb08) K K rfl hKl.2
      have hcv2 := conv_br hxC
      have hge : (s' : Int) ≤ (K : Int) := by omega
      have hle : K ≤ n := hKl.2
      have hee : ((mkS (bs.take K)).toList == (mkS (bs.take K)).toList) = true := beq_self_eq_true _
      clear d0 d1 d2 hnm hrm
      go_region_held3 (fun W' => (W'.cell? ⟨a, 0, none⟩ = some (.slice A3 K c3) ∧ W'.cell? ⟨a, 1, none⟩ = some (.int .i64 K) ∧ W'.cell? ⟨a, 2, none⟩ = some (.int .i64 r')) ∧ (W'.cell? ⟨b, 0, none⟩ = some (.slice A5 K c5) ∧ W'.cell? ⟨b, 1, none⟩ = some (.int .i64 K) ∧ W'.cell? ⟨b, 2, none⟩ = some (.int .i64 r')) ∧ (W'.cell? ⟨w.heap.size, 0, none⟩ = some (.slice A n c) ∧ W'.cell? ⟨w.heap.size, 1, none⟩ = some (.int .i64 s') ∧ W'.cell? ⟨w.heap.size, 2, none⟩ = some (.int .i64 r')) ∧ (convert 22 9 (.slice A3 K c3)).run Try.prog W' = .ok (.string (mkS (bs.take K))) W' ∧ (convert 22 9 (.slice A K c)).run Try.prog W' = .ok (.string (mkS (bs.take K))) W')
        (first | exact ⟨ax8.cells, bb8.cells, bx8.cells, hcv1, hcv2⟩ | exact ⟨ax8.cells, bb8.cells, bx8.cells, conv_br hz8.drew, conv_br hxC.drew⟩ | exact y9) (first
        | (go_at_call 15; (with_reducible refine (same_d A3 A5 K c3 K c5 K r' (bs.take K) w8.drew hz8.drewS hy8.drewS).mono ?_); rintro e w9 ⟨rfl, hb9⟩; have y9 := And.intro (ax8.drew.on hb9 ax8.lt).cells (And.intro (bb8.drew.on hb9 bb8.lt).cells (And.intro (bx8.drew.on hb9 bx8.lt).cells (And.intro (conv_br (hz8.drewS.on hb9)) (conv_br (hxC.drewS.on hb9)))))))
      go_wp2_with fail
      go_ret
      exact ⟨rfl, hb08.trans ((below_drew hb9).mono hb08.size)⟩
end Go.Proofs.Ytdelllkgllfcdaa
