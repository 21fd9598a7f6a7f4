/-
  The signs of layer 2, and alive of its laws. Conditions: the numbers are of 64 bits.
-/
import Derived.Test.YtbhjoajcfeheaaaCodeJ
namespace Go.Proofs.Ytbhjoajcfeheaaa
open Go.RowKit

theorem sgn1 (n : Int) (h1 : -9223372036854775808 ≤ n) (h2 : n ≤ 9223372036854775807) : IntKind.u64.wrap (IntKind.u64.wrap n + 9223372036854775808) = n + 9223372036854775808 := by
  rw [IntKind.wrap_u64, IntKind.wrap_u64]
  omega
theorem sgn2 (n : Int) (h1 : 0 ≤ n) (h2 : n ≤ 18446744073709551615) : wrap64 (IntKind.u64.wrap (n - 9223372036854775808)) = n - 9223372036854775808 := by
  rw [IntKind.wrap_u64]
  unfold wrap64
  omega

theorem sign_c (n : Int) (w : World) (h1 : -9223372036854775808 ≤ n) (h2 : n ≤ 9223372036854775807) :
    Calls Try.prog 19 #[.int .i64 n] w fun e w' => e = .returned (.int .u64 (n + 9223372036854775808)) ∧ w = w' := by
  have H := Lib.hid (sgn1 n h1 h2)
  clear h1 h2
  go_enter Try.func19, Try.ntmps19
  go_wp2
  go_ret
  exact ⟨congrArg (fun x => Ending.returned (.int .u64 x)) H.out, rfl⟩

theorem sign_r (n : Int) (w : World) (h1 : -9223372036854775808 ≤ n) (h2 : n ≤ 9223372036854775807) :
    Calls Try.prog 20 #[.int .i64 n] w fun e w' => e = .returned (.int .u64 (n + 9223372036854775808)) ∧ w = w' := by
  have H := Lib.hid (sgn1 n h1 h2)
  clear h1 h2
  go_enter Try.func20, Try.ntmps20
  go_wp2
  go_ret
  exact ⟨congrArg (fun x => Ending.returned (.int .u64 x)) H.out, rfl⟩

theorem unsign_c (n : Int) (w : World) (h1 : 0 ≤ n) (h2 : n ≤ 18446744073709551615) :
    Calls Try.prog 21 #[.int .u64 n] w fun e w' => e = .returned (.int .i64 (n - 9223372036854775808)) ∧ w = w' := by
  have H := Lib.hid (sgn2 n h1 h2)
  clear h1 h2
  go_enter Try.func21, Try.ntmps21
  go_wp2
  go_ret
  exact ⟨congrArg (fun x => Ending.returned (.int .i64 x)) H.out, rfl⟩

theorem unsign_r (n : Int) (w : World) (h1 : 0 ≤ n) (h2 : n ≤ 18446744073709551615) :
    Calls Try.prog 22 #[.int .u64 n] w fun e w' => e = .returned (.int .i64 (n - 9223372036854775808)) ∧ w = w' := by
  have H := Lib.hid (sgn2 n h1 h2)
  clear h1 h2
  go_enter Try.func22, Try.ntmps22
  go_wp2
  go_ret
  exact ⟨congrArg (fun x => Ending.returned (.int .i64 x)) H.out, rfl⟩

def aV : List CV := [⟨258, mkS []⟩, ⟨0, mkS [120]⟩]
theorem a_sh : bl (mkS [98, 116]) = [98, 116] := rfl
theorem a_e : eE [98, 116] aV = 0 := by rfl
theorem a_b : bE [98, 116] aV = [1, 2, 0, 1, 120] := by rfl
theorem a_p : properB [98, 116] = true := by rfl
theorem a_d : eD [98, 116] [1, 2, 0, 1, 120] = 0 ∧ lD [98, 116] [1, 2, 0, 1, 120] = aV := eD_yes a_p (okD_some.2 ⟨rfl, rfl, rfl, by decide⟩)
theorem a_s : eD [98, 116] [1, 2] = 4 := by rfl

set_option maxRecDepth 100000 in
set_option maxHeartbeats 1000000 in
theorem alive_c (w : World) : Calls Try.prog 10 #[] w fun e w' => e = .returned (.bool true) ∧ Below w.heap.size w w' := by
  have hvr : VR (w.alloc (.cells #[.int .u64 258, .string ⟨#[]⟩, .int .u64 0, .string ⟨#[120]⟩] 48)) (some ⟨w.heap.size, 0, none⟩) aV := by
    have hcb := CB.new w 48 #[.int .u64 258, .string ⟨#[]⟩, .int .u64 0, .string ⟨#[120]⟩]
    intro i v hv
    match i, hv with
    | 0, hv => cases hv; exact ⟨by decide, by decide, _, _, rfl, by simp, hcb.cell 0, hcb.cell 1⟩
    | 1, hv => cases hv; exact ⟨by decide, by decide, _, _, rfl, by simp, hcb.cell 2, hcb.cell 3⟩
  have hb0 := (Below.refl w.heap.size w).alloc (Nat.le_refl _) (.cells #[.int .u64 258, .string ⟨#[]⟩, .int .u64 0, .string ⟨#[120]⟩] 48)
  go_enter Try.func10, Try.ntmps10
  go_wp2_with fail
  refine (encode_c (mkS [98, 116]) _ _ aV _ (by decide) hvr).mono ?_
  rintro e w1 ⟨A1, n1, c1, G1, he1, hs1, hb1⟩
  rw [a_sh, a_e] at he1
  rw [a_sh, a_b] at hs1
  subst he1
  obtain rfl : n1 = 5 := by have := hs1.1; simp [bc] at this; omega
  have hbr1 := BR.of_seg hs1
  have hc5 := hs1.2.1
  have hb01 : Below w.heap.size w w1 := hb0.trans (hb1.mono hb0.size)
  clear hvr hb0 hb1 hs1
  go_wp2_with fail
  refine (decode_c (mkS [98, 116]) _ _ _ [1, 2, 0, 1, 120] _ (by decide) hbr1).mono ?_
  rintro e w2 ⟨A2, c2, he2, hv2, _, hb2⟩
  rw [a_sh, a_d.1, a_d.2, show aV.length = 2 from rfl] at he2
  rw [a_sh, a_d.2] at hv2
  subst he2
  have hb02 : Below w.heap.size w w2 := hb01.trans (hb2.mono hb01.size)
  have hbr2 := (hbr1.below hb2 (Nat.le_refl _)).more hb2.size
  have hcut : ∀ W, (Instr.slice 25 (.slice A1 5 c1) none (some (.int .i64 2)) none).run Try.prog W = .ok (.slice A1 2 c1) W := fun W => run_cut_upto (P := Try.prog) 25 5 Try.underlying25 1 Try.sizeB A1 5 c1 2 (by omega) W
  clear hb2 hbr1 hb01
  go_wp2_with fail
  refine (decode_c (mkS [98, 116]) _ _ _ [1, 2] _ (by decide) (hbr2.upto (k := 2) (by omega))).mono ?_
  rintro e w3 ⟨A3, c3, he3, _, _, hb3⟩
  rw [a_sh, a_s] at he3
  subst he3
  have hb03 : Below w.heap.size w w3 := hb02.trans (hb3.mono hb02.size)
  have hcv := conv_br (hbr2.below hb3 (Nat.le_refl _))
  have hv3 := hv2.below hb3 (Nat.le_refl _)
  obtain ⟨_, _, g, off, rfl, _, d0, d1⟩ := hv3 0 ⟨258, mkS []⟩ rfl
  obtain ⟨_, _, g', off', ha, _, d2, d3⟩ := hv3 1 ⟨0, mkS [120]⟩ rfl
  cases ha
  clear hv3 hv2 hbr2 hb3 hb02 hcut
  have x1 : (mkS [1, 2, 0, 1, 120]).toList = [1, 2, 0, 1, 120] := by rw [tl_bl]; rfl
  have x2 : (mkS [120]).toList = [120] := by rw [tl_bl]; rfl
  have e0 : w3.cell? ⟨g, off, none⟩ = some (.int .u64 258) := d0
  have e3 : w3.cell? ⟨g, off + 2 + 1, none⟩ = some (.string (mkS [120])) := d3
  have e4 : w3.cell? ⟨g, off + 3, none⟩ = some (.string (mkS [120])) := d3
  clear d0 d1 d2 d3
  go_wp2_with (first | (go_at_call 19; refine (sign_c _ _ (by decide) (by decide)).mono ?_; rintro e w' ⟨rfl, rfl⟩) | (go_at_call 21; refine (unsign_c _ _ (by decide) (by decide)).mono ?_; rintro e w' ⟨rfl, rfl⟩))
  go_ret
  exact ⟨rfl, hb03⟩
end Go.Proofs.Ytbhjoajcfeheaaa
