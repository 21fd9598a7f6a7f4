/-
  Layer 17: what the laws call, told by what comes of it; alive. Conditions: the bytes are in their type's range, the bytes can be read.
-/
import Derived.Test.YtbkfepgcnijlfaaNoF
import Derived.Test.YtbkfepgcnijlfaaNoJ
set_option linter.unusedVariables false
set_option linter.unusedSimpArgs false
namespace Go.Proofs.Ytbkfepgcnijlfaa
open Go.RowKit
open Dk (Nt InN RightN BoundN MsgN NoMsg KindN EpN bound_n)


/-- Encode and Decode, told by what comes of them. -/
def GPost (w : World) (bs : List UInt8) (k : Nat) (e : Ending) (w' : World) : Prop :=
  ∃ A q G, e = .returned (.tuple #[.slice A k q, .int .i64 0]) ∧ SO w.heap.size w' 5 bcl 1 A k q bs G ∧ Below w.heap.size w w'
def FPost (w : World) (e : Ending) (w' : World) : Prop :=
  ∃ A q G, e = .returned (.tuple #[.slice A 0 q, .int .i64 2]) ∧ SO w.heap.size w' 5 bcl 1 A 0 q [] G ∧ Below w.heap.size w w'
theorem enc_yes (n : Nt) (k : Nat) (w : World) (hi : InN n) (hr : RightN n) (hk : 25 + n.cg.size = k) : Calls Try.prog 9 #[.agg (ntA n)] w (GPost w (Dk.byN n) k) := by
  have := encode_c n w hi
  unfold EPost at this
  rw [(bNt_yes hr).1, (bNt_yes hr).2, Dk.byN_length, hk] at this
  exact this
theorem enc_not (n : Nt) (w : World) (hi : InN n) (hr : ¬ RightN n) : Calls Try.prog 9 #[.agg (ntA n)] w (FPost w) := by
  have := encode_c n w hi
  unfold EPost at this
  rw [(bNt_no hr).1, (bNt_no hr).2] at this
  exact this
theorem dec_yes_c {bs : List UInt8} {n : Nt} (h : Dk.dNt bs = some n) (A : Option Addr) (k c : Nat) (w : World) (hb : RR w bcl 1 A k c bs) : Calls Try.prog 12 #[.slice A k c] w fun e w' => e = .returned (.tuple #[.agg (ntA n), .int .i64 0]) ∧ Below w.heap.size w w' := by
  have := decode_c A k c bs w hb
  unfold DPost at this
  rw [(dN_yes h).1, (dN_yes h).2] at this
  exact this
theorem dec_no_c {bs : List UInt8} (h : Dk.dNt bs = none) (A : Option Addr) (k c : Nat) (w : World) (hb : RR w bcl 1 A k c bs) : Calls Try.prog 12 #[.slice A k c] w fun e w' => e = .returned (.tuple #[.agg (ntA zN), .int .i64 4]) ∧ Below w.heap.size w w' := by
  have := decode_c A k c bs w hb
  unfold DPost at this
  rw [(dN_no h).1, (dN_no h).2] at this
  exact this
theorem back_n {n : Nt} (hi : InN n) (hr : RightN n) : Dk.dNt (Dk.byN n) = some n := Dk.dNt_some.2 ⟨hi, hr, rfl⟩
theorem szB : ∀ V : World, (sizeOf 5).run Try.prog V = .ok 1 V := Try.sizeOf5
theorem cut_b (A : Option Addr) (n c k : Nat) (hk : k ≤ c) : ∀ V : World, (Instr.slice 26 (.slice A n c) none (some (.int .i64 (k : Int))) none).run Try.prog V = .ok (.slice A k c) V := fun V => run_cut_upto (P := Try.prog) 26 5 Try.underlying26 1 szB A n c k hk V
theorem ts_bs (l : List UInt8) : (Dk.mkS l).toList = l := by rw [Dk.tl_bl, Dk.bl_mkS]
/-- The law's own note. -/
def nV : Nt := ⟨2, 3, 7, 2, 1, 0, 0, 0, 0, ByteArray.empty⟩
theorem nV_in : InN nV := by unfold InN nV; simp only; omega
theorem nV_right : RightN nV := ⟨by decide, Or.inr ⟨⟨rfl, rfl, rfl, rfl, rfl⟩, ⟨by decide, by decide⟩, Or.inl ⟨rfl, ⟨by decide, by decide⟩, Or.inl rfl⟩⟩⟩
theorem nV_size : 25 + nV.cg.size = 25 := rfl
theorem nV_short : Dk.dNt ((Dk.byN nV).take 12) = none := Dk.dNt_short nV_in nV_right (by rw [Dk.byN_length, nV_size]; omega)
set_option maxRecDepth 100000 in
set_option maxHeartbeats 4000000 in
theorem alive_c (w : World) : Calls Try.prog 8 #[] w fun r w' => r = .returned (.bool true) ∧ Below w.heap.size w w' := by
  have E : ∀ V : World, (Op.equalIn 10000 33 (.agg (ntA nV)) (.agg (ntA nV))).run Try.prog V = .ok true V := fun V => by have := eq_nc nV nV V; rw [eqN_refl] at this; exact this
  have C6 := fun W => right_c nV W
  simp only [decide_eq_true nV_right] at C6
  go_enter Try.func8, Try.ntmps8
  go_wp2_with (first | ((with_reducible refine st_alloc 33 (ntA zN) ?_ ?_); exact zero_nc))
  refine ⟨fun V1 g1 n1 f1 => ?_⟩
  have up1 : w.heap.size ≤ g1 := Nat.le_of_eq f1.at_
  have bl1 := f1.bel
  clear f1
  have l3 := le_tr (Below.refl _ _) bl1
  clear bl1
  go_wp2_with (first | ((with_reducible refine st_store 33 _ _ g1 (ntA nV) ?_ ?_ n1 ?_ ?_ ?_ ?_); exact rfl; exact rfl; exact Try.zNc; exact rfl; exact ntA_one _))
  refine ⟨fun V4 n4 k4 => ?_⟩
  have o4 := k4.bel _ _ l3 up1
  clear k4
  clear n1 l3
  go_wp2_with (first | (first | ((with_reducible refine st_load 33 _ g1 ?_ n4 Try.underlying33 ?_ ?_ ?_); exact rfl; exact rfl; exact Try.zNc) | ((with_reducible refine st_loadG 33 _ g1 ?_ n4 Try.underlying33 ?_ ?_ ?_ ?_); exact rfl; exact rfl; exact Try.zNc; exact rfl)))
  have lt5_n := CB.lt n4
  have lb5 : w.heap.size ≤ V4.heap.size := Below.size (B := w.heap.size) o4
  (with_reducible refine (enc_yes nV 25 _ nV_in nV_right nV_size).mono ?_)
  rintro e w5 ⟨A2, q2, G2, rfl, h2, b5⟩
  have r7_n := le_on n4 b5
  have l7 := le_tr o4 b5
  clear n4 o4
  clear b5
  have na8 := SO.above h2 lt5_n
  have sm5_x := SO.mono h2 lb5
  clear h2
  clear lb5 lt5_n
  go_wp2_with fail
  (with_reducible refine (dec_yes_c (back_n nV_in nV_right) _ _ _ _ (SO.rr sm5_x)).mono ?_)
  rintro e w9 ⟨rfl, b9⟩
  have r10_x := SO.on sm5_x b9
  have r11_n := le_on r7_n b9
  have l11 := le_tr l7 b9
  clear r7_n l7
  clear sm5_x
  clear b9
  go_wp2_with (first | ((with_reducible refine st_alloc 33 (ntA zN) ?_ ?_); exact zero_nc))
  refine ⟨fun V12 g12 n12 f12 => ?_⟩
  have ne12_n := f12.ne r11_n
  have no12_x := SO.fresh r10_x (Nat.le_of_eq f12.at_)
  have up12 : w.heap.size ≤ g12 := f12.up l11
  have bl12 := f12.bel
  clear f12
  have r13_x := SO.on r10_x bl12
  have r14_n := le_on r11_n bl12
  have l14 := le_tr l11 bl12
  clear r11_n l11
  clear r10_x
  clear bl12
  go_wp2_with (first | ((with_reducible refine st_store 33 _ _ g12 (ntA nV) ?_ ?_ n12 ?_ ?_ ?_ ?_); exact rfl; exact rfl; exact Try.zNc; exact rfl; exact ntA_one _))
  refine ⟨fun V15 n15 k15 => ?_⟩
  have m15_n := k15.on r14_n ne12_n
  have m15_x := SO.wr r13_x k15 no12_x
  have o15 := k15.bel _ _ l14 up12
  clear k15
  clear n12 r14_n r13_x l14
  have hq := (m15_x).rr.cap
  have cut := cut_b A2 25 q2 12 (by omega)
  have cut2 : ∀ V : World, (Instr.slice 26 (.slice A2 25 q2) none (some (.int .i64 12)) none).run Try.prog V = .ok (.slice A2 12 q2) V := cut
  go_wp2_with fail
  (with_reducible refine (dec_no_c nV_short _ _ _ _ ((SO.rr m15_x).upto (k := 12) (by omega))).mono ?_)
  rintro e w16 ⟨rfl, b16⟩
  have r17_x := SO.on m15_x b16
  have r18_n := le_on m15_n b16
  have r18_m := le_on n15 b16
  have l18 := le_tr o15 b16
  clear m15_n n15 o15
  clear m15_x
  clear b16
  go_wp2_with (first | ((with_reducible refine st_alloc 33 (ntA zN) ?_ ?_); exact zero_nc))
  refine ⟨fun V19 g19 n19 f19 => ?_⟩
  have ne19_n := f19.ne r18_n
  have ne19_m := f19.ne r18_m
  have no19_x := SO.fresh r17_x (Nat.le_of_eq f19.at_)
  have up19 : w.heap.size ≤ g19 := f19.up l18
  have bl19 := f19.bel
  clear f19
  have r20_x := SO.on r17_x bl19
  have r21_n := le_on r18_n bl19
  have r21_m := le_on r18_m bl19
  have l21 := le_tr l18 bl19
  clear r18_n r18_m l18
  clear r17_x
  clear bl19
  go_wp2_with (first | ((with_reducible refine st_store 33 _ _ g19 (ntA zN) ?_ ?_ n19 ?_ ?_ ?_ ?_); exact rfl; exact rfl; exact Try.zNc; exact rfl; exact ntA_one _))
  refine ⟨fun V22 n22 k22 => ?_⟩
  have m22_n := k22.on r21_n ne19_n
  have m22_m := k22.on r21_m ne19_m
  have m22_x := SO.wr r20_x k22 no19_x
  have o22 := k22.bel _ _ l21 up19
  clear k22
  clear n19 r21_n r21_m r20_x l21
  go_wp2_with (first | (first | ((with_reducible refine st_load 33 _ g1 ?_ m22_n Try.underlying33 ?_ ?_ ?_); exact rfl; exact rfl; exact Try.zNc) | ((with_reducible refine st_loadG 33 _ g1 ?_ m22_n Try.underlying33 ?_ ?_ ?_ ?_); exact rfl; exact rfl; exact Try.zNc; exact rfl)))
  (with_reducible refine (C6 _).mono ?_)
  rintro e w23 ⟨rfl, b23⟩
  have r24_x := SO.on m22_x b23
  have r25_n := le_on m22_n b23
  have r25_m := le_on m22_m b23
  have r25_u := le_on n22 b23
  have l25 := le_tr o22 b23
  clear m22_n m22_m n22 o22
  clear m22_x
  clear b23
  go_wp2_with (first | (first | ((with_reducible refine st_load 33 _ g12 ?_ r25_m Try.underlying33 ?_ ?_ ?_); exact rfl; exact rfl; exact Try.zNc) | ((with_reducible refine st_loadG 33 _ g12 ?_ r25_m Try.underlying33 ?_ ?_ ?_ ?_); exact rfl; exact rfl; exact Try.zNc; exact rfl)) | (first | ((with_reducible refine st_load 33 _ g1 ?_ r25_n Try.underlying33 ?_ ?_ ?_); exact rfl; exact rfl; exact Try.zNc) | ((with_reducible refine st_loadG 33 _ g1 ?_ r25_n Try.underlying33 ?_ ?_ ?_ ?_); exact rfl; exact rfl; exact Try.zNc; exact rfl)))
  go_ret
  exact ⟨rfl, l25⟩
end Go.Proofs.Ytbkfepgcnijlfaa
