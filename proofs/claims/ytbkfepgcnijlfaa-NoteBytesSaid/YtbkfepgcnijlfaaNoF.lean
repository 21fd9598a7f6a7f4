/-
  Layer 17: Encode of package note. Condition: the bytes are in their type's range.
-/
import Derived.Test.YtbkfepgcnijlfaaNoE
import Derived.Test.YtbkfepgcnijlfaaNoC
set_option linter.unusedVariables false
set_option linter.unusedSimpArgs false
namespace Go.Proofs.Ytbkfepgcnijlfaa
open Go.RowKit
open Dk (Nt InN RightN BoundN MsgN NoMsg KindN EpN bound_n)


set_option maxRecDepth 100000 in
set_option maxHeartbeats 4000000 in
theorem encode_c (n : Nt) (w : World) (hi : InN n) : Calls Try.prog 9 #[.agg (ntA n)] w (EPost w n) := by
  have C1 := fun W => right_c n W
  by_cases hr : RightN n
  rotate_left
  · have q0 : decide (RightN n) = false := decide_eq_false hr
    have HR := Lib.hid hr
    clear hr
    simp only [q0] at C1
    go_enter Try.func9, Try.ntmps9
    go_wp2_with (first | ((with_reducible refine st_box 33 _ (ntA n) ?_ ?_); exact rfl))
    refine ⟨fun V1 g1 n1 f1 => ?_⟩
    have up1 : w.heap.size ≤ g1 := Nat.le_of_eq f1.at_
    have bl1 := f1.bel
    clear f1
    have l3 := le_tr (Below.refl _ _) bl1
    clear bl1
    go_wp2_with (first | (first | ((with_reducible refine st_load 33 _ g1 ?_ n1 Try.underlying33 ?_ ?_ ?_); exact rfl; exact rfl; exact Try.zNc) | ((with_reducible refine st_loadG 33 _ g1 ?_ n1 Try.underlying33 ?_ ?_ ?_ ?_); exact rfl; exact rfl; exact Try.zNc; exact rfl)))
    (with_reducible refine (C1 _).mono ?_)
    rintro e w4 ⟨rfl, b4⟩
    have r6_n := le_on n1 b4
    have l6 := le_tr l3 b4
    clear n1 l3
    clear b4
    go_wp2_with fail
    exact bodyPost_ret (v := .tuple #[.slice none 0 0, .int .i64 2]) (by simp [results, Try.results9, go_sem]) rfl (EPost.no HR.out l6)
  have q0 : decide (RightN n) = true := decide_eq_true hr
  simp only [q0] at C1
  have hb := bound_n hi hr
  have HR := Lib.hid hr
  have HB := Lib.hid hb
  obtain ⟨k, b, t, e, v, q, f, g, m, en, hx⟩ := nat_n hb
  generalize n.cg = cg at en
  have C2 := fun W => values_c k b t e v q f g m cg W hx
  rw [← en] at C2
  clear hb hr hx en hi
  go_enter Try.func9, Try.ntmps9
  go_wp2_with (first | ((with_reducible refine st_box 33 _ (ntA n) ?_ ?_); exact rfl))
  refine ⟨fun V1 g1 n1 f1 => ?_⟩
  have up1 : w.heap.size ≤ g1 := Nat.le_of_eq f1.at_
  have bl1 := f1.bel
  clear f1
  have l3 := le_tr (Below.refl _ _) bl1
  clear bl1
  go_wp2_with (first | (first | ((with_reducible refine st_load 33 _ g1 ?_ n1 Try.underlying33 ?_ ?_ ?_); exact rfl; exact rfl; exact Try.zNc) | ((with_reducible refine st_loadG 33 _ g1 ?_ n1 Try.underlying33 ?_ ?_ ?_ ?_); exact rfl; exact rfl; exact Try.zNc; exact rfl)))
  (with_reducible refine (C1 _).mono ?_)
  rintro e w4 ⟨rfl, b4⟩
  have r6_n := le_on n1 b4
  have l6 := le_tr l3 b4
  clear n1 l3
  clear b4
  go_wp2_with (first | (first | ((with_reducible refine st_load 33 _ g1 ?_ r6_n Try.underlying33 ?_ ?_ ?_); exact rfl; exact rfl; exact Try.zNc) | ((with_reducible refine st_loadG 33 _ g1 ?_ r6_n Try.underlying33 ?_ ?_ ?_ ?_); exact rfl; exact rfl; exact Try.zNc; exact rfl)))
  (with_reducible refine (C2 _).mono ?_)
  rintro e w7 ⟨g2, rfl, c2, u2, b7⟩
  have r9_n := le_on r6_n b7
  have l9 := le_tr l6 b7
  clear r6_n l6
  clear b7
  have o2 : RR w7 vcl 2 (some ⟨g2, 0, none⟩) 10 10 (Dk.cvN n) := (RR.of_cb (L := Dk.cvN n) (n := 10) c2 rfl (by decide)).rr
  clear c2
  go_wp2_with fail
  (with_reducible refine (encn_C HB.out _ _ _ o2).mono ?_)
  rintro e w10 ⟨A3, n3, q3, rfl, h3, b10⟩
  have r12_n := le_on r9_n b10
  have l12 := le_tr l9 b10
  clear r9_n l9
  clear b10
  clear o2
  go_wp2_with fail
  have lz := Below.size (B := w.heap.size) l12
  (with_reducible refine (frmn_C HB.out _ _ _ _ h3).mono ?_)
  rintro e w13 ⟨A4, n4, q4, G4, rfl, h4, b13⟩
  have r15_n := le_on r12_n b13
  have l15 := le_tr l12 b13
  clear r12_n l12
  clear b13
  go_wp2_with fail
  exact bodyPost_ret (v := .tuple #[.slice A4 n4 q4, .int .i64 0]) (by simp [results, Try.results9, go_sem]) rfl (EPost.yes HR.out (SO.mono h4 lz) l15)
end Go.Proofs.Ytbkfepgcnijlfaa
