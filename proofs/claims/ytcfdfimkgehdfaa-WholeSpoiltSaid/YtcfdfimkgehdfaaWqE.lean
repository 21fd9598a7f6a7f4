/-
  Layer 17: a note as the other package's, values, a note's values. Condition: small numbers where a theorem names it.
-/
import Derived.Test.YtcfdfimkgehdfaaWqA
import Derived.Test.YtcfdfimkgehdfaaWqC
set_option linter.unusedVariables false
set_option linter.unusedSimpArgs false
namespace Go.Proofs.Ytcfdfimkgehdfaa
open Go.RowKit
open Dk (Nt InN RightN BoundN MsgN NoMsg KindN EpN bound_n)


def vA (v : Dk.CV) : Array Value := #[.int .u64 (v.n : Int), .string v.s]
theorem vA_one (v : Dk.CV) : (vA v).all (·.oneCell') = true := by simp [vA, Value.oneCell']
theorem vA_size (v : Dk.CV) : (vA v).size = 2 := rfl
theorem Try.zVc : (Try.prog.info? 142).map (·.size) = some 2 := by kernel_rfl
/-- A note that may be is made of small natural numbers. -/
theorem nat_n {n : Nt} (h : BoundN n) : ∃ k b t e v q f g m : Nat, n = ⟨(k : Int), (b : Int), (t : Int), (e : Int), (v : Int), (q : Int), (f : Int), (g : Int), (m : Int), n.cg⟩ ∧ (k ≤ 5 ∧ b < 8 ∧ t < 1000 ∧ e ≤ 1048576 ∧ v ≤ 2 ∧ q ≤ 4 ∧ f < 8 ∧ g < 8 ∧ m ≤ 1048576) := by
  have := h.kd; have := h.mb; have := h.tx; have := h.ep; have := h.vl; have := h.mq; have := h.mf; have := h.mt; have := h.me
  refine ⟨n.kd.toNat, n.mb.toNat, n.tx.toNat, n.ep.toNat, n.vl.toNat, n.mq.toNat, n.mf.toNat, n.mt.toNat, n.me.toNat, ?_, by omega⟩
  apply Dk.Nt.ext_ <;> simp only <;> omega
/-- Behind a call that hands a note's bytes back. -/
def EPost (w : World) (n : Nt) (e : Ending) (w' : World) : Prop :=
  ∃ A q G, e = .returned (.tuple #[.slice A (Dk.bNt n).length q, .int .i64 ((Dk.eNt n : Nat) : Int)]) ∧ SO w.heap.size w' 5 bcl 1 A (Dk.bNt n).length q (Dk.bNt n) G ∧ Below w.heap.size w w'
def shW : ByteArray := ⟨#[97, 97, 98, 99, 97, 97, 97, 97, 99, 116]⟩
theorem bl_shW : Dk.bl shW = Dk.shN := by kernel_rfl
theorem shW_max : shW.size ≤ maxLen := by decide
theorem okV_n {n : Nt} (h : BoundN n) : Dk.okV (Dk.cvN n) := by
  have := h.kd; have := h.mb; have := h.tx; have := h.ep; have := h.vl; have := h.mq; have := h.mf; have := h.mt; have := h.me; have := h.cg
  intro v hv
  simp only [Dk.cvN, List.mem_cons, List.not_mem_nil, or_false] at hv
  have ml : (500 : Nat) ≤ maxLen := by decide
  have m0 : (⟨#[]⟩ : ByteArray).size ≤ maxLen := by decide
  rcases hv with rfl | rfl | rfl | rfl | rfl | rfl | rfl | rfl | rfl | rfl <;> refine ⟨?_, ?_⟩ <;> simp only [Dk.cn] <;> first | omega | exact m0
theorem bNt_yes {n : Nt} (h : RightN n) : Dk.eNt n = 0 ∧ Dk.bNt n = Dk.byN n := ⟨if_pos h, if_pos h⟩
theorem bNt_no {n : Nt} (h : ¬ RightN n) : Dk.eNt n = 2 ∧ Dk.bNt n = [] := ⟨if_neg h, if_neg h⟩
theorem frm_n {n : Nt} (h : BoundN n) : Dk.eF (Dk.encN n) = 0 ∧ Dk.bF (Dk.encN n) = Dk.byN n := by
  have hl := Dk.encN_length n
  have := h.cg
  exact Dk.eF_ok (by omega)
theorem EPost.yes {w : World} {n : Nt} {w' : World} (h : RightN n) {A : Option Addr} {k q : Nat} {G : Option Nat} (hs : SO w.heap.size w' 5 bcl 1 A k q (Dk.byN n) G) (hl : Below w.heap.size w w') :
    EPost w n (.returned (.tuple #[.slice A k q, .int .i64 0])) w' := by
  obtain ⟨e1, e2⟩ := bNt_yes h
  have hk := hs.len
  subst hk
  exact ⟨A, q, G, by rw [e1, e2]; rfl, by rw [e2]; exact hs, hl⟩
/-- Encode of code at a note's values, Frame of sum at their bytes. -/
def CPost (w : World) (bs : List UInt8) (e : Ending) (w' : World) : Prop := ∃ A n c, e = .returned (.tuple #[.slice A n c, .int .i64 0]) ∧ RR w' bcl 1 A n c bs ∧ Below w.heap.size w w'
def MPost (w : World) (bs : List UInt8) (e : Ending) (w' : World) : Prop := ∃ A n c G, e = .returned (.tuple #[.slice A n c, .int .i64 0]) ∧ SO w.heap.size w' 5 bcl 1 A n c bs G ∧ Below w.heap.size w w'
theorem encn_C {n : Nt} (hb : BoundN n) (A : Option Addr) (c : Nat) (w : World) (h : RR w vcl 2 A 10 c (Dk.cvN n)) : Calls Try.prog 54 #[.string ⟨#[97, 97, 98, 99, 97, 97, 97, 97, 99, 116]⟩, .slice A 10 c] w (CPost w (Dk.encN n)) := by
  have := enc_C A c (Dk.cvN n) w shW shW_max h (okV_n hb)
  rw [bl_shW, (Dk.eE_n hb).1, (Dk.eE_n hb).2] at this
  exact this
theorem frmn_C {n : Nt} (hb : BoundN n) (A : Option Addr) (k c : Nat) (w : World) (h : RR w bcl 1 A k c (Dk.encN n)) : Calls Try.prog 56 #[.slice A k c] w (MPost w (Dk.byN n)) := by
  have := frame_C A k c (Dk.encN n) w h
  rw [(frm_n hb).1, (frm_n hb).2] at this
  exact this
theorem EPost.no {w : World} {n : Nt} {w' : World} (h : ¬ RightN n) (hl : Below w.heap.size w w') : EPost w n (.returned (.tuple #[.slice none 0 0, .int .i64 2])) w' := by
  obtain ⟨e1, e2⟩ := bNt_no h
  exact ⟨none, 0, none, by rw [e1, e2]; rfl, by rw [e2]; exact SO.nil _ _ _ _ _, hl⟩
set_option maxRecDepth 100000 in
set_option maxHeartbeats 4000000 in
theorem values_c (k b t e v q f g m : Nat) (cg : ByteArray) (w : World) (hb : k ≤ 5 ∧ b < 8 ∧ t < 1000 ∧ e ≤ 1048576 ∧ v ≤ 2 ∧ q ≤ 4 ∧ f < 8 ∧ g < 8 ∧ m ≤ 1048576) : Calls Try.prog 55 #[.agg (ntA ⟨(k : Int), (b : Int), (t : Int), (e : Int), (v : Int), (q : Int), (f : Int), (g : Int), (m : Int), cg⟩)] w fun zz w' => ∃ g0, zz = .returned (.slice (some ⟨g0, 0, none⟩) 10 10) ∧ CB w' g0 142 (rc vcl (Dk.cvN ⟨(k : Int), (b : Int), (t : Int), (e : Int), (v : Int), (q : Int), (f : Int), (g : Int), (m : Int), cg⟩)).toArray ∧ w.heap.size ≤ g0 ∧ Below w.heap.size w w' := by
  have zk : IntKind.u64.wrap (k : Int) = (k : Int) := IntWalk.u64_in _ (by omega)
  have zb : IntKind.u64.wrap (b : Int) = (b : Int) := IntWalk.u64_in _ (by omega)
  have zt : IntKind.u64.wrap (t : Int) = (t : Int) := IntWalk.u64_in _ (by omega)
  have ze : IntKind.u64.wrap (e : Int) = (e : Int) := IntWalk.u64_in _ (by omega)
  have zv : IntKind.u64.wrap (v : Int) = (v : Int) := IntWalk.u64_in _ (by omega)
  have zq : IntKind.u64.wrap (q : Int) = (q : Int) := IntWalk.u64_in _ (by omega)
  have zf : IntKind.u64.wrap (f : Int) = (f : Int) := IntWalk.u64_in _ (by omega)
  have zg : IntKind.u64.wrap (g : Int) = (g : Int) := IntWalk.u64_in _ (by omega)
  have zm : IntKind.u64.wrap (m : Int) = (m : Int) := IntWalk.u64_in _ (by omega)
  clear hb
  go_enter Try.func55, Try.ntmps55
  go_wp2_with (first | ((with_reducible refine st_box 81 _ (ntA ⟨(k : Int), (b : Int), (t : Int), (e : Int), (v : Int), (q : Int), (f : Int), (g : Int), (m : Int), cg⟩) ?_ ?_); exact rfl))
  refine ⟨fun V1 g1 n1 f1 => ?_⟩
  have up1 : w.heap.size ≤ g1 := Nat.le_of_eq f1.at_
  have bl1 := f1.bel
  clear f1
  have l3 := le_tr (Below.refl _ _) bl1
  clear bl1
  have c4 : V1.cell? ⟨g1, 0, none⟩ = some (.int .i64 (k : Int)) := CB.cell n1 0
  have c5 : V1.cell? ⟨g1, 1, none⟩ = some (.int .u8 (b : Int)) := CB.cell n1 1
  have c6 : V1.cell? ⟨g1, 2, none⟩ = some (.int .i64 (t : Int)) := CB.cell n1 2
  have c7 : V1.cell? ⟨g1, 3, none⟩ = some (.int .i64 (e : Int)) := CB.cell n1 3
  have c8 : V1.cell? ⟨g1, 4, none⟩ = some (.int .i64 (v : Int)) := CB.cell n1 4
  have c9 : V1.cell? ⟨g1, 5, none⟩ = some (.int .i64 (q : Int)) := CB.cell n1 5
  have c10 : V1.cell? ⟨g1, 6, none⟩ = some (.int .u8 (f : Int)) := CB.cell n1 6
  have c11 : V1.cell? ⟨g1, 7, none⟩ = some (.int .u8 (g : Int)) := CB.cell n1 7
  have c12 : V1.cell? ⟨g1, 8, none⟩ = some (.int .i64 (m : Int)) := CB.cell n1 8
  have c13 : V1.cell? ⟨g1, 9, none⟩ = some (.string cg) := CB.cell n1 9
  go_wp2_with (first | ((with_reducible refine st_lits10 123 142 (rc vcl [⟨k, ⟨#[]⟩⟩, ⟨b, ⟨#[]⟩⟩, ⟨t, ⟨#[]⟩⟩, ⟨e, ⟨#[]⟩⟩, ⟨v, ⟨#[]⟩⟩, ⟨q, ⟨#[]⟩⟩, ⟨f, ⟨#[]⟩⟩, ⟨g, ⟨#[]⟩⟩, ⟨m, ⟨#[]⟩⟩, ⟨0, cg⟩]).toArray (v0 := .agg (vcl ⟨k, ⟨#[]⟩⟩).toArray) (v1 := .agg (vcl ⟨b, ⟨#[]⟩⟩).toArray) (v2 := .agg (vcl ⟨t, ⟨#[]⟩⟩).toArray) (v3 := .agg (vcl ⟨e, ⟨#[]⟩⟩).toArray) (v4 := .agg (vcl ⟨v, ⟨#[]⟩⟩).toArray) (v5 := .agg (vcl ⟨q, ⟨#[]⟩⟩).toArray) (v6 := .agg (vcl ⟨f, ⟨#[]⟩⟩).toArray) (v7 := .agg (vcl ⟨g, ⟨#[]⟩⟩).toArray) (v8 := .agg (vcl ⟨m, ⟨#[]⟩⟩).toArray) (v9 := .agg (vcl ⟨0, cg⟩).toArray) ?_ ?_ ?_ ?_ ?_ ?_ ?_ ?_ ?_ ?_  Try.underlying123 lit_zc (by decide) (by decide) (fill_vals ⟨k, ⟨#[]⟩⟩ ⟨b, ⟨#[]⟩⟩ ⟨t, ⟨#[]⟩⟩ ⟨e, ⟨#[]⟩⟩ ⟨v, ⟨#[]⟩⟩ ⟨q, ⟨#[]⟩⟩ ⟨f, ⟨#[]⟩⟩ ⟨g, ⟨#[]⟩⟩ ⟨m, ⟨#[]⟩⟩ ⟨0, cg⟩) ?_); exact rfl; exact rfl; exact rfl; exact rfl; exact rfl; exact rfl; exact rfl; exact rfl; exact rfl; exact rfl))
  refine ⟨fun V14 g14 n14 f14 => ?_⟩
  clear c4 c5 c6 c7 c8 c9 c10 c11 c12 c13
  have ne14_n := f14.ne n1
  have up14 : w.heap.size ≤ g14 := f14.up l3
  have bl14 := f14.bel
  clear f14
  have r16_n := le_on n1 bl14
  have l16 := le_tr l3 bl14
  clear n1 l3
  clear bl14
  go_wp2_with fail
  go_ret
  exact ⟨g14, rfl, n14, up14, l16⟩
end Go.Proofs.Ytcfdfimkgehdfaa

/-
  Layer 17: Encode of package note. Condition: the bytes are in their type's range.
-/
set_option linter.unusedVariables false
set_option linter.unusedSimpArgs false
namespace Go.Proofs.Ytcfdfimkgehdfaa
open Go.RowKit
open Dk (Nt InN RightN BoundN MsgN NoMsg KindN EpN bound_n)


set_option maxRecDepth 100000 in
set_option maxHeartbeats 4000000 in
theorem encode_c (n : Nt) (w : World) (hi : InN n) : Calls Try.prog 28 #[.agg (ntA n)] w (EPost w n) := by
  have C1 := fun W => right_c n W
  by_cases hr : RightN n
  rotate_left
  · have q0 : decide (RightN n) = false := decide_eq_false hr
    have HR := Lib.hid hr
    clear hr
    simp only [q0] at C1
    go_enter Try.func28, Try.ntmps28
    go_wp2_with (first | ((with_reducible refine st_box 81 _ (ntA n) ?_ ?_); exact rfl))
    refine ⟨fun V1 g1 n1 f1 => ?_⟩
    have up1 : w.heap.size ≤ g1 := Nat.le_of_eq f1.at_
    have bl1 := f1.bel
    clear f1
    have l3 := le_tr (Below.refl _ _) bl1
    clear bl1
    go_wp2_with (first | (first | ((with_reducible refine st_load 81 _ g1 ?_ n1 Try.underlying81 ?_ ?_ ?_); exact rfl; exact rfl; exact Try.zNc) | ((with_reducible refine st_loadG 81 _ g1 ?_ n1 Try.underlying81 ?_ ?_ ?_ ?_); exact rfl; exact rfl; exact Try.zNc; exact rfl)))
    (with_reducible refine (C1 _).mono ?_)
    rintro e w4 ⟨rfl, b4⟩
    have r6_n := le_on n1 b4
    have l6 := le_tr l3 b4
    clear n1 l3
    clear b4
    go_wp2_with fail
    exact bodyPost_ret (v := .tuple #[.slice none 0 0, .int .i64 2]) (by simp [results, Try.results28, go_sem]) rfl (EPost.no HR.out l6)
  have q0 : decide (RightN n) = true := decide_eq_true hr
  simp only [q0] at C1
  have hb := bound_n hi hr
  have HR := Lib.hid hr
  have HB := Lib.hid hb
  obtain ⟨k, b, t, e, v, q, f, g, m, en, hx⟩ := nat_n hb
  generalize n.cg = cg at en
  have C2 := fun W => values_c k b t e v q f g m cg W hx
  rw [← en] at C2
  clear hb hr hx en hi
  go_enter Try.func28, Try.ntmps28
  go_wp2_with (first | ((with_reducible refine st_box 81 _ (ntA n) ?_ ?_); exact rfl))
  refine ⟨fun V1 g1 n1 f1 => ?_⟩
  have up1 : w.heap.size ≤ g1 := Nat.le_of_eq f1.at_
  have bl1 := f1.bel
  clear f1
  have l3 := le_tr (Below.refl _ _) bl1
  clear bl1
  go_wp2_with (first | (first | ((with_reducible refine st_load 81 _ g1 ?_ n1 Try.underlying81 ?_ ?_ ?_); exact rfl; exact rfl; exact Try.zNc) | ((with_reducible refine st_loadG 81 _ g1 ?_ n1 Try.underlying81 ?_ ?_ ?_ ?_); exact rfl; exact rfl; exact Try.zNc; exact rfl)))
  (with_reducible refine (C1 _).mono ?_)
  rintro e w4 ⟨rfl, b4⟩
  have r6_n := le_on n1 b4
  have l6 := le_tr l3 b4
  clear n1 l3
  clear b4
  go_wp2_with (first | (first | ((with_reducible refine st_load 81 _ g1 ?_ r6_n Try.underlying81 ?_ ?_ ?_); exact rfl; exact rfl; exact Try.zNc) | ((with_reducible refine st_loadG 81 _ g1 ?_ r6_n Try.underlying81 ?_ ?_ ?_ ?_); exact rfl; exact rfl; exact Try.zNc; exact rfl)))
  (with_reducible refine (C2 _).mono ?_)
  rintro e w7 ⟨g2, rfl, c2, u2, b7⟩
  have r9_n := le_on r6_n b7
  have l9 := le_tr l6 b7
  clear r6_n l6
  clear b7
  have o2 : RR w7 vcl 2 (some ⟨g2, 0, none⟩) 10 10 (Dk.cvN n) := (RR.of_cb (L := Dk.cvN n) (n := 10) c2 rfl (by decide)).rr
  clear c2
  go_wp2_with fail
  (with_reducible refine (encn_C HB.out _ _ _ o2).mono ?_)
  rintro e w10 ⟨A3, n3, q3, rfl, h3, b10⟩
  have r12_n := le_on r9_n b10
  have l12 := le_tr l9 b10
  clear r9_n l9
  clear b10
  clear o2
  go_wp2_with fail
  have lz := Below.size (B := w.heap.size) l12
  (with_reducible refine (frmn_C HB.out _ _ _ _ h3).mono ?_)
  rintro e w13 ⟨A4, n4, q4, G4, rfl, h4, b13⟩
  have r15_n := le_on r12_n b13
  have l15 := le_tr l12 b13
  clear r12_n l12
  clear b13
  go_wp2_with fail
  exact bodyPost_ret (v := .tuple #[.slice A4 n4 q4, .int .i64 0]) (by simp [results, Try.results28, go_sem]) rfl (EPost.yes HR.out (SO.mono h4 lz) l15)
end Go.Proofs.Ytcfdfimkgehdfaa
