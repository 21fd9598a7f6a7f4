/-
  The law WholeTalk, walked. Conditions: the texts and acts can be read, the acts are bytes.
-/
import Derived.Test.YtcfdfimkgehdfaaTkD
import Derived.Test.YtcfdfimkgehdfaaDzTopN
import Derived.Deep.LoopGhost
import Derived.Lib.MinMax
set_option linter.unusedVariables false
set_option linter.unusedSimpArgs false
namespace Go.Proofs.Ytcfdfimkgehdfaa
open Go.RowKit

def ptN (_ : Unit) : Array Value := #[.pointer none]
theorem st_alloc_p {P : Program} {ops : Array Oper} {rest : List Oper} {dst : Option Tmp} {ty : TypeId} {pos : String} {aft : Array Edge} {a : Act} {w : World} {Q : Exit → Act → World → Prop} (T : TypeId) (hz : ∀ V : World, (zeroValue T).run P V = .ok (.pointer none) V)
    (k : Sh (∀ V g, CB V g T #[.pointer none] → Fr w V g → wpList P ops Q rest (a.put dst (.pointer (some ⟨g, 0, none⟩))) V)) : wpList P ops Q (⟨dst, .alloc T, ty, pos, aft, none⟩ :: rest) a w := by
  refine wpList_plain rfl fun K hK => ?_
  unfold Oper.wp execOp
  simp only [Instr.alloc, hz, Sem.run_bind, newVar, newRow, run_newObj_alloc, Sem.run_pure, Result.andThen_ok]
  exact hK _ _ (k.out _ _ (CB.new w T #[.pointer none]) ⟨rfl, le_al _ _⟩)
theorem st_alloc_s {P : Program} {ops : Array Oper} {rest : List Oper} {dst : Option Tmp} {ty : TypeId} {pos : String} {aft : Array Edge} {a : Act} {w : World} {Q : Exit → Act → World → Prop} (T : TypeId) (hz : ∀ V : World, (zeroValue T).run P V = .ok (.slice none 0 0) V)
    (k : Sh (∀ V g, CB V g T #[.slice none 0 0] → Fr w V g → wpList P ops Q rest (a.put dst (.pointer (some ⟨g, 0, none⟩))) V)) : wpList P ops Q (⟨dst, .alloc T, ty, pos, aft, none⟩ :: rest) a w := by
  refine wpList_plain rfl fun K hK => ?_
  unfold Oper.wp execOp
  simp only [Instr.alloc, hz, Sem.run_bind, newVar, newRow, run_newObj_alloc, Sem.run_pure, Result.andThen_ok]
  exact hK _ _ (k.out _ _ (CB.new w T #[.slice none 0 0]) ⟨rfl, le_al _ _⟩)

theorem zero_pa (V : World) : (zeroValue 24).run Try.prog V = .ok (.pointer none) V := Try.zeroValue24 V
theorem zero_ss (V : World) : (zeroValue 61).run Try.prog V = .ok (.slice none 0 0) V := Try.zeroValue61 V
theorem q_cons {Q : Qs} {e : Nat} {l : Lt} {r : List Lt} (he : e < 17) (h : Q e = l :: r) : ((eAt Q e 0 : Nat) : Int) = 0 ∧ xTk Q e 0 = l ∧ sTk Q e 0 e = r := by
  have h0 : eAt Q e 0 = 0 := by unfold eAt; rw [if_neg (by omega), if_pos]; rw [h]; simp
  have hx := xTk_at h0
  rw [h] at hx
  refine ⟨by rw [h0]; rfl, ?_, ?_⟩
  · simpa using hx.symm
  · unfold sTk
    rw [if_pos h0, updQ_same, h]
    rfl
set_option maxRecDepth 100000 in
set_option maxHeartbeats 16000000 in
theorem talk_walk (A A2 : Option Addr) (n c n2 c2 : Nat) (L : List ByteArray) (L2 : List Nat) (w : World) (h : RR w scl 1 A n c L) (h2 : RR w ucl 1 A2 n2 c2 L2) (hbd : ∀ x ∈ L2, x < 256) : Calls Try.prog 9 #[.slice A n c, .slice A2 n2 c2] w fun e w' => e = .returned (.bool true) ∧ Below w.heap.size w w' := by
  have hl := RL.start h
  have h2l := RL.start h2
  have hmx := hl.max
  have hmx2 := h2l.max
  have HB := Lib.hid hbd
  clear h h2 hbd
  by_cases h6 : n ≤ 60
  rotate_left
  · skip
    have q1 : decide ((60 : Int) < (n : Int)) = true := by simp; omega
    have q1' : decide ((n : Int) > (60 : Int)) = true := by simp; omega
    go_enter Try.func9, Try.ntmps9
    go_wp2_with fail
    (with_reducible refine (Dz.works_c _).mono ?_)
    rintro e w1 ⟨rfl, b1⟩
    have r4_l := (hl).on b1
    have r4_ac := (h2l).on b1
    have l4 := le_tr (Below.refl _ _) b1
    clear hl h2l
    clear b1
    go_wp2_with fail
    go_ret
    exact ⟨rfl, l4⟩
  have q1 : decide ((60 : Int) < (n : Int)) = false := by simp; omega
  have q1' : decide ((n : Int) > (60 : Int)) = false := by simp; omega
  by_cases h3 : n2 ≤ 300
  rotate_left
  · skip
    have q2 : decide ((300 : Int) < (n2 : Int)) = true := by simp; omega
    have q2' : decide ((n2 : Int) > (300 : Int)) = true := by simp; omega
    go_enter Try.func9, Try.ntmps9
    go_wp2_with fail
    (with_reducible refine (Dz.works_c _).mono ?_)
    rintro e w1 ⟨rfl, b1⟩
    have r4_l := (hl).on b1
    have r4_ac := (h2l).on b1
    have l4 := le_tr (Below.refl _ _) b1
    clear hl h2l
    clear b1
    go_wp2_with fail
    go_ret
    exact ⟨rfl, l4⟩
  have q2 : decide ((300 : Int) < (n2 : Int)) = false := by simp; omega
  have q2' : decide ((n2 : Int) > (300 : Int)) = false := by simp; omega
  go_enter Try.func9, Try.ntmps9
  go_wp2_with fail
  (with_reducible refine (Dz.works_c _).mono ?_)
  rintro e w1 ⟨rfl, b1⟩
  have r4_l := (hl).on b1
  have r4_ac := (h2l).on b1
  have l4 := le_tr (Below.refl _ _) b1
  clear hl h2l
  clear b1
  go_wp2_with fail
  have cn5 := anew_c (1000 : Int) w1
  (with_reducible refine cn5.mono ?_)
  clear cn5
  intro e w5 hp5
  obtain ⟨ba5, S5, rfl, ao5, h05, bl5⟩ := NPost.yes (r := 1000) (by omega) (by omega) hp5
  clear hp5
  have hi5 : ∀ i, S5 i → w.heap.size ≤ i := fun i e => Nat.le_trans (l4).size (h05 i e)
  clear h05
  have r8_l := (r4_l).on bl5
  have r8_ac := (r4_ac).on bl5
  have l8 := le_tr l4 bl5
  clear r4_l r4_ac l4
  clear bl5
  go_wp2_with (first | ((with_reducible refine st_alloc_p 24 ?_ ?_); exact zero_pa))
  refine ⟨fun V9 g9 n9 f9 => ?_⟩
  have nn9_oa := ao5.fresh (Nat.le_of_eq f9.at_)
  have up9 : w.heap.size ≤ g9 := f9.up l8
  have bl9 := f9.bel
  clear f9
  have r10_oa := ao5.on bl9
  have r12_l := (r8_l).on bl9
  have r12_ac := (r8_ac).on bl9
  have l12 := le_tr l8 bl9
  clear r8_l r8_ac l8
  clear ao5
  clear bl9
  go_wp2_with (first | ((with_reducible refine st_cell 24 _ _ g9 0 (.pointer (some ⟨ba5, 0, none⟩)) ?_ ?_ n9 (new := ptA ba5) ?_ ?_ ?_ ?_ ?_ ?_); exact rfl; exact rfl; exact (by show 0 < 1; decide); exact rfl; exact one_pa; exact rfl; exact rfl))
  refine ⟨fun V13 n13 k13 => ?_⟩
  have m13_l := (r12_l).wr k13 up9
  have m13_ac := (r12_ac).wr k13 up9
  have m13_oa := r10_oa.wr k13 nn9_oa
  have o13 := k13.bel _ _ l12 up9
  clear k13
  clear n9 r12_l r12_ac r10_oa l12
  go_wp2_with (first | ((with_reducible refine st_builtn 64 2 _ (.int .i64 100) (oA ⟨0, none, 0, 0, 100⟩) ?_ ?_ ?_); exact rfl; exact built_or _) | ((with_reducible refine st_built0 66 (hA 0) ?_ ?_); exact built_i0) | ((with_reducible refine st_alloc 64 (oA zeroO) ?_ ?_); exact zero_ou))
  refine ⟨fun V14 g14 n14 f14 => ?_⟩
  have ne14_a := f14.ne n13
  have nn14_oa := m13_oa.fresh (Nat.le_of_eq f14.at_)
  have up14 : w.heap.size ≤ g14 := f14.up o13
  have bl14 := f14.bel
  clear f14
  have r15_oa := m13_oa.on bl14
  have r17_a := le_on n13 bl14
  have r17_l := (m13_l).on bl14
  have r17_ac := (m13_ac).on bl14
  have l17 := le_tr o13 bl14
  clear n13 m13_l m13_ac o13
  clear m13_oa
  clear bl14
  go_wp2_with (first | ((with_reducible refine st_alloc 66 (hA (0)) ?_ ?_); exact zero_in))
  refine ⟨fun V18 g18 n18 f18 => ?_⟩
  have ne18_a := f18.ne r17_a
  have ne18_o := f18.ne n14
  have nn18_oa := r15_oa.fresh (Nat.le_of_eq f18.at_)
  have up18 : w.heap.size ≤ g18 := f18.up l17
  have bl18 := f18.bel
  clear f18
  have r19_oa := r15_oa.on bl18
  have r21_a := le_on r17_a bl18
  have r21_o := le_on n14 bl18
  have r21_l := (r17_l).on bl18
  have r21_ac := (r17_ac).on bl18
  have l21 := le_tr l17 bl18
  clear r17_a n14 r17_l r17_ac l17
  clear r15_oa
  clear bl18
  go_wp2_with (first | ((with_reducible refine st_store 64 _ _ g14 (oA ⟨0, none, 0, 0, 100⟩) ?_ ?_ r21_o ?_ ?_ ?_ ?_); exact rfl; exact rfl; exact Try.zOu; exact rfl; exact oA_one _))
  refine ⟨fun V22 n22 k22 => ?_⟩
  have m22_a := k22.on r21_a ne14_a
  have m22_i := k22.on n18 (Ne.symm ne18_o)
  have m22_l := (r21_l).wr k22 up14
  have m22_ac := (r21_ac).wr k22 up14
  have m22_oa := r19_oa.wr k22 nn14_oa
  have o22 := k22.bel _ _ l21 up14
  clear k22
  clear r21_o r21_a n18 r21_l r21_ac r19_oa l21
  go_wp2_with (first | ((with_reducible refine st_store 66 _ _ g18 (hA (0)) ?_ ?_ m22_i ?_ ?_ ?_ ?_); exact rfl; exact rfl; exact Try.zIn; exact rfl; exact hA_one _))
  refine ⟨fun V23 n23 k23 => ?_⟩
  have m23_a := k23.on m22_a ne18_a
  have m23_o := k23.on n22 ne18_o
  have m23_l := (m22_l).wr k23 up18
  have m23_ac := (m22_ac).wr k23 up18
  have m23_oa := m22_oa.wr k23 nn18_oa
  have o23 := k23.bel _ _ o22 up18
  clear k23
  clear m22_i m22_a n22 m22_l m22_ac m22_oa o22
  have c24 : V23.cell? ⟨g9, 0, none⟩ = some (.pointer (some ⟨ba5, 0, none⟩)) := CB.cell m23_a 0
  go_wp2_with (first | ((with_reducible refine st_alloc_s 61 ?_ ?_); exact zero_ss))
  refine ⟨fun V25 g25 n25 f25 => ?_⟩
  clear c24
  have ne25_a := f25.ne m23_a
  have ne25_o := f25.ne m23_o
  have ne25_i := f25.ne n23
  have nn25_oa := m23_oa.fresh (Nat.le_of_eq f25.at_)
  have up25 : w.heap.size ≤ g25 := f25.up o23
  have bl25 := f25.bel
  clear f25
  have r26_oa := m23_oa.on bl25
  have r28_a := le_on m23_a bl25
  have r28_o := le_on m23_o bl25
  have r28_i := le_on n23 bl25
  have r28_l := (m23_l).on bl25
  have r28_ac := (m23_ac).on bl25
  have l28 := le_tr o23 bl25
  clear m23_a m23_o n23 m23_l m23_ac o23
  clear m23_oa
  clear bl25
  go_wp2_with fail
  go_loopw [8, 51] (fun sv iv wr => ∃ (k : Nat) (S0 : List ByteArray) (Sa : Nat → Prop) (Q : Qs) (As : Option Addr) (ns cs : Nat) (Gs : Option Nat) (Aw : Option Addr) (nw cw : Nat) (Gw : Option Nat), k ≤ n ∧ iv = .int .i64 k ∧ sv = .slice As ns cs ∧ Hid (S0.length ≤ k) ∧ Hid (∀ t ∈ S0, t.size ≤ 100) ∧ Hid (GQ S0 Q) ∧ AO Sa ba5 1000 Q wr ∧ (∀ i, Sa i → w.heap.size ≤ i) ∧ ¬ Sa g9 ∧ ¬ Sa g14 ∧ ¬ Sa g18 ∧ ¬ Sa g25 ∧ SO w.heap.size wr 9 scl 1 As ns cs S0 Gs ∧ SO w.heap.size wr 70 pcl 2 Aw nw cw (pkF S0 0) Gw ∧ (∀ g, Gs = some g → ¬ Sa g) ∧ (∀ g, Gw = some g → ¬ Sa g) ∧ CB wr g9 24 (ptA ba5) ∧ CB wr g14 64 (oA ⟨(S0.length : Int), Aw, nw, cw, 100⟩) ∧ CB wr g18 66 (hA 0) ∧ CB wr g25 61 (hdA none 0 0) ∧ RL w wr scl 1 A n c L ∧ RL w wr ucl 1 A2 n2 c2 L2 ∧ Below w.heap.size w wr) (fun _ iv _ => n - (intOf iv).toNat)
  case atStart => exact ⟨0, [], _, _, none, 0, 0, none, none, 0, 0, none, by omega, rfl, rfl, Lib.hid (Nat.le_refl _), Lib.hid (fun t e => by cases e), Lib.hid GQ.nil, r26_oa, hi5, nn9_oa, nn14_oa, nn18_oa, nn25_oa, SO.nil _ _ _ _ _, SO.nil _ _ _ _ _, (fun g e => by cases e), (fun g e => by cases e), r28_a, r28_o, r28_i, n25, r28_l, r28_ac, l28⟩
  case round =>
    clear r26_oa hi5 nn9_oa nn14_oa nn18_oa nn25_oa r28_a r28_o r28_i n25 r28_l r28_ac l28
    obtain ⟨k, S0, Sa, Q, As, ns, cs, Gs, Aw, nw, cw, Gw, hkn, rfl, rfl, HL, HS, HQ, ha, hi, na, no, ni, nt, hss, hsw, sa, wa, ca, co, ci, ct, hl, hac, hw⟩ := hrel
    have HNS := Lib.hid hss.len
    have HNW := Lib.hid (show S0.length - 0 = nw by have := hsw.len; rw [pkF_len] at this; exact this)
    by_cases hlt : k < n
    · skip
      have no_said_a := SO.noT hss ca (by decide)
      have no_said_o := SO.noT hss co (by decide)
      have no_said_i := SO.noT hss ci (by decide)
      have no_said_t := SO.noT hss ct (by decide)
      have no_wait_a := SO.noT hsw ca (by decide)
      have no_wait_o := SO.noT hsw co (by decide)
      have no_wait_i := SO.noT hsw ci (by decide)
      have no_wait_t := SO.noT hsw ct (by decide)
      have nb_a_o : g9 ≠ g14 := CB.ne_ ca co (by decide)
      have nb_a_i : g9 ≠ g18 := CB.ne_ ca ci (by decide)
      have nb_a_t : g9 ≠ g25 := CB.ne_ ca ct (by decide)
      have nb_o_a : g14 ≠ g9 := CB.ne_ co ca (by decide)
      have nb_o_i : g14 ≠ g18 := CB.ne_ co ci (by decide)
      have nb_o_t : g14 ≠ g25 := CB.ne_ co ct (by decide)
      have nb_i_a : g18 ≠ g9 := CB.ne_ ci ca (by decide)
      have nb_i_o : g18 ≠ g14 := CB.ne_ ci co (by decide)
      have nb_i_t : g18 ≠ g25 := CB.ne_ ci ct (by decide)
      have nb_t_a : g25 ≠ g9 := CB.ne_ ct ca (by decide)
      have nb_t_o : g25 ≠ g14 := CB.ne_ ct co (by decide)
      have nb_t_i : g25 ≠ g18 := CB.ne_ ct ci (by decide)
      have l1 : (k : Int) < n := by omega
      have l2 : (0 : Int) ≤ (k : Int) := by omega
      obtain ⟨gl, ol, s, hsk, hAl, cel⟩ := RR.one (f := fun s : ByteArray => Value.string s) hl.rr (fun _ => rfl) hlt
      subst hAl
      by_cases hs : s.size ≤ 100
      rotate_left
      · skip
        have q5 : decide ((100 : Int) < (s.size : Int)) = true := by simp; omega
        have q5' : decide ((s.size : Int) > (100 : Int)) = true := by simp; omega
        go_wp2_with fail
        go_roundw
        case rel => exact ⟨k + 1, S0, Sa, Q, As, ns, cs, Gs, Aw, nw, cw, Gw, by omega, by go_num, rfl, Lib.hid (Nat.le_succ_of_le HL.out), HS, HQ, ha, hi, na, no, ni, nt, hss, hsw, sa, wa, ca, co, ci, ct, hl, hac, hw⟩
        case measure => simp [intOf]; omega
      have q5 : decide ((100 : Int) < (s.size : Int)) = false := by simp; omega
      have q5' : decide ((s.size : Int) > (100 : Int)) = false := by simp; omega
      have hR : RightO ⟨(S0.length : Int), pkF S0 0, 100⟩ := pkF_right (Nat.zero_le _) (fun t e => Nat.le_trans (HS.out t e) (by decide)) (by omega) (by have := HL.out; omega) (by have := HL.out; omega)
      have hl0 : S0.length < 60 := by have := HL.out; omega
      have hnw2 : (nw : Int) < 100 := by have := HNW.out; omega
      have hnx : (S0.length : Int) < 1048576 := by omega
      have HQ2 := Lib.hid (GQ.snd (GQ.more HQ.out s) (k := S0.length) (s := s) (by simp) 1000)
      have HS2 := Lib.hid (show ∀ t ∈ S0 ++ [s], t.size ≤ 100 from fun t e => by
        rcases List.mem_append.1 e with e | e
        · exact HS.out t e
        · simp at e; subst e; exact hs)
      have hln := Lib.hid (show (((S0 ++ [s]).length : Nat) : Int) = (S0.length : Int) + 1 by simp)
      have hpk := Lib.hid (show pkF S0 0 ++ [⟨(S0.length : Int), s⟩] = pkF (S0 ++ [s]) 0 from pkF_snoc (Nat.zero_le _) s)
      have hns9 : ns ≤ 60 := by have := HNS.out; omega
      go_wp2_with (first | (first | ((with_reducible refine st_load 64 _ g14 ?_ co Try.underlying64 ?_ ?_ ?_); exact rfl; exact rfl; exact Try.zOu) | ((with_reducible refine st_loadG 64 _ g14 ?_ co Try.underlying64 ?_ ?_ ?_ ?_); exact rfl; exact rfl; exact Try.zOu; exact rfl)))
      have la9 := ha.lt
      have lt201_a := CB.lt ca
      have lt201_o := CB.lt co
      have lt201_i := CB.lt ci
      have lt201_t := CB.lt ct
      have lb201 : w.heap.size ≤ wr.heap.size := Below.size (B := w.heap.size) hw
      (with_reducible refine (say_y (S0.length : Int) Aw nw cw (pkF S0 0) 100 s _ hsw.rr hR (by omega) hnx hnw2).mono ?_)
      rintro e w201 ⟨A7, c7, G7, rfl, h7, b201⟩
      have r202_oa := ha.on b201
      have r203_said := SO.on hss b201
      have r203_wait := SO.on hsw b201
      have r204_a := le_on ca b201
      have r204_o := le_on co b201
      have r204_i := le_on ci b201
      have r204_t := le_on ct b201
      have r204_l := (hl).on b201
      have r204_ac := (hac).on b201
      have l204 := le_tr hw b201
      clear ca co ci ct hl hac hw
      clear hss hsw
      clear ha
      clear b201
      have na205 := SO.above h7 lt201_a
      have na206 := SO.above h7 lt201_o
      have na207 := SO.above h7 lt201_i
      have na208 := SO.above h7 lt201_t
      have nw9 : ∀ g, G7 = some g → ¬ Sa g := fun g e e2 => by have := h7.hi g e; have := la9 g e2; omega
      have sm201_wait2 := SO.mono h7 lb201
      clear h7
      clear lb201 lt201_a lt201_o lt201_i lt201_t
      clear la9
      go_wp2_with (first | ((with_reducible refine st_alloc 64 (oA zeroO) ?_ ?_); exact zero_ou))
      refine ⟨fun V209 g209 n209 f209 => ?_⟩
      have ne209_a := f209.ne r204_a
      have ne209_o := f209.ne r204_o
      have ne209_i := f209.ne r204_i
      have ne209_t := f209.ne r204_t
      have no209_said := SO.fresh r203_said (Nat.le_of_eq f209.at_)
      have no209_wait := SO.fresh r203_wait (Nat.le_of_eq f209.at_)
      have no209_wait2 := SO.fresh sm201_wait2 (Nat.le_of_eq f209.at_)
      have nn209_oa := r202_oa.fresh (Nat.le_of_eq f209.at_)
      have up209 : w.heap.size ≤ g209 := f209.up l204
      have bl209 := f209.bel
      clear f209
      have r210_oa := r202_oa.on bl209
      have r211_said := SO.on r203_said bl209
      have r211_wait := SO.on r203_wait bl209
      have r211_wait2 := SO.on sm201_wait2 bl209
      have r212_a := le_on r204_a bl209
      have r212_o := le_on r204_o bl209
      have r212_i := le_on r204_i bl209
      have r212_t := le_on r204_t bl209
      have r212_l := (r204_l).on bl209
      have r212_ac := (r204_ac).on bl209
      have l212 := le_tr l204 bl209
      clear r204_a r204_o r204_i r204_t r204_l r204_ac l204
      clear r203_said r203_wait sm201_wait2
      clear r202_oa
      clear bl209
      go_wp2_with (first | ((with_reducible refine st_alloc 70 (pA zeroP) ?_ ?_); exact zero_pk))
      refine ⟨fun V213 g213 n213 f213 => ?_⟩
      have ne213_a := f213.ne r212_a
      have ne213_o := f213.ne r212_o
      have ne213_i := f213.ne r212_i
      have ne213_t := f213.ne r212_t
      have ne213_nx := f213.ne n209
      have no213_said := SO.fresh r211_said (Nat.le_of_eq f213.at_)
      have no213_wait := SO.fresh r211_wait (Nat.le_of_eq f213.at_)
      have no213_wait2 := SO.fresh r211_wait2 (Nat.le_of_eq f213.at_)
      have nn213_oa := r210_oa.fresh (Nat.le_of_eq f213.at_)
      have up213 : w.heap.size ≤ g213 := f213.up l212
      have bl213 := f213.bel
      clear f213
      have r214_oa := r210_oa.on bl213
      have r215_said := SO.on r211_said bl213
      have r215_wait := SO.on r211_wait bl213
      have r215_wait2 := SO.on r211_wait2 bl213
      have r216_a := le_on r212_a bl213
      have r216_o := le_on r212_o bl213
      have r216_i := le_on r212_i bl213
      have r216_t := le_on r212_t bl213
      have r216_nx := le_on n209 bl213
      have r216_l := (r212_l).on bl213
      have r216_ac := (r212_ac).on bl213
      have l216 := le_tr l212 bl213
      clear r212_a r212_o r212_i r212_t n209 r212_l r212_ac l212
      clear r211_said r211_wait r211_wait2
      clear r210_oa
      clear bl213
      go_wp2_with (first | ((with_reducible refine st_store 64 _ _ g209 (oA ⟨(S0.length : Int) + 1, A7, nw + 1, c7, 100⟩) ?_ ?_ r216_nx ?_ ?_ ?_ ?_); exact rfl; exact rfl; exact Try.zOu; exact rfl; exact oA_one _))
      refine ⟨fun V217 n217 k217 => ?_⟩
      have m217_a := k217.on r216_a ne209_a
      have m217_o := k217.on r216_o ne209_o
      have m217_i := k217.on r216_i ne209_i
      have m217_t := k217.on r216_t ne209_t
      have m217_p := k217.on n213 (Ne.symm ne213_nx)
      have m217_l := (r216_l).wr k217 up209
      have m217_ac := (r216_ac).wr k217 up209
      have m217_said := SO.wr r215_said k217 no209_said
      have m217_wait := SO.wr r215_wait k217 no209_wait
      have m217_wait2 := SO.wr r215_wait2 k217 no209_wait2
      have m217_oa := r214_oa.wr k217 nn209_oa
      have o217 := k217.bel _ _ l216 up209
      clear k217
      clear r216_nx r216_a r216_o r216_i r216_t n213 r216_l r216_ac r215_said r215_wait r215_wait2 r214_oa l216
      go_wp2_with (first | ((with_reducible refine st_store 70 _ _ g213 (pA ⟨(S0.length : Int), s⟩) ?_ ?_ m217_p ?_ ?_ ?_ ?_); exact rfl; exact rfl; exact Try.zPk; exact rfl; exact pA_one _))
      refine ⟨fun V218 n218 k218 => ?_⟩
      have m218_a := k218.on m217_a ne213_a
      have m218_o := k218.on m217_o ne213_o
      have m218_i := k218.on m217_i ne213_i
      have m218_t := k218.on m217_t ne213_t
      have m218_nx := k218.on n217 ne213_nx
      have m218_l := (m217_l).wr k218 up213
      have m218_ac := (m217_ac).wr k218 up213
      have m218_said := SO.wr m217_said k218 no213_said
      have m218_wait := SO.wr m217_wait k218 no213_wait
      have m218_wait2 := SO.wr m217_wait2 k218 no213_wait2
      have m218_oa := m217_oa.wr k218 nn213_oa
      have o218 := k218.bel _ _ o217 up213
      clear k218
      clear m217_p m217_a m217_o m217_i m217_t n217 m217_l m217_ac m217_said m217_wait m217_wait2 m217_oa o217
      go_wp2_with (first | (first | ((with_reducible refine st_load 64 _ g209 ?_ m218_nx Try.underlying64 ?_ ?_ ?_); exact rfl; exact rfl; exact Try.zOu) | ((with_reducible refine st_loadG 64 _ g209 ?_ m218_nx Try.underlying64 ?_ ?_ ?_ ?_); exact rfl; exact rfl; exact Try.zOu; exact rfl)) | ((with_reducible refine st_store 64 _ _ g14 (oA ⟨(S0.length : Int) + 1, A7, nw + 1, c7, 100⟩) ?_ ?_ m218_o ?_ ?_ ?_ ?_); exact rfl; exact rfl; exact Try.zOu; exact rfl; exact oA_one _))
      refine ⟨fun V219 n219 k219 => ?_⟩
      have m219_a := k219.on m218_a nb_a_o
      have m219_i := k219.on m218_i nb_i_o
      have m219_t := k219.on m218_t nb_t_o
      have m219_nx := k219.on m218_nx (Ne.symm ne209_o)
      have m219_p := k219.on n218 (Ne.symm ne213_o)
      have m219_l := (m218_l).wr k219 up14
      have m219_ac := (m218_ac).wr k219 up14
      have m219_said := SO.wr m218_said k219 no_said_o
      have m219_wait := SO.wr m218_wait k219 no_wait_o
      have m219_wait2 := SO.wr m218_wait2 k219 na206
      have m219_oa := m218_oa.wr k219 no
      have o219 := k219.bel _ _ o218 up14
      clear k219
      clear m218_o m218_a m218_i m218_t m218_nx n218 m218_l m218_ac m218_said m218_wait m218_wait2 m218_oa o218
      go_wp2_with (first | ((with_reducible refine st_litv 61 9 _ (.string s) (zsA s) ?_ rfl Try.underlying61 Try.infoS2 rfl (by decide) (by decide) ?_); exact rfl))
      refine ⟨fun V220 g220 n220 f220 => ?_⟩
      have ne220_a := f220.ne m219_a
      have ne220_o := f220.ne n219
      have ne220_i := f220.ne m219_i
      have ne220_t := f220.ne m219_t
      have ne220_nx := f220.ne m219_nx
      have ne220_p := f220.ne m219_p
      have no220_said := SO.fresh m219_said (Nat.le_of_eq f220.at_)
      have no220_wait := SO.fresh m219_wait (Nat.le_of_eq f220.at_)
      have no220_wait2 := SO.fresh m219_wait2 (Nat.le_of_eq f220.at_)
      have nn220_oa := m219_oa.fresh (Nat.le_of_eq f220.at_)
      have up220 : w.heap.size ≤ g220 := f220.up o219
      have bl220 := f220.bel
      clear f220
      have r221_oa := m219_oa.on bl220
      have r222_said := SO.on m219_said bl220
      have r222_wait := SO.on m219_wait bl220
      have r222_wait2 := SO.on m219_wait2 bl220
      have r223_a := le_on m219_a bl220
      have r223_o := le_on n219 bl220
      have r223_i := le_on m219_i bl220
      have r223_t := le_on m219_t bl220
      have r223_nx := le_on m219_nx bl220
      have r223_p := le_on m219_p bl220
      have r223_l := (m219_l).on bl220
      have r223_ac := (m219_ac).on bl220
      have l223 := le_tr o219 bl220
      clear m219_a n219 m219_i m219_t m219_nx m219_p m219_l m219_ac o219
      clear m219_said m219_wait m219_wait2
      clear m219_oa
      clear bl220
      go_wp2_with (first | ((with_reducible refine st_app (.tmp 68) (.tmp 70) 61 9 Try.underlying61 Try.infoS rfl (by decide) (A := As) (n := ns) (c := cs) (G := Gs) rfl r222_said.seg (As := (some ⟨g220, 0, none⟩)) (m := 1) (k := 1) rfl (Src.box n220 rfl) (all_list (zsA_one _)) (by simp only [maxLen]; omega) (by omega) (ns + 1) (by omega) ?_)))
      refine ⟨fun B224 m224 q224 w224 s224 h224 k224 => ?_⟩
      have s224 : Seg w224 9 1 B224 (ns + 1) m224 (rc scl (S0 ++ [s])) q224 := by rw [← rc_snoc]; exact s224
      have hg224 : ∀ g, Gs = some g → w.heap.size ≤ g := fun g e => r222_said.hi g e
      have so224 : SO w.heap.size w224 9 scl 1 B224 (ns + 1) m224 (S0 ++ [s]) q224 := ⟨s224, k224.ge (l223).size hg224⟩
      have e224_a := CB.same r223_a (h224.block _ (CB.lt r223_a) (fun e => no_said_a _ e.symm rfl))
      have na224_a := moved_ne k224 (CB.lt r223_a) no_said_a
      have e224_o := CB.same r223_o (h224.block _ (CB.lt r223_o) (fun e => no_said_o _ e.symm rfl))
      have na224_o := moved_ne k224 (CB.lt r223_o) no_said_o
      have e224_i := CB.same r223_i (h224.block _ (CB.lt r223_i) (fun e => no_said_i _ e.symm rfl))
      have na224_i := moved_ne k224 (CB.lt r223_i) no_said_i
      have e224_t := CB.same r223_t (h224.block _ (CB.lt r223_t) (fun e => no_said_t _ e.symm rfl))
      have na224_t := moved_ne k224 (CB.lt r223_t) no_said_t
      have e224_nx := CB.same r223_nx (h224.block _ (CB.lt r223_nx) (fun e => no209_said _ e.symm rfl))
      have na224_nx := moved_ne k224 (CB.lt r223_nx) no209_said
      have e224_p := CB.same r223_p (h224.block _ (CB.lt r223_p) (fun e => no213_said _ e.symm rfl))
      have na224_p := moved_ne k224 (CB.lt r223_p) no213_said
      have e224_z := CB.same n220 (h224.block _ (CB.lt n220) (fun e => no220_said _ e.symm rfl))
      have na224_z := moved_ne k224 (CB.lt n220) no220_said
      have e224_l := (r223_l).grow h224 hg224
      have e224_ac := (r223_ac).grow h224 hg224
      have e224_wait := SO.grow r222_wait h224 (SO.apT r222_wait r222_said (by decide))
      have e224_wait2 := SO.grow r222_wait2 h224 (SO.apT r222_wait2 r222_said (by decide))
      have lw224 := (l223).grown h224 (l223).size hg224
      have e224_oa := r221_oa.grow h224 sa
      have nm224_oa := moved_nf k224 r221_oa sa
      clear r221_oa sa
      clear h224 k224 s224 hg224 r222_said r223_a no_said_a r223_o no_said_o r223_i no_said_i r223_t no_said_t r223_nx no209_said r223_p no213_said n220 no220_said r223_l r223_ac r222_wait r222_wait2 l223
      go_wp2_with (first | (first | ((with_reducible refine st_load 70 _ g213 ?_ e224_p Try.underlying70 ?_ ?_ ?_); exact rfl; exact rfl; exact Try.zPk) | ((with_reducible refine st_loadG 70 _ g213 ?_ e224_p Try.underlying70 ?_ ?_ ?_ ?_); exact rfl; exact rfl; exact Try.zPk; exact rfl)))
      have cc225 := send_t _ _ _ S0.length _ s _ e224_a e224_oa na (by omega) hs
      (with_reducible refine cc225.mono ?_)
      clear cc225
      rintro e w225 ⟨rfl, S225, ao225, ou225, nw225⟩
      have q225_a := ou225.box e224_a na
      have no225_a : ¬ S225 g9 := fun e => (nw225 _ e).elim na (fun e => by have := CB.lt e224_a; omega)
      have q225_o := ou225.box e224_o no
      have no225_o : ¬ S225 g14 := fun e => (nw225 _ e).elim no (fun e => by have := CB.lt e224_o; omega)
      have q225_i := ou225.box e224_i ni
      have no225_i : ¬ S225 g18 := fun e => (nw225 _ e).elim ni (fun e => by have := CB.lt e224_i; omega)
      have q225_t := ou225.box e224_t nt
      have no225_t : ¬ S225 g25 := fun e => (nw225 _ e).elim nt (fun e => by have := CB.lt e224_t; omega)
      have q225_nx := ou225.box e224_nx nn209_oa
      have no225_nx : ¬ S225 g209 := fun e => (nw225 _ e).elim nn209_oa (fun e => by have := CB.lt e224_nx; omega)
      have q225_p := ou225.box e224_p nn213_oa
      have no225_p : ¬ S225 g213 := fun e => (nw225 _ e).elim nn213_oa (fun e => by have := CB.lt e224_p; omega)
      have q225_z := ou225.box e224_z nn220_oa
      have no225_z : ¬ S225 g220 := fun e => (nw225 _ e).elim nn220_oa (fun e => by have := CB.lt e224_z; omega)
      have q225_l := (e224_l).out ou225 hi
      have q225_ac := (e224_ac).out ou225 hi
      have q225_wait := SO.outS e224_wait ou225 wa
      have ns225_wait := SO.farS e224_wait wa nw225
      have q225_wait2 := SO.outS e224_wait2 ou225 nw9
      have ns225_wait2 := SO.farS e224_wait2 nw9 nw225
      have q225_said2 := SO.outS so224 ou225 nm224_oa
      have ns225_said2 := SO.farS so224 nm224_oa nw225
      have hi225 : ∀ i, S225 i → w.heap.size ≤ i := fun i e => (nw225 i e).elim (hi i) (fun e => Nat.le_trans (lw224).size e)
      have l225 := below_out lw224 ou225 hi
      clear ou225 nw225 e224_oa e224_a na e224_o no e224_i ni e224_t nt e224_nx nn209_oa e224_p nn213_oa e224_z nn220_oa e224_l e224_ac e224_wait wa e224_wait2 nw9 so224 nm224_oa hi lw224
      go_wp2_with fail
      go_roundw
      case rel => exact ⟨k + 1, S0 ++ [s], _, _, _, _, _, _, _, _, _, _, by omega, by go_num, rfl, Lib.hid (by have := HL.out; simp; omega), HS2, HQ2, ao225, hi225, no225_a, no225_o, no225_i, no225_t, q225_said2, by rw [← hpk.out]; exact q225_wait2, ns225_said2, ns225_wait2, q225_a, by rw [hln.out]; exact q225_o, q225_i, q225_t, q225_l, q225_ac, l225⟩
      case measure => simp [intOf]; omega
    obtain rfl : k = n := by omega
    have hS60 : S0.length ≤ 60 := by have := HL.out; omega
    clear hlt hl HL
    obtain ⟨ga, hga⟩ : ∃ g, g9 = g := ⟨_, rfl⟩
    obtain ⟨go, hgo⟩ : ∃ g, g14 = g := ⟨_, rfl⟩
    obtain ⟨gi, hgi⟩ : ∃ g, g18 = g := ⟨_, rfl⟩
    obtain ⟨gt, hgt⟩ : ∃ g, g25 = g := ⟨_, rfl⟩
    obtain ⟨ba, hba⟩ : ∃ g, ba5 = g := ⟨_, rfl⟩
    have u1 := up9
    have u2 := up14
    have u3 := up18
    have u4 := up25
    rw [hba] at ha ca ⊢
    rw [hga] at ca na u1 ⊢
    rw [hgo] at co no u2 ⊢
    rw [hgi] at ci ni u3 ⊢
    rw [hgt] at ct nt u4 ⊢
    clear hga hgo hgi hgt hba up9 up14 up18 up25
    have td0 : TDs w.heap.size gi gt 0 (S0.take 0) none 0 0 none wr := ⟨ci, ct, SO.nil _ _ _ _ _⟩
    have g1 : ga ≠ gi := CB.ne_ ca ci (by decide)
    have g2 : ga ≠ gt := CB.ne_ ca ct (by decide)
    have g3 : go ≠ gi := CB.ne_ co ci (by decide)
    have g4 : go ≠ gt := CB.ne_ co ct (by decide)
    have tws : TWs w.heap.size ba ga go gi gt S0 0 0 Q As ns cs Aw nw cw Sa (FT gi gt none) Gs Gw wr := by
      refine ⟨ha, TO.of td0, ca, co, hss, hsw, na, no, ?_, ?_, ?_, sa, ?_, wa, ?_⟩
      · rintro (e | e | e)
        · exact g1 e
        · exact g2 e
        · cases e
      · rintro (e | e | e)
        · exact g3 e
        · exact g4 e
        · cases e
      · rintro i hs (rfl | rfl | e)
        · exact ni hs
        · exact nt hs
        · cases e
      · rintro g e (e1 | e1 | e1)
        · exact SO.noT hss ci (by decide) g e e1
        · exact SO.noT hss ct (by decide) g e e1
        · cases e1
      · rintro g e (e1 | e1 | e1)
        · exact SO.noT hsw ci (by decide) g e e1
        · exact SO.noT hsw ct (by decide) g e e1
        · cases e1
    have hB : ∀ i, FW ga go Sa (FT gi gt none) Gs Gw i → w.heap.size ≤ i := by
      rintro i (rfl | rfl | e | (rfl | rfl | e) | e | e)
      · exact u1
      · exact u2
      · exact hi i e
      · exact u3
      · exact u4
      · cases e
      · exact hss.hi i e
      · exact hsw.hi i e
    have htw := TW.of tws
    obtain ⟨B, hBB⟩ : ∃ B, FW ga go Sa (FT gi gt none) Gs Gw = B := ⟨_, rfl⟩
    rw [hBB] at hB htw
    clear hBB tws td0 g1 g2 g3 g4 ha ca co ci ct hss hsw na no ni nt sa wa u1 u2 u3 u4 hi
    have hN0 : w.heap.size ≤ w.heap.size := Nat.le_refl _
    go_wp2_with fail
    go_loopw [78] (fun iv wr => ∃ (k : Nat) (B : Nat → Prop) (h : Nat) (Q : Qs), k ≤ n2 ∧ iv = .int .i64 k ∧ TW B w.heap.size ba ga go gi gt S0 0 h Q As ns cs Aw nw cw wr ∧ Hid (GQ S0 Q) ∧ Hid (h ≤ S0.length) ∧ (∀ i, B i → w.heap.size ≤ i) ∧ RL w wr ucl 1 A2 n2 c2 L2 ∧ Below w.heap.size w wr) (fun iv _ => n2 - (intOf iv).toNat)
    case atStart => exact ⟨0, B, 0, Q, by omega, rfl, htw, HQ, Lib.hid (Nat.zero_le _), hB, hac, hw⟩
    case round =>
      clear htw HQ hB hac hw
      obtain ⟨k, B, h, Q, hkn, rfl, htw, HQ, HH, hB, hac, hw⟩ := hrel
      by_cases hlt : k < n2
      · skip
        have l1 : (k : Int) < n2 := by omega
        have l2 : (0 : Int) ≤ (k : Int) := by omega
        obtain ⟨gl, ol, m, hmk, hAl, cel⟩ := RR.one (f := fun m : Nat => Value.int .u8 (m : Int)) hac.rr (fun _ => rfl) hlt
        have hm256 : m < 256 := HB.out m (List.mem_of_getElem? hmk)
        subst hAl
        obtain ⟨r, hr⟩ : ∃ r, m % 4 = r := ⟨_, rfl⟩
        have hr4 : r < 4 := by rw [← hr]; exact Nat.mod_lt _ (by decide)
        have tm4 : Int.tmod (m : Int) 4 = (r : Int) := (tmod_nat m 4).trans (by rw [hr])
        have em4 : (m : Int) % 4 = (r : Int) := by omega
        have wr4 : IntKind.u8.wrap (r : Int) = (r : Int) := IntWalk.u8_in _ (by omega)
        have wq4 : IntKind.u8.wrap ((m : Int) / 4) = (m : Int) / 4 := IntWalk.u8_in _ (by omega)
        have wq5 : IntKind.i64.wrap ((m : Int) / 4) = (m : Int) / 4 := IntWalk.i64_in _ (by omega)
        have mx0 : ¬ max ((Q 3).length : Int) 1 = 0 := by omega
        obtain ⟨at_, hat⟩ : ∃ a, (m : Int) / 4 % max ((Q 3).length : Int) 1 = a := ⟨_, rfl⟩
        have wat : IntKind.i64.wrap at_ = at_ := by
          have h1 : (0 : Int) < max ((Q 3).length : Int) 1 := by omega
          have h2 := Int.emod_nonneg ((m : Int) / 4) (show max ((Q 3).length : Int) 1 ≠ 0 by omega)
          have h3 : (m : Int) / 4 % max ((Q 3).length : Int) 1 = (((m / 4) % (max (Q 3).length 1) : Nat) : Int) := by
            have e1 : max ((Q 3).length : Int) 1 = ((max (Q 3).length 1 : Nat) : Int) := by omega
            rw [e1]; rfl
          have h4 : (m / 4) % (max (Q 3).length 1) ≤ m / 4 := Nat.mod_le _ _
          rw [hat] at h2 h3
          exact IntWalk.i64_in _ (by omega)
        clear hr
        have ca401 : wr.cell? ⟨ga, 0, none⟩ = some (.pointer (some ⟨ba, 0, none⟩)) := CB.cell (TW.ca htw) 0
        go_wp2_with fail
        have cl9 := tw_len htw
        (with_reducible refine cl9.mono ?_)
        clear cl9
        rintro e0 w' ⟨rfl, rfl⟩
        have ca402 : wr.cell? ⟨ga, 0, none⟩ = some (.pointer (some ⟨ba, 0, none⟩)) := CB.cell (TW.ca htw) 0
        by_cases hr0 : r = 0
        · subst hr0
          have HQ2 := Lib.hid (GQ.ag HQ.out 1000 at_)
          go_wp2_with fail
          have cc403 := tw_again (i := at_) htw
          (with_reducible refine cc403.mono ?_)
          clear cc403
          rintro e w403 ⟨rfl, S403, ao403, ou403, nw403⟩
          clear ca401 ca402
          have q403_ac := (hac).out ou403 hB
          have hi403 : ∀ i, S403 i → w.heap.size ≤ i := fun i e => (nw403 i e).elim (hB i) (fun e => Nat.le_trans (hw).size e)
          have l403 := below_out hw ou403 hB
          clear ou403 nw403 htw hac hB hw
          obtain ⟨At, nt, ct, Gt, td⟩ := TW.td ao403
          obtain ⟨Gs, ss⟩ := TW.ss ao403
          have ct9 : w403.cell? ⟨gt, 0, none⟩ = some (.slice At nt ct) := CB.cell td.ct 0
          have HNT := Lib.hid (show min h S0.length = nt by have := td.so.len; rw [List.length_take] at this; exact this)
          have HN2 := Lib.hid ss.len
          have hntb : nt ≤ 60 := by have := HNT.out; omega
          have rt := td.so.rr
          have rs9 := ss.rr
          clear td ss
          go_wp2_with fail
          go_loopw [114] (fun iv wi => ∃ j : Nat, j ≤ nt ∧ iv = .int .i64 j ∧ w403 = wi) (fun iv _ => nt - (intOf iv).toNat)
          case atStart => exact ⟨0, by omega, rfl, rfl⟩
          case round =>
            obtain ⟨j, hjn, rfl, rfl⟩ := hrel
            by_cases hjt : j < nt
            · skip
              have j1 : (j : Int) < nt := by omega
              have j2 : (0 : Int) ≤ (j : Int) := by omega
              have j3 : j < ns := by have := HNT.out; have := HN2.out; omega
              have j4 : (j : Int) < ns := by omega
              have j5 : decide ((ns : Int) ≤ (j : Int)) = false := by simp; omega
              have j6 : decide ((j : Int) ≥ (ns : Int)) = false := by simp; omega
              obtain ⟨g5, o5, x5, hx5, e5, c5⟩ := RR.one (f := fun s : ByteArray => Value.string s) rt (fun _ => rfl) hjt
              obtain ⟨g6, o6, x6, hx6, e6, c6⟩ := RR.one (f := fun s : ByteArray => Value.string s) rs9 (fun _ => rfl) j3
              have hxx : x6 = x5 := by
                rw [List.getElem?_take] at hx5
                split at hx5
                · rw [hx5] at hx6; cases hx6; rfl
                · cases hx5
              subst hxx e5
              have j7 : (x6.toList == x6.toList) = true := beq_self_eq_true _
              have j8 : (x6.toList != x6.toList) = false := by simp
              rw [e6]
              clear hx5 hx6
              go_wp2_with fail
              go_roundw
              case rel => exact ⟨j + 1, by omega, by go_num, by first | rfl | trivial⟩
              case measure => simp [intOf]; omega
            have j1 : ¬ (j : Int) < nt := by omega
            clear hjt
            go_wp2_with fail
            go_roundw
            case rel => exact ⟨k + 1, _, h, _, by omega, by go_num, ao403, HQ2, HH, hi403, q403_ac, l403⟩
            case measure => simp [intOf]; omega
        by_cases hr1 : r = 1
        · subst hr1
          have HQ2 := Lib.hid (GQ.tk HQ.out at_)
          go_wp2_with fail
          have cc403 := tw_take (i := at_) htw
          (with_reducible refine cc403.mono ?_)
          clear cc403
          rintro e w403 ⟨x403, rfl, hx403, rs403, S403, ao403, ou403, nw403, xo403⟩
          clear ca401 ca402
          have q403_ac := (hac).out ou403 hB
          have hi403 : ∀ i, S403 i → w.heap.size ≤ i := fun i e => (nw403 i e).elim (hB i) (fun e => Nat.le_trans (hw).size e)
          have l403 := below_out hw ou403 hB
          have rb403 := rs403.ob
          have xa403 : ∀ i, InB x403.A i → ¬ S403 i := fun i a => (xo403 i a).2
          have xb403 : ∀ i, S403 i → ¬ InB x403.A i := fun i a b => xa403 i b a
          have hx403_ : ∀ i, InB x403.A i → w.heap.size ≤ i := fun i e => hB i (xo403 i e).1
          clear ou403 nw403 rs403 xo403 htw hac hB hw
          obtain ⟨At, nt, ct, Gt, td⟩ := TW.td ao403
          obtain ⟨Gs, ss⟩ := TW.ss ao403
          have ct9 : w403.cell? ⟨gt, 0, none⟩ = some (.slice At nt ct) := CB.cell td.ct 0
          have HNT := Lib.hid (show min h S0.length = nt by have := td.so.len; rw [List.length_take] at this; exact this)
          have HN2 := Lib.hid ss.len
          have hntb : nt ≤ 60 := by have := HNT.out; omega
          have rt := td.so.rr
          have rs9 := ss.rr
          clear td ss
          go_wp2_with fail
          go_loopw [114] (fun iv wi => ∃ j : Nat, j ≤ nt ∧ iv = .int .i64 j ∧ w403 = wi) (fun iv _ => nt - (intOf iv).toNat)
          case atStart => exact ⟨0, by omega, rfl, rfl⟩
          case round =>
            obtain ⟨j, hjn, rfl, rfl⟩ := hrel
            by_cases hjt : j < nt
            · skip
              have j1 : (j : Int) < nt := by omega
              have j2 : (0 : Int) ≤ (j : Int) := by omega
              have j3 : j < ns := by have := HNT.out; have := HN2.out; omega
              have j4 : (j : Int) < ns := by omega
              have j5 : decide ((ns : Int) ≤ (j : Int)) = false := by simp; omega
              have j6 : decide ((j : Int) ≥ (ns : Int)) = false := by simp; omega
              obtain ⟨g5, o5, x5, hx5, e5, c5⟩ := RR.one (f := fun s : ByteArray => Value.string s) rt (fun _ => rfl) hjt
              obtain ⟨g6, o6, x6, hx6, e6, c6⟩ := RR.one (f := fun s : ByteArray => Value.string s) rs9 (fun _ => rfl) j3
              have hxx : x6 = x5 := by
                rw [List.getElem?_take] at hx5
                split at hx5
                · rw [hx5] at hx6; cases hx6; rfl
                · cases hx5
              subst hxx e5
              have j7 : (x6.toList == x6.toList) = true := beq_self_eq_true _
              have j8 : (x6.toList != x6.toList) = false := by simp
              rw [e6]
              clear hx5 hx6
              go_wp2_with fail
              go_roundw
              case rel => exact ⟨j + 1, by omega, by go_num, by first | rfl | trivial⟩
              case measure => simp [intOf]; omega
            have j1 : ¬ (j : Int) < nt := by omega
            clear hjt
            go_wp2_with fail
            go_roundw
            case rel => exact ⟨k + 1, _, h, _, by omega, by go_num, ao403, HQ2, HH, hi403, q403_ac, l403⟩
            case measure => simp [intOf]; omega
        have r0 : ((r : Int) == 0) = false := by simp; omega
        have r1 : ((r : Int) == 1) = false := by simp; omega
        have HQ2 := Lib.hid (GQ.tk HQ.out at_)
        go_wp2_with fail
        have cc403 := tw_take (i := at_) htw
        (with_reducible refine cc403.mono ?_)
        clear cc403
        rintro e w403 ⟨x403, rfl, hx403, rs403, S403, ao403, ou403, nw403, xo403⟩
        clear ca401 ca402
        have q403_ac := (hac).out ou403 hB
        have hi403 : ∀ i, S403 i → w.heap.size ≤ i := fun i e => (nw403 i e).elim (hB i) (fun e => Nat.le_trans (hw).size e)
        have l403 := below_out hw ou403 hB
        have rb403 := rs403.ob
        have xa403 : ∀ i, InB x403.A i → ¬ S403 i := fun i a => (xo403 i a).2
        have xb403 : ∀ i, S403 i → ¬ InB x403.A i := fun i a b => xa403 i b a
        have hx403_ : ∀ i, InB x403.A i → w.heap.size ≤ i := fun i e => hB i (xo403 i e).1
        clear ou403 nw403 rs403 xo403 htw hac hB hw
        go_wp2_with (first | ((with_reducible refine st_alloc 40 (lA zeroL) ?_ ?_); exact zero_lc))
        refine ⟨fun V404 g404 n404 f404 => ?_⟩
        have nn404_tw := ao403.fresh (Nat.le_of_eq f404.at_)
        have nn404_tx := rb403.fresh (Nat.le_of_eq f404.at_)
        have up404 : w.heap.size ≤ g404 := f404.up l403
        have bl404 := f404.bel
        clear f404
        have r405_tw := ao403.on bl404
        have r405_tx := rb403.on bl404
        have r407_ac := (q403_ac).on bl404
        have l407 := le_tr l403 bl404
        clear q403_ac l403
        clear ao403 rb403
        clear bl404
        go_wp2_with (first | ((with_reducible refine st_store 40 _ _ g404 (lA x403) ?_ ?_ n404 ?_ ?_ ?_ ?_); exact rfl; exact rfl; exact Try.zLc; exact rfl; exact lA_one _))
        refine ⟨fun V408 n408 k408 => ?_⟩
        have m408_ac := (r407_ac).wr k408 up404
        have m408_tw := r405_tw.wr k408 nn404_tw
        have m408_tx := r405_tx.wr k408 nn404_tx
        have o408 := k408.bel _ _ l407 up404
        clear k408
        clear n404 r407_ac r405_tw r405_tx l407
        by_cases he : eAt Q 3 at_ = 0
        rotate_left
        · have he0 : (((eAt Q 3 at_ : Nat) : Int) == 0) = false := by simp [he]
          obtain ⟨At, nt, ct, Gt, td⟩ := TW.td m408_tw
          obtain ⟨Gs, ss⟩ := TW.ss m408_tw
          have ct9 : V408.cell? ⟨gt, 0, none⟩ = some (.slice At nt ct) := CB.cell td.ct 0
          have HNT := Lib.hid (show min h S0.length = nt by have := td.so.len; rw [List.length_take] at this; exact this)
          have HN2 := Lib.hid ss.len
          have hntb : nt ≤ 60 := by have := HNT.out; omega
          have rt := td.so.rr
          have rs9 := ss.rr
          clear td ss
          go_wp2_with fail
          go_loopw [114] (fun iv wi => ∃ j : Nat, j ≤ nt ∧ iv = .int .i64 j ∧ V408 = wi) (fun iv _ => nt - (intOf iv).toNat)
          case atStart => exact ⟨0, by omega, rfl, rfl⟩
          case round =>
            obtain ⟨j, hjn, rfl, rfl⟩ := hrel
            by_cases hjt : j < nt
            · skip
              have j1 : (j : Int) < nt := by omega
              have j2 : (0 : Int) ≤ (j : Int) := by omega
              have j3 : j < ns := by have := HNT.out; have := HN2.out; omega
              have j4 : (j : Int) < ns := by omega
              have j5 : decide ((ns : Int) ≤ (j : Int)) = false := by simp; omega
              have j6 : decide ((j : Int) ≥ (ns : Int)) = false := by simp; omega
              obtain ⟨g5, o5, x5, hx5, e5, c5⟩ := RR.one (f := fun s : ByteArray => Value.string s) rt (fun _ => rfl) hjt
              obtain ⟨g6, o6, x6, hx6, e6, c6⟩ := RR.one (f := fun s : ByteArray => Value.string s) rs9 (fun _ => rfl) j3
              have hxx : x6 = x5 := by
                rw [List.getElem?_take] at hx5
                split at hx5
                · rw [hx5] at hx6; cases hx6; rfl
                · cases hx5
              subst hxx e5
              have j7 : (x6.toList == x6.toList) = true := beq_self_eq_true _
              have j8 : (x6.toList != x6.toList) = false := by simp
              rw [e6]
              clear hx5 hx6
              go_wp2_with fail
              go_roundw
              case rel => exact ⟨j + 1, by omega, by go_num, by first | rfl | trivial⟩
              case measure => simp [intOf]; omega
            have j1 : ¬ (j : Int) < nt := by omega
            clear hjt
            go_wp2_with fail
            go_roundw
            case rel => exact ⟨k + 1, _, h, _, by omega, by go_num, m408_tw, HQ2, HH, hi403, m408_ac, o408⟩
            case measure => simp [intOf]; omega
        have he0 : (((eAt Q 3 at_ : Nat) : Int) == 0) = true := by simp [he]
        obtain ⟨jj, s, hjs, hxl⟩ := GQ.x HQ.out he
        have hsm : s.size ≤ 100 := HS.out s (List.mem_of_getElem? hjs)
        have HH2 := Lib.hid (nH_le HH.out hjs)
        go_wp2_with (first | (first | ((with_reducible refine st_load 40 _ g404 ?_ n408 Try.underlying40 ?_ ?_ ?_); exact rfl; exact rfl; exact Try.zLc) | ((with_reducible refine st_loadG 40 _ g404 ?_ n408 Try.underlying40 ?_ ?_ ?_ ?_); exact rfl; exact rfl; exact Try.zLc; exact rfl)))
        have cc409 := tw_hear m408_tw (o408).size x403 m408_tx.ok.rr (hx403.trans hxl) hjs hS60 HH.out hsm
        (with_reducible refine cc409.mono ?_)
        clear cc409
        rintro e w409 ⟨rfl, S409, ao409, ou409, nw409⟩
        have q409_x := ou409.box n408 nn404_tw
        have no409_x : ¬ S409 g404 := fun e => (nw409 _ e).elim nn404_tw (fun e => by have := CB.lt n408; omega)
        have q409_tx := m408_tx.out ou409 xa403
        have ds409_tx := Ob.far m408_tx xa403 nw409
        have dt409_tx : ∀ i, S409 i → ¬ (InB x403.A) i := fun i a b => ds409_tx i b a
        have q409_ac := (m408_ac).out ou409 hi403
        have hi409 : ∀ i, S409 i → w.heap.size ≤ i := fun i e => (nw409 i e).elim (hi403 i) (fun e => Nat.le_trans (o408).size e)
        have l409 := below_out o408 ou409 hi403
        clear ou409 nw409 m408_tw n408 nn404_tw m408_tx xa403 xb403 m408_ac hi403 o408
        obtain ⟨At, nt, ct, Gt, td⟩ := TW.td ao409
        obtain ⟨Gs, ss⟩ := TW.ss ao409
        have ct9 : w409.cell? ⟨gt, 0, none⟩ = some (.slice At nt ct) := CB.cell td.ct 0
        have HNT := Lib.hid (show min (nH h jj) S0.length = nt by have := td.so.len; rw [List.length_take] at this; exact this)
        have HN2 := Lib.hid ss.len
        have hntb : nt ≤ 60 := by have := HNT.out; omega
        have rt := td.so.rr
        have rs9 := ss.rr
        clear td ss
        go_wp2_with fail
        go_loopw [114] (fun iv wi => ∃ j : Nat, j ≤ nt ∧ iv = .int .i64 j ∧ w409 = wi) (fun iv _ => nt - (intOf iv).toNat)
        case atStart => exact ⟨0, by omega, rfl, rfl⟩
        case round =>
          obtain ⟨j, hjn, rfl, rfl⟩ := hrel
          by_cases hjt : j < nt
          · skip
            have j1 : (j : Int) < nt := by omega
            have j2 : (0 : Int) ≤ (j : Int) := by omega
            have j3 : j < ns := by have := HNT.out; have := HN2.out; omega
            have j4 : (j : Int) < ns := by omega
            have j5 : decide ((ns : Int) ≤ (j : Int)) = false := by simp; omega
            have j6 : decide ((j : Int) ≥ (ns : Int)) = false := by simp; omega
            obtain ⟨g5, o5, x5, hx5, e5, c5⟩ := RR.one (f := fun s : ByteArray => Value.string s) rt (fun _ => rfl) hjt
            obtain ⟨g6, o6, x6, hx6, e6, c6⟩ := RR.one (f := fun s : ByteArray => Value.string s) rs9 (fun _ => rfl) j3
            have hxx : x6 = x5 := by
              rw [List.getElem?_take] at hx5
              split at hx5
              · rw [hx5] at hx6; cases hx6; rfl
              · cases hx5
            subst hxx e5
            have j7 : (x6.toList == x6.toList) = true := beq_self_eq_true _
            have j8 : (x6.toList != x6.toList) = false := by simp
            rw [e6]
            clear hx5 hx6
            go_wp2_with fail
            go_roundw
            case rel => exact ⟨j + 1, by omega, by go_num, by first | rfl | trivial⟩
            case measure => simp [intOf]; omega
          have j1 : ¬ (j : Int) < nt := by omega
          clear hjt
          go_wp2_with fail
          go_roundw
          case rel => exact ⟨k + 1, _, (nH h jj), _, by omega, by go_num, ao409, HQ2, HH2, hi409, q409_ac, l409⟩
          case measure => simp [intOf]; omega
      obtain rfl : k = n2 := by omega
      obtain ⟨N0, hN0'⟩ : ∃ N0, (Q 3).length = N0 := ⟨_, rfl⟩
      have g9 : ¬ ((k : Int) < (k : Int)) := by omega
      clear hlt hac HQ
      go_wp2_with fail
      go_loopg [] N0 (fun N wr => ∃ (B : Nat → Prop) (Q : Qs), TW B w.heap.size ba ga go gi gt S0 0 h Q As ns cs Aw nw cw wr ∧ Hid ((Q 3).length = N) ∧ (∀ i, B i → w.heap.size ≤ i) ∧ Below w.heap.size w wr)
      case atStart => exact ⟨B, Q, htw, Lib.hid hN0', hB, hw⟩
      case round =>
        clear htw hB hw hN0'
        obtain ⟨B, Q, htw, HM, hB, hw⟩ := hrel
        obtain ⟨M, hM⟩ : ∃ M, Q 3 = M := ⟨_, rfl⟩
        have hMl : (Q 3).length = M.length := by rw [hM]
        cases M with
        | cons l M =>
          obtain ⟨z1, z2, z3⟩ := q_cons (by decide) hM
          have hMn : (Q 3).length = M.length + 1 := by rw [hM]; rfl
          have HM2 := Lib.hid (show (sTk Q 3 0 3).length = M.length by rw [z3])
          have hN9 := HM.out
          have p1 : decide ((0 : Int) < ((Q 3).length : Int)) = true := by simp; omega
          have p2 : decide (((Q 3).length : Int) > 0) = true := by simp; omega
          have p3 : 0 < (Q 3).length := by omega
          clear z1 z2 z3 hMl
          have ca601 : wr.cell? ⟨ga, 0, none⟩ = some (.pointer (some ⟨ba, 0, none⟩)) := CB.cell (TW.ca htw) 0
          go_wp2_with fail
          have cl9 := tw_len htw
          (with_reducible refine cl9.mono ?_)
          clear cl9
          rintro e0 w' ⟨rfl, rfl⟩
          have ca602 : wr.cell? ⟨ga, 0, none⟩ = some (.pointer (some ⟨ba, 0, none⟩)) := CB.cell (TW.ca htw) 0
          go_wp2_with fail
          have cc603 := tw_take (i := 0) htw
          (with_reducible refine cc603.mono ?_)
          clear cc603
          rintro e w603 ⟨x603, rfl, hx603, rs603, S603, ao603, ou603, nw603, xo603⟩
          clear ca601 ca602
          have hi603 : ∀ i, S603 i → w.heap.size ≤ i := fun i e => (nw603 i e).elim (hB i) (fun e => Nat.le_trans (hw).size e)
          have l603 := below_out hw ou603 hB
          have rb603 := rs603.ob
          have xa603 : ∀ i, InB x603.A i → ¬ S603 i := fun i a => (xo603 i a).2
          have xb603 : ∀ i, S603 i → ¬ InB x603.A i := fun i a b => xa603 i b a
          have hx603_ : ∀ i, InB x603.A i → w.heap.size ≤ i := fun i e => hB i (xo603 i e).1
          clear ou603 nw603 rs603 xo603 htw hB hw
          go_wp2_with fail
          go_roundg M.length
          case measure => omega
          case rel => exact ⟨_, _, ao603, HM2, hi603, l603⟩
        | nil =>
          have p1 : ¬ ((0 : Int) < ((Q 3).length : Int)) := by rw [hMl]; simp
          have p2 : decide ((0 : Int) < ((Q 3).length : Int)) = false := by simp [hMl]
          have p3 : (Q 3).length = 0 := by rw [hMl]; rfl
          have HQ0 := Lib.hid hM
          clear hMl hM
          have ca601 : wr.cell? ⟨ga, 0, none⟩ = some (.pointer (some ⟨ba, 0, none⟩)) := CB.cell (TW.ca htw) 0
          go_wp2_with fail
          have cl9 := tw_len htw
          (with_reducible refine cl9.mono ?_)
          clear cl9
          rintro e0 w' ⟨rfl, rfl⟩
          obtain ⟨At, nt, ct, Gt, td⟩ := TW.td htw
          obtain ⟨Gw, sw⟩ := TW.sw htw
          have co := TW.co htw
          have ch : wr.cell? ⟨gi, 0, none⟩ = some (.int .i64 (h : Int)) := CB.cell td.ci 0
          have hR : RightO ⟨(S0.length : Int), pkF S0 0, 100⟩ := pkF_right (Nat.zero_le _) (fun t e => Nat.le_trans (HS.out t e) (by decide)) (by omega) (by omega) (by omega)
          have hpa : (pkF S0 0).filter (fun p => decide ((h : Int) ≤ p.seq)) = pkF S0 h := by rw [pkF_ack (Nat.zero_le _), Nat.zero_max]
          obtain ⟨m, hm⟩ : ∃ m, (pkF S0 h).length = m := ⟨_, rfl⟩
          have cak := ack_y (S0.length : Int) Aw nw cw (pkF S0 0) 100 (h : Int) wr sw.rr hR (by omega) (by have := HH.out; omega) _ hpa
          rw [hm] at cak
          clear td sw hR hpa
          go_wp2_with (first | ((with_reducible refine st_load 64 _ go ?_ co Try.underlying64 ?_ ?_ ?_); exact rfl; exact rfl; exact Try.zOu))
          (with_reducible refine cak.mono ?_)
          clear cak co ch
          rintro e w9 ⟨A9, c9, G9, rfl, h9, b9⟩
          have tw9 := Ob.on htw b9
          have co9 := TW.co tw9
          have l9 := le_tr hw b9
          go_wp2_with (first | ((with_reducible refine st_store 64 _ _ go (oA ⟨(S0.length : Int), A9, m, c9, 100⟩) ?_ ?_ co9 ?_ ?_ ?_ ?_); exact rfl; exact rfl; exact Try.zOu; exact rfl; exact oA_one _))
          refine ⟨fun V9 n9 k9 => ?_⟩
          obtain ⟨B9, tw10, o10, nw10⟩ := TW.acked htw b9 h9 hw.size k9 n9
          have hB9 : ∀ i, B9 i → w.heap.size ≤ i := fun i e => (nw10 i e).elim (hB i) (fun e => Nat.le_trans hw.size e)
          have lw10 := below_out hw o10 hB
          have HQ1 := Lib.hid (show Q 3 = (LS S0 h).take 0 from HQ0.out)
          have hmS : h + m = S0.length := by have := HH.out; rw [← hm, pkF_len]; omega
          clear htw hB hw tw9 co9 l9 k9 n9 h9 b9 o10 nw10 HQ0 p1 p2 p3
          have cw9 : V9.cell? ⟨go, 1, none⟩ = some (.slice A9 m c9) := CB.cell (TW.co tw10) 1
          go_wp2_with fail
          clear cw9
          go_loopw [150] (fun iv wr => ∃ (j : Nat) (B : Nat → Prop) (Q : Qs), j ≤ m ∧ iv = .int .i64 j ∧ TW B w.heap.size ba ga go gi gt S0 h h Q As ns cs A9 m c9 wr ∧ Hid (Q 3 = (LS S0 h).take j) ∧ (∀ i, B i → w.heap.size ≤ i) ∧ Below w.heap.size w wr) (fun iv _ => m - (intOf iv).toNat)
          case atStart => exact ⟨0, B9, Q, by omega, rfl, tw10, HQ1, hB9, lw10⟩
          case round =>
            clear tw10 HQ1 hB9 lw10
            obtain ⟨j, B, Q, hjm, rfl, htw, HQ, hB, hw⟩ := hrel
            by_cases hlt : j < m
            · skip
              have l1 : (j : Int) < m := by omega
              have l2 : (0 : Int) ≤ (j : Int) := by omega
              obtain ⟨s, hs⟩ : ∃ s, S0[h + j]? = some s := ⟨S0[h + j], List.getElem?_eq_getElem (by omega)⟩
              have hsm : s.size ≤ 100 := HS.out s (List.mem_of_getElem? hs)
              obtain ⟨p, hp⟩ : ∃ p, h + j = p := ⟨_, rfl⟩
              have hp256 : p < 256 := by omega
              have hel : (pkF S0 h)[j]? = some ⟨(p : Int), s⟩ := by rw [pkF_at, hs, hp]; rfl
              have HQ2 := Lib.hid (show (sSn 1000 Q (ltr p s)) 3 = (LS S0 h).take (j + 1) by
                rw [snd_ex (by rw [HQ.out, List.length_take, LS_len]; omega) hsm, HQ.out, List.take_add_one, LS_at hs, hp]; rfl)
              obtain ⟨Gw, sw⟩ := TW.sw htw
              obtain ⟨g5, o5, x5, _, hA5, _⟩ := sw.rr.elem hlt
              have hr5 : wr.rangeAt g5 (o5 + j * 2) (pA ⟨(p : Int), s⟩).toList := RR.elemAt sw.rr hel hA5
              clear sw hel hs hp
              subst hA5
              go_wp2_with (first | ((with_reducible refine st_elem 70 _ g5 (o5 + j * 2) (pA ⟨(p : Int), s⟩) ?_ hr5 Try.underlying70 ?_ ?_ ?_); exact rfl; exact rfl; exact Try.zPk) | ((with_reducible refine st_alloc 70 (pA zeroP) ?_ ?_); exact zero_pk))
              refine ⟨fun V701 g701 n701 f701 => ?_⟩
              have nn701_tw := htw.fresh (Nat.le_of_eq f701.at_)
              have up701 : w.heap.size ≤ g701 := f701.up hw
              have bl701 := f701.bel
              clear f701
              have r702_tw := htw.on bl701
              have l704 := le_tr hw bl701
              clear hw
              clear htw
              clear bl701
              go_wp2_with (first | ((with_reducible refine st_store 70 _ _ g701 (pA ⟨(p : Int), s⟩) ?_ ?_ n701 ?_ ?_ ?_ ?_); exact rfl; exact rfl; exact Try.zPk; exact rfl; exact pA_one _))
              refine ⟨fun V705 n705 k705 => ?_⟩
              have m705_tw := r702_tw.wr k705 nn701_tw
              have o705 := k705.bel _ _ l704 up701
              clear k705
              clear n701 r702_tw l704
              go_wp2_with (first | (first | ((with_reducible refine st_load 70 _ g701 ?_ n705 Try.underlying70 ?_ ?_ ?_); exact rfl; exact rfl; exact Try.zPk) | ((with_reducible refine st_loadG 70 _ g701 ?_ n705 Try.underlying70 ?_ ?_ ?_ ?_); exact rfl; exact rfl; exact Try.zPk; exact rfl)))
              have cc706 := tw_send (k := p) m705_tw hp256 hsm
              (with_reducible refine cc706.mono ?_)
              clear cc706
              rintro e w706 ⟨rfl, S706, ao706, ou706, nw706⟩
              have q706_p := ou706.box n705 nn701_tw
              have no706_p : ¬ S706 g701 := fun e => (nw706 _ e).elim nn701_tw (fun e => by have := CB.lt n705; omega)
              have hi706 : ∀ i, S706 i → w.heap.size ≤ i := fun i e => (nw706 i e).elim (hB i) (fun e => Nat.le_trans (o705).size e)
              have l706 := below_out o705 ou706 hB
              clear ou706 nw706 m705_tw n705 nn701_tw hB o705
              go_wp2_with fail
              go_roundw
              case rel => exact ⟨j + 1, _, _, by omega, by go_num, ao706, HQ2, hi706, l706⟩
              case measure => simp [intOf]; omega
            obtain rfl : j = m := by omega
            have HQ5 := Lib.hid (show Q 3 = LS S0 h by rw [HQ.out]; exact List.take_of_length_le (by rw [LS_len]; omega))
            have g9 : ¬ ((j : Int) < (j : Int)) := by omega
            clear HQ hlt
            go_wp2_with fail
            go_loopg [] j (fun N wr => ∃ (B : Nat → Prop) (Q : Qs) (h' : Nat), TW B w.heap.size ba ga go gi gt S0 h h' Q As ns cs A9 j c9 wr ∧ Hid (Q 3 = LS S0 h') ∧ Hid (h' + N = S0.length) ∧ (∀ i, B i → w.heap.size ≤ i) ∧ Below w.heap.size w wr)
            case atStart => exact ⟨B, Q, h, htw, HQ5, Lib.hid hmS, hB, hw⟩
            case round =>
              clear htw hB hw HQ5
              obtain ⟨B, Q, h', htw, HQ5, HN, hB, hw⟩ := hrel
              have hQl : (Q 3).length = S0.length - h' := by rw [HQ5.out, LS_len]
              have hNN := HN.out
              by_cases hend : h' < S0.length
              · skip
                obtain ⟨s, hs⟩ : ∃ s, S0[h']? = some s := ⟨S0[h'], List.getElem?_eq_getElem hend⟩
                have hsm : s.size ≤ 100 := HS.out s (List.mem_of_getElem? hs)
                obtain ⟨z1, z2, z3⟩ := q_cons (Q := Q) (e := 3) (by decide) (by rw [HQ5.out]; exact LS_cons hs)
                have HQ6 := Lib.hid z3
                have HX := Lib.hid z2
                have p1 : decide ((0 : Int) < ((Q 3).length : Int)) = true := by simp; omega
                have p2 : decide (((Q 3).length : Int) > 0) = true := by simp; omega
                have p3 : 0 < (Q 3).length := by omega
                have hnh : nH h' h' = h' + 1 := by unfold nH; rw [if_pos rfl]
                clear z1 z2 z3
                have ca801 : wr.cell? ⟨ga, 0, none⟩ = some (.pointer (some ⟨ba, 0, none⟩)) := CB.cell (TW.ca htw) 0
                go_wp2_with fail
                have cl9 := tw_len htw
                (with_reducible refine cl9.mono ?_)
                clear cl9
                rintro e0 w' ⟨rfl, rfl⟩
                have ca802 : wr.cell? ⟨ga, 0, none⟩ = some (.pointer (some ⟨ba, 0, none⟩)) := CB.cell (TW.ca htw) 0
                go_wp2_with fail
                have cc803 := tw_take (i := 0) htw
                (with_reducible refine cc803.mono ?_)
                clear cc803
                rintro e w803 ⟨x803, rfl, hx803, rs803, S803, ao803, ou803, nw803, xo803⟩
                clear ca801 ca802
                have hi803 : ∀ i, S803 i → w.heap.size ≤ i := fun i e => (nw803 i e).elim (hB i) (fun e => Nat.le_trans (hw).size e)
                have l803 := below_out hw ou803 hB
                have rb803 := rs803.ob
                have xa803 : ∀ i, InB x803.A i → ¬ S803 i := fun i a => (xo803 i a).2
                have xb803 : ∀ i, S803 i → ¬ InB x803.A i := fun i a b => xa803 i b a
                have hx803_ : ∀ i, InB x803.A i → w.heap.size ≤ i := fun i e => hB i (xo803 i e).1
                clear ou803 nw803 rs803 xo803 htw hB hw
                go_wp2_with (first | ((with_reducible refine st_alloc 40 (lA zeroL) ?_ ?_); exact zero_lc))
                refine ⟨fun V804 g804 n804 f804 => ?_⟩
                have nn804_tw := ao803.fresh (Nat.le_of_eq f804.at_)
                have nn804_tx := rb803.fresh (Nat.le_of_eq f804.at_)
                have up804 : w.heap.size ≤ g804 := f804.up l803
                have bl804 := f804.bel
                clear f804
                have r805_tw := ao803.on bl804
                have r805_tx := rb803.on bl804
                have l807 := le_tr l803 bl804
                clear l803
                clear ao803 rb803
                clear bl804
                go_wp2_with (first | ((with_reducible refine st_store 40 _ _ g804 (lA x803) ?_ ?_ n804 ?_ ?_ ?_ ?_); exact rfl; exact rfl; exact Try.zLc; exact rfl; exact lA_one _))
                refine ⟨fun V808 n808 k808 => ?_⟩
                have m808_tw := r805_tw.wr k808 nn804_tw
                have m808_tx := r805_tx.wr k808 nn804_tx
                have o808 := k808.bel _ _ l807 up804
                clear k808
                clear n804 r805_tw r805_tx l807
                go_wp2_with (first | (first | ((with_reducible refine st_load 40 _ g804 ?_ n808 Try.underlying40 ?_ ?_ ?_); exact rfl; exact rfl; exact Try.zLc) | ((with_reducible refine st_loadG 40 _ g804 ?_ n808 Try.underlying40 ?_ ?_ ?_ ?_); exact rfl; exact rfl; exact Try.zLc; exact rfl)))
                have cc809 := tw_hear m808_tw (o808).size x803 m808_tx.ok.rr (hx803.trans HX.out) hs hS60 (Nat.le_of_lt hend) hsm
                (with_reducible refine cc809.mono ?_)
                clear cc809
                rintro e w809 ⟨rfl, S809, ao809, ou809, nw809⟩
                have q809_x := ou809.box n808 nn804_tw
                have no809_x : ¬ S809 g804 := fun e => (nw809 _ e).elim nn804_tw (fun e => by have := CB.lt n808; omega)
                have q809_tx := m808_tx.out ou809 xa803
                have ds809_tx := Ob.far m808_tx xa803 nw809
                have dt809_tx : ∀ i, S809 i → ¬ (InB x803.A) i := fun i a b => ds809_tx i b a
                have hi809 : ∀ i, S809 i → w.heap.size ≤ i := fun i e => (nw809 i e).elim (hi803 i) (fun e => Nat.le_trans (o808).size e)
                have l809 := below_out o808 ou809 hi803
                clear ou809 nw809 m808_tw n808 nn804_tw m808_tx xa803 xb803 hi803 o808
                go_wp2_with fail
                have tw9 := ao809
                rw [hnh] at tw9
                go_roundg (S0.length - (h' + 1))
                case measure => omega
                case rel => exact ⟨_, _, h' + 1, tw9, HQ6, Lib.hid (by omega), hi809, l809⟩
              obtain rfl : h' = S0.length := by omega
              have p1 : ¬ ((0 : Int) < ((Q 3).length : Int)) := by omega
              have p2 : decide ((0 : Int) < ((Q 3).length : Int)) = false := by rw [decide_eq_false_iff_not]; omega
              have p3 : (Q 3).length = 0 := by omega
              obtain ⟨At, nt, ct, Gt, td⟩ := TW.td htw
              obtain ⟨Gs, ss⟩ := TW.ss htw
              have HNT := Lib.hid (show min S0.length S0.length = nt by have := td.so.len; rw [List.length_take] at this; exact this)
              have HN2 := Lib.hid ss.len
              have ch : wr.cell? ⟨gi, 0, none⟩ = some (.int .i64 (S0.length : Int)) := CB.cell td.ci 0
              have ct9 : wr.cell? ⟨gt, 0, none⟩ = some (.slice At nt ct) := CB.cell td.ct 0
              have e1 : ((nt : Int) == (ns : Int)) = true := by have := HNT.out; have := HN2.out; simp; omega
              have e2 : ((S0.length : Int) == (ns : Int)) = true := by have := HN2.out; simp; omega
              clear td ss
              have ca801 : wr.cell? ⟨ga, 0, none⟩ = some (.pointer (some ⟨ba, 0, none⟩)) := CB.cell (TW.ca htw) 0
              go_wp2_with fail
              have cl9 := tw_len htw
              (with_reducible refine cl9.mono ?_)
              clear cl9
              rintro e0 w' ⟨rfl, rfl⟩
              go_wp2_with fail
              go_ret
              exact ⟨rfl, hw⟩
end Go.Proofs.Ytcfdfimkgehdfaa
