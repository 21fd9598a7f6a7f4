/-
  Hear of package tally. No condition.
-/
import Derived.Test.YtjfmahceolhfnaaTyE
import Derived.Test.YtjfmahceolhfnaaRow
set_option linter.unusedVariables false
set_option linter.unusedSimpArgs false
namespace Go.Proofs.Ytjfmahceolhfnaa
open Go.RowKit

/-- A byte as a cell. -/
def uc (x : Nat) : List Value := [.int .u8 (x : Int)]
instance : Nonempty (EncOk uc 1) := ⟨⟨fun _ => rfl, fun x u hu => by
  simp [uc] at hu
  subst hu
  rfl, by omega⟩⟩
theorem RR.u8 {w : World} {A : Option Addr} {n c : Nat} {L : List Nat} (h : RR w uc 1 A n c L) {k : Nat} (hk : k < n) : ∃ g off x, L[k]? = some x ∧ A = some ⟨g, off, none⟩ ∧ w.cell? ⟨g, off + k, none⟩ = some (.int .u8 (x : Int)) := by
  obtain ⟨g, off, x, h1, h2, h3⟩ := h.at_ hk
  have := h3 0 _ rfl
  rw [Nat.mul_one] at this
  exact ⟨g, off, x, h1, h2, this⟩
theorem RR.wr {w V : World} {g : Nat} {A : Option Addr} {n c : Nat} {L : List Nat} (h : RR w uc 1 A n c L) (k : Wr w V g) (hg : ∀ b off, A = some ⟨b, off, none⟩ → 0 < n → b ≠ g) : RR V uc 1 A n c L := h.keep fun b off hA hn hlt => k.far b (hg b off hA hn)
theorem RR.apart {w w' : World} {g : Nat} {A : Option Addr} {n c : Nat} {L : List Nat} (h : RR w uc 1 A n c L) (hg : w.heap.size ≤ g) : ∀ b off, A = some ⟨b, off, none⟩ → 0 < n → b ≠ g := fun b off hA hn => by have := h.lt hA hn; omega
/-- A list that lies below world w's blocks. -/
structure RU (w W : World) (A : Option Addr) (n c : Nat) (L : List Nat) : Prop where
  rr : RR W uc 1 A n c L
  lo : ∀ b off, A = some ⟨b, off, none⟩ → 0 < n → b < w.heap.size
theorem RU.start {w : World} {A : Option Addr} {n c : Nat} {L : List Nat} (h : RR w uc 1 A n c L) : RU w w A n c L := ⟨h, fun _ _ hA hn => h.lt hA hn⟩
theorem RU.on {w W V : World} {A : Option Addr} {n c : Nat} {L : List Nat} (h : RU w W A n c L) (hb : Below W.heap.size W V) : RU w V A n c L := ⟨h.rr.on hb, h.lo⟩
theorem RU.wr {w W V : World} {g : Nat} {A : Option Addr} {n c : Nat} {L : List Nat} (h : RU w W A n c L) (k : Wr W V g) (hg : w.heap.size ≤ g) : RU w V A n c L := ⟨h.rr.keep fun b off hA hn _ => k.far b (by have := h.lo b off hA hn; omega), h.lo⟩
theorem RU.drew {w W : World} {A : Option Addr} {n c : Nat} {L : List Nat} (h : RU w W A n c L) : RU w W.drew A n c L := ⟨h.rr.drew, h.lo⟩
theorem RU.len {w W : World} {A : Option Addr} {n c : Nat} {L : List Nat} (h : RU w W A n c L) : L.length = n := h.rr.len
theorem tA_mvt (S : Ty) (f : Nat → Int) : (tA S).extract 0 8 ++ iA f ++ (tA S).extract (8 + (iA f).size) (tA S).size = tA ⟨S.wh, f, S.ep⟩ := by simp [tA, iA]
theorem tA_mep (S : Ty) (f : Nat → Int) : (tA S).extract 0 16 ++ iA f ++ (tA S).extract (16 + (iA f).size) (tA S).size = tA ⟨S.wh, S.vt, f⟩ := by simp [tA, iA]
theorem st_build {P : Program} {ops : Array Oper} {rest : List Oper} {dst : Option Tmp} {ty : TypeId} {pos : String} {aft : Array Edge} {a : Act} {w : World} {Q : Exit → Act → World → Prop} (T : TypeId) (x : Operand) (v : Value) (cs : Array Value) (hx : a.eval x = v) (hb : P.built T [(0, v)] = some cs)
    (k : wpList P ops Q rest (a.put dst (.agg cs)) w) : wpList P ops Q (⟨dst, .build T #[(0, x)], ty, pos, aft, none⟩ :: rest) a w := by
  have h : P.built T ((#[(0, x)] : Array (Nat × Operand)).map fun (i, x) => (i, a.eval x)).toList = some cs := by simpa [hx] using hb
  exact wpList_build rfl T #[(0, x)] rfl (by rw [h]; rfl) (by rw [h]; exact k)
theorem built_r (f : Nat → Bool) : Try.prog.built 73 [(0, .agg (bA f))] = some (tA ⟨f, fun _ => 0, fun _ => 0⟩) := by kernel_rfl
section
variable {P : Program} {ops : Array Oper} {rest : List Oper} {dst : Option Tmp} {ty : TypeId} {pos : String} {aft : Array Edge} {gd : Nat × Bool} {a : Act} {w : World} {Q : Exit → Act → World → Prop}
theorem st_partG (T : TypeId) (x : Operand) (g o : Nat) (hx : a.eval x = .pointer (some ⟨g, o, none⟩)) {U : TypeId} {cs pt : Array Value} (h : CB w g U cs) {d : TypeDesc}
    (hp : cs.extract o (o + pt.size) = pt) (hu : P.underlying T = some d) (hd : d.isRow = true) (hi : (P.info? T).map (·.size) = some pt.size) (hw : Region.wanted ⟨dst, .load T x, ty, pos, aft, some gd⟩ (yielded ops a.tmps) = true)
    (k : wpList P ops Q rest (a.put dst (.agg pt)) w) : wpList P ops Q (⟨dst, .load T x, ty, pos, aft, some gd⟩ :: rest) a w :=
  wpList_step fun K hK => by
    rw [if_pos hw]
    unfold Oper.wp execOp
    simp only [hx, Instr.loadAt, Instr.sureAddr, Sem.run_bind, Sem.run_pure, Result.andThen_ok, ld_part (P := P) T g o h hp hu hd hi]
    exact hK _ _ k
theorem st_loadG (T : TypeId) (x : Operand) (g : Nat) (hx : a.eval x = .pointer (some ⟨g, 0, none⟩)) {U : TypeId} {cs : Array Value} (h : CB w g U cs) {d : TypeDesc}
    (hu : P.underlying T = some d) (hd : d.isRow = true) (hi : (P.info? T).map (·.size) = some cs.size) (hw : Region.wanted ⟨dst, .load T x, ty, pos, aft, some gd⟩ (yielded ops a.tmps) = true)
    (k : wpList P ops Q rest (a.put dst (.agg cs)) w) : wpList P ops Q (⟨dst, .load T x, ty, pos, aft, some gd⟩ :: rest) a w := st_partG T x g 0 hx h (by simp) hu hd hi hw k
end
set_option maxRecDepth 100000 in
set_option maxHeartbeats 4000000 in
theorem hear_c (S : Ty) (who : Nat) (x : Int) (w : World) : Calls Try.prog 58 #[.agg (tA S), .int .u8 (who : Int), .int .i64 x] w fun r w' => r = .returned (.tuple #[.agg (tA (sHear S who x)), .int .i64 ((eHear S who x : Nat) : Int)]) ∧ Below w.heap.size w w' := by
  have R1 := fun W => right_c S W
  by_cases hx : rightY S = false ∨ x < 1 ∨ 1048576 < x
  · have HE := Lib.hid (eHear_2 (who := who) hx)
    have HS := Lib.hid (sHear_n (S := S) (who := who) (x := x) (by rw [eHear_2 hx]; decide))
    cases hr : rightY S with
    | false =>
      rw [hr] at R1
      clear hr hx
      go_enter Try.func58, Try.ntmps58
      go_wp2_with (first | ((with_reducible refine st_box 40 _ (tA S) ?_ ?_); exact rfl))
      refine ⟨fun V1 g1 n1 f1 => ?_⟩
      have up1 : w.heap.size ≤ g1 := Nat.le_of_eq f1.at_
      have bl1 := f1.bel
      clear f1
      have l2 := le_tr (Below.refl _ _) bl1
      clear bl1
      go_wp2_with (first | ((with_reducible refine st_alloc 40 (tA zeroY) ?_ ?_); exact zero_c))
      refine ⟨fun V3 g3 n3 f3 => ?_⟩
      have ne3_t := f3.ne n1
      have up3 : w.heap.size ≤ g3 := f3.up l2
      have bl3 := f3.bel
      clear f3
      have r4_t := le_on n1 bl3
      have l4 := le_tr l2 bl3
      clear n1 l2
      clear bl3
      go_wp2_with (first | ((with_reducible refine st_load 40 _ g1 ?_ r4_t Try.underlying40 ?_ ?_ ?_); exact rfl; exact rfl; exact Try.zTc))
      refine (R1 _).mono ?_
      rintro e w5 ⟨rfl, b5⟩
      have r6_t := le_on r4_t b5
      have r6_r := le_on n3 b5
      have l6 := le_tr l4 b5
      clear r4_t n3 l4
      clear b5
      go_wp2_with (first | ((with_reducible refine st_load 40 _ g1 ?_ r6_t Try.underlying40 ?_ ?_ ?_); exact rfl; exact rfl; exact Try.zTc) | ((with_reducible refine st_store 40 _ _ g3 (tA S) ?_ ?_ r6_r ?_ ?_ ?_ ?_); exact rfl; exact rfl; exact Try.zTc; exact rfl; exact tA_one _))
      refine ⟨fun V7 n7 k7 => ?_⟩
      have m7_t := k7.on r6_t ne3_t
      have o7 := k7.bel _ _ l6 up3
      clear k7
      clear r6_r r6_t l6
      go_wp2_with fail
      exact bodyPost_ret (v := .tuple #[.agg (tA S), .int .i64 2]) (res_two Try.results58 rfl rfl n7 Try.underlying40 rfl Try.zTc) rfl ⟨(by rw [HE.out, HS.out] <;> rfl), o7⟩
    | true =>
      rw [hr] at R1
      have E1 : ∀ W, Calls _ _ _ W _ := fun W => epoch_c x W
      rw [show decide (1 ≤ x ∧ x ≤ 1048576) = false by rw [hr] at hx; simp at hx ⊢; omega] at E1
      clear hr hx
      go_enter Try.func58, Try.ntmps58
      go_wp2_with (first | ((with_reducible refine st_box 40 _ (tA S) ?_ ?_); exact rfl))
      refine ⟨fun V1 g1 n1 f1 => ?_⟩
      have up1 : w.heap.size ≤ g1 := Nat.le_of_eq f1.at_
      have bl1 := f1.bel
      clear f1
      have l2 := le_tr (Below.refl _ _) bl1
      clear bl1
      go_wp2_with (first | ((with_reducible refine st_alloc 40 (tA zeroY) ?_ ?_); exact zero_c))
      refine ⟨fun V3 g3 n3 f3 => ?_⟩
      have ne3_t := f3.ne n1
      have up3 : w.heap.size ≤ g3 := f3.up l2
      have bl3 := f3.bel
      clear f3
      have r4_t := le_on n1 bl3
      have l4 := le_tr l2 bl3
      clear n1 l2
      clear bl3
      go_wp2_with (first | ((with_reducible refine st_load 40 _ g1 ?_ r4_t Try.underlying40 ?_ ?_ ?_); exact rfl; exact rfl; exact Try.zTc))
      refine (R1 _).mono ?_
      rintro e w5 ⟨rfl, b5⟩
      have r6_t := le_on r4_t b5
      have r6_r := le_on n3 b5
      have l6 := le_tr l4 b5
      clear r4_t n3 l4
      clear b5
      go_wp2_with fail
      refine (E1 _).mono ?_
      rintro e w7 ⟨rfl, b7⟩
      have r8_t := le_on r6_t b7
      have r8_r := le_on r6_r b7
      have l8 := le_tr l6 b7
      clear r6_t r6_r l6
      clear b7
      go_wp2_with (first | ((with_reducible refine st_load 40 _ g1 ?_ r8_t Try.underlying40 ?_ ?_ ?_); exact rfl; exact rfl; exact Try.zTc) | ((with_reducible refine st_store 40 _ _ g3 (tA S) ?_ ?_ r8_r ?_ ?_ ?_ ?_); exact rfl; exact rfl; exact Try.zTc; exact rfl; exact tA_one _))
      refine ⟨fun V9 n9 k9 => ?_⟩
      have m9_t := k9.on r8_t ne3_t
      have o9 := k9.bel _ _ l8 up3
      clear k9
      clear r8_r r8_t l8
      go_wp2_with fail
      exact bodyPost_ret (v := .tuple #[.agg (tA S), .int .i64 2]) (res_two Try.results58 rfl rfl n9 Try.underlying40 rfl Try.zTc) rfl ⟨(by rw [HE.out, HS.out] <;> rfl), o9⟩
  have hr : rightY S = true := by simp at hx; exact hx.1
  rw [hr] at R1
  have x1 : 1 ≤ x := by simp at hx; omega
  have x2 : x ≤ 1048576 := by simp at hx; omega
  have E1 : ∀ W, Calls _ _ _ W _ := fun W => epoch_c x W
  rw [show decide (1 ≤ x ∧ x ≤ 1048576) = true by simp; omega] at E1
  by_cases h8 : 8 ≤ who
  · have HE := Lib.hid (eHear_7 hx (.inl h8))
    have HS := Lib.hid (sHear_n (S := S) (who := who) (x := x) (by rw [eHear_7 hx (.inl h8)]; decide))
    have q8 : decide (8 ≤ who) = true := by simp; omega
    have q8i : decide ((8 : Int) ≤ (who : Int)) = true := by simp; omega
    clear hr hx
    go_enter Try.func58, Try.ntmps58
    go_wp2_with (first | ((with_reducible refine st_box 40 _ (tA S) ?_ ?_); exact rfl))
    refine ⟨fun V1 g1 n1 f1 => ?_⟩
    have up1 : w.heap.size ≤ g1 := Nat.le_of_eq f1.at_
    have bl1 := f1.bel
    clear f1
    have l2 := le_tr (Below.refl _ _) bl1
    clear bl1
    go_wp2_with (first | ((with_reducible refine st_alloc 40 (tA zeroY) ?_ ?_); exact zero_c))
    refine ⟨fun V3 g3 n3 f3 => ?_⟩
    have ne3_t := f3.ne n1
    have up3 : w.heap.size ≤ g3 := f3.up l2
    have bl3 := f3.bel
    clear f3
    have r4_t := le_on n1 bl3
    have l4 := le_tr l2 bl3
    clear n1 l2
    clear bl3
    go_wp2_with (first | ((with_reducible refine st_load 40 _ g1 ?_ r4_t Try.underlying40 ?_ ?_ ?_); exact rfl; exact rfl; exact Try.zTc))
    refine (R1 _).mono ?_
    rintro e w5 ⟨rfl, b5⟩
    have r6_t := le_on r4_t b5
    have r6_r := le_on n3 b5
    have l6 := le_tr l4 b5
    clear r4_t n3 l4
    clear b5
    go_wp2_with fail
    refine (E1 _).mono ?_
    rintro e w7 ⟨rfl, b7⟩
    have r8_t := le_on r6_t b7
    have r8_r := le_on r6_r b7
    have l8 := le_tr l6 b7
    clear r6_t r6_r l6
    clear b7
    go_wp2_with (first | ((with_reducible refine st_load 40 _ g1 ?_ r8_t Try.underlying40 ?_ ?_ ?_); exact rfl; exact rfl; exact Try.zTc) | ((with_reducible refine st_store 40 _ _ g3 (tA S) ?_ ?_ r8_r ?_ ?_ ?_ ?_); exact rfl; exact rfl; exact Try.zTc; exact rfl; exact tA_one _))
    refine ⟨fun V9 n9 k9 => ?_⟩
    have m9_t := k9.on r8_t ne3_t
    have o9 := k9.bel _ _ l8 up3
    clear k9
    clear r8_r r8_t l8
    go_wp2_with fail
    exact bodyPost_ret (v := .tuple #[.agg (tA S), .int .i64 7]) (res_two Try.results58 rfl rfl n9 Try.underlying40 rfl Try.zTc) rfl ⟨(by rw [HE.out, HS.out] <;> rfl), o9⟩
  have q8 : decide (8 ≤ who) = false := by simp; omega
  have q8i : decide ((8 : Int) ≤ (who : Int)) = false := by simp; omega
  have hlt : who < 8 := by omega
  have j1 : (who : Int) < 8 := by omega
  have j2 : (0 : Int) ≤ (who : Int) := by omega
  obtain ⟨b, hb⟩ : ∃ b, S.wh who = b := ⟨_, rfl⟩
  cases b with
  | false =>
    have HE := Lib.hid (eHear_7 hx (.inr hb))
    have HS := Lib.hid (sHear_n (S := S) (who := who) (x := x) (by rw [eHear_7 hx (.inr hb)]; decide))
    clear hr hx
    go_enter Try.func58, Try.ntmps58
    go_wp2_with (first | ((with_reducible refine st_box 40 _ (tA S) ?_ ?_); exact rfl))
    refine ⟨fun V1 g1 n1 f1 => ?_⟩
    have up1 : w.heap.size ≤ g1 := Nat.le_of_eq f1.at_
    have bl1 := f1.bel
    clear f1
    have l2 := le_tr (Below.refl _ _) bl1
    clear bl1
    go_wp2_with (first | ((with_reducible refine st_alloc 40 (tA zeroY) ?_ ?_); exact zero_c))
    refine ⟨fun V3 g3 n3 f3 => ?_⟩
    have ne3_t := f3.ne n1
    have up3 : w.heap.size ≤ g3 := f3.up l2
    have bl3 := f3.bel
    clear f3
    have r4_t := le_on n1 bl3
    have l4 := le_tr l2 bl3
    clear n1 l2
    clear bl3
    go_wp2_with (first | ((with_reducible refine st_load 40 _ g1 ?_ r4_t Try.underlying40 ?_ ?_ ?_); exact rfl; exact rfl; exact Try.zTc))
    refine (R1 _).mono ?_
    rintro e w5 ⟨rfl, b5⟩
    have r6_t := le_on r4_t b5
    have r6_r := le_on n3 b5
    have l6 := le_tr l4 b5
    clear r4_t n3 l4
    clear b5
    go_wp2_with fail
    refine (E1 _).mono ?_
    rintro e w7 ⟨rfl, b7⟩
    have r8_t := le_on r6_t b7
    have r8_r := le_on r6_r b7
    have l8 := le_tr l6 b7
    clear r6_t r6_r l6
    clear b7
    have cw : w7.cell? ⟨g1, who, none⟩ = some (.bool (S.wh who)) := (CB.cell r8_t (who)).trans (tA_wh S hlt)
    rw [hb] at cw
    go_wp2_with (first | ((with_reducible refine st_load 40 _ g1 ?_ r8_t Try.underlying40 ?_ ?_ ?_); exact rfl; exact rfl; exact Try.zTc) | ((with_reducible refine st_store 40 _ _ g3 (tA S) ?_ ?_ r8_r ?_ ?_ ?_ ?_); exact rfl; exact rfl; exact Try.zTc; exact rfl; exact tA_one _))
    refine ⟨fun V10 n10 k10 => ?_⟩
    have m10_t := k10.on r8_t ne3_t
    have o10 := k10.bel _ _ l8 up3
    clear k10
    clear r8_r r8_t l8
    go_wp2_with fail
    exact bodyPost_ret (v := .tuple #[.agg (tA S), .int .i64 7]) (res_two Try.results58 rfl rfl n10 Try.underlying40 rfl Try.zTc) rfl ⟨(by rw [HE.out, HS.out] <;> rfl), o10⟩
  | true =>
    have hw : ¬ (8 ≤ who ∨ S.wh who = false) := by simp [hb]; omega
    obtain ⟨y, hy⟩ : ∃ y, S.ep who = y := ⟨_, rfl⟩
    by_cases h3 : x < y
    · have HE := Lib.hid (eHear_10 hx hw (by rw [hy]; exact h3))
      have HS := Lib.hid (sHear_n (S := S) (who := who) (x := x) (by rw [HE.out]; decide))
      clear hr hx hw
      go_enter Try.func58, Try.ntmps58
      go_wp2_with (first | ((with_reducible refine st_box 40 _ (tA S) ?_ ?_); exact rfl))
      refine ⟨fun V1 g1 n1 f1 => ?_⟩
      have up1 : w.heap.size ≤ g1 := Nat.le_of_eq f1.at_
      have bl1 := f1.bel
      clear f1
      have l2 := le_tr (Below.refl _ _) bl1
      clear bl1
      go_wp2_with (first | ((with_reducible refine st_alloc 40 (tA zeroY) ?_ ?_); exact zero_c))
      refine ⟨fun V3 g3 n3 f3 => ?_⟩
      have ne3_t := f3.ne n1
      have up3 : w.heap.size ≤ g3 := f3.up l2
      have bl3 := f3.bel
      clear f3
      have r4_t := le_on n1 bl3
      have l4 := le_tr l2 bl3
      clear n1 l2
      clear bl3
      go_wp2_with (first | ((with_reducible refine st_load 40 _ g1 ?_ r4_t Try.underlying40 ?_ ?_ ?_); exact rfl; exact rfl; exact Try.zTc))
      refine (R1 _).mono ?_
      rintro e w5 ⟨rfl, b5⟩
      have r6_t := le_on r4_t b5
      have r6_r := le_on n3 b5
      have l6 := le_tr l4 b5
      clear r4_t n3 l4
      clear b5
      go_wp2_with fail
      refine (E1 _).mono ?_
      rintro e w7 ⟨rfl, b7⟩
      have r8_t := le_on r6_t b7
      have r8_r := le_on r6_r b7
      have l8 := le_tr l6 b7
      clear r6_t r6_r l6
      clear b7
      have cw : w7.cell? ⟨g1, who, none⟩ = some (.bool (S.wh who)) := (CB.cell r8_t (who)).trans (tA_wh S hlt)
      rw [hb] at cw
      have ce : w7.cell? ⟨g1, 16 + who, none⟩ = some (.int .i64 (S.ep who)) := (CB.cell r8_t (16 + who)).trans (tA_ep S hlt)
      rw [hy] at ce
      go_wp2_with (first | ((with_reducible refine st_load 40 _ g1 ?_ r8_t Try.underlying40 ?_ ?_ ?_); exact rfl; exact rfl; exact Try.zTc) | ((with_reducible refine st_store 40 _ _ g3 (tA S) ?_ ?_ r8_r ?_ ?_ ?_ ?_); exact rfl; exact rfl; exact Try.zTc; exact rfl; exact tA_one _))
      refine ⟨fun V11 n11 k11 => ?_⟩
      have m11_t := k11.on r8_t ne3_t
      have o11 := k11.bel _ _ l8 up3
      clear k11
      clear r8_r r8_t l8
      go_wp2_with fail
      exact bodyPost_ret (v := .tuple #[.agg (tA S), .int .i64 10]) (res_two Try.results58 rfl rfl n11 Try.underlying40 rfl Try.zTc) rfl ⟨(by rw [HE.out, HS.out] <;> rfl), o11⟩
    have HE := Lib.hid (eHear_0 hx hw (by rw [hy]; exact h3))
    have HS := Lib.hid (sHear_z HE.out)
    clear hr hx hw
    go_enter Try.func58, Try.ntmps58
    go_wp2_with (first | ((with_reducible refine st_box 40 _ (tA S) ?_ ?_); exact rfl))
    refine ⟨fun V1 g1 n1 f1 => ?_⟩
    have up1 : w.heap.size ≤ g1 := Nat.le_of_eq f1.at_
    have bl1 := f1.bel
    clear f1
    have l2 := le_tr (Below.refl _ _) bl1
    clear bl1
    go_wp2_with (first | ((with_reducible refine st_alloc 40 (tA zeroY) ?_ ?_); exact zero_c))
    refine ⟨fun V3 g3 n3 f3 => ?_⟩
    have ne3_t := f3.ne n1
    have up3 : w.heap.size ≤ g3 := f3.up l2
    have bl3 := f3.bel
    clear f3
    have r4_t := le_on n1 bl3
    have l4 := le_tr l2 bl3
    clear n1 l2
    clear bl3
    go_wp2_with (first | ((with_reducible refine st_load 40 _ g1 ?_ r4_t Try.underlying40 ?_ ?_ ?_); exact rfl; exact rfl; exact Try.zTc))
    refine (R1 _).mono ?_
    rintro e w5 ⟨rfl, b5⟩
    have r6_t := le_on r4_t b5
    have r6_r := le_on n3 b5
    have l6 := le_tr l4 b5
    clear r4_t n3 l4
    clear b5
    go_wp2_with fail
    refine (E1 _).mono ?_
    rintro e w7 ⟨rfl, b7⟩
    have r8_t := le_on r6_t b7
    have r8_r := le_on r6_r b7
    have l8 := le_tr l6 b7
    clear r6_t r6_r l6
    clear b7
    have cw : w7.cell? ⟨g1, who, none⟩ = some (.bool (S.wh who)) := (CB.cell r8_t (who)).trans (tA_wh S hlt)
    rw [hb] at cw
    have ce : w7.cell? ⟨g1, 16 + who, none⟩ = some (.int .i64 (S.ep who)) := (CB.cell r8_t (16 + who)).trans (tA_ep S hlt)
    rw [hy] at ce
    go_wp2_with (first | ((with_reducible refine st_cell 3 _ _ g1 (16 + who) (.int .i64 x) ?_ ?_ r8_t (new := tA (Ty.mk S.wh S.vt (updI S.ep who x))) ?_ ?_ ?_ ?_ ?_ ?_); exact rfl; exact rfl; exact (by rw [tA_size]; omega); exact tA_sep S _ hlt; exact one_i; exact rfl; exact rfl))
    refine ⟨fun V11 n11 k11 => ?_⟩
    have m11_r := k11.on r8_r (Ne.symm ne3_t)
    have o11 := k11.bel _ _ l8 up1
    clear k11
    clear r8_t r8_r l8
    go_wp2_with (first | ((with_reducible refine st_load 40 _ g1 ?_ n11 Try.underlying40 ?_ ?_ ?_); exact rfl; exact rfl; exact Try.zTc) | ((with_reducible refine st_store 40 _ _ g3 (tA (Ty.mk S.wh S.vt (updI S.ep who x))) ?_ ?_ m11_r ?_ ?_ ?_ ?_); exact rfl; exact rfl; exact Try.zTc; exact rfl; exact tA_one _))
    refine ⟨fun V12 n12 k12 => ?_⟩
    have m12_t := k12.on n11 ne3_t
    have o12 := k12.bel _ _ o11 up3
    clear k12
    clear m11_r n11 o11
    go_wp2_with fail
    exact bodyPost_ret (v := .tuple #[.agg (tA (Ty.mk S.wh S.vt (updI S.ep who x))), .int .i64 0]) (res_two Try.results58 rfl rfl n12 Try.underlying40 rfl Try.zTc) rfl ⟨(by rw [HE.out, HS.out] <;> rfl), o12⟩
end Go.Proofs.Ytjfmahceolhfnaa
