/-
  Layer 17: what Decode answers, in plain mathematics; noteOf. Condition: the values fit their letters.
-/
import Derived.Test.YtcfdfimkgehdfaaWqE
import Derived.Test.YtcfdfimkgehdfaaWqC
set_option linter.unusedVariables false
set_option linter.unusedSimpArgs false
namespace Go.Proofs.Ytcfdfimkgehdfaa
open Go.RowKit
open Dk (Nt InN RightN BoundN MsgN NoMsg KindN EpN bound_n)


/-- The ten values at a place. -/
def V10 (V : World) (a0 o0 : Nat) (k b t e v q f g m : Nat) (cg : ByteArray) : Prop := a0 < V.heap.size ∧ V.cell? ⟨a0, o0, none⟩ = some (.int .u64 (k : Int)) ∧ V.cell? ⟨a0, o0 + 2, none⟩ = some (.int .u64 (b : Int)) ∧ V.cell? ⟨a0, o0 + 4, none⟩ = some (.int .u64 (t : Int)) ∧ V.cell? ⟨a0, o0 + 6, none⟩ = some (.int .u64 (e : Int)) ∧ V.cell? ⟨a0, o0 + 8, none⟩ = some (.int .u64 (v : Int)) ∧ V.cell? ⟨a0, o0 + 10, none⟩ = some (.int .u64 (q : Int)) ∧ V.cell? ⟨a0, o0 + 12, none⟩ = some (.int .u64 (f : Int)) ∧ V.cell? ⟨a0, o0 + 14, none⟩ = some (.int .u64 (g : Int)) ∧ V.cell? ⟨a0, o0 + 16, none⟩ = some (.int .u64 (m : Int)) ∧ V.cell? ⟨a0, o0 + 19, none⟩ = some (.string cg)
theorem V10.drew {V : World} {a0 o0 : Nat} {k b t e v q f g m : Nat} {cg : ByteArray} (h : V10 V a0 o0 k b t e v q f g m cg) : V10 V.drew a0 o0 k b t e v q f g m cg := h
theorem V10.on {V V2 : World} {a0 o0 : Nat} {k b t e v q f g m : Nat} {cg : ByteArray} (h : V10 V a0 o0 k b t e v q f g m cg) (hb : Below V.heap.size V V2) : V10 V2 a0 o0 k b t e v q f g m cg := by
  obtain ⟨h0, h1, h2, h3, h4, h5, h6, h7, h8, h9, h10⟩ := h
  have hs := hb.size
  refine ⟨by omega, ?_, ?_, ?_, ?_, ?_, ?_, ?_, ?_, ?_, ?_⟩
  all_goals rw [hb.cell (by simp only; omega)]; assumption
theorem V10.wr {V V2 : World} {a0 o0 g0 : Nat} {k b t e v q f g m : Nat} {cg : ByteArray} (h : V10 V a0 o0 k b t e v q f g m cg) (hk : Wr V V2 g0) (hne : a0 ≠ g0) : V10 V2 a0 o0 k b t e v q f g m cg := by
  obtain ⟨h0, h1, h2, h3, h4, h5, h6, h7, h8, h9, h10⟩ := h
  have hs := hk.size
  refine ⟨by omega, ?_, ?_, ?_, ?_, ?_, ?_, ?_, ?_, ?_, ?_⟩
  all_goals rw [World.cell?, hk.far _ hne]; assumption
theorem vr_10 {W : World} {A : Option Addr} {k b t e v q f g m : Nat} {cg : ByteArray} (h : Dk.VR W A (Dk.cvN ⟨(k : Int), (b : Int), (t : Int), (e : Int), (v : Int), (q : Int), (f : Int), (g : Int), (m : Int), cg⟩)) : ∃ a0 o0, A = some ⟨a0, o0, none⟩ ∧ V10 W a0 o0 k b t e v q f g m cg := by
  obtain ⟨_, _, g0, o0, e0, l0, c0, d0⟩ := h 0 _ rfl
  obtain ⟨_, _, g1, o1, e1, l1, c1, d1⟩ := h 1 _ rfl
  obtain ⟨_, _, g2, o2, e2, l2, c2, d2⟩ := h 2 _ rfl
  obtain ⟨_, _, g3, o3, e3, l3, c3, d3⟩ := h 3 _ rfl
  obtain ⟨_, _, g4, o4, e4, l4, c4, d4⟩ := h 4 _ rfl
  obtain ⟨_, _, g5, o5, e5, l5, c5, d5⟩ := h 5 _ rfl
  obtain ⟨_, _, g6, o6, e6, l6, c6, d6⟩ := h 6 _ rfl
  obtain ⟨_, _, g7, o7, e7, l7, c7, d7⟩ := h 7 _ rfl
  obtain ⟨_, _, g8, o8, e8, l8, c8, d8⟩ := h 8 _ rfl
  obtain ⟨_, _, g9, o9, e9, l9, c9, d9⟩ := h 9 _ rfl
  subst e0
  cases e1
  cases e2
  cases e3
  cases e4
  cases e5
  cases e6
  cases e7
  cases e8
  cases e9
  exact ⟨g0, o0, rfl, l0, by simpa [Dk.cn] using c0, by simpa [Dk.cn] using c1, by simpa [Dk.cn] using c2, by simpa [Dk.cn] using c3, by simpa [Dk.cn] using c4, by simpa [Dk.cn] using c5, by simpa [Dk.cn] using c6, by simpa [Dk.cn] using c7, by simpa [Dk.cn] using c8, by simpa using d9⟩
/-- What the bytes of that shape tell. -/
theorem dec10 (bs : List UInt8) : Dk.okD Dk.shN bs = none ∨ ∃ (k b t e v q f g m : Nat) (cg : ByteArray), Dk.okD Dk.shN bs = some (Dk.cvN ⟨(k : Int), (b : Int), (t : Int), (e : Int), (v : Int), (q : Int), (f : Int), (g : Int), (m : Int), cg⟩) ∧ (k < 256 ∧ b < 256 ∧ t < 65536 ∧ e < 4294967296 ∧ v < 256 ∧ q < 256 ∧ f < 256 ∧ g < 256 ∧ m < 4294967296) := by
  cases ho : Dk.okD Dk.shN bs with
  | none => exact .inl rfl
  | some l =>
    right
    obtain ⟨k1, k2, k3, k4⟩ := Dk.okD_some.1 ho
    match l, k1 with
    | [v0, v1, v2, v3, v4, v5, v6, v7, v8, v9], _ =>
      simp only [Dk.shN, Dk.fitsB, Bool.and_eq_true] at k2
      obtain ⟨h0, h1, h2, h3, h4, h5, h6, h7, h8, h9, _⟩ := k2
      have e0 := Dk.fit_n (by decide) h0
      have e1 := Dk.fit_n (by decide) h1
      have e2 := Dk.fit_n (by decide) h2
      have e3 := Dk.fit_n (by decide) h3
      have e4 := Dk.fit_n (by decide) h4
      have e5 := Dk.fit_n (by decide) h5
      have e6 := Dk.fit_n (by decide) h6
      have e7 := Dk.fit_n (by decide) h7
      have e8 := Dk.fit_n (by decide) h8
      have e9 := Dk.fit_t h9
      have w1 : 256 ^ Dk.wd 97 = 256 := by decide
      have w2 : 256 ^ Dk.wd 98 = 65536 := by decide
      have w4 : 256 ^ Dk.wd 99 = 4294967296 := by decide
      rw [w1] at e0 e1 e4 e5 e6 e7
      rw [w2] at e2
      rw [w4] at e3 e8
      have a9 : v9 = (⟨0, v9.s⟩ : Dk.CV) := Dk.CV.ext_ e9.1 rfl
      refine ⟨v0.n, v1.n, v2.n, v3.n, v4.n, v5.n, v6.n, v7.n, v8.n, v9.s, ?_, by omega⟩
      simp only [Dk.cvN]
      rw [← e0.1, ← e1.1, ← e2.1, ← e3.1, ← e4.1, ← e5.1, ← e6.1, ← e7.1, ← e8.1, ← a9]
/-- Behind Decode. -/
def kD (bs : List UInt8) : Nat := if (Dk.dNt bs).isSome then 0 else 4
def nD (bs : List UInt8) : Nt := (Dk.dNt bs).getD zN
theorem dN_no {bs : List UInt8} (h : Dk.dNt bs = none) : kD bs = 4 ∧ nD bs = zN := by unfold kD nD; rw [h]; exact ⟨rfl, rfl⟩
theorem dN_yes {bs : List UInt8} {n : Nt} (h : Dk.dNt bs = some n) : kD bs = 0 ∧ nD bs = n := by unfold kD nD; rw [h]; exact ⟨rfl, rfl⟩
theorem d_no1 {bs : List UInt8} (h : ¬ (Dk.fE bs = 0 ∧ Dk.fK bs = bs.length)) : kD bs = 4 ∧ nD bs = zN := dN_no (by unfold Dk.dNt; rw [if_neg h])
theorem d_no2 {bs : List UInt8} (h : Dk.okD Dk.shN (Dk.fC bs) = none) : kD bs = 4 ∧ nD bs = zN := dN_no (by unfold Dk.dNt; rw [h]; split <;> rfl)
theorem ofN_nat (k b t e v q f g m : Nat) (cg : ByteArray) : Dk.ofN (Dk.cvN ⟨(k : Int), (b : Int), (t : Int), (e : Int), (v : Int), (q : Int), (f : Int), (g : Int), (m : Int), cg⟩) = ⟨(k : Int), (b : Int), (t : Int), (e : Int), (v : Int), (q : Int), (f : Int), (g : Int), (m : Int), cg⟩ := by simp [Dk.ofN, Dk.cvN, Dk.cn]
theorem d_no3 {bs : List UInt8} {k b t e v q f g m : Nat} {cg : ByteArray} (h : Dk.okD Dk.shN (Dk.fC bs) = some (Dk.cvN ⟨(k : Int), (b : Int), (t : Int), (e : Int), (v : Int), (q : Int), (f : Int), (g : Int), (m : Int), cg⟩)) (hr : ¬ RightN ⟨(k : Int), (b : Int), (t : Int), (e : Int), (v : Int), (q : Int), (f : Int), (g : Int), (m : Int), cg⟩) : kD bs = 4 ∧ nD bs = zN := dN_no (by
  unfold Dk.dNt; rw [h]; simp only; rw [ofN_nat, if_neg hr]; split <;> rfl)
theorem d_yes {bs : List UInt8} {k b t e v q f g m : Nat} {cg : ByteArray} (h1 : Dk.fE bs = 0 ∧ Dk.fK bs = bs.length) (h : Dk.okD Dk.shN (Dk.fC bs) = some (Dk.cvN ⟨(k : Int), (b : Int), (t : Int), (e : Int), (v : Int), (q : Int), (f : Int), (g : Int), (m : Int), cg⟩)) (hr : RightN ⟨(k : Int), (b : Int), (t : Int), (e : Int), (v : Int), (q : Int), (f : Int), (g : Int), (m : Int), cg⟩) : kD bs = 0 ∧ nD bs = ⟨(k : Int), (b : Int), (t : Int), (e : Int), (v : Int), (q : Int), (f : Int), (g : Int), (m : Int), cg⟩ := dN_yes (by
  unfold Dk.dNt; rw [if_pos h1, h]; simp only; rw [ofN_nat, if_pos hr])
def DPost (w : World) (bs : List UInt8) (e : Ending) (w' : World) : Prop := e = .returned (.tuple #[.agg (ntA (nD bs)), .int .i64 ((kD bs : Nat) : Int)]) ∧ Below w.heap.size w w'
theorem dp_no {bs : List UInt8} (h : kD bs = 4 ∧ nD bs = zN) : (Ending.returned (.tuple #[.agg (ntA zN), .int .i64 4])) = .returned (.tuple #[.agg (ntA (nD bs)), .int .i64 ((kD bs : Nat) : Int)]) := by rw [h.1, h.2]; rfl
theorem dp_yes {bs : List UInt8} {n : Nt} (h : kD bs = 0 ∧ nD bs = n) : (Ending.returned (.tuple #[.agg (ntA n), .int .i64 0])) = .returned (.tuple #[.agg (ntA (nD bs)), .int .i64 ((kD bs : Nat) : Int)]) := by rw [h.1, h.2]; rfl
theorem proper_shN : Dk.properB Dk.shN = true := by decide
def TPostn (w : World) (l : List Dk.CV) (e : Ending) (w' : World) : Prop := ∃ A c, e = .returned (.tuple #[.slice A 10 c, .int .i64 0]) ∧ Dk.VR w' A l ∧ Below w.heap.size w w'
def XPost (w : World) (e : Ending) (w' : World) : Prop := ∃ A c, e = .returned (.tuple #[.slice A 0 c, .int .i64 4]) ∧ Below w.heap.size w w'
theorem dec_no {x : List UInt8} (h : Dk.okD Dk.shN x = none) : Dk.eD (Dk.bl shW) x = 4 ∧ Dk.lD (Dk.bl shW) x = [] := by rw [bl_shW]; exact Dk.eD_no proper_shN h
theorem dec_yes {x : List UInt8} {n : Nt} (h : Dk.okD Dk.shN x = some (Dk.cvN n)) : Dk.eD (Dk.bl shW) x = 0 ∧ Dk.lD (Dk.bl shW) x = Dk.cvN n := by rw [bl_shW]; exact Dk.eD_yes proper_shN h
theorem decn_C {x : List UInt8} {n : Nt} (ho : Dk.okD Dk.shN x = some (Dk.cvN n)) (A : Option Addr) (k c : Nat) (w : World) (h : RR w bcl 1 A k c x) : Calls Try.prog 61 #[.string ⟨#[97, 97, 98, 99, 97, 97, 97, 97, 99, 116]⟩, .slice A k c] w (TPostn w (Dk.cvN n)) := by
  have := dec_C A k c x w shW shW_max h
  rw [(dec_yes ho).1, (dec_yes ho).2] at this
  exact this
theorem decx_C {x : List UInt8} (ho : Dk.okD Dk.shN x = none) (A : Option Addr) (k c : Nat) (w : World) (h : RR w bcl 1 A k c x) : Calls Try.prog 61 #[.string ⟨#[97, 97, 98, 99, 97, 97, 97, 97, 99, 116]⟩, .slice A k c] w (XPost w) := by
  have := dec_C A k c x w shW shW_max h
  rw [(dec_no ho).1, (dec_no ho).2] at this
  refine this.mono ?_
  rintro e w' ⟨A', c', rfl, _, hb⟩
  exact ⟨A', c', rfl, hb⟩
section
variable {P : Program} {ev : Operand → Value} {dst : Option Tmp} {ty : TypeId} {pos : String} {aft : Array Edge} {gd : Option (Nat × Bool)} {w : World}
theorem yl_buildk6 (T : TypeId) {x0 x1 x2 x3 x4 x5 : Operand} {v0 v1 v2 v3 v4 v5 : Value} {cs : Array Value} (hb : P.built T [(0, v0), (1, v1), (2, v2), (3, v3), (4, v4), (5, v5)] = some cs) (h0 : ev x0 = v0) (h1 : ev x1 = v1) (h2 : ev x2 = v2) (h3 : ev x3 = v3) (h4 : ev x4 = v4) (h5 : ev x5 = v5) :
    (execOp ev ⟨dst, .build T #[(0, x0), (1, x1), (2, x2), (3, x3), (4, x4), (5, x5)], ty, pos, aft, gd⟩).run P w = .ok (.value (.agg cs)) w := by
  have h := run_build (P := P) w T #[(0, v0), (1, v1), (2, v2), (3, v3), (4, v4), (5, v5)] cs hb
  unfold execOp
  simp [Sem.run_bind, h0, h1, h2, h3, h4, h5, h]
theorem yl_buildk5 (T : TypeId) {x0 x1 x2 x3 x4 : Operand} {v0 v1 v2 v3 v4 : Value} {cs : Array Value} (hb : P.built T [(0, v0), (1, v1), (2, v2), (3, v3), (4, v4)] = some cs) (h0 : ev x0 = v0) (h1 : ev x1 = v1) (h2 : ev x2 = v2) (h3 : ev x3 = v3) (h4 : ev x4 = v4) :
    (execOp ev ⟨dst, .build T #[(0, x0), (1, x1), (2, x2), (3, x3), (4, x4)], ty, pos, aft, gd⟩).run P w = .ok (.value (.agg cs)) w := by
  have h := run_build (P := P) w T #[(0, v0), (1, v1), (2, v2), (3, v3), (4, v4)] cs hb
  unfold execOp
  simp [Sem.run_bind, h0, h1, h2, h3, h4, h]
end
set_option maxRecDepth 100000 in
set_option maxHeartbeats 4000000 in
theorem noteOf_c (k b t e v q f g m : Nat) (cg : ByteArray) (A : Option Addr) (c : Nat) (w : World) (hx : k < 256 ∧ b < 256 ∧ t < 65536 ∧ e < 4294967296 ∧ v < 256 ∧ q < 256 ∧ f < 256 ∧ g < 256 ∧ m < 4294967296) (h : Dk.VR w A (Dk.cvN ⟨(k : Int), (b : Int), (t : Int), (e : Int), (v : Int), (q : Int), (f : Int), (g : Int), (m : Int), cg⟩)) : Calls Try.prog 62 #[.slice A 10 c] w fun zz w' => zz = .returned (.agg (ntA ⟨(k : Int), (b : Int), (t : Int), (e : Int), (v : Int), (q : Int), (f : Int), (g : Int), (m : Int), cg⟩)) ∧ Below w.heap.size w w' := by
  have wk : IntKind.i64.wrap (k : Int) = (k : Int) := IntWalk.i64_in _ (by omega)
  have wb : IntKind.u8.wrap (b : Int) = (b : Int) := IntWalk.u8_in _ (by omega)
  have wt : IntKind.i64.wrap (t : Int) = (t : Int) := IntWalk.i64_in _ (by omega)
  have we : IntKind.i64.wrap (e : Int) = (e : Int) := IntWalk.i64_in _ (by omega)
  have wv : IntKind.i64.wrap (v : Int) = (v : Int) := IntWalk.i64_in _ (by omega)
  have wq : IntKind.i64.wrap (q : Int) = (q : Int) := IntWalk.i64_in _ (by omega)
  have wf : IntKind.u8.wrap (f : Int) = (f : Int) := IntWalk.u8_in _ (by omega)
  have wg : IntKind.u8.wrap (g : Int) = (g : Int) := IntWalk.u8_in _ (by omega)
  have wm : IntKind.i64.wrap (m : Int) = (m : Int) := IntWalk.i64_in _ (by omega)
  clear hx
  obtain ⟨a0, o0, rfl, hv⟩ := vr_10 h
  clear h
  go_enter Try.func62, Try.ntmps62
  have hv1 := hv.1
  go_wp2_with (first | ((with_reducible refine st_alloc 81 (ntA zN) ?_ ?_); exact zero_nc))
  refine ⟨fun V1 g1 n1 f1 => ?_⟩
  have up1 : w.heap.size ≤ g1 := Nat.le_of_eq f1.at_
  have bl1 := f1.bel
  clear f1
  have r3_y := (hv).on bl1
  have l3 := le_tr (Below.refl _ _) bl1
  clear hv
  clear bl1
  have nea : a0 ≠ g1 := by have := up1; omega
  go_wp2_with fail
  have y4 := Lib.hid (show (fun V : World => V10 V a0 o0 k b t e v q f g m cg) V1.drew from (r3_y).drew)
  refine wp_region_held_drew (S := (fun V : World => V10 V a0 o0 k b t e v q f g m cg)) (by kernel_rfl) y4.out (fun hHeld => ?_)
  obtain ⟨D4, hD4⟩ : ∃ V, V1.drew = V := ⟨_, rfl⟩
  have b4 : Below V1.heap.size V1 D4 := by rw [← hD4]; exact le_dr (Below.refl _ _)
  rw [hD4] at hHeld ⊢
  clear hD4
  have r6_r := le_on n1 b4
  have r6_y := (r3_y).on b4
  have l6 := le_tr l3 b4
  clear n1 r3_y l3
  clear b4
  refine wpAnyH_takeL (i := 0) (d := some 3) (v := .slice (some ⟨a0, o0, none⟩) 10 c) rfl rfl (by kernel_rfl) (by kernel_rfl) (by kernel_rfl) (fun _ _ _ h => h) (Or.inl ⟨by rfl, ?_⟩) hHeld ?_
  · intro w hSw; (try dsimp only at hSw); go_simp
  try simp only [Act.put, List.setIfInBounds_toArray, List.set_cons_zero, List.set_cons_succ]
  refine wpAnyH_takeL (i := 1) (d := some 4) (v := .pointer (some ⟨a0, o0, none⟩)) rfl rfl (by kernel_rfl) (by kernel_rfl) (by kernel_rfl) (fun _ _ _ h => h) (Or.inl ⟨by rfl, ?_⟩) hHeld ?_
  · intro w hSw; (try dsimp only at hSw); go_simp
  try simp only [Act.put, List.setIfInBounds_toArray, List.set_cons_zero, List.set_cons_succ]
  refine wpAnyH_takeL (i := 2) (d := some 5) (v := .pointer (some ⟨a0, o0, none⟩)) rfl rfl (by kernel_rfl) (by kernel_rfl) (by kernel_rfl) (fun _ _ _ h => h) (Or.inl ⟨by rfl, ?_⟩) hHeld ?_
  · intro w hSw; (try dsimp only at hSw); go_simp
  try simp only [Act.put, List.setIfInBounds_toArray, List.set_cons_zero, List.set_cons_succ]
  refine wpAnyH_takeL (i := 3) (d := some 6) (v := .int .u64 (k : Int)) rfl rfl (by kernel_rfl) (by kernel_rfl) (by kernel_rfl) (fun _ _ _ h => h) (Or.inl ⟨by rfl, ?_⟩) hHeld ?_
  · intro w hSw; have hcc := hSw.2.1; go_simp
  try simp only [Act.put, List.setIfInBounds_toArray, List.set_cons_zero, List.set_cons_succ]
  refine wpAnyH_takeL (i := 4) (d := some 7) (v := .int .i64 (k : Int)) rfl rfl (by kernel_rfl) (by kernel_rfl) (by kernel_rfl) (fun _ _ _ h => h) (Or.inl ⟨by rfl, ?_⟩) hHeld ?_
  · intro w hSw; (try dsimp only at hSw); go_simp
  try simp only [Act.put, List.setIfInBounds_toArray, List.set_cons_zero, List.set_cons_succ]
  refine wpAnyH_takeL (i := 5) (d := some 8) (v := .slice (some ⟨a0, o0, none⟩) 10 c) rfl rfl (by kernel_rfl) (by kernel_rfl) (by kernel_rfl) (fun _ _ _ h => h) (Or.inl ⟨by rfl, ?_⟩) hHeld ?_
  · intro w hSw; (try dsimp only at hSw); go_simp
  try simp only [Act.put, List.setIfInBounds_toArray, List.set_cons_zero, List.set_cons_succ]
  refine wpAnyH_takeL (i := 6) (d := some 9) (v := .pointer (some ⟨a0, o0 + 2, none⟩)) rfl rfl (by kernel_rfl) (by kernel_rfl) (by kernel_rfl) (fun _ _ _ h => h) (Or.inl ⟨by rfl, ?_⟩) hHeld ?_
  · intro w hSw; (try dsimp only at hSw); go_simp
  try simp only [Act.put, List.setIfInBounds_toArray, List.set_cons_zero, List.set_cons_succ]
  refine wpAnyH_takeL (i := 7) (d := some 10) (v := .pointer (some ⟨a0, o0 + 2, none⟩)) rfl rfl (by kernel_rfl) (by kernel_rfl) (by kernel_rfl) (fun _ _ _ h => h) (Or.inl ⟨by rfl, ?_⟩) hHeld ?_
  · intro w hSw; (try dsimp only at hSw); go_simp
  try simp only [Act.put, List.setIfInBounds_toArray, List.set_cons_zero, List.set_cons_succ]
  refine wpAnyH_takeL (i := 8) (d := some 11) (v := .int .u64 (b : Int)) rfl rfl (by kernel_rfl) (by kernel_rfl) (by kernel_rfl) (fun _ _ _ h => h) (Or.inl ⟨by rfl, ?_⟩) hHeld ?_
  · intro w hSw; have hcc := hSw.2.2.1; go_simp
  try simp only [Act.put, List.setIfInBounds_toArray, List.set_cons_zero, List.set_cons_succ]
  refine wpAnyH_takeL (i := 9) (d := some 12) (v := .int .u8 (b : Int)) rfl rfl (by kernel_rfl) (by kernel_rfl) (by kernel_rfl) (fun _ _ _ h => h) (Or.inl ⟨by rfl, ?_⟩) hHeld ?_
  · intro w hSw; (try dsimp only at hSw); go_simp
  try simp only [Act.put, List.setIfInBounds_toArray, List.set_cons_zero, List.set_cons_succ]
  refine wpAnyH_takeL (i := 10) (d := some 13) (v := .slice (some ⟨a0, o0, none⟩) 10 c) rfl rfl (by kernel_rfl) (by kernel_rfl) (by kernel_rfl) (fun _ _ _ h => h) (Or.inl ⟨by rfl, ?_⟩) hHeld ?_
  · intro w hSw; (try dsimp only at hSw); go_simp
  try simp only [Act.put, List.setIfInBounds_toArray, List.set_cons_zero, List.set_cons_succ]
  refine wpAnyH_takeL (i := 11) (d := some 14) (v := .pointer (some ⟨a0, o0 + 4, none⟩)) rfl rfl (by kernel_rfl) (by kernel_rfl) (by kernel_rfl) (fun _ _ _ h => h) (Or.inl ⟨by rfl, ?_⟩) hHeld ?_
  · intro w hSw; (try dsimp only at hSw); go_simp
  try simp only [Act.put, List.setIfInBounds_toArray, List.set_cons_zero, List.set_cons_succ]
  refine wpAnyH_takeL (i := 12) (d := some 15) (v := .pointer (some ⟨a0, o0 + 4, none⟩)) rfl rfl (by kernel_rfl) (by kernel_rfl) (by kernel_rfl) (fun _ _ _ h => h) (Or.inl ⟨by rfl, ?_⟩) hHeld ?_
  · intro w hSw; (try dsimp only at hSw); go_simp
  try simp only [Act.put, List.setIfInBounds_toArray, List.set_cons_zero, List.set_cons_succ]
  refine wpAnyH_takeL (i := 13) (d := some 16) (v := .int .u64 (t : Int)) rfl rfl (by kernel_rfl) (by kernel_rfl) (by kernel_rfl) (fun _ _ _ h => h) (Or.inl ⟨by rfl, ?_⟩) hHeld ?_
  · intro w hSw; have hcc := hSw.2.2.2.1; go_simp
  try simp only [Act.put, List.setIfInBounds_toArray, List.set_cons_zero, List.set_cons_succ]
  refine wpAnyH_takeL (i := 14) (d := some 17) (v := .int .i64 (t : Int)) rfl rfl (by kernel_rfl) (by kernel_rfl) (by kernel_rfl) (fun _ _ _ h => h) (Or.inl ⟨by rfl, ?_⟩) hHeld ?_
  · intro w hSw; (try dsimp only at hSw); go_simp
  try simp only [Act.put, List.setIfInBounds_toArray, List.set_cons_zero, List.set_cons_succ]
  refine wpAnyH_takeL (i := 15) (d := some 18) (v := .slice (some ⟨a0, o0, none⟩) 10 c) rfl rfl (by kernel_rfl) (by kernel_rfl) (by kernel_rfl) (fun _ _ _ h => h) (Or.inl ⟨by rfl, ?_⟩) hHeld ?_
  · intro w hSw; (try dsimp only at hSw); go_simp
  try simp only [Act.put, List.setIfInBounds_toArray, List.set_cons_zero, List.set_cons_succ]
  refine wpAnyH_takeL (i := 16) (d := some 19) (v := .pointer (some ⟨a0, o0 + 6, none⟩)) rfl rfl (by kernel_rfl) (by kernel_rfl) (by kernel_rfl) (fun _ _ _ h => h) (Or.inl ⟨by rfl, ?_⟩) hHeld ?_
  · intro w hSw; (try dsimp only at hSw); go_simp
  try simp only [Act.put, List.setIfInBounds_toArray, List.set_cons_zero, List.set_cons_succ]
  refine wpAnyH_takeL (i := 17) (d := some 20) (v := .pointer (some ⟨a0, o0 + 6, none⟩)) rfl rfl (by kernel_rfl) (by kernel_rfl) (by kernel_rfl) (fun _ _ _ h => h) (Or.inl ⟨by rfl, ?_⟩) hHeld ?_
  · intro w hSw; (try dsimp only at hSw); go_simp
  try simp only [Act.put, List.setIfInBounds_toArray, List.set_cons_zero, List.set_cons_succ]
  refine wpAnyH_takeL (i := 18) (d := some 21) (v := .int .u64 (e : Int)) rfl rfl (by kernel_rfl) (by kernel_rfl) (by kernel_rfl) (fun _ _ _ h => h) (Or.inl ⟨by rfl, ?_⟩) hHeld ?_
  · intro w hSw; have hcc := hSw.2.2.2.2.1; go_simp
  try simp only [Act.put, List.setIfInBounds_toArray, List.set_cons_zero, List.set_cons_succ]
  refine wpAnyH_takeL (i := 19) (d := some 22) (v := .int .i64 (e : Int)) rfl rfl (by kernel_rfl) (by kernel_rfl) (by kernel_rfl) (fun _ _ _ h => h) (Or.inl ⟨by rfl, ?_⟩) hHeld ?_
  · intro w hSw; (try dsimp only at hSw); go_simp
  try simp only [Act.put, List.setIfInBounds_toArray, List.set_cons_zero, List.set_cons_succ]
  refine wpAnyH_takeL (i := 20) (d := some 23) (v := .slice (some ⟨a0, o0, none⟩) 10 c) rfl rfl (by kernel_rfl) (by kernel_rfl) (by kernel_rfl) (fun _ _ _ h => h) (Or.inl ⟨by rfl, ?_⟩) hHeld ?_
  · intro w hSw; (try dsimp only at hSw); go_simp
  try simp only [Act.put, List.setIfInBounds_toArray, List.set_cons_zero, List.set_cons_succ]
  refine wpAnyH_takeL (i := 21) (d := some 24) (v := .pointer (some ⟨a0, o0 + 8, none⟩)) rfl rfl (by kernel_rfl) (by kernel_rfl) (by kernel_rfl) (fun _ _ _ h => h) (Or.inl ⟨by rfl, ?_⟩) hHeld ?_
  · intro w hSw; (try dsimp only at hSw); go_simp
  try simp only [Act.put, List.setIfInBounds_toArray, List.set_cons_zero, List.set_cons_succ]
  refine wpAnyH_takeL (i := 22) (d := some 25) (v := .pointer (some ⟨a0, o0 + 8, none⟩)) rfl rfl (by kernel_rfl) (by kernel_rfl) (by kernel_rfl) (fun _ _ _ h => h) (Or.inl ⟨by rfl, ?_⟩) hHeld ?_
  · intro w hSw; (try dsimp only at hSw); go_simp
  try simp only [Act.put, List.setIfInBounds_toArray, List.set_cons_zero, List.set_cons_succ]
  refine wpAnyH_takeL (i := 23) (d := some 26) (v := .int .u64 (v : Int)) rfl rfl (by kernel_rfl) (by kernel_rfl) (by kernel_rfl) (fun _ _ _ h => h) (Or.inl ⟨by rfl, ?_⟩) hHeld ?_
  · intro w hSw; have hcc := hSw.2.2.2.2.2.1; go_simp
  try simp only [Act.put, List.setIfInBounds_toArray, List.set_cons_zero, List.set_cons_succ]
  refine wpAnyH_takeL (i := 24) (d := some 27) (v := .int .i64 (v : Int)) rfl rfl (by kernel_rfl) (by kernel_rfl) (by kernel_rfl) (fun _ _ _ h => h) (Or.inl ⟨by rfl, ?_⟩) hHeld ?_
  · intro w hSw; (try dsimp only at hSw); go_simp
  try simp only [Act.put, List.setIfInBounds_toArray, List.set_cons_zero, List.set_cons_succ]
  refine wpAnyH_takeL (i := 25) (d := some 28) (v := .slice (some ⟨a0, o0, none⟩) 10 c) rfl rfl (by kernel_rfl) (by kernel_rfl) (by kernel_rfl) (fun _ _ _ h => h) (Or.inl ⟨by rfl, ?_⟩) hHeld ?_
  · intro w hSw; (try dsimp only at hSw); go_simp
  try simp only [Act.put, List.setIfInBounds_toArray, List.set_cons_zero, List.set_cons_succ]
  refine wpAnyH_takeL (i := 26) (d := some 29) (v := .pointer (some ⟨a0, o0 + 10, none⟩)) rfl rfl (by kernel_rfl) (by kernel_rfl) (by kernel_rfl) (fun _ _ _ h => h) (Or.inl ⟨by rfl, ?_⟩) hHeld ?_
  · intro w hSw; (try dsimp only at hSw); go_simp
  try simp only [Act.put, List.setIfInBounds_toArray, List.set_cons_zero, List.set_cons_succ]
  refine wpAnyH_takeL (i := 27) (d := some 30) (v := .pointer (some ⟨a0, o0 + 10, none⟩)) rfl rfl (by kernel_rfl) (by kernel_rfl) (by kernel_rfl) (fun _ _ _ h => h) (Or.inl ⟨by rfl, ?_⟩) hHeld ?_
  · intro w hSw; (try dsimp only at hSw); go_simp
  try simp only [Act.put, List.setIfInBounds_toArray, List.set_cons_zero, List.set_cons_succ]
  refine wpAnyH_takeL (i := 28) (d := some 31) (v := .int .u64 (q : Int)) rfl rfl (by kernel_rfl) (by kernel_rfl) (by kernel_rfl) (fun _ _ _ h => h) (Or.inl ⟨by rfl, ?_⟩) hHeld ?_
  · intro w hSw; have hcc := hSw.2.2.2.2.2.2.1; go_simp
  try simp only [Act.put, List.setIfInBounds_toArray, List.set_cons_zero, List.set_cons_succ]
  refine wpAnyH_takeL (i := 29) (d := some 32) (v := .int .i64 (q : Int)) rfl rfl (by kernel_rfl) (by kernel_rfl) (by kernel_rfl) (fun _ _ _ h => h) (Or.inl ⟨by rfl, ?_⟩) hHeld ?_
  · intro w hSw; (try dsimp only at hSw); go_simp
  try simp only [Act.put, List.setIfInBounds_toArray, List.set_cons_zero, List.set_cons_succ]
  refine wpAnyH_takeL (i := 30) (d := some 33) (v := .slice (some ⟨a0, o0, none⟩) 10 c) rfl rfl (by kernel_rfl) (by kernel_rfl) (by kernel_rfl) (fun _ _ _ h => h) (Or.inl ⟨by rfl, ?_⟩) hHeld ?_
  · intro w hSw; (try dsimp only at hSw); go_simp
  try simp only [Act.put, List.setIfInBounds_toArray, List.set_cons_zero, List.set_cons_succ]
  refine wpAnyH_takeL (i := 31) (d := some 34) (v := .pointer (some ⟨a0, o0 + 12, none⟩)) rfl rfl (by kernel_rfl) (by kernel_rfl) (by kernel_rfl) (fun _ _ _ h => h) (Or.inl ⟨by rfl, ?_⟩) hHeld ?_
  · intro w hSw; (try dsimp only at hSw); go_simp
  try simp only [Act.put, List.setIfInBounds_toArray, List.set_cons_zero, List.set_cons_succ]
  refine wpAnyH_takeL (i := 32) (d := some 35) (v := .pointer (some ⟨a0, o0 + 12, none⟩)) rfl rfl (by kernel_rfl) (by kernel_rfl) (by kernel_rfl) (fun _ _ _ h => h) (Or.inl ⟨by rfl, ?_⟩) hHeld ?_
  · intro w hSw; (try dsimp only at hSw); go_simp
  try simp only [Act.put, List.setIfInBounds_toArray, List.set_cons_zero, List.set_cons_succ]
  refine wpAnyH_takeL (i := 33) (d := some 36) (v := .int .u64 (f : Int)) rfl rfl (by kernel_rfl) (by kernel_rfl) (by kernel_rfl) (fun _ _ _ h => h) (Or.inl ⟨by rfl, ?_⟩) hHeld ?_
  · intro w hSw; have hcc := hSw.2.2.2.2.2.2.2.1; go_simp
  try simp only [Act.put, List.setIfInBounds_toArray, List.set_cons_zero, List.set_cons_succ]
  refine wpAnyH_takeL (i := 34) (d := some 37) (v := .int .u8 (f : Int)) rfl rfl (by kernel_rfl) (by kernel_rfl) (by kernel_rfl) (fun _ _ _ h => h) (Or.inl ⟨by rfl, ?_⟩) hHeld ?_
  · intro w hSw; (try dsimp only at hSw); go_simp
  try simp only [Act.put, List.setIfInBounds_toArray, List.set_cons_zero, List.set_cons_succ]
  refine wpAnyH_takeL (i := 35) (d := some 38) (v := .slice (some ⟨a0, o0, none⟩) 10 c) rfl rfl (by kernel_rfl) (by kernel_rfl) (by kernel_rfl) (fun _ _ _ h => h) (Or.inl ⟨by rfl, ?_⟩) hHeld ?_
  · intro w hSw; (try dsimp only at hSw); go_simp
  try simp only [Act.put, List.setIfInBounds_toArray, List.set_cons_zero, List.set_cons_succ]
  refine wpAnyH_takeL (i := 36) (d := some 39) (v := .pointer (some ⟨a0, o0 + 14, none⟩)) rfl rfl (by kernel_rfl) (by kernel_rfl) (by kernel_rfl) (fun _ _ _ h => h) (Or.inl ⟨by rfl, ?_⟩) hHeld ?_
  · intro w hSw; (try dsimp only at hSw); go_simp
  try simp only [Act.put, List.setIfInBounds_toArray, List.set_cons_zero, List.set_cons_succ]
  refine wpAnyH_takeL (i := 37) (d := some 40) (v := .pointer (some ⟨a0, o0 + 14, none⟩)) rfl rfl (by kernel_rfl) (by kernel_rfl) (by kernel_rfl) (fun _ _ _ h => h) (Or.inl ⟨by rfl, ?_⟩) hHeld ?_
  · intro w hSw; (try dsimp only at hSw); go_simp
  try simp only [Act.put, List.setIfInBounds_toArray, List.set_cons_zero, List.set_cons_succ]
  refine wpAnyH_takeL (i := 38) (d := some 41) (v := .int .u64 (g : Int)) rfl rfl (by kernel_rfl) (by kernel_rfl) (by kernel_rfl) (fun _ _ _ h => h) (Or.inl ⟨by rfl, ?_⟩) hHeld ?_
  · intro w hSw; have hcc := hSw.2.2.2.2.2.2.2.2.1; go_simp
  try simp only [Act.put, List.setIfInBounds_toArray, List.set_cons_zero, List.set_cons_succ]
  refine wpAnyH_takeL (i := 39) (d := some 42) (v := .int .u8 (g : Int)) rfl rfl (by kernel_rfl) (by kernel_rfl) (by kernel_rfl) (fun _ _ _ h => h) (Or.inl ⟨by rfl, ?_⟩) hHeld ?_
  · intro w hSw; (try dsimp only at hSw); go_simp
  try simp only [Act.put, List.setIfInBounds_toArray, List.set_cons_zero, List.set_cons_succ]
  refine wpAnyH_takeL (i := 40) (d := some 43) (v := .slice (some ⟨a0, o0, none⟩) 10 c) rfl rfl (by kernel_rfl) (by kernel_rfl) (by kernel_rfl) (fun _ _ _ h => h) (Or.inl ⟨by rfl, ?_⟩) hHeld ?_
  · intro w hSw; (try dsimp only at hSw); go_simp
  try simp only [Act.put, List.setIfInBounds_toArray, List.set_cons_zero, List.set_cons_succ]
  refine wpAnyH_takeL (i := 41) (d := some 44) (v := .pointer (some ⟨a0, o0 + 16, none⟩)) rfl rfl (by kernel_rfl) (by kernel_rfl) (by kernel_rfl) (fun _ _ _ h => h) (Or.inl ⟨by rfl, ?_⟩) hHeld ?_
  · intro w hSw; (try dsimp only at hSw); go_simp
  try simp only [Act.put, List.setIfInBounds_toArray, List.set_cons_zero, List.set_cons_succ]
  refine wpAnyH_takeL (i := 42) (d := some 45) (v := .pointer (some ⟨a0, o0 + 16, none⟩)) rfl rfl (by kernel_rfl) (by kernel_rfl) (by kernel_rfl) (fun _ _ _ h => h) (Or.inl ⟨by rfl, ?_⟩) hHeld ?_
  · intro w hSw; (try dsimp only at hSw); go_simp
  try simp only [Act.put, List.setIfInBounds_toArray, List.set_cons_zero, List.set_cons_succ]
  refine wpAnyH_takeL (i := 43) (d := some 46) (v := .int .u64 (m : Int)) rfl rfl (by kernel_rfl) (by kernel_rfl) (by kernel_rfl) (fun _ _ _ h => h) (Or.inl ⟨by rfl, ?_⟩) hHeld ?_
  · intro w hSw; have hcc := hSw.2.2.2.2.2.2.2.2.2.1; go_simp
  try simp only [Act.put, List.setIfInBounds_toArray, List.set_cons_zero, List.set_cons_succ]
  refine wpAnyH_takeL (i := 44) (d := some 47) (v := .int .i64 (m : Int)) rfl rfl (by kernel_rfl) (by kernel_rfl) (by kernel_rfl) (fun _ _ _ h => h) (Or.inl ⟨by rfl, ?_⟩) hHeld ?_
  · intro w hSw; (try dsimp only at hSw); go_simp
  try simp only [Act.put, List.setIfInBounds_toArray, List.set_cons_zero, List.set_cons_succ]
  refine wpAnyH_takeL (i := 45) (d := some 48) (v := .slice (some ⟨a0, o0, none⟩) 10 c) rfl rfl (by kernel_rfl) (by kernel_rfl) (by kernel_rfl) (fun _ _ _ h => h) (Or.inl ⟨by rfl, ?_⟩) hHeld ?_
  · intro w hSw; (try dsimp only at hSw); go_simp
  try simp only [Act.put, List.setIfInBounds_toArray, List.set_cons_zero, List.set_cons_succ]
  refine wpAnyH_takeL (i := 46) (d := some 49) (v := .pointer (some ⟨a0, o0 + 18, none⟩)) rfl rfl (by kernel_rfl) (by kernel_rfl) (by kernel_rfl) (fun _ _ _ h => h) (Or.inl ⟨by rfl, ?_⟩) hHeld ?_
  · intro w hSw; (try dsimp only at hSw); go_simp
  try simp only [Act.put, List.setIfInBounds_toArray, List.set_cons_zero, List.set_cons_succ]
  refine wpAnyH_takeL (i := 47) (d := some 50) (v := .pointer (some ⟨a0, o0 + 19, none⟩)) rfl rfl (by kernel_rfl) (by kernel_rfl) (by kernel_rfl) (fun _ _ _ h => h) (Or.inl ⟨by rfl, ?_⟩) hHeld ?_
  · intro w hSw; (try dsimp only at hSw); go_simp
  try simp only [Act.put, List.setIfInBounds_toArray, List.set_cons_zero, List.set_cons_succ]
  refine wpAnyH_takeL (i := 48) (d := some 51) (v := .string cg) rfl rfl (by kernel_rfl) (by kernel_rfl) (by kernel_rfl) (fun _ _ _ h => h) (Or.inl ⟨by rfl, ?_⟩) hHeld ?_
  · intro w hSw; have hcc := hSw.2.2.2.2.2.2.2.2.2.2; go_simp
  try simp only [Act.put, List.setIfInBounds_toArray, List.set_cons_zero, List.set_cons_succ]
  refine wpAnyH_takeL (i := 49) (d := some 52) (v := .agg (mgA ⟨(k : Int), (b : Int), (t : Int), (e : Int), (v : Int), (q : Int), (f : Int), (g : Int), (m : Int), cg⟩)) rfl rfl (by kernel_rfl) (by kernel_rfl) (by kernel_rfl) (fun _ _ _ h => h) (Or.inl ⟨by rfl, ?_⟩) hHeld ?_
  · intro w hSw; exact yl_buildk5 _ (built_m5 ⟨(k : Int), (b : Int), (t : Int), (e : Int), (v : Int), (q : Int), (f : Int), (g : Int), (m : Int), cg⟩) rfl rfl rfl rfl rfl
  try simp only [Act.put, List.setIfInBounds_toArray, List.set_cons_zero, List.set_cons_succ]
  refine wpAnyH_takeL (i := 50) (d := some 53) (v := .agg (ntA ⟨(k : Int), (b : Int), (t : Int), (e : Int), (v : Int), (q : Int), (f : Int), (g : Int), (m : Int), cg⟩)) rfl rfl (by kernel_rfl) (by kernel_rfl) (by kernel_rfl) (fun _ _ _ h => h) (Or.inl ⟨by rfl, ?_⟩) hHeld ?_
  · intro w hSw; exact yl_buildk6 _ (built_n6 ⟨(k : Int), (b : Int), (t : Int), (e : Int), (v : Int), (q : Int), (f : Int), (g : Int), (m : Int), cg⟩) rfl rfl rfl rfl rfl rfl
  try simp only [Act.put, List.setIfInBounds_toArray, List.set_cons_zero, List.set_cons_succ]
  refine wpAnyH_ready (rs := [51]) (by kernel_rfl) (by simp) ?_
  refine AllReadyH.cons rfl (fun K hK => ?_) AllReadyH.nil
  refine rd_store rfl 81 _ _ rfl none rfl g1 (ntA ⟨(k : Int), (b : Int), (t : Int), (e : Int), (v : Int), (q : Int), (f : Int), (g : Int), (m : Int), cg⟩) rfl rfl r6_r Try.zNc rfl (ntA_one _) ?_
  refine ⟨fun V7 n7 k7 => ?_⟩
  have m7_y := V10.wr r6_y k7 nea
  have o7 := k7.bel _ _ l6 up1
  clear k7
  clear r6_r r6_y l6
  have y8 := Lib.hid (show (fun V : World => V10 V a0 o0 k b t e v q f g m cg) V7 from m7_y)
  refine hK.out _ _ y8.out (fun hHeld => ?_)
  clear hK K y8
  try simp only [Act.put, List.setIfInBounds_toArray, List.set_cons_zero, List.set_cons_succ]
  refine wpAnyH_done (by kernel_rfl) ?_ _
  go_wp2_with fail
  exact bodyPost_ret (v := .agg (ntA ⟨(k : Int), (b : Int), (t : Int), (e : Int), (v : Int), (q : Int), (f : Int), (g : Int), (m : Int), cg⟩)) (res_one Try.results62 rfl n7 Try.underlying81 rfl Try.zNc) rfl ⟨rfl, o7⟩
end Go.Proofs.Ytcfdfimkgehdfaa

/-
  Layer 17: Decode of package note. Condition: the bytes can be read.
-/
set_option linter.unusedVariables false
set_option linter.unusedSimpArgs false
namespace Go.Proofs.Ytcfdfimkgehdfaa
open Go.RowKit
open Dk (Nt InN RightN BoundN MsgN NoMsg KindN EpN bound_n)


set_option maxRecDepth 100000 in
set_option maxHeartbeats 4000000 in
theorem decode_c (A : Option Addr) (n c : Nat) (bs : List UInt8) (w : World) (hb : RR w bcl 1 A n c bs) : Calls Try.prog 30 #[.slice A n c] w (DPost w bs) := by
  have hlen := Lib.hid hb.len
  have hl := RL.start hb
  obtain ⟨x, hx⟩ : ∃ x, Dk.fC bs = x := ⟨_, rfl⟩
  obtain ⟨e0, he⟩ : ∃ x, Dk.fE bs = x := ⟨_, rfl⟩
  obtain ⟨k0, hk⟩ : ∃ x, Dk.fK bs = x := ⟨_, rfl⟩
  have C1 := fun V (h : RR V bcl 1 A n c bs) => first_C A n c bs V h
  unfold FstPost at C1
  rw [hx, he, hk] at C1
  by_cases h1 : e0 = 0 ∧ k0 = n
  rotate_left
  · have HN := Lib.hid (d_no1 (bs := bs) (by rw [he, hk, hlen.out]; exact h1))
    by_cases h3 : e0 = 0
    · have q0 : ((e0 : Int) != 0) = false := by simp [h3]
      have q1 : ((k0 : Int) != (n : Int)) = true := by simp; omega
      have q2 : (k0 != n) = true := by simp; omega
      clear h1 h3 he hk hx
      go_enter Try.func30, Try.ntmps30
      go_wp2_with (first | ((with_reducible refine st_alloc 81 (ntA zN) ?_ ?_); exact zero_nc))
      refine ⟨fun V1 g1 n1 f1 => ?_⟩
      have up1 : w.heap.size ≤ g1 := Nat.le_of_eq f1.at_
      have bl1 := f1.bel
      clear f1
      have r3_l := (hl).on bl1
      have l3 := le_tr (Below.refl _ _) bl1
      clear hl
      clear bl1
      go_wp2_with fail
      (with_reducible refine (C1 _ (r3_l).rr).mono ?_)
      rintro e w4 ⟨A2, n2, c2, rfl, h2, b4⟩
      have r6_r := le_on n1 b4
      have l6 := le_tr l3 b4
      clear n1 r3_l l3
      clear b4
      clear h2
      go_wp2_with (first | ((with_reducible refine st_store 81 _ _ g1 (ntA zN) ?_ ?_ r6_r ?_ ?_ ?_ ?_); exact rfl; exact rfl; exact Try.zNc; exact rfl; exact ntA_one _))
      refine ⟨fun V7 n7 k7 => ?_⟩
      have o7 := k7.bel _ _ l6 up1
      clear k7
      clear r6_r l6
      go_wp2_with fail
      exact bodyPost_ret (v := .tuple #[.agg (ntA zN), .int .i64 4]) (res_two Try.results30 rfl rfl n7 Try.underlying81 rfl Try.zNc) rfl ⟨dp_no HN.out, o7⟩
    have q0 : ((e0 : Int) != 0) = true := by simp; omega
    have q3 : (e0 != 0) = true := by simp [h3]
    clear h1 h3 he hk hx
    go_enter Try.func30, Try.ntmps30
    go_wp2_with (first | ((with_reducible refine st_alloc 81 (ntA zN) ?_ ?_); exact zero_nc))
    refine ⟨fun V1 g1 n1 f1 => ?_⟩
    have up1 : w.heap.size ≤ g1 := Nat.le_of_eq f1.at_
    have bl1 := f1.bel
    clear f1
    have r3_l := (hl).on bl1
    have l3 := le_tr (Below.refl _ _) bl1
    clear hl
    clear bl1
    go_wp2_with fail
    (with_reducible refine (C1 _ (r3_l).rr).mono ?_)
    rintro e w4 ⟨A2, n2, c2, rfl, h2, b4⟩
    have r6_r := le_on n1 b4
    have l6 := le_tr l3 b4
    clear n1 r3_l l3
    clear b4
    clear h2
    go_wp2_with (first | ((with_reducible refine st_store 81 _ _ g1 (ntA zN) ?_ ?_ r6_r ?_ ?_ ?_ ?_); exact rfl; exact rfl; exact Try.zNc; exact rfl; exact ntA_one _))
    refine ⟨fun V7 n7 k7 => ?_⟩
    have o7 := k7.bel _ _ l6 up1
    clear k7
    clear r6_r l6
    go_wp2_with fail
    exact bodyPost_ret (v := .tuple #[.agg (ntA zN), .int .i64 4]) (res_two Try.results30 rfl rfl n7 Try.underlying81 rfl Try.zNc) rfl ⟨dp_no HN.out, o7⟩
  obtain ⟨rfl, rfl⟩ := h1
  have HY := Lib.hid (show Dk.fE bs = 0 ∧ Dk.fK bs = bs.length from ⟨he, by rw [hk, hlen.out]⟩)
  have q0 : (((0 : Nat) : Int) != 0) = false := by simp
  have q1 : ((k0 : Int) != (k0 : Int)) = false := by simp
  have q2 : (k0 != k0) = false := by simp
  clear he hk
  rcases dec10 x with ho | ⟨k, b, t, e, v, q, f, g, m, cg, ho, hw⟩
  · have HO := Lib.hid ho
    have HN := Lib.hid (d_no2 (bs := bs) (by rw [hx]; exact ho))
    clear ho
    go_enter Try.func30, Try.ntmps30
    go_wp2_with (first | ((with_reducible refine st_alloc 81 (ntA zN) ?_ ?_); exact zero_nc))
    refine ⟨fun V1 g1 n1 f1 => ?_⟩
    have up1 : w.heap.size ≤ g1 := Nat.le_of_eq f1.at_
    have bl1 := f1.bel
    clear f1
    have r3_l := (hl).on bl1
    have l3 := le_tr (Below.refl _ _) bl1
    clear hl
    clear bl1
    go_wp2_with fail
    (with_reducible refine (C1 _ (r3_l).rr).mono ?_)
    rintro e w4 ⟨A2, n2, c2, rfl, h2, b4⟩
    have r6_r := le_on n1 b4
    have l6 := le_tr l3 b4
    clear n1 r3_l l3
    clear b4
    go_wp2_with fail
    (with_reducible refine (decx_C HO.out _ _ _ _ h2).mono ?_)
    rintro e w7 ⟨A3, c3, rfl, b7⟩
    have r9_r := le_on r6_r b7
    have r9_y := (h2).on b7
    have l9 := le_tr l6 b7
    clear r6_r h2 l6
    clear b7
    clear r9_y
    go_wp2_with (first | ((with_reducible refine st_store 81 _ _ g1 (ntA zN) ?_ ?_ r9_r ?_ ?_ ?_ ?_); exact rfl; exact rfl; exact Try.zNc; exact rfl; exact ntA_one _))
    refine ⟨fun V10 n10 k10 => ?_⟩
    have o10 := k10.bel _ _ l9 up1
    clear k10
    clear r9_r l9
    go_wp2_with fail
    exact bodyPost_ret (v := .tuple #[.agg (ntA zN), .int .i64 4]) (res_two Try.results30 rfl rfl n10 Try.underlying81 rfl Try.zNc) rfl ⟨dp_no HN.out, o10⟩
  have HO := Lib.hid ho
  have HR1 := fun h => Lib.hid (d_no3 (bs := bs) (by rw [hx]; exact ho) h)
  have HR2 := fun h => Lib.hid (d_yes (bs := bs) HY.out (by rw [hx]; exact ho) h)
  clear ho
  have C5 := fun W => right_c ⟨(k : Int), (b : Int), (t : Int), (e : Int), (v : Int), (q : Int), (f : Int), (g : Int), (m : Int), cg⟩ W
  by_cases hr : RightN ⟨(k : Int), (b : Int), (t : Int), (e : Int), (v : Int), (q : Int), (f : Int), (g : Int), (m : Int), cg⟩
  · skip
    simp only [decide_eq_true hr] at C5
    have HZ := HR2 hr
    clear hr HR1 HR2
    go_enter Try.func30, Try.ntmps30
    go_wp2_with (first | ((with_reducible refine st_alloc 81 (ntA zN) ?_ ?_); exact zero_nc))
    refine ⟨fun V1 g1 n1 f1 => ?_⟩
    have up1 : w.heap.size ≤ g1 := Nat.le_of_eq f1.at_
    have bl1 := f1.bel
    clear f1
    have r3_l := (hl).on bl1
    have l3 := le_tr (Below.refl _ _) bl1
    clear hl
    clear bl1
    go_wp2_with fail
    (with_reducible refine (C1 _ (r3_l).rr).mono ?_)
    rintro e w4 ⟨A2, n2, c2, rfl, h2, b4⟩
    have r6_r := le_on n1 b4
    have l6 := le_tr l3 b4
    clear n1 r3_l l3
    clear b4
    go_wp2_with fail
    (with_reducible refine (decn_C HO.out _ _ _ _ h2).mono ?_)
    rintro e w7 ⟨A3, c3, rfl, h5, b7⟩
    have r9_r := le_on r6_r b7
    have r9_y := (h2).on b7
    have l9 := le_tr l6 b7
    clear r6_r h2 l6
    clear b7
    go_wp2_with fail
    (with_reducible refine (noteOf_c k b t e v q f g m cg _ _ _ hw h5).mono ?_)
    rintro e w10 ⟨rfl, b10⟩
    have r12_r := le_on r9_r b10
    have r12_y := (h5).on b10
    have l12 := le_tr l9 b10
    clear r9_r h5 l9
    clear b10
    go_wp2_with (first | ((with_reducible refine st_alloc 81 (ntA zN) ?_ ?_); exact zero_nc))
    refine ⟨fun V13 g13 n13 f13 => ?_⟩
    have ne13_r := f13.ne r12_r
    have up13 : w.heap.size ≤ g13 := f13.up l12
    have bl13 := f13.bel
    clear f13
    have r15_r := le_on r12_r bl13
    have l15 := le_tr l12 bl13
    clear r12_r l12
    clear bl13
    go_wp2_with (first | ((with_reducible refine st_store 81 _ _ g13 (ntA ⟨(k : Int), (b : Int), (t : Int), (e : Int), (v : Int), (q : Int), (f : Int), (g : Int), (m : Int), cg⟩) ?_ ?_ n13 ?_ ?_ ?_ ?_); exact rfl; exact rfl; exact Try.zNc; exact rfl; exact ntA_one _))
    refine ⟨fun V16 n16 k16 => ?_⟩
    have m16_r := k16.on r15_r ne13_r
    have o16 := k16.bel _ _ l15 up13
    clear k16
    clear n13 r15_r l15
    go_wp2_with (first | (first | ((with_reducible refine st_load 81 _ g13 ?_ n16 Try.underlying81 ?_ ?_ ?_); exact rfl; exact rfl; exact Try.zNc) | ((with_reducible refine st_loadG 81 _ g13 ?_ n16 Try.underlying81 ?_ ?_ ?_ ?_); exact rfl; exact rfl; exact Try.zNc; exact rfl)))
    (with_reducible refine (C5 _).mono ?_)
    rintro e w17 ⟨rfl, b17⟩
    have r19_r := le_on m16_r b17
    have r19_n := le_on n16 b17
    have l19 := le_tr o16 b17
    clear m16_r n16 o16
    clear b17
    go_wp2_with (first | (first | ((with_reducible refine st_load 81 _ g13 ?_ r19_n Try.underlying81 ?_ ?_ ?_); exact rfl; exact rfl; exact Try.zNc) | ((with_reducible refine st_loadG 81 _ g13 ?_ r19_n Try.underlying81 ?_ ?_ ?_ ?_); exact rfl; exact rfl; exact Try.zNc; exact rfl)) | ((with_reducible refine st_store 81 _ _ g1 (ntA ⟨(k : Int), (b : Int), (t : Int), (e : Int), (v : Int), (q : Int), (f : Int), (g : Int), (m : Int), cg⟩) ?_ ?_ r19_r ?_ ?_ ?_ ?_); exact rfl; exact rfl; exact Try.zNc; exact rfl; exact ntA_one _))
    refine ⟨fun V20 n20 k20 => ?_⟩
    have m20_n := k20.on r19_n (Ne.symm ne13_r)
    have o20 := k20.bel _ _ l19 up1
    clear k20
    clear r19_r r19_n l19
    go_wp2_with fail
    exact bodyPost_ret (v := .tuple #[.agg (ntA ⟨(k : Int), (b : Int), (t : Int), (e : Int), (v : Int), (q : Int), (f : Int), (g : Int), (m : Int), cg⟩), .int .i64 0]) (res_two Try.results30 rfl rfl n20 Try.underlying81 rfl Try.zNc) rfl ⟨dp_yes HZ.out, o20⟩
  simp only [decide_eq_false hr] at C5
  have HZ := HR1 hr
  clear hr HR1 HR2
  go_enter Try.func30, Try.ntmps30
  go_wp2_with (first | ((with_reducible refine st_alloc 81 (ntA zN) ?_ ?_); exact zero_nc))
  refine ⟨fun V1 g1 n1 f1 => ?_⟩
  have up1 : w.heap.size ≤ g1 := Nat.le_of_eq f1.at_
  have bl1 := f1.bel
  clear f1
  have r3_l := (hl).on bl1
  have l3 := le_tr (Below.refl _ _) bl1
  clear hl
  clear bl1
  go_wp2_with fail
  (with_reducible refine (C1 _ (r3_l).rr).mono ?_)
  rintro e w4 ⟨A2, n2, c2, rfl, h2, b4⟩
  have r6_r := le_on n1 b4
  have l6 := le_tr l3 b4
  clear n1 r3_l l3
  clear b4
  go_wp2_with fail
  (with_reducible refine (decn_C HO.out _ _ _ _ h2).mono ?_)
  rintro e w7 ⟨A3, c3, rfl, h5, b7⟩
  have r9_r := le_on r6_r b7
  have r9_y := (h2).on b7
  have l9 := le_tr l6 b7
  clear r6_r h2 l6
  clear b7
  go_wp2_with fail
  (with_reducible refine (noteOf_c k b t e v q f g m cg _ _ _ hw h5).mono ?_)
  rintro e w10 ⟨rfl, b10⟩
  have r12_r := le_on r9_r b10
  have r12_y := (h5).on b10
  have l12 := le_tr l9 b10
  clear r9_r h5 l9
  clear b10
  go_wp2_with (first | ((with_reducible refine st_alloc 81 (ntA zN) ?_ ?_); exact zero_nc))
  refine ⟨fun V13 g13 n13 f13 => ?_⟩
  have ne13_r := f13.ne r12_r
  have up13 : w.heap.size ≤ g13 := f13.up l12
  have bl13 := f13.bel
  clear f13
  have r15_r := le_on r12_r bl13
  have l15 := le_tr l12 bl13
  clear r12_r l12
  clear bl13
  go_wp2_with (first | ((with_reducible refine st_store 81 _ _ g13 (ntA ⟨(k : Int), (b : Int), (t : Int), (e : Int), (v : Int), (q : Int), (f : Int), (g : Int), (m : Int), cg⟩) ?_ ?_ n13 ?_ ?_ ?_ ?_); exact rfl; exact rfl; exact Try.zNc; exact rfl; exact ntA_one _))
  refine ⟨fun V16 n16 k16 => ?_⟩
  have m16_r := k16.on r15_r ne13_r
  have o16 := k16.bel _ _ l15 up13
  clear k16
  clear n13 r15_r l15
  go_wp2_with (first | (first | ((with_reducible refine st_load 81 _ g13 ?_ n16 Try.underlying81 ?_ ?_ ?_); exact rfl; exact rfl; exact Try.zNc) | ((with_reducible refine st_loadG 81 _ g13 ?_ n16 Try.underlying81 ?_ ?_ ?_ ?_); exact rfl; exact rfl; exact Try.zNc; exact rfl)))
  (with_reducible refine (C5 _).mono ?_)
  rintro e w17 ⟨rfl, b17⟩
  have r19_r := le_on m16_r b17
  have r19_n := le_on n16 b17
  have l19 := le_tr o16 b17
  clear m16_r n16 o16
  clear b17
  go_wp2_with (first | ((with_reducible refine st_store 81 _ _ g1 (ntA zN) ?_ ?_ r19_r ?_ ?_ ?_ ?_); exact rfl; exact rfl; exact Try.zNc; exact rfl; exact ntA_one _))
  refine ⟨fun V20 n20 k20 => ?_⟩
  have m20_n := k20.on r19_n (Ne.symm ne13_r)
  have o20 := k20.bel _ _ l19 up1
  clear k20
  clear r19_r r19_n l19
  go_wp2_with fail
  exact bodyPost_ret (v := .tuple #[.agg (ntA zN), .int .i64 4]) (res_two Try.results30 rfl rfl n20 Try.underlying81 rfl Try.zNc) rfl ⟨dp_no HZ.out, o20⟩
end Go.Proofs.Ytcfdfimkgehdfaa

/-
  Layer 17: what the laws call, told by what comes of it; alive. Conditions: the bytes are in their type's range, the bytes can be read.
-/
set_option linter.unusedVariables false
set_option linter.unusedSimpArgs false
namespace Go.Proofs.Ytcfdfimkgehdfaa
open Go.RowKit
open Dk (Nt InN RightN BoundN MsgN NoMsg KindN EpN bound_n)


/-- Encode and Decode, told by what comes of them. -/
def GPostn (w : World) (bs : List UInt8) (k : Nat) (e : Ending) (w' : World) : Prop :=
  ∃ A q G, e = .returned (.tuple #[.slice A k q, .int .i64 0]) ∧ SO w.heap.size w' 5 bcl 1 A k q bs G ∧ Below w.heap.size w w'
def FPost (w : World) (e : Ending) (w' : World) : Prop :=
  ∃ A q G, e = .returned (.tuple #[.slice A 0 q, .int .i64 2]) ∧ SO w.heap.size w' 5 bcl 1 A 0 q [] G ∧ Below w.heap.size w w'
theorem enc_yes (n : Nt) (k : Nat) (w : World) (hi : InN n) (hr : RightN n) (hk : 25 + n.cg.size = k) : Calls Try.prog 28 #[.agg (ntA n)] w (GPostn w (Dk.byN n) k) := by
  have := encode_c n w hi
  unfold EPost at this
  rw [(bNt_yes hr).1, (bNt_yes hr).2, Dk.byN_length, hk] at this
  exact this
theorem enc_not (n : Nt) (w : World) (hi : InN n) (hr : ¬ RightN n) : Calls Try.prog 28 #[.agg (ntA n)] w (FPost w) := by
  have := encode_c n w hi
  unfold EPost at this
  rw [(bNt_no hr).1, (bNt_no hr).2] at this
  exact this
theorem dec_yes_c {bs : List UInt8} {n : Nt} (h : Dk.dNt bs = some n) (A : Option Addr) (k c : Nat) (w : World) (hb : RR w bcl 1 A k c bs) : Calls Try.prog 30 #[.slice A k c] w fun e w' => e = .returned (.tuple #[.agg (ntA n), .int .i64 0]) ∧ Below w.heap.size w w' := by
  have := decode_c A k c bs w hb
  unfold DPost at this
  rw [(dN_yes h).1, (dN_yes h).2] at this
  exact this
theorem dec_no_c {bs : List UInt8} (h : Dk.dNt bs = none) (A : Option Addr) (k c : Nat) (w : World) (hb : RR w bcl 1 A k c bs) : Calls Try.prog 30 #[.slice A k c] w fun e w' => e = .returned (.tuple #[.agg (ntA zN), .int .i64 4]) ∧ Below w.heap.size w w' := by
  have := decode_c A k c bs w hb
  unfold DPost at this
  rw [(dN_no h).1, (dN_no h).2] at this
  exact this
theorem back_n {n : Nt} (hi : InN n) (hr : RightN n) : Dk.dNt (Dk.byN n) = some n := Dk.dNt_some.2 ⟨hi, hr, rfl⟩
theorem szB : ∀ V : World, (sizeOf 5).run Try.prog V = .ok 1 V := Try.sizeOf5
theorem cut_b (A : Option Addr) (n c k : Nat) (hk : k ≤ c) : ∀ V : World, (Instr.slice 30 (.slice A n c) none (some (.int .i64 (k : Int))) none).run Try.prog V = .ok (.slice A k c) V := fun V => run_cut_upto (P := Try.prog) 30 5 Try.underlying30 1 szB A n c k hk V
theorem ts_bs (l : List UInt8) : (Dk.mkS l).toList = l := by rw [Dk.tl_bl, Dk.bl_mkS]
/-- The law's own note. -/
def nV : Nt := ⟨2, 3, 7, 2, 1, 0, 0, 0, 0, ByteArray.empty⟩
theorem nV_in : InN nV := by unfold InN nV; simp only; omega
theorem nV_right : RightN nV := ⟨by decide, Or.inr ⟨⟨rfl, rfl, rfl, rfl, rfl⟩, ⟨by decide, by decide⟩, Or.inl ⟨rfl, ⟨by decide, by decide⟩, Or.inl rfl⟩⟩⟩
theorem nV_size : 25 + nV.cg.size = 25 := rfl
theorem nV_short : Dk.dNt ((Dk.byN nV).take 12) = none := Dk.dNt_short nV_in nV_right (by rw [Dk.byN_length, nV_size]; omega)
end Go.Proofs.Ytcfdfimkgehdfaa
