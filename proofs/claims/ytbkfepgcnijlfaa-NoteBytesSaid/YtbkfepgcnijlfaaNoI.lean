/-
  Layer 17: what Decode answers, in plain mathematics; noteOf. Condition: the values fit their letters.
-/
import Derived.Test.YtbkfepgcnijlfaaNoE
set_option linter.unusedVariables false
set_option linter.unusedSimpArgs false
namespace Go.Proofs.Ytbkfepgcnijlfaa
open Go.RowKit
open Dk (Nt InN RightN BoundN MsgN NoMsg KindN EpN bound_n)


/-- The ten values at a place. -/
def V10 (V : World) (a0 o0 : Nat) (k b t e v q f g m : Nat) (cg : ByteArray) : Prop := a0 < V.heap.size ∧ V.cell? ⟨a0, o0, none⟩ = some (.int .u64 (k : Int)) ∧ V.cell? ⟨a0, o0 + 2, none⟩ = some (.int .u64 (b : Int)) ∧ V.cell? ⟨a0, o0 + 4, none⟩ = some (.int .u64 (t : Int)) ∧ V.cell? ⟨a0, o0 + 6, none⟩ = some (.int .u64 (e : Int)) ∧ V.cell? ⟨a0, o0 + 8, none⟩ = some (.int .u64 (v : Int)) ∧ V.cell? ⟨a0, o0 + 10, none⟩ = some (.int .u64 (q : Int)) ∧ V.cell? ⟨a0, o0 + 12, none⟩ = some (.int .u64 (f : Int)) ∧ V.cell? ⟨a0, o0 + 14, none⟩ = some (.int .u64 (g : Int)) ∧ V.cell? ⟨a0, o0 + 16, none⟩ = some (.int .u64 (m : Int)) ∧ V.cell? ⟨a0, o0 + 19, none⟩ = some (.string cg)
theorem V10.drew {V : World} {a0 o0 : Nat} {k b t e v q f g m : Nat} {cg : ByteArray} (h : V10 V a0 o0 k b t e v q f g m cg) : V10 V.drew a0 o0 k b t e v q f g m cg := h
theorem V10.on {V V2 : World} {a0 o0 : Nat} {k b t e v q f g m : Nat} {cg : ByteArray} (h : V10 V a0 o0 k b t e v q f g m cg) (hb : Below V.heap.size V V2) : V10 V2 a0 o0 k b t e v q f g m cg := by
  obtain ⟨h0, h1, h2, h3, h4, h5, h6, h7, h8, h9, h10⟩ := h
  have hs := hb.size
  refine ⟨by omega, ?_, ?_, ?_, ?_, ?_, ?_, ?_, ?_, ?_, ?_⟩
  all_goals rw [hb.cell (by simp only; omega)]; assumption
theorem V10.wr {V V2 : World} {a0 o0 g0 : Nat} {k b t e v q f g m : Nat} {cg : ByteArray} (h : V10 V a0 o0 k b t e v q f g m cg) (hk : Wr V V2 g0) (hne : a0 ≠ g0) : V10 V2 a0 o0 k b t e v q f g m cg := by
  obtain ⟨h0, h1, h2, h3, h4, h5, h6, h7, h8, h9, h10⟩ := h
  have hs := hk.size
  refine ⟨by omega, ?_, ?_, ?_, ?_, ?_, ?_, ?_, ?_, ?_, ?_⟩
  all_goals rw [World.cell?, hk.far _ hne]; assumption
theorem vr_10 {W : World} {A : Option Addr} {k b t e v q f g m : Nat} {cg : ByteArray} (h : Dk.VR W A (Dk.cvN ⟨(k : Int), (b : Int), (t : Int), (e : Int), (v : Int), (q : Int), (f : Int), (g : Int), (m : Int), cg⟩)) : ∃ a0 o0, A = some ⟨a0, o0, none⟩ ∧ V10 W a0 o0 k b t e v q f g m cg := by
  obtain ⟨_, _, g0, o0, e0, l0, c0, d0⟩ := h 0 _ rfl
  obtain ⟨_, _, g1, o1, e1, l1, c1, d1⟩ := h 1 _ rfl
  obtain ⟨_, _, g2, o2, e2, l2, c2, d2⟩ := h 2 _ rfl
  obtain ⟨_, _, g3, o3, e3, l3, c3, d3⟩ := h 3 _ rfl
  obtain ⟨_, _, g4, o4, e4, l4, c4, d4⟩ := h 4 _ rfl
  obtain ⟨_, _, g5, o5, e5, l5, c5, d5⟩ := h 5 _ rfl
  obtain ⟨_, _, g6, o6, e6, l6, c6, d6⟩ := h 6 _ rfl
  obtain ⟨_, _, g7, o7, e7, l7, c7, d7⟩ := h 7 _ rfl
  obtain ⟨_, _, g8, o8, e8, l8, c8, d8⟩ := h 8 _ rfl
  obtain ⟨_, _, g9, o9, e9, l9, c9, d9⟩ := h 9 _ rfl
  subst e0
  cases e1
  cases e2
  cases e3
  cases e4
  cases e5
  cases e6
  cases e7
  cases e8
  cases e9
  exact ⟨g0, o0, rfl, l0, by simpa [Dk.cn] using c0, by simpa [Dk.cn] using c1, by simpa [Dk.cn] using c2, by simpa [Dk.cn] using c3, by simpa [Dk.cn] using c4, by simpa [Dk.cn] using c5, by simpa [Dk.cn] using c6, by simpa [Dk.cn] using c7, by simpa [Dk.cn] using c8, by simpa using d9⟩
/-- What the bytes of that shape tell. -/
theorem dec10 (bs : List UInt8) : Dk.okD Dk.shN bs = none ∨ ∃ (k b t e v q f g m : Nat) (cg : ByteArray), Dk.okD Dk.shN bs = some (Dk.cvN ⟨(k : Int), (b : Int), (t : Int), (e : Int), (v : Int), (q : Int), (f : Int), (g : Int), (m : Int), cg⟩) ∧ (k < 256 ∧ b < 256 ∧ t < 65536 ∧ e < 4294967296 ∧ v < 256 ∧ q < 256 ∧ f < 256 ∧ g < 256 ∧ m < 4294967296) := by
  cases ho : Dk.okD Dk.shN bs with
  | none => exact .inl rfl
  | some l =>
    right
    obtain ⟨k1, k2, k3, k4⟩ := Dk.okD_some.1 ho
    match l, k1 with
    | [v0, v1, v2, v3, v4, v5, v6, v7, v8, v9], _ =>
      simp only [Dk.shN, Dk.fitsB, Bool.and_eq_true] at k2
      obtain ⟨h0, h1, h2, h3, h4, h5, h6, h7, h8, h9, _⟩ := k2
      have e0 := Dk.fit_n (by decide) h0
      have e1 := Dk.fit_n (by decide) h1
      have e2 := Dk.fit_n (by decide) h2
      have e3 := Dk.fit_n (by decide) h3
      have e4 := Dk.fit_n (by decide) h4
      have e5 := Dk.fit_n (by decide) h5
      have e6 := Dk.fit_n (by decide) h6
      have e7 := Dk.fit_n (by decide) h7
      have e8 := Dk.fit_n (by decide) h8
      have e9 := Dk.fit_t h9
      have w1 : 256 ^ Dk.wd 97 = 256 := by decide
      have w2 : 256 ^ Dk.wd 98 = 65536 := by decide
      have w4 : 256 ^ Dk.wd 99 = 4294967296 := by decide
      rw [w1] at e0 e1 e4 e5 e6 e7
      rw [w2] at e2
      rw [w4] at e3 e8
      have a9 : v9 = (⟨0, v9.s⟩ : Dk.CV) := Dk.CV.ext_ e9.1 rfl
      refine ⟨v0.n, v1.n, v2.n, v3.n, v4.n, v5.n, v6.n, v7.n, v8.n, v9.s, ?_, by omega⟩
      simp only [Dk.cvN]
      rw [← e0.1, ← e1.1, ← e2.1, ← e3.1, ← e4.1, ← e5.1, ← e6.1, ← e7.1, ← e8.1, ← a9]
/-- Behind Decode. -/
def kD (bs : List UInt8) : Nat := if (Dk.dNt bs).isSome then 0 else 4
def nD (bs : List UInt8) : Nt := (Dk.dNt bs).getD zN
theorem dN_no {bs : List UInt8} (h : Dk.dNt bs = none) : kD bs = 4 ∧ nD bs = zN := by unfold kD nD; rw [h]; exact ⟨rfl, rfl⟩
theorem dN_yes {bs : List UInt8} {n : Nt} (h : Dk.dNt bs = some n) : kD bs = 0 ∧ nD bs = n := by unfold kD nD; rw [h]; exact ⟨rfl, rfl⟩
theorem d_no1 {bs : List UInt8} (h : ¬ (Dk.fE bs = 0 ∧ Dk.fK bs = bs.length)) : kD bs = 4 ∧ nD bs = zN := dN_no (by unfold Dk.dNt; rw [if_neg h])
theorem d_no2 {bs : List UInt8} (h : Dk.okD Dk.shN (Dk.fC bs) = none) : kD bs = 4 ∧ nD bs = zN := dN_no (by unfold Dk.dNt; rw [h]; split <;> rfl)
theorem ofN_nat (k b t e v q f g m : Nat) (cg : ByteArray) : Dk.ofN (Dk.cvN ⟨(k : Int), (b : Int), (t : Int), (e : Int), (v : Int), (q : Int), (f : Int), (g : Int), (m : Int), cg⟩) = ⟨(k : Int), (b : Int), (t : Int), (e : Int), (v : Int), (q : Int), (f : Int), (g : Int), (m : Int), cg⟩ := by simp [Dk.ofN, Dk.cvN, Dk.cn]
theorem d_no3 {bs : List UInt8} {k b t e v q f g m : Nat} {cg : ByteArray} (h : Dk.okD Dk.shN (Dk.fC bs) = some (Dk.cvN ⟨(k : Int), (b : Int), (t : Int), (e : Int), (v : Int), (q : Int), (f : Int), (g : Int), (m : Int), cg⟩)) (hr : ¬ RightN ⟨(k : Int), (b : Int), (t : Int), (e : Int), (v : Int), (q : Int), (f : Int), (g : Int), (m : Int), cg⟩) : kD bs = 4 ∧ nD bs = zN := dN_no (by
  unfold Dk.dNt; rw [h]; simp only; rw [ofN_nat, if_neg hr]; split <;> rfl)
theorem d_yes {bs : List UInt8} {k b t e v q f g m : Nat} {cg : ByteArray} (h1 : Dk.fE bs = 0 ∧ Dk.fK bs = bs.length) (h : Dk.okD Dk.shN (Dk.fC bs) = some (Dk.cvN ⟨(k : Int), (b : Int), (t : Int), (e : Int), (v : Int), (q : Int), (f : Int), (g : Int), (m : Int), cg⟩)) (hr : RightN ⟨(k : Int), (b : Int), (t : Int), (e : Int), (v : Int), (q : Int), (f : Int), (g : Int), (m : Int), cg⟩) : kD bs = 0 ∧ nD bs = ⟨(k : Int), (b : Int), (t : Int), (e : Int), (v : Int), (q : Int), (f : Int), (g : Int), (m : Int), cg⟩ := dN_yes (by
  unfold Dk.dNt; rw [if_pos h1, h]; simp only; rw [ofN_nat, if_pos hr])
def DPost (w : World) (bs : List UInt8) (e : Ending) (w' : World) : Prop := e = .returned (.tuple #[.agg (ntA (nD bs)), .int .i64 ((kD bs : Nat) : Int)]) ∧ Below w.heap.size w w'
theorem dp_no {bs : List UInt8} (h : kD bs = 4 ∧ nD bs = zN) : (Ending.returned (.tuple #[.agg (ntA zN), .int .i64 4])) = .returned (.tuple #[.agg (ntA (nD bs)), .int .i64 ((kD bs : Nat) : Int)]) := by rw [h.1, h.2]; rfl
theorem dp_yes {bs : List UInt8} {n : Nt} (h : kD bs = 0 ∧ nD bs = n) : (Ending.returned (.tuple #[.agg (ntA n), .int .i64 0])) = .returned (.tuple #[.agg (ntA (nD bs)), .int .i64 ((kD bs : Nat) : Int)]) := by rw [h.1, h.2]; rfl
theorem proper_shN : Dk.properB Dk.shN = true := by decide
def TPost (w : World) (l : List Dk.CV) (e : Ending) (w' : World) : Prop := ∃ A c, e = .returned (.tuple #[.slice A 10 c, .int .i64 0]) ∧ Dk.VR w' A l ∧ Below w.heap.size w w'
def XPost (w : World) (e : Ending) (w' : World) : Prop := ∃ A c, e = .returned (.tuple #[.slice A 0 c, .int .i64 4]) ∧ Below w.heap.size w w'
theorem dec_no {x : List UInt8} (h : Dk.okD Dk.shN x = none) : Dk.eD (Dk.bl shW) x = 4 ∧ Dk.lD (Dk.bl shW) x = [] := by rw [bl_shW]; exact Dk.eD_no proper_shN h
theorem dec_yes {x : List UInt8} {n : Nt} (h : Dk.okD Dk.shN x = some (Dk.cvN n)) : Dk.eD (Dk.bl shW) x = 0 ∧ Dk.lD (Dk.bl shW) x = Dk.cvN n := by rw [bl_shW]; exact Dk.eD_yes proper_shN h
theorem decn_C {x : List UInt8} {n : Nt} (ho : Dk.okD Dk.shN x = some (Dk.cvN n)) (A : Option Addr) (k c : Nat) (w : World) (h : RR w bcl 1 A k c x) : Calls Try.prog 25 #[.string ⟨#[97, 97, 98, 99, 97, 97, 97, 97, 99, 116]⟩, .slice A k c] w (TPost w (Dk.cvN n)) := by
  have := dec_C A k c x w shW shW_max h
  rw [(dec_yes ho).1, (dec_yes ho).2] at this
  exact this
theorem decx_C {x : List UInt8} (ho : Dk.okD Dk.shN x = none) (A : Option Addr) (k c : Nat) (w : World) (h : RR w bcl 1 A k c x) : Calls Try.prog 25 #[.string ⟨#[97, 97, 98, 99, 97, 97, 97, 97, 99, 116]⟩, .slice A k c] w (XPost w) := by
  have := dec_C A k c x w shW shW_max h
  rw [(dec_no ho).1, (dec_no ho).2] at this
  refine this.mono ?_
  rintro e w' ⟨A', c', rfl, _, hb⟩
  exact ⟨A', c', rfl, hb⟩
theorem decn_R {x : List UInt8} {n : Nt} (ho : Dk.okD Dk.shN x = some (Dk.cvN n)) (A : Option Addr) (k c : Nat) (w : World) (h : RR w bcl 1 A k c x) (hn : k ≤ 5000) : Calls Try.prog 28 #[.string ⟨#[97, 97, 98, 99, 97, 97, 97, 97, 99, 116]⟩, .slice A k c] w (TPost w (Dk.cvN n)) := by
  have := dec_R A k c x w shW shW_max h hn
  rw [(dec_yes ho).1, (dec_yes ho).2] at this
  exact this
theorem decx_R {x : List UInt8} (ho : Dk.okD Dk.shN x = none) (A : Option Addr) (k c : Nat) (w : World) (h : RR w bcl 1 A k c x) (hn : k ≤ 5000) : Calls Try.prog 28 #[.string ⟨#[97, 97, 98, 99, 97, 97, 97, 97, 99, 116]⟩, .slice A k c] w (XPost w) := by
  have := dec_R A k c x w shW shW_max h hn
  rw [(dec_no ho).1, (dec_no ho).2] at this
  refine this.mono ?_
  rintro e w' ⟨A', c', rfl, _, hb⟩
  exact ⟨A', c', rfl, hb⟩
section
variable {P : Program} {ev : Operand → Value} {dst : Option Tmp} {ty : TypeId} {pos : String} {aft : Array Edge} {gd : Option (Nat × Bool)} {w : World}
theorem yl_buildk6 (T : TypeId) {x0 x1 x2 x3 x4 x5 : Operand} {v0 v1 v2 v3 v4 v5 : Value} {cs : Array Value} (hb : P.built T [(0, v0), (1, v1), (2, v2), (3, v3), (4, v4), (5, v5)] = some cs) (h0 : ev x0 = v0) (h1 : ev x1 = v1) (h2 : ev x2 = v2) (h3 : ev x3 = v3) (h4 : ev x4 = v4) (h5 : ev x5 = v5) :
    (execOp ev ⟨dst, .build T #[(0, x0), (1, x1), (2, x2), (3, x3), (4, x4), (5, x5)], ty, pos, aft, gd⟩).run P w = .ok (.value (.agg cs)) w := by
  have h := run_build (P := P) w T #[(0, v0), (1, v1), (2, v2), (3, v3), (4, v4), (5, v5)] cs hb
  unfold execOp
  simp [Sem.run_bind, h0, h1, h2, h3, h4, h5, h]
theorem yl_buildk5 (T : TypeId) {x0 x1 x2 x3 x4 : Operand} {v0 v1 v2 v3 v4 : Value} {cs : Array Value} (hb : P.built T [(0, v0), (1, v1), (2, v2), (3, v3), (4, v4)] = some cs) (h0 : ev x0 = v0) (h1 : ev x1 = v1) (h2 : ev x2 = v2) (h3 : ev x3 = v3) (h4 : ev x4 = v4) :
    (execOp ev ⟨dst, .build T #[(0, x0), (1, x1), (2, x2), (3, x3), (4, x4)], ty, pos, aft, gd⟩).run P w = .ok (.value (.agg cs)) w := by
  have h := run_build (P := P) w T #[(0, v0), (1, v1), (2, v2), (3, v3), (4, v4)] cs hb
  unfold execOp
  simp [Sem.run_bind, h0, h1, h2, h3, h4, h]
end
set_option maxRecDepth 100000 in
set_option maxHeartbeats 4000000 in
theorem noteOf_c (k b t e v q f g m : Nat) (cg : ByteArray) (A : Option Addr) (c : Nat) (w : World) (hx : k < 256 ∧ b < 256 ∧ t < 65536 ∧ e < 4294967296 ∧ v < 256 ∧ q < 256 ∧ f < 256 ∧ g < 256 ∧ m < 4294967296) (h : Dk.VR w A (Dk.cvN ⟨(k : Int), (b : Int), (t : Int), (e : Int), (v : Int), (q : Int), (f : Int), (g : Int), (m : Int), cg⟩)) : Calls Try.prog 26 #[.slice A 10 c] w fun zz w' => zz = .returned (.agg (ntA ⟨(k : Int), (b : Int), (t : Int), (e : Int), (v : Int), (q : Int), (f : Int), (g : Int), (m : Int), cg⟩)) ∧ Below w.heap.size w w' := by
  have wk : IntKind.i64.wrap (k : Int) = (k : Int) := IntWalk.i64_in _ (by omega)
  have wb : IntKind.u8.wrap (b : Int) = (b : Int) := IntWalk.u8_in _ (by omega)
  have wt : IntKind.i64.wrap (t : Int) = (t : Int) := IntWalk.i64_in _ (by omega)
  have we : IntKind.i64.wrap (e : Int) = (e : Int) := IntWalk.i64_in _ (by omega)
  have wv : IntKind.i64.wrap (v : Int) = (v : Int) := IntWalk.i64_in _ (by omega)
  have wq : IntKind.i64.wrap (q : Int) = (q : Int) := IntWalk.i64_in _ (by omega)
  have wf : IntKind.u8.wrap (f : Int) = (f : Int) := IntWalk.u8_in _ (by omega)
  have wg : IntKind.u8.wrap (g : Int) = (g : Int) := IntWalk.u8_in _ (by omega)
  have wm : IntKind.i64.wrap (m : Int) = (m : Int) := IntWalk.i64_in _ (by omega)
  clear hx
  obtain ⟨a0, o0, rfl, hv⟩ := vr_10 h
  clear h
  go_enter Try.func26, Try.ntmps26
  have hv1 := hv.1
  go_wp2_with (first | ((with_reducible refine st_alloc 33 (ntA zN) ?_ ?_); exact zero_nc))
  refine ⟨fun V1 g1 n1 f1 => ?_⟩
  have up1 : w.heap.size ≤ g1 := Nat.le_of_eq f1.at_
  have bl1 := f1.bel
  clear f1
  have r3_y := (hv).on bl1
  have l3 := le_tr (Below.refl _ _) bl1
  clear hv
  clear bl1
  have nea : a0 ≠ g1 := by have := up1; omega
  go_wp2_with fail
  have y4 := Lib.hid (show (fun V : World => V10 V a0 o0 k b t e v q f g m cg) V1.drew from (r3_y).drew)
  refine wp_region_held_drew (S := (fun V : World => V10 V a0 o0 k b t e v q f g m cg)) (by kernel_rfl) y4.out (fun hHeld => ?_)
  obtain ⟨D4, hD4⟩ : ∃ V, V1.drew = V := ⟨_, rfl⟩
  have b4 : Below V1.heap.size V1 D4 := by rw [← hD4]; exact le_dr (Below.refl _ _)
  rw [hD4] at hHeld ⊢
  clear hD4
  have r6_r := le_on n1 b4
  have r6_y := (r3_y).on b4
  have l6 := le_tr l3 b4
  clear n1 r3_y l3
  clear b4
  refine wpAnyH_takeL (i := 0) (d := some 3) (v := .slice (some ⟨a0, o0, none⟩) 10 c) rfl rfl (by kernel_rfl) (by kernel_rfl) (by kernel_rfl) (fun _ _ _ h => h) (Or.inl ⟨by rfl, ?_⟩) hHeld ?_
  · intro w hSw; (try dsimp only at hSw); go_simp
  try simp only [Act.put, List.setIfInBounds_toArray, List.set_cons_zero, List.set_cons_succ]
  refine wpAnyH_takeL (i := 1) (d := some 4) (v := .pointer (some ⟨a0, o0, none⟩)) rfl rfl (by kernel_rfl) (by kernel_rfl) (by kernel_rfl) (fun _ _ _ h => h) (Or.inl ⟨by rfl, ?_⟩) hHeld ?_
  · intro w hSw; (try dsimp only at hSw); go_simp
  try simp only [Act.put, List.setIfInBounds_toArray, List.set_cons_zero, List.set_cons_succ]
  refine wpAnyH_takeL (i := 2) (d := some 5) (v := .pointer (some ⟨a0, o0, none⟩)) rfl rfl (by kernel_rfl) (by kernel_rfl) (by kernel_rfl) (fun _ _ _ h => h) (Or.inl ⟨by rfl, ?_⟩) hHeld ?_
  · intro w hSw; (try dsimp only at hSw); go_simp
  try simp only [Act.put, List.setIfInBounds_toArray, List.set_cons_zero, List.set_cons_succ]
  refine wpAnyH_takeL (i := 3) (d := some 6) (v := .int .u64 (k : Int)) rfl rfl (by kernel_rfl) (by kernel_rfl) (by kernel_rfl) (fun _ _ _ h => h) (Or.inl ⟨by rfl, ?_⟩) hHeld ?_
  · intro w hSw; have hcc := hSw.2.1; go_simp
  try simp only [Act.put, List.setIfInBounds_toArray, List.set_cons_zero, List.set_cons_succ]
  refine wpAnyH_takeL (i := 4) (d := some 7) (v := .int .i64 (k : Int)) rfl rfl (by kernel_rfl) (by kernel_rfl) (by kernel_rfl) (fun _ _ _ h => h) (Or.inl ⟨by rfl, ?_⟩) hHeld ?_
  · intro w hSw; (try dsimp only at hSw); go_simp
  try simp only [Act.put, List.setIfInBounds_toArray, List.set_cons_zero, List.set_cons_succ]
  refine wpAnyH_takeL (i := 5) (d := some 8) (v := .slice (some ⟨a0, o0, none⟩) 10 c) rfl rfl (by kernel_rfl) (by kernel_rfl) (by kernel_rfl) (fun _ _ _ h => h) (Or.inl ⟨by rfl, ?_⟩) hHeld ?_
  · intro w hSw; (try dsimp only at hSw); go_simp
  try simp only [Act.put, List.setIfInBounds_toArray, List.set_cons_zero, List.set_cons_succ]
  refine wpAnyH_takeL (i := 6) (d := some 9) (v := .pointer (some ⟨a0, o0 + 2, none⟩)) rfl rfl (by kernel_rfl) (by kernel_rfl) (by kernel_rfl) (fun _ _ _ h => h) (Or.inl ⟨by rfl, ?_⟩) hHeld ?_
  · intro w hSw; (try dsimp only at hSw); go_simp
  try simp only [Act.put, List.setIfInBounds_toArray, List.set_cons_zero, List.set_cons_succ]
  refine wpAnyH_takeL (i := 7) (d := some 10) (v := .pointer (some ⟨a0, o0 + 2, none⟩)) rfl rfl (by kernel_rfl) (by kernel_rfl) (by kernel_rfl) (fun _ _ _ h => h) (Or.inl ⟨by rfl, ?_⟩) hHeld ?_
  · intro w hSw; (try dsimp only at hSw); go_simp
  try simp only [Act.put, List.setIfInBounds_toArray, List.set_cons_zero, List.set_cons_succ]
  refine wpAnyH_takeL (i := 8) (d := some 11) (v := .int .u64 (b : Int)) rfl rfl (by kernel_rfl) (by kernel_rfl) (by kernel_rfl) (fun _ _ _ h => h) (Or.inl ⟨by rfl, ?_⟩) hHeld ?_
  · intro w hSw; have hcc := hSw.2.2.1; go_simp
  try simp only [Act.put, List.setIfInBounds_toArray, List.set_cons_zero, List.set_cons_succ]
  refine wpAnyH_takeL (i := 9) (d := some 12) (v := .int .u8 (b : Int)) rfl rfl (by kernel_rfl) (by kernel_rfl) (by kernel_rfl) (fun _ _ _ h => h) (Or.inl ⟨by rfl, ?_⟩) hHeld ?_
  · intro w hSw; (try dsimp only at hSw); go_simp
  try simp only [Act.put, List.setIfInBounds_toArray, List.set_cons_zero, List.set_cons_succ]
  refine wpAnyH_takeL (i := 10) (d := some 13) (v := .slice (some ⟨a0, o0, none⟩) 10 c) rfl rfl (by kernel_rfl) (by kernel_rfl) (by kernel_rfl) (fun _ _ _ h => h) (Or.inl ⟨by rfl, ?_⟩) hHeld ?_
  · intro w hSw; (try dsimp only at hSw); go_simp
  try simp only [Act.put, List.setIfInBounds_toArray, List.set_cons_zero, List.set_cons_succ]
  refine wpAnyH_takeL (i := 11) (d := some 14) (v := .pointer (some ⟨a0, o0 + 4, none⟩)) rfl rfl (by kernel_rfl) (by kernel_rfl) (by kernel_rfl) (fun _ _ _ h => h) (Or.inl ⟨by rfl, ?_⟩) hHeld ?_
  · intro w hSw; (try dsimp only at hSw); go_simp
  try simp only [Act.put, List.setIfInBounds_toArray, List.set_cons_zero, List.set_cons_succ]
  refine wpAnyH_takeL (i := 12) (d := some 15) (v := .pointer (some ⟨a0, o0 + 4, none⟩)) rfl rfl (by kernel_rfl) (by kernel_rfl) (by kernel_rfl) (fun _ _ _ h => h) (Or.inl ⟨by rfl, ?_⟩) hHeld ?_
  · intro w hSw; (try dsimp only at hSw); go_simp
  try simp only [Act.put, List.setIfInBounds_toArray, List.set_cons_zero, List.set_cons_succ]
  refine wpAnyH_takeL (i := 13) (d := some 16) (v := .int .u64 (t : Int)) rfl rfl (by kernel_rfl) (by kernel_rfl) (by kernel_rfl) (fun _ _ _ h => h) (Or.inl ⟨by rfl, ?_⟩) hHeld ?_
  · intro w hSw; have hcc := hSw.2.2.2.1; go_simp
  try simp only [Act.put, List.setIfInBounds_toArray, List.set_cons_zero, List.set_cons_succ]
  refine wpAnyH_takeL (i := 14) (d := some 17) (v := .int .i64 (t : Int)) rfl rfl (by kernel_rfl) (by kernel_rfl) (by kernel_rfl) (fun _ _ _ h => h) (Or.inl ⟨by rfl, ?_⟩) hHeld ?_
  · intro w hSw; (try dsimp only at hSw); go_simp
  try simp only [Act.put, List.setIfInBounds_toArray, List.set_cons_zero, List.set_cons_succ]
  refine wpAnyH_takeL (i := 15) (d := some 18) (v := .slice (some ⟨a0, o0, none⟩) 10 c) rfl rfl (by kernel_rfl) (by kernel_rfl) (by kernel_rfl) (fun _ _ _ h => h) (Or.inl ⟨by rfl, ?_⟩) hHeld ?_
  · intro w hSw; (try dsimp only at hSw); go_simp
  try simp only [Act.put, List.setIfInBounds_toArray, List.set_cons_zero, List.set_cons_succ]
  refine wpAnyH_takeL (i := 16) (d := some 19) (v := .pointer (some ⟨a0, o0 + 6, none⟩)) rfl rfl (by kernel_rfl) (by kernel_rfl) (by kernel_rfl) (fun _ _ _ h => h) (Or.inl ⟨by rfl, ?_⟩) hHeld ?_
  · intro w hSw; (try dsimp only at hSw); go_simp
  try simp only [Act.put, List.setIfInBounds_toArray, List.set_cons_zero, List.set_cons_succ]
  refine wpAnyH_takeL (i := 17) (d := some 20) (v := .pointer (some ⟨a0, o0 + 6, none⟩)) rfl rfl (by kernel_rfl) (by kernel_rfl) (by kernel_rfl) (fun _ _ _ h => h) (Or.inl ⟨by rfl, ?_⟩) hHeld ?_
  · intro w hSw; (try dsimp only at hSw); go_simp
  try simp only [Act.put, List.setIfInBounds_toArray, List.set_cons_zero, List.set_cons_succ]
  refine wpAnyH_takeL (i := 18) (d := some 21) (v := .int .u64 (e : Int)) rfl rfl (by kernel_rfl) (by kernel_rfl) (by kernel_rfl) (fun _ _ _ h => h) (Or.inl ⟨by rfl, ?_⟩) hHeld ?_
  · intro w hSw; have hcc := hSw.2.2.2.2.1; go_simp
  try simp only [Act.put, List.setIfInBounds_toArray, List.set_cons_zero, List.set_cons_succ]
  refine wpAnyH_takeL (i := 19) (d := some 22) (v := .int .i64 (e : Int)) rfl rfl (by kernel_rfl) (by kernel_rfl) (by kernel_rfl) (fun _ _ _ h => h) (Or.inl ⟨by rfl, ?_⟩) hHeld ?_
  · intro w hSw; (try dsimp only at hSw); go_simp
  try simp only [Act.put, List.setIfInBounds_toArray, List.set_cons_zero, List.set_cons_succ]
  refine wpAnyH_takeL (i := 20) (d := some 23) (v := .slice (some ⟨a0, o0, none⟩) 10 c) rfl rfl (by kernel_rfl) (by kernel_rfl) (by kernel_rfl) (fun _ _ _ h => h) (Or.inl ⟨by rfl, ?_⟩) hHeld ?_
  · intro w hSw; (try dsimp only at hSw); go_simp
  try simp only [Act.put, List.setIfInBounds_toArray, List.set_cons_zero, List.set_cons_succ]
  refine wpAnyH_takeL (i := 21) (d := some 24) (v := .pointer (some ⟨a0, o0 + 8, none⟩)) rfl rfl (by kernel_rfl) (by kernel_rfl) (by kernel_rfl) (fun _ _ _ h => h) (Or.inl ⟨by rfl, ?_⟩) hHeld ?_
  · intro w hSw; (try dsimp only at hSw); go_simp
  try simp only [Act.put, List.setIfInBounds_toArray, List.set_cons_zero, List.set_cons_succ]
  refine wpAnyH_takeL (i := 22) (d := some 25) (v := .pointer (some ⟨a0, o0 + 8, none⟩)) rfl rfl (by kernel_rfl) (by kernel_rfl) (by kernel_rfl) (fun _ _ _ h => h) (Or.inl ⟨by rfl, ?_⟩) hHeld ?_
  · intro w hSw; (try dsimp only at hSw); go_simp
  try simp only [Act.put, List.setIfInBounds_toArray, List.set_cons_zero, List.set_cons_succ]
  refine wpAnyH_takeL (i := 23) (d := some 26) (v := .int .u64 (v : Int)) rfl rfl (by kernel_rfl) (by kernel_rfl) (by kernel_rfl) (fun _ _ _ h => h) (Or.inl ⟨by rfl, ?_⟩) hHeld ?_
  · intro w hSw; have hcc := hSw.2.2.2.2.2.1; go_simp
  try simp only [Act.put, List.setIfInBounds_toArray, List.set_cons_zero, List.set_cons_succ]
  refine wpAnyH_takeL (i := 24) (d := some 27) (v := .int .i64 (v : Int)) rfl rfl (by kernel_rfl) (by kernel_rfl) (by kernel_rfl) (fun _ _ _ h => h) (Or.inl ⟨by rfl, ?_⟩) hHeld ?_
  · intro w hSw; (try dsimp only at hSw); go_simp
  try simp only [Act.put, List.setIfInBounds_toArray, List.set_cons_zero, List.set_cons_succ]
  refine wpAnyH_takeL (i := 25) (d := some 28) (v := .slice (some ⟨a0, o0, none⟩) 10 c) rfl rfl (by kernel_rfl) (by kernel_rfl) (by kernel_rfl) (fun _ _ _ h => h) (Or.inl ⟨by rfl, ?_⟩) hHeld ?_
  · intro w hSw; (try dsimp only at hSw); go_simp
  try simp only [Act.put, List.setIfInBounds_toArray, List.set_cons_zero, List.set_cons_succ]
  refine wpAnyH_takeL (i := 26) (d := some 29) (v := .pointer (some ⟨a0, o0 + 10, none⟩)) rfl rfl (by kernel_rfl) (by kernel_rfl) (by kernel_rfl) (fun _ _ _ h => h) (Or.inl ⟨by rfl, ?_⟩) hHeld ?_
  · intro w hSw; (try dsimp only at hSw); go_simp
  try simp only [Act.put, List.setIfInBounds_toArray, List.set_cons_zero, List.set_cons_succ]
  refine wpAnyH_takeL (i := 27) (d := some 30) (v := .pointer (some ⟨a0, o0 + 10, none⟩)) rfl rfl (by kernel_rfl) (by kernel_rfl) (by kernel_rfl) (fun _ _ _ h => h) (Or.inl ⟨by rfl, ?_⟩) hHeld ?_
  · intro w hSw; (try dsimp only at hSw); go_simp
  try simp only [Act.put, List.setIfInBounds_toArray, List.set_cons_zero, List.set_cons_succ]
  refine wpAnyH_takeL (i := 28) (d := some 31) (v := .int .u64 (q : Int)) rfl rfl (by kernel_rfl) (by kernel_rfl) (by kernel_rfl) (fun _ _ _ h => h) (Or.inl ⟨by rfl, ?_⟩) hHeld ?_
  · intro w hSw; have hcc := hSw.2.2.2.2.2.2.1; go_simp
  try simp only [Act.put, List.setIfInBounds_toArray, List.set_cons_zero, List.set_cons_succ]
  refine wpAnyH_takeL (i := 29) (d := some 32) (v := .int .i64 (q : Int)) rfl rfl (by kernel_rfl) (by kernel_rfl) (by kernel_rfl) (fun _ _ _ h => h) (Or.inl ⟨by rfl, ?_⟩) hHeld ?_
  · intro w hSw; (try dsimp only at hSw); go_simp
  try simp only [Act.put, List.setIfInBounds_toArray, List.set_cons_zero, List.set_cons_succ]
  refine wpAnyH_takeL (i := 30) (d := some 33) (v := .slice (some ⟨a0, o0, none⟩) 10 c) rfl rfl (by kernel_rfl) (by kernel_rfl) (by kernel_rfl) (fun _ _ _ h => h) (Or.inl ⟨by rfl, ?_⟩) hHeld ?_
  · intro w hSw; (try dsimp only at hSw); go_simp
  try simp only [Act.put, List.setIfInBounds_toArray, List.set_cons_zero, List.set_cons_succ]
  refine wpAnyH_takeL (i := 31) (d := some 34) (v := .pointer (some ⟨a0, o0 + 12, none⟩)) rfl rfl (by kernel_rfl) (by kernel_rfl) (by kernel_rfl) (fun _ _ _ h => h) (Or.inl ⟨by rfl, ?_⟩) hHeld ?_
  · intro w hSw; (try dsimp only at hSw); go_simp
  try simp only [Act.put, List.setIfInBounds_toArray, List.set_cons_zero, List.set_cons_succ]
  refine wpAnyH_takeL (i := 32) (d := some 35) (v := .pointer (some ⟨a0, o0 + 12, none⟩)) rfl rfl (by kernel_rfl) (by kernel_rfl) (by kernel_rfl) (fun _ _ _ h => h) (Or.inl ⟨by rfl, ?_⟩) hHeld ?_
  · intro w hSw; (try dsimp only at hSw); go_simp
  try simp only [Act.put, List.setIfInBounds_toArray, List.set_cons_zero, List.set_cons_succ]
  refine wpAnyH_takeL (i := 33) (d := some 36) (v := .int .u64 (f : Int)) rfl rfl (by kernel_rfl) (by kernel_rfl) (by kernel_rfl) (fun _ _ _ h => h) (Or.inl ⟨by rfl, ?_⟩) hHeld ?_
  · intro w hSw; have hcc := hSw.2.2.2.2.2.2.2.1; go_simp
  try simp only [Act.put, List.setIfInBounds_toArray, List.set_cons_zero, List.set_cons_succ]
  refine wpAnyH_takeL (i := 34) (d := some 37) (v := .int .u8 (f : Int)) rfl rfl (by kernel_rfl) (by kernel_rfl) (by kernel_rfl) (fun _ _ _ h => h) (Or.inl ⟨by rfl, ?_⟩) hHeld ?_
  · intro w hSw; (try dsimp only at hSw); go_simp
  try simp only [Act.put, List.setIfInBounds_toArray, List.set_cons_zero, List.set_cons_succ]
  refine wpAnyH_takeL (i := 35) (d := some 38) (v := .slice (some ⟨a0, o0, none⟩) 10 c) rfl rfl (by kernel_rfl) (by kernel_rfl) (by kernel_rfl) (fun _ _ _ h => h) (Or.inl ⟨by rfl, ?_⟩) hHeld ?_
  · intro w hSw; (try dsimp only at hSw); go_simp
  try simp only [Act.put, List.setIfInBounds_toArray, List.set_cons_zero, List.set_cons_succ]
  refine wpAnyH_takeL (i := 36) (d := some 39) (v := .pointer (some ⟨a0, o0 + 14, none⟩)) rfl rfl (by kernel_rfl) (by kernel_rfl) (by kernel_rfl) (fun _ _ _ h => h) (Or.inl ⟨by rfl, ?_⟩) hHeld ?_
  · intro w hSw; (try dsimp only at hSw); go_simp
  try simp only [Act.put, List.setIfInBounds_toArray, List.set_cons_zero, List.set_cons_succ]
  refine wpAnyH_takeL (i := 37) (d := some 40) (v := .pointer (some ⟨a0, o0 + 14, none⟩)) rfl rfl (by kernel_rfl) (by kernel_rfl) (by kernel_rfl) (fun _ _ _ h => h) (Or.inl ⟨by rfl, ?_⟩) hHeld ?_
  · intro w hSw; (try dsimp only at hSw); go_simp
  try simp only [Act.put, List.setIfInBounds_toArray, List.set_cons_zero, List.set_cons_succ]
  refine wpAnyH_takeL (i := 38) (d := some 41) (v := .int .u64 (g : Int)) rfl rfl (by kernel_rfl) (by kernel_rfl) (by kernel_rfl) (fun _ _ _ h => h) (Or.inl ⟨by rfl, ?_⟩) hHeld ?_
  · intro w hSw; have hcc := hSw.2.2.2.2.2.2.2.2.1; go_simp
  try simp only [Act.put, List.setIfInBounds_toArray, List.set_cons_zero, List.set_cons_succ]
  refine wpAnyH_takeL (i := 39) (d := some 42) (v := .int .u8 (g : Int)) rfl rfl (by kernel_rfl) (by kernel_rfl) (by kernel_rfl) (fun _ _ _ h => h) (Or.inl ⟨by rfl, ?_⟩) hHeld ?_
  · intro w hSw; (try dsimp only at hSw); go_simp
  try simp only [Act.put, List.setIfInBounds_toArray, List.set_cons_zero, List.set_cons_succ]
  refine wpAnyH_takeL (i := 40) (d := some 43) (v := .slice (some ⟨a0, o0, none⟩) 10 c) rfl rfl (by kernel_rfl) (by kernel_rfl) (by kernel_rfl) (fun _ _ _ h => h) (Or.inl ⟨by rfl, ?_⟩) hHeld ?_
  · intro w hSw; (try dsimp only at hSw); go_simp
  try simp only [Act.put, List.setIfInBounds_toArray, List.set_cons_zero, List.set_cons_succ]
  refine wpAnyH_takeL (i := 41) (d := some 44) (v := .pointer (some ⟨a0, o0 + 16, none⟩)) rfl rfl (by kernel_rfl) (by kernel_rfl) (by kernel_rfl) (fun _ _ _ h => h) (Or.inl ⟨by rfl, ?_⟩) hHeld ?_
  · intro w hSw; (try dsimp only at hSw); go_simp
  try simp only [Act.put, List.setIfInBounds_toArray, List.set_cons_zero, List.set_cons_succ]
  refine wpAnyH_takeL (i := 42) (d := some 45) (v := .pointer (some ⟨a0, o0 + 16, none⟩)) rfl rfl (by kernel_rfl) (by kernel_rfl) (by kernel_rfl) (fun _ _ _ h => h) (Or.inl ⟨by rfl, ?_⟩) hHeld ?_
  · intro w hSw; (try dsimp only at hSw); go_simp
  try simp only [Act.put, List.setIfInBounds_toArray, List.set_cons_zero, List.set_cons_succ]
  refine wpAnyH_takeL (i := 43) (d := some 46) (v := .int .u64 (m : Int)) rfl rfl (by kernel_rfl) (by kernel_rfl) (by kernel_rfl) (fun _ _ _ h => h) (Or.inl ⟨by rfl, ?_⟩) hHeld ?_
  · intro w hSw; have hcc := hSw.2.2.2.2.2.2.2.2.2.1; go_simp
  try simp only [Act.put, List.setIfInBounds_toArray, List.set_cons_zero, List.set_cons_succ]
  refine wpAnyH_takeL (i := 44) (d := some 47) (v := .int .i64 (m : Int)) rfl rfl (by kernel_rfl) (by kernel_rfl) (by kernel_rfl) (fun _ _ _ h => h) (Or.inl ⟨by rfl, ?_⟩) hHeld ?_
  · intro w hSw; (try dsimp only at hSw); go_simp
  try simp only [Act.put, List.setIfInBounds_toArray, List.set_cons_zero, List.set_cons_succ]
  refine wpAnyH_takeL (i := 45) (d := some 48) (v := .slice (some ⟨a0, o0, none⟩) 10 c) rfl rfl (by kernel_rfl) (by kernel_rfl) (by kernel_rfl) (fun _ _ _ h => h) (Or.inl ⟨by rfl, ?_⟩) hHeld ?_
  · intro w hSw; (try dsimp only at hSw); go_simp
  try simp only [Act.put, List.setIfInBounds_toArray, List.set_cons_zero, List.set_cons_succ]
  refine wpAnyH_takeL (i := 46) (d := some 49) (v := .pointer (some ⟨a0, o0 + 18, none⟩)) rfl rfl (by kernel_rfl) (by kernel_rfl) (by kernel_rfl) (fun _ _ _ h => h) (Or.inl ⟨by rfl, ?_⟩) hHeld ?_
  · intro w hSw; (try dsimp only at hSw); go_simp
  try simp only [Act.put, List.setIfInBounds_toArray, List.set_cons_zero, List.set_cons_succ]
  refine wpAnyH_takeL (i := 47) (d := some 50) (v := .pointer (some ⟨a0, o0 + 19, none⟩)) rfl rfl (by kernel_rfl) (by kernel_rfl) (by kernel_rfl) (fun _ _ _ h => h) (Or.inl ⟨by rfl, ?_⟩) hHeld ?_
  · intro w hSw; (try dsimp only at hSw); go_simp
  try simp only [Act.put, List.setIfInBounds_toArray, List.set_cons_zero, List.set_cons_succ]
  refine wpAnyH_takeL (i := 48) (d := some 51) (v := .string cg) rfl rfl (by kernel_rfl) (by kernel_rfl) (by kernel_rfl) (fun _ _ _ h => h) (Or.inl ⟨by rfl, ?_⟩) hHeld ?_
  · intro w hSw; have hcc := hSw.2.2.2.2.2.2.2.2.2.2; go_simp
  try simp only [Act.put, List.setIfInBounds_toArray, List.set_cons_zero, List.set_cons_succ]
  refine wpAnyH_takeL (i := 49) (d := some 52) (v := .agg (mgA ⟨(k : Int), (b : Int), (t : Int), (e : Int), (v : Int), (q : Int), (f : Int), (g : Int), (m : Int), cg⟩)) rfl rfl (by kernel_rfl) (by kernel_rfl) (by kernel_rfl) (fun _ _ _ h => h) (Or.inl ⟨by rfl, ?_⟩) hHeld ?_
  · intro w hSw; exact yl_buildk5 _ (built_m5 ⟨(k : Int), (b : Int), (t : Int), (e : Int), (v : Int), (q : Int), (f : Int), (g : Int), (m : Int), cg⟩) rfl rfl rfl rfl rfl
  try simp only [Act.put, List.setIfInBounds_toArray, List.set_cons_zero, List.set_cons_succ]
  refine wpAnyH_takeL (i := 50) (d := some 53) (v := .agg (ntA ⟨(k : Int), (b : Int), (t : Int), (e : Int), (v : Int), (q : Int), (f : Int), (g : Int), (m : Int), cg⟩)) rfl rfl (by kernel_rfl) (by kernel_rfl) (by kernel_rfl) (fun _ _ _ h => h) (Or.inl ⟨by rfl, ?_⟩) hHeld ?_
  · intro w hSw; exact yl_buildk6 _ (built_n6 ⟨(k : Int), (b : Int), (t : Int), (e : Int), (v : Int), (q : Int), (f : Int), (g : Int), (m : Int), cg⟩) rfl rfl rfl rfl rfl rfl
  try simp only [Act.put, List.setIfInBounds_toArray, List.set_cons_zero, List.set_cons_succ]
  refine wpAnyH_ready (rs := [51]) (by kernel_rfl) (by simp) ?_
  refine AllReadyH.cons rfl (fun K hK => ?_) AllReadyH.nil
  refine rd_store rfl 33 _ _ rfl none rfl g1 (ntA ⟨(k : Int), (b : Int), (t : Int), (e : Int), (v : Int), (q : Int), (f : Int), (g : Int), (m : Int), cg⟩) rfl rfl r6_r Try.zNc rfl (ntA_one _) ?_
  refine ⟨fun V7 n7 k7 => ?_⟩
  have m7_y := V10.wr r6_y k7 nea
  have o7 := k7.bel _ _ l6 up1
  clear k7
  clear r6_r r6_y l6
  have y8 := Lib.hid (show (fun V : World => V10 V a0 o0 k b t e v q f g m cg) V7 from m7_y)
  refine hK.out _ _ y8.out (fun hHeld => ?_)
  clear hK K y8
  try simp only [Act.put, List.setIfInBounds_toArray, List.set_cons_zero, List.set_cons_succ]
  refine wpAnyH_done (by kernel_rfl) ?_ _
  go_wp2_with fail
  exact bodyPost_ret (v := .agg (ntA ⟨(k : Int), (b : Int), (t : Int), (e : Int), (v : Int), (q : Int), (f : Int), (g : Int), (m : Int), cg⟩)) (res_one Try.results26 rfl n7 Try.underlying33 rfl Try.zNc) rfl ⟨rfl, o7⟩
end Go.Proofs.Ytbkfepgcnijlfaa
