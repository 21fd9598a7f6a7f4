/-
  Package ring at letters: created, New, Len, find, At, Push, Drop. Conditions: the ring is one that New made.
-/
import Derived.Test.YtcfdfimkgehdfaaAiA
import Derived.StillTailTactics
import Derived.Lib.Hide
set_option linter.unusedVariables false
set_option linter.unusedSimpArgs false
namespace Go.Proofs.Ytcfdfimkgehdfaa
open Go.RowKit

/-- A letter lies in memory. -/
structure RE (w : World) (g o : Nat) (x : Lm) : Prop where
  out : w.rangeAt g o (lA x).toList
section
variable {w V : World} {g o : Nat} {x : Lm}
theorem RE.lt (h : RE w g o x) : g < w.heap.size := World.block_lt_of_cell? w _ (h.out 0 _ rfl)
theorem RE.keep (h : RE w g o x) (e : V.heap[g]? = w.heap[g]?) : RE V g o x := ⟨fun i v hv => (World.cell?_of_block (a := ⟨g, o + i, none⟩) e).trans (h.out i v hv)⟩
theorem RE.on (h : RE w g o x) (hb : Below w.heap.size w V) : RE V g o x := h.keep (hb.block g h.lt)
theorem RE.drew (h : RE w g o x) : RE w.drew g o x := ⟨h.out⟩
end
/-- What a call may change that changes a ring. -/
def InG (b : Nat) (A : Option Addr) (i : Nat) : Prop := i = b ∨ InB A i
/-- Behind Push, Drop. -/
def GPost (w : World) (b room : Nat) (A : Option Addr) (L : List Lm) (e : Ending) (w' : World) : Prop :=
  e = .returned (.int .i64 0) ∧ ∃ A' c', RG w' b room A' L.length c' L ∧ Out w w' (InG b A) ∧ ∀ g, InB A' g → InB A g ∨ w.heap.size ≤ g
set_option maxRecDepth 100000 in
set_option maxHeartbeats 400000 in
theorem created_l (b room : Nat) (v : Value) (w : World) (hb : CB w b 136 #[.int .i64 (room : Int), v]) (h : 1 ≤ room) : Calls Try.prog 64 #[.pointer (some ⟨b, 0, none⟩)] w fun e w' => e = .returned (.bool true) ∧ w = w' := by
  have c0 : w.cell? ⟨b, 0, none⟩ = some (.int .i64 (room : Int)) := hb.cell 0
  have q1 : decide ((0 : Int) < (room : Int)) = true := by simp; omega
  have q2 : decide ((room : Int) > 0) = true := by simp; omega
  clear hb
  have hpos : 0 < room := h
  go_enter Try.func64, Try.ntmps64
  go_wp2_with fail
  go_ret
  exact ⟨by simp [hpos], rfl⟩
set_option maxRecDepth 100000 in
set_option maxHeartbeats 400000 in
theorem len_l (b room : Nat) (A : Option Addr) (n c : Nat) (L : List Lm) (w : World) (hb : RG w b room A n c L) (h : 1 ≤ room) : Calls Try.prog 37 #[.pointer (some ⟨b, 0, none⟩)] w fun e w' => e = .returned (.int .i64 (n : Int)) ∧ w = w' := by
  have hbx := hb.box
  have c1 : w.cell? ⟨b, 1, none⟩ = some (.slice A n c) := hbx.cell 1
  clear hb
  go_enter Try.func37, Try.ntmps37
  go_wp2_with fail
  (with_reducible refine (created_l b room _ _ hbx h).mono ?_)
  rintro e w' ⟨rfl, rfl⟩
  go_wp2_with fail
  go_ret
  exact ⟨rfl, rfl⟩
set_option maxRecDepth 100000 in
set_option maxHeartbeats 400000 in
theorem new_l (room : Nat) (w : World) (h1 : 1 ≤ room) (h2 : room ≤ 10000) : Calls Try.prog 31 #[.int .i64 (room : Int)] w fun e w' => ∃ g, e = .returned (.pointer (some ⟨g, 0, none⟩)) ∧ w.heap.size = g ∧ RG w' g room none 0 0 [] ∧ Below w.heap.size w w' := by
  have q1 : decide ((room : Int) < 1) = false := by simp; omega
  have q2 : decide ((10000 : Int) < (room : Int)) = false := by simp; omega
  have q3 : decide ((room : Int) > 10000) = false := by simp; omega
  clear h1 h2
  go_enter Try.func31, Try.ntmps31
  go_wp2_with fail
  go_ret
  exact ⟨_, rfl, rfl, ⟨CB.new _ _ _, RS.nil _ _ _ _⟩, le_al _ _⟩
set_option maxRecDepth 100000 in
set_option maxHeartbeats 400000 in
theorem find_y (b room : Nat) (A : Option Addr) (n c : Nat) (L : List Lm) (i : Int) (w : World) (hb : RG w b room A n c L) (h : 1 ≤ room) (h0 : 0 ≤ i) (h1 : i < n) : Calls Try.prog 66 #[.pointer (some ⟨b, 0, none⟩), .int .i64 i] w fun e w' => e = .returned (.int .i64 0) ∧ w = w' := by
  have hbx := hb.box
  have c1 : w.cell? ⟨b, 1, none⟩ = some (.slice A n c) := hbx.cell 1
  have q1 : decide (i < 0) = false := by simp; omega
  have q2 : decide ((n : Int) ≤ i) = false := by simp; omega
  have q3 : decide (i ≥ (n : Int)) = false := by simp; omega
  clear hb h0 h1
  go_enter Try.func66, Try.ntmps66
  go_wp2_with fail
  (with_reducible refine (created_l b room _ _ hbx h).mono ?_)
  rintro e w' ⟨rfl, rfl⟩
  go_wp2_with fail
  go_ret
  exact ⟨rfl, rfl⟩
set_option maxRecDepth 100000 in
set_option maxHeartbeats 400000 in
theorem find_n (b room : Nat) (A : Option Addr) (n c : Nat) (L : List Lm) (i : Int) (w : World) (hb : RG w b room A n c L) (h : 1 ≤ room) (h0 : i < 0 ∨ (n : Int) ≤ i) : Calls Try.prog 66 #[.pointer (some ⟨b, 0, none⟩), .int .i64 i] w fun e w' => e = .returned (.int .i64 7) ∧ w = w' := by
  have hbx := hb.box
  have c1 : w.cell? ⟨b, 1, none⟩ = some (.slice A n c) := hbx.cell 1
  clear hb
  rcases (show i < 0 ∨ ¬ i < 0 ∧ (n : Int) ≤ i by omega) with h0 | ⟨h1, h0⟩
  · have q1 : decide (i < 0) = true := by simp; omega
    clear h0
    go_enter Try.func66, Try.ntmps66
    go_wp2_with fail
    (with_reducible refine (created_l b room _ _ hbx h).mono ?_)
    rintro e w' ⟨rfl, rfl⟩
    go_wp2_with fail
    go_ret
    exact ⟨rfl, rfl⟩
  · have q1 : decide (i < 0) = false := by simp; omega
    have q2 : decide ((n : Int) ≤ i) = true := by simp; omega
    have q3 : decide (i ≥ (n : Int)) = true := by simp; omega
    clear h0 h1
    go_enter Try.func66, Try.ntmps66
    go_wp2_with fail
    (with_reducible refine (created_l b room _ _ hbx h).mono ?_)
    rintro e w' ⟨rfl, rfl⟩
    go_wp2_with fail
    go_ret
    exact ⟨rfl, rfl⟩
set_option maxRecDepth 100000 in
set_option maxHeartbeats 1000000 in
theorem at_y (b room : Nat) (A : Option Addr) (n c : Nat) (L : List Lm) (k : Nat) (x : Lm) (w : World) (hb : RG w b room A n c L) (h : 1 ≤ room) (hx : L[k]? = some x) (hk : k < n) : Calls Try.prog 65 #[.pointer (some ⟨b, 0, none⟩), .int .i64 (k : Int)] w fun e w' => e = .returned (.tuple #[.agg (lA x), .int .i64 0]) ∧ Below w.heap.size w w' := by
  obtain ⟨g, off, y, hy, rfl, hr⟩ := hb.row.rr.elem hk
  rw [hx] at hy
  cases hy
  have hbx := hb.box
  have he : RE w g (off + k * 3) x := ⟨hr⟩
  clear hr
  go_enter Try.func65, Try.ntmps65
  go_wp2_with (first | ((with_reducible refine st_alloc 40 (lA zeroL) ?_ ?_); exact zero_lc))
  refine ⟨fun V1 g1 n1 f1 => ?_⟩
  have ne1_g := f1.ne hbx
  have up1 : w.heap.size ≤ g1 := Nat.le_of_eq f1.at_
  have bl1 := f1.bel
  clear f1
  have r3_g := le_on hbx bl1
  have r3_b := (hb).on bl1
  have r3_e := (he).on bl1
  have l3 := le_tr (Below.refl _ _) bl1
  clear hbx hb he
  clear bl1
  go_wp2_with fail
  (with_reducible refine (find_y b room _ n c L (k : Int) _ r3_b h (by omega) (by omega)).mono ?_)
  rintro e w' ⟨rfl, rfl⟩
  have c4 : V1.cell? ⟨b, 1, none⟩ = some (.slice (some ⟨g, off, none⟩) n c) := CB.cell r3_g 1
  go_wp2_with (first | ((with_reducible refine st_elem 40 _ g (off + k * 3) (lA x) ?_ r3_e.out Try.underlying40 ?_ ?_ ?_); exact rfl; exact rfl; exact Try.zLc) | ((with_reducible refine st_store 40 _ _ g1 (lA x) ?_ ?_ n1 ?_ ?_ ?_ ?_); exact rfl; exact rfl; exact Try.zLc; exact rfl; exact lA_one _))
  refine ⟨fun V5 n5 k5 => ?_⟩
  clear c4
  have m5_g := k5.on r3_g ne1_g
  have o5 := k5.bel _ _ l3 up1
  clear k5
  clear n1 r3_g l3
  go_wp2_with fail
  exact bodyPost_ret (v := .tuple #[.agg (lA x), .int .i64 0]) (res_two Try.results65 rfl rfl n5 Try.underlying40 rfl Try.zLc) rfl ⟨rfl, o5⟩
set_option maxRecDepth 100000 in
set_option maxHeartbeats 1000000 in
theorem at_n (b room : Nat) (A : Option Addr) (n c : Nat) (L : List Lm) (i : Int) (w : World) (hb : RG w b room A n c L) (h : 1 ≤ room) (h0 : i < 0 ∨ (n : Int) ≤ i) : Calls Try.prog 65 #[.pointer (some ⟨b, 0, none⟩), .int .i64 i] w fun e w' => e = .returned (.tuple #[.agg (lA zeroL), .int .i64 7]) ∧ Below w.heap.size w w' := by
  have hbx := hb.box
  go_enter Try.func65, Try.ntmps65
  go_wp2_with (first | ((with_reducible refine st_alloc 40 (lA zeroL) ?_ ?_); exact zero_lc))
  refine ⟨fun V1 g1 n1 f1 => ?_⟩
  have ne1_g := f1.ne hbx
  have up1 : w.heap.size ≤ g1 := Nat.le_of_eq f1.at_
  have bl1 := f1.bel
  clear f1
  have r3_g := le_on hbx bl1
  have r3_b := (hb).on bl1
  have l3 := le_tr (Below.refl _ _) bl1
  clear hbx hb
  clear bl1
  go_wp2_with fail
  (with_reducible refine (find_n b room _ n c L i _ r3_b h h0).mono ?_)
  rintro e w' ⟨rfl, rfl⟩
  go_wp2_with (first | ((with_reducible refine st_alloc 40 (lA zeroL) ?_ ?_); exact zero_lc))
  refine ⟨fun V4 g4 n4 f4 => ?_⟩
  have ne4_g := f4.ne r3_g
  have ne4_r := f4.ne n1
  have up4 : w.heap.size ≤ g4 := f4.up l3
  have bl4 := f4.bel
  clear f4
  have r6_g := le_on r3_g bl4
  have r6_r := le_on n1 bl4
  have l6 := le_tr l3 bl4
  clear r3_g n1 l3
  clear bl4
  go_wp2_with (first | ((with_reducible refine st_load 40 _ g4 ?_ n4 Try.underlying40 ?_ ?_ ?_); exact rfl; exact rfl; exact Try.zLc) | ((with_reducible refine st_store 40 _ _ g1 (lA zeroL) ?_ ?_ r6_r ?_ ?_ ?_ ?_); exact rfl; exact rfl; exact Try.zLc; exact rfl; exact lA_one _))
  refine ⟨fun V7 n7 k7 => ?_⟩
  have m7_g := k7.on r6_g ne1_g
  have m7_z := k7.on n4 (Ne.symm ne4_r)
  have o7 := k7.bel _ _ l6 up1
  clear k7
  clear r6_r r6_g n4 l6
  go_wp2_with fail
  exact bodyPost_ret (v := .tuple #[.agg (lA zeroL), .int .i64 7]) (res_two Try.results65 rfl rfl n7 Try.underlying40 rfl Try.zLc) rfl ⟨rfl, o7⟩
set_option maxRecDepth 100000 in
set_option maxHeartbeats 1000000 in
theorem push_n (b : Nat) (A : Option Addr) (n c : Nat) (L : List Lm) (x : Lm) (w : World) (hb : RG w b n A n c L) (h : 1 ≤ n) : Calls Try.prog 40 #[.pointer (some ⟨b, 0, none⟩), .agg (lA x)] w fun e w' => e = .returned (.int .i64 6) ∧ Below w.heap.size w w' := by
  have hbx := hb.box
  have qq : ((n : Int) == (n : Int)) = true := by simp
  go_enter Try.func40, Try.ntmps40
  go_wp2_with (first | ((with_reducible refine st_box 40 _ (lA x) ?_ ?_); exact rfl))
  refine ⟨fun V1 g1 n1 f1 => ?_⟩
  have ne1_g := f1.ne hbx
  have up1 : w.heap.size ≤ g1 := Nat.le_of_eq f1.at_
  have bl1 := f1.bel
  clear f1
  have r3_g := le_on hbx bl1
  have l3 := le_tr (Below.refl _ _) bl1
  clear hbx
  clear bl1
  go_wp2_with fail
  (with_reducible refine (created_l b n _ _ r3_g h).mono ?_)
  rintro e w' ⟨rfl, rfl⟩
  have c4 : V1.cell? ⟨b, 0, none⟩ = some (.int .i64 (n : Int)) := CB.cell r3_g 0
  have c5 : V1.cell? ⟨b, 1, none⟩ = some (.slice A n c) := CB.cell r3_g 1
  go_wp2_with fail
  go_quiet (fail)
  clear c4 c5
  go_wp2
  go_ret
  exact ⟨rfl, le_dN l3⟩
set_option maxRecDepth 100000 in
set_option maxHeartbeats 2000000 in
theorem push_y (b room : Nat) (A : Option Addr) (n c : Nat) (L : List Lm) (x : Lm) (w : World) (hb : RG w b room A n c L) (h : 1 ≤ room) (hn : n < room) (hr : room ≤ 1000) : Calls Try.prog 40 #[.pointer (some ⟨b, 0, none⟩), .agg (lA x)] w (GPost w b room A (L ++ [x])) := by
  have hbx : CB w b 136 (gA ⟨room, A, n, c⟩) := hb.box
  obtain ⟨G, hs⟩ := hb.row
  have hln := hb.len
  have hin := fun {g} => (seg_in hs (g := g)).2
  have hlow : ∀ g, G = some g → g < w.heap.size := hs.lt
  have q1 : ((n : Int) == (room : Int)) = false := by simp; omega
  clear hb
  go_enter Try.func40, Try.ntmps40
  go_wp2_with (first | ((with_reducible refine st_box 40 _ (lA x) ?_ ?_); exact rfl))
  refine ⟨fun V1 g1 n1 f1 => ?_⟩
  have ne1_g := f1.ne hbx
  have up1 : w.heap.size ≤ g1 := Nat.le_of_eq f1.at_
  have bl1 := f1.bel
  clear f1
  have r3_g := le_on hbx bl1
  have r3_s := (hs).on bl1
  have l3 := le_tr (Below.refl _ _) bl1
  clear hbx hs
  clear bl1
  go_wp2_with fail
  have hc9 : CB V1 b 136 #[.int .i64 (room : Int), .slice A n c] := r3_g
  (with_reducible refine (created_l b room _ _ hc9 h).mono ?_)
  rintro e w' ⟨rfl, rfl⟩
  clear hc9
  have c4 : V1.cell? ⟨b, 0, none⟩ = some (.int .i64 (room : Int)) := CB.cell r3_g 0
  have c5 : V1.cell? ⟨b, 1, none⟩ = some (.slice A n c) := CB.cell r3_g 1
  go_wp2_with fail
  go_quiet (fail)
  clear c4 c5
  obtain ⟨D6, hD6⟩ : ∃ V, V1.drewN nq = V := ⟨_, rfl⟩
  have r6_g := CB.drewN r3_g nq
  rw [hD6] at r6_g
  have r6_x := CB.drewN n1 nq
  rw [hD6] at r6_x
  have r6_s := (r3_s).drewN nq
  rw [hD6] at r6_s
  have l6 := le_dN (k := nq) l3
  rw [hD6] at l6 ⊢
  clear hD6
  clear r3_g n1 r3_s l3
  go_wp2_with fail
  have y7 := Lib.hid (show (fun V : World => CB V g1 40 (lA x)) D6.drew from CB.drew r6_x)
  refine wp_region_held_drew (S := (fun V : World => CB V g1 40 (lA x))) (by kernel_rfl) y7.out (fun hHeld => ?_)
  obtain ⟨D7, hD7⟩ : ∃ V, D6.drew = V := ⟨_, rfl⟩
  have b7 : Below D6.heap.size D6 D7 := by rw [← hD7]; exact le_dr (Below.refl _ _)
  rw [hD7] at hHeld ⊢
  clear hD7
  have r9_g := le_on r6_g b7
  have r9_x := le_on r6_x b7
  have r9_s := (r6_s).on b7
  have l9 := le_tr l6 b7
  clear r6_g r6_x r6_s l6
  clear b7
  refine wpAnyH_takeL (i := 0) (d := some 18) (v := .pointer (some ⟨b, 0, none⟩)) rfl rfl (by kernel_rfl) (by kernel_rfl) (by kernel_rfl) (fun _ _ _ h => h) (Or.inl ⟨by rfl, ?_⟩) hHeld ?_
  · intro w hSw; (try dsimp only at hSw); go_simp
  try simp only [Act.put, List.setIfInBounds_toArray, List.set_cons_zero, List.set_cons_succ]
  refine wpAnyH_takeL (i := 1) (d := some 19) (v := .pointer (some ⟨b, 0, none⟩)) rfl rfl (by kernel_rfl) (by kernel_rfl) (by kernel_rfl) (fun _ _ _ h => h) (Or.inl ⟨by rfl, ?_⟩) hHeld ?_
  · intro w hSw; (try dsimp only at hSw); go_simp
  try simp only [Act.put, List.setIfInBounds_toArray, List.set_cons_zero, List.set_cons_succ]
  refine wpAnyH_takeL (i := 2) (d := some 20) (v := .pointer (some ⟨b, 0, none⟩)) rfl rfl (by kernel_rfl) (by kernel_rfl) (by kernel_rfl) (fun _ _ _ h => h) (Or.inl ⟨by rfl, ?_⟩) hHeld ?_
  · intro w hSw; (try dsimp only at hSw); go_simp
  try simp only [Act.put, List.setIfInBounds_toArray, List.set_cons_zero, List.set_cons_succ]
  refine wpAnyH_takeL (i := 3) (d := some 21) (v := .pointer (some ⟨b, 1, none⟩)) rfl rfl (by kernel_rfl) (by kernel_rfl) (by kernel_rfl) (fun _ _ _ h => h) (Or.inl ⟨by rfl, ?_⟩) hHeld ?_
  · intro w hSw; (try dsimp only at hSw); go_simp
  try simp only [Act.put, List.setIfInBounds_toArray, List.set_cons_zero, List.set_cons_succ]
  refine wpAnyH_takeL (i := 5) (d := some 23) (v := .agg (lA x)) rfl rfl (by kernel_rfl) (by kernel_rfl) (by kernel_rfl) (fun _ _ _ h => h) (Or.inl ⟨by rfl, ?_⟩) hHeld ?_
  · intro w hSw; exact yl_whole 40 _ g1 rfl hSw Try.underlying40 rfl Try.zLc
  try simp only [Act.put, List.setIfInBounds_toArray, List.set_cons_zero, List.set_cons_succ]
  refine wpAnyH_ready (rs := [4, 6]) (by kernel_rfl) (by simp) ?_
  refine AllReadyH.cons rfl (fun K hK => ?_) (AllReadyH.cons rfl (fun K hK => ?_) AllReadyH.nil)
  · skip
    refine rd_load rfl 134 _ rfl (some 22) rfl (.slice A n c) b (1) rfl (ld_one 134 (Try.isAgg134 _) (CB.cell r9_g 1)) ?_
    refine ⟨?_⟩
    have y10 := Lib.hid (show (fun V : World => CB V g1 40 (lA x)) D7 from r9_x)
    refine hK.out _ _ y10.out (fun hHeld => ?_)
    clear hK K y10
    try simp only [Act.put, List.setIfInBounds_toArray, List.set_cons_zero, List.set_cons_succ]
    refine wpAnyH_ready (rs := [6]) (by kernel_rfl) (by simp) ?_
    refine AllReadyH.cons rfl (fun K hK => ?_) AllReadyH.nil
    refine rd_litv rfl 134 40 _ rfl (some 24) rfl (.agg (lA x)) (lA x) rfl rfl Try.underlying134 Try.infoL2 rfl (by decide) (by decide) ?_
    refine ⟨fun V11 g11 n11 f11 => ?_⟩
    have ne11_g := f11.ne r9_g
    have ne11_x := f11.ne r9_x
    have up11 : w.heap.size ≤ g11 := f11.up l9
    have bl11 := f11.bel
    clear f11
    have r13_g := le_on r9_g bl11
    have r13_x := le_on r9_x bl11
    have r13_s := (r9_s).on bl11
    have l13 := le_tr l9 bl11
    clear r9_g r9_x r9_s l9
    clear bl11
    have y14 := Lib.hid (show (fun V : World => CB V g1 40 (lA x)) V11 from r13_x)
    refine hK.out _ _ y14.out (fun hHeld => ?_)
    clear hK K y14
    try simp only [Act.put, List.setIfInBounds_toArray, List.set_cons_zero, List.set_cons_succ]
    refine wpAnyH_ready (rs := [7]) (by kernel_rfl) (by simp) ?_
    refine AllReadyH.cons rfl (fun K hK => ?_) AllReadyH.nil
    have ne9 := r13_s.ne_ r13_g (by decide)
    refine rd_app rfl (.tmp 22) (.tmp 24) 134 rfl (some 25) rfl 40 Try.underlying134 Try.infoL rfl (by decide) (A := A) (n := n) (c := c) (G := G) rfl r13_s (As := some ⟨g11, 0, none⟩) (m := 1) (k := 1) rfl (Src.box n11 rfl) (all_list (lA_one _)) (by simp only [maxLen]; omega) (by omega) (n + 1) (by omega) ?_
    refine ⟨fun B9 m9 q9 w9 s9 h9 k9 => ?_⟩
    have e9 := CB.same r13_g (h9.block _ (CB.lt r13_g) (fun e => ne9 e.symm))
    have hx9 := CB.same r13_x (h9.block _ (CB.lt r13_x) (fun e => by have := hlow _ e.symm; have := up1; omega))
    have s9 : Seg w9 40 3 B9 (n + 1) m9 (rc lcl (L ++ [x])) q9 := by rw [← rc_snoc]; exact s9
    have o9 : Out w w9 (InG b A) := (Out.of _ l13).grown h9 (fun g e _ => .inr ((seg_in r13_s).1 e))
    have in9 : ∀ g, InB B9 g → InB A g ∨ w.heap.size ≤ g := by
      intro g hg
      have hq := (seg_in s9).2 hg
      rcases k9 with rfl | ⟨g', e', hg'⟩
      · exact .inl ((seg_in r13_s).1 hq)
      · rw [hq] at e'; cases e'; exact .inr (Nat.le_trans (l13).size hg')
    clear h9 k9 r13_g r13_s r13_x
    have y15 := Lib.hid (show (fun V : World => CB V g1 40 (lA x)) w9 from hx9)
    refine hK.out _ _ y15.out (fun hHeld => ?_)
    clear hK K y15
    try simp only [Act.put, List.setIfInBounds_toArray, List.set_cons_zero, List.set_cons_succ]
    refine wpAnyH_takeL (i := 8) (d := some 26) (v := .pointer (some ⟨b, 0, none⟩)) rfl rfl (by kernel_rfl) (by kernel_rfl) (by kernel_rfl) (fun _ _ _ h => h) (Or.inl ⟨by rfl, ?_⟩) hHeld ?_
    · intro w hSw; (try dsimp only at hSw); go_simp
    try simp only [Act.put, List.setIfInBounds_toArray, List.set_cons_zero, List.set_cons_succ]
    refine wpAnyH_takeL (i := 9) (d := some 27) (v := .pointer (some ⟨b, 1, none⟩)) rfl rfl (by kernel_rfl) (by kernel_rfl) (by kernel_rfl) (fun _ _ _ h => h) (Or.inl ⟨by rfl, ?_⟩) hHeld ?_
    · intro w hSw; (try dsimp only at hSw); go_simp
    try simp only [Act.put, List.setIfInBounds_toArray, List.set_cons_zero, List.set_cons_succ]
    refine wpAnyH_ready (rs := [10]) (by kernel_rfl) (by simp) ?_
    refine AllReadyH.cons rfl (fun K hK => ?_) AllReadyH.nil
    refine rd_cell rfl 134 _ _ rfl none rfl b 1 (.slice B9 (n + 1) m9) rfl rfl e9 (by rw [gA_size]; decide) (new := gA ⟨room, B9, n + 1, m9⟩) (gA_l _ _ _ _) one_row rfl rfl ?_
    refine ⟨fun V10 n10 k10 => ?_⟩
    have ne10 := s9.ne_ e9 (by decide)
    have s10 := s9.keep (fun g e => k10.far g (fun e' => ne10 (by rw [e, e'])))
    have o10 := o9.wrS k10 (.inl rfl)
    have x10 := k10.on hx9 (by have := hx9.ne_ e9 (by decide); exact this)
    clear s9 o9 e9 k10 hx9 ne10
    have y16 := Lib.hid (show (fun V : World => CB V g1 40 (lA x)) V10 from x10)
    refine hK.out _ _ y16.out (fun hHeld => ?_)
    clear hK K y16
    try simp only [Act.put, List.setIfInBounds_toArray, List.set_cons_zero, List.set_cons_succ]
    refine wpAnyH_done (by kernel_rfl) ?_ _
    go_wp2_with fail
    go_ret
    exact ⟨rfl, B9, m9, by rw [List.length_append, hln]; exact ⟨n10, ⟨q9, s10⟩⟩, o10, in9⟩
  · skip
    refine rd_litv rfl 134 40 _ rfl (some 24) rfl (.agg (lA x)) (lA x) rfl rfl Try.underlying134 Try.infoL2 rfl (by decide) (by decide) ?_
    refine ⟨fun V10 g10 n10 f10 => ?_⟩
    have ne10_g := f10.ne r9_g
    have ne10_x := f10.ne r9_x
    have up10 : w.heap.size ≤ g10 := f10.up l9
    have bl10 := f10.bel
    clear f10
    have r12_g := le_on r9_g bl10
    have r12_x := le_on r9_x bl10
    have r12_s := (r9_s).on bl10
    have l12 := le_tr l9 bl10
    clear r9_g r9_x r9_s l9
    clear bl10
    have y13 := Lib.hid (show (fun V : World => CB V g1 40 (lA x)) V10 from r12_x)
    refine hK.out _ _ y13.out (fun hHeld => ?_)
    clear hK K y13
    try simp only [Act.put, List.setIfInBounds_toArray, List.set_cons_zero, List.set_cons_succ]
    refine wpAnyH_ready (rs := [4]) (by kernel_rfl) (by simp) ?_
    refine AllReadyH.cons rfl (fun K hK => ?_) AllReadyH.nil
    refine rd_load rfl 134 _ rfl (some 22) rfl (.slice A n c) b (1) rfl (ld_one 134 (Try.isAgg134 _) (CB.cell r12_g 1)) ?_
    refine ⟨?_⟩
    have y14 := Lib.hid (show (fun V : World => CB V g1 40 (lA x)) V10 from r12_x)
    refine hK.out _ _ y14.out (fun hHeld => ?_)
    clear hK K y14
    try simp only [Act.put, List.setIfInBounds_toArray, List.set_cons_zero, List.set_cons_succ]
    refine wpAnyH_ready (rs := [7]) (by kernel_rfl) (by simp) ?_
    refine AllReadyH.cons rfl (fun K hK => ?_) AllReadyH.nil
    have ne9 := r12_s.ne_ r12_g (by decide)
    refine rd_app rfl (.tmp 22) (.tmp 24) 134 rfl (some 25) rfl 40 Try.underlying134 Try.infoL rfl (by decide) (A := A) (n := n) (c := c) (G := G) rfl r12_s (As := some ⟨g10, 0, none⟩) (m := 1) (k := 1) rfl (Src.box n10 rfl) (all_list (lA_one _)) (by simp only [maxLen]; omega) (by omega) (n + 1) (by omega) ?_
    refine ⟨fun B9 m9 q9 w9 s9 h9 k9 => ?_⟩
    have e9 := CB.same r12_g (h9.block _ (CB.lt r12_g) (fun e => ne9 e.symm))
    have hx9 := CB.same r12_x (h9.block _ (CB.lt r12_x) (fun e => by have := hlow _ e.symm; have := up1; omega))
    have s9 : Seg w9 40 3 B9 (n + 1) m9 (rc lcl (L ++ [x])) q9 := by rw [← rc_snoc]; exact s9
    have o9 : Out w w9 (InG b A) := (Out.of _ l12).grown h9 (fun g e _ => .inr ((seg_in r12_s).1 e))
    have in9 : ∀ g, InB B9 g → InB A g ∨ w.heap.size ≤ g := by
      intro g hg
      have hq := (seg_in s9).2 hg
      rcases k9 with rfl | ⟨g', e', hg'⟩
      · exact .inl ((seg_in r12_s).1 hq)
      · rw [hq] at e'; cases e'; exact .inr (Nat.le_trans (l12).size hg')
    clear h9 k9 r12_g r12_s r12_x
    have y15 := Lib.hid (show (fun V : World => CB V g1 40 (lA x)) w9 from hx9)
    refine hK.out _ _ y15.out (fun hHeld => ?_)
    clear hK K y15
    try simp only [Act.put, List.setIfInBounds_toArray, List.set_cons_zero, List.set_cons_succ]
    refine wpAnyH_takeL (i := 8) (d := some 26) (v := .pointer (some ⟨b, 0, none⟩)) rfl rfl (by kernel_rfl) (by kernel_rfl) (by kernel_rfl) (fun _ _ _ h => h) (Or.inl ⟨by rfl, ?_⟩) hHeld ?_
    · intro w hSw; (try dsimp only at hSw); go_simp
    try simp only [Act.put, List.setIfInBounds_toArray, List.set_cons_zero, List.set_cons_succ]
    refine wpAnyH_takeL (i := 9) (d := some 27) (v := .pointer (some ⟨b, 1, none⟩)) rfl rfl (by kernel_rfl) (by kernel_rfl) (by kernel_rfl) (fun _ _ _ h => h) (Or.inl ⟨by rfl, ?_⟩) hHeld ?_
    · intro w hSw; (try dsimp only at hSw); go_simp
    try simp only [Act.put, List.setIfInBounds_toArray, List.set_cons_zero, List.set_cons_succ]
    refine wpAnyH_ready (rs := [10]) (by kernel_rfl) (by simp) ?_
    refine AllReadyH.cons rfl (fun K hK => ?_) AllReadyH.nil
    refine rd_cell rfl 134 _ _ rfl none rfl b 1 (.slice B9 (n + 1) m9) rfl rfl e9 (by rw [gA_size]; decide) (new := gA ⟨room, B9, n + 1, m9⟩) (gA_l _ _ _ _) one_row rfl rfl ?_
    refine ⟨fun V10 n10 k10 => ?_⟩
    have ne10 := s9.ne_ e9 (by decide)
    have s10 := s9.keep (fun g e => k10.far g (fun e' => ne10 (by rw [e, e'])))
    have o10 := o9.wrS k10 (.inl rfl)
    have x10 := k10.on hx9 (by have := hx9.ne_ e9 (by decide); exact this)
    clear s9 o9 e9 k10 hx9 ne10
    have y16 := Lib.hid (show (fun V : World => CB V g1 40 (lA x)) V10 from x10)
    refine hK.out _ _ y16.out (fun hHeld => ?_)
    clear hK K y16
    try simp only [Act.put, List.setIfInBounds_toArray, List.set_cons_zero, List.set_cons_succ]
    refine wpAnyH_done (by kernel_rfl) ?_ _
    go_wp2_with fail
    go_ret
    exact ⟨rfl, B9, m9, by rw [List.length_append, hln]; exact ⟨n10, ⟨q9, s10⟩⟩, o10, in9⟩
theorem drop_list (L : List Lm) (k : Nat) (hk : k < L.length) :
    ((((rc lcl L).take (k * 3) ++ (rc lcl L).drop ((k + 1) * 3) ++ (rc lcl L).drop ((L.length - 1) * 3)).take ((L.length - 1) * 3))) = rc lcl (L.eraseIdx k) := by
  rw [rc_take 3, rc_drop 3, rc_drop 3, ← rc_append, List.take_append_of_le_length (by rw [rc_length 3, List.length_append, List.length_take, List.length_drop]; omega), List.take_of_length_le (by rw [rc_length 3, List.length_append, List.length_take, List.length_drop]; omega), List.eraseIdx_eq_take_drop_succ]
set_option maxRecDepth 100000 in
set_option maxHeartbeats 2000000 in
theorem drop_y (b room : Nat) (A : Option Addr) (n c : Nat) (L : List Lm) (k : Nat) (w : World) (hb : RG w b room A n c L) (h : 1 ≤ room) (hr : room ≤ 1000) (hk : k < n) (hn : n ≤ 1000) :
    Calls Try.prog 39 #[.pointer (some ⟨b, 0, none⟩), .int .i64 (k : Int)] w (GPost w b room A (L.eraseIdx k)) := by
  have hb0 := hb
  have hln := hb.len
  have hbx := hb.box
  obtain ⟨G, hs⟩ := hb.row
  subst hln
  have hnc := hs.2.1
  have hone := rc_one (c := lcl) 3 L
  obtain ⟨i0, hi0, hz0, hz1, hz2⟩ := parts_of Try.infoL
  obtain ⟨w1, hcp, hs1, hg1⟩ := run_copy_seg (P := Try.prog) w.drew 134 40 i0 3 Try.underlying134 hi0 hz1 hs.drew hone k hk
  obtain ⟨w2, ys, hcl, hs2, hg2⟩ := run_clear_tail (P := Try.prog) w1 134 40 (.agg (lA zeroL)) 3 rfl Try.underlying134 zero_lc (fun u hu => all_list (lA_one zeroL) u (by simpa [Value.cells] using hu)) hs1 (L.length - 1) (by omega) (by omega)
  have hs3 := hs2.upto (k := L.length - 1) (by omega)
  have hlist : ((((rc lcl L).take (k * 3) ++ (rc lcl L).drop ((k + 1) * 3) ++ (rc lcl L).drop ((L.length - 1) * 3)).take ((L.length - 1) * 3)) ++ ys).take ((L.length - 1) * 3) = rc lcl (L.eraseIdx k) := by
    rw [drop_list L k hk]
    exact List.take_left' (by rw [rc_length 3, List.length_eraseIdx, if_pos hk])
  rw [hlist] at hs3
  have hne := hs.ne_ hbx (by decide)
  have hb1 : CB w1 b 136 #[.int .i64 (room : Int), .slice A L.length c] := hbx.drew.same (hg1.block b hbx.lt (fun e => hne e.symm))
  have hb2 : CB w2 b 136 #[.int .i64 (room : Int), .slice A L.length c] := hb1.same (hg2.block b hb1.lt (fun e => hne e.symm))
  have hin : ∀ g, G = some g → InG b A g := fun g e => .inr ((seg_in hs).1 e)
  have hon : Out w w2 (InG b A) := (((Out.refl w (InG b A)).drewR).grown hg1 (fun g e _ => hin g e)).grown hg2 (fun g e _ => hin g e)
  have hend : GPost w b room A (L.eraseIdx k) (.returned (.int .i64 0)) (w2.setCell ⟨b, 1, none⟩ (.slice A (L.length - 1) c)) :=
    ⟨rfl, A, c, by rw [List.length_eraseIdx, if_pos hk]; exact ⟨by simpa using hb2.put 1 (.slice A (L.length - 1) c), ⟨G, hs3.far (p := ⟨b, 1, none⟩) hne _⟩⟩, hon.wrS (Wr.cell hb2 1 _) (.inl rfl), fun g hg => .inl hg⟩
  have cut1 := fun W => run_cut_from (P := Try.prog) 134 40 Try.underlying134 3 Try.sizeL A L.length c k (by omega) W
  have cut2 := fun W => run_cut_from (P := Try.prog) 134 40 Try.underlying134 3 Try.sizeL A L.length c (k + 1) (by omega) W
  have cut3 := fun W => run_cut_from (P := Try.prog) 134 40 Try.underlying134 3 Try.sizeL A L.length c (L.length - 1) (by omega) W
  have cut4 := fun W => run_cut_upto (P := Try.prog) 134 40 Try.underlying134 3 Try.sizeL A L.length c (L.length - 1) (by omega) W
  rw [show ((k + 1 : Nat) : Int) = (k : Int) + 1 by omega] at cut2
  rw [show ((L.length - 1 : Nat) : Int) = (L.length : Int) - 1 by omega] at cut3 cut4
  generalize (if c = k then A else A.map (fun x : Addr => x.add (k * 3))) = A1 at cut1 hcp
  generalize (if c = k + 1 then A else A.map (fun x : Addr => x.add ((k + 1) * 3))) = A2 at cut2 hcp
  generalize (if c = L.length - 1 then A else A.map (fun x : Addr => x.add ((L.length - 1) * 3))) = A3 at cut3 hcl
  have c1 : w.cell? ⟨b, 1, none⟩ = some (.slice A L.length c) := hbx.cell 1
  have d1 : w1.cell? ⟨b, 1, none⟩ = some (.slice A L.length c) := hb1.cell 1
  have e1 : w2.cell? ⟨b, 1, none⟩ = some (.slice A L.length c) := hb2.cell 1
  have e2 : w2.frozen? ⟨b, 1, none⟩ = false := hb2.frozen 1
  have Hend := Lib.hid hend
  clear hend hs3 hs2 hs1 hs hb1 hb2 hbx hg1 hg2 hon hin hlist hone hi0 hz0 hz1 hz2 hne
  have hk' : (k : Int) < (L.length : Int) := by omega
  go_enter Try.func39, Try.ntmps39
  go_wp2_with fail
  (with_reducible refine (find_y b room _ _ _ L k _ hb0 h (by omega) hk').mono ?_)
  rintro e w' ⟨rfl, rfl⟩
  go_wp2_with fail
  have hwr : IntKind.i64.wrap ((k : Int) + 1) = (k : Int) + 1 := IntWalk.i64_in _ (by omega)
  go_still_tail 13, (by kernel_rfl)
  clear hwr
  change wpList _ _ _ _ _ w.drew
  go_wp2
  go_ret
  exact Hend.out
end Go.Proofs.Ytcfdfimkgehdfaa
