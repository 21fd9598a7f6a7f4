/-
  alive of layer 4's laws: it returns true. No condition.
-/
import Derived.Test.YtdelllkgllfcdaaDiskH
namespace Go.Proofs.Ytdelllkgllfcdaa
open Go.RowKit

def sa : List UInt8 := [97]
def sb : List UInt8 := [98]
def sxy : List UInt8 := [120, 121]
theorem al_e1 : eA 0 100 sa = 0 := by decide
theorem al_b1 : bA 100 [] sa = frameB sa := bA_ok al_e1
theorem al_l1 : (frameB sa).length = 8 := rfl
theorem al_e2 : eA 8 100 sb = 0 := by decide
theorem al_b2 : bA 100 (frameB sa) sb = frameB sa ++ frameB sb := bA_ok (by rw [al_l1]; exact al_e2)
theorem al_l2 : (frameB sa ++ frameB sb).length = 16 := rfl
theorem al_k : kC 16 8 3 = 11 := by decide
theorem al_f : frameB sa ++ frameB sb = frs [sa, sb] := by simp [frs]
theorem al_3 : aC ((frameB sa ++ frameB sb).take 11) = [sa] ∧ aN ((frameB sa ++ frameB sb).take 11) = 8 := by
  have h := aC_cut [sa, sb] 11 (by decide)
  have hw : wh 11 [sa, sb] = 1 := by decide
  rw [hw] at h
  rw [al_f]
  refine ⟨h.1, h.2.trans ?_⟩
  simp [frs, frameB_length, show sa.length = 1 from rfl]
theorem al_r : eR 100 [sxy] = 0 := eR_ok (by decide) (by simp [frs, frameB_length, show sxy.length = 2 from rfl])
theorem al_s : sR 8 100 [sxy] = 9 := by unfold sR; rw [if_pos al_r]; simp [frs, frameB_length, show sxy.length = 2 from rfl]

/-- A variable that holds a disk: the world behind its making under a name. -/
theorem boxed (w1 : World) (T : TypeId) (A : Option Addr) (n c : Nat) (s r : Int) : ∃ W, w1.alloc (.cells #[.slice A n c, .int .i64 s, .int .i64 r] T) = W ∧ Box W w1.heap.size T A n c s r ∧ Below w1.heap.size w1 W :=
  ⟨_, rfl, Box.new _ _ _ _ _ _ _, (Below.refl _ _).alloc (Nat.le_refl _) _⟩

theorem xy_world (w7 : World) (A : Option Addr) (n c : Nat) (s r : Int) :
    ∃ W9, ((w7.alloc (.cells #[.slice A n c, .int .i64 s, .int .i64 r] 28)).alloc (.cells #[.int .u8 120, .int .u8 121] 5 (2, 3))).alloc (.cells #[.slice (some ⟨w7.heap.size + 1, 0, none⟩) 2 2] 22) = W9 ∧
      LR W9 W9.heap.size (some ⟨w7.heap.size + 1 + 1, 0, none⟩) 1 1 [sxy] ∧ Box W9 w7.heap.size 28 A n c s r ∧ Below w7.heap.size w7 W9 := by
  have e1 : (w7.alloc (.cells #[.slice A n c, .int .i64 s, .int .i64 r] 28)).heap.size = w7.heap.size + 1 := by simp
  have h1 := cellsU8 (w := w7.alloc (.cells #[.slice A n c, .int .i64 s, .int .i64 r] 28)) (l := sxy) 5 [.int .u8 120, .int .u8 121] (2, 3) 2 rfl rfl (by simp [maxLen])
  rw [e1] at h1
  have e2 : ((w7.alloc (.cells #[.slice A n c, .int .i64 s, .int .i64 r] 28)).alloc (.cells #[.int .u8 120, .int .u8 121] 5 (2, 3))).heap.size = w7.heap.size + 1 + 1 := by simp
  have h2 := lr_one h1 22
  rw [show [Value.int IntKind.u8 120, Value.int IntKind.u8 121].toArray = #[.int .u8 120, .int .u8 121] from rfl, e2] at h2
  exact ⟨_, rfl, h2, ((Box.new _ _ _ _ _ _ _).alloc _).alloc _, (((Below.refl _ _).alloc (Nat.le_refl _) _).alloc (by simp) _).alloc (by simp; omega) _⟩

set_option maxRecDepth 100000 in
set_option maxHeartbeats 2000000 in
theorem alive_c (w : World) : Calls Try.prog 9 #[] w fun e w' => e = .returned (.bool true) ∧ Below w.heap.size w w' := by
  have hba := cellsU8 (w := w) (l := sa) 5 [.int .u8 97] (1, 1 + 1) 1 rfl rfl (by simp [maxLen])
  have hb0 := (Below.refl w.heap.size w).alloc (Nat.le_refl _) (.cells #[.int .u8 97] 5 (1, 1 + 1))
  have kc := fun (w : World) (C : Array Value) (n c : Nat) => Lib.run_convert_bytes_const (P := Try.prog) w 22 5 C n c Try.underlying22 Try.underlying5
  go_enter Try.func9, Try.ntmps9
  go_wp2_with fail
  refine (append_d none 0 0 100 0 [] _ 1 1 sa _ (BR.nil _ _) hba (by omega) (by omega)).mono ?_
  rintro e w1 ⟨A1, n1, c1, he1, hx1, hb1⟩
  rw [al_e1] at he1
  rw [al_b1] at hx1
  subst he1
  obtain rfl : n1 = 8 := by rw [← hx1.1]; rfl
  have hb01 : Below w.heap.size w w1 := hb0.trans (hb1.mono hb0.size)
  clear hba hb0 hb1
  go_wp2_with fail
  obtain ⟨W1, hW1, bx1, hbW1⟩ := boxed w1 28 A1 8 c1 0 100
  rw [hW1]
  have HW1 := Lib.hid hW1
  have hb0W := hb01.trans (hbW1.mono hb01.size)
  have hxW := hx1.on hbW1
  have hw1 : w.heap.size ≤ w1.heap.size := hb01.size
  clear hW1 hx1 hb01 hbW1
  generalize w1.heap.size = d1 at *
  refine (sync_d A1 8 c1 0 100 _ W1 hxW (by omega)).mono ?_
  rintro e w2 ⟨A2, c2, rfl, hx2, hb2⟩
  have bx2 := bx1.on hb2 bx1.lt
  have hb02 := hb0W.trans (hb2.mono hb0W.size)
  have hbb := cellsU8 (w := w2) (l := sb) 5 [.int .u8 98] (1, 1 + 1) 1 rfl rfl (by simp [maxLen])
  have hbL : Below w2.heap.size w2 (w2.alloc (.cells #[.int .u8 98] 5 (1, 1 + 1))) := (Below.refl _ _).alloc (Nat.le_refl _) _
  have hxL := hx2.on hbL
  have bxL := bx2.on hbL bx2.lt
  have hb0L := hb02.trans (hbL.mono hb02.size)
  clear hb2 hb02 hbL hx2 hb0W hxW bx1 bx2 HW1
  go_wp2_with fail
  refine (append_d A2 8 c2 100 8 (frameB sa) _ 1 1 sb _ hxL hbb (by omega) (by omega)).mono ?_
  rintro e w3 ⟨A3, n3, c3, he3, hx3, hb3⟩
  rw [al_e2] at he3
  rw [al_b2] at hx3
  subst he3
  obtain rfl : n3 = 16 := by rw [← hx3.1]; rfl
  have bx3 := bxL.on hb3 bxL.lt
  have hb03 := hb0L.trans (hb3.mono hb0L.size)
  clear hbb hxL bxL hb0L hb3
  obtain ⟨z0, z1, z2⟩ := bx3.cells
  obtain ⟨f0, f1, f2⟩ := bx3.froz
  obtain ⟨w4, hw4, bx4, _, k4, k4'⟩ := store_end bx3 A3 16 c3 8 100
  have HW4 := Lib.hid hw4
  have hb04 := k4 _ _ hb03 hw1
  have hx4 := k4' _ _ _ _ hx3
  clear hw4 k4 k4' hb03 hx3 bx3
  go_wp2_with fail
  rw [HW4.out]
  clear z0 z1 z2 f0 f1 f2
  refine (crash_d A3 16 c3 8 3 100 _ w4 hx4 (by omega) (by omega) (by omega)).mono ?_
  rw [al_k]
  rintro e w5 ⟨A5, c5, rfl, hx5, hb5⟩
  have bx5 := bx4.on hb5 bx4.lt
  have hx45 := hx4.on hb5
  have hb05 := hb04.trans (hb5.mono hb04.size)
  have hd5 : d1 < w5.heap.size := bx5.lt
  clear hb04 hb5 hx4 bx4 HW4
  go_wp2_with fail
  obtain ⟨W5, hW5, cx5, hbW5⟩ := boxed w5 28 A5 11 c5 11 100
  rw [hW5]
  have bxW := bx5.on hbW5 bx5.lt
  have hxW := hx5.on hbW5
  have hxdW := hx45.on hbW5
  have hb0W := hb05.trans (hbW5.mono hb05.size)
  have hd15 : d1 ≠ w5.heap.size := by omega
  clear hW5 bx5 hx5 hx45 hb05 hbW5 hd5
  generalize w5.heap.size = d5 at *
  refine (records_d A5 11 c5 11 100 _ W5 hxW (by omega)).mono ?_
  rintro e w6 h6
  obtain ⟨A6, n6, c6, he6, hl6, hb6⟩ := h6.toA
  rw [al_3.2] at he6
  rw [al_3.1] at hl6
  subst he6
  obtain rfl : n6 = 1 := hl6.1.symm
  have bx6 := bxW.on hb6 bxW.lt
  have cx6 := cx5.on hb6 cx5.lt
  have hx6 := hxW.on hb6
  have hxd6 := hxdW.on hb6
  have hb06 := hb0W.trans (hb6.mono hb0W.size)
  clear bxW cx5 hxW hxdW hb0W hb6 hl6 h6
  obtain ⟨y0, y1, y2⟩ := cx6.cells
  go_wp2_with fail
  refine (repair_d A5 11 c5 11 100 _ w6 hx6 (by omega)).mono ?_
  rw [al_3.2]
  rintro e w7 ⟨A7, c7, rfl, hx7, hb7⟩
  have bx7 := bx6.on hb7 bx6.lt
  have cx7 := cx6.on hb7 cx6.lt
  have hxd7 := hxd6.on hb7
  have hb07 := hb06.trans (hb7.mono hb06.size)
  clear bx6 cx6 hx6 hxd6 hb06 hb7 hx7 y0 y1 y2
  have bxA := bx7.alloc (.cells #[.slice A7 8 c7, .int .i64 8, .int .i64 100] 28)
  have hd17 : d1 ≠ w7.heap.size := by have := bx7.lt; omega
  have hd57 : d5 ≠ w7.heap.size := by have := cx7.lt; omega
  have kc7 : (convert 22 22 (.slice (some ⟨w7.heap.size + 1, 0, none⟩) 2 2)).run Try.prog ((w7.alloc (.cells #[.slice A7 8 c7, .int .i64 8, .int .i64 100] 28)).alloc (.cells #[.int .u8 120, .int .u8 121] 5)) = .ok (.slice (some ⟨w7.heap.size + 1, 0, none⟩) 2 2) ((w7.alloc (.cells #[.slice A7 8 c7, .int .i64 8, .int .i64 100] 28)).alloc (.cells #[.int .u8 120, .int .u8 121] 5 (2, 2 + 1))) := by
    have := kc (w7.alloc (.cells #[.slice A7 8 c7, .int .i64 8, .int .i64 100] 28)) #[.int .u8 120, .int .u8 121] 2 2
    simpa using this
  obtain ⟨z0, z1, z2⟩ := bxA.cells
  clear kc
  go_wp2_with fail
  obtain ⟨W9, hW9, hl9, rx9, hb9⟩ := xy_world w7 A7 8 c7 8 100
  rw [hW9]
  have bx9 := bx7.on hb9 bx7.lt
  have cx9 := cx7.on hb9 cx7.lt
  have hx9 := hxd7.on hb9
  have hb09 := hb07.trans (hb9.mono hb07.size)
  clear hW9 z0 z1 z2 kc7 bxA bx7 cx7 hxd7 hb07 hb9
  generalize w7.heap.size = d7 at *
  refine (renew_d A3 16 c3 100 8 _ _ 1 1 [sxy] W9 hx9 hl9 (by omega) (by omega)).mono ?_
  rw [al_r, al_s]
  rintro e w10 ⟨A10, n10, c10, rfl, hx10, hb10⟩
  have cx10 := cx9.on hb10 cx9.lt
  have rx10 := rx9.on hb10 rx9.lt
  have hb010 := hb09.trans (hb10.mono hb09.size)
  have cxA := cx10.alloc (.cells #[.slice A10 n10 c10, .int .i64 9, .int .i64 100] 28)
  have rxA := rx10.alloc (.cells #[.slice A10 n10 c10, .int .i64 9, .int .i64 100] 28)
  have hbA : Below w.heap.size w (w10.alloc (.cells #[.slice A10 n10 c10, .int .i64 9, .int .i64 100] 28)) := hb010.alloc hb010.size _
  obtain ⟨y0, y1, y2⟩ := cxA.cells
  obtain ⟨z0, z1, z2⟩ := rxA.cells
  clear cx9 rx9 cx10 rx10 bx9 hx9 hl9 hb09 hb10 hb010 hx10 cxA rxA
  go_wp2_with fail
  go_ret
  exact ⟨rfl, hbA⟩
end Go.Proofs.Ytdelllkgllfcdaa
