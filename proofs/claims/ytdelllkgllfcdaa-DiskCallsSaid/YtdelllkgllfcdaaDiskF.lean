/-
  Renew of package disk; Right, Same, Sync, Crash and Repair of the document's answer. Conditions: the bytes can be read, there are a million of them at most.
-/
import Derived.Test.YtdelllkgllfcdaaDiskB
import Derived.Test.YtdelllkgllfcdaaDiskE
namespace Go.Proofs.Ytdelllkgllfcdaa
open Go.RowKit

def sR (s : Int) (r : Nat) (ls : List (List UInt8)) : Int := if eR r ls = 0 then ((frs ls).length : Int) else s
def bR (bs : List UInt8) (r : Nat) (ls : List (List UInt8)) : List UInt8 := if eR r ls = 0 then frs ls else bs

set_option maxRecDepth 100000 in
set_option maxHeartbeats 2000000 in
theorem renew_d (A : Option Addr) (n c r : Nat) (s : Int) (bs : List UInt8) (Al : Option Addr) (nl cl : Nat) (ls : List (List UInt8)) (w : World) (hb : BR w w.heap.size A n c bs) (hl : LR w w.heap.size Al nl cl ls) (hn : n ≤ 1000000) (hrm : r ≤ 2000000) :
    Calls Try.prog 24 #[.agg #[.slice A n c, .int .i64 s, .int .i64 r], .slice Al nl cl] w (TPost w (sR s r ls) r (bR bs r ls) (eR r ls)) := by
  obtain ⟨W, hW, ha, hbox, hbl, hS⟩ := two_boxes w 28 28 A n c s r
  have hlW := hl.on hbl
  obtain ⟨d0, d1, d2⟩ := ha.cells
  go_enter Try.func24, Try.ntmps24
  go_wp2_with fail
  rw [← hW]
  clear hW
  refine (frames_c Al nl cl r ls W hlW hrm).mono ?_
  rintro e w1 ⟨A1, n1, c1, rfl, hx1, hb1⟩
  have ha1 := ha.on hb1 ha.lt
  have hbox1 := hbox.on hb1 hbox.lt
  have hbl1 := hbl.trans (hb1.mono hbl.size)
  have hb1' := hb.on hbl1
  clear hlW ha hbox hbl hb1 d0 d1 d2
  obtain ⟨d0, d1, d2⟩ := ha1.cells
  by_cases h0 : eR r ls = 0
  · have HS := Lib.hid (show sR s r ls = (n1 : Int) by have h5 := hx1.1; rw [if_pos h0] at h5; unfold sR; rw [if_pos h0, h5])
    have HB := Lib.hid (show bR bs r ls = frs ls from if_pos h0)
    have HE := Lib.hid h0
    rw [if_pos h0] at hx1
    rw [h0]
    clear h0
    have hn1 := hx1.max
    obtain ⟨z0, z1, z2⟩ := hbox1.cells
    obtain ⟨f0, f1, f2⟩ := hbox1.froz
    obtain ⟨w3, hw3, ⟨v0, v1, v2⟩, hx3, hb3⟩ := dpost_end hbox1 hbl1 (by omega) hx1 n1 r
    have Hw3 := Lib.hid hw3
    clear hw3 hx1
    go_wp2_with fail
    rw [Hw3.out]
    exact bodyPost_ret (v := .tuple #[.agg #[.slice A1 n1 c1, .int .i64 n1, .int .i64 r], .int .i64 0]) (by simp [results, Try.results24, go_sem, v0, v1, v2]) rfl ⟨A1, n1, c1, by rw [HE.out, HS.out]; rfl, by rw [HB.out]; exact hx3, hb3⟩
  · have HS := Lib.hid (show sR s r ls = s from if_neg h0)
    have HB := Lib.hid (show bR bs r ls = bs from if_neg h0)
    have h0' : ((eR r ls : Int) != 0) = true := by rw [bne_iff_ne]; omega
    obtain ⟨E, hE⟩ : ∃ E, eR r ls = E := ⟨_, rfl⟩
    have HE := Lib.hid hE
    rw [hE] at h0'
    rw [hE]
    clear h0 hx1 hE
    go_wp2_with fail
    refine (clone_d A n c s r bs w1 hb1' hn).mono ?_
    rintro e w2 ⟨A2, c2, rfl, hx2, hb2⟩
    have y2 := hbox1.on hb2 hbox1.lt
    obtain ⟨z0, z1, z2⟩ := y2.cells
    obtain ⟨f0, f1, f2⟩ := y2.froz
    obtain ⟨w3, hw3, ⟨v0, v1, v2⟩, hx3, hb3⟩ := dpost_end y2 (hbl1.trans (hb2.mono hbl1.size)) (by omega) hx2 s r
    have Hw3 := Lib.hid hw3
    clear hw3 hb2 hx2 y2 d0 d1 d2
    go_wp2_with fail
    rw [Hw3.out]
    exact bodyPost_ret (v := .tuple #[.agg #[.slice A2 n c2, .int .i64 s, .int .i64 r], .int .i64 E]) (by simp [results, Try.results24, go_sem, v0, v1, v2]) rfl ⟨A2, n, c2, by rw [HS.out, HE.out], by rw [HB.out]; exact hx3, hb3⟩

/-- May a disk be? -/
def rightB (n : Nat) (s r : Int) : Bool := decide (0 ≤ r ∧ r ≤ 1048576 ∧ (n : Int) ≤ r ∧ 0 ≤ s ∧ s ≤ (n : Int))

set_option maxRecDepth 100000 in
set_option maxHeartbeats 1000000 in
theorem right_c (A : Option Addr) (n c : Nat) (s r : Int) (w : World) :
    Calls Try.prog 10 #[.agg #[.slice A n c, .int .i64 s, .int .i64 r]] w fun e w' => e = .returned (.bool (rightB n s r)) ∧ Below w.heap.size w w' := by
  have hbl : Below w.heap.size w (w.alloc (.cells #[.slice A n c, .int .i64 s, .int .i64 r] 24)) := (Below.refl _ _).alloc (Nat.le_refl _) _
  go_enter Try.func10, Try.ntmps10
  go_wp2_with fail
  all_goals go_ret
  all_goals refine ⟨ret_bool ?_, hbl⟩
  all_goals
    rw [Bool.eq_iff_iff]
    unfold rightB
    simp only [decide_eq_true_eq, Bool.false_eq_true, false_iff]
    omega

set_option maxRecDepth 100000 in
set_option maxHeartbeats 1000000 in
theorem same_d (A A' : Option Addr) (n c n' c' : Nat) (s r : Int) (bs : List UInt8) (w : World) (h1 : BR w w.heap.size A n c bs) (h2 : BR w w.heap.size A' n' c' bs) :
    Calls Try.prog 15 #[.agg #[.slice A n c, .int .i64 s, .int .i64 r], .agg #[.slice A' n' c', .int .i64 s, .int .i64 r]] w fun e w' => e = .returned (.bool true) ∧ Below w.heap.size w w' := by
  have hbl : Below w.heap.size w ((w.alloc (.cells #[.slice A n c, .int .i64 s, .int .i64 r] 24)).alloc (.cells #[.slice A' n' c', .int .i64 s, .int .i64 r] 24)) := ((Below.refl _ _).alloc (Nat.le_refl _) _).alloc (by simp) _
  have hcv1 := conv_br (h1.on hbl)
  have hcv2 := conv_br (h2.on hbl)
  have hee : ((mkS bs).toList == (mkS bs).toList) = true := beq_self_eq_true _
  go_enter Try.func15, Try.ntmps15
  go_wp2_with fail
  go_ret
  exact ⟨rfl, hbl⟩

theorem Box.put0 {W : World} {b : Nat} {T : TypeId} {A : Option Addr} {n c : Nat} {s r : Int} (h : Box W b T A n c s r) (A' : Option Addr) (n' c' : Nat) : Box (W.setCell ⟨b, 0, none⟩ (.slice A' n' c')) b T A' n' c' s r := CB.put h 0 (.slice A' n' c')
theorem Box.put1 {W : World} {b : Nat} {T : TypeId} {A : Option Addr} {n c : Nat} {s r : Int} (h : Box W b T A n c s r) (s' : Int) : Box (W.setCell ⟨b, 1, none⟩ (.int .i64 s')) b T A n c s' r := CB.put h 1 (.int .i64 s')
theorem Box.far1 {W : World} {b : Nat} {T : TypeId} {A : Option Addr} {n c : Nat} {s r : Int} (h : Box W b T A n c s r) {d : Nat} (hd : b ≠ d) (i : Nat) (x : Value) : Box (W.setCell ⟨d, i, none⟩ x) b T A n c s r := CB.far h (p := ⟨d, i, none⟩) hd x
theorem size1 (W : World) (p : Addr) (x : Value) : (W.setCell p x).heap.size = W.heap.size := by simp [World.setCell]
theorem BR.far1 {W : World} {A : Option Addr} {n c : Nat} {bs : List UInt8} (h : BR W W.heap.size A n c bs) {d : Nat} {T : TypeId} {A' : Option Addr} {n' c' : Nat} {s' r' : Int} (hd : Box W d T A' n' c' s' r') (j : Nat) (x : Value) : BR (W.setCell ⟨d, j, none⟩ x) (W.setCell ⟨d, j, none⟩ x).heap.size A n c bs := by
  rw [size1]
  refine ⟨h.1, h.2.1, h.2.2.1, fun hn => ?_⟩
  obtain ⟨g, off, h1, h2, h3⟩ := h.2.2.2 hn
  refine ⟨g, off, h1, h2, fun i v hv => ?_⟩
  have h4 := h3 i v hv
  have hne : g ≠ d := by
    rintro rfl
    rw [CB.cell hd] at h4
    match hk : off + i, h4 with
    | 0, h4 => simp at h4
    | 1, h4 => simp at h4
    | 2, h4 => simp at h4
    | k + 3, h4 => simp at h4
  rw [← h4]
  exact World.cell?_of_block (a := ⟨g, off + i, none⟩) (Below.heap_setCell _ ⟨d, j, none⟩ _ g hne)

/-- A disk's bytes and safe ones are set in its box b, and then it is stored into block d: the world behind it under a name. -/
theorem rpost_end {w w1 : World} {b d : Nat} {T T' : TypeId} {A0 A1 : Option Addr} {n0 c0 n1 c1 : Nat} {s0 r0 s1 r1 : Int} (ha : Box w1 b T A0 n0 c0 s0 r0) (hd : Box w1 d T' A1 n1 c1 s1 r1) (hbd : b ≠ d) (hbl : Below w.heap.size w w1) (hwb : w.heap.size ≤ b) (hwd : w.heap.size ≤ d)
    {A : Option Addr} {n c : Nat} {bs : List UInt8} (hx : BR w1 w1.heap.size A n c bs) (s r : Int) :
    ∃ w2, ((((w1.setCell ⟨b, 0, none⟩ (.slice A n c)).setCell ⟨b, 1, none⟩ (.int .i64 s)).setCell ⟨d, 0, none⟩ (.slice A n c)).setCell ⟨d, 1, none⟩ (.int .i64 s)).setCell ⟨d, 2, none⟩ (.int .i64 r) = w2 ∧ (w2.cell? ⟨d, 0, none⟩ = some (.slice A n c) ∧ w2.cell? ⟨d, 1, none⟩ = some (.int .i64 s) ∧ w2.cell? ⟨d, 2, none⟩ = some (.int .i64 r)) ∧
      BR w2 w2.heap.size A n c bs ∧ Below w.heap.size w w2 :=
  dpost_end ((hd.far1 (Ne.symm hbd) 0 (.slice A n c)).far1 (Ne.symm hbd) 1 (.int .i64 s)) ((hbl.setCell hwb _).setCell hwb _) hwd ((hx.far1 ha 0 (.slice A n c)).far1 (ha.put0 A n c) 1 (.int .i64 s)) s r

set_option maxRecDepth 100000 in
set_option maxHeartbeats 1000000 in
theorem sync_r (A : Option Addr) (n c : Nat) (s r : Int) (bs : List UInt8) (w : World) (hb : BR w w.heap.size A n c bs) :
    Calls Try.prog 18 #[.agg #[.slice A n c, .int .i64 s, .int .i64 r]] w (DPost w n n r bs) := by
  have hnm := hb.max
  have h2 : Below w.heap.size w ((w.alloc (.cells #[.slice A n c, .int .i64 n, .int .i64 r] 24)).alloc (.cells #[.slice A n c, .int .i64 n, .int .i64 r] 24)) := ((Below.refl _ _).alloc (Nat.le_refl _) _).alloc (by simp) _
  go_enter Try.func18, Try.ntmps18
  go_wp2_with fail
  exact bodyPost_ret (v := .agg #[.slice A n c, .int .i64 n, .int .i64 r]) (by simp [results, Try.results18, go_sem]) rfl ⟨A, c, rfl, hb.on h2, h2⟩

set_option maxRecDepth 100000 in
set_option maxHeartbeats 1000000 in
theorem crash_r (A : Option Addr) (n c s k : Nat) (r : Int) (bs : List UInt8) (w : World) (hb : BR w w.heap.size A n c bs) (hn : n ≤ 1000000) (hs : s ≤ n) (hk : k < 65536) :
    Calls Try.prog 20 #[.agg #[.slice A n c, .int .i64 s, .int .i64 r], .int .u16 k] w (DPost w (kC n s k) (kC n s k) r (bs.take (kC n s k))) := by
  obtain ⟨K, hKe⟩ : ∃ K, kC n s k = K := ⟨_, rfl⟩
  rw [hKe]
  have hK := (kC_le (k := k) hs).2
  have q4 : wrap64 ((s : Int) + (k : Int) % ((n : Int) - (s : Int) + 1)) = ((kC n s k : Nat) : Int) := by
    have e : ((kC n s k : Nat) : Int) = (s : Int) + (k : Int) % ((n : Int) - (s : Int) + 1) := by
      unfold kC
      rw [Int.natCast_add, Int.natCast_emod, show ((n - s + 1 : Nat) : Int) = (n : Int) - (s : Int) + 1 by omega]
    rw [← e]
    unfold wrap64
    omega
  rw [hKe] at hK q4
  have Q4 := Lib.hid q4
  clear q4 hKe
  obtain ⟨W, hW, ha, hbox, hbl, hS⟩ := two_boxes w 24 24 A n c s r
  go_enter Try.func20, Try.ntmps20
  go_wp2_with fail
  rw [← hW]
  clear hW
  obtain ⟨d0, d1, d2⟩ := ha.cells
  have q0 : IntKind.i64.wrap ((n : Int) - (s : Int)) = (n : Int) - (s : Int) := IntWalk.i64_in _ (by omega)
  have q1 : IntKind.i64.wrap ((n : Int) - (s : Int) + 1) = (n : Int) - (s : Int) + 1 := IntWalk.i64_in _ (by omega)
  have q2 : IntKind.i64.wrap ((k : Int)) = (k : Int) := IntWalk.i64_in _ (by omega)
  have q3 : ¬ (n : Int) - (s : Int) + 1 = 0 := by omega
  go_quiet (fail)
  clear q0 q1 q2 q3
  rw [Q4.out]
  have haN := ha.drewN nq
  have hboxN := hbox.drewN nq
  have hblN := belowN hbl nq
  generalize W.drewN nq = w1 at *
  obtain ⟨hcut, hbW⟩ := cut_upto (hb.on hblN) K K rfl hK
  clear ha hbox hbl d0 d1 d2
  obtain ⟨d0, d1, d2⟩ := haN.cells
  obtain ⟨g0, g1, g2⟩ := haN.froz
  obtain ⟨z0, z1, z2⟩ := hboxN.cells
  obtain ⟨f0, f1, f2⟩ := hboxN.froz
  obtain ⟨w3, hw3, ⟨v0, v1, v2⟩, hx3, hb3⟩ := rpost_end haN hboxN (by omega) hblN (Nat.le_refl _) (by omega) hbW K r
  have Hw3 := Lib.hid hw3
  clear hw3
  go_wp2_with fail
  rw [Hw3.out]
  exact bodyPost_ret (v := .agg #[.slice A K c, .int .i64 K, .int .i64 r]) (by simp [results, Try.results20, go_sem, v0, v1, v2]) rfl ⟨A, c, rfl, hx3, hb3⟩

set_option maxRecDepth 100000 in
set_option maxHeartbeats 1000000 in
theorem repair_r (A : Option Addr) (n c s : Nat) (r : Int) (bs : List UInt8) (w : World) (hb : BR w w.heap.size A n c bs) (hn : n ≤ 1000000) :
    Calls Try.prog 22 #[.agg #[.slice A n c, .int .i64 s, .int .i64 r]] w (DPost w (aN bs) (min s (aN bs) : Nat) r (bs.take (aN bs))) := by
  obtain ⟨W, hW, ha, hbox, hbl, hS⟩ := two_boxes w 24 24 A n c s r
  have hbW := hb.on hbl
  have hN := aN_le' bs hb.1
  go_enter Try.func22, Try.ntmps22
  go_wp2_with fail
  rw [← hW]
  clear hW
  refine (all_r A n c bs W hbW hn).mono ?_
  rintro e w1 ⟨A1, n1, c1, rfl, _, hb1⟩
  generalize aN bs = N at *
  have ha1 := ha.on hb1 ha.lt
  have hbox1 := hbox.on hb1 hbox.lt
  have hbl1 := hbl.trans (hb1.mono hbl.size)
  have hb1' := hb.on hbl1
  clear ha hbox hbl hb1 hbW
  obtain ⟨hcut, hbW⟩ := cut_upto hb1' N N rfl hN
  obtain ⟨d0, d1, d2⟩ := ha1.cells
  obtain ⟨g0, g1, g2⟩ := ha1.froz
  obtain ⟨z0, z1, z2⟩ := hbox1.cells
  obtain ⟨f0, f1, f2⟩ := hbox1.froz
  rcases Nat.lt_or_ge N s with hsN | hsN
  · obtain ⟨w3, hw3, ⟨v0, v1, v2⟩, hx3, hb3⟩ := rpost_end ha1 hbox1 (by omega) hbl1 (Nat.le_refl _) (by omega) hbW N r
    have Hw3 := Lib.hid hw3
    clear hw3
    go_wp2_with fail
    rw [Hw3.out]
    exact bodyPost_ret (v := .agg #[.slice A N c, .int .i64 N, .int .i64 r]) (by simp [results, Try.results22, go_sem, v0, v1, v2]) rfl ⟨A, c, by rw [Nat.min_eq_right (Nat.le_of_lt hsN)], hx3, hb3⟩
  · have hsn : ¬ N < s := by omega
    obtain ⟨w3, hw3, ⟨v0, v1, v2⟩, hx3, hb3⟩ := rpost_end ha1 hbox1 (by omega) hbl1 (Nat.le_refl _) (by omega) hbW s r
    have Hw3 := Lib.hid hw3
    clear hw3
    go_wp2_with fail
    rw [Hw3.out]
    exact bodyPost_ret (v := .agg #[.slice A N c, .int .i64 s, .int .i64 r]) (by simp [results, Try.results22, go_sem, v0, v1, v2]) rfl ⟨A, c, by rw [Nat.min_eq_left hsN], hx3, hb3⟩
end Go.Proofs.Ytdelllkgllfcdaa
