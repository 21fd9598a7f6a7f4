/-
  Records and Repair of package disk. Conditions: the disk's bytes can be read, there are a million of them at most.
-/
import Derived.Test.YtdelllkgllfcdaaDiskA
namespace Go.Proofs.Ytdelllkgllfcdaa
open Go.RowKit

set_option maxRecDepth 100000 in
set_option maxHeartbeats 1000000 in
theorem records_d (A : Option Addr) (n c : Nat) (s r : Int) (bs : List UInt8) (w : World) (hb : BR w w.heap.size A n c bs) (hn : n ≤ 1000000) :
    Calls Try.prog 13 #[.agg #[.slice A n c, .int .i64 s, .int .i64 r]] w (APostO w bs) := by
  have hbl : Below w.heap.size w (w.alloc (.cells #[.slice A n c, .int .i64 s, .int .i64 r] 28)) := (Below.refl _ _).alloc (Nat.le_refl _) _
  have hbW := hb.on hbl
  go_enter Try.func13, Try.ntmps13
  go_wp2_with fail
  refine (all_o A n c bs _ hbW hn).mono ?_
  rintro e w1 ⟨A1, n1, c1, cells, G, B, rfl, h2, h3, h4, h5, h6, h7⟩
  have H := Lib.hid (show APostO w bs (.returned (.tuple #[.slice A1 n1 c1, .int .i64 (aN bs : Int)])) w1 from ⟨A1, n1, c1, cells, G, B, rfl, h2, h3, h4, Nat.le_trans hbl.size h5, h6, hbl.trans (h7.mono hbl.size)⟩)
  clear h2 h3 h4 h5 h6 h7
  generalize aN bs = N at *
  go_wp2_with fail
  go_ret2
  exact H.out

theorem aN_le' (bs : List UInt8) {n : Nat} (h : bs.length = n) : aN bs ≤ n := by have := (aN_le bs.length bs (Nat.le_refl _)).1; omega

set_option maxRecDepth 100000 in
set_option maxHeartbeats 1000000 in
theorem repair_d (A : Option Addr) (n c s : Nat) (r : Int) (bs : List UInt8) (w : World) (hb : BR w w.heap.size A n c bs) (hn : n ≤ 1000000) :
    Calls Try.prog 21 #[.agg #[.slice A n c, .int .i64 s, .int .i64 r]] w (DPost w (aN bs) (min s (aN bs) : Nat) r (bs.take (aN bs))) := by
  obtain ⟨W, hW, ha, hbox, hbl, hS⟩ := two_boxes w 28 28 A n c s r
  have hbW := hb.on hbl
  have hN := aN_le' bs hb.1
  obtain ⟨d0, d1, d2⟩ := ha.cells
  go_enter Try.func21, Try.ntmps21
  go_wp2_with fail
  rw [← hW]
  clear hW
  refine (records_d A n c s r bs W hbW hn).mono ?_
  rintro e w1 ⟨A1, n1, c1, cells, G, B, rfl, h2, h3, h4, h5, h6, hb1⟩
  clear h2 h3 h4 h5 h6
  generalize aN bs = N at *
  have ha1 := ha.on hb1 ha.lt
  have hbox1 := hbox.on hb1 hbox.lt
  have hbl1 := hbl.trans (hb1.mono hbl.size)
  have hb1' := hb.on hbl1
  clear ha hbox hbl hb1 hbW d0 d1 d2
  obtain ⟨hcut, hbW⟩ := cut_upto hb1' N N rfl hN
  rcases Nat.lt_or_ge N s with hsN | hsN
  · go_wp2_with fail
    go_region_held3 (fun W' => W'.cell? ⟨w.heap.size, 0, none⟩ = some (.slice A n c) ∧ W'.cell? ⟨w.heap.size, 1, none⟩ = some (.int .i64 s) ∧ W'.cell? ⟨w.heap.size, 2, none⟩ = some (.int .i64 r)) (first | exact ha1.cells | exact y1.cells | exact (y1.far3 (by omega) _ _ _).cells) (first
      | (go_at_call 33; (with_reducible refine (copy_c A N c (bs.take N) w1.drew hbW.drewS (by omega)).mono ?_); rintro e w2 ⟨A2, c2, rfl, hx2, hb2⟩; have y1 := ha1.drew.on hb2 ha1.lt; have y2 := hbox1.drew.on hb2 hbox1.lt; obtain ⟨z0, z1, z2⟩ := y2.cells; obtain ⟨f0, f1, f2⟩ := y2.froz))
    all_goals
      obtain ⟨w3, hw3, ⟨v0, v1, v2⟩, hx3, hb3⟩ := dpost_end y2 (hbl1.trans ((below_drew hb2).mono hbl1.size)) (by omega) hx2 N r
      rw [hw3]
      clear hw3
      go_wp2_with fail
      exact bodyPost_ret (v := .agg #[.slice A2 N c2, .int .i64 N, .int .i64 r]) (by simp [results, Try.results21, go_sem, v0, v1, v2]) rfl ⟨A2, c2, by rw [Nat.min_eq_right (Nat.le_of_lt hsN)], hx3, hb3⟩
  · have hsn : ¬ N < s := by omega
    go_wp2_with fail
    go_region_held3 (fun W' => W'.cell? ⟨w.heap.size, 0, none⟩ = some (.slice A n c) ∧ W'.cell? ⟨w.heap.size, 1, none⟩ = some (.int .i64 s) ∧ W'.cell? ⟨w.heap.size, 2, none⟩ = some (.int .i64 r)) (first | exact ha1.cells | exact y1.cells | exact (y1.far3 (by omega) _ _ _).cells) (first
      | (go_at_call 33; (with_reducible refine (copy_c A N c (bs.take N) w1.drew hbW.drewS (by omega)).mono ?_); rintro e w2 ⟨A2, c2, rfl, hx2, hb2⟩; have y1 := ha1.drew.on hb2 ha1.lt; have y2 := hbox1.drew.on hb2 hbox1.lt; obtain ⟨z0, z1, z2⟩ := y2.cells; obtain ⟨f0, f1, f2⟩ := y2.froz))
    all_goals
      obtain ⟨w3, hw3, ⟨v0, v1, v2⟩, hx3, hb3⟩ := dpost_end y2 (hbl1.trans ((below_drew hb2).mono hbl1.size)) (by omega) hx2 s r
      rw [hw3]
      clear hw3
      go_wp2_with fail
      exact bodyPost_ret (v := .agg #[.slice A2 N c2, .int .i64 s, .int .i64 r]) (by simp [results, Try.results21, go_sem, v0, v1, v2]) rfl ⟨A2, c2, by rw [Nat.min_eq_left hsN], hx3, hb3⟩
end Go.Proofs.Ytdelllkgllfcdaa
