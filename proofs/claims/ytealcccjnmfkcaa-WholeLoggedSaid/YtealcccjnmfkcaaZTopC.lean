/-
  durable and Sync of a disk: the bytes lie in a new block. Condition: the bytes can be read, they are not very many.
-/
import Derived.Test.YtealcccjnmfkcaaZDisk
namespace Go.Proofs.Ytealcccjnmfkcaa.Dk
set_option maxRecDepth 100000
open Go.RowKit

set_option maxRecDepth 100000 in
set_option maxHeartbeats 1000000 in
theorem durable_f (A : Option Addr) (n c k : Nat) (s r : Int) (bs : List UInt8) (w : World) (hb : BR w w.heap.size A n c bs) (hn : n ≤ 1000000) (hk : k ≤ n) :
    Calls Try.prog 49 #[.agg #[.slice A n c, .int .i64 s, .int .i64 r], .int .i64 k] w (DPostF w k k r (bs.take k)) := by
  obtain ⟨W, hW, ha, hbox, hbl, hS⟩ := two_boxes w 73 73 A n c s r
  obtain ⟨hcut, hbW⟩ := cut_upto (hb.on hbl) k k rfl hk
  go_enter Try.func49, Try.ntmps49
  go_wp2_with fail
  rw [← hW]
  clear hW
  go_region_held3 (fun W' => W'.cell? ⟨w.heap.size, 0, none⟩ = some (.slice A n c) ∧ W'.cell? ⟨w.heap.size, 1, none⟩ = some (.int .i64 s) ∧ W'.cell? ⟨w.heap.size, 2, none⟩ = some (.int .i64 r)) (first | exact ha.cells | exact y1.cells | exact (y1.far3 (by omega) _ _ _).cells) (first
    | (go_at_call 71; refine (copy_f A k c (bs.take k) W.drew hbW.drew (by omega)).mono ?_; rintro e w1 ⟨A1, c1, rfl, hx1, hb1, hf1⟩; have y1 := ha.drew.on hb1 ha.lt; have y2 := hbox.drew.on hb1 hbox.lt; obtain ⟨z0, z1, z2⟩ := y2.cells; obtain ⟨f0, f1, f2⟩ := y2.froz))
  obtain ⟨w2, hw2, ⟨v0, v1, v2⟩, hx2, hb2⟩ := dpost_end y2 (hbl.trans ((below_drew hb1).mono hbl.size)) (by omega) hx1 k r
  rw [hw2]
  clear hw2
  go_wp2_with fail
  exact bodyPost_ret (v := .agg #[.slice A1 k c1, .int .i64 k, .int .i64 r]) (by simp [results, Try.results49, go_sem, v0, v1, v2]) rfl ⟨A1, c1, rfl, hx2, hb2, hf1.mono hbl.size⟩

set_option maxRecDepth 100000 in
set_option maxHeartbeats 1000000 in
theorem sync_f (A : Option Addr) (n c : Nat) (s r : Int) (bs : List UInt8) (w : World) (hb : BR w w.heap.size A n c bs) (hn : n ≤ 1000000) :
    Calls Try.prog 30 #[.agg #[.slice A n c, .int .i64 s, .int .i64 r]] w (DPostF w n n r bs) := by
  obtain ⟨W, hW, ha, hbox, hbl, hS⟩ := two_boxes w 73 73 A n c s r
  have HT := Lib.hid (show bs.take n = bs from List.take_of_length_le (by rw [hb.1]; exact Nat.le_refl _))
  have hbW := hb.on hbl
  obtain ⟨d0, d1, d2⟩ := ha.cells
  go_enter Try.func30, Try.ntmps30
  go_wp2_with fail
  rw [← hW]
  clear hW
  refine (durable_f A n c n s r bs W hbW hn (Nat.le_refl _)).mono ?_
  rintro e w1 ⟨A1, c1, rfl, hx1, hb1, hf1⟩
  rw [HT.out] at hx1
  have y2 := hbox.on hb1 hbox.lt
  obtain ⟨z0, z1, z2⟩ := y2.cells
  obtain ⟨f0, f1, f2⟩ := y2.froz
  obtain ⟨w2, hw2, ⟨v0, v1, v2⟩, hx2, hb2⟩ := dpost_end y2 (hbl.trans (hb1.mono hbl.size)) (by omega) hx1 n r
  have Hw2 := Lib.hid hw2
  clear hw2 hb1 hx1 y2 hbW HT
  go_wp2_with fail
  rw [Hw2.out]
  exact bodyPost_ret (v := .agg #[.slice A1 n c1, .int .i64 n, .int .i64 r]) (by simp [results, Try.results30, go_sem, v0, v1, v2]) rfl ⟨A1, c1, rfl, hx2, hb2, hf1.mono hbl.size⟩
end Go.Proofs.Ytealcccjnmfkcaa.Dk
