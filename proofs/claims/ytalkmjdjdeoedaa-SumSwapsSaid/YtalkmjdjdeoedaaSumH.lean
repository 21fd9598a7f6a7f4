/-
  The walk of the law SumTurned: it returns true and leaves all memory that was there. Conditions: the bytes can be read, the numbers are of 16 and of 8 bits.
-/
import Derived.Test.YtalkmjdjdeoedaaSumG
namespace Go.Proofs.Ytalkmjdjdeoedaa
open Go.RowKit

theorem Seg.slot {w : World} {e : TypeId} {A : Option Addr} {n c : Nat} {xs : List Value} {G : Option Nat} (h : Seg w e 1 A n c xs G) (k : Nat) (hk : k < n) :
    ∃ g off, A = some ⟨g, off, none⟩ ∧ G = some g ∧ w.frozen? ⟨g, off + k, none⟩ = false ∧ (∀ u, xs[k]? = some u → w.cell? ⟨g, off + k, none⟩ = some u) ∧ ∀ v, Seg (w.setCell ⟨g, off + k, none⟩ v) e 1 A n c (xs.set k v) G := by
  have hl := h.1
  have hnc := h.2.1
  rcases h.2.2.2 with ⟨_, h0, _⟩ | ⟨g, off, cur, rfl, rfl, h3, h4, h5⟩
  · omega
  · refine ⟨g, off, rfl, rfl, h3.frozen _, fun u hu => by rw [h3.cell]; exact h5 k u hu, fun v => ⟨by rw [List.length_set]; exact hl, hnc, h.2.2.1, .inr ⟨g, off, _, rfl, rfl, h3.put (off + k) v, by rw [Array.size_setIfInBounds]; exact h4, fun j u hu => ?_⟩⟩⟩
    rw [Array.getElem?_setIfInBounds]
    by_cases hj : k = j
    · subst hj
      rw [List.getElem?_set_self (by omega)] at hu
      rw [if_pos rfl, if_pos (by omega)]
      exact hu
    · rw [List.getElem?_set_ne hj] at hu
      rw [if_neg (by omega)]
      exact h5 j u hu
theorem bc_set (l : List UInt8) (k : Nat) (b : UInt8) : (bc l).set k (.int .u8 (b.toNat : Int)) = bc (l.set k b) := by unfold bc; rw [List.map_set]
theorem bc_get {l : List UInt8} {k : Nat} {b : UInt8} (h : l[k]? = some b) : (bc l)[k]? = some (.int .u8 (b.toNat : Int)) := by unfold bc; rw [List.getElem?_map, h]; rfl
theorem xor_u8 (a b : UInt8) : bits .xor .u8 (a.toNat : Int) (b.toNat : Int) = ((a ^^^ b).toNat : Int) := by
  rw [u8_xor_nat _ _ a.toNat_lt b.toNat_lt, UInt8.toNat_xor]
theorem xor_ne {a b : UInt8} (h : ¬ b = 0) : ¬ a = a ^^^ b := by
  intro e
  apply h
  have := congrArg (fun x => a ^^^ x) e
  simpa [← UInt8.xor_assoc] using this.symm

set_option maxRecDepth 100000 in
set_option maxHeartbeats 1000000 in
theorem turned_walk (A : Option Addr) (n c : Nat) (bs : List UInt8) (at_ : Nat) (by_ : UInt8) (w : World) (hb : BR w w.heap.size A n c bs) (hat : at_ < 65536) :
    Calls Try.prog 6 #[.slice A n c, .int .u16 at_, .int .u8 by_.toNat] w fun e w' => e = .returned (.bool true) ∧ Below w.heap.size w w' := by
  have hnm := hb.max
  have hn := hb.1
  go_enter Try.func6, Try.ntmps6
  go_wp2_with fail
  refine (alive_c _).mono ?_
  rintro e w1 ⟨rfl, hb1⟩
  by_cases hbig : (300 : Int) < (n : Int)
  · go_wp2_with fail
    go_ret
    exact ⟨rfl, hb1⟩
  by_cases hby : by_ = 0
  · subst hby
    go_wp2_with fail
    go_ret
    exact ⟨rfl, hb1⟩
  have hby' := u8ne 0 0 rfl hby
  have Hby := Lib.hid hby
  have hbr1 := hb.on hb1
  clear hby
  go_wp2_with fail
  refine (frame_c A n c bs w1 hbr1).mono ?_
  rintro e w2 ⟨A2, n2, c2, G2, rfl, hs2, hb2, hG2⟩
  obtain ⟨hE, hF⟩ := eF_ok (l := bs) (by omega)
  rw [hF] at hs2
  rw [hE]
  obtain rfl : n2 = n + 7 := by have := hs2.1; rw [bc_length, frameB_length] at this; omega
  have hj : at_ % (n + 4) < n + 4 := Nat.mod_lt _ (by omega)
  generalize hJ : at_ % (n + 4) = j at hj
  have hJi : (at_ : Int) % ((n : Int) + 7 - 3) = (j : Int) := by rw [show (n : Int) + 7 - 3 = ((n + 4 : Nat) : Int) by omega, ← Int.natCast_emod, hJ]
  obtain ⟨g, off, rfl, rfl, fz, hcell, hset⟩ := hs2.slot (3 + j) (by omega)
  have hjl : j + 3 < (frameB bs).length := by rw [frameB_length]; omega
  have HX := Lib.hid (List.getElem?_eq_getElem hjl)
  generalize (frameB bs)[j + 3] = x at HX
  have cx := hcell _ (bc_get (by rw [Nat.add_comm]; exact HX.out))
  have hw01 := hb1.size
  have hb02 := hb1.trans (hb2.mono hb1.size)
  have HXO := Lib.hid (xor_u8 x by_)
  clear hcell hE hF hs2 hb1 hbr1 hJ
  go_wp2_with fail
  have hs3 := hset (.int .u8 (bits .xor .u8 (x.toNat : Int) (by_.toNat : Int)))
  rw [HXO.out, bc_set, Nat.add_comm 3 j] at hs3
  have hb03 : Below w.heap.size w (w2.setCell ⟨g, off + (3 + j), none⟩ (.int .u8 (bits .xor .u8 (x.toNat : Int) (by_.toNat : Int)))) := hb02.setCell (by have := hG2 g rfl; have := hw01; simp only; omega) _
  rw [HXO.out, Nat.add_comm 3 j] at hb03
  rw [HXO.out, Nat.add_comm 3 j]
  have HT := Lib.hid (frame_turned bs (by omega) j x (x ^^^ by_) HX.out (xor_ne Hby.out))
  clear hset cx fz
  generalize w2.setCell ⟨g, off + (j + 3), none⟩ (.int .u8 ((x ^^^ by_).toNat : Int)) = w3 at *
  generalize (frameB bs).set (j + 3) (x ^^^ by_) = f3 at *
  refine (first_c _ (n + 7) c2 f3 w3 (BR.of_seg hs3)).mono ?_
  rintro e w4 ⟨A4, n4, c4, rfl, hx4, hb4⟩
  rw [fK_bad HT.out]
  rw [fC_bad HT.out] at hx4
  obtain rfl : n4 = 0 := hx4.1.symm
  have hE : ((fE f3 : Int) != 0) = true := by have := HT.out; rw [bne_iff_ne]; omega
  generalize fE f3 = E at *
  go_wp2_with fail
  go_ret
  exact ⟨rfl, hb03.trans (hb4.mono hb03.size)⟩
end Go.Proofs.Ytalkmjdjdeoedaa
