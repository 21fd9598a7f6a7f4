/-
  Deltas in memory, for any program that has api.Delta: what they are written as, one delta just built. No condition.
-/
import Derived.Test.YtealcccjnmfkcaaRows
import Derived.Test.YtealcccjnmfkcaaLgM
import Derived.Test.YtealcccjnmfkcaaYRow
set_option linter.unusedVariables false
set_option linter.unusedSimpArgs false
namespace Go.Proofs.Ytealcccjnmfkcaa
open Go.RowKit

/-- A delta's cells. -/
def dc (x : Dl) : List Value := [.int .u8 x.k, .int .i64 x.b]
instance : Nonempty (EncOk dc 2) := ⟨⟨fun _ => rfl, fun x u hu => by
  simp [dc] at hu
  rcases hu with rfl | rfl <;> rfl, by omega⟩⟩
abbrev DR (w : World) (A : Option Addr) (n c : Nat) (L : List Dl) : Prop := RR w dc 2 A n c L
abbrev DS (w : World) (A : Option Addr) (n c : Nat) (L : List Dl) : Prop := RS w 102 dc 2 A n c L
abbrev LPost (w : World) (L : List Dl) (e : Ending) (w' : World) : Prop := RPost w 102 dc 2 L e w'
theorem dc_one (x : Dl) : ∀ u ∈ dc x, u.oneCell' = true := encOne (c := dc) 2 x
theorem RR.at2 {w : World} {A : Option Addr} {n c : Nat} {L : List Dl} (h : DR w A n c L) {k : Nat} (hk : k < n) : ∃ g off, A = some ⟨g, off, none⟩ ∧ w.cell? ⟨g, off + k * 2, none⟩ = some (.int .u8 (tk L k).k) ∧ w.cell? ⟨g, off + k * 2 + 1, none⟩ = some (.int .i64 (tk L k).b) := by
  obtain ⟨g, off, x, h1, h2, h3⟩ := h.at_ hk
  rw [tk_some h1]
  exact ⟨g, off, h2, h3 0 _ rfl, h3 1 _ rfl⟩
theorem Try.infoD : (Try.prog.info? 102).map (fun i => (i.zero, i.size, i.bytes)) = some (some (.agg #[.int .u8 0, .int .i64 0]), 2, 16) := by kernel_rfl
/-- A delta as a value. -/
abbrev dv (x : Dl) : Value := .agg #[.int .u8 x.k, .int .i64 x.b]
theorem app2 {n : Nat} (h : n ≤ 300000) : n + 1 ≤ maxLen ∧ (n + 1) * 16 ≤ 140737488355328 := by simp only [maxLen]; omega
theorem lit1 (w : World) (k b : Int) (T : TypeId) (hT : typF T := by first | assumption | decide) : DR (w.alloc (.cells #[.int .u8 k, .int .i64 b] T)) (some ⟨w.heap.size, 0, none⟩) 1 1 [⟨k, b⟩] := by
  refine RR.of_at rfl (Nat.le_refl _) (by simp only [maxLen]; omega) (fun i x hx m v hv => ?_) ⟨T, _, CB.new w T _, hT⟩
  match i with
  | 0 =>
    simp at hx
    subst hx
    rw [Nat.zero_mul, Nat.add_zero, Nat.zero_add, (CB.new w T _).cell]
    simpa [dc] using hv
  | i + 1 => simp at hx
end Go.Proofs.Ytealcccjnmfkcaa
/-
  The document's answer for layer 8, as far as later layers use it: sum, Of and Same. Condition: the deltas can be read, three hundred thousand at most.
-/
set_option linter.unusedVariables false
set_option linter.unusedSimpArgs false
namespace Go.Proofs.Ytealcccjnmfkcaa
open Go.RowKit

set_option maxRecDepth 100000 in
set_option maxHeartbeats 1000000 in
theorem sumK_c (A : Option Addr) (n c : Nat) (k : Int) (L : List Dl) (w : World) (h : DR w A n c L) (hn : n ≤ 300000) :
    Calls Try.prog 43 #[.slice A n c, .int .u8 k] w fun e w' => e = .returned (.int .i64 (num L k)) ∧ Below w.heap.size w w' := by
  have hlen := Lib.hid h.len
  go_enter Try.func43, Try.ntmps43
  go_wp2_with fail
  go_loopw [5, 6] (fun v i wr => ∃ j : Nat, j ≤ n ∧ i = .int .i64 j ∧ v = .int .i64 (num (L.take j) k) ∧ Below w.heap.size w wr) (fun _ i _ => n - (intOf i).toNat)
  case atStart => exact ⟨0, by omega, rfl, by rw [List.take_zero, num_nil], Below.refl _ _⟩
  case round =>
    obtain ⟨j, hj, rfl, rfl, hlow⟩ := hrel
    by_cases hlt : j < n
    · obtain ⟨g, off, rfl, d1, d2⟩ := (h.on hlow).at2 hlt
      have hjl : j < L.length := by rw [hlen.out]; exact hlt
      have htk := Lib.hid (tk_take (L := L) hjl)
      generalize tk L j = x at *
      by_cases hk : x.k = k
      · have hk1 : (x.k == k) = true := by simp [hk]
        have Hn := Lib.hid (show num (L.take (j + 1)) k = wrap64 (num (L.take j) k + x.b) by rw [htk.out, num_hit hk])
        generalize num (L.take j) k = q at *
        clear hk
        go_wp2_with fail
        go_roundw
        case rel => exact ⟨j + 1, by omega, by go_num, by rw [Hn.out], hlow⟩
        case measure => simp [intOf]; omega
      · have hk1 : (x.k == k) = false := by simp [hk]
        have Hn := Lib.hid (show num (L.take (j + 1)) k = num (L.take j) k by rw [htk.out, num_miss hk])
        generalize num (L.take j) k = q at *
        clear hk
        go_wp2_with fail
        go_roundw
        case rel => exact ⟨j + 1, by omega, by go_num, by rw [Hn.out], hlow⟩
        case measure => simp [intOf]; omega
    · obtain rfl : j = n := by omega
      have Hr := Lib.hid (show num (L.take j) k = num L k by rw [take_all hlen.out])
      generalize num (L.take j) k = q at *
      go_wp2_with fail
      go_ret
      exact ⟨by rw [← Hr.out]; rfl, hlow⟩

set_option maxRecDepth 100000 in
set_option maxHeartbeats 1000000 in
theorem of_c (A : Option Addr) (n c : Nat) (L : List Dl) (w : World) (h : DR w A n c L) (hn : n ≤ 300000) :
    Calls Try.prog 25 #[.slice A n c] w (LPost w (ofD L)) := by
  obtain ⟨i0, hi0, hz0, hz1, hz2⟩ := info_parts Try.infoD
  go_enter Try.func25, Try.ntmps25
  go_wp2_with fail
  go_loopw [3, 4] (fun v i wr => ∃ j : Nat, j ≤ 64 ∧ i = .int .i64 j ∧ OS w 102 2 (rc dc (ofN L j)) v wr) (fun _ i _ => 64 - (intOf i).toNat)
  case atStart => exact ⟨0, by omega, rfl, OS.start w _ _ (Below.refl _ _)⟩
  case round =>
    obtain ⟨j, hj, rfl, hos⟩ := hrel
    by_cases hlt : j < 64
    · have hw : IntKind.u8.wrap (j : Int) = j := by simp [IntKind.wrap, IntKind.bits, IntKind.signed]; omega
      have hsk := sumK_c A n c j L wr (h.on hos.low) hn
      have Hsn := Lib.hid (show ofN L (j + 1) = ofN L j ++ cellD L j from rfl)
      have hml := Lib.hid (len_ofN L j)
      have hcell := Lib.hid (show cellD L j = if num L j = 0 then [] else [⟨j, num L j⟩] from rfl)
      generalize num L j = q at *
      have HosW := Lib.hid hos
      obtain ⟨A0, m, c0, G, rfl, hsg0, hG⟩ := hos.out
      clear hos hsg0 hG
      go_wp2_with fail
      refine hsk.mono ?_
      rintro e w1 ⟨rfl, b1⟩
      have hos := HosW.out.on b1
      clear hsk b1 HosW
      by_cases hq : q = 0
      · have hq1 : (q != 0) = false := by simp [hq]
        have Hnx := Lib.hid (show ofN L (j + 1) = ofN L j by rw [Hsn.out, hcell.out, if_pos hq, List.append_nil])
        have Hos := Lib.hid hos
        clear hos hq
        go_wp2_with fail
        go_roundw
        case rel => exact ⟨j + 1, by omega, by go_num, by rw [Hnx.out]; exact Hos.out⟩
        case measure => simp [intOf]; omega
      · have hq1 : (q != 0) = true := by simp [hq]
        have Hnx := Lib.hid (show ofN L (j + 1) = ofN L j ++ [⟨j, q⟩] by rw [Hsn.out, hcell.out, if_neg hq])
        have hlow := hos.low
        obtain ⟨A1, m1, c1, G, hv1, hsg, hG⟩ := hos.out
        cases hv1
        have hm := hml.out
        rw [rc_len hsg] at hm
        have p0 : 0 < 1 := by omega
        have p03 : 0 < 2 := by omega
        obtain ⟨p3, p4⟩ := app2 (n := m) (by omega)
        have hlow2 := Lib.hid (hlow.alloc hlow.size (.cells #[.int .u8 (j : Int), .int .i64 q] 102))
        clear hq hlow hos hml
        generalize ofN L j = R at *
        go_wp2_with (at_builtin; refine wpList_append_seg _ rfl (.tmp 16) (.tmp 21) _ rfl 102 i0 _ 2 16 Try.underlying26 hi0 hz0 hz1 hz2 rfl p03 rfl (hsg.alloc _) ⟨w1.heap.size, 0, none⟩ 1 1 (dc ⟨j, q⟩) rfl rfl (cells_at _ _ (dc ⟨j, q⟩) _ rfl) (dc_one ⟨j, q⟩) p0 p3 p4 ?_; intro A2 c2 G1 w2 n1 m1 r1)
        rw [rc_snoc] at n1
        have hnext := Lib.hid (OS.app hlow2.out hG n1 m1 r1)
        clear hsg n1 m1 r1 hlow2
        go_wp2_with fail
        go_roundw
        case rel => exact ⟨j + 1, by omega, by go_num, by rw [Hnx.out]; exact hnext.out⟩
        case measure => simp [intOf]; omega
    · obtain rfl : j = 64 := by omega
      have Hos := Lib.hid hos
      obtain ⟨A0, m, c0, G, rfl, hsg, hG⟩ := hos.out
      clear hos hsg
      go_wp2_with fail
      go_ret
      exact RPost.of_os Hos.out

end Go.Proofs.Ytealcccjnmfkcaa
