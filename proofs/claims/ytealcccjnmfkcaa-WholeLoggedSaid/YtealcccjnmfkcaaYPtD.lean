/-
  compensation of package part, opposites of the document. Condition: the deltas can be read, a thousand at most.
-/
import Derived.Test.YtealcccjnmfkcaaYPtA
import Derived.Deep.RegionHeld3
set_option linter.unusedVariables false
set_option linter.unusedSimpArgs false
namespace Go.Proofs.Ytealcccjnmfkcaa
open Go.RowKit

theorem opp_nil : opp [] = [] := rfl
theorem opp_snoc (L : List Dl) {k : Nat} (h : k < L.length) : opp (L.drop k) = opp (L.drop (k + 1)) ++ [negD (tk L k)] := by
  have e : L.drop k = tk L k :: L.drop (k + 1) := by
    rw [List.drop_eq_getElem_cons h]
    congr 1
    exact (tk_some (List.getElem?_eq_getElem h)).symm
  rw [e]
  simp [opp]
theorem opp_length (L : List Dl) : (opp L).length = L.length := by simp [opp]
theorem opp_keys {L : List Dl} (h : KeysP L) : KeysP (opp L) := fun x hx => by
  unfold opp at hx
  rw [List.mem_reverse] at hx
  exact keys_neg h x hx
theorem size_D : ∀ w, (sizeOf 102).run Try.prog w = .ok 2 w := fun w => by kernel_rfl

set_option maxRecDepth 100000 in
set_option maxHeartbeats 1000000 in
theorem compens_c (A : Option Addr) (n c : Nat) (L : List Dl) (w : World) (h : DR w A n c L) (hn : n ≤ 1000) :
    Calls Try.prog 42 #[.slice A n c] w fun e w' => ∃ A' c', e = .returned (.slice A' n c') ∧ OS w 102 2 (rc dc (opp L)) (.slice A' n c') w' := by
  have hlen := Lib.hid h.len
  obtain ⟨i0, hi0, hz0, hz1, hz2⟩ := info_parts Try.infoD
  have Hi := Lib.hid hi0
  have Hz := Lib.hid hz0
  have Hz1 := Lib.hid hz1
  have Hz2 := Lib.hid hz2
  have hmk : ∃ A1 w1 G1, (Instr.makeSlice 26 (.int .i64 0) (.int .i64 (n : Int))).run Try.prog w = .ok (.slice A1 0 n) w1 ∧ Seg w1 102 2 A1 0 n (rc dc []) G1 ∧ (∀ g, G1 = some g → w.heap.size ≤ g) ∧ Below w.heap.size w w1 := by
    obtain ⟨w1, hrun, hs, hg⟩ := run_make_seg (P := Try.prog) w 26 102 i0 _ 2 Try.underlying26 hi0 hz0 hz1 n (by rw [hz2]; omega) (by simp only [maxLen]; omega)
    exact ⟨_, w1, _, hrun, hs, fun g e => by cases e; exact Nat.le_refl _, grown_below hg (Nat.le_refl _) (fun g e => by cases e)⟩
  obtain ⟨A1, w1, G1, hrun, hs1, hG1, hb1⟩ := hmk
  have Hstart := Lib.hid (show OS w 102 2 (rc dc (opp (L.drop n))) (.slice A1 0 n) w1 by
    rw [List.drop_eq_nil_of_le (by rw [hlen.out]; exact Nat.le_refl _)]
    exact ⟨⟨A1, 0, n, G1, rfl, hs1, hG1⟩, hb1⟩)
  clear hs1 hG1 hb1
  have p1 : IntKind.i64.wrap ((n : Int) - 1) = (n : Int) - 1 := IntWalk.i64_in _ (by omega)
  clear hi0 hz0 hz1 hz2
  go_enter Try.func42, Try.ntmps42
  go_wp2_with fail
  go_loopw [3, 4] (fun v i wr => ∃ j : Nat, j ≤ n ∧ i = .int .i64 ((j : Int) - 1) ∧ OS w 102 2 (rc dc (opp (L.drop j))) v wr) (fun _ i _ => (intOf i + 1).toNat)
  case atStart => exact ⟨n, by omega, rfl, Hstart.out⟩
  case round =>
    clear Hstart p1 hrun
    obtain ⟨j, hj, rfl, hos⟩ := hrel
    by_cases hlt : 0 < j
    · obtain ⟨k, rfl⟩ : ∃ k, j = k + 1 := ⟨j - 1, by omega⟩
      rw [show (((k + 1 : Nat) : Int) - 1) = (k : Int) by omega]
      have hkn : k < n := by omega
      obtain ⟨g, off, rfl, d1, d2⟩ := (h.on hos.low).at2 hkn
      have htk := Lib.hid (opp_snoc L (k := k) (by rw [hlen.out]; exact hkn))
      have Hd := Lib.hid (fun W (hb : Below w.heap.size w W) => (show W.cell? ⟨g, off + k * 2, none⟩ = some (.int .u8 (tk L k).k) ∧ W.cell? ⟨g, off + k * 2 + 1, none⟩ = some (.int .i64 (tk L k).b) by
        obtain ⟨g', off', e, f1, f2⟩ := (h.on hb).at2 hkn
        cases e
        exact ⟨f1, f2⟩))
      generalize tk L k = x at *
      have hlow := hos.low
      obtain ⟨A0, m, c0, G, rfl, hsg, hG⟩ := hos.out
      have hm : m ≤ n := by have := rc_len hsg; rw [opp_length, List.length_drop, hlen.out] at this; omega
      have p03 : 0 < 2 := by omega
      obtain ⟨p3, p4⟩ := app2 (n := m) (by omega)
      obtain ⟨N, hN⟩ : ∃ N, m + 1 = N := ⟨_, rfl⟩
      have HN := Lib.hid hN
      have hlow2 := Lib.hid (belowD (hlow.alloc hlow.size (.cells #[.int .u8 x.k, .int .i64 (IntKind.i64.wrap (-x.b))] 102)))
      have hsr := Src.lit wr 102 [.int .u8 x.k, .int .i64 (IntKind.i64.wrap (-x.b))] 2 1 wr.heap.size rfl rfl
      have hsg2 := hsg.alloc (.cells #[.int .u8 x.k, .int .i64 (IntKind.i64.wrap (-x.b))] 102)
      have ho : ∀ u ∈ [Value.int .u8 x.k, .int .i64 (IntKind.i64.wrap (-x.b))], u.oneCell' = true := by intro u hu; simp at hu; rcases hu with rfl | rfl <;> rfl
      have q1 : (0 : Int) ≤ (k : Int) := by omega
      have q2 : (k : Int) < (n : Int) := by omega
      have q3 : IntKind.i64.wrap ((k : Int) - 1) = (k : Int) - 1 := IntWalk.i64_in _ (by omega)
      have Hhm := Lib.hid hm
      clear hN hlow hos hlt hj hm
      go_wp2_with fail
      go_region_held3 (fun W' => W'.cell? ⟨g, off + k * 2, none⟩ = some (.int .u8 x.k) ∧ W'.cell? ⟨g, off + k * 2 + 1, none⟩ = some (.int .i64 x.b)) (first | exact ⟨d1, d2⟩ | exact Hd.out _ hlow2.out | exact Hd.out _ Hnx.out.low) (first
        | (refine step_append_src _ (.tmp 15) (.tmp 28) _ (by rfl) 102 i0 _ 2 16 Try.underlying26 Hi.out Hz.out Hz1.out Hz2.out rfl p03 (by rfl) hsg2 (by rfl) hsr ho p3 p4 (by rfl) N HN.out ?_; intro A5 c5 G5 w5 hs5 hg5 hm5; have Hnx := Lib.hid (OS.app (w := w) hlow2.out hG hs5 hg5 hm5)))
      have Hn := Lib.hid (show OS w 102 2 (rc dc (opp (L.drop k))) (.slice A5 N c5) w5 by
        have := Hnx.out
        rw [Go.IntWalk.i64_left, show [Value.int .u8 x.k, .int .i64 (wrap64 (-x.b))] = dc (negD x) from rfl, rc_snoc] at this
        rw [htk.out]
        exact this)
      clear hs5 hg5 hm5 Hnx hsg hsg2 hsr d1 d2 ho Hd hlow2
      go_wp2_with fail
      go_roundw
      case rel => exact ⟨k, by omega, by go_num, Hn.out⟩
      case measure => simp [intOf]
    · obtain rfl : j = 0 := by omega
      have Hos := Lib.hid hos
      obtain ⟨A0, m, c0, G, rfl, hsg, hG⟩ := hos.out
      obtain rfl : m = n := by have := rc_len hsg; rw [opp_length, List.drop_zero, hlen.out] at this; exact this.symm
      clear hos hsg
      have q1 : ¬ (0 : Int) ≤ ((0 : Nat) : Int) - 1 := by omega
      have q2 : ((0 : Nat) : Int) - 1 = -1 := by omega
      rw [q2]
      go_wp2_with fail
      go_ret
      exact ⟨A0, c0, rfl, Hos.out⟩

set_option maxRecDepth 100000 in
set_option maxHeartbeats 1000000 in
theorem opposites_c (A : Option Addr) (n c : Nat) (L : List Dl) (w : World) (h : DR w A n c L) (hn : n ≤ 1000) :
    Calls Try.prog 107 #[.slice A n c] w fun e w' => ∃ A' c', e = .returned (.slice A' n c') ∧ OS w 102 2 (rc dc (opp L)) (.slice A' n c') w' := by
  have hlen := Lib.hid h.len
  obtain ⟨i0, hi0, hz0, hz1, hz2⟩ := info_parts Try.infoD
  have Hi := Lib.hid hi0
  have Hz := Lib.hid hz0
  have Hz1 := Lib.hid hz1
  have Hz2 := Lib.hid hz2
  have Hstart := Lib.hid (show OS w 102 2 (rc dc (opp (L.drop n))) (.slice none 0 0) w by
    rw [List.drop_eq_nil_of_le (by rw [hlen.out]; exact Nat.le_refl _)]
    exact OS.start w _ _ (Below.refl _ _))
  have p1 : IntKind.i64.wrap ((n : Int) - 1) = (n : Int) - 1 := IntWalk.i64_in _ (by omega)
  clear hi0 hz0 hz1 hz2
  go_enter Try.func107, Try.ntmps107
  go_wp2_with fail
  go_loopw [3, 4] (fun v i wr => ∃ j : Nat, j ≤ n ∧ i = .int .i64 ((j : Int) - 1) ∧ OS w 102 2 (rc dc (opp (L.drop j))) v wr) (fun _ i _ => (intOf i + 1).toNat)
  case atStart => exact ⟨n, by omega, rfl, Hstart.out⟩
  case round =>
    clear Hstart p1
    obtain ⟨j, hj, rfl, hos⟩ := hrel
    by_cases hlt : 0 < j
    · obtain ⟨k, rfl⟩ : ∃ k, j = k + 1 := ⟨j - 1, by omega⟩
      rw [show (((k + 1 : Nat) : Int) - 1) = (k : Int) by omega]
      have hkn : k < n := by omega
      obtain ⟨g, off, rfl, d1, d2⟩ := (h.on hos.low).at2 hkn
      have htk := Lib.hid (opp_snoc L (k := k) (by rw [hlen.out]; exact hkn))
      have Hd := Lib.hid (fun W (hb : Below w.heap.size w W) => (show W.cell? ⟨g, off + k * 2, none⟩ = some (.int .u8 (tk L k).k) ∧ W.cell? ⟨g, off + k * 2 + 1, none⟩ = some (.int .i64 (tk L k).b) by
        obtain ⟨g', off', e, f1, f2⟩ := (h.on hb).at2 hkn
        cases e
        exact ⟨f1, f2⟩))
      generalize tk L k = x at *
      have hlow := hos.low
      obtain ⟨A0, m, c0, G, rfl, hsg, hG⟩ := hos.out
      have hm : m ≤ n := by have := rc_len hsg; rw [opp_length, List.length_drop, hlen.out] at this; omega
      have p03 : 0 < 2 := by omega
      obtain ⟨p3, p4⟩ := app2 (n := m) (by omega)
      obtain ⟨N, hN⟩ : ∃ N, m + 1 = N := ⟨_, rfl⟩
      have HN := Lib.hid hN
      have hlow2 := Lib.hid (belowD (hlow.alloc hlow.size (.cells #[.int .u8 x.k, .int .i64 (IntKind.i64.wrap (-x.b))] 102)))
      have hsr := Src.lit wr 102 [.int .u8 x.k, .int .i64 (IntKind.i64.wrap (-x.b))] 2 1 wr.heap.size rfl rfl
      have hsg2 := hsg.alloc (.cells #[.int .u8 x.k, .int .i64 (IntKind.i64.wrap (-x.b))] 102)
      have ho : ∀ u ∈ [Value.int .u8 x.k, .int .i64 (IntKind.i64.wrap (-x.b))], u.oneCell' = true := by intro u hu; simp at hu; rcases hu with rfl | rfl <;> rfl
      have q1 : (0 : Int) ≤ (k : Int) := by omega
      have q2 : (k : Int) < (n : Int) := by omega
      have q3 : IntKind.i64.wrap ((k : Int) - 1) = (k : Int) - 1 := IntWalk.i64_in _ (by omega)
      have Hhm := Lib.hid hm
      clear hN hlow hos hlt hj hm
      go_wp2_with fail
      go_region_held3 (fun W' => W'.cell? ⟨g, off + k * 2, none⟩ = some (.int .u8 x.k) ∧ W'.cell? ⟨g, off + k * 2 + 1, none⟩ = some (.int .i64 x.b)) (first | exact ⟨d1, d2⟩ | exact Hd.out _ hlow2.out | exact Hd.out _ Hnx.out.low) (first
        | (refine step_append_src _ (.tmp 12) (.tmp 25) _ (by rfl) 102 i0 _ 2 16 Try.underlying26 Hi.out Hz.out Hz1.out Hz2.out rfl p03 (by rfl) hsg2 (by rfl) hsr ho p3 p4 (by rfl) N HN.out ?_; intro A5 c5 G5 w5 hs5 hg5 hm5; have Hnx := Lib.hid (OS.app (w := w) hlow2.out hG hs5 hg5 hm5)))
      have Hn := Lib.hid (show OS w 102 2 (rc dc (opp (L.drop k))) (.slice A5 N c5) w5 by
        have := Hnx.out
        rw [Go.IntWalk.i64_left, show [Value.int .u8 x.k, .int .i64 (wrap64 (-x.b))] = dc (negD x) from rfl, rc_snoc] at this
        rw [htk.out]
        exact this)
      clear hs5 hg5 hm5 Hnx hsg hsg2 hsr d1 d2 ho Hd hlow2
      go_wp2_with fail
      go_roundw
      case rel => exact ⟨k, by omega, by go_num, Hn.out⟩
      case measure => simp [intOf]
    · obtain rfl : j = 0 := by omega
      have Hos := Lib.hid hos
      obtain ⟨A0, m, c0, G, rfl, hsg, hG⟩ := hos.out
      obtain rfl : m = n := by have := rc_len hsg; rw [opp_length, List.drop_zero, hlen.out] at this; exact this.symm
      clear hos hsg
      have q1 : ¬ (0 : Int) ≤ ((0 : Nat) : Int) - 1 := by omega
      have q2 : ((0 : Nat) : Int) - 1 = -1 := by omega
      rw [q2]
      go_wp2_with fail
      go_ret
      exact ⟨A0, c0, rfl, Hos.out⟩
end Go.Proofs.Ytealcccjnmfkcaa
