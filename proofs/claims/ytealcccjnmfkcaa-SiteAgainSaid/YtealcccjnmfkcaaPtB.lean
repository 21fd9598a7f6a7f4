/-
  copyOf and Right of package part. Condition: the deltas can be read; a thousand at most where they are copied.
-/
import Derived.Test.YtealcccjnmfkcaaPtA
import Derived.Deep.CutRange
set_option linter.unusedVariables false
set_option linter.unusedSimpArgs false
namespace Go.Proofs.Ytealcccjnmfkcaa
open Go.RowKit

set_option maxRecDepth 100000 in
set_option maxHeartbeats 1000000 in
theorem copyP_o (s : Int) (A : Option Addr) (n c : Nat) (l : Bool) (o : Int) (L : List Dl) (w : World) (h : DR w A n c L) (hn : n ≤ 1000) :
    Calls Try.prog 98 #[.agg #[.int .i64 s, .slice A n c, .bool l, .int .i64 o]] w fun e w' => ∃ A' c', e = .returned (.agg #[.int .i64 s, .slice A' n c', .bool l, .int .i64 o]) ∧ OS w 102 2 (rc dc L) (.slice A' n c') w' := by
  obtain ⟨W, hW⟩ : ∃ W, (w.alloc (.cells #[.int .i64 s, .slice A n c, .bool l, .int .i64 o] 40)).alloc (.cells #[.int .i64 0, .slice none 0 0, .bool false, .int .i64 0] 40) = W := ⟨_, rfl⟩
  have hp : PB W w.heap.size 40 s A n c l o := by rw [← hW]; exact (PB.new _ _ _ _ _ _ _ _).alloc _
  have hq : PB W (w.heap.size + 1) 40 0 none 0 0 false 0 := by
    rw [← hW]
    have := PB.new (w.alloc (.cells #[.int .i64 s, .slice A n c, .bool l, .int .i64 o] 40)) 40 0 none 0 0 false 0
    simpa using this
  have hb : Below w.heap.size w W := by rw [← hW]; exact bel2 (belA _ _) (belA _ _)
  obtain ⟨c0, c1, c2, c3⟩ := hp.cells
  have hc := copyD_o A n c L W (h.on hb) hn
  have HW := Lib.hid hW
  clear hW
  go_enter Try.func98, Try.ntmps98
  go_wp2_with fail
  rw [HW.out]
  go_wp2_with fail
  refine hc.mono ?_
  rintro e w1 ⟨A1, c1', rfl, hos⟩
  have hp1 := hp.on hos.low
  have hq1 := hq.on hos.low
  clear hc hp hq c0 c1 c2 c3
  obtain ⟨c0, c1, c2, c3⟩ := hp1.cells
  obtain ⟨f0, f1, f2, f3⟩ := hp1.froz
  obtain ⟨V, hV⟩ : ∃ V, w1.setCell ⟨w.heap.size, 1, none⟩ (.slice A1 n c1') = V := ⟨_, rfl⟩
  have hpV : PB V w.heap.size 40 s A1 n c1' l o := by rw [← hV]; exact hp1.put1 _ _ _
  have hkV : Kept w.heap.size w1 V := by rw [← hV]; exact Kept.of hp1 Try.neP _ _
  have hqV : PB V (w.heap.size + 1) 40 0 none 0 0 false 0 := hkV.cb _ _ _ (by omega) hq1
  obtain ⟨d0, d1, d2, d3⟩ := hpV.cells
  obtain ⟨g0, g1, g2, g3⟩ := hqV.froz
  obtain ⟨e0, e1, e2, e3⟩ := hqV.cells
  have HV := Lib.hid hV
  clear hV
  obtain ⟨U, hU, hqU, hkU⟩ := store_end hqV Try.neP s A1 n c1' l o
  have HU := Lib.hid hU
  clear hU
  obtain ⟨v0, v1, v2, v3⟩ := hqU.cells
  have Hos := Lib.hid (show OS w 102 2 (rc dc L) (.slice A1 n c1') U by
    obtain ⟨⟨A9, m9, c9, G9, hv, hs, hG⟩, hl⟩ := hos
    refine ⟨⟨A9, m9, c9, G9, hv, hkU.sg _ _ _ _ _ (hkV.sg _ _ _ _ _ hs), fun g hg => Nat.le_trans hb.size (hG g hg)⟩, ?_⟩
    exact hkU.low _ _ (hkV.low _ _ (bel2 hb hl) (Nat.le_refl _)) (by omega))
  clear hos hkU hkV hqV hpV hp1 hq1
  go_upto_region 2 with fail
  rw [HV.out]
  go_wp2_with fail
  rw [HU.out]
  exact bodyPost_ret (v := .agg #[.int .i64 s, .slice A1 n c1', .bool l, .int .i64 o]) (by simp [results, Try.results98, go_sem, v0, v1, v2, v3]) rfl ⟨A1, c1', rfl, Hos.out⟩

set_option maxRecDepth 100000 in
set_option maxHeartbeats 2000000 in
theorem right_c (s : Int) (A : Option Addr) (n c : Nat) (l : Bool) (o : Int) (L : List Dl) (w : World) (h : DR w A n c L) :
    Calls Try.prog 40 #[.agg #[.int .i64 s, .slice A n c, .bool l, .int .i64 o]] w fun e w' => e = .returned (.bool (okP ⟨s, L, l, o⟩)) ∧ Below w.heap.size w w' := by
  obtain ⟨W, hW⟩ : ∃ W, w.alloc (.cells #[.int .i64 s, .slice A n c, .bool l, .int .i64 o] 40) = W := ⟨_, rfl⟩
  have hp : PB W w.heap.size 40 s A n c l o := by rw [← hW]; exact PB.new _ _ _ _ _ _ _ _
  have hb : Below w.heap.size w W := by rw [← hW]; exact belA _ _
  obtain ⟨c0, c1, c2, c3⟩ := hp.cells
  have hc := state_c s W
  have HW := Lib.hid hW
  have N1 := Lib.hid (fun k => ok_no1 (p := ⟨s, L, l, o⟩) k)
  have N2 := Lib.hid (fun k => ok_no2 (p := ⟨s, L, l, o⟩) k)
  have N3 := Lib.hid (fun k => ok_no3 (p := ⟨s, L, l, o⟩) k)
  have N4 := Lib.hid (fun k1 k2 k3 => show okP ⟨s, L, l, o⟩ = ouB s o by unfold okP; rw [show stB s = true from k1, show adB L = true from k2, show loB s l = true from k3]; rfl)
  generalize okP ⟨s, L, l, o⟩ = R at *
  clear hW
  go_enter Try.func40, Try.ntmps40
  go_wp2_with fail
  rw [HW.out]
  go_wp2_with fail
  refine hc.mono ?_
  rintro e w1 ⟨rfl, b1⟩
  have hp1 := hp.on b1
  have hb1 := bel2 hb b1
  clear hc b1 hb hp c0 c1 c2 c3
  obtain ⟨c0, c1, c2, c3⟩ := hp1.cells
  cases h1 : stB s with
  | false =>
    have H := Lib.hid (N1.out h1)
    clear h1
    go_wp2_with fail
    go_ret
    exact ⟨by rw [H.out]; rfl, hb1⟩
  | true =>
    have hc := addsIn_c A n c L w1 (h.on hb1)
    have H1 := Lib.hid h1
    clear h1
    go_wp2_with fail
    refine hc.mono ?_
    rintro e w2 ⟨rfl, b2⟩
    have hp2 := hp1.on b2
    have hb2 := bel2 hb1 b2
    clear hc b2 hb1 hp1 c0 c1 c2 c3
    obtain ⟨c0, c1, c2, c3⟩ := hp2.cells
    cases h2 : adB L with
    | false =>
      have H := Lib.hid (N2.out h2)
      clear h2
      go_wp2_with fail
      go_ret
      exact ⟨by rw [H.out]; rfl, hb2⟩
    | true =>
      have hc := loFits_c s A n c l o w2
      have H2 := Lib.hid h2
      clear h2
      go_wp2_with fail
      refine hc.mono ?_
      rintro e w3 ⟨rfl, b3⟩
      have hp3 := hp2.on b3
      have hb3 := bel2 hb2 b3
      clear hc b3 hb2 hp2 c0 c1 c2 c3
      obtain ⟨c0, c1, c2, c3⟩ := hp3.cells
      cases h3 : loB s l with
      | false =>
        have H := Lib.hid (N3.out h3)
        clear h3
        go_wp2_with fail
        go_ret
        exact ⟨by rw [H.out]; rfl, hb3⟩
      | true =>
        have hc := ouFits_c s A n c l o w3
        have H := Lib.hid (N4.out H1.out H2.out h3)
        clear h3
        generalize ouB s o = q at *
        go_wp2_with fail
        refine hc.mono ?_
        rintro e w4 ⟨rfl, b4⟩
        have hb4 := bel2 hb3 b4
        clear hc b4 hb3 hp3 c0 c1 c2 c3
        go_wp2_with fail
        go_ret
        exact ⟨by rw [H.out]; rfl, hb4⟩
end Go.Proofs.Ytealcccjnmfkcaa
