/-
  alive of stage 10: a site answers the document's example so. No condition.
-/
import Derived.Test.YtealcccjnmfkcaaYSiI
set_option linter.unusedVariables false
set_option linter.unusedSimpArgs false
namespace Go.Proofs.Ytealcccjnmfkcaa
open Go.RowKit

/-- A call, with what it answers. -/
structure Ex where
  r : Rc
  n : Int
  e : Int
def ec (x : Ex) : List Value := [.int .i64 x.r.kd, .int .i64 x.r.tx, .int .u8 x.r.ky, .int .i64 x.r.nn, .int .i64 x.n, .int .i64 x.e]
instance : Nonempty (EncOk ec 6) := ⟨⟨fun _ => rfl, fun x u hu => by
  simp [ec] at hu
  rcases hu with rfl | rfl | rfl | rfl | rfl | rfl <;> rfl, by omega⟩⟩
def tab : List Ex := [⟨⟨1, 1, 0, 0⟩, 0, 0⟩, ⟨⟨3, 1, 3, 5⟩, 0, 0⟩, ⟨⟨1, 2, 0, 0⟩, 0, 0⟩, ⟨⟨2, 2, 3, 0⟩, 0, 9⟩, ⟨⟨4, 1, 0, 1⟩, 0, 0⟩, ⟨⟨5, 1, 0, 0⟩, 0, 0⟩, ⟨⟨2, 2, 3, 0⟩, 5, 0⟩, ⟨⟨6, 1, 0, 2⟩, 0, 0⟩]
def rs : List Rc := tab.map (·.r)
def tkE (j : Nat) : Ex := (tab[j]?).getD ⟨⟨0, 0, 0, 0⟩, 0, 0⟩
theorem tab_rs : ∀ j, j < 8 → tkR rs j = (tkE j).r := fun j hj => by
  match j, hj with
  | 0, _ => rfl
  | 1, _ => rfl
  | 2, _ => rfl
  | 3, _ => rfl
  | 4, _ => rfl
  | 5, _ => rfl
  | 6, _ => rfl
  | 7, _ => rfl
theorem tab_ans : ∀ j, j < 8 → nDo (plays si0 (rs.take j)) (tkE j).r = (tkE j).n ∧ eDo (plays si0 (rs.take j)) (tkE j).r = (tkE j).e := of_decide_eq_true (by kernel_rfl)
theorem tab_ok : ∀ j, j < 8 → RcOk (tkE j).r := fun j hj => by
  match j, hj with
  | 0, _ => exact ⟨by decide, by decide, by decide, by decide⟩
  | 1, _ => exact ⟨by decide, by decide, by decide, by decide⟩
  | 2, _ => exact ⟨by decide, by decide, by decide, by decide⟩
  | 3, _ => exact ⟨by decide, by decide, by decide, by decide⟩
  | 4, _ => exact ⟨by decide, by decide, by decide, by decide⟩
  | 5, _ => exact ⟨by decide, by decide, by decide, by decide⟩
  | 6, _ => exact ⟨by decide, by decide, by decide, by decide⟩
  | 7, _ => exact ⟨by decide, by decide, by decide, by decide⟩
theorem tab_end : getD (plays si0 rs).led 3 = 0 ∧ (fnd (plays si0 rs).pts 1).isSome = true ∧ ((fnd (plays si0 rs).pts 1).getD p0).st = 3 ∧ (logs si0 rs).length = 7 := of_decide_eq_true (by kernel_rfl)
theorem lit_tab : (#[.int .i64 1, .int .i64 1, .int .u8 0, .int .i64 0, .int .i64 0, .int .i64 0, .int .i64 3, .int .i64 1, .int .u8 3, .int .i64 5, .int .i64 0, .int .i64 0, .int .i64 1, .int .i64 2, .int .u8 0, .int .i64 0, .int .i64 0, .int .i64 0, .int .i64 2, .int .i64 2, .int .u8 3, .int .i64 0, .int .i64 0, .int .i64 9, .int .i64 4, .int .i64 1, .int .u8 0, .int .i64 1, .int .i64 0, .int .i64 0, .int .i64 5, .int .i64 1, .int .u8 0, .int .i64 0, .int .i64 0, .int .i64 0, .int .i64 2, .int .i64 2, .int .u8 3, .int .i64 0, .int .i64 5, .int .i64 0, .int .i64 6, .int .i64 1, .int .u8 0, .int .i64 2, .int .i64 0, .int .i64 0] : Array Value) = (rc ec tab).toArray := by rfl
theorem tab_rr {W : World} {g : Nat} {t : TypeId} (h : CB W g t (rc ec tab).toArray) : RR0 W ec 6 (some ⟨g, 0, none⟩) 8 8 tab :=
  ⟨rfl, by omega, by simp only [maxLen]; omega, fun _ => ⟨g, 0, rfl, fun i v hv => by rw [Nat.zero_add, h.cell]; simpa using hv⟩⟩
theorem tab_at {W : World} {g : Nat} {t : TypeId} (h : CB W g t (rc ec tab).toArray) {j : Nat} (hj : j < 8) : W.cell? ⟨g, j * 6, none⟩ = some (.int .i64 (tkE j).r.kd) ∧ W.cell? ⟨g, j * 6 + 1, none⟩ = some (.int .i64 (tkE j).r.tx) ∧ W.cell? ⟨g, j * 6 + 2, none⟩ = some (.int .u8 (tkE j).r.ky) ∧ W.cell? ⟨g, j * 6 + 3, none⟩ = some (.int .i64 (tkE j).r.nn) ∧ W.cell? ⟨g, j * 6 + 4, none⟩ = some (.int .i64 (tkE j).n) ∧ W.cell? ⟨g, j * 6 + 5, none⟩ = some (.int .i64 (tkE j).e) := by
  obtain ⟨g', off, x, h1, h2, h3⟩ := (tab_rr h).at_ hj
  cases h2
  have h3 : ∀ i v, (ec x)[i]? = some v → W.cell? ⟨g, j * 6 + i, none⟩ = some v := fun i v hv => by have := h3 i v hv; rwa [Nat.zero_add] at this
  have e : tkE j = x := by unfold tkE; rw [h1]; rfl
  rw [e]
  exact ⟨h3 0 _ rfl, h3 1 _ rfl, h3 2 _ rfl, h3 3 _ rfl, h3 4 _ rfl, h3 5 _ rfl⟩

set_option maxRecDepth 100000 in
set_option maxHeartbeats 4000000 in
theorem alive_c (w : World) : Calls Try.prog 13 #[] w fun e w' => e = .returned (.bool true) ∧ Below w.heap.size w w' := by
  go_enter Try.func13, Try.ntmps13
  go_wp2_with fail
  (with_reducible refine (new_c w).mono ?_)
  rintro e w1 ⟨b, m, rfl, h1, h2, h3⟩
  have hst : ST w.heap.size w w1 (fun _ => False) b m none si0 [] := ⟨h1, h3, h2, fun R hR => hR.elim⟩
  clear h1 h2 h3
  obtain ⟨W, hW⟩ : ∃ W, w1.alloc (.cells #[.int .i64 1, .int .i64 1, .int .u8 0, .int .i64 0, .int .i64 0, .int .i64 0, .int .i64 3, .int .i64 1, .int .u8 3, .int .i64 5, .int .i64 0, .int .i64 0, .int .i64 1, .int .i64 2, .int .u8 0, .int .i64 0, .int .i64 0, .int .i64 0, .int .i64 2, .int .i64 2, .int .u8 3, .int .i64 0, .int .i64 0, .int .i64 9, .int .i64 4, .int .i64 1, .int .u8 0, .int .i64 1, .int .i64 0, .int .i64 0, .int .i64 5, .int .i64 1, .int .u8 0, .int .i64 0, .int .i64 0, .int .i64 0, .int .i64 2, .int .i64 2, .int .u8 3, .int .i64 0, .int .i64 5, .int .i64 0, .int .i64 6, .int .i64 1, .int .u8 0, .int .i64 2, .int .i64 0, .int .i64 0] 88) = W := ⟨_, rfl⟩
  have lW : CB W w1.heap.size 88 (rc ec tab).toArray := by rw [← hW, ← lit_tab]; exact CB.new _ _ _
  have sW : ST w.heap.size w W (fun x => False ∨ x = w1.heap.size) b m none si0 [] := by rw [← hW]; exact hst.add (belA _ _) (Nat.le_refl _) (by simp)
  have HW := Lib.hid hW
  clear hW hst
  go_upto_region 4 with fail
  go_wp2_with fail
  rw [HW.out]
  go_wp2_with fail
  go_loopw [29] (fun i wr => ∃ (j : Nat) (G : Option Nat), j ≤ 8 ∧ i = .int .i64 j ∧ ST w.heap.size w wr (fun x => False ∨ x = w1.heap.size) b m G (plays si0 (rs.take j)) (logs si0 (rs.take j)) ∧ CB wr w1.heap.size 88 (rc ec tab).toArray) (fun i _ => 8 - (intOf i).toNat)
  case atStart => exact ⟨0, none, by omega, rfl, sW, lW⟩
  case round =>
    clear sW lW
    obtain ⟨j, G, hj, rfl, hst, hc⟩ := hrel
    by_cases hlt : j < 8
    · have hlt1 : (j : Int) < 8 := by omega
      obtain ⟨d0, d1, d2, d3, d4, d5⟩ := tab_at hc hlt
      obtain ⟨a1, a2⟩ := tab_ans j hlt
      have hjl : j < rs.length := hlt
      have hpl := Lib.hid (plays_take hjl)
      have hlg := Lib.hid (logs_take hjl)
      rw [tab_rs j hlt] at hpl hlg
      have hok := tab_ok j hlt
      obtain ⟨X, hX⟩ : ∃ X, wr.alloc (.cells #[.int .i64 (tkE j).r.kd, .int .i64 (tkE j).r.tx, .int .u8 (tkE j).r.ky, .int .i64 (tkE j).r.nn, .int .i64 (tkE j).n, .int .i64 (tkE j).e] 88) = X := ⟨_, rfl⟩
      have bX : CB X wr.heap.size 88 #[.int .i64 (tkE j).r.kd, .int .i64 (tkE j).r.tx, .int .u8 (tkE j).r.ky, .int .i64 (tkE j).r.nn, .int .i64 (tkE j).n, .int .i64 (tkE j).e] := by rw [← hX]; exact CB.new _ _ _
      have sX : ST w.heap.size w X (fun x => (False ∨ x = w1.heap.size) ∨ x = wr.heap.size) b m G (plays si0 (rs.take j)) (logs si0 (rs.take j)) := by rw [← hX]; exact hst.add (belA _ _) (Nat.le_refl _) (by simp)
      have cX : CB X w1.heap.size 88 (rc ec tab).toArray := by rw [← hX]; exact hc.alloc _
      have HX := Lib.hid hX
      have hll : (logs si0 (rs.take j)).length ≤ 4999 := by have := logs_len si0 (rs.take j); simp at this; omega
      have hdo := do_c b m G _ _ (tkE j).r X sX.sr hok hll
      clear hX hst hok hll
      generalize tkE j = x at *
      generalize plays si0 (rs.take j) = S at *
      generalize logs si0 (rs.take j) = K at *
      have c0 := bX.cell 0
      have c1 := bX.cell 1
      have c2 := bX.cell 2
      have c3 := bX.cell 3
      simp only [List.getElem?_toArray, List.getElem?_cons_zero, List.getElem?_cons_succ] at c0 c1 c2 c3
      have SX := Lib.hid sX
      have A1 := Lib.hid a1
      have A2 := Lib.hid a2
      clear sX hc a1 a2
      go_upto_region 7 with fail
      rw [HX.out]
      go_wp2_with fail
      (with_reducible refine hdo.mono ?_)
      intro e w2 hp
      obtain ⟨rfl, G', ht, hk, _⟩ := SX.out.done hp (Nat.le_refl _)
      rw [← hpl.out, ← hlg.out] at ht
      rw [A1.out, A2.out]
      have b2 := bX.same (hk _ (.inr rfl))
      have c2' := cX.same (hk w1.heap.size (.inl (.inr rfl)))
      have Ht := Lib.hid (ht.less (Rs' := fun x => False ∨ x = w1.heap.size) (fun x hx => .inl hx))
      clear hp ht hdo d0 d1 d2 d3 d4 d5 c0 c1 c2 c3 bX cX hk
      have c4 := b2.cell 4
      have c5 := b2.cell 5
      simp only [List.getElem?_toArray, List.getElem?_cons_zero, List.getElem?_cons_succ] at c4 c5
      clear b2
      go_wp2_with fail
      go_roundw
      case rel => exact ⟨j + 1, G', by omega, by go_num, Ht.out, c2'⟩
      case measure => simp [intOf]; omega
    · obtain rfl : j = 8 := by omega
      have hlt1 : ¬ ((8 : Nat) : Int) < 8 := by omega
      rw [show rs.take 8 = rs from rfl] at hst
      obtain ⟨n1, n2, n3, n4⟩ := tab_end
      have hp := spart_c b m G _ _ 1 wr hst.sr (by omega)
      obtain ⟨q, hq⟩ : ∃ q, (fnd (plays si0 rs).pts 1).getD p0 = q := ⟨_, rfl⟩
      rw [n2, hq] at hp
      rw [hq] at n3
      have N1 := Lib.hid n1
      have N3 := Lib.hid n3
      have N4 := Lib.hid n4
      generalize plays si0 rs = S at *
      generalize logs si0 rs = K at *
      clear n1 n2 n3 n4 hq hc
      go_wp2_with fail
      (with_reducible refine hp.mono ?_)
      rintro e w2 ⟨A, n, c, rfl, _, b2, _⟩
      have s2 := hst.onw b2
      clear hp hst b2
      obtain ⟨V, hV⟩ : ∃ V, w2.alloc (.cells #[.int .i64 q.st, .slice A n c, .bool q.lo, .int .i64 q.ou] 40) = V := ⟨_, rfl⟩
      have oV : PB V w2.heap.size 40 q.st A n c q.lo q.ou := by rw [← hV]; exact PB.new _ _ _ _ _ _ _ _
      have sV := s2.onw (W' := V) (by rw [← hV]; exact belA _ _)
      have HV := Lib.hid hV
      clear hV s2
      have hg := sget_c b m G S K 3 V sV.sr
      rw [N1.out] at hg
      go_upto_region 12 with fail
      rw [HV.out]
      go_wp2_with fail
      (with_reducible refine hg.mono ?_)
      rintro e w3 ⟨rfl, b3⟩
      have s3 := sV.onw b3
      have o3 := oV.on b3
      obtain ⟨o0, o1, o2, o3'⟩ := o3.cells
      rw [N3.out] at o0
      have hl := slog_c b m G S K w3 s3.sr (by rw [N4.out]; omega)
      clear hg b3 sV oV
      go_wp2_with fail
      (with_reducible refine hl.mono ?_)
      rintro e w4 ⟨A5, n5, c5, rfl, k5, b4⟩
      have h7 : n5 = 7 := by rw [← k5.len, N4.out]
      have l4 := (s3.onw b4).low
      subst h7
      clear hl b4 s3 k5 o0 o1 o2 o3' o3
      go_wp2_with fail
      go_ret
      exact ⟨rfl, l4⟩
end Go.Proofs.Ytealcccjnmfkcaa
