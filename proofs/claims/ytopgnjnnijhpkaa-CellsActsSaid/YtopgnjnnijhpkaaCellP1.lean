/-
  The iterator that All returns, keys and values uint8, int64: it goes by rising keys through what there was. Condition: the cells are such as New made; while it goes the row that it holds stays.
-/
import Derived.Test.YtopgnjnnijhpkaaCellE1
namespace Go.Proofs.Ytopgnjnnijhpkaa.UI
open Go.RowKit Go.Shelf Go.Maps
attribute [local go_sem] Oper.semAt_some

/-- What the k-th round is handed. -/
def kth (L : List (Int × Int)) (k : Nat) : Int × Int := L[k]?.getD (0, 0)

theorem cel_at (L : List (Int × Int)) {k : Nat} (hk : k < L.length) : (cel L)[k * 2]? = some (.int .u8 (kth L k).1) ∧ (cel L)[k * 2 + 1]? = some (Value.int .i64 (kth L k).2) := by
  have h1 := flat_get enc_two L (k * 2) (by omega)
  have h2 := flat_get enc_two L (k * 2 + 1) (by omega)
  have e : L[k]! = kth L k := by
    unfold kth
    rw [List.getElem!_eq_getElem?_getD, List.getElem?_eq_getElem hk]
    rfl
  rw [show k * 2 / 2 = k by omega, show k * 2 % 2 = 0 by omega, e] at h1
  rw [show (k * 2 + 1) / 2 = k by omega, show (k * 2 + 1) % 2 = 1 by omega, e] at h2
  exact ⟨h1, h2⟩

set_option maxRecDepth 100000 in
set_option maxHeartbeats 400000 in
theorem row_iter (A : Option Addr) (c : Nat) (L : List (Int × Int)) (G : Option Nat) (hm : L.length ≤ 10000) :
    IterA Try.prog 47 (fun y => #[.slice A L.length c] ++ #[y]) L.length (fun k => #[.int .u8 (kth L k).1, (Value.int .i64 (kth L k).2)]) (fun W => Seg W 112 2 A L.length c (cel L) G) := by
  intro l J Jx W hN hA hY h0
  refine callsIn_of_wp Try.func47 rfl trivial ?_ rfl
  simp only [Try.ntmps47, List.size_toArray, List.length_cons, List.length_nil, Nat.reduceAdd, Nat.reduceSub, Array.replicate_succ, Array.replicate_zero, List.push_toArray, List.append_toArray, List.nil_append, List.cons_append]
  gi_wp2
  gi_loopw [8] (fun i wr => ∃ k : Nat, k ≤ L.length ∧ i = .int .i64 k ∧ J k wr) (fun i _ => L.length - (intOf i).toNat)
  case atStart => exact ⟨0, by omega, rfl, h0⟩
  case round =>
    obtain ⟨k, hk, rfl, hJ⟩ := hrel
    by_cases hlt : k < L.length
    · have hs := hN k wr hJ
      obtain ⟨e1, e2⟩ := cel_at L hlt
      obtain ⟨g, off, rfl, rfl, hc1⟩ := hs.at_ e1
      obtain ⟨g', off', eA, _, hc2⟩ := hs.at_ e2
      cases eA
      have hJ2 := hA k wr #[.int .u8 (kth L k).1, (Value.int .i64 (kth L k).2)] 112 hJ
      obtain ⟨fn, tmps, assign, body, hy, hR⟩ := hY k _ hlt hJ2
      rw [← Nat.add_assoc] at hc2
      generalize kth L k = x at hy hc1 hc2 hR
      obtain ⟨xk, xv⟩ := x
      simp only at hy hc1 hc2 hR
      clear hs hY hN hA e1 e2 hJ hJ2
      gi_wp2
      refine ⟨rfl, hR.mono ?_⟩
      rintro e W3 (⟨rfl, hJ3⟩ | ⟨rfl, hJ3⟩)
      · gi_wp2
        go_roundw
        case rel => exact ⟨k + 1, by omega, by go_num, hJ3⟩
        case measure => simp [intOf]; omega
      · gi_wp2
        refine bodyPost_ret (results_none rfl _ _ _) rfl ?_
        exact ⟨⟨_, rfl⟩, .inr hJ3⟩
    · obtain rfl : k = L.length := by omega
      gi_wp2
      go_end0
      exact ⟨⟨_, rfl⟩, .inl hJ⟩

theorem all_c (B c : Nat) (room : Int) (L S : List (Int × Int)) (w : World) (h : CE B w c room L S) :
    Calls Try.prog 36 #[.pointer (some ⟨c, 0, none⟩)] w fun e w' => ∃ A cp G, e = .returned (.func (.func 47) #[.slice A L.length cp] #[]) ∧ Seg w' 112 2 A L.length cp (cel L) G ∧ (∀ g, G = some g → w.heap.size ≤ g) ∧ Below w.heap.size w w' := by
  obtain ⟨bn, bs, h1, h2, h3, h4, h5, h6⟩ := h.ex
  have hc := created_yes c room _ _ w h1 h.pos
  have c1 := h1.cell 1
  simp at c1
  have hs := sorted_c w bn L h2 h.len
  go_enter Try.func36, Try.ntmps36
  go_wp2_with (first
    | (go_at_call 33; refine hc.mono ?_; rintro e w' ⟨rfl, rfl⟩)
    | (go_at_call 46; refine hs.mono ?_; rintro e w1 ⟨A, cp, G, rfl, r1, r2, r3⟩))
  go_ret
  exact ⟨A, cp, G, rfl, r1, r2, r3⟩
end Go.Proofs.Ytopgnjnnijhpkaa.UI
