/-
  The iterator that All returns, keys and values uint8, waystation/hand.Side: it goes by rising keys through what there was. Condition: the cells are such as New made; while it goes the row that it holds stays.
-/
import Derived.Test.YtmghckddofefkaaCellE3
namespace Go.Proofs.Ytmghckddofefkaa.US
open Go.RowKit Go.Shelf Go.Maps
attribute [local go_sem] Oper.semAt_some

/-- What the k-th round is handed. -/
def kth (L : List (Int × Sd)) (k : Nat) : Int × Sd := L[k]?.getD (0, sd0)

theorem cel_nth (L : List (Int × Sd)) {k : Nat} (hk : k < L.length) (i : Nat) (hi : i < 7) : (cel L)[k * 7 + i]? = some ((enc (kth L k))[i]!) := by
  have h1 := flat_get (by decide) enc_two L (k * 7 + i) (by omega)
  have e : L[k]! = kth L k := by
    unfold kth
    rw [List.getElem!_eq_getElem?_getD, List.getElem?_eq_getElem hk]
    rfl
  rw [show (k * 7 + i) / 7 = k by omega, show (k * 7 + i) % 7 = i by omega, e] at h1
  exact h1
theorem cel_at (L : List (Int × Sd)) {k : Nat} (hk : k < L.length) : (cel L)[k * 7]? = some (.int .u8 (kth L k).1) ∧ (cel L)[k * 7 + 1]? = some (.int .u8 ((kth L k).2).me) ∧ (cel L)[k * 7 + 2]? = some (.int .i64 ((kth L k).2).l.ep) ∧ (cel L)[k * 7 + 3]? = some (.int .i64 ((kth L k).2).l.st) ∧ (cel L)[k * 7 + 4]? = some (.int .u8 ((kth L k).2).l.to) ∧ (cel L)[k * 7 + 5]? = some (.string ((kth L k).2).cg) ∧ (cel L)[k * 7 + 6]? = some (.bool ((kth L k).2).kp) :=
  ⟨cel_nth L hk 0 (by decide), cel_nth L hk 1 (by decide), cel_nth L hk 2 (by decide), cel_nth L hk 3 (by decide), cel_nth L hk 4 (by decide), cel_nth L hk 5 (by decide), cel_nth L hk 6 (by decide)⟩

set_option maxRecDepth 100000 in
set_option maxHeartbeats 400000 in
theorem row_iter (A : Option Addr) (c : Nat) (L : List (Int × Sd)) (G : Option Nat) (hm : L.length ≤ 10000) :
    IterA Try.prog 60 (fun y => #[.slice A L.length c] ++ #[y]) L.length (fun k => #[.int .u8 (kth L k).1, (Value.agg #[.int .u8 ((kth L k).2).me, .int .i64 ((kth L k).2).l.ep, .int .i64 ((kth L k).2).l.st, .int .u8 ((kth L k).2).l.to, .string ((kth L k).2).cg, .bool ((kth L k).2).kp])]) (fun W => Seg W 148 7 A L.length c (cel L) G) := by
  intro l J Jx W hN hA hY h0
  refine callsIn_of_wp Try.func60 rfl trivial ?_ rfl
  simp only [Try.ntmps60, List.size_toArray, List.length_cons, List.length_nil, Nat.reduceAdd, Nat.reduceSub, Array.replicate_succ, Array.replicate_zero, List.push_toArray, List.append_toArray, List.nil_append, List.cons_append]
  gi_wp2
  gi_loopw [8] (fun i wr => ∃ k : Nat, k ≤ L.length ∧ i = .int .i64 k ∧ J k wr) (fun i _ => L.length - (intOf i).toNat)
  case atStart => exact ⟨0, by omega, rfl, h0⟩
  case round =>
    obtain ⟨k, hk, rfl, hJ⟩ := hrel
    by_cases hlt : k < L.length
    · have hs := hN k wr hJ
      obtain ⟨e0, e1, e2, e3, e4, e5, e6⟩ := cel_at L hlt
      obtain ⟨g, off, rfl, rfl, hc0⟩ := hs.at_ e0
      obtain ⟨g', off', eA, _, hc1⟩ := hs.at_ e1
      cases eA
      obtain ⟨g', off', eA, _, hc2⟩ := hs.at_ e2
      cases eA
      obtain ⟨g', off', eA, _, hc3⟩ := hs.at_ e3
      cases eA
      obtain ⟨g', off', eA, _, hc4⟩ := hs.at_ e4
      cases eA
      obtain ⟨g', off', eA, _, hc5⟩ := hs.at_ e5
      cases eA
      obtain ⟨g', off', eA, _, hc6⟩ := hs.at_ e6
      cases eA
      have hJ2 := hA k wr #[.int .u8 (kth L k).1, .int .u8 ((kth L k).2).me, .int .i64 ((kth L k).2).l.ep, .int .i64 ((kth L k).2).l.st, .int .u8 ((kth L k).2).l.to, .string ((kth L k).2).cg, .bool ((kth L k).2).kp] 148 hJ
      obtain ⟨fn, tmps, assign, body, hy, hR⟩ := hY k _ hlt hJ2
      rw [← Nat.add_assoc] at hc1 hc2 hc3 hc4 hc5 hc6
      generalize kth L k = x at hy hc0 hc1 hc2 hc3 hc4 hc5 hc6 hR
      obtain ⟨xk, xv⟩ := x
      simp only at hy hc0 hc1 hc2 hc3 hc4 hc5 hc6 hR
      have cb := CB.new wr 148 #[.int .u8 xk, .int .u8 (xv).me, .int .i64 (xv).l.ep, .int .i64 (xv).l.st, .int .u8 (xv).l.to, .string (xv).cg, .bool (xv).kp]
      have d0 : (wr.alloc (.cells #[.int .u8 xk, .int .u8 (xv).me, .int .i64 (xv).l.ep, .int .i64 (xv).l.st, .int .u8 (xv).l.to, .string (xv).cg, .bool (xv).kp] 148)).cell? ⟨wr.heap.size, 0, none⟩ = some (.int .u8 xk) := cb.cell 0
      have d1 : (wr.alloc (.cells #[.int .u8 xk, .int .u8 (xv).me, .int .i64 (xv).l.ep, .int .i64 (xv).l.st, .int .u8 (xv).l.to, .string (xv).cg, .bool (xv).kp] 148)).cell? ⟨wr.heap.size, 1, none⟩ = some (.int .u8 (xv).me) := cb.cell 1
      have d2 : (wr.alloc (.cells #[.int .u8 xk, .int .u8 (xv).me, .int .i64 (xv).l.ep, .int .i64 (xv).l.st, .int .u8 (xv).l.to, .string (xv).cg, .bool (xv).kp] 148)).cell? ⟨wr.heap.size, 2, none⟩ = some (.int .i64 (xv).l.ep) := cb.cell 2
      have d3 : (wr.alloc (.cells #[.int .u8 xk, .int .u8 (xv).me, .int .i64 (xv).l.ep, .int .i64 (xv).l.st, .int .u8 (xv).l.to, .string (xv).cg, .bool (xv).kp] 148)).cell? ⟨wr.heap.size, 3, none⟩ = some (.int .i64 (xv).l.st) := cb.cell 3
      have d4 : (wr.alloc (.cells #[.int .u8 xk, .int .u8 (xv).me, .int .i64 (xv).l.ep, .int .i64 (xv).l.st, .int .u8 (xv).l.to, .string (xv).cg, .bool (xv).kp] 148)).cell? ⟨wr.heap.size, 4, none⟩ = some (.int .u8 (xv).l.to) := cb.cell 4
      have d5 : (wr.alloc (.cells #[.int .u8 xk, .int .u8 (xv).me, .int .i64 (xv).l.ep, .int .i64 (xv).l.st, .int .u8 (xv).l.to, .string (xv).cg, .bool (xv).kp] 148)).cell? ⟨wr.heap.size, 5, none⟩ = some (.string (xv).cg) := cb.cell 5
      have d6 : (wr.alloc (.cells #[.int .u8 xk, .int .u8 (xv).me, .int .i64 (xv).l.ep, .int .i64 (xv).l.st, .int .u8 (xv).l.to, .string (xv).cg, .bool (xv).kp] 148)).cell? ⟨wr.heap.size, 6, none⟩ = some (.bool (xv).kp) := cb.cell 6
      clear hs hY hN hA e0 e1 e2 e3 e4 e5 e6 hJ hJ2 cb
      gi_wp2
      refine ⟨rfl, hR.mono ?_⟩
      rintro e W3 (⟨rfl, hJ3⟩ | ⟨rfl, hJ3⟩)
      · gi_wp2
        go_roundw
        case rel => exact ⟨k + 1, by omega, by go_num, hJ3⟩
        case measure => simp [intOf]; omega
      · gi_wp2
        refine bodyPost_ret (results_none rfl _ _ _) rfl ?_
        exact ⟨⟨_, rfl⟩, .inr hJ3⟩
    · obtain rfl : k = L.length := by omega
      gi_wp2
      go_end0
      exact ⟨⟨_, rfl⟩, .inl hJ⟩

theorem all_c (B c : Nat) (room : Int) (L S : List (Int × Sd)) (w : World) (h : CE B w c room L S) :
    Calls Try.prog 32 #[.pointer (some ⟨c, 0, none⟩)] w fun e w' => ∃ A cp G, e = .returned (.func (.func 60) #[.slice A L.length cp] #[]) ∧ Seg w' 148 7 A L.length cp (cel L) G ∧ (∀ g, G = some g → w.heap.size ≤ g) ∧ Below w.heap.size w w' := by
  obtain ⟨bn, bs, h1, h2, h3, h4, h5, h6⟩ := h.ex
  have hc := created_yes c room _ _ w h1 h.pos
  have c1 := h1.cell 1
  simp at c1
  have hs := sorted_c w bn L h2 h.len
  go_enter Try.func32, Try.ntmps32
  go_wp2_with (first
    | (go_at_call 57; refine hc.mono ?_; rintro e w' ⟨rfl, rfl⟩)
    | (go_at_call 59; refine hs.mono ?_; rintro e w1 ⟨A, cp, G, rfl, r1, r2, r3⟩))
  go_ret
  exact ⟨A, cp, G, rfl, r1, r2, r3⟩
end Go.Proofs.Ytmghckddofefkaa.US
