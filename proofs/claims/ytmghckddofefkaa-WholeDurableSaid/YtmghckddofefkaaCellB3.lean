/-
  The iterator over a table of package cells, keys and values uint8, waystation/hand.Side: it goes through all entries, in whatever order. Condition: the map's block stays as it was.
-/
import Derived.Test.YtmghckddofefkaaCellA3
import Derived.Lib.Hide
import Derived.Shelf.Abstract
import Derived.Shelf.RegionOpen
import Derived.OwnWalkIn
import Derived.TacticsInMore
import Derived.LoopNIn
import Derived.LoopIn
namespace Go.Proofs.Ytmghckddofefkaa.US
open Go.RowKit Go.Shelf Go.Maps
attribute [local go_sem] Oper.semAt_some

theorem keyInv (key : Value) (kl : Lit) (h : keyOf Try.prog 5 key = some kl) : ∃ x, key = Value.int .u8 x := by
  obtain ⟨x, hx, _⟩ := Maps.keyOf_int_inv Try.underlying5 h
  exact ⟨x, hx⟩
theorem valInv (v : Value) (y : DataW Unit × List MemPlace) (h : rdS v = some y) : ∃ c : Sd, v = (fun c : Sd => (Value.agg #[.int .u8 (c).me, .int .i64 (c).l.ep, .int .i64 (c).l.st, .int .u8 (c).l.to, .string (c).cg, .bool (c).kp])) c := by
  obtain ⟨x, hx, _⟩ := val_inv h
  exact ⟨x, hx⟩

set_option maxRecDepth 100000 in
set_option maxHeartbeats 400000 in
theorem each_iter (w : World) (b : Nat) (L : List (Int × Sd)) (h : MP w b L) :
    IterM Try.prog 78 (fun y => #[.map (some b)] ++ #[y]) L (fun p => #[.int .u8 p.1, (Value.agg #[.int .u8 (p.2).me, .int .i64 (p.2).l.ep, .int .i64 (p.2).l.st, .int .u8 (p.2).l.to, .string (p.2).cg, .bool (p.2).kp])]) (fun W => W.heap[b]? = w.heap[b]?) := by
  intro l J W hN hM hY h0
  have hmp : MP W b L := h.same (hN _ _ h0)
  have hown := hmp.1
  refine callsIn_of_wp Try.func78 rfl trivial ?_ rfl
  simp only [Try.ntmps78, List.size_toArray, List.length_cons, List.length_nil, Nat.reduceAdd, Nat.reduceSub, Array.replicate_succ, Array.replicate_zero, List.push_toArray, List.append_toArray, List.nil_append, List.cons_append]
  gi_wp2_with (gi_at_range; refine wpListIn_range_own _ rfl _ 109 rfl 5 31 lawK Try.underlying109 _ b L.length _ rfl hown ?_; intro w0 hrg0 hg0 hs0)
  have hJ0 : J [] w0 := hM _ _ _ h0 (mur_grown hg0 (fun g hg => by cases hg))
  clear hs0 hg0 hown
  gi_loopw [8] (fun _ wr => ∃ (s : List (Int × Sd)) (left : Lit → Bool) (cnt : Nat), Coll .u8 L left s ∧ wr.ranges Try.prog 5 rdS b W.heap.size L.length (dat .u8 dv L) left cnt ∧ J s wr) (fun _ wr => wr.rangeLeft b W.heap.size)
  case atStart => exact ⟨[], _, _, Coll.start L, hrg0, hJ0⟩
  case round =>
    obtain ⟨s, left, cnt, hC, hrg, hJ⟩ := hrel
    gi_wp2_with (gi_at_next; refine wpListIn_next_ranges _ rfl _ rfl 5 lawK rdS (Value.int .u8) (fun c : Sd => (Value.agg #[.int .u8 (c).me, .int .i64 (c).l.ep, .int .i64 (c).l.st, .int .u8 (c).l.to, .string (c).cg, .bool (c).kp])) keyInv valInv b W.heap.size L.length _ _ _ rfl hrg ?_ ?_)
    · intro hc0 hl0
      gi_wp2
      go_end0
      exact ⟨⟨_, rfl⟩, s, hC.apart, hC.perm hmp.srt hl0, hJ⟩
    · intro x c kl yd yp w2 cnt2 hkey hlk hv hat hrg2 hlt hg2 hs2 hen
      obtain ⟨x', ex, rfl, _⟩ := Maps.keyOf_int_inv Try.underlying5 hkey
      obtain rfl : x = x' := by cases ex; rfl
      obtain ⟨c', ec, hy, _⟩ := val_inv hv
      obtain rfl : c = c' := ev_inj ec
      have hyd : yd = dv c := congrArg Prod.fst hy
      have hmem : (x, c) ∈ L := at_mem hmp.srt (fun zd => (hat zd).trans hyd)
      have hC2 := hC.step hmp.srt hlk hmem
      have hJ1 : J s w2 := hM _ _ _ hJ (mur_grown hg2 (fun g hg => by cases hg; exact ⟨Nat.le_refl _, ranges_iter hrg⟩))
      obtain ⟨w3, hw3⟩ : ∃ V, w2.alloc (.cells #[.int .u8 (c).me, .int .i64 (c).l.ep, .int .i64 (c).l.st, .int .u8 (c).l.to, .string (c).cg, .bool (c).kp] 31) = V := ⟨_, rfl⟩
      have hJ2 : J s w3 := by rw [← hw3]; exact hM _ _ _ hJ1 ⟨rfl, rfl, rfl, by simp, fun g hg _ => Below.heap_alloc w2 _ g hg⟩
      have cb3 : CB w3 w2.heap.size 31 #[.int .u8 (c).me, .int .i64 (c).l.ep, .int .i64 (c).l.st, .int .u8 (c).l.to, .string (c).cg, .bool (c).kp] := by rw [← hw3]; exact CB.new _ _ _
      have hal : ∀ g, g < w2.heap.size → w3.heap[g]? = w2.heap[g]? := fun g hg => by rw [← hw3]; exact Below.heap_alloc w2 _ g hg
      obtain ⟨fn, tmps, assign, body, hyy, hR⟩ := hY s (x, c) w3 hC2.apart hC2.sub hJ2
      have hb2 := (hN _ _ hJ2)
      have HW3 := Lib.hid hw3
      clear hw3
      have hle := hrg.left_eq
      have Hle := Lib.hid hle
      have hlt2 : b < w2.heap.size := by have := hN _ _ hJ1; have h3 := hmp.lt; have h4 := hN _ _ h0; exact (Array.getElem?_eq_some_iff.1 (this.trans (h4.symm.trans (hmp.is.choose_spec.choose_spec)))).1
      clear hs2 hY hkey hv hat hy hyd ec ex hg2 hJ hC hrg hle
      gi_wp2
      rw [HW3.out]
      have hy4 : (Instr.yield l #[.int .u8 x, (Value.agg #[.int .u8 (c).me, .int .i64 (c).l.ep, .int .i64 (c).l.st, .int .u8 (c).l.to, .string (c).cg, .bool (c).kp])]).run Try.prog w3 = _ := hyy
      rw [hy4]
      refine ⟨fun h => by simp [Fence.wide] at h, hR.mono ?_⟩
      rintro e W3 ⟨rfl, hJ3, hki⟩
      obtain ⟨m1, m2, m3, m4, hit⟩ := ranges_iter hrg2
      have hit3 := (hal _ (Array.getElem?_eq_some_iff.1 hit).1).trans hit
      have hrg3 := ranges_same hrg2 (((hN _ _ hJ3).trans hb2.symm).trans (hal _ hlt2)) ((hki _ _ _ _ _ hit3).trans hit.symm)
      clear hit hki hb2 hrg2 hen hlk hN hM hyy hR
      gi_wp2
      go_roundw
      case rel => exact ⟨_, _, cnt2, hC2, hrg3, hJ3⟩
      case measure => rw [hrg3.left_eq, Hle.out]; exact hlt
end Go.Proofs.Ytmghckddofefkaa.US
