/-
  Replay; two sites side by side. Conditions: the calls can be read, their numbers such as their types hold, not many of them.
-/
import Derived.Test.YtealcccjnmfkcaaYSiI
set_option linter.unusedVariables false
set_option linter.unusedSimpArgs false
namespace Go.Proofs.Ytealcccjnmfkcaa
open Go.RowKit

/-- A call gave a site upon which all the calls were done; or there is none. -/
def RpPost (w : World) (L : List Rc) (e : Ending) (w' : World) : Prop :=
  (allOk si0 L ∧ ∃ b m G, e = .returned (.tuple #[.pointer (some ⟨b, 0, none⟩), .int .i64 0]) ∧ ST w.heap.size w w' (fun _ => False) b m G (plays si0 L) L) ∨
  (¬ allOk si0 L ∧ e = .returned (.tuple #[.pointer none, .int .i64 4]) ∧ Below w.heap.size w w')
/-- Two sites in the world W of a walk that began at w. -/
structure TT (B : Nat) (w W : World) (Rs : Nat → Prop) (b m : Nat) (G : Option Nat) (s : Si) (log : List Rc) (b' m' : Nat) (G' : Option Nat) (s' : Si) (log' : List Rc) : Prop where
  one : ST B w W Rs b m G s log
  two : ST B w W Rs b' m' G' s' log'
  nb : b ≠ b'
  nm : m ≠ m'
  nG : ∀ g, G = some g → G' ≠ some g
section
variable {B : Nat} {w W W' : World} {Rs : Nat → Prop} {b m : Nat} {G : Option Nat} {s : Si} {log : List Rc} {b' m' : Nat} {G' : Option Nat} {s' : Si} {log' : List Rc}
theorem TT.swap (h : TT B w W Rs b m G s log b' m' G' s' log') : TT B w W Rs b' m' G' s' log' b m G s log := ⟨h.two, h.one, fun e => h.nb e.symm, fun e => h.nm e.symm, fun g e e' => h.nG g e' e⟩
theorem TT.onw (h : TT B w W Rs b m G s log b' m' G' s' log') (hb : Below W.heap.size W W') : TT B w W' Rs b m G s log b' m' G' s' log' := ⟨h.one.onw hb, h.two.onw hb, h.nb, h.nm, h.nG⟩
theorem TT.less (h : TT B w W Rs b m G s log b' m' G' s' log') {Rs' : Nat → Prop} (hs : ∀ x, Rs' x → Rs x) : TT B w W Rs' b m G s log b' m' G' s' log' := ⟨h.one.less hs, h.two.less hs, h.nb, h.nm, h.nG⟩
theorem TT.add (h : TT B w W Rs b m G s log b' m' G' s' log') (hb : Below W.heap.size W W') {R : Nat} (hR : W.heap.size ≤ R) (hR' : R < W'.heap.size) : TT B w W' (fun x => Rs x ∨ x = R) b m G s log b' m' G' s' log' := ⟨h.one.add hb hR hR', h.two.add hb hR hR', h.nb, h.nm, h.nG⟩
/-- Behind a call upon the first. -/
theorem TT.done (h : TT B w W Rs b m G s log b' m' G' s' log') {r : Rc} {e : Ending} (hd : DoPost W b m G s log r e W') (hB : B ≤ w.heap.size) :
    e = .returned (.tuple #[.int .i64 (nDo s r), .int .i64 (eDo s r)]) ∧ ∃ G1, TT B w W' Rs b m G1 (sDo s r) (if eDo s r = 0 then log ++ [r] else log) b' m' G' s' log' ∧ (∀ R, Rs R → W'.heap[R]? = W.heap[R]?) ∧ (∀ i, i < B → W'.heap[i]? = W.heap[i]?) ∧ W.heap.size ≤ W'.heap.size := by
  have hd' := hd
  obtain ⟨he, G0, h1, h2, h3⟩ := hd
  obtain ⟨he', G1, k1, k2, k3, k4⟩ := h.one.done ⟨he, G0, h1, h2, h3⟩ hB
  have hsr := h.two.sr.out h.one.sr h2 (fun e => h.nb e.symm) (fun e => h.nm e.symm) (fun g e e' => h.nG g e'.symm e)
  obtain ⟨l1, l2, l3⟩ := h.two.sr.lt
  -- the same witness for the log's block
  refine ⟨he, G0, ⟨⟨h1, ⟨h.one.hi.b, h.one.hi.m, fun g e => ?_⟩, k1.low, fun R hR => ?_⟩, ⟨hsr, h.two.hi, k1.low, fun R hR => ⟨Nat.lt_of_lt_of_le (h.two.out R hR).1 k4, (h.two.out R hR).2⟩⟩, h.nb, h.nm, fun g e e' => ?_⟩, k2, k3, k4⟩
  · rcases h3 g e with e' | e'
    · exact h.one.hi.G g e'
    · have := h.one.le; omega
  · obtain ⟨o1, o2, o3, o4⟩ := h.one.out R hR
    refine ⟨Nat.lt_of_lt_of_le o1 k4, o2, o3, fun g e => ?_⟩
    rcases h3 g e with e' | e'
    · exact o4 g e'
    · omega
  · rcases h3 g e with k | k
    · exact h.nG g k e'
    · have := l3 g e'; omega
end

set_option maxRecDepth 100000 in
set_option maxHeartbeats 4000000 in
theorem replay_c (A : Option Addr) (n c : Nat) (L : List Rc) (w : World) (h : KR w A n c L) (hr : ∀ r ∈ L, RcOk r) (hn : n ≤ 4000) :
    Calls Try.prog 21 #[.slice A n c] w (RpPost w L) := by
  have hlen := Lib.hid h.len
  go_enter Try.func21, Try.ntmps21
  go_wp2_with fail
  (with_reducible refine (new_c w).mono ?_)
  rintro e w1 ⟨b, m, rfl, h1, h2, h3⟩
  have hst : ST w.heap.size w w1 (fun _ => False) b m none si0 [] := ⟨h1, h3, h2, fun R hR => hR.elim⟩
  clear h1 h2 h3
  go_wp2_with fail
  go_loopw [12] (fun i wr => ∃ (j : Nat) (G : Option Nat), j ≤ n ∧ i = .int .i64 j ∧ allOk si0 (L.take j) ∧ ST w.heap.size w wr (fun _ => False) b m G (plays si0 (L.take j)) (L.take j)) (fun i _ => n - (intOf i).toNat)
  case atStart => exact ⟨0, none, by omega, rfl, by rw [List.take_zero]; unfold allOk; trivial, by rw [List.take_zero]; exact hst⟩
  case round =>
    clear hst
    obtain ⟨j, G, hj, rfl, hall, hst⟩ := hrel
    by_cases hlt : j < n
    · have hlt1 : (j : Int) < (n : Int) := by omega
      have hjl : j < L.length := by rw [hlen.out]; exact hlt
      obtain ⟨g, off, rfl, d0, d1, d2, d3⟩ := (h.on hst.low).at4 hlt
      have hpl := Lib.hid (plays_take hjl)
      have htk := Lib.hid (tkR_take hjl)
      have hsn := Lib.hid (allOk_snoc si0 (L.take j) (tkR L j))
      have hno := Lib.hid (fun hn : ¬ allOk si0 (L.take (j + 1)) => fun k : allOk si0 L => hn (allOk_pre si0 _ (L.drop (j + 1)) (by rw [List.take_append_drop]; exact k)))
      have hok := hr _ (tkR_mem hjl)
      have hjl2 : (L.take j).length ≤ 4000 := by rw [List.length_take]; omega
      have Hall := Lib.hid hall
      clear hall
      generalize tkR L j = x at *
      obtain ⟨V, hV⟩ : ∃ V, wr.alloc (.cells (kcs x) 35) = V := ⟨_, rfl⟩
      have rV : CB V wr.heap.size 35 (kcs x) := by rw [← hV]; exact CB.new _ _ _
      have sV := hst.onw (W' := V) (by rw [← hV]; exact belA _ _)
      have HV := Lib.hid hV
      have hdo := do_c b m G _ _ x V sV.sr hok (by omega)
      obtain ⟨r0, r1, r2, r3⟩ := rec_cells rV
      generalize plays si0 (L.take j) = S at *
      generalize L.take j = K at *
      clear hV hst rV
      go_upto_region 5 with fail
      rw [HV.out]
      go_wp2_with fail
      (with_reducible refine hdo.mono ?_)
      intro e w2 hp
      obtain ⟨rfl, G', ht, _⟩ := sV.done hp (Nat.le_refl _)
      clear hp hdo d0 d1 d2 d3 r0 r1 r2 r3 sV
      by_cases he : eDo S x = 0
      · have he1 : (eDo S x != 0) = false := by simp [he]
        rw [if_pos he, ← htk.out, ← hpl.out] at ht
        have Hal := Lib.hid (show allOk si0 (L.take (j + 1)) by rw [htk.out]; exact hsn.out.2 ⟨Hall.out, he⟩)
        have Ht := Lib.hid ht
        clear he ht
        go_wp2_with fail
        go_roundw
        case rel => exact ⟨j + 1, G', by omega, by go_num, Hal.out, Ht.out⟩
        case measure => simp [intOf]; omega
      · have he1 : (eDo S x != 0) = true := by simp [he]
        have Hno := Lib.hid (hno.out (by rw [htk.out]; exact fun k => he (hsn.out.1 k).2))
        have Hl := Lib.hid ht.low
        clear he ht
        go_wp2_with fail
        go_ret2
        exact .inr ⟨Hno.out, rfl, Hl.out⟩
    · obtain rfl : j = n := by omega
      have hlt1 : ¬ (j : Int) < (j : Int) := by omega
      rw [take_allR hlen.out] at hall hst
      have Hall := Lib.hid hall
      have Hst := Lib.hid hst
      clear hall hst
      go_wp2_with fail
      go_ret2
      exact .inl ⟨Hall.out, b, m, G, rfl, Hst.out⟩
end Go.Proofs.Ytealcccjnmfkcaa
