/-
  The small functions of package wheel that make slices: copyOf, clone, without, insert, firedBy. Condition: the timers can be read, a hundred thousand at most.
-/
import Derived.Test.YtgpmgghjcocfmaaWhB
set_option linter.unusedVariables false
set_option linter.unusedSimpArgs false
namespace Go.Proofs.Ytgpmgghjcocfmaa
open Go.RowKit

theorem cell_two_at (w : World) (t : TypeId) (u v : Value) (k : Nat) (hk : k = w.heap.size) : ∀ (j : Nat) (x : Value), [u, v][j]? = some x → (w.alloc (.cells #[u, v] t)).cell? ((⟨k, 0, none⟩ : Addr).add j) = some x := by
  subst hk
  exact cell_two_new w t u v
theorem cell_one_at (w : World) (t : TypeId) (u : Value) (k : Nat) (hk : k = w.heap.size) : ∀ (j : Nat) (x : Value), [u][j]? = some x → (w.alloc (.cells #[u] t)).cell? ((⟨k, 0, none⟩ : Addr).add j) = some x := by
  subst hk
  intro j x hj
  match j, hj with
  | 0, hj => simp at hj; subst hj; exact (CB.new w t #[u]).cell 0

/-- A walk stays where it is. -/
def Stay (p : Prop) : Prop := p
theorem Stay.mk {p : Prop} (h : Stay p) : p := h
theorem Stay.open_ {p : Prop} (h : p) : Stay p := h
theorem Seg.apart {w : World} {e e' : TypeId} {size size' : Nat} {A A' : Option Addr} {n c n' c' : Nat} {xs xs' : List Value} {G G' : Option Nat} (h : Seg w e size A n c xs G) (h' : Seg w e' size' A' n' c' xs' G') (hne : e ≠ e') : ∀ g, G = some g → some g ≠ G' := by
  intro g hg hg'
  rcases h'.2.2.2 with ⟨_, _, h0⟩ | ⟨g', off, cur, _, h2, h3, _⟩
  · rw [h0] at hg'; cases hg'
  · rw [h2] at hg'
    cases hg'
    exact h.ne_ h3 hne hg
/-- A slice that a loop makes: it lies in a block that is new since w. -/
structure OS (w : World) (T : TypeId) (size : Nat) (xs : List Value) (v : Value) (W : World) : Prop where
  out : ∃ A m c G, v = .slice A m c ∧ Seg W T size A m c xs G ∧ ∀ g, G = some g → w.heap.size ≤ g
  low : Below w.heap.size w W
theorem OS.start (w : World) (T : TypeId) (size : Nat) {W : World} (h : Below w.heap.size w W) : OS w T size [] (.slice none 0 0) W := ⟨⟨none, 0, 0, none, rfl, Seg.nil _ _ _, fun _ h => by cases h⟩, h⟩
theorem OS.app {w : World} {T : TypeId} {size : Nat} {W' : World} (hl : Below w.heap.size w W') {G : Option Nat} (hG : ∀ g, G = some g → w.heap.size ≤ g) {ys : List Value}
    {A1 : Option Addr} {N c1 : Nat} {G1 : Option Nat} {w1 : World} (n1 : Seg w1 T size A1 N c1 ys G1) (n2 : W'.grownBy w1 G) (n3 : Moved W' G G1) : OS w T size ys (.slice A1 N c1) w1 :=
  ⟨⟨A1, N, c1, G1, rfl, n1, n3.ge hl.size hG⟩, hl.grown n2 hl.size hG⟩
theorem OS.on {w : World} {T : TypeId} {size : Nat} {xs : List Value} {v : Value} {W W' : World} (h : OS w T size xs v W) (hb : Below W.heap.size W W') : OS w T size xs v W' := by
  obtain ⟨⟨A, m, c, G, h1, h2, h3⟩, h4⟩ := h
  exact ⟨⟨A, m, c, G, h1, h2.keep fun g hg => hb.block g (h2.lt g hg), h3⟩, bel2 h4 hb⟩

/-- A call gave timers of its own back. -/
def SPost (w : World) (L : List (Int × Int)) (e : Ending) (w' : World) : Prop :=
  ∃ A n c, e = .returned (.slice A n c) ∧ TS w' 66 A n c L ∧ Below w.heap.size w w'
theorem SPost.of_os {w : World} {L : List (Int × Int)} {v : Value} {W : World} (h : OS w 66 2 (tc L) v W) (hw : wfL L) : SPost w L (.returned v) W := by
  obtain ⟨⟨A, m, c, G, h1, h2, h3⟩, h4⟩ := h
  exact ⟨A, m, c, by rw [h1], ⟨hw, G, h2⟩, h4⟩

/-- The same, in a block that is new since w. -/
def SPostF (w : World) (L : List (Int × Int)) (e : Ending) (w' : World) : Prop :=
  ∃ A n c G, e = .returned (.slice A n c) ∧ Seg w' 66 2 A n c (tc L) G ∧ wfL L ∧ (∀ g, G = some g → w.heap.size ≤ g) ∧ Below w.heap.size w w'
theorem SPostF.of_os {w : World} {L : List (Int × Int)} {v : Value} {W : World} (h : OS w 66 2 (tc L) v W) (hw : wfL L) : SPostF w L (.returned v) W := by
  obtain ⟨⟨A, m, c, G, h1, h2, h3⟩, h4⟩ := h
  exact ⟨A, m, c, G, by rw [h1], h2, hw, h3, h4⟩
theorem SPostF.toS {w : World} {L : List (Int × Int)} {e : Ending} {w' : World} (h : SPostF w L e w') : SPost w L e w' := by
  obtain ⟨A, n, c, G, h1, h2, h3, h4, h5⟩ := h
  exact ⟨A, n, c, h1, ⟨h3, G, h2⟩, h5⟩

set_option maxHeartbeats 400000 in
theorem copy_c (A : Option Addr) (n c : Nat) (L : List (Int × Int)) (w : World) (h : TR w A n c L) (hn : n ≤ 100000) :
    Calls Try.prog 30 #[.slice A n c] w (SPost w L) := by
  obtain ⟨i0, hi0, hz0, hz1, hz2⟩ := info_parts Try.infoW
  have p1 : 0 + n ≤ maxLen := by simp only [maxLen]; omega
  have p2 : (0 + n) * 16 ≤ 140737488355328 := by omega
  have p02 : 0 < 2 := by omega
  have hsrc := h.src
  have hwf := Lib.hid h.wf
  have hz := Nat.zero_add n
  clear h
  go_enter Try.func30, Try.ntmps30
  go_wp2_with (at_builtin; refine wpList_append_src _ rfl (.const (.slice none 0 0)) (.tmp 3) _ rfl 66 i0 _ 2 16 Try.underlying26 hi0 hz0 hz1 hz2 rfl p02 rfl (Seg.nil w _ _) rfl hsrc (tc_one _) p1 p2 n hz ?_; intro A1 c1 G1 w1 hs1 hg1 hm1)
  rw [List.nil_append] at hs1
  have H := Lib.hid (OS.app (w := w) (Below.refl _ _) (fun g e => by cases e) hs1 hg1 hm1)
  clear hs1 hg1 hm1 hsrc
  go_wp2_with fail
  go_ret
  exact SPost.of_os H.out hwf.out

/-- A call gave a wheel back, with timers of its own. -/
def DPost (w : World) (T T' : TypeId) (now : Int) (L : List (Int × Int)) (e : Ending) (w' : World) : Prop :=
  ∃ A n c, e = .returned (.agg #[.int .i64 now, .slice A n c]) ∧ TS w' T' A n c L ∧ Below w.heap.size w w'

set_option maxRecDepth 100000 in
set_option maxHeartbeats 1000000 in
theorem clone_c (now : Int) (A : Option Addr) (n c : Nat) (L : List (Int × Int)) (w : World) (h : TR w A n c L) (hn : n ≤ 100000) :
    Calls Try.prog 24 #[.agg #[.int .i64 now, .slice A n c]] w (DPost w 28 66 now L) := by
  obtain ⟨W, hW, ha, hbox, hbl, hS⟩ := two_boxes w 28 28 now A n c
  have hbW := h.on hbl
  go_enter Try.func24, Try.ntmps24
  go_wp2_with fail
  rw [← hW]
  clear hW
  go_region_held3 (fun W' => W'.cell? ⟨w.heap.size, 0, none⟩ = some (.int .i64 now) ∧ W'.cell? ⟨w.heap.size, 1, none⟩ = some (.slice A n c)) (first | exact ha.cells | exact y1.cells | exact (y1.far2 (by omega) _ _).cells) (first
    | (go_at_call 30; refine (copy_c A n c L W.drew hbW.drew hn).mono ?_; rintro e w1 ⟨A1, n1, c1, rfl, hx1, hb1⟩; have y1 := ha.drew.on hb1 ha.lt; have y2 := hbox.drew.on hb1 hbox.lt; obtain ⟨z0, z1⟩ := y2.cells; obtain ⟨f0, f1⟩ := y2.froz))
  obtain ⟨w2, hw2, b2, _, _, kb, _, kt, _, _⟩ := store_end y2 now A1 n1 c1
  have hx2 := kt _ _ _ _ _ (by decide) hx1
  have hb2 := kb _ _ (bel2 hbl (below_drew hb1)) (show w.heap.size ≤ w.heap.size + 1 by omega)
  obtain ⟨v0, v1⟩ := b2.cells
  rw [hw2]
  clear hw2 kb kt
  go_wp2_with fail
  exact bodyPost_ret (v := .agg #[.int .i64 now, .slice A1 n1 c1]) (by simp [results, Try.results24, go_sem, v0, v1]) rfl ⟨A1, n1, c1, rfl, hx2, hb2⟩

theorem del_skip {M : List (Int × Int)} {x y k : Int} (h : x = k) : delL (M ++ [(x, y)]) k = delL M k := by simp [delL, h]
theorem del_take {M : List (Int × Int)} {x y k : Int} (h : x ≠ k) : delL (M ++ [(x, y)]) k = delL M k ++ [(x, y)] := by simp [delL, h]
theorem tc_len2 {w : World} {T : TypeId} {A : Option Addr} {m c : Nat} {M : List (Int × Int)} {G : Option Nat} (h : Seg w T 2 A m c (tc M) G) : M.length = m := by
  have := h.1
  rw [tc_length] at this
  omega

set_option maxRecDepth 100000 in
set_option maxHeartbeats 1000000 in
theorem without_f (A : Option Addr) (n c : Nat) (id : Int) (L : List (Int × Int)) (w : World) (h : TR w A n c L) (hn : n ≤ 100000) :
    Calls Try.prog 25 #[.slice A n c, .int .i64 id] w (SPostF w (delL L id)) := by
  have hlen := Lib.hid h.len
  obtain ⟨i0, hi0, hz0, hz1, hz2⟩ := info_parts Try.infoW
  go_enter Try.func25, Try.ntmps25
  go_wp2_with fail
  go_loopw [5, 10] (fun v i wr => ∃ j : Nat, j ≤ n ∧ i = .int .i64 j ∧ OS w 66 2 (tc (delL (L.take j) id)) v wr) (fun _ i _ => n - (intOf i).toNat)
  case atStart => exact ⟨0, by omega, rfl, OS.start w _ _ (Below.refl _ _)⟩
  case round =>
    obtain ⟨j, hj, rfl, hos⟩ := hrel
    by_cases hlt : j < n
    · obtain ⟨g, off, rfl, _, d1, d2⟩ := (h.on hos.low).at_ hlt
      have htk := Lib.hid (tk_take (L := L) (j := j) (by rw [hlen.out]; exact hlt))
      have hlow := hos.low.alloc hos.low.size (.cells #[.int .i64 (tk L j).1, .int .i64 (tk L j).2] 66)
      have hml := Lib.hid (show (delL (L.take j) id).length ≤ j by have := length_del_le (L.take j) id; rw [List.length_take] at this; omega)
      obtain ⟨A0, m, c0, G, rfl, hsg, hG⟩ := hos.out
      have hm := hml.out
      rw [tc_len2 hsg] at hm
      generalize tk L j = x at *
      obtain ⟨xk, xv⟩ := x
      simp only at d1 d2 hlow
      by_cases hxk : xk = id
      · have Hnx := Lib.hid (show delL (L.take (j + 1)) id = delL (L.take j) id by rw [htk.out]; exact del_skip hxk)
        have hne : (xk != id) = false := by simp [hxk]
        have hnos := Lib.hid (hos.on ((Below.refl _ _).alloc (Nat.le_refl _) (.cells #[.int .i64 xk, .int .i64 xv] 66)))
        clear hxk hlow hsg hos hG
        go_wp2_with fail
        go_roundw
        case rel => exact ⟨j + 1, by omega, by go_num, by rw [Hnx.out]; exact hnos.out⟩
        case measure => simp [intOf]; omega
      · have Hnx := Lib.hid (show delL (L.take (j + 1)) id = delL (L.take j) id ++ [(xk, xv)] by rw [htk.out]; exact del_take hxk)
        have hne : (xk != id) = true := by simp [hxk]
        have p0 : 0 < 1 := by omega
        have p02 : 0 < 2 := by omega
        have p3 : m + 1 ≤ maxLen := by simp only [maxLen]; omega
        have p4 : (m + 1) * 16 ≤ 140737488355328 := by omega
        have hlow2 := Lib.hid (hlow.alloc hlow.size (.cells #[.int .i64 xk, .int .i64 xv] 66))
        clear hxk hlow hos hml
        generalize delL (L.take j) id = M at *
        go_wp2_with (at_builtin; refine wpList_append_seg _ rfl (.tmp 18) (.tmp 20) _ rfl 66 i0 _ 2 16 Try.underlying26 hi0 hz0 hz1 hz2 rfl p02 rfl ((hsg.alloc _).alloc _) ⟨wr.heap.size + 1, 0, none⟩ 1 1 [.int .i64 xk, .int .i64 xv] rfl rfl (cell_two_at _ _ _ _ _ (by simp)) (two_one _ _) p0 p3 p4 ?_; intro A1 c1 G1 w1 n1 m1 r1)
        rw [tc_snoc] at n1
        have hnext := Lib.hid (OS.app hlow2.out hG n1 m1 r1)
        clear hsg n1 m1 r1 d1 d2 hlow2
        go_wp2_with fail
        go_roundw
        case rel => exact ⟨j + 1, by omega, by go_num, by rw [Hnx.out]; exact hnext.out⟩
        case measure => simp [intOf]; omega
    · obtain rfl : j = n := by omega
      rw [List.take_of_length_le (by rw [hlen.out]; exact Nat.le_refl _)] at hos
      have Hos := Lib.hid hos
      obtain ⟨A0, m, c0, G, rfl, hsg, hG⟩ := hos.out
      have hwf := Lib.hid h.wf
      clear hos hsg h
      go_wp2_with fail
      go_ret
      exact SPostF.of_os Hos.out (hwf.out.sub (del_sub L id))
theorem without_w (A : Option Addr) (n c : Nat) (id : Int) (L : List (Int × Int)) (w : World) (h : TR w A n c L) (hn : n ≤ 100000) :
    Calls Try.prog 25 #[.slice A n c, .int .i64 id] w (SPost w (delL L id)) := (without_f A n c id L w h hn).mono fun _ _ h => h.toS

/-- A store into a slice, cell by cell. -/
theorem Seg.slot {w : World} {e : TypeId} {size : Nat} {A : Option Addr} {n c : Nat} {xs : List Value} {G : Option Nat} (h : Seg w e size A n c xs G) (k : Nat) (hk : k < n * size) :
    ∃ g off, A = some ⟨g, off, none⟩ ∧ G = some g ∧ w.frozen? ⟨g, off + k, none⟩ = false ∧ (∀ u, xs[k]? = some u → w.cell? ⟨g, off + k, none⟩ = some u) ∧ ∀ v, Seg (w.setCell ⟨g, off + k, none⟩ v) e size A n c (xs.set k v) G := by
  have hl := h.1
  have hnc := h.2.1
  have hm : n * size ≤ c * size := Nat.mul_le_mul_right _ hnc
  rcases h.2.2.2 with ⟨_, h0, _⟩ | ⟨g, off, cur, rfl, rfl, h3, h4, h5⟩
  · subst h0; simp at hm; omega
  · refine ⟨g, off, rfl, rfl, h3.frozen _, fun u hu => by rw [h3.cell]; exact h5 k u hu, fun v => ⟨by rw [List.length_set]; exact hl, hnc, h.2.2.1, .inr ⟨g, off, _, rfl, rfl, h3.put (off + k) v, by rw [Array.size_setIfInBounds]; exact h4, fun j u hu => ?_⟩⟩⟩
    rw [Array.getElem?_setIfInBounds]
    by_cases hj : k = j
    · subst hj
      rw [List.getElem?_set_self (by omega)] at hu
      rw [if_pos rfl, if_pos (by omega)]
      exact hu
    · rw [List.getElem?_set_ne hj] at hu
      rw [if_neg (by omega)]
      exact h5 j u hu
theorem set_four (u0 u1 v0 v1 : Value) (b : List Value) : ∀ (a : List Value) (k : Nat), a.length = k → ((((a ++ u0 :: u1 :: v0 :: v1 :: b).set k v0).set (k + 1) v1).set (k + 2) u0).set (k + 3) u1 = a ++ v0 :: v1 :: u0 :: u1 :: b
  | [], _, rfl => rfl
  | x :: a, _, rfl => by
    have := set_four u0 u1 v0 v1 b a a.length rfl
    simp only [List.cons_append, List.length_cons]
    rw [show a.length + 1 + 1 = (a.length + 1) + 1 from rfl, show a.length + 1 + 2 = (a.length + 2) + 1 from rfl, show a.length + 1 + 3 = (a.length + 3) + 1 from rfl]
    simp only [List.set_cons_succ]
    rw [this]
theorem tc_mid (P Q : List (Int × Int)) (x y : Int × Int) : tc (P ++ x :: y :: Q) = tc P ++ .int .i64 x.1 :: .int .i64 x.2 :: .int .i64 y.1 :: .int .i64 y.2 :: tc Q := by rw [tc_append]; rfl

abbrev put4 (W : World) (g k : Nat) (a b c d : Value) : World := (((W.setCell ⟨g, k, none⟩ a).setCell ⟨g, k + 1, none⟩ b).setCell ⟨g, k + 2, none⟩ c).setCell ⟨g, k + 3, none⟩ d

set_option maxHeartbeats 1000000 in
/-- Two timers side by side change places. -/
theorem Seg.swap {w : World} {e : TypeId} {A : Option Addr} {n c : Nat} {P Q : List (Int × Int)} {x y : Int × Int} {G : Option Nat} (h : Seg w e 2 A n c (tc (P ++ x :: y :: Q)) G) {i : Nat} (hi : P.length = i) :
    ∃ g off, A = some ⟨g, off, none⟩ ∧ G = some g ∧ i + 1 < n ∧ (w.cell? ⟨g, off + i * 2, none⟩ = some (.int .i64 x.1) ∧ w.cell? ⟨g, off + i * 2 + 1, none⟩ = some (.int .i64 x.2) ∧ w.cell? ⟨g, off + (i + 1) * 2, none⟩ = some (.int .i64 y.1) ∧ w.cell? ⟨g, off + (i + 1) * 2 + 1, none⟩ = some (.int .i64 y.2)) ∧
      (∀ W, (∃ t cs, CB W g t cs) → ∀ k, W.frozen? ⟨g, k, none⟩ = false) ∧ (∃ cs, CB w g e cs) ∧
      Seg (put4 w g (off + i * 2) (.int .i64 y.1) (.int .i64 y.2) (.int .i64 x.1) (.int .i64 x.2)) e 2 A n c (tc (P ++ y :: x :: Q)) G := by
  have hl := tc_len2 h
  simp only [List.length_append, List.length_cons] at hl
  have e2 : tc (P ++ x :: y :: Q) = tc P ++ .int .i64 x.1 :: .int .i64 x.2 :: .int .i64 y.1 :: .int .i64 y.2 :: tc Q := tc_mid P Q x y
  have hpl : (tc P).length = i * 2 := by rw [tc_length, hi]
  have hg0 : (tc (P ++ x :: y :: Q))[i * 2]? = some (.int .i64 x.1) := by rw [e2, ← hpl, List.getElem?_append_right (Nat.le_refl _)]; simp
  have hg1 : (tc (P ++ x :: y :: Q))[i * 2 + 1]? = some (.int .i64 x.2) := by rw [e2, ← hpl, List.getElem?_append_right (by omega)]; simp
  have hg2 : (tc (P ++ x :: y :: Q))[i * 2 + 2]? = some (.int .i64 y.1) := by rw [e2, ← hpl, List.getElem?_append_right (by omega)]; simp
  have hg3 : (tc (P ++ x :: y :: Q))[i * 2 + 3]? = some (.int .i64 y.2) := by rw [e2, ← hpl, List.getElem?_append_right (by omega)]; simp
  have hcb : ∃ g cs, G = some g ∧ CB w g e cs := by
    rcases h.2.2.2 with ⟨_, h0, _⟩ | ⟨g, off, cur, _, h2, h3, _⟩
    · have := h.2.1; omega
    · exact ⟨g, cur, h2, h3⟩
  obtain ⟨gg, cs, hgg, hcs⟩ := hcb
  obtain ⟨g, off, rfl, rfl, f0, c0, s0⟩ := h.slot (i * 2) (by omega)
  obtain ⟨g1, off1, ea, _, f1, c1, s1⟩ := (s0 (.int .i64 y.1)).slot (i * 2 + 1) (by omega)
  cases ea
  obtain ⟨g2, off2, ea, _, f2, c2, s2⟩ := (s1 (.int .i64 y.2)).slot (i * 2 + 2) (by omega)
  cases ea
  obtain ⟨g3, off3, ea, _, f3, c3, s3⟩ := (s2 (.int .i64 x.1)).slot (i * 2 + 3) (by omega)
  cases ea
  have s4 := s3 (.int .i64 x.2)
  rw [e2, set_four _ _ _ _ _ _ _ hpl, ← tc_mid] at s4
  obtain ⟨_, _, ea, _, _, k1, _⟩ := h.slot (i * 2 + 1) (by omega)
  cases ea
  obtain ⟨_, _, ea, _, _, k2, _⟩ := h.slot (i * 2 + 2) (by omega)
  cases ea
  obtain ⟨_, _, ea, _, _, k3, _⟩ := h.slot (i * 2 + 3) (by omega)
  cases ea
  have hcs' : CB w g e cs := by cases hgg; exact hcs
  refine ⟨g, off, rfl, rfl, by omega, ⟨c0 _ hg0, k1 _ hg1, ?_, ?_⟩, fun W ⟨t, cs, hc⟩ k => hc.frozen k, ⟨cs, hcs'⟩, s4⟩
  · rw [show off + (i + 1) * 2 = off + (i * 2 + 2) by omega]; exact k2 _ hg2
  · rw [show off + (i + 1) * 2 + 1 = off + (i * 2 + 3) by omega]; exact k3 _ hg3
theorem grown_put {w w1 : World} {g : Nat} {G : Option Nat} (h : w.grownBy w1 G) (hg : G = some g ∨ w.heap.size ≤ g) (i : Nat) (u : Value) : w.grownBy (w1.setCell ⟨g, i, none⟩ u) G :=
  ⟨h.os, h.tape, h.output, by simpa [World.setCell] using h.size, fun j hj hne => (Below.heap_setCell w1 ⟨g, i, none⟩ u j (fun e => by
    simp only at e
    subst e
    rcases hg with rfl | hg
    · exact hne rfl
    · omega)).trans (h.block j hj hne)⟩

/-- A call put a timer among those of block G. -/
def InsPost (w : World) (G : Option Nat) (L : List (Int × Int)) (e : Ending) (w' : World) : Prop :=
  ∃ A n c G', e = .returned (.slice A n c) ∧ Seg w' 66 2 A n c (tc L) G' ∧ w.grownBy w' G
end Go.Proofs.Ytgpmgghjcocfmaa
