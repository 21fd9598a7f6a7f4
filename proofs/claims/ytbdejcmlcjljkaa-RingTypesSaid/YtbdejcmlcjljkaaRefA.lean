/-
  The document's answers for layer 1 (package waystationref01): what Right, At, Drop and Push return, and what they leave in memory. Conditions: the slice reads as the predicate Seg says.
-/
import Derived.Test.YtbdejcmlcjljkaaRingC
import Derived.Test.YtbdejcmlcjljkaaMemC
namespace Go.Proofs.Ytbdejcmlcjljkaa
open Go.RowKit

theorem right_any (room : Int) (w : World) :
    Calls Try.prog 11 #[.int .i64 room] w fun e w' => e = .returned (.bool (decide (1 ≤ room) && decide (room ≤ 10000))) ∧ w = w' := by
  by_cases h1 : 1 ≤ room
  · by_cases h2 : room ≤ 10000
    all_goals
      go_enter Try.func11, Try.ntmps11
      go_wp2
      go_ret
      exact ⟨by simp [h1, h2], rfl⟩
  · have hd : decide (1 ≤ room) = false := by simpa using h1
    go_enter Try.func11, Try.ntmps11
    go_wp2
    go_ret
    exact ⟨by simp, rfl⟩

theorem refAt_ok (A : Option Addr) (c : Nat) (ys : List Int) (G : Option Nat) (i : Nat) (y : Int) (w : World) (hs : Seg w 2 1 A ys.length c (ys.map (.int .i64)) G) (hy : ys[i]? = some y) :
    Calls Try.prog 13 #[.slice A ys.length c, .int .i64 i] w fun e w' => e = .returned (.tuple #[.int .i64 y, .int .i64 0]) ∧ w = w' := by
  have hi : i < ys.length := (List.getElem?_eq_some_iff.1 hy).1
  have hi' : (i : Int) < (ys.length : Int) := by omega
  obtain ⟨g, off, rfl, rfl, hc⟩ := hs.at_ (j := i) (u := .int .i64 y) (by simp [hy])
  clear hy hs
  go_enter Try.func13, Try.ntmps13
  go_wp2
  go_ret2
  exact ⟨rfl, rfl⟩

theorem refAt_no (A : Option Addr) (c : Nat) (n : Nat) (i : Int) (w : World) (hi : i < 0 ∨ n ≤ i) :
    Calls Try.prog 13 #[.slice A n c, .int .i64 i] w fun e w' => e = .returned (.tuple #[.int .i64 0, .int .i64 7]) ∧ w = w' := by
  rcases hi with hi | hi
  · go_enter Try.func13, Try.ntmps13
    go_wp2
    go_ret2
    exact ⟨rfl, rfl⟩
  · have h2 : ¬ i < 0 := by omega
    go_enter Try.func13, Try.ntmps13
    go_wp2
    go_ret2
    exact ⟨rfl, rfl⟩

theorem refDrop_no (A : Option Addr) (c : Nat) (n : Nat) (i : Int) (w : World) (hi : i < 0 ∨ n ≤ i) :
    Calls Try.prog 14 #[.slice A n c, .int .i64 i] w fun e w' => e = .returned (.tuple #[.slice A n c, .int .i64 7]) ∧ w = w' := by
  rcases hi with hi | hi
  · go_enter Try.func14, Try.ntmps14
    go_wp2
    go_ret2
    exact ⟨rfl, rfl⟩
  · have h2 : ¬ i < 0 := by omega
    go_enter Try.func14, Try.ntmps14
    go_wp2
    go_ret2
    exact ⟨rfl, rfl⟩

/-- A slice that lies in blocks from s on. -/
def SegNew (w : World) (s : Nat) (v : Value) (ys : List Int) : Prop :=
  ∃ A c G, v = .slice A ys.length c ∧ Seg w 2 1 A ys.length c (ys.map (.int .i64)) G ∧ ∀ g, G = some g → s ≤ g

theorem refPush_full (A : Option Addr) (c : Nat) (n : Nat) (room x : Int) (w : World) (h : room ≤ n) :
    Calls Try.prog 17 #[.slice A n c, .int .i64 room, .int .i64 x] w fun e w' => e = .returned (.tuple #[.slice A n c, .int .i64 6]) ∧ w = w' := by
  go_enter Try.func17, Try.ntmps17
  go_wp2
  go_ret2
  exact ⟨rfl, rfl⟩

theorem Seg.src {w : World} {A : Option Addr} {n c : Nat} {xs : List Value} {G : Option Nat} {e : TypeId} (h : Seg w e 1 A n c xs G) : Src w 1 A n xs := by
  refine ⟨h.1, fun h0 => ?_⟩
  rcases h.2.2.2 with ⟨_, h1, _⟩ | ⟨g, off, cur, h1, _, h3, _, h4⟩
  · have := h.2.1
    omega
  · exact ⟨_, h1, fun j u hu => by rw [Addr.add_lit, h3.cell]; exact h4 j u hu⟩

/-- The append of any slice as one step of a walk. -/
theorem wpList_append_src {P : Program} (w : World) {ops : Array Oper} {rest : List Oper} {o : Oper} {a : Act} {Q : Exit → Act → World → Prop} (hgd : o.guard = none) (s x : Operand) (t : TypeId)
    (ho : o.op = .call { callee := .builtin .append, args := #[s, x], argTypes := #[t, t] })
    (e : TypeId) (i : TypeInfo) (z : Value) (size bytes : Nat) (ht : P.underlying t = some (.slice e)) (hi : P.info? e = some i) (hz : i.zero = some z)
    (hsize : i.size = size) (hby : i.bytes = bytes) (hzs : z.cells.size = size) (hsz : 0 < size)
    {A : Option Addr} {n c : Nat} {xs : List Value} {G : Option Nat} (hs : a.eval s = .slice A n c) (h : Seg w e size A n c xs G)
    {As : Option Addr} {m k : Nat} {news : List Value} (hx : a.eval x = .slice As m k) (hsrc : Src w size As m news) (h1 : ∀ u ∈ news, u.oneCell' = true)
    (h63 : n + m ≤ maxLen) (hbytes : (n + m) * bytes ≤ 140737488355328) (N : Nat) (hN : n + m = N)
    (hK : ∀ A' c' G' w', Seg w' e size A' N c' (xs ++ news) G' → w.grownBy w' G → Moved w G G' → wpList P ops Q rest (a.put o.dst (.slice A' N c')) w') : wpList P ops Q (o :: rest) a w := by
  subst hN
  obtain ⟨A', c', G', w', hrun, h2, h3, h4⟩ := run_append_src (P := P) w t o.type e i z size bytes ht hi hz hsize hby hzs hsz h k hsrc h1 h63 hbytes
  refine wpList_plain hgd fun K hK' => ?_
  unfold Oper.wp
  simp [execOp, ho, resolve, invoke, builtin, hs, hx, hrun, Result.andThen]
  exact hK' _ _ (hK A' c' G' w' h2 h3 h4)

theorem ints_oneCell1 (xs : List Int) : ∀ u ∈ xs.map (Value.int .i64), u.oneCell' = true := by
  intro u hu
  obtain ⟨x, _, rfl⟩ := List.mem_map.1 hu
  rfl

theorem Seg.empty (w : World) (e : TypeId) (size : Nat) : Seg (w.alloc (.cells #[] e)) e size (some ⟨w.heap.size, 0, none⟩) 0 0 [] (some w.heap.size) :=
  ⟨by simp, Nat.le_refl _, Nat.zero_le _, .inr ⟨w.heap.size, 0, #[], rfl, rfl, CB.new _ _ _, by simp, fun j u hu => by simp at hu⟩⟩

set_option maxHeartbeats 400000 in
theorem refPush_ok (A : Option Addr) (c : Nat) (ys : List Int) (G : Option Nat) (room x : Int) (w : World) (hs : Seg w 2 1 A ys.length c (ys.map (.int .i64)) G) (h : (ys.length : Int) < room) (hm : ys.length ≤ 10000) :
    Calls Try.prog 17 #[.slice A ys.length c, .int .i64 room, .int .i64 x] w fun e w' => ∃ v, e = .returned (.tuple #[v, .int .i64 0]) ∧ SegNew w' w.heap.size v (ys ++ [x]) ∧ Below w.heap.size w w' := by
  obtain ⟨i0, hi0, hz0, hz1, hz2⟩ := info_parts Try.infoE
  have p0 : 0 < 1 := by omega
  have p1 : 0 + ys.length ≤ maxLen := by simp only [maxLen]; omega
  have p2 : (0 + ys.length) * 8 ≤ 140737488355328 := by omega
  have p3 : ys.length + 1 ≤ maxLen := by simp only [maxLen]; omega
  have p4 : (ys.length + 1) * 8 ≤ 140737488355328 := by omega
  have P5 : Hid (0 + ys.length = ys.length) := Nat.zero_add _
  have hd : decide (room ≤ (ys.length : Int)) = false := by simp; omega
  have s0 := (hs.alloc (.cells #[] 2)).src
  have e0 := Seg.empty w 2 1
  go_enter Try.func17, Try.ntmps17
  go_wp2_with (first
    | (at_builtin; refine wpList_append_src _ rfl (.tmp 14) (.tmp 15) _ rfl 2 i0 _ 1 8 Try.underlying27 hi0 hz0 hz1 hz2 rfl p0 rfl e0 rfl s0 (ints_oneCell1 _) p1 p2 ys.length P5.out ?_; intro A1 c1 G1 w1 hs1 hg1 hm1)
    | (at_builtin; refine wpList_append_seg _ rfl (.tmp 17) (.tmp 19) _ rfl 2 i0 _ 1 8 Try.underlying27 hi0 hz0 hz1 hz2 rfl p0 rfl (hs1.alloc _) ⟨w1.heap.size, 0, none⟩ 1 1 [.int .i64 x] rfl rfl (cell_one_new _ _ _) (by simp [Value.oneCell']) p0 p3 p4 ?_; intro A2 c2 G2 w2 hs2 hg2 hm2))
  go_ret2
  have b1 : Below w.heap.size w w1 := ((Below.refl _ w).alloc (Nat.le_refl _) _).grown hg1 (by simp) (fun g hg => by cases hg; exact Nat.le_refl _)
  have n1 : ∀ g, G1 = some g → w.heap.size ≤ g := by
    intro g hg
    rcases hm1 with e | ⟨g', e, hg'⟩
    · rw [e] at hg
      cases hg
      exact Nat.le_refl _
    · rw [e] at hg
      cases hg
      simp at hg'
      omega
  have b2 : Below w.heap.size w w2 := (b1.alloc b1.size _).grown hg2 (by have := b1.size; simp; omega) n1
  refine ⟨.slice A2 (ys.length + 1) c2, rfl, ⟨A2, c2, G2, by simp, by simpa using hs2, ?_⟩, b2⟩
  intro g hg
  rcases hm2 with e | ⟨g', e, hg'⟩
  · exact n1 g (by rw [← e]; exact hg)
  · rw [e] at hg
    cases hg
    have := b1.size
    simp at hg'
    omega

/-- Behind k rounds of the loop in the document's Drop. -/
def DropI (w : World) (ys : List Int) (q k : Nat) (v : Value) (W : World) : Prop :=
  SegNew W w.heap.size v ((ys.take k).take q ++ (ys.take k).drop (q + 1)) ∧ Below w.heap.size w W

theorem dropI_skip (ys : List Int) (q : Nat) (hq : q < ys.length) : (ys.take (q + 1)).take q ++ (ys.take (q + 1)).drop (q + 1) = (ys.take q).take q ++ (ys.take q).drop (q + 1) := by
  rw [List.drop_eq_nil_of_le (by rw [List.length_take]; omega), List.drop_eq_nil_of_le (by rw [List.length_take]; omega), List.take_take, List.take_take]
  congr 2
  omega
theorem dropI_step {ys : List Int} {k : Nat} {x : Int} (hx : Hid (ys[k]? = some x)) (q : Nat) (hne : k ≠ q) : ((ys.take k).take q ++ (ys.take k).drop (q + 1)) ++ [x] = (ys.take (k + 1)).take q ++ (ys.take (k + 1)).drop (q + 1) := by
  obtain ⟨h2, h3⟩ := List.getElem?_eq_some_iff.1 hx.out
  rw [List.take_succ_eq_append_getElem h2, h3]
  rcases Nat.lt_or_ge k q with hl | hl
  · have a1 : (ys.take k).take q = ys.take k := List.take_of_length_le (by rw [List.length_take]; omega)
    have a2 : (ys.take k).drop (q + 1) = [] := List.drop_eq_nil_of_le (by rw [List.length_take]; omega)
    have a3 : (ys.take k ++ [x]).take q = ys.take k ++ [x] := List.take_of_length_le (by rw [List.length_append, List.length_take]; simp; omega)
    have a4 : (ys.take k ++ [x]).drop (q + 1) = [] := List.drop_eq_nil_of_le (by rw [List.length_append, List.length_take]; simp; omega)
    rw [a1, a2, a3, a4]
    simp
  · rw [List.take_append_of_le_length (by rw [List.length_take]; omega), List.drop_append_of_le_length (by rw [List.length_take]; omega), List.append_assoc]

set_option maxRecDepth 100000 in
set_option maxHeartbeats 400000 in
theorem refDrop_ok (A : Option Addr) (c : Nat) (ys : List Int) (G : Option Nat) (q : Nat) (w : World) (hs : Seg w 2 1 A ys.length c (ys.map (.int .i64)) G) (hq : q < ys.length) (hm : ys.length ≤ 10000) :
    Calls Try.prog 14 #[.slice A ys.length c, .int .i64 q] w fun e w' => ∃ v, e = .returned (.tuple #[v, .int .i64 0]) ∧ SegNew w' w.heap.size v (ys.take q ++ ys.drop (q + 1)) ∧ Below w.heap.size w w' := by
  obtain ⟨i0, hi0, hz0, hz1, hz2⟩ := info_parts Try.infoE
  have p0 : 0 < 1 := by omega
  have hq' : (q : Int) < (ys.length : Int) := by omega
  have hd : decide ((q : Int) < 0) = false := by simp
  have hd2 : decide (ys.length ≤ q) = false := by simp; omega
  go_enter Try.func14, Try.ntmps14
  go_wp2_with fail
  go_loopw [6, 7] (fun v i wr => ∃ k : Nat, k ≤ ys.length ∧ i = .int .i64 k ∧ DropI w ys q k v wr) (fun _ i _ => ys.length - (intOf i).toNat)
  case atStart => exact ⟨0, by omega, rfl, ⟨none, 0, none, by simp, by simpa using Seg.nil w _ _, fun _ hg => by cases hg⟩, Below.refl _ _⟩
  case round =>
    obtain ⟨k, hk, rfl, ⟨A1, c1, G1, rfl, q1, q2⟩, q3⟩ := hrel
    generalize hz : (ys.take k).take q ++ (ys.take k).drop (q + 1) = zs at *
    have Hz := Lib.hid hz
    clear hz
    by_cases hlt : k < ys.length
    · have hx : ys[k]? = some (ys[k]?.getD 0) := by rw [List.getElem?_eq_getElem hlt]; rfl
      generalize ys[k]?.getD 0 = x at hx
      obtain ⟨g, off, rfl, rfl, hc⟩ := (hs.keep (w' := wr) fun g hg => q3.block g (hs.lt g hg)).at_ (j := k) (u := .int .i64 x) (by rw [List.getElem?_map, hx]; rfl)
      have Hx := Lib.hid hx
      clear hx
      by_cases hkq : k = q
      · subst hkq
        have Heq : Hid ((ys.take (k + 1)).take k ++ (ys.take (k + 1)).drop (k + 1) = zs) := (dropI_skip ys k hlt).trans Hz.out
        go_wp2_with fail
        go_roundw
        case rel => exact ⟨k + 1, by omega, by go_num, ⟨A1, c1, G1, by rw [Heq.out], by rw [Heq.out]; exact q1, q2⟩, q3⟩
        case measure => simp [intOf]; omega
      · have hne : ((k : Int) == (q : Int)) = false := by rw [beq_eq_false_iff_ne]; omega
        have hne2 : ((k : Int) != (q : Int)) = true := by rw [bne_iff_ne]; omega
        have hstep := dropI_step Hx q hkq
        rw [Hz.out] at hstep
        have hl1 : zs.length ≤ 10000 := by rw [← Hz.out, List.length_append, List.length_take, List.length_drop, List.length_take]; omega
        have Hstep := Lib.hid hstep
        clear hstep
        have p3 : zs.length + 1 ≤ maxLen := by simp only [maxLen]; omega
        have p4 : (zs.length + 1) * 8 ≤ 140737488355328 := by omega
        go_wp2_with (at_builtin; refine wpList_append_seg _ rfl (.tmp 26) (.tmp 31) _ rfl 2 i0 _ 1 8 Try.underlying27 hi0 hz0 hz1 hz2 rfl p0 rfl (q1.alloc _) ⟨wr.heap.size, 0, none⟩ 1 1 [.int .i64 x] rfl rfl (cell_one_new _ _ _) (by simp [Value.oneCell']) p0 p3 p4 ?_; intro A2 c2 G2 w2 hs2 hg2 hm2)
        go_roundw
        case rel =>
          refine ⟨k + 1, by omega, by go_num, ⟨A2, c2, G2, ?_, ?_, ?_⟩, (q3.alloc q3.size _).grown hg2 (by have := q3.size; simp; omega) q2⟩
          · rw [← Hstep.out]; simp
          · rw [← Hstep.out]; simpa using hs2
          · intro g' hg'
            rcases hm2 with e | ⟨g2, e, hgg⟩
            · exact q2 g' (by rw [← e]; exact hg')
            · rw [e] at hg'
              cases hg'
              have := q3.size
              simp at hgg
              omega
        case measure => simp [intOf]; omega
    · obtain rfl : k = ys.length := by omega
      have hz := Hz.out
      rw [List.take_length] at hz
      have HZ := Lib.hid hz
      clear hz
      go_wp2_with fail
      go_ret2
      exact ⟨.slice A1 zs.length c1, rfl, ⟨A1, c1, G1, by rw [HZ.out], by rw [HZ.out]; exact q1, q2⟩, q3⟩

end Go.Proofs.Ytbdejcmlcjljkaa
