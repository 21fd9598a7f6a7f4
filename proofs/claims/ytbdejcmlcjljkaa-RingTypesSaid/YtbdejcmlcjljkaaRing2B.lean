/-
  The calls of package ring at [2]int64, more: Push and Drop. Conditions: the queue is one that New made, as the predicate RG2 says.
-/
import Derived.Test.YtbdejcmlcjljkaaRing2A
import Derived.StillTailTactics
namespace Go.Proofs.Ytbdejcmlcjljkaa
open Go.RowKit

theorem push2_full (b : Nat) (room : Int) (G : Option Nat) (xs : List (Int × Int)) (p1 p2 : Int) (w : World) (hb : RG2 w b room G xs) (h : 0 < room) (hl : (xs.length : Int) = room) :
    Calls Try.prog 31 #[.pointer (some ⟨b, 0, none⟩), .agg #[.int .i64 p1, .int .i64 p2]] w fun e w' => e = .returned (.int .i64 6) ∧ Below w.heap.size w w' := by
  obtain ⟨A, n, c, hb, hs⟩ := hb
  have hn : n = xs.length := by have := hs.1; rw [cells2_length] at this; omega
  subst hl
  subst hn
  have hb1 := hb.alloc (.cells #[.int .i64 p1, .int .i64 p2] 65)
  have c1 := hb1.cell 1
  have c0 := hb1.cell 0
  simp only [List.getElem?_toArray, List.getElem?_cons_succ, List.getElem?_cons_zero] at c1 c0
  go_enter Try.func31, Try.ntmps31
  go_wp2_with fail
  refine (created2 b _ _ _ hb1 h).mono ?_
  rintro e w' ⟨rfl, rfl⟩
  go_wp2_with fail
  go_quiet (fail)
  go_wp2
  go_ret
  exact ⟨rfl, below_drewN ((Below.refl _ _).alloc (Nat.le_refl _) _) _⟩

set_option maxRecDepth 100000 in
set_option maxHeartbeats 400000 in
theorem push2_ok (b : Nat) (room : Int) (G : Option Nat) (xs : List (Int × Int)) (p1 p2 : Int) (w : World) (hb : RG2 w b room G xs) (h : 0 < room) (hl : (xs.length : Int) < room) (hm : xs.length ≤ 10000) :
    Calls Try.prog 31 #[.pointer (some ⟨b, 0, none⟩), .agg #[.int .i64 p1, .int .i64 p2]] w fun e w' => e = .returned (.int .i64 0) ∧ ∃ G', RG2 w' b room G' (xs ++ [(p1, p2)]) ∧ Only w w' b G ∧ Moved w G G' := by
  obtain ⟨A, n, c, hb, hs⟩ := hb
  have hn : n = xs.length := by have := hs.1; rw [cells2_length] at this; omega
  subst hn
  have hb1 := hb.alloc (.cells #[.int .i64 p1, .int .i64 p2] 65)
  have hs1 := hs.alloc (.cells #[.int .i64 p1, .int .i64 p2] 65)
  have k1 := CB.new w 65 #[.int .i64 p1, .int .i64 p2]
  have c1 := hb1.cell 1
  have c0 := hb1.cell 0
  simp only [List.getElem?_toArray, List.getElem?_cons_succ, List.getElem?_cons_zero] at c1 c0
  obtain ⟨i0, hi0, hz0, hz1, hz2⟩ := info_parts Try.info2
  have hne : ((xs.length : Int) == room) = false := by rw [beq_eq_false_iff_ne]; omega
  have hneb := hs.ne_ hb (by decide)
  have sx : ∀ k, Seg (((w.alloc (.cells #[.int .i64 p1, .int .i64 p2] 65)).drewN k).alloc (.cells #[.int .i64 p1, .int .i64 p2] 65)) 65 2 A xs.length c (cells2 xs) G := fun k => (hs1.drewN k).alloc _
  have bx : ∀ k, CB (((w.alloc (.cells #[.int .i64 p1, .int .i64 p2] 65)).drewN k).alloc (.cells #[.int .i64 p1, .int .i64 p2] 65)) b 78 #[.int .i64 room, .slice A xs.length c] := fun k => (hb1.drewN k).alloc _
  have ox : ∀ k, Only w (((w.alloc (.cells #[.int .i64 p1, .int .i64 p2] 65)).drewN k).alloc (.cells #[.int .i64 p1, .int .i64 p2] 65)) b G := fun k => (((Only.refl w b G).alloc _).drewN k).alloc _
  have rx : ∀ k, Src (((w.alloc (.cells #[.int .i64 p1, .int .i64 p2] 65)).drewN k).alloc (.cells #[.int .i64 p1, .int .i64 p2] 65)) 2 (some ⟨w.heap.size + 1, 0, none⟩) 1 [.int .i64 p1, .int .i64 p2] := by
    intro k
    refine ⟨by simp, fun _ => ⟨_, rfl, fun j u hu => ?_⟩⟩
    have hN := CB.new ((w.alloc (.cells #[.int .i64 p1, .int .i64 p2] 65)).drewN k) 65 #[.int .i64 p1, .int .i64 p2]
    have hsz : ((w.alloc (.cells #[.int .i64 p1, .int .i64 p2] 65)).drewN k).heap.size = w.heap.size + 1 := by show (w.alloc _).heap.size = _; simp
    rw [hsz] at hN
    rw [Addr.add_lit, Nat.zero_add, hN.cell j, List.getElem?_toArray]
    exact hu
  have ho : ∀ u ∈ [Value.int .i64 p1, .int .i64 p2], u.oneCell' = true := by
    intro u hu
    simp at hu
    rcases hu with rfl | rfl <;> rfl
  have P2 : 0 < 2 := by omega
  have P3 : xs.length + 1 ≤ maxLen := by simp only [maxLen]; omega
  have P4 : (xs.length + 1) * 16 ≤ 140737488355328 := by omega
  have cx : ∀ k, (((w.alloc (.cells #[.int .i64 p1, .int .i64 p2] 65)).drewN k).alloc (.cells #[.int .i64 p1, .int .i64 p2] 65)).cell? ⟨b, 1, none⟩ = some (.slice A xs.length c) := fun k => (bx k).cell 1
  have SX := Lib.hid sx
  have BX := Lib.hid bx
  have OX := Lib.hid ox
  have RX := Lib.hid rx
  clear sx bx ox rx
  have hsw : w.heap.size ≤ w.heap.size + 2 := by omega
  go_enter Try.func31, Try.ntmps31
  go_wp2_with fail
  refine (created2 b room _ _ hb1 h).mono ?_
  rintro e w' ⟨rfl, rfl⟩
  go_wp2_with fail
  go_quiet (fail)
  go_wp2_with fail
  go_region_law (refine step_append_src _ (.tmp 22) (.tmp 24) _ (by rfl) 65 i0 _ 2 16 Try.underlying76 hi0 hz0 hz1 hz2 rfl P2 (by rfl) (SX.out _) (by rfl) (RX.out _) ho P3 P4 (by rfl) (xs.length + 1) rfl ?_; intro A5 c5 G5 w5 hs5 hg5 hm5; have hb5 := (BX.out _).same (hg5.block b (BX.out _).lt (fun e => hneb e.symm)); have d1 := hb5.cell 1; have d2 := hb5.frozen 1; simp only [List.getElem?_toArray, List.getElem?_cons_succ, List.getElem?_cons_zero] at d1)
  all_goals
    go_wp2
    go_ret
    refine ⟨rfl, G5, ⟨A5, xs.length + 1, c5, by simpa using hb5.put 1 (.slice A5 (xs.length + 1) c5), ?_⟩, ((OX.out _).grown hg5 (fun k hk => .inl hk)).put (.inl rfl) _, ?_⟩
    · rw [cells2_append]
      exact hs5.far (p := ⟨b, 1, none⟩) (hs5.ne_ hb5 (by decide)) _
    · rcases hm5 with e | ⟨g, e, hg⟩
      · exact .inl e
      · refine .inr ⟨g, e, ?_⟩
        have : w.heap.size + 2 ≤ g := by
          refine Nat.le_trans ?_ hg
          show w.heap.size + 2 ≤ (((w.alloc _).heap.push _)).size
          simp
        omega

theorem drop2_no (b : Nat) (room : Int) (G : Option Nat) (xs : List (Int × Int)) (i : Int) (w : World) (hb : RG2 w b room G xs) (h : 0 < room) (hi : i < 0 ∨ xs.length ≤ i) :
    Calls Try.prog 30 #[.pointer (some ⟨b, 0, none⟩), .int .i64 i] w fun e w' => e = .returned (.int .i64 7) ∧ w = w' := by
  go_enter Try.func30, Try.ntmps30
  go_wp2_with (go_at_call 40; refine (find2_no b room _ xs i _ hb h hi).mono ?_; rintro e w' ⟨rfl, rfl⟩)
  go_ret
  exact ⟨rfl, rfl⟩

theorem drop2_list (xs : List (Int × Int)) (k : Nat) (hk : k < xs.length) :
    ((cells2 xs).take (k * 2) ++ (cells2 xs).drop ((k + 1) * 2) ++ (cells2 xs).drop ((xs.length - 1) * 2)).take ((xs.length - 1) * 2) = cells2 (xs.take k ++ xs.drop (k + 1)) := by
  rw [cells2_take, cells2_drop, cells2_drop, ← cells2_append, List.take_append_of_le_length (by rw [cells2_length, List.length_append, List.length_take, List.length_drop]; omega), List.take_of_length_le (by rw [cells2_length, List.length_append, List.length_take, List.length_drop]; omega)]

set_option maxRecDepth 100000 in
set_option maxHeartbeats 1000000 in
theorem drop2_ok (b : Nat) (room : Int) (G : Option Nat) (xs : List (Int × Int)) (k : Nat) (w : World) (hb : RG2 w b room G xs) (h : 0 < room) (hk : k < xs.length) (hm : xs.length ≤ 10000) :
    Calls Try.prog 30 #[.pointer (some ⟨b, 0, none⟩), .int .i64 k] w fun e w' => e = .returned (.int .i64 0) ∧ RG2 w' b room G (xs.take k ++ xs.drop (k + 1)) ∧ Only w w' b G := by
  have hb0 := hb
  obtain ⟨A, n, c, hb, hs⟩ := hb
  have hn : n = xs.length := by have := hs.1; rw [cells2_length] at this; omega
  subst hn
  have hnc := hs.2.1
  obtain ⟨i0, hi0, hz0, hz1, hz2⟩ := info_parts Try.info2
  have hone := cells2_one xs
  obtain ⟨w1, hcp, hs1, hg1⟩ := run_copy_seg (P := Try.prog) w.drew 76 65 i0 2 Try.underlying76 hi0 hz1 hs.drew hone k hk
  obtain ⟨w2, ys, hcl, hs2, hg2⟩ := run_clear_tail (P := Try.prog) w1 76 65 (.agg #[.int .i64 0, .int .i64 0]) 2 rfl Try.underlying76 Try.zero2 (by simp [Value.cells, Value.oneCell']) hs1 (xs.length - 1) (by omega) (by omega)
  have hs3 := hs2.upto (k := xs.length - 1) (by omega)
  have hlist : ((((cells2 xs).take (k * 2) ++ (cells2 xs).drop ((k + 1) * 2) ++ (cells2 xs).drop ((xs.length - 1) * 2)).take ((xs.length - 1) * 2)) ++ ys).take ((xs.length - 1) * 2) = cells2 (xs.take k ++ xs.drop (k + 1)) := by
    rw [drop2_list xs k hk]
    exact List.take_left' (by rw [cells2_length, List.length_append, List.length_take, List.length_drop]; omega)
  rw [hlist] at hs3
  have hne := hs.ne_ hb (by decide)
  have hb1 : CB w1 b 78 #[.int .i64 room, .slice A xs.length c] := hb.drew.same (hg1.block b hb.lt (fun e => hne e.symm))
  have hb2 : CB w2 b 78 #[.int .i64 room, .slice A xs.length c] := hb1.same (hg2.block b hb1.lt (fun e => hne e.symm))
  have hon : Only w w2 b G := ((Only.refl w b G).drew.grown hg1 (fun k hk => .inl hk)).grown hg2 (fun k hk => .inl hk)
  have hend : RG2 (w2.setCell ⟨b, 1, none⟩ (.slice A (xs.length - 1) c)) b room G (xs.take k ++ xs.drop (k + 1)) :=
    ⟨A, xs.length - 1, c, by simpa using hb2.put 1 (.slice A (xs.length - 1) c), hs3.far (p := ⟨b, 1, none⟩) hne _⟩
  have hend2 : Only w (w2.setCell ⟨b, 1, none⟩ (.slice A (xs.length - 1) c)) b G := hon.put (.inl rfl) _
  have cut1 := fun W => run_cut_from (P := Try.prog) 76 65 Try.underlying76 2 Try.size2 A xs.length c k (by omega) W
  have cut2 := fun W => run_cut_from (P := Try.prog) 76 65 Try.underlying76 2 Try.size2 A xs.length c (k + 1) (by omega) W
  have cut3 := fun W => run_cut_from (P := Try.prog) 76 65 Try.underlying76 2 Try.size2 A xs.length c (xs.length - 1) (by omega) W
  have cut4 := fun W => run_cut_upto (P := Try.prog) 76 65 Try.underlying76 2 Try.size2 A xs.length c (xs.length - 1) (by omega) W
  rw [show ((k + 1 : Nat) : Int) = (k : Int) + 1 by omega] at cut2
  rw [show ((xs.length - 1 : Nat) : Int) = (xs.length : Int) - 1 by omega] at cut3 cut4
  generalize (if c = k then A else A.map (fun x : Addr => x.add (k * 2))) = A1 at cut1 hcp
  generalize (if c = k + 1 then A else A.map (fun x : Addr => x.add ((k + 1) * 2))) = A2 at cut2 hcp
  generalize (if c = xs.length - 1 then A else A.map (fun x : Addr => x.add ((xs.length - 1) * 2))) = A3 at cut3 hcl
  have c1 := hb.cell 1
  have d1 := hb1.cell 1
  have e1 := hb2.cell 1
  have e2 := hb2.frozen 1
  simp only [List.getElem?_toArray, List.getElem?_cons_succ, List.getElem?_cons_zero] at c1 d1 e1
  have Hend := Lib.hid hend
  have Hend2 := Lib.hid hend2
  clear hend hend2 hs3 hs2 hs1 hs hb1 hb2 hb hg1 hg2 hon hlist hone hi0 hz0 hz1 hz2 hne
  have hk' : (k : Int) < (xs.length : Int) := by omega
  go_enter Try.func30, Try.ntmps30
  go_wp2_with fail
  refine (find2_ok b room _ xs k _ hb0 h (by omega) hk').mono ?_
  rintro e w' ⟨rfl, rfl⟩
  go_wp2_with fail
  have hwr : IntKind.i64.wrap ((k : Int) + 1) = (k : Int) + 1 := IntWalk.i64_in _ (by omega)
  go_still_tail 13, (by kernel_rfl)
  clear hwr
  change wpList _ _ _ _ _ w.drew
  go_wp2
  go_ret
  exact ⟨rfl, Hend.out, Hend2.out⟩


end Go.Proofs.Ytbdejcmlcjljkaa
