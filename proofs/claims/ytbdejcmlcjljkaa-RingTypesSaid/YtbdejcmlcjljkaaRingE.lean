/-
  Drop of package ring at int64: what it returns, and what it leaves in memory. Conditions: the queue is one that New made.
-/
import Derived.Test.YtbdejcmlcjljkaaRingB
import Derived.Test.YtbdejcmlcjljkaaMemB
import Derived.StillTailTactics
namespace Go.Proofs.Ytbdejcmlcjljkaa
open Go.RowKit

theorem drop_no (b : Nat) (room : Int) (G : Option Nat) (xs : List Int) (i : Int) (w : World) (hb : RG w b room G xs) (h : 0 < room) (hi : i < 0 ∨ xs.length ≤ i) :
    Calls Try.prog 16 #[.pointer (some ⟨b, 0, none⟩), .int .i64 i] w fun e w' => e = .returned (.int .i64 7) ∧ w = w' := by
  go_enter Try.func16, Try.ntmps16
  go_wp2_with (go_at_call 33; refine (find_no b room _ xs i _ hb h hi).mono ?_; rintro e w' ⟨rfl, rfl⟩)
  go_ret
  exact ⟨rfl, rfl⟩

theorem drop_list (xs : List Int) (k : Nat) (hk : k < xs.length) :
    ((xs.map (Value.int .i64)).take (k * 1) ++ (xs.map (Value.int .i64)).drop ((k + 1) * 1) ++ (xs.map (Value.int .i64)).drop ((xs.length - 1) * 1)).take ((xs.length - 1) * 1) = (xs.take k ++ xs.drop (k + 1)).map (.int .i64) := by
  simp only [Nat.mul_one]
  rw [List.take_append_of_le_length (by simp; omega), List.take_of_length_le (by simp; omega)]
  simp

set_option maxRecDepth 100000 in
set_option maxHeartbeats 1000000 in
theorem drop_ok (b : Nat) (room : Int) (G : Option Nat) (xs : List Int) (k : Nat) (w : World) (hb : RG w b room G xs) (h : 0 < room) (hk : k < xs.length) (hm : xs.length ≤ 10000) :
    Calls Try.prog 16 #[.pointer (some ⟨b, 0, none⟩), .int .i64 k] w fun e w' => e = .returned (.int .i64 0) ∧ RG w' b room G (xs.take k ++ xs.drop (k + 1)) ∧ Only w w' b G := by
  have hb0 := hb
  obtain ⟨A, n, c, hb, hs⟩ := hb
  have hn : n = xs.length := by have := hs.1; simp at this; omega
  subst hn
  have hnc := hs.2.1
  obtain ⟨i0, hi0, hz0, hz1, hz2⟩ := info_parts Try.infoE
  have hone : ∀ u ∈ xs.map (Value.int .i64), u.oneCell' = true := by
    intro u hu
    obtain ⟨x, _, rfl⟩ := List.mem_map.1 hu
    rfl
  obtain ⟨w1, hcp, hs1, hg1⟩ := run_copy_seg (P := Try.prog) w.drew 72 2 i0 1 Try.underlying72 hi0 hz1 hs.drew hone k hk
  obtain ⟨w2, ys, hcl, hs2, hg2⟩ := run_clear_tail (P := Try.prog) w1 72 2 (.int .i64 0) 1 rfl Try.underlying72 Try.zeroE (by simp [Value.cells, Value.oneCell']) hs1 (xs.length - 1) (by omega) (by omega)
  have hs3 := hs2.upto (k := xs.length - 1) (by omega)
  have hlist : ((((xs.map (Value.int .i64)).take (k * 1) ++ (xs.map (Value.int .i64)).drop ((k + 1) * 1) ++ (xs.map (Value.int .i64)).drop ((xs.length - 1) * 1)).take ((xs.length - 1) * 1)) ++ ys).take ((xs.length - 1) * 1) = (xs.take k ++ xs.drop (k + 1)).map (.int .i64) := by
    rw [drop_list xs k hk]
    exact List.take_left' (by simp; omega)
  rw [hlist] at hs3
  have hne := hs.ne_ hb (by decide)
  have hb1 : CB w1 b 74 #[.int .i64 room, .slice A xs.length c] := hb.drew.same (hg1.block b hb.lt (fun e => hne e.symm))
  have hb2 : CB w2 b 74 #[.int .i64 room, .slice A xs.length c] := hb1.same (hg2.block b hb1.lt (fun e => hne e.symm))
  have hon : Only w w2 b G := ((Only.refl w b G).drew.grown hg1 (fun k hk => .inl hk)).grown hg2 (fun k hk => .inl hk)
  have hend : RG (w2.setCell ⟨b, 1, none⟩ (.slice A (xs.length - 1) c)) b room G (xs.take k ++ xs.drop (k + 1)) :=
    ⟨A, xs.length - 1, c, by simpa using hb2.put 1 (.slice A (xs.length - 1) c), hs3.far (p := ⟨b, 1, none⟩) hne _⟩
  have hend2 : Only w (w2.setCell ⟨b, 1, none⟩ (.slice A (xs.length - 1) c)) b G := hon.put (.inl rfl) _
  have cut1 := fun W => run_cut_from (P := Try.prog) 72 2 Try.underlying72 1 Try.sizeE A xs.length c k (by omega) W
  have cut2 := fun W => run_cut_from (P := Try.prog) 72 2 Try.underlying72 1 Try.sizeE A xs.length c (k + 1) (by omega) W
  have cut3 := fun W => run_cut_from (P := Try.prog) 72 2 Try.underlying72 1 Try.sizeE A xs.length c (xs.length - 1) (by omega) W
  have cut4 := fun W => run_cut_upto (P := Try.prog) 72 2 Try.underlying72 1 Try.sizeE A xs.length c (xs.length - 1) (by omega) W
  rw [show ((k + 1 : Nat) : Int) = (k : Int) + 1 by omega] at cut2
  rw [show ((xs.length - 1 : Nat) : Int) = (xs.length : Int) - 1 by omega] at cut3 cut4
  generalize (if c = k then A else A.map (fun x : Addr => x.add (k * 1))) = A1 at cut1 hcp
  generalize (if c = k + 1 then A else A.map (fun x : Addr => x.add ((k + 1) * 1))) = A2 at cut2 hcp
  generalize (if c = xs.length - 1 then A else A.map (fun x : Addr => x.add ((xs.length - 1) * 1))) = A3 at cut3 hcl
  have c1 := hb.cell 1
  have d1 := hb1.cell 1
  have e1 := hb2.cell 1
  have e2 := hb2.frozen 1
  simp only [List.getElem?_toArray, List.getElem?_cons_succ, List.getElem?_cons_zero] at c1 d1 e1
  have Hend := Lib.hid hend
  have Hend2 := Lib.hid hend2
  clear hend hend2 hs3 hs2 hs1 hs hb1 hb2 hb hg1 hg2 hon hlist hone hi0 hz0 hz1 hz2 hne
  have hk' : (k : Int) < (xs.length : Int) := by omega
  go_enter Try.func16, Try.ntmps16
  go_wp2_with fail
  refine (find_ok b room _ xs k _ hb0 h (by omega) hk').mono ?_
  rintro e w' ⟨rfl, rfl⟩
  go_wp2_with fail
  have hwr : IntKind.i64.wrap ((k : Int) + 1) = (k : Int) + 1 := IntWalk.i64_in _ (by omega)
  go_still_tail 13, (by kernel_rfl)
  clear hwr
  change wpList _ _ _ _ _ w.drew
  go_wp2
  go_ret
  exact ⟨rfl, Hend.out, Hend2.out⟩

theorem drop_no_b (B : Nat) (b : Nat) (room : Int) (xs : List Int) (i : Int) (w : World) (hb : RB B w b room xs) (h : 0 < room) (hi : i < 0 ∨ xs.length ≤ i) :
    Calls Try.prog 16 #[.pointer (some ⟨b, 0, none⟩), .int .i64 i] w fun e w' => e = .returned (.int .i64 7) ∧ w = w' := by
  obtain ⟨G, hr, _⟩ := hb
  exact drop_no b room G xs i w hr h hi

theorem drop_b (B : Nat) (b : Nat) (room : Int) (xs : List Int) (k : Nat) (w : World) (hb : RB B w b room xs) (h : 0 < room) (hk : k < xs.length) (hm : xs.length ≤ 10000) :
    Calls Try.prog 16 #[.pointer (some ⟨b, 0, none⟩), .int .i64 k] w fun e w' => e = .returned (.int .i64 0) ∧ RB B w' b room (xs.take k ++ xs.drop (k + 1)) ∧ Below B w w' := by
  obtain ⟨G, hr, h1, h2, h3⟩ := hb
  refine (drop_ok b room G xs k w hr h hk hm).mono ?_
  rintro e w' ⟨he, hr', ho⟩
  exact ⟨he, ⟨G, hr', h1, Nat.le_trans h2 ho.size, h3⟩, ho.below h2 h1 h3⟩

theorem at_no_b (B : Nat) (b : Nat) (room : Int) (xs : List Int) (i : Int) (w : World) (hb : RB B w b room xs) (h : 0 < room) (hi : i < 0 ∨ xs.length ≤ i) :
    Calls Try.prog 15 #[.pointer (some ⟨b, 0, none⟩), .int .i64 i] w fun e w' => e = .returned (.tuple #[.int .i64 0, .int .i64 7]) ∧ w = w' := by
  obtain ⟨G, hr, _⟩ := hb
  exact at_no b room G xs i w hr h hi

end Go.Proofs.Ytbdejcmlcjljkaa
