/-
  The calls of package ring at int64: what New, Push, Pop, At, Len and Drop return, and what they leave in memory. Conditions: the queue is one that New made (its room is above 0), as the predicate RG says.
-/
import Derived.Test.YtbdejcmlcjljkaaRows
import Derived.Test.YtbdejcmlcjljkaaMem
import Derived.WalkKit
import Derived.WalkSpells
import Derived.WalkLawsBesides
import Derived.Deep.QuietTactic
import Derived.BigQuiet
import Derived.Lib.Hide
namespace Go.Proofs.Ytbdejcmlcjljkaa
open Go.RowKit

/-- A queue: its struct is block b; its array, if there is one, is block G; it holds xs. -/
def RG (w : World) (b : Nat) (room : Int) (G : Option Nat) (xs : List Int) : Prop :=
  ∃ A n c, CB w b 74 #[.int .i64 room, .slice A n c] ∧ Seg w 2 1 A n c (xs.map (.int .i64)) G

theorem created_yes (b : Nat) (room : Int) (v : Value) (w : World) (hb : CB w b 74 #[.int .i64 room, v]) (h : 0 < room) :
    Calls Try.prog 34 #[.pointer (some ⟨b, 0, none⟩)] w fun e w' => e = .returned (.bool true) ∧ w = w' := by
  have c0 := hb.cell 0
  simp at c0
  go_enter Try.func34, Try.ntmps34
  go_wp2
  go_ret
  exact ⟨rfl, rfl⟩

theorem len_any (b : Nat) (room : Int) (G : Option Nat) (xs : List Int) (w : World) (hb : RG w b room G xs) (h : 0 < room) :
    Calls Try.prog 20 #[.pointer (some ⟨b, 0, none⟩)] w fun e w' => e = .returned (.int .i64 xs.length) ∧ w = w' := by
  obtain ⟨A, n, c, hb, hs⟩ := hb
  have hn : n = xs.length := by have := hs.1; simp at this; omega
  subst hn
  have c1 := hb.cell 1
  simp at c1
  go_enter Try.func20, Try.ntmps20
  go_wp2_with (go_at_call 34; refine (created_yes b room _ _ hb h).mono ?_; rintro e w' ⟨rfl, rfl⟩)
  go_ret
  exact ⟨rfl, rfl⟩

theorem new_yes (room : Int) (w : World) (h1 : 1 ≤ room) (h2 : room ≤ 10000) :
    Calls Try.prog 10 #[.int .i64 room] w fun e w' => e = .returned (.pointer (some ⟨w.heap.size, 0, none⟩)) ∧ RG w' w.heap.size room none [] ∧ w' = w.alloc (.cells #[.int .i64 room, .slice none 0 0] 74) := by
  go_enter Try.func10, Try.ntmps10
  go_wp2
  go_ret
  exact ⟨rfl, ⟨none, 0, 0, CB.new _ _ _, Seg.nil _ _ _⟩, rfl⟩

theorem new_no (room : Int) (w : World) (h1 : room < 1 ∨ 10000 < room) :
    Calls Try.prog 10 #[.int .i64 room] w fun e w' => e = .returned (.pointer none) ∧ w = w' := by
  rcases h1 with h1 | h1
  · go_enter Try.func10, Try.ntmps10
    go_wp2
    go_ret
    exact ⟨rfl, rfl⟩
  · have h2 : ¬ room < 1 := by omega
    go_enter Try.func10, Try.ntmps10
    go_wp2
    go_ret
    exact ⟨rfl, rfl⟩

theorem find_ok (b : Nat) (room : Int) (G : Option Nat) (xs : List Int) (i : Int) (w : World) (hb : RG w b room G xs) (h : 0 < room) (h0 : 0 ≤ i) (h1 : i < xs.length) :
    Calls Try.prog 33 #[.pointer (some ⟨b, 0, none⟩), .int .i64 i] w fun e w' => e = .returned (.int .i64 0) ∧ w = w' := by
  obtain ⟨A, n, c, hb, hs⟩ := hb
  have hn : n = xs.length := by have := hs.1; simp at this; omega
  subst hn
  have c1 := hb.cell 1
  simp at c1
  go_enter Try.func33, Try.ntmps33
  go_wp2_with (go_at_call 34; refine (created_yes b room _ _ hb h).mono ?_; rintro e w' ⟨rfl, rfl⟩)
  go_ret
  exact ⟨rfl, rfl⟩

theorem find_no (b : Nat) (room : Int) (G : Option Nat) (xs : List Int) (i : Int) (w : World) (hb : RG w b room G xs) (h : 0 < room) (h0 : i < 0 ∨ xs.length ≤ i) :
    Calls Try.prog 33 #[.pointer (some ⟨b, 0, none⟩), .int .i64 i] w fun e w' => e = .returned (.int .i64 7) ∧ w = w' := by
  obtain ⟨A, n, c, hb, hs⟩ := hb
  have hn : n = xs.length := by have := hs.1; simp at this; omega
  subst hn
  have c1 := hb.cell 1
  simp at c1
  rcases h0 with h0 | h0
  · go_enter Try.func33, Try.ntmps33
    go_wp2_with (go_at_call 34; refine (created_yes b room _ _ hb h).mono ?_; rintro e w' ⟨rfl, rfl⟩)
    go_ret
    exact ⟨rfl, rfl⟩
  · have h2 : ¬ i < 0 := by omega
    go_enter Try.func33, Try.ntmps33
    go_wp2_with (go_at_call 34; refine (created_yes b room _ _ hb h).mono ?_; rintro e w' ⟨rfl, rfl⟩)
    go_ret
    exact ⟨rfl, rfl⟩

theorem at_ok (b : Nat) (room : Int) (G : Option Nat) (xs : List Int) (i : Nat) (x : Int) (w : World) (hb : RG w b room G xs) (h : 0 < room) (hx : xs[i]? = some x) :
    Calls Try.prog 15 #[.pointer (some ⟨b, 0, none⟩), .int .i64 i] w fun e w' => e = .returned (.tuple #[.int .i64 x, .int .i64 0]) ∧ w = w' := by
  have hb0 := hb
  obtain ⟨A, n, c, hb, hs⟩ := hb
  have hn : n = xs.length := by have := hs.1; simp at this; omega
  subst hn
  have hi : i < xs.length := (List.getElem?_eq_some_iff.1 hx).1
  have hi' : (i : Int) < (xs.length : Int) := by omega
  obtain ⟨g, off, rfl, rfl, hc⟩ := hs.at_ (j := i) (u := .int .i64 x) (by simp [hx])
  have c1 := hb.cell 1
  simp at c1
  clear hx hs
  go_enter Try.func15, Try.ntmps15
  go_wp2_with (go_at_call 33; refine (find_ok b room _ xs i _ hb0 h (by omega) hi').mono ?_; rintro e w' ⟨rfl, rfl⟩)
  go_ret2
  exact ⟨rfl, rfl⟩

theorem at_no (b : Nat) (room : Int) (G : Option Nat) (xs : List Int) (i : Int) (w : World) (hb : RG w b room G xs) (h : 0 < room) (hi : i < 0 ∨ xs.length ≤ i) :
    Calls Try.prog 15 #[.pointer (some ⟨b, 0, none⟩), .int .i64 i] w fun e w' => e = .returned (.tuple #[.int .i64 0, .int .i64 7]) ∧ w = w' := by
  go_enter Try.func15, Try.ntmps15
  go_wp2_with (go_at_call 33; refine (find_no b room _ xs i _ hb h hi).mono ?_; rintro e w' ⟨rfl, rfl⟩)
  go_ret2
  exact ⟨rfl, rfl⟩

theorem Try.infoE : (Try.prog.info? 2).map (fun i => (i.zero, i.size, i.bytes)) = some (some (.int .i64 0), 1, 8) := by kernel_rfl

theorem push_full (b : Nat) (room : Int) (G : Option Nat) (xs : List Int) (x : Int) (w : World) (hb : RG w b room G xs) (h : 0 < room) (hl : (xs.length : Int) = room) :
    Calls Try.prog 18 #[.pointer (some ⟨b, 0, none⟩), .int .i64 x] w fun e w' => e = .returned (.int .i64 6) ∧ ∃ k, w' = w.drewN k := by
  obtain ⟨A, n, c, hb, hs⟩ := hb
  have hn : n = xs.length := by have := hs.1; simp at this; omega
  subst hl
  subst hn
  have c1 := hb.cell 1
  have c0 := hb.cell 0
  simp at c1 c0
  go_enter Try.func18, Try.ntmps18
  go_wp2_with (go_at_call 34; refine (created_yes b _ _ _ hb h).mono ?_; rintro e w' ⟨rfl, rfl⟩)
  go_quiet (fail)
  go_wp2
  go_ret
  exact ⟨rfl, _, rfl⟩

theorem push_ok (b : Nat) (room : Int) (G : Option Nat) (xs : List Int) (x : Int) (w : World) (hb : RG w b room G xs) (h : 0 < room) (hl : (xs.length : Int) < room) (hm : xs.length ≤ 10000) :
    Calls Try.prog 18 #[.pointer (some ⟨b, 0, none⟩), .int .i64 x] w fun e w' => e = .returned (.int .i64 0) ∧ ∃ G', RG w' b room G' (xs ++ [x]) ∧ Only w w' b G ∧ Moved w G G' := by
  obtain ⟨A, n, c, hb, hs⟩ := hb
  have hn : n = xs.length := by have := hs.1; simp at this; omega
  subst hn
  have c1 := hb.cell 1
  have c0 := hb.cell 0
  simp at c1 c0
  obtain ⟨i0, hi0, hz0, hz1, hz2⟩ := info_parts Try.infoE
  have hne : ((xs.length : Int) == room) = false := by rw [beq_eq_false_iff_ne]; omega
  go_enter Try.func18, Try.ntmps18
  go_wp2_with (go_at_call 34; refine (created_yes b room _ _ hb h).mono ?_; rintro e w' ⟨rfl, rfl⟩)
  go_quiet (fail)
  go_wp2_with (at_builtin; refine wpList_append_seg _ rfl (.tmp 22) (.tmp 24) _ rfl 2 i0 _ 1 8 Try.underlying72 hi0 hz0 hz1 hz2 rfl (by omega) rfl ((hs.drewN _).alloc _) ⟨w.heap.size, 0, none⟩ 1 1 [.int .i64 x] rfl rfl ?c1 ?c2 (by omega) ?c3 ?c4 ?_)
  case c1 =>
    intro j u hj
    match j, hj with
    | 0, hj => simp at hj; subst hj; exact (CB.new (w.drewN nq) _ #[.int .i64 x]).cell 0
  case c2 => intro u hu; simp at hu; subst hu; rfl
  case c3 => simp only [maxLen]; omega
  case c4 => omega
  intro A' c' G' w1 hseg hgr hmv
  have hne1 := hs.ne_ hb (by decide)
  have hb1 : CB w1 b 74 #[.int .i64 room, .slice A xs.length c] := ((hb.drewN _).alloc _).same (hgr.block b ((hb.drewN nq).alloc _).lt (fun e => hne1 e.symm))
  have hon : Only w w1 b G := (((Only.refl w b G).drewN nq).alloc _).grown hgr (fun k hk => .inl hk)
  have hmv' : Moved w G G' := by
    rcases hmv with hmv | ⟨g, rfl, hg⟩
    · exact .inl hmv
    · exact .inr ⟨g, rfl, by simp at hg; omega⟩
  have hnew : G' ≠ some b := hseg.ne_ hb1 (by decide)
  have hend : RG (w1.setCell ⟨b, 1, none⟩ (.slice A' (xs.length + 1) c')) b room G' (xs ++ [x]) :=
    ⟨A', xs.length + 1, c', by simpa using hb1.put 1 (.slice A' (xs.length + 1) c'), by simpa using hseg.far (p := ⟨b, 1, none⟩) hnew _⟩
  have hend2 : Only w (w1.setCell ⟨b, 1, none⟩ (.slice A' (xs.length + 1) c')) b G := hon.put (.inl rfl) _
  have d1 := hb1.cell 1
  have d2 := hb1.frozen 1
  simp at d1
  clear hb1 hseg hgr hmv hon hs hb hne hnew hne1 c0 c1 hi0 hz0 hz1 hz2
  go_wp2
  go_ret
  exact ⟨rfl, G', hend, hend2, hmv'⟩

theorem pop_no (b : Nat) (room : Int) (G : Option Nat) (w : World) (hb : RG w b room G []) (h : 0 < room) :
    Calls Try.prog 12 #[.pointer (some ⟨b, 0, none⟩)] w fun e w' => e = .returned (.tuple #[.int .i64 0, .int .i64 7]) ∧ w = w' := by
  go_enter Try.func12, Try.ntmps12
  go_wp2_with (go_at_call 15; refine (at_no b room _ [] 0 _ hb h (by simp)).mono ?_; rintro e w' ⟨rfl, rfl⟩)
  go_ret2
  exact ⟨rfl, rfl⟩

theorem Try.zeroE (w : World) : (zeroValue 2).run Try.prog w = .ok (.int .i64 0) w := by kernel_rfl
theorem Try.sizeE (w : World) : (sizeOf 2).run Try.prog w = .ok 1 w := by kernel_rfl

/-- A cut 's[k:]', its address under one name. -/
theorem run_cut_from {P : Program} (t e : TypeId) (ht : P.underlying t = some (.slice e)) (size : Nat) (hz : ∀ w, (sizeOf e).run P w = .ok size w) (A : Option Addr) (n c k : Nat) (hk : k ≤ n) (w : World) :
    (Instr.slice t (.slice A n c) (some (.int .i64 k)) none none).run P w = .ok (.slice (if c = k then A else A.map (·.add (k * size))) (n - k) (c - k)) w := by
  simp [Instr.slice, run_underlying ht, Instr.sliceBounds, hz, go_sem, hk]
/-- A cut 's[:k]'. -/
theorem run_cut_upto {P : Program} (t e : TypeId) (ht : P.underlying t = some (.slice e)) (size : Nat) (hz : ∀ w, (sizeOf e).run P w = .ok size w) (A : Option Addr) (n c k : Nat) (hk : k ≤ c) (w : World) :
    (Instr.slice t (.slice A n c) none (some (.int .i64 k)) none).run P w = .ok (.slice A k c) w := by
  simp [Instr.slice, run_underlying ht, Instr.sliceBounds, hz, go_sem, hk]

set_option maxHeartbeats 400000 in
theorem pop_ok (b : Nat) (room : Int) (G : Option Nat) (x : Int) (xs : List Int) (w : World) (hb : RG w b room G (x :: xs)) (h : 0 < room) :
    Calls Try.prog 12 #[.pointer (some ⟨b, 0, none⟩)] w fun e w' => e = .returned (.tuple #[.int .i64 x, .int .i64 0]) ∧ RG w' b room G xs ∧ Only w w' b G := by
  have hb0 := hb
  obtain ⟨A, n, c, hb, hs⟩ := hb
  have hn : n = xs.length + 1 := by have := hs.1; simp at this; omega
  subst hn
  have hc1 : 1 ≤ c := by have := hs.2.1; omega
  have c1 := hb.cell 1
  simp at c1
  obtain ⟨w1, ys, hclr, hs1, hyl, hgr⟩ := run_clear_seg (P := Try.prog) w 72 2 (.int .i64 0) Try.underlying72 Try.zeroE (by simp [Value.cells, Value.oneCell']) hs 1 (by omega) (by simp [Value.cells])
  have hne1 := hs.ne_ hb (by decide)
  have hb1 : CB w1 b 74 #[.int .i64 room, .slice A (xs.length + 1) c] := hb.same (hgr.block b hb.lt (fun e => hne1 e.symm))
  have hcut := hs1.cut (k := 1) (by omega)
  have hcut1 : ∀ W, (Instr.slice 72 (.slice A (xs.length + 1) c) (some (.int .i64 1)) none none).run Try.prog W = _ := fun W => run_cut_from (P := Try.prog) 72 2 Try.underlying72 1 Try.sizeE A (xs.length + 1) c 1 (by omega) W
  have hcut2 : ∀ W, (Instr.slice 72 (.slice A (xs.length + 1) c) none (some (.int .i64 1)) none).run Try.prog W = _ := fun W => run_cut_upto (P := Try.prog) 72 2 Try.underlying72 1 Try.sizeE A (xs.length + 1) c 1 hc1 W
  simp only [Value.cells, List.size_toArray, List.length_cons, List.length_nil, Nat.zero_add, Nat.mul_one, List.map_cons, List.drop_succ_cons, List.drop_zero] at hcut hcut1 hyl
  rw [List.drop_left' hyl] at hcut
  generalize hA1 : (if c = 1 then A else A.map (fun x : Addr => x.add 1)) = A1 at hcut hcut1
  have hon : Only w w1 b G := (Only.refl w b G).grown hgr (fun k hk => .inl hk)
  have hend : RG (w1.setCell ⟨b, 1, none⟩ (.slice A1 (xs.length + 1 - 1) (c - 1))) b room G xs :=
    ⟨A1, xs.length + 1 - 1, c - 1, by simpa using hb1.put 1 (.slice A1 (xs.length + 1 - 1) (c - 1)), hcut.far (p := ⟨b, 1, none⟩) hne1 _⟩
  have hend2 : Only w (w1.setCell ⟨b, 1, none⟩ (.slice A1 (xs.length + 1 - 1) (c - 1))) b G := hon.put (.inl rfl) _
  have d1 := hb1.cell 1
  have d2 := hb1.frozen 1
  simp at d1
  have Hend := Lib.hid hend
  have Hend2 := Lib.hid hend2
  clear hA1 hb1 hs1 hgr hon hs hb hne1 hcut hyl hend hend2
  go_enter Try.func12, Try.ntmps12
  go_wp2_with (go_at_call 15; refine (at_ok b room _ (x :: xs) 0 x _ hb0 h (by simp)).mono ?_; rintro e w' ⟨rfl, rfl⟩)
  go_ret2
  exact ⟨rfl, Hend.out, Hend2.out⟩

end Go.Proofs.Ytbdejcmlcjljkaa
