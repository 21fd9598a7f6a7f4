/-
  WholeDurable: it returns true. No condition but that the numbers are in the range of their types.
-/
import Derived.Test.YtmghckddofefkaaDuA
import Derived.Test.YtmghckddofefkaaZLe
import Derived.Test.YtmghckddofefkaaZTopN
import Derived.Deep.CutRange
set_option linter.unusedVariables false
set_option linter.unusedSimpArgs false
namespace Go.Proofs.Ytmghckddofefkaa
open Go.RowKit


attribute [local go_sem] Oper.semAt_some
def u16c (x : Int) : List Value := [.int .u16 x]
def u8c (x : Int) : List Value := [.int .u8 x]
theorem enc16 : EncOk u16c 1 := ⟨fun _ => rfl, fun x u hu => by simp only [u16c, List.mem_cons, List.not_mem_nil, or_false] at hu; subst hu; rfl, by omega⟩
theorem enc8 : EncOk u8c 1 := ⟨fun _ => rfl, fun x u hu => by simp only [u8c, List.mem_cons, List.not_mem_nil, or_false] at hu; subst hu; rfl, by omega⟩
instance : Nonempty (EncOk u16c 1) := ⟨enc16⟩
instance : Nonempty (EncOk u8c 1) := ⟨enc8⟩
theorem leaves_nil {P : Program} {fn : Func} {tmps : Array Value} {R : Ending → World → Prop} {w : World} (h : LeavesIn Fence.wide 0 P fn tmps R [] .returning w) : LeavesInM Fence.wide 0 P fn tmps R [] .returning w := by
  rw [LeavesInM.eq_def]
  exact h
def CG : ByteArray := ⟨#[99, 97, 114, 103, 111]⟩

/-- The frame at the head of the second loop: what is known of it. -/
def DuT (rb c : Nat) (A : Option Addr) (n q : Nat) (A2 : Option Addr) (n2 q2 : Nat) (A' : Option Addr) (n' q' k : Nat) (U : Nat → Value) : Array Value :=
  #[.slice A n q, .slice A2 n2 q2, U 2, U 3, .pointer (some ⟨rb, 0, none⟩), .pointer (some ⟨c, 0, none⟩), U 6, U 7, .slice A' n' q', U 9, U 10, U 11, U 12, U 13, U 14, U 15, U 16, U 17, U 18, U 19, U 20, U 21, U 22, U 23, U 24, U 25, U 26, U 27, U 28, U 29, U 30, U 31, U 32, U 33, U 34, U 35, U 36, U 37, U 38, U 39, U 40, U 41, U 42, U 43, U 44, U 45, U 46, U 47, U 48, U 49, U 50, U 51, U 52, U 53, U 54, U 55, U 56, .slice A n q, .int .i64 (n : Int), .int .i64 (k : Int), U 60, U 61, U 62, U 63, U 64, U 65, U 66, U 67, U 68, U 69, U 70, U 71, U 72, U 73, U 74, U 75, U 76, U 77, U 78, U 79, U 80, U 81, U 82, U 83, U 84, U 85, U 86, U 87, U 88, U 89, U 90, U 91, U 92, U 93, U 94, U 95, U 96, U 97, U 98, U 99, U 100, U 101, U 102, U 103, U 104, U 105, U 106, U 107, U 108, U 109, U 110, U 111, U 112, U 113, U 114, U 115, U 116, U 117, U 118, U 119, U 120, U 121, U 122, U 123, U 124, U 125, U 126, U 127, U 128, U 129, U 130, U 131, U 132, U 133, U 134, U 135, U 136, U 137, U 138, U 139, U 140, U 141, U 142, U 143, U 144, U 145, U 146, U 147, U 148, U 149, U 150, U 151, U 152, U 153, U 154, U 155, U 156, U 157, U 158, U 159, U 160, U 161, U 162, U 163, U 164, U 165, U 166, U 167, U 168, U 169, U 170, U 171, U 172, U 173, U 174, U 175, U 176, U 177, U 178, U 179, U 180, U 181, U 182, U 183, U 184, U 185, U 186, U 187, U 188, U 189, U 190, U 191, U 192, U 193, U 194, U 195, U 196, U 197, U 198, U 199]
/-- What holds at the head of the second loop, m rounds before its end. -/
def DuI (w0 : World) (B c rb : Nat) (A : Option Addr) (n q : Nat) (A2 : Option Addr) (n2 q2 : Nat) (m : Nat) (a : Act) (wr : World) : Prop :=
  ∃ (U : Nat → Value) (A' : Option Addr) (n' q' : Nat) (said : List Mg) (S : Nat → Sd) (E : Int) (o : Nat) (t : Bool) (D : List Nat) (k : Nat), m + k = n ∧ a = { tmps := DuT rb c A n q A2 n2 q2 A' n' q' k U, defers := D.map mark } ∧ DI w0 wr B c A' n' q' said S S rb D ∧ (PI 3 S said CG E o t ∧ ∀ j, j < 3 → 0 ≤ (S j).l.to) ∧ said.length ≤ k
theorem DuI.mk' {w0 : World} {B c rb : Nat} {A : Option Addr} {n q : Nat} {A2 : Option Addr} {n2 q2 m : Nat} {a : Act} {wr : World} {A' : Option Addr} {n' q' : Nat} {said : List Mg} {S : Nat → Sd} {E : Int} {o : Nat} {t : Bool} {D : List Nat} (k : Nat)
    (hk : m + k = n) (ht : a.tmps = DuT rb c A n q A2 n2 q2 A' n' q' k (fun i => a.tmps.getD i undef)) (hd : a.defers = D.map mark) (h : DI w0 wr B c A' n' q' said S S rb D) (hp : PI 3 S said CG E o t ∧ ∀ j, j < 3 → 0 ≤ (S j).l.to) (hl : said.length ≤ k) : DuI w0 B c rb A n q A2 n2 q2 m a wr := by
  obtain ⟨ts, ds⟩ := a
  simp only at ht hd
  refine ⟨fun i => ts.getD i undef, A', n', q', said, S, E, o, t, D, k, hk, ?_, h, hp, hl⟩
  rw [← ht, hd]
/-- What holds behind a step of the second loop, ahead of its range. -/
def DuJ (w0 : World) (B c rb : Nat) (A : Option Addr) (n q : Nat) (A2 : Option Addr) (n2 q2 : Nat) (D : List Nat) (k : Nat) (a : Act) (wr : World) : Prop :=
  ∃ (U : Nat → Value) (A' : Option Addr) (n' q' : Nat) (said : List Mg) (S : Nat → Sd) (E : Int) (o : Nat) (t : Bool), a = { tmps := DuT rb c A n q A2 n2 q2 A' n' q' k U, defers := D.map mark } ∧ DI w0 wr B c A' n' q' said S S rb D ∧ (PI 3 S said CG E o t ∧ ∀ j, j < 3 → 0 ≤ (S j).l.to) ∧ said.length ≤ k + 1
theorem DuJ.mk' {w0 : World} {B c rb : Nat} {A : Option Addr} {n q : Nat} {A2 : Option Addr} {n2 q2 : Nat} {a : Act} {wr : World} {A' : Option Addr} {n' q' : Nat} {said : List Mg} {S : Nat → Sd} {E : Int} {o : Nat} {t : Bool} {D : List Nat} {k : Nat}
    (ht : a.tmps = DuT rb c A n q A2 n2 q2 A' n' q' k (fun i => a.tmps.getD i undef)) (hd : a.defers = D.map mark) (h : DI w0 wr B c A' n' q' said S S rb D) (hp : PI 3 S said CG E o t ∧ ∀ j, j < 3 → 0 ≤ (S j).l.to) (hl : said.length ≤ k + 1) : DuJ w0 B c rb A n q A2 n2 q2 D k a wr := by
  obtain ⟨ts, ds⟩ := a
  simp only at ht hd
  refine ⟨fun i => ts.getD i undef, A', n', q', said, S, E, o, t, ?_, h, hp, hl⟩
  rw [← ht, hd]
theorem index_msg (g off n q ix : Nat) {x : Int} (hi : ix < n) (hx : x = (ix : Int)) (V : World) :
    (Instr.indexAt 32 (.slice (some ⟨g, off, none⟩) n q) (.int .i64 x)).run Try.prog V = .ok (.pointer (some ⟨g, off + ix * 5, none⟩)) V := by
  have hs : (sizeOf 37).run Try.prog V = .ok 5 V := by kernel_rfl
  subst hx
  simp [Instr.indexAt, asIntOf, run_underlying Try.underlying32, hi, hs, go_sem]
set_option maxRecDepth 100000 in
set_option maxHeartbeats 4000000 in
theorem durable_walk (A : Option Addr) (n q : Nat) (K : List Int) (A2 : Option Addr) (n2 q2 : Nat) (K2 : List Int) (w : World) (h : RR w u16c 1 A n q K) (h2 : RR w u8c 1 A2 n2 q2 K2) (hK : ∀ x ∈ K, 0 ≤ x ∧ x ≤ 65535) (hK2 : ∀ x ∈ K2, 0 ≤ x ∧ x ≤ 255) :
    Calls Try.prog 9 #[.slice A n q, .slice A2 n2 q2] w fun e w' => e = .returned (.bool true) ∧ Below w.heap.size w w' := by
  obtain ⟨i0, hi0, hz0, hz1, hz2⟩ := info_parts Try.infoMsgD
  have Hi := Lib.hid hi0
  have Hz := Lib.hid hz0
  have Hz1 := Lib.hid hz1
  have Hz2 := Lib.hid hz2
  clear hi0 hz0 hz1 hz2
  have hmx : n ≤ 9223372036854775807 := by have h1 := h.cap; have h2 := h.max; simp only [maxLen] at h2; omega
  have HK := Lib.hid hK
  have HK2 := Lib.hid hK2
  clear hK hK2
  obtain ⟨W1, hW1⟩ : ∃ V, w.alloc (.cells #[.bool false] 4) = V := ⟨_, rfl⟩
  have nW1_r : CB W1 (w.heap.size) 4 #[.bool false] := by
    rw [← hW1]
    have := (CB.new w 4 #[.bool false])
    simpa using this
  have lW1 : Below w.heap.size w W1 := by rw [← hW1]; exact le_al _ _
  have HW1 := Lib.hid hW1
  clear hW1
  have r1_a := (h).on lW1
  have r1_a2 := (h2).on lW1
  by_cases h200 : 200 < n
  · skip
    have h200' : decide ((200 : Int) < (n : Int)) = true := by simp; omega
    refine (callsIn_wide (n := 0)).1 ?_
    refine callsIn_of_wp_marks Try.func9 rfl trivial ?_ rfl
    simp only [Try.ntmps9, List.size_toArray, List.length_cons, List.length_nil, Nat.reduceAdd, Nat.reduceSub, Array.replicate_succ, Array.replicate_zero, List.push_toArray, List.append_toArray, List.nil_append, List.cons_append]
    refine wpIn_wide.2 ?_
    go_wp2_with fail
    rw [HW1.out]
    refine (works_c _).mono ?_
    rintro e w2 ⟨rfl, b2⟩
    have r3_r := le_on nW1_r b2
    have r3_a := (r1_a).on b2
    have r3_a2 := (r1_a2).on b2
    have l3 := le_tr lW1 b2
    clear nW1_r r1_a r1_a2 lW1
    clear b2
    have f3_r0 : w2.cell? ⟨w.heap.size, 0, none⟩ = some (.bool false) := CB.cell r3_r 0
    have z3_r0 : w2.frozen? ⟨w.heap.size, 0, none⟩ = false := CB.frozen r3_r 0
    obtain ⟨V4, hV4⟩ : ∃ V, w2.setCell ⟨w.heap.size, 0, none⟩ (.bool true) = V := ⟨_, rfl⟩
    have nV4 : CB V4 (w.heap.size) 4 #[.bool true] := by rw [← hV4]; exact cb_cast (CB.put r3_r 0 (.bool true)) (by kernel_rfl)
    have oV4 := (Below.setCell l3 (p := ⟨w.heap.size, 0, none⟩) (by dsimp only; omega) (.bool true))
    rw [hV4] at oV4
    have HV4 := Lib.hid hV4
    clear hV4
    clear r3_r l3
    go_wp2_with fail
    rw [HV4.out]
    have x0 := CB.cell nV4 0
    exact leaves_nil ⟨.bool true, by simp [results, Try.results9, go_sem, x0], rfl, oV4⟩
  have h200' : decide ((200 : Int) < (n : Int)) = false := by simp; omega
  refine (callsIn_wide (n := 0)).1 ?_
  refine callsIn_of_wp_marks Try.func9 rfl trivial ?_ rfl
  simp only [Try.ntmps9, List.size_toArray, List.length_cons, List.length_nil, Nat.reduceAdd, Nat.reduceSub, Array.replicate_succ, Array.replicate_zero, List.push_toArray, List.append_toArray, List.nil_append, List.cons_append]
  refine wpIn_wide.2 ?_
  go_wp2_with fail
  rw [HW1.out]
  refine (works_c _).mono ?_
  rintro e w2 ⟨rfl, b2⟩
  have r3_r := le_on nW1_r b2
  have r3_a := (r1_a).on b2
  have r3_a2 := (r1_a2).on b2
  have l3 := le_tr lW1 b2
  clear nW1_r r1_a r1_a2 lW1
  clear b2
  go_wp2_with fail
  have lB := l3.size
  refine (US.new_ok 8 _ (by decide) (by decide)).mono ?_
  rintro e w5 ⟨c, rfl, hce, b5⟩
  obtain ⟨B, hBe⟩ : ∃ B, w2.heap.size = B := ⟨_, rfl⟩
  rw [hBe] at hce lB
  have r4_r := le_on r3_r b5
  have r4_a := (r3_a).on b5
  have r4_a2 := (r3_a2).on b5
  have l4 := le_tr l3 b5
  clear r3_r r3_a r3_a2 l3
  clear b5 hBe
  go_wp2_with fail
  go_loopw [40] (fun i wr => ∃ k : Nat, k ≤ 3 ∧ i = .int .u8 k ∧ US.CE B wr c 8 ((LS (begS CG)).take k) [] ∧ CB wr w.heap.size 4 #[.bool false] ∧ Below w.heap.size w wr) (fun i _ => 3 - (intOf i).toNat)
  case atStart => exact ⟨0, by omega, rfl, hce, r4_r, l4⟩
  case round =>
    obtain ⟨k, hk, rfl, q1, q2, q3⟩ := hrel
    clear hce r4_r l4 r4_a r4_a2
    rcases (by omega : k = 0 ∨ k = 1 ∨ k = 2 ∨ k = 3) with rfl | rfl | rfl | rfl
    · skip
      have av_x : w.heap.size ≤ wr.heap.size := by have := q3.size; omega
      obtain ⟨W1, hW1⟩ : ∃ V, wr.alloc (.cells #[.int .u8 0, .int .i64 1, .int .i64 1, .int .u8 0, .string ⟨#[99, 97, 114, 103, 111]⟩, .bool false] 31) = V := ⟨_, rfl⟩
      have zW1 : wr.heap.size = wr.heap.size := by rfl
      have nW1 : CB W1 (wr.heap.size) 31 #[.int .u8 0, .int .i64 1, .int .i64 1, .int .u8 0, .string ⟨#[99, 97, 114, 103, 111]⟩, .bool false] := by rw [← zW1, ← hW1]; exact CB.new _ _ _
      have bW1 : Below wr.heap.size wr W1 := by rw [← hW1]; exact le_al _ _
      have neW1_r : w.heap.size ≠ wr.heap.size := by have := CB.lt q2; omega
      have HW1 := Lib.hid hW1
      clear hW1 zW1
      have r2_r := le_on q2 bW1
      have r2_e := (q1).on bW1
      have l2 := le_tr q3 bW1
      clear q2 q1 q3
      clear bW1
      have f2_x0 : (wr.alloc (.cells #[.int .u8 0, .int .i64 1, .int .i64 1, .int .u8 0, .string ⟨#[99, 97, 114, 103, 111]⟩, .bool false] 31)).cell? ⟨wr.heap.size, 0, none⟩ = some (.int .u8 0) := by rw [HW1.out]; exact CB.cell nW1 0
      have f2_x1 : (wr.alloc (.cells #[.int .u8 0, .int .i64 1, .int .i64 1, .int .u8 0, .string ⟨#[99, 97, 114, 103, 111]⟩, .bool false] 31)).cell? ⟨wr.heap.size, 1, none⟩ = some (.int .i64 1) := by rw [HW1.out]; exact CB.cell nW1 1
      have f2_x2 : (wr.alloc (.cells #[.int .u8 0, .int .i64 1, .int .i64 1, .int .u8 0, .string ⟨#[99, 97, 114, 103, 111]⟩, .bool false] 31)).cell? ⟨wr.heap.size, 2, none⟩ = some (.int .i64 1) := by rw [HW1.out]; exact CB.cell nW1 2
      have f2_x3 : (wr.alloc (.cells #[.int .u8 0, .int .i64 1, .int .i64 1, .int .u8 0, .string ⟨#[99, 97, 114, 103, 111]⟩, .bool false] 31)).cell? ⟨wr.heap.size, 3, none⟩ = some (.int .u8 0) := by rw [HW1.out]; exact CB.cell nW1 3
      have f2_x4 : (wr.alloc (.cells #[.int .u8 0, .int .i64 1, .int .i64 1, .int .u8 0, .string ⟨#[99, 97, 114, 103, 111]⟩, .bool false] 31)).cell? ⟨wr.heap.size, 4, none⟩ = some (.string ⟨#[99, 97, 114, 103, 111]⟩) := by rw [HW1.out]; exact CB.cell nW1 4
      have f2_x5 : (wr.alloc (.cells #[.int .u8 0, .int .i64 1, .int .i64 1, .int .u8 0, .string ⟨#[99, 97, 114, 103, 111]⟩, .bool false] 31)).cell? ⟨wr.heap.size, 5, none⟩ = some (.bool false) := by rw [HW1.out]; exact CB.cell nW1 5
      go_wp2_with fail
      rw [HW1.out]
      clear f2_x0 f2_x1 f2_x2 f2_x3 f2_x4 f2_x5
      have R : Calls Try.prog 28 #[.pointer (some ⟨c, 0, none⟩), .int .u8 0, .agg #[.int .u8 0, .int .i64 1, .int .i64 1, .int .u8 0, .string ⟨#[99, 97, 114, 103, 111]⟩, .bool false]] W1 fun e w' => e = .returned (.int .i64 0) ∧ US.CE B w' c 8 ((LS (begS CG)).take 1) [] ∧ CF B W1 w' c := US.set_ok B c 8 _ [] _ r2_e 0 (begS CG 0) (by decide) (.inr (by decide))
      have hrc := US.CE.ne r2_e r2_r (by decide)
      refine R.mono ?_
      rintro e w9 ⟨rfl, r1, r2⟩
      have hr9 := CF.cb r2 r2_r hrc
      have hl9 := Below.trans l2 (r2.low.mono lB)
      clear R r2 hrc r2_r nW1 l2 r2_e
      go_wp2_with fail
      go_roundw
      case rel => exact ⟨1, by omega, rfl, r1, hr9, hl9⟩
      case measure => simp [intOf]
    · skip
      have av_x : w.heap.size ≤ wr.heap.size := by have := q3.size; omega
      obtain ⟨W1, hW1⟩ : ∃ V, wr.alloc (.cells #[.int .u8 1, .int .i64 0, .int .i64 0, .int .u8 0, .string ⟨#[]⟩, .bool false] 31) = V := ⟨_, rfl⟩
      have zW1 : wr.heap.size = wr.heap.size := by rfl
      have nW1 : CB W1 (wr.heap.size) 31 #[.int .u8 1, .int .i64 0, .int .i64 0, .int .u8 0, .string ⟨#[]⟩, .bool false] := by rw [← zW1, ← hW1]; exact CB.new _ _ _
      have bW1 : Below wr.heap.size wr W1 := by rw [← hW1]; exact le_al _ _
      have neW1_r : w.heap.size ≠ wr.heap.size := by have := CB.lt q2; omega
      have HW1 := Lib.hid hW1
      clear hW1 zW1
      have r2_r := le_on q2 bW1
      have r2_e := (q1).on bW1
      have l2 := le_tr q3 bW1
      clear q2 q1 q3
      clear bW1
      have f2_x0 : (wr.alloc (.cells #[.int .u8 1, .int .i64 0, .int .i64 0, .int .u8 0, .string ⟨#[]⟩, .bool false] 31)).cell? ⟨wr.heap.size, 0, none⟩ = some (.int .u8 1) := by rw [HW1.out]; exact CB.cell nW1 0
      have f2_x1 : (wr.alloc (.cells #[.int .u8 1, .int .i64 0, .int .i64 0, .int .u8 0, .string ⟨#[]⟩, .bool false] 31)).cell? ⟨wr.heap.size, 1, none⟩ = some (.int .i64 0) := by rw [HW1.out]; exact CB.cell nW1 1
      have f2_x2 : (wr.alloc (.cells #[.int .u8 1, .int .i64 0, .int .i64 0, .int .u8 0, .string ⟨#[]⟩, .bool false] 31)).cell? ⟨wr.heap.size, 2, none⟩ = some (.int .i64 0) := by rw [HW1.out]; exact CB.cell nW1 2
      have f2_x3 : (wr.alloc (.cells #[.int .u8 1, .int .i64 0, .int .i64 0, .int .u8 0, .string ⟨#[]⟩, .bool false] 31)).cell? ⟨wr.heap.size, 3, none⟩ = some (.int .u8 0) := by rw [HW1.out]; exact CB.cell nW1 3
      have f2_x4 : (wr.alloc (.cells #[.int .u8 1, .int .i64 0, .int .i64 0, .int .u8 0, .string ⟨#[]⟩, .bool false] 31)).cell? ⟨wr.heap.size, 4, none⟩ = some (.string ⟨#[]⟩) := by rw [HW1.out]; exact CB.cell nW1 4
      have f2_x5 : (wr.alloc (.cells #[.int .u8 1, .int .i64 0, .int .i64 0, .int .u8 0, .string ⟨#[]⟩, .bool false] 31)).cell? ⟨wr.heap.size, 5, none⟩ = some (.bool false) := by rw [HW1.out]; exact CB.cell nW1 5
      go_wp2_with fail
      rw [HW1.out]
      clear f2_x0 f2_x1 f2_x2 f2_x3 f2_x4 f2_x5
      have R : Calls Try.prog 28 #[.pointer (some ⟨c, 0, none⟩), .int .u8 1, .agg #[.int .u8 1, .int .i64 0, .int .i64 0, .int .u8 0, .string ⟨#[]⟩, .bool false]] W1 fun e w' => e = .returned (.int .i64 0) ∧ US.CE B w' c 8 ((LS (begS CG)).take 2) [] ∧ CF B W1 w' c := US.set_ok B c 8 _ [] _ r2_e 1 (begS CG 1) (by decide) (.inr (by decide))
      have hrc := US.CE.ne r2_e r2_r (by decide)
      refine R.mono ?_
      rintro e w9 ⟨rfl, r1, r2⟩
      have hr9 := CF.cb r2 r2_r hrc
      have hl9 := Below.trans l2 (r2.low.mono lB)
      clear R r2 hrc r2_r nW1 l2 r2_e
      go_wp2_with fail
      go_roundw
      case rel => exact ⟨2, by omega, rfl, r1, hr9, hl9⟩
      case measure => simp [intOf]
    · skip
      have av_x : w.heap.size ≤ wr.heap.size := by have := q3.size; omega
      obtain ⟨W1, hW1⟩ : ∃ V, wr.alloc (.cells #[.int .u8 2, .int .i64 0, .int .i64 0, .int .u8 0, .string ⟨#[]⟩, .bool false] 31) = V := ⟨_, rfl⟩
      have zW1 : wr.heap.size = wr.heap.size := by rfl
      have nW1 : CB W1 (wr.heap.size) 31 #[.int .u8 2, .int .i64 0, .int .i64 0, .int .u8 0, .string ⟨#[]⟩, .bool false] := by rw [← zW1, ← hW1]; exact CB.new _ _ _
      have bW1 : Below wr.heap.size wr W1 := by rw [← hW1]; exact le_al _ _
      have neW1_r : w.heap.size ≠ wr.heap.size := by have := CB.lt q2; omega
      have HW1 := Lib.hid hW1
      clear hW1 zW1
      have r2_r := le_on q2 bW1
      have r2_e := (q1).on bW1
      have l2 := le_tr q3 bW1
      clear q2 q1 q3
      clear bW1
      have f2_x0 : (wr.alloc (.cells #[.int .u8 2, .int .i64 0, .int .i64 0, .int .u8 0, .string ⟨#[]⟩, .bool false] 31)).cell? ⟨wr.heap.size, 0, none⟩ = some (.int .u8 2) := by rw [HW1.out]; exact CB.cell nW1 0
      have f2_x1 : (wr.alloc (.cells #[.int .u8 2, .int .i64 0, .int .i64 0, .int .u8 0, .string ⟨#[]⟩, .bool false] 31)).cell? ⟨wr.heap.size, 1, none⟩ = some (.int .i64 0) := by rw [HW1.out]; exact CB.cell nW1 1
      have f2_x2 : (wr.alloc (.cells #[.int .u8 2, .int .i64 0, .int .i64 0, .int .u8 0, .string ⟨#[]⟩, .bool false] 31)).cell? ⟨wr.heap.size, 2, none⟩ = some (.int .i64 0) := by rw [HW1.out]; exact CB.cell nW1 2
      have f2_x3 : (wr.alloc (.cells #[.int .u8 2, .int .i64 0, .int .i64 0, .int .u8 0, .string ⟨#[]⟩, .bool false] 31)).cell? ⟨wr.heap.size, 3, none⟩ = some (.int .u8 0) := by rw [HW1.out]; exact CB.cell nW1 3
      have f2_x4 : (wr.alloc (.cells #[.int .u8 2, .int .i64 0, .int .i64 0, .int .u8 0, .string ⟨#[]⟩, .bool false] 31)).cell? ⟨wr.heap.size, 4, none⟩ = some (.string ⟨#[]⟩) := by rw [HW1.out]; exact CB.cell nW1 4
      have f2_x5 : (wr.alloc (.cells #[.int .u8 2, .int .i64 0, .int .i64 0, .int .u8 0, .string ⟨#[]⟩, .bool false] 31)).cell? ⟨wr.heap.size, 5, none⟩ = some (.bool false) := by rw [HW1.out]; exact CB.cell nW1 5
      go_wp2_with fail
      rw [HW1.out]
      clear f2_x0 f2_x1 f2_x2 f2_x3 f2_x4 f2_x5
      have R : Calls Try.prog 28 #[.pointer (some ⟨c, 0, none⟩), .int .u8 2, .agg #[.int .u8 2, .int .i64 0, .int .i64 0, .int .u8 0, .string ⟨#[]⟩, .bool false]] W1 fun e w' => e = .returned (.int .i64 0) ∧ US.CE B w' c 8 ((LS (begS CG)).take 3) [] ∧ CF B W1 w' c := US.set_ok B c 8 _ [] _ r2_e 2 (begS CG 2) (by decide) (.inr (by decide))
      have hrc := US.CE.ne r2_e r2_r (by decide)
      refine R.mono ?_
      rintro e w9 ⟨rfl, r1, r2⟩
      have hr9 := CF.cb r2 r2_r hrc
      have hl9 := Below.trans l2 (r2.low.mono lB)
      clear R r2 hrc r2_r nW1 l2 r2_e
      go_wp2_with fail
      go_roundw
      case rel => exact ⟨3, by omega, rfl, r1, hr9, hl9⟩
      case measure => simp [intOf]
    · skip
      have q1' : US.CE B wr c 8 (LS (begS CG)) [] := q1
      go_wp2_with fail
      refine (US.sync_c B c 8 _ _ _ q1').mono ?_
      rintro e w9 ⟨rfl, r1, r2⟩
      have hrc := US.CE.ne q1 q2 (by decide)
      have hd9 : DI w w9 B c none 0 0 [] (begS CG) (begS CG) w.heap.size [] := ⟨r1, ⟨none, Seg.nil _ _ _, fun g e => by cases e⟩, CF.cb r2 q2 hrc, (fun b hb => by cases hb), Below.trans q3 (r2.low.mono lB), lB, Nat.le_refl _, (fun b hb => by cases hb), List.nodup_nil⟩
      clear q1 q1' q2 q3 r1 r2 hrc hk
      go_wp2_with fail
      refine wp_loop_ghost (DuI w B c w.heap.size A n q A2 n2 q2) n (DuI.mk' 0 (by omega) (by kernel_rfl) rfl hd9 ⟨PI.start (by omega) (by omega) CG (by decide), fun j hj => by unfold begS; simp only; split <;> decide⟩ (by simp)) ?_
      rintro m a wr ⟨U, A', n', q', said, S, E, o, t, D, k, hk, rfl, hd, ⟨hp, hto0⟩, hl⟩
      clear hd9
      unfold DuT
      by_cases hkn : k < n
      · have hkn' : decide ((k : Int) < (n : Int)) = true := by simp; omega
        obtain ⟨g, off, x, hx, rfl, hc⟩ := (h.on hd.low).at_ hkn
        have hx0 : wr.cell? ⟨g, off + k, none⟩ = some (.int .u16 x) := by have := hc 0 _ rfl; simpa using this
        obtain ⟨v, rfl⟩ : ∃ v : Nat, x = v := ⟨x.toNat, by have := HK.out x (List.mem_of_getElem? hx); omega⟩
        have hv : v < 65536 := by have := HK.out _ (List.mem_of_getElem? hx); omega
        clear hc hx
        go_upto_region 19 with fail
        go_cut [80] from 64 to 80 (fun s80 wx => s80 = .bool false ∧ DI w wx B c A' n' q' said S S w.heap.size D)
        case first =>
          by_cases hk2 : k < n2
          · have hk2' : decide ((k : Int) < (n2 : Int)) = true := by simp; omega
            obtain ⟨g2, off2, y, hy, rfl, hc2⟩ := (h2.on hd.low).at_ hk2
            have hy0 : wr.cell? ⟨g2, off2 + k, none⟩ = some (.int .u8 y) := by have := hc2 0 _ rfl; simpa using this
            obtain ⟨y, rfl⟩ : ∃ z : Nat, y = z := ⟨y.toNat, by have := HK2.out y (List.mem_of_getElem? hy); omega⟩
            clear hc2 hy
            by_cases hev : y % 2 = 0
            · have hev1 : (y : Int).tmod 2 = 0 := by rw [Int.tmod_eq_emod_of_nonneg (by omega)]; omega
              have hev2 : (y : Int) % 2 = 0 := by omega
              clear hev
              go_wp2_with fail
              refine (US.crash_c B c 8 _ _ _ hd.ce).mono ?_
              rintro e wA ⟨rfl, r1, r2⟩
              have hd' := hd.cf r2 r1
              clear r1 r2
              go_wp2_with fail
              go_meet
              case rel => exact ⟨rfl, hd'⟩
            · have hev1 : ((y : Int).tmod 2 == 0) = false := by rw [Int.tmod_eq_emod_of_nonneg (by omega)]; simp; omega
              have hev2 : ((y : Int) % 2 == 0) = false := by simp; omega
              clear hev
              go_wp2_with fail
              go_meet
              case rel => exact ⟨rfl, hd⟩
          · have hk2' : decide ((k : Int) < (n2 : Int)) = false := by simp; omega
            go_wp2_with fail
            go_meet
            case rel => exact ⟨rfl, hd⟩
        case rest =>
          obtain ⟨rfl, hd1⟩ := hcut
          clear hd hx0
          generalize wc = V at *
          go_wp2_with fail
          obtain ⟨s, hs, hse⟩ : ∃ s : Nat, s < 3 ∧ (v : Int) % 3 = (s : Int) := ⟨v % 3, by omega, by omega⟩
          rw [hse]
          obtain ⟨⟨sme, ⟨sep, sst, sto⟩, scg, skp⟩, hS⟩ : ∃ z, S s = z := ⟨_, rfl⟩
          have K0 := US.get_yes B c 8 _ _ _ hd1.ce s (S s) (u8_lt hs) (LS.get S hs)
          rw [hS] at K0
          go_wp2_with fail
          refine (K0).mono ?_
          rintro e w1 ⟨rfl, b1⟩
          have r2_d := (hd1).on b1
          have l2 := b1
          clear hd1
          clear b1
          clear K0
          have av_x : V.heap.size ≤ w1.heap.size := by have := l2.size; omega
          obtain ⟨W3, hW3⟩ : ∃ V, w1.alloc (.cells #[.int .u8 sme, .int .i64 sep, .int .i64 sst, .int .u8 sto, .string scg, .bool skp] 31) = V := ⟨_, rfl⟩
          have zW3 : w1.heap.size = w1.heap.size := by rfl
          have nW3 : CB W3 (w1.heap.size) 31 #[.int .u8 sme, .int .i64 sep, .int .i64 sst, .int .u8 sto, .string scg, .bool skp] := by rw [← zW3, ← hW3]; exact CB.new _ _ _
          have bW3 : Below w1.heap.size w1 W3 := by rw [← hW3]; exact le_al _ _
          have HW3 := Lib.hid hW3
          clear hW3 zW3
          have r4_d := (r2_d).on bW3
          have l4 := le_tr l2 bW3
          clear r2_d l2
          clear bW3
          go_upto_region 25 with fail
          rw [HW3.out]
          rename_i KR hKR Kn hKn
          have hrest : ∀ (a' : Act) (w' : World), DuJ w B c w.heap.size (some ⟨g, off, none⟩) n q A2 n2 q2 D k a' w' → KR a' w' := by
            clear nW3 r4_d hse hs hp hto0 hl
            rintro a' w' ⟨U', A', n', q', said, S, E, o, t, rfl, hd, ⟨hp, hto0⟩, hl⟩
            unfold DuT
            have hrbl : w.heap.size ≠ w'.heap.size := by have := CB.lt hd.rs; omega
            have hwl := hd.low.size
            have lw := Below.refl w'.heap.size w'
            have av_hb : w'.heap.size ≤ w'.heap.size := by have := lw.size; omega
            obtain ⟨W1, hW1⟩ : ∃ V, w'.alloc (.cells #[.int .i64 0] 3) = V := ⟨_, rfl⟩
            have zW1 : w'.heap.size = w'.heap.size := by rfl
            have nW1 : CB W1 (w'.heap.size) 3 #[.int .i64 0] := by rw [← zW1, ← hW1]; exact CB.new _ _ _
            have bW1 : Below w'.heap.size w' W1 := by rw [← hW1]; exact le_al _ _
            have HW1 := Lib.hid hW1
            clear hW1 zW1
            have r2_d := (hd).on bW1
            have l2 := le_tr lw bW1
            clear hd lw
            clear bW1
            have K8 : ∀ W, DI w W B c A' n' q' said S S w.heap.size D → Calls Try.prog 32 #[.pointer (some ⟨c, 0, none⟩)] W (fun e W' => ∃ A cp G, e = .returned (.func (.func 60) #[.slice A 3 cp] #[]) ∧ Seg W' 148 7 A 3 cp (US.cel (LS S)) G ∧ Below W.heap.size W W') := fun W hW => (US.all_c B c 8 _ _ W hW.ce).mono (by rintro e W' ⟨A, cp, G, h1, h2, _, h4⟩; exact ⟨A, cp, G, h1, h2, h4⟩)
            go_wp2_with fail
            rw [HW1.out]
            refine (K8 _ r2_d).mono ?_
            rintro e w3 ⟨A8, cp8, G8, rfl, hsg, b3⟩
            have r4_hb := le_on nW1 b3
            have r4_d := (r2_d).on b3
            have l4 := le_tr l2 b3
            clear nW1 r2_d l2
            clear b3
            clear K8
            have hDs : ∀ b ∈ D, b < w3.heap.size := fun b hb => (Array.getElem?_eq_some_iff.1 ((r4_d).mks b hb)).1
            have hl0 := (r4_d).low.size
            go_wp2_with fail
            refine (wpIn_wide (n := 0)).1 ?_
            refine range_law_ab (gf := 60) (fb := #[.slice A8 3 cp8]) rfl (enters_of Try.func60 (by kernel_rfl) rfl) (US.row_iter A8 cp8 (LS S) G8 (show 3 ≤ 10000 by omega)) (fun _ => rfl)
              (fun kk W => DI w W B c A' n' q' said S S w.heap.size D ∧ CB W (w'.heap.size) 3 #[.int .i64 (heldN S kk)] ∧ Seg W 148 7 A8 3 cp8 (US.cel (LS S)) G8) (fun _ _ => False) ?need ?hI ?hIx ?hA ?h0
              (fun kk => .cells #[.int .u8 ((US.kth (LS S) kk).2).me, .int .i64 ((US.kth (LS S) kk).2).l.ep, .int .i64 ((US.kth (LS S) kk).2).l.st, .int .u8 ((US.kth (LS S) kk).2).l.to, .string ((US.kth (LS S) kk).2).cg, .bool ((US.kth (LS S) kk).2).kp] 31) (fun _ => ⟨_, _, rfl⟩) (fun kk nn => { tmps := #[.slice (some ⟨g, off, none⟩) n q, .slice A2 n2 q2, U' 2, U' 3, .pointer (some ⟨w.heap.size, 0, none⟩), .pointer (some ⟨c, 0, none⟩), U' 6, U' 7, .slice A' n' q', U' 9, U' 10, U' 11, U' 12, U' 13, U' 14, U' 15, U' 16, U' 17, U' 18, U' 19, U' 20, U' 21, .pointer (some ⟨w'.heap.size, 0, none⟩), U' 23, .pointer (some ⟨nn, 0, none⟩), U' 25, U' 26, U' 27, U' 28, U' 29, U' 30, U' 31, U' 32, U' 33, U' 34, U' 35, U' 36, U' 37, U' 38, U' 39, U' 40, U' 41, U' 42, U' 43, U' 44, U' 45, U' 46, U' 47, U' 48, U' 49, U' 50, U' 51, U' 52, U' 53, U' 54, U' 55, U' 56, .slice (some ⟨g, off, none⟩) n q, .int .i64 (n : Int), .int .i64 (k : Int), U' 60, U' 61, U' 62, U' 63, U' 64, U' 65, U' 66, U' 67, U' 68, U' 69, U' 70, U' 71, U' 72, U' 73, U' 74, U' 75, U' 76, U' 77, U' 78, U' 79, U' 80, U' 81, U' 82, U' 83, U' 84, U' 85, U' 86, U' 87, U' 88, U' 89, U' 90, U' 91, U' 92, U' 93, U' 94, U' 95, U' 96, U' 97, U' 98, U' 99, U' 100, U' 101, U' 102, U' 103, U' 104, U' 105, U' 106, U' 107, U' 108, U' 109, U' 110, U' 111, U' 112, U' 113, U' 114, U' 115, U' 116, U' 117, U' 118, U' 119, U' 120, U' 121, U' 122, U' 123, U' 124, U' 125, U' 126, U' 127, U' 128, U' 129, U' 130, U' 131, U' 132, U' 133, U' 134, U' 135, U' 136, U' 137, U' 138, U' 139, U' 140, U' 141, U' 142, U' 143, U' 144, U' 145, U' 146, U' 147, U' 148, U' 149, U' 150, U' 151, U' 152, U' 153, U' 154, U' 155, .pointer (some ⟨c, 0, none⟩), .func (.func 60) #[.slice A8 3 cp8] #[], .int .u8 (US.kth (LS S) kk).1, .agg #[.int .u8 ((US.kth (LS S) kk).2).me, .int .i64 ((US.kth (LS S) kk).2).l.ep, .int .i64 ((US.kth (LS S) kk).2).l.st, .int .u8 ((US.kth (LS S) kk).2).l.to, .string ((US.kth (LS S) kk).2).cg, .bool ((US.kth (LS S) kk).2).kp], U' 160, U' 161, U' 162, U' 163, U' 164, U' 165, U' 166, U' 167, U' 168, U' 169, U' 170, U' 171, U' 172, U' 173, U' 174, U' 175, U' 176, U' 177, U' 178, U' 179, U' 180, U' 181, U' 182, U' 183, U' 184, U' 185, U' 186, U' 187, U' 188, U' 189, U' 190, U' 191, U' 192, U' 193, U' 194, U' 195, U' 196, U' 197, U' 198, U' 199], defers := [] }) ?assign ?body ?done ?stop
            case need => exact fun kk W h => h.2.2
            case hI => exact fun kk W o' h hbk => ⟨h.1.book hbk (fun b hb => by have := hDs b hb; omega) (by omega) _, h.2.1.putBook hbk _, h.2.2.putBook hbk _⟩
            case hIx => exact fun _ _ _ h _ => h
            case hA => exact fun kk W cs t h _ => ⟨h.1.on (le_al _ _), le_on h.2.1 (le_al _ _), h.2.2.on (le_al _ _)⟩
            case h0 => exact fun r => ⟨((r4_d).on (le_al _ _)).on (le_al _ _), le_on (le_on r4_hb (le_al _ _)) (le_al _ _), (hsg.on (le_al _ _)).on (le_al _ _)⟩
            case assign =>
              intro l kk W K hK
              gi_wp2
              exact hK
            case body =>
              rintro l kk W nn hkk ⟨h1, h2', h3⟩ bk1 bk2 hn hnl
              have hk3 : kk < 3 := hkk
              rw [LS.kth S hk3] at hn ⊢
              obtain ⟨⟨yme, ⟨yep, yst, yto⟩, ycg, ykp⟩, hY⟩ : ∃ z, S kk = z := ⟨_, rfl⟩
              rw [hY] at hn ⊢
              simp only at hn ⊢
              have hcb : CB W nn 31 #[.int .u8 yme, .int .i64 yep, .int .i64 yst, .int .u8 yto, .string ycg, .bool ykp] := hn
              have hrl : rightL ⟨yep, yst, yto⟩ = true := by have := (hp.val kk hk3).1.2.1; rw [hY] at this; exact this
              have hin : inL ⟨yep, yst, yto⟩ := inL_of hrl (by have := hto0 kk hk3; rw [hY] at this; exact this)
              have Ke : ∀ W, Calls Try.prog 33 #[.agg #[.int .i64 yep, .int .i64 yst, .int .u8 yto]] W (fun e W' => ∃ A n c, e = .returned (.tuple #[.slice A n c, .int .i64 0]) ∧ Dk.BR W' W'.heap.size A n c (Dk.bLe ⟨yep, yst, yto⟩) ∧ Below W.heap.size W W') := fun W => (Dk.encL_c yep yst yto W hin).mono (by
                rintro e W' ⟨A, n, c, G, h1, h2, h3⟩
                have hk0 : Dk.kLe ⟨yep, yst, yto⟩ = 0 := by unfold Dk.kLe; rw [if_pos hrl]
                rw [hk0] at h1
                exact ⟨A, n, c, h1, Dk.BR.of_seg h2, h3⟩)
              have Kd : ∀ W A n c, Dk.BR W W.heap.size A n c (Dk.bLe ⟨yep, yst, yto⟩) → Calls Try.prog 34 #[.slice A n c] W (fun e W' => e = .returned (.tuple #[.agg #[.int .i64 yep, .int .i64 yst, .int .u8 yto], .int .i64 0]) ∧ Below W.heap.size W W') := fun W A n c hbr => (by
                have := Dk.decL_c A n c _ W hbr
                obtain ⟨k1, k2⟩ := Dk.kD_back hin hrl
                rw [k1, k2] at this
                exact this)
              have hhn := heldN_le hp kk (by omega)
              have hhb : 0 ≤ heldN S kk ∧ heldN S kk ≤ 1 := ⟨hhn.1, Int.le_trans hhn.2 (by split <;> omega)⟩
              obtain ⟨hb1, hb2⟩ := hhb
              clear hhn hrl hin
              have hnb1 := CB.noBook h2' bk1
              have hnb2 := CB.noBook h2' bk2
              have lw2 := Below.refl W.heap.size W
              have hnh : nn ≠ w'.heap.size := by have := CB.lt r4_hb; omega
              have f0_y0 : W.cell? ⟨nn, 0, none⟩ = some (.int .u8 yme) := CB.cell hcb 0
              have f0_y1 : W.cell? ⟨nn, 1, none⟩ = some (.int .i64 yep) := CB.cell hcb 1
              have f0_y2 : W.cell? ⟨nn, 2, none⟩ = some (.int .i64 yst) := CB.cell hcb 2
              have f0_y3 : W.cell? ⟨nn, 3, none⟩ = some (.int .u8 yto) := CB.cell hcb 3
              have f0_y4 : W.cell? ⟨nn, 4, none⟩ = some (.string ycg) := CB.cell hcb 4
              have f0_y5 : W.cell? ⟨nn, 5, none⟩ = some (.bool ykp) := CB.cell hcb 5
              gi_wp2_with fail
              refine ⟨trivial, rfl, CallsIn.inRound l ((callsIn_wide.2 (Ke _)).mono ?_)⟩
              rintro e w1 ⟨A5, n5, c5, rfl, hbr, b1⟩
              clear f0_y0 f0_y1 f0_y2 f0_y3 f0_y4 f0_y5
              have r2_y := le_on hcb b1
              have r2_h := le_on h2' b1
              have r2_d := (h1).on b1
              have r2_sg := (h3).on b1
              have l2 := le_tr lw2 b1
              clear hcb h2' h1 h3 lw2
              clear b1
              clear Ke
              gi_wp2_with fail
              refine ⟨trivial, rfl, CallsIn.inRound l ((callsIn_wide.2 (Kd _ _ _ _ hbr)).mono ?_)⟩
              rintro e w3 ⟨rfl, b3⟩
              have r4_y := le_on r2_y b3
              have r4_h := le_on r2_h b3
              have r4_d := (r2_d).on b3
              have r4_sg := (r2_sg).on b3
              have l4 := le_tr l2 b3
              clear r2_y r2_h r2_d r2_sg l2
              clear b3
              clear Kd hbr
              have av_ls : W.heap.size ≤ w3.heap.size := by have := l4.size; omega
              obtain ⟨W5, hW5⟩ : ∃ V, w3.alloc (.cells #[.int .i64 yep, .int .i64 yst, .int .u8 yto] 29) = V := ⟨_, rfl⟩
              have zW5 : w3.heap.size = w3.heap.size := by rfl
              have nW5 : CB W5 (w3.heap.size) 29 #[.int .i64 yep, .int .i64 yst, .int .u8 yto] := by rw [← zW5, ← hW5]; exact CB.new _ _ _
              have bW5 : Below w3.heap.size w3 W5 := by rw [← hW5]; exact le_al _ _
              have neW5_y : nn ≠ w3.heap.size := by have := CB.lt r4_y; omega
              have neW5_h : w'.heap.size ≠ w3.heap.size := by have := CB.lt r4_h; omega
              have HW5 := Lib.hid hW5
              clear hW5 zW5
              have r6_y := le_on r4_y bW5
              have r6_h := le_on r4_h bW5
              have r6_d := (r4_d).on bW5
              have r6_sg := (r4_sg).on bW5
              have l6 := le_tr l4 bW5
              clear r4_y r4_h r4_d r4_sg l4
              clear bW5
              have f6_y0 : (w3.alloc (.cells #[.int .i64 yep, .int .i64 yst, .int .u8 yto] 29)).cell? ⟨nn, 0, none⟩ = some (.int .u8 yme) := by rw [HW5.out]; exact CB.cell r6_y 0
              have f6_y1 : (w3.alloc (.cells #[.int .i64 yep, .int .i64 yst, .int .u8 yto] 29)).cell? ⟨nn, 1, none⟩ = some (.int .i64 yep) := by rw [HW5.out]; exact CB.cell r6_y 1
              have f6_y2 : (w3.alloc (.cells #[.int .i64 yep, .int .i64 yst, .int .u8 yto] 29)).cell? ⟨nn, 2, none⟩ = some (.int .i64 yst) := by rw [HW5.out]; exact CB.cell r6_y 2
              have f6_y3 : (w3.alloc (.cells #[.int .i64 yep, .int .i64 yst, .int .u8 yto] 29)).cell? ⟨nn, 3, none⟩ = some (.int .u8 yto) := by rw [HW5.out]; exact CB.cell r6_y 3
              have f6_y4 : (w3.alloc (.cells #[.int .i64 yep, .int .i64 yst, .int .u8 yto] 29)).cell? ⟨nn, 4, none⟩ = some (.string ycg) := by rw [HW5.out]; exact CB.cell r6_y 4
              have f6_y5 : (w3.alloc (.cells #[.int .i64 yep, .int .i64 yst, .int .u8 yto] 29)).cell? ⟨nn, 5, none⟩ = some (.bool ykp) := by rw [HW5.out]; exact CB.cell r6_y 5
              have f6_ls0 : (w3.alloc (.cells #[.int .i64 yep, .int .i64 yst, .int .u8 yto] 29)).cell? ⟨w3.heap.size, 0, none⟩ = some (.int .i64 yep) := by rw [HW5.out]; exact CB.cell nW5 0
              have f6_ls1 : (w3.alloc (.cells #[.int .i64 yep, .int .i64 yst, .int .u8 yto] 29)).cell? ⟨w3.heap.size, 1, none⟩ = some (.int .i64 yst) := by rw [HW5.out]; exact CB.cell nW5 1
              have f6_ls2 : (w3.alloc (.cells #[.int .i64 yep, .int .i64 yst, .int .u8 yto] 29)).cell? ⟨w3.heap.size, 2, none⟩ = some (.int .u8 yto) := by rw [HW5.out]; exact CB.cell nW5 2
              have f6_h0 : (w3.alloc (.cells #[.int .i64 yep, .int .i64 yst, .int .u8 yto] 29)).cell? ⟨w'.heap.size, 0, none⟩ = some (.int .i64 (heldN S kk)) := by rw [HW5.out]; exact CB.cell r6_h 0
              have z6_h0 : (w3.alloc (.cells #[.int .i64 yep, .int .i64 yst, .int .u8 yto] 29)).frozen? ⟨w'.heap.size, 0, none⟩ = false := by rw [HW5.out]; exact CB.frozen r6_h 0
              by_cases hst : yst = 1
              · have hcg : ycg = ⟨#[99, 97, 114, 103, 111]⟩ := by have := hp.cgo hk3 (by rw [hY]; exact hst); rw [hY] at this; exact this
                subst hst
                subst hcg
                have hN1 : heldN S (kk + 1) = heldN S kk + 1 := by simp [heldN, hY]
                have fy : ((w3.alloc (.cells #[.int .i64 yep, .int .i64 1, .int .u8 yto] 29)).setCell ⟨w'.heap.size, 0, none⟩ (.int .i64 (heldN S kk + 1))).cell? ⟨nn, 4, none⟩ = some (.string ⟨#[99, 97, 114, 103, 111]⟩) := by rw [HW5.out]; exact CB.cell (CB.far r6_y (p := ⟨w'.heap.size, 0, none⟩) hnh _) 4
                gi_wp2_with fail
                rw [HW5.out]
                refine ⟨Keep2.put ⟨l6.block _ bk1.lt, l6.block _ bk2.lt⟩ hnb1 hnb2 _, DI.far r6_d r6_h (by decide) (by decide) ?_ ?_ 0 _, ?_, ?_⟩
                · exact hrbl
                · exact hwl
                · rw [hN1]; have := CB.put r6_h 0 (.int .i64 (heldN S kk + 1)); simpa using this
                · exact Seg.far r6_sg (p := ⟨w'.heap.size, 0, none⟩) (Seg.ne_ r6_sg r6_h (by decide)) _
              · have hst' : (yst == 1) = false := by simp [hst]
                have hN0 : heldN S (kk + 1) = heldN S kk := by simp [heldN, hY, hst]
                clear hst
                gi_wp2_with fail
                rw [HW5.out]
                exact ⟨⟨l6.block _ bk1.lt, l6.block _ bk2.lt⟩, r6_d, by rw [hN0]; exact r6_h, r6_sg⟩
            case done =>
              rintro W ⟨h1, h2', h3⟩ hdf
              have hh := heldN_le hp 3 (by omega)
              have hh2 : 0 ≤ heldN S 3 ∧ heldN S 3 ≤ 1 := ⟨hh.1, Int.le_trans hh.2 (by split <;> omega)⟩
              have c0 : W.cell? ⟨w'.heap.size, 0, none⟩ = some (.int .i64 (heldN S 3)) := h2'.cell 0
              have K9 : Calls Try.prog 35 #[.pointer (some ⟨c, 0, none⟩)] W (fun e W' => e = .returned (.int .i64 3) ∧ W = W') := US.len_c B c 8 _ _ W h1.ce
              have hdm := h1.addMark hdf hl0 hDs
              generalize heldN S 3 = hN at c0 hh2
              obtain ⟨hh3, hh4⟩ := hh2
              have hh5 : decide (1 < hN) = false := by simp; omega
              clear hh h1 h2' h3 hdf
              go_wp2_with fail
              refine K9.mono ?_
              rintro e W' ⟨rfl, rfl⟩
              clear K9
              go_wp2_with fail
              exact ⟨m - 1, by omega, DuI.mk' (k + 1) (by omega) (by kernel_rfl) rfl hdm ⟨hp, hto0⟩ hl⟩
            case stop => exact fun cd W hx => hx.elim
          clear hKR
          have Hrest := Lib.hid hrest
          clear hrest
          go_upto_region 35 with fail
          have hn' : said.length = n' := (r4_d).sd.rs.len
          have p4 : (0 : Nat) < 5 := by decide
          obtain ⟨j, hj, hje⟩ : ∃ j : Nat, j < 4 ∧ (v : Int) / 3 % 4 = (j : Int) := ⟨v / 3 % 4, by omega, by omega⟩
          rw [hje]
          obtain ⟨p, hp3, hpe⟩ : ∃ p : Nat, p < 3 ∧ (v : Int) / 12 % 3 = (p : Int) := ⟨v / 12 % 3, by omega, by omega⟩
          clear hje
          rcases (by omega : j = 0 ∨ j = 1 ∨ 2 ≤ j) with hj0 | hj1 | hj2
          · have t0 : ((j : Int) == 0) = true := by simp [hj0]
            obtain ⟨⟨akd, afr, ato, aep, acg⟩, hma⟩ : ∃ m, mAsk (S s) (p : Int) = m := ⟨_, rfl⟩
            obtain ⟨ka, hka⟩ : ∃ k, eAsk (S s) (p : Int) = k := ⟨_, rfl⟩
            have K1 : ∀ W, Calls Try.prog 16 #[.agg #[.int .u8 sme, .int .i64 sep, .int .i64 sst, .int .u8 sto, .string scg, .bool skp], .int .u8 (p : Int)] W (fun r w' => r = .returned (.tuple #[.agg #[.int .i64 akd, .int .u8 afr, .int .u8 ato, .int .i64 aep, .string acg], .int .i64 (ka : Int)]) ∧ Below W.heap.size W w') := fun W => (by
              have := hask_c sme sep sst sto scg skp (p : Int) W
              rw [← hS, hma, hka] at this
              exact this)
            have f4_x0 : W3.cell? ⟨w1.heap.size, 0, none⟩ = some (.int .u8 sme) := CB.cell nW3 0
            have f4_x1 : W3.cell? ⟨w1.heap.size, 1, none⟩ = some (.int .i64 sep) := CB.cell nW3 1
            have f4_x2 : W3.cell? ⟨w1.heap.size, 2, none⟩ = some (.int .i64 sst) := CB.cell nW3 2
            have f4_x3 : W3.cell? ⟨w1.heap.size, 3, none⟩ = some (.int .u8 sto) := CB.cell nW3 3
            have f4_x4 : W3.cell? ⟨w1.heap.size, 4, none⟩ = some (.string scg) := CB.cell nW3 4
            have f4_x5 : W3.cell? ⟨w1.heap.size, 5, none⟩ = some (.bool skp) := CB.cell nW3 5
            go_wp2_with fail
            rw [hpe]
            refine (K1 _).mono ?_
            rintro e w5 ⟨rfl, b5⟩
            clear f4_x0 f4_x1 f4_x2 f4_x3 f4_x4 f4_x5
            have r6_x := le_on nW3 b5
            have r6_d := (r4_d).on b5
            have l6 := le_tr l4 b5
            clear nW3 r4_d l4
            clear b5
            have av_m : V.heap.size ≤ w5.heap.size := by have := l6.size; omega
            obtain ⟨W7, hW7⟩ : ∃ V, w5.alloc (.cells #[.int .i64 akd, .int .u8 afr, .int .u8 ato, .int .i64 aep, .string acg] 37) = V := ⟨_, rfl⟩
            have zW7 : w5.heap.size = w5.heap.size := by rfl
            have nW7 : CB W7 (w5.heap.size) 37 #[.int .i64 akd, .int .u8 afr, .int .u8 ato, .int .i64 aep, .string acg] := by rw [← zW7, ← hW7]; exact CB.new _ _ _
            have bW7 : Below w5.heap.size w5 W7 := by rw [← hW7]; exact le_al _ _
            have neW7_x : w1.heap.size ≠ w5.heap.size := by have := CB.lt r6_x; omega
            have HW7 := Lib.hid hW7
            clear hW7 zW7
            have r8_x := le_on r6_x bW7
            have r8_d := (r6_d).on bW7
            have l8 := le_tr l6 bW7
            clear r6_x r6_d l6
            clear bW7
            by_cases hk0 : ka = 0
            · have hk0' : ((ka : Int) == 0) = true := by simp [hk0]
              have HQ : PI 3 S (said ++ [⟨akd, afr, ato, aep, acg⟩]) CG E o t := by have := hp.ask hs hp3 (by rw [hka]; exact hk0); rw [hma] at this; exact this
              have f8_m0 : (w5.alloc (.cells #[.int .i64 akd, .int .u8 afr, .int .u8 ato, .int .i64 aep, .string acg] 37)).cell? ⟨w5.heap.size, 0, none⟩ = some (.int .i64 akd) := by rw [HW7.out]; exact CB.cell nW7 0
              have f8_m1 : (w5.alloc (.cells #[.int .i64 akd, .int .u8 afr, .int .u8 ato, .int .i64 aep, .string acg] 37)).cell? ⟨w5.heap.size, 1, none⟩ = some (.int .u8 afr) := by rw [HW7.out]; exact CB.cell nW7 1
              have f8_m2 : (w5.alloc (.cells #[.int .i64 akd, .int .u8 afr, .int .u8 ato, .int .i64 aep, .string acg] 37)).cell? ⟨w5.heap.size, 2, none⟩ = some (.int .u8 ato) := by rw [HW7.out]; exact CB.cell nW7 2
              have f8_m3 : (w5.alloc (.cells #[.int .i64 akd, .int .u8 afr, .int .u8 ato, .int .i64 aep, .string acg] 37)).cell? ⟨w5.heap.size, 3, none⟩ = some (.int .i64 aep) := by rw [HW7.out]; exact CB.cell nW7 3
              have f8_m4 : (w5.alloc (.cells #[.int .i64 akd, .int .u8 afr, .int .u8 ato, .int .i64 aep, .string acg] 37)).cell? ⟨w5.heap.size, 4, none⟩ = some (.string acg) := by rw [HW7.out]; exact CB.cell nW7 4
              have av_z : V.heap.size ≤ W7.heap.size := by have := l8.size; omega
              obtain ⟨W9, hW9⟩ : ∃ V, W7.alloc (.cells #[.int .i64 akd, .int .u8 afr, .int .u8 ato, .int .i64 aep, .string acg] 37) = V := ⟨_, rfl⟩
              have zW9 : W7.heap.size = w5.heap.size + 1 := by rw [← HW7.out]; simp
              have nW9 : CB W9 (w5.heap.size + 1) 37 #[.int .i64 akd, .int .u8 afr, .int .u8 ato, .int .i64 aep, .string acg] := by rw [← zW9, ← hW9]; exact CB.new _ _ _
              have bW9 : Below W7.heap.size W7 W9 := by rw [← hW9]; exact le_al _ _
              have neW9_x : w1.heap.size ≠ w5.heap.size + 1 := by have := CB.lt r8_x; omega
              have neW9_m : w5.heap.size ≠ w5.heap.size + 1 := by have := CB.lt nW7; omega
              have HW9 := Lib.hid (show (w5.alloc (.cells #[.int .i64 akd, .int .u8 afr, .int .u8 ato, .int .i64 aep, .string acg] 37)).alloc (.cells #[.int .i64 akd, .int .u8 afr, .int .u8 ato, .int .i64 aep, .string acg] 37) = W9 by rw [HW7.out]; exact hW9)
              clear hW9 zW9
              have r10_x := le_on r8_x bW9
              have r10_m := le_on nW7 bW9
              have r10_d := (r8_d).on bW9
              have l10 := le_tr l8 bW9
              clear r8_x nW7 r8_d l8
              clear bW9
              have av_z : V.heap.size ≤ w5.heap.size + 1 := by have := av_z; omega
              obtain ⟨G, hs9, hG⟩ := (r10_d).sd
              have sr := (RS.rr (RS.of_cb nW9)).src
              obtain ⟨N, hN⟩ : ∃ N, n' + 1 = N := ⟨_, rfl⟩
              have p1 : n' + 1 ≤ maxLen := by simp only [maxLen]; omega
              have p2 : (n' + 1) * 40 ≤ 140737488355328 := by omega
              go_wp2_with (at_builtin; rw [HW9.out]; refine wpList_append_src _ rfl (.tmp 146) (.tmp 148) _ rfl 37 i0 _ 5 40 Try.underlying32 Hi.out Hz.out Hz1.out Hz2.out rfl (by decide) rfl hs9 rfl sr (rc_one 5 _) p1 p2 N hN ?_; intro A4 q4 G4 V4 s4 g4 m4; have hd4 := DI.app r10_d hs9 hG s4 g4 m4; clear s4 g4 m4 hs9)
              go_wp2_with fail
              exact Hrest.out _ _ (DuJ.mk' (by kernel_rfl) rfl hd4 ⟨HQ, hto0⟩ (by rw [List.length_append]; simp; omega))
            · have hk0' : ((ka : Int) == 0) = false := by simp; omega
              go_wp2_with fail
              rw [HW7.out]
              exact Hrest.out _ _ (DuJ.mk' (by kernel_rfl) rfl r8_d ⟨hp, hto0⟩ (by omega))
          · have t0 : ((j : Int) == 0) = false := by simp; omega
            have t1 : ((j : Int) == 1) = true := by simp [hj1]
            obtain ⟨R, hR⟩ : ∃ R, againM (S s) = R := ⟨_, rfl⟩
            have HR := Lib.hid hR
            have G1 := fun W => (by have := again_c sme sep sst sto scg skp W; rw [← hS, hR] at this; exact this)
            have HQ : PI 3 S (said ++ R) CG E o t := by have := hp.again hs; rw [hR] at this; exact this
            have hRl : R.length ≤ 1 := by rw [← hR]; unfold againM; split <;> simp
            clear hR
            have f4_x0 : W3.cell? ⟨w1.heap.size, 0, none⟩ = some (.int .u8 sme) := CB.cell nW3 0
            have f4_x1 : W3.cell? ⟨w1.heap.size, 1, none⟩ = some (.int .i64 sep) := CB.cell nW3 1
            have f4_x2 : W3.cell? ⟨w1.heap.size, 2, none⟩ = some (.int .i64 sst) := CB.cell nW3 2
            have f4_x3 : W3.cell? ⟨w1.heap.size, 3, none⟩ = some (.int .u8 sto) := CB.cell nW3 3
            have f4_x4 : W3.cell? ⟨w1.heap.size, 4, none⟩ = some (.string scg) := CB.cell nW3 4
            have f4_x5 : W3.cell? ⟨w1.heap.size, 5, none⟩ = some (.bool skp) := CB.cell nW3 5
            go_wp2_with fail
            refine (G1 _).mono ?_
            rintro e w5 ⟨A7, n7, q7, rfl, hr, b5⟩
            clear f4_x0 f4_x1 f4_x2 f4_x3 f4_x4 f4_x5
            have r6_x := le_on nW3 b5
            have r6_d := (r4_d).on b5
            have l6 := le_tr l4 b5
            clear nW3 r4_d l4
            clear b5
            have hn7 := RS.len hr
            obtain ⟨G, hs9, hG⟩ := (r6_d).sd
            have sr := (RS.rr hr).src
            obtain ⟨N, hN⟩ : ∃ N, n' + n7 = N := ⟨_, rfl⟩
            have p1 : n' + n7 ≤ maxLen := by simp only [maxLen]; omega
            have p2 : (n' + n7) * 40 ≤ 140737488355328 := by omega
            go_wp2_with (at_builtin; refine wpList_append_src _ rfl (.tmp 152) (.tmp 154) _ rfl 37 i0 _ 5 40 Try.underlying32 Hi.out Hz.out Hz1.out Hz2.out rfl (by decide) rfl hs9 rfl sr (rc_one 5 _) p1 p2 N hN ?_; intro A4 q4 G4 V4 s4 g4 m4; have hd4 := DI.app r6_d hs9 hG s4 g4 m4; clear s4 g4 m4 hs9)
            go_wp2_with fail
            exact Hrest.out _ _ (DuJ.mk' (by kernel_rfl) rfl hd4 ⟨HQ, hto0⟩ (by rw [List.length_append]; omega))
          · have t0 : ((j : Int) == 0) = false := by simp; omega
            have t1 : ((j : Int) == 1) = false := by simp; omega
            by_cases hn0 : n' = 0
            · have hn0' : ((n' : Int) == 0) = true := by simp [hn0]
              go_wp2_with fail
              exact Hrest.out _ _ (DuJ.mk' (by kernel_rfl) rfl r4_d ⟨hp, hto0⟩ (by omega))
            have hn0' : ((n' : Int) == 0) = false := by simp; omega
            have hn0i : ¬ (n' : Int) = 0 := by omega
            obtain ⟨ix, hi1, hi2⟩ : ∃ i : Nat, i < n' ∧ (v : Int) / 12 % (n' : Int) = (i : Int) := ⟨v / 12 % n', Nat.mod_lt _ (by omega), by simp⟩
            obtain ⟨g3, off3, ⟨mkd, mfr, mto, mep, mmg⟩, hy, rfl, hc3⟩ := (r4_d).sd.rs.rr.at_ hi1
            have m0 : W3.cell? ⟨g3, off3 + ix * 5, none⟩ = some (.int .i64 mkd) := hc3 0 _ rfl
            have m1 : W3.cell? ⟨g3, off3 + ix * 5 + 1, none⟩ = some (.int .u8 mfr) := hc3 1 _ rfl
            have m2 : W3.cell? ⟨g3, off3 + ix * 5 + 2, none⟩ = some (.int .u8 mto) := hc3 2 _ rfl
            have m3 : W3.cell? ⟨g3, off3 + ix * 5 + 3, none⟩ = some (.int .i64 mep) := hc3 3 _ rfl
            have m4 : W3.cell? ⟨g3, off3 + ix * 5 + 4, none⟩ = some (.string mmg) := hc3 4 _ rfl
            have hix : (Instr.indexAt 32 (.slice (some ⟨g3, off3, none⟩) n' q') (.int .i64 ((v : Int) / 12 % (n' : Int)))).run Try.prog W3 = .ok (.pointer (some ⟨g3, off3 + ix * 5, none⟩)) W3 := index_msg _ _ _ _ _ hi1 hi2 _
            clear hc3
            obtain ⟨tb, htb, hto⟩ := (hp.msg _ (List.mem_of_getElem? hy)).to
            simp only at hto
            subst hto
            have hmem := List.mem_of_getElem? hy
            obtain ⟨E', o', t', HQ, _⟩ := hp.hear hmem htb
            obtain ⟨⟨yme, ⟨yep, yst, yto⟩, ycg, ykp⟩, hY⟩ : ∃ z, S tb = z := ⟨_, rfl⟩
            obtain ⟨⟨⟨zme, ⟨zep, zst, zto⟩, zcg, zkp⟩, zr, ze⟩, hZ⟩ : ∃ z, hearM (S tb) ⟨mkd, mfr, (tb : Int), mep, mmg⟩ = z := ⟨_, rfl⟩
            have hzl := dur_len (S tb) ⟨mkd, mfr, (tb : Int), mep, mmg⟩
            have hzt := hear_to (S tb) ⟨mkd, mfr, (tb : Int), mep, mmg⟩ (hto0 tb htb) (by obtain ⟨a, _, e⟩ := (hp.msg _ hmem).fr; simp only at e ⊢; omega)
            rw [hZ] at HQ hzl hzt
            simp only at HQ hzl hzt
            have K3 : ∀ W, Calls Try.prog 11 #[.agg #[.int .u8 yme, .int .i64 yep, .int .i64 yst, .int .u8 yto, .string ycg, .bool ykp], .agg #[.int .i64 mkd, .int .u8 mfr, .int .u8 (tb : Int), .int .i64 mep, .string mmg]] W (fun r w' => ∃ A n q, r = .returned (.tuple #[.agg #[.int .u8 zme, .int .i64 zep, .int .i64 zst, .int .u8 zto, .string zcg, .bool zkp], .slice A n q, .int .i64 ((ze : Nat) : Int)]) ∧ RS w' 37 mc 5 A n q zr ∧ Below W.heap.size W w') := fun W => (by
              have := hear_c yme yep yst yto ycg ykp mkd mfr (tb : Int) mep mmg W
              rw [← hY, hZ] at this
              exact this)
            clear hy hZ
            have av_mb : V.heap.size ≤ W3.heap.size := by have := l4.size; omega
            obtain ⟨W5, hW5⟩ : ∃ V, W3.alloc (.cells #[.int .i64 mkd, .int .u8 mfr, .int .u8 (tb : Int), .int .i64 mep, .string mmg] 37) = V := ⟨_, rfl⟩
            have zW5 : W3.heap.size = W3.heap.size := by rfl
            have nW5 : CB W5 (W3.heap.size) 37 #[.int .i64 mkd, .int .u8 mfr, .int .u8 (tb : Int), .int .i64 mep, .string mmg] := by rw [← zW5, ← hW5]; exact CB.new _ _ _
            have bW5 : Below W3.heap.size W3 W5 := by rw [← hW5]; exact le_al _ _
            have neW5_x : w1.heap.size ≠ W3.heap.size := by have := CB.lt nW3; omega
            have HW5 := Lib.hid hW5
            clear hW5 zW5
            have r6_x := le_on nW3 bW5
            have r6_d := (r4_d).on bW5
            have l6 := le_tr l4 bW5
            clear nW3 r4_d l4
            clear bW5
            have K2 := US.get_yes B c 8 _ _ _ (r6_d).ce tb (S tb) (u8_lt htb) (LS.get S htb)
            rw [hY] at K2
            have f6_mb0 : (W3.alloc (.cells #[.int .i64 mkd, .int .u8 mfr, .int .u8 (tb : Int), .int .i64 mep, .string mmg] 37)).cell? ⟨W3.heap.size, 0, none⟩ = some (.int .i64 mkd) := by rw [HW5.out]; exact CB.cell nW5 0
            have f6_mb1 : (W3.alloc (.cells #[.int .i64 mkd, .int .u8 mfr, .int .u8 (tb : Int), .int .i64 mep, .string mmg] 37)).cell? ⟨W3.heap.size, 1, none⟩ = some (.int .u8 mfr) := by rw [HW5.out]; exact CB.cell nW5 1
            have f6_mb2 : (W3.alloc (.cells #[.int .i64 mkd, .int .u8 mfr, .int .u8 (tb : Int), .int .i64 mep, .string mmg] 37)).cell? ⟨W3.heap.size, 2, none⟩ = some (.int .u8 (tb : Int)) := by rw [HW5.out]; exact CB.cell nW5 2
            have f6_mb3 : (W3.alloc (.cells #[.int .i64 mkd, .int .u8 mfr, .int .u8 (tb : Int), .int .i64 mep, .string mmg] 37)).cell? ⟨W3.heap.size, 3, none⟩ = some (.int .i64 mep) := by rw [HW5.out]; exact CB.cell nW5 3
            have f6_mb4 : (W3.alloc (.cells #[.int .i64 mkd, .int .u8 mfr, .int .u8 (tb : Int), .int .i64 mep, .string mmg] 37)).cell? ⟨W3.heap.size, 4, none⟩ = some (.string mmg) := by rw [HW5.out]; exact CB.cell nW5 4
            go_wp2_with fail
            rw [HW5.out]
            refine (K2).mono ?_
            rintro e w7 ⟨rfl, b7⟩
            clear f6_mb0 f6_mb1 f6_mb2 f6_mb3 f6_mb4
            have r8_x := le_on r6_x b7
            have r8_mb := le_on nW5 b7
            have r8_d := (r6_d).on b7
            have l8 := le_tr l6 b7
            clear r6_x nW5 r6_d l6
            clear b7
            clear K2 hix m0 m1 m2 m3 m4
            have av_y : V.heap.size ≤ w7.heap.size := by have := l8.size; omega
            obtain ⟨W9, hW9⟩ : ∃ V, w7.alloc (.cells #[.int .u8 yme, .int .i64 yep, .int .i64 yst, .int .u8 yto, .string ycg, .bool ykp] 31) = V := ⟨_, rfl⟩
            have zW9 : w7.heap.size = w7.heap.size := by rfl
            have nW9 : CB W9 (w7.heap.size) 31 #[.int .u8 yme, .int .i64 yep, .int .i64 yst, .int .u8 yto, .string ycg, .bool ykp] := by rw [← zW9, ← hW9]; exact CB.new _ _ _
            have bW9 : Below w7.heap.size w7 W9 := by rw [← hW9]; exact le_al _ _
            have neW9_x : w1.heap.size ≠ w7.heap.size := by have := CB.lt r8_x; omega
            have neW9_mb : W3.heap.size ≠ w7.heap.size := by have := CB.lt r8_mb; omega
            have HW9 := Lib.hid hW9
            clear hW9 zW9
            have r10_x := le_on r8_x bW9
            have r10_mb := le_on r8_mb bW9
            have r10_d := (r8_d).on bW9
            have l10 := le_tr l8 bW9
            clear r8_x r8_mb r8_d l8
            clear bW9
            have f10_mb0 : (w7.alloc (.cells #[.int .u8 yme, .int .i64 yep, .int .i64 yst, .int .u8 yto, .string ycg, .bool ykp] 31)).cell? ⟨W3.heap.size, 0, none⟩ = some (.int .i64 mkd) := by rw [HW9.out]; exact CB.cell r10_mb 0
            have f10_mb1 : (w7.alloc (.cells #[.int .u8 yme, .int .i64 yep, .int .i64 yst, .int .u8 yto, .string ycg, .bool ykp] 31)).cell? ⟨W3.heap.size, 1, none⟩ = some (.int .u8 mfr) := by rw [HW9.out]; exact CB.cell r10_mb 1
            have f10_mb2 : (w7.alloc (.cells #[.int .u8 yme, .int .i64 yep, .int .i64 yst, .int .u8 yto, .string ycg, .bool ykp] 31)).cell? ⟨W3.heap.size, 2, none⟩ = some (.int .u8 (tb : Int)) := by rw [HW9.out]; exact CB.cell r10_mb 2
            have f10_mb3 : (w7.alloc (.cells #[.int .u8 yme, .int .i64 yep, .int .i64 yst, .int .u8 yto, .string ycg, .bool ykp] 31)).cell? ⟨W3.heap.size, 3, none⟩ = some (.int .i64 mep) := by rw [HW9.out]; exact CB.cell r10_mb 3
            have f10_mb4 : (w7.alloc (.cells #[.int .u8 yme, .int .i64 yep, .int .i64 yst, .int .u8 yto, .string ycg, .bool ykp] 31)).cell? ⟨W3.heap.size, 4, none⟩ = some (.string mmg) := by rw [HW9.out]; exact CB.cell r10_mb 4
            have f10_y0 : (w7.alloc (.cells #[.int .u8 yme, .int .i64 yep, .int .i64 yst, .int .u8 yto, .string ycg, .bool ykp] 31)).cell? ⟨w7.heap.size, 0, none⟩ = some (.int .u8 yme) := by rw [HW9.out]; exact CB.cell nW9 0
            have f10_y1 : (w7.alloc (.cells #[.int .u8 yme, .int .i64 yep, .int .i64 yst, .int .u8 yto, .string ycg, .bool ykp] 31)).cell? ⟨w7.heap.size, 1, none⟩ = some (.int .i64 yep) := by rw [HW9.out]; exact CB.cell nW9 1
            have f10_y2 : (w7.alloc (.cells #[.int .u8 yme, .int .i64 yep, .int .i64 yst, .int .u8 yto, .string ycg, .bool ykp] 31)).cell? ⟨w7.heap.size, 2, none⟩ = some (.int .i64 yst) := by rw [HW9.out]; exact CB.cell nW9 2
            have f10_y3 : (w7.alloc (.cells #[.int .u8 yme, .int .i64 yep, .int .i64 yst, .int .u8 yto, .string ycg, .bool ykp] 31)).cell? ⟨w7.heap.size, 3, none⟩ = some (.int .u8 yto) := by rw [HW9.out]; exact CB.cell nW9 3
            have f10_y4 : (w7.alloc (.cells #[.int .u8 yme, .int .i64 yep, .int .i64 yst, .int .u8 yto, .string ycg, .bool ykp] 31)).cell? ⟨w7.heap.size, 4, none⟩ = some (.string ycg) := by rw [HW9.out]; exact CB.cell nW9 4
            have f10_y5 : (w7.alloc (.cells #[.int .u8 yme, .int .i64 yep, .int .i64 yst, .int .u8 yto, .string ycg, .bool ykp] 31)).cell? ⟨w7.heap.size, 5, none⟩ = some (.bool ykp) := by rw [HW9.out]; exact CB.cell nW9 5
            go_wp2_with fail
            rw [HW9.out]
            refine (K3 _).mono ?_
            rintro e w11 ⟨A7, n7, q7, rfl, hr, b11⟩
            clear f10_mb0 f10_mb1 f10_mb2 f10_mb3 f10_mb4 f10_y0 f10_y1 f10_y2 f10_y3 f10_y4 f10_y5
            have r12_x := le_on r10_x b11
            have r12_mb := le_on r10_mb b11
            have r12_y := le_on nW9 b11
            have r12_d := (r10_d).on b11
            have l12 := le_tr l10 b11
            clear r10_x r10_mb nW9 r10_d l10
            clear b11
            clear K3
            have hn7 := RS.len hr
            have av_zb : V.heap.size ≤ w11.heap.size := by have := l12.size; omega
            obtain ⟨W13, hW13⟩ : ∃ V, w11.alloc (.cells #[.int .u8 zme, .int .i64 zep, .int .i64 zst, .int .u8 zto, .string zcg, .bool zkp] 31) = V := ⟨_, rfl⟩
            have zW13 : w11.heap.size = w11.heap.size := by rfl
            have nW13 : CB W13 (w11.heap.size) 31 #[.int .u8 zme, .int .i64 zep, .int .i64 zst, .int .u8 zto, .string zcg, .bool zkp] := by rw [← zW13, ← hW13]; exact CB.new _ _ _
            have bW13 : Below w11.heap.size w11 W13 := by rw [← hW13]; exact le_al _ _
            have neW13_x : w1.heap.size ≠ w11.heap.size := by have := CB.lt r12_x; omega
            have neW13_mb : W3.heap.size ≠ w11.heap.size := by have := CB.lt r12_mb; omega
            have neW13_y : w7.heap.size ≠ w11.heap.size := by have := CB.lt r12_y; omega
            have HW13 := Lib.hid hW13
            clear hW13 zW13
            have q14_z := RS.on hr bW13
            have r14_x := le_on r12_x bW13
            have r14_mb := le_on r12_mb bW13
            have r14_y := le_on r12_y bW13
            have r14_d := (r12_d).on bW13
            have l14 := le_tr l12 bW13
            clear r12_x r12_mb r12_y r12_d l12
            clear hr
            clear bW13
            have f14_mb0 : (w11.alloc (.cells #[.int .u8 zme, .int .i64 zep, .int .i64 zst, .int .u8 zto, .string zcg, .bool zkp] 31)).cell? ⟨W3.heap.size, 0, none⟩ = some (.int .i64 mkd) := by rw [HW13.out]; exact CB.cell r14_mb 0
            have f14_mb1 : (w11.alloc (.cells #[.int .u8 zme, .int .i64 zep, .int .i64 zst, .int .u8 zto, .string zcg, .bool zkp] 31)).cell? ⟨W3.heap.size, 1, none⟩ = some (.int .u8 mfr) := by rw [HW13.out]; exact CB.cell r14_mb 1
            have f14_mb2 : (w11.alloc (.cells #[.int .u8 zme, .int .i64 zep, .int .i64 zst, .int .u8 zto, .string zcg, .bool zkp] 31)).cell? ⟨W3.heap.size, 2, none⟩ = some (.int .u8 (tb : Int)) := by rw [HW13.out]; exact CB.cell r14_mb 2
            have f14_mb3 : (w11.alloc (.cells #[.int .u8 zme, .int .i64 zep, .int .i64 zst, .int .u8 zto, .string zcg, .bool zkp] 31)).cell? ⟨W3.heap.size, 3, none⟩ = some (.int .i64 mep) := by rw [HW13.out]; exact CB.cell r14_mb 3
            have f14_mb4 : (w11.alloc (.cells #[.int .u8 zme, .int .i64 zep, .int .i64 zst, .int .u8 zto, .string zcg, .bool zkp] 31)).cell? ⟨W3.heap.size, 4, none⟩ = some (.string mmg) := by rw [HW13.out]; exact CB.cell r14_mb 4
            have f14_zb0 : (w11.alloc (.cells #[.int .u8 zme, .int .i64 zep, .int .i64 zst, .int .u8 zto, .string zcg, .bool zkp] 31)).cell? ⟨w11.heap.size, 0, none⟩ = some (.int .u8 zme) := by rw [HW13.out]; exact CB.cell nW13 0
            have f14_zb1 : (w11.alloc (.cells #[.int .u8 zme, .int .i64 zep, .int .i64 zst, .int .u8 zto, .string zcg, .bool zkp] 31)).cell? ⟨w11.heap.size, 1, none⟩ = some (.int .i64 zep) := by rw [HW13.out]; exact CB.cell nW13 1
            have f14_zb2 : (w11.alloc (.cells #[.int .u8 zme, .int .i64 zep, .int .i64 zst, .int .u8 zto, .string zcg, .bool zkp] 31)).cell? ⟨w11.heap.size, 2, none⟩ = some (.int .i64 zst) := by rw [HW13.out]; exact CB.cell nW13 2
            have f14_zb3 : (w11.alloc (.cells #[.int .u8 zme, .int .i64 zep, .int .i64 zst, .int .u8 zto, .string zcg, .bool zkp] 31)).cell? ⟨w11.heap.size, 3, none⟩ = some (.int .u8 zto) := by rw [HW13.out]; exact CB.cell nW13 3
            have f14_zb4 : (w11.alloc (.cells #[.int .u8 zme, .int .i64 zep, .int .i64 zst, .int .u8 zto, .string zcg, .bool zkp] 31)).cell? ⟨w11.heap.size, 4, none⟩ = some (.string zcg) := by rw [HW13.out]; exact CB.cell nW13 4
            have f14_zb5 : (w11.alloc (.cells #[.int .u8 zme, .int .i64 zep, .int .i64 zst, .int .u8 zto, .string zcg, .bool zkp] 31)).cell? ⟨w11.heap.size, 5, none⟩ = some (.bool zkp) := by rw [HW13.out]; exact CB.cell nW13 5
            go_wp2_with fail
            rw [HW13.out]
            refine (US.set_ok B c 8 _ _ _ (r14_d).ce tb ⟨zme, ⟨zep, zst, zto⟩, zcg, zkp⟩ (u8_lt htb) (.inl (LS.has S htb))).mono ?_
            rintro e wS ⟨rfl, r1, r2⟩
            rw [LS.put S htb] at r1
            clear f14_mb0 f14_mb1 f14_mb2 f14_mb3 f14_mb4 f14_zb0 f14_zb1 f14_zb2 f14_zb3 f14_zb4 f14_zb5
            have hdS := DI.cf r14_d r2 r1
            have hrS := RS.cf q14_z (r14_d).ce r2
            clear r1 r2
            go_wp2_with fail
            refine (US.sync_c B c 8 _ _ _ hdS.ce).mono ?_
            rintro e wT ⟨rfl, r1, r2⟩
            have hdT := DI.cf hdS r2 r1
            have hrT := RS.cf hrS hdS.ce r2
            clear r1 r2
            obtain ⟨G, hs9, hG⟩ := (hdT).sd
            have sr := (RS.rr hrT).src
            obtain ⟨N, hN⟩ : ∃ N, n' + n7 = N := ⟨_, rfl⟩
            have p1 : n' + n7 ≤ maxLen := by simp only [maxLen]; omega
            have p2 : (n' + n7) * 40 ≤ 140737488355328 := by omega
            go_wp2_with (at_builtin; refine wpList_append_src _ rfl (.tmp 130) (.tmp 131) _ rfl 37 i0 _ 5 40 Try.underlying32 Hi.out Hz.out Hz1.out Hz2.out rfl (by decide) rfl hs9 rfl sr (rc_one 5 _) p1 p2 N hN ?_; intro A4 q4 G4 V4 s4 g4 m4; have hd4 := DI.app hdT hs9 hG s4 g4 m4; clear s4 g4 m4 hs9)
            go_wp2_with fail
            exact Hrest.out _ _ (DuJ.mk' (by kernel_rfl) rfl hd4 ⟨HQ, to_upd hto0 tb hzt⟩ (by rw [List.length_append]; omega))
      · have hkn' : decide ((k : Int) < (n : Int)) = false := by simp; omega
        have r0 := hd.rs.cell 0
        have z0 := hd.rs.frozen 0
        simp only [List.getElem?_toArray, List.getElem?_cons_zero] at r0
        go_wp2_with fail
        exact hd.ends (fun w' hb hl' => ⟨.bool true, by have x0 := hb.cell 0; simp [results, Try.results9, go_sem, x0], rfl, hl'⟩)
end Go.Proofs.Ytmghckddofefkaa
