/-
  The calls of package ring at string on a queue that New did not create (nil, or a zero struct): what they return. Conditions: the pointer is nil, or leads to a zero struct.
-/
import Derived.Test.YtbdejcmlcjljkaaRingC
namespace Go.Proofs.Ytbdejcmlcjljkaa
open Go.RowKit Go.Shelf
attribute [local go_sem] Oper.semAt_some

/-- A queue of texts that New did not create. -/
def NZ (w : World) (p : Option Addr) : Prop := p = none ∨ ∃ b, p = some ⟨b, 0, none⟩ ∧ CB w b 54 #[.int .i64 0, .slice none 0 0]

theorem createdS (p : Option Addr) (w : World) (h : NZ w p) :
    Calls Try.prog 37 #[.pointer p] w fun e w' => e = .returned (.bool false) ∧ w = w' := by
  rcases h with rfl | ⟨b, rfl, hb⟩
  · go_enter Try.func37, Try.ntmps37
    go_wp2
    go_ret
    exact ⟨rfl, rfl⟩
  · have c0 := hb.cell 0
    simp at c0
    go_enter Try.func37, Try.ntmps37
    go_wp2
    go_ret
    exact ⟨rfl, rfl⟩

theorem findS (p : Option Addr) (i : Int) (w : World) (h : NZ w p) :
    Calls Try.prog 36 #[.pointer p, .int .i64 i] w fun e w' => e = .returned (.int .i64 1) ∧ w = w' := by
  go_enter Try.func36, Try.ntmps36
  go_wp2_with (go_at_call 37; refine (createdS p _ h).mono ?_; rintro e w' ⟨rfl, rfl⟩)
  go_ret
  exact ⟨rfl, rfl⟩

theorem lenS (p : Option Addr) (w : World) (h : NZ w p) :
    Calls Try.prog 27 #[.pointer p] w fun e w' => e = .returned (.int .i64 0) ∧ w = w' := by
  go_enter Try.func27, Try.ntmps27
  go_wp2_with (go_at_call 37; refine (createdS p _ h).mono ?_; rintro e w' ⟨rfl, rfl⟩)
  go_ret
  exact ⟨rfl, rfl⟩

theorem pushS (p : Option Addr) (s : ByteArray) (w : World) (h : NZ w p) :
    Calls Try.prog 25 #[.pointer p, .string s] w fun e w' => e = .returned (.int .i64 1) ∧ w = w' := by
  go_enter Try.func25, Try.ntmps25
  go_wp2_with (go_at_call 37; refine (createdS p _ h).mono ?_; rintro e w' ⟨rfl, rfl⟩)
  go_ret
  exact ⟨rfl, rfl⟩

theorem dropS (p : Option Addr) (i : Int) (w : World) (h : NZ w p) :
    Calls Try.prog 26 #[.pointer p, .int .i64 i] w fun e w' => e = .returned (.int .i64 1) ∧ w = w' := by
  go_enter Try.func26, Try.ntmps26
  go_wp2_with (go_at_call 36; refine (findS p i _ h).mono ?_; rintro e w' ⟨rfl, rfl⟩)
  go_ret
  exact ⟨rfl, rfl⟩

theorem atS (p : Option Addr) (i : Int) (w : World) (h : NZ w p) :
    Calls Try.prog 23 #[.pointer p, .int .i64 i] w fun e w' => e = .returned (.tuple #[.string ⟨#[]⟩, .int .i64 1]) ∧ w = w' := by
  go_enter Try.func23, Try.ntmps23
  go_wp2_with (go_at_call 36; refine (findS p i _ h).mono ?_; rintro e w' ⟨rfl, rfl⟩)
  go_ret2
  exact ⟨rfl, rfl⟩

theorem popS (p : Option Addr) (w : World) (h : NZ w p) :
    Calls Try.prog 22 #[.pointer p] w fun e w' => e = .returned (.tuple #[.string ⟨#[]⟩, .int .i64 1]) ∧ w = w' := by
  go_enter Try.func22, Try.ntmps22
  go_wp2_with (go_at_call 23; refine (atS p 0 _ h).mono ?_; rintro e w' ⟨rfl, rfl⟩)
  go_ret2
  exact ⟨rfl, rfl⟩

set_option maxRecDepth 100000 in
theorem eachS_iter : Iter Try.prog 38 (fun y => #[.slice none 0 0] ++ #[y]) 0 (fun _ => #[.string ⟨#[]⟩]) (fun _ => True) := by
  intro l J Jx W hN hY h0
  refine callsIn_of_wp Try.func38 rfl trivial ?_ rfl
  simp only [Try.ntmps38, List.size_toArray, List.length_cons, List.length_nil, Nat.reduceAdd, Nat.reduceSub, Array.replicate_succ, Array.replicate_zero, List.push_toArray, List.append_toArray, List.nil_append, List.cons_append]
  gi_wp2
  gi_loopw [8] (fun i wr => i = .int .i64 0 ∧ wr = W) (fun _ _ => 0)
  case atStart => exact ⟨rfl, rfl⟩
  case round =>
    obtain ⟨rfl, rfl⟩ := hrel
    clear hY hN
    gi_wp2
    go_end0
    exact ⟨⟨_, rfl⟩, .inl h0⟩

set_option maxRecDepth 100000 in
theorem allS (p : Option Addr) (w : World) (h : NZ w p) :
    Calls Try.prog 24 #[.pointer p] w fun e w' => e = .returned (.func (.func 38) #[.slice none 0 0] #[]) ∧ Below w.heap.size w w' := by
  have h1 : NZ (w.alloc (.cells #[.slice none 0 0] 52)) p := by
    rcases h with rfl | ⟨b, rfl, hb⟩
    · exact .inl rfl
    · exact .inr ⟨b, rfl, hb.alloc _⟩
  refine (callsIn_wide (n := 0)).1 ?_
  refine callsIn_of_wp_marks Try.func24 rfl trivial ?_ rfl
  simp only [Try.ntmps24, List.size_toArray, List.length_cons, List.length_nil, Nat.reduceAdd, Nat.reduceSub, Array.replicate_succ, Array.replicate_zero, List.push_toArray, List.append_toArray, List.nil_append, List.cons_append]
  gi_wp2_with fail
  refine ⟨trivial, rfl, (callsIn_wide.2 (createdS p _ h1)).mono ?_⟩
  rintro e w' ⟨rfl, rfl⟩
  gi_wp2_with fail
  refine ⟨_, results_tmp rfl _ _ _, rfl, (Below.refl _ _).alloc (Nat.le_refl _) _⟩

end Go.Proofs.Ytbdejcmlcjljkaa
