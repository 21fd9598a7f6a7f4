/-
  first, Holds, copyOf, Free and put of package lock. Condition: the holds can be read, a hundred thousand at most; for put: they stand in order.
-/
import Derived.Test.YtealcccjnmfkcaaYLqA
import Derived.Shelf.Abstract
set_option linter.unusedVariables false
set_option linter.unusedSimpArgs false
namespace Go.Proofs.Ytealcccjnmfkcaa
open Go.RowKit

theorem fi_stop {p : Hd → Bool} {L : List Hd} {j : Nat} (hj : j < L.length) (h1 : ∀ q ∈ L.take j, p q = false) (h2 : p (tkK L j) = true) : L.findIdx p = j := by
  have e := (List.take_append_drop j L).symm
  rw [tkK_drop hj] at e
  rw [e, List.findIdx_append]
  have h3 : (L.take j).findIdx p = (L.take j).length := List.findIdx_eq_length_of_false h1
  rw [h3, if_neg (by omega), List.findIdx_cons, h2, List.length_take]
  simp
  omega
theorem fi_end {p : Hd → Bool} {L : List Hd} (h1 : ∀ q ∈ L, p q = false) : L.findIdx p = L.length := List.findIdx_eq_length_of_false h1

/-- A function value answers p of any hold, in any world that has grown out of w. -/
def Tells (w : World) (F : Nat) (caps : Array Value) (p : Hd → Bool) : Prop :=
  ∀ (W : World) (x : Hd), Below w.heap.size w W → Calls Try.prog F (#[hv x] ++ caps) W fun e w' => e = .returned (.bool (p x)) ∧ Below W.heap.size W w'

set_option maxRecDepth 100000 in
set_option maxHeartbeats 1000000 in
theorem first_c (F : Nat) (caps : Array Value) (p : Hd → Bool) (A : Option Addr) (n c : Nat) (L : List Hd) (w : World) (h : HR w A n c L) (hn : n ≤ 100000) (hE : Enters Try.prog F) (hF : Tells w F caps p) :
    Calls Try.prog 112 #[.slice A n c, .func (.func F) #[] caps] w fun e w' => e = .returned (.int .i64 (L.findIdx p : Nat)) ∧ Below w.heap.size w w' := by
  have hlen := Lib.hid h.len
  go_enter Try.func112, Try.ntmps112
  go_wp2_with fail
  go_loopw [9] (fun i wr => ∃ j : Nat, j ≤ n ∧ i = .int .i64 j ∧ (∀ q ∈ L.take j, p q = false) ∧ Below w.heap.size w wr) (fun i _ => n - (intOf i).toNat)
  case atStart => exact ⟨0, by omega, rfl, fun q hq => by simp at hq, Below.refl _ _⟩
  case round =>
    obtain ⟨j, hj, rfl, hal, hlow⟩ := hrel
    have Hal := Lib.hid hal
    clear hal
    by_cases hlt : j < n
    · obtain ⟨g, off, rfl, d1, d2, d3⟩ := (h.on hlow).at3 hlt
      have hjl : j < L.length := by rw [hlen.out]; exact hlt
      have htk := Lib.hid (tkK_take (L := L) hjl)
      have Hst := Lib.hid (fun hx : p (tkK L j) = true => fi_stop hjl Hal.out hx)
      generalize tkK L j = x at *
      obtain ⟨W1, hW1⟩ : ∃ W1, wr.alloc (.cells #[.int .u8 x.k, .int .i64 x.t, .bool x.w] 166) = W1 := ⟨_, rfl⟩
      have k1 := Lib.hid (bel2 hlow (by rw [← hW1]; exact belA wr _ : Below wr.heap.size wr W1))
      have hcall := hF W1 x k1.out
      have hen : ∀ (args : Array Value) (w : World), (callFunc F args).run Try.prog w = .ok (.enter F args) w := hE
      have HW := Lib.hid hW1
      clear hW1
      go_wp2_with fail
      rw [HW.out]
      refine hcall.mono ?_
      rintro e w1 ⟨rfl, hb1⟩
      have hbb := Lib.hid (bel2B k1.out k1.out.size hb1)
      clear hcall hb1 HW k1 d1 d2 d3 hlow hen
      cases hp : p x with
      | true =>
        have hr := Lib.hid (Hst.out hp)
        go_wp2_with fail
        go_ret
        exact ⟨by rw [hr.out]; rfl, hbb.out⟩
      | false =>
        have Hn := Lib.hid (show ∀ q ∈ L.take (j + 1), p q = false by
          rw [htk.out]
          intro q hq
          rcases List.mem_append.1 hq with hq | hq
          · exact Hal.out q hq
          · simp at hq; subst hq; exact hp)
        go_wp2_with fail
        go_roundw
        case rel => exact ⟨j + 1, by omega, by go_num, Hn.out, hbb.out⟩
        case measure => simp [intOf]; omega
    · obtain rfl : j = n := by omega
      have hr := Lib.hid (show L.findIdx p = j by
        have := Hal.out
        rw [List.take_of_length_le (by rw [hlen.out]; exact Nat.le_refl _)] at this
        rw [fi_end this, hlen.out])
      go_wp2_with fail
      go_ret
      exact ⟨by rw [hr.out]; rfl, hlow⟩

set_option maxRecDepth 100000 in
set_option maxHeartbeats 1000000 in
theorem holds_c (A : Option Addr) (n c : Nat) (tx key : Int) (L : List Hd) (w : World) (h : HR w A n c L) (hn : n ≤ 100000) :
    Calls Try.prog 114 #[.slice A n c, .int .i64 tx, .int .u8 key] w fun e w' => e = .returned (.int .i64 (hold L tx key)) ∧ Below w.heap.size w w' := by
  obtain ⟨W, hW⟩ : ∃ W, (w.alloc (.cells #[.int .i64 tx] 3)).alloc (.cells #[.int .u8 key] 5) = W := ⟨_, rfl⟩
  have hbW : Below w.heap.size w W := by rw [← hW]; exact bel_two w _ _
  have c1 : CB W w.heap.size 3 #[.int .i64 tx] := by rw [← hW]; exact (CB.new w _ _).alloc _
  have c2 : CB W (w.heap.size + 1) 5 #[.int .u8 key] := by
    rw [← hW]
    have := CB.new (w.alloc (.cells #[.int .i64 tx] 3)) 5 #[.int .u8 key]
    simpa using this
  have hmf : ∀ (fn : Fn) (first cap : Array Value) (w : World), (Instr.makeFunc fn first cap).run Try.prog w = .ok (.func fn first cap) w := fun _ _ _ _ => rfl
  have hTl : Tells W 122 #[.pointer (some ⟨w.heap.size + 1, 0, none⟩), .pointer (some ⟨w.heap.size, 0, none⟩)] (isH tx key) := fun V x hV =>
    isH_c tx key (w.heap.size + 1) w.heap.size x V (cell_on hV (c2.cell 0)) (cell_on hV (c1.cell 0))
  have hE : Enters Try.prog 122 := enters_of Try.func122 (by kernel_rfl) rfl
  have hf := first_c _ _ _ A n c L W (h.on hbW) hn hE hTl
  have hres := hold_fi L tx key
  rw [h.len] at hres
  have hle : L.findIdx (isH tx key) ≤ n := by have := List.findIdx_le_length (p := isH tx key) (xs := L); rw [h.len] at this; exact this
  generalize L.findIdx (isH tx key) = i at *
  have Hres := Lib.hid hres
  have HW := Lib.hid hW
  clear hW hres hE hTl c1 c2
  go_enter Try.func114, Try.ntmps114
  go_wp2_with fail
  rw [HW.out]
  refine hf.mono ?_
  rintro e w1 ⟨rfl, hb1⟩
  have hbb := bel2 hbW hb1
  clear hf hb1 hbW HW hmf
  by_cases hi : i = n
  · have hr := Lib.hid (show hold L tx key = 0 by rw [Hres.out, if_neg (by omega)])
    have hi' : (i : Int) = (n : Int) := by omega
    clear hi
    go_wp2_with fail
    go_ret
    exact ⟨by rw [hr.out]; rfl, hbb⟩
  · have hlt : i < n := by omega
    obtain ⟨g, off, rfl, d1, d2, d3⟩ := (h.on hbb).at3 hlt
    have hr := Lib.hid (show hold L tx key = wv (tkK L i).w by rw [Hres.out, if_pos hlt])
    have hi' : ¬ (i : Int) = (n : Int) := by omega
    generalize tkK L i = x at *
    clear hi d1 d2
    obtain ⟨xk, xt, xw⟩ := x
    simp only at d3 hr
    cases xw with
    | true =>
      go_wp2_with fail
      go_ret
      exact ⟨by rw [hr.out]; rfl, hbb⟩
    | false =>
      go_wp2_with fail
      go_ret
      exact ⟨by rw [hr.out]; rfl, hbb⟩
end Go.Proofs.Ytealcccjnmfkcaa
