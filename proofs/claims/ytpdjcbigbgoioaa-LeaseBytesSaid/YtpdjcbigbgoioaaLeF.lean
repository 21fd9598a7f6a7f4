/-
  The bytes of leases: plain mathematics; Encode of package lease and of the document's answer for layer 11. Condition: the numbers are in the range of their types.
-/
import Derived.Test.YtpdjcbigbgoioaaLeD
import Derived.Test.YtpdjcbigbgoioaaCodeI
set_option linter.unusedVariables false
set_option linter.unusedSimpArgs false
namespace Go.Proofs.Ytpdjcbigbgoioaa
open Go.RowKit

def shL : List UInt8 := [97, 99, 97]
def cv3 (a b c : Nat) : List CV := [⟨a, ⟨#[]⟩⟩, ⟨b, ⟨#[]⟩⟩, ⟨c, ⟨#[]⟩⟩]
def cvL (l : Ls) : List CV := cv3 l.st.toNat l.ep.toNat l.to.toNat
def bLe (l : Ls) : List UInt8 := if rightL l = true then enc shL (cvL l) else []
def kLe (l : Ls) : Nat := if rightL l = true then 0 else 2
theorem fit1 {n : Nat} (h : n < 256) : fitB 97 ⟨n, ⟨#[]⟩⟩ = true := by simp [fitB, wd, h, ByteArray.size]
theorem fit4 {n : Nat} (h : n < 4294967296) : fitB 99 ⟨n, ⟨#[]⟩⟩ = true := by simp [fitB, wd, h, ByteArray.size]
theorem cv3_eE {a b c : Nat} (ha : a < 256) (hb : b < 4294967296) (hc : c < 256) : eE shL (cv3 a b c) = 0 ∧ bE shL (cv3 a b c) = enc shL (cv3 a b c) := by
  have h : eE shL (cv3 a b c) = 0 := eE_zero.2 ⟨by decide, rfl, by simp [shL, cv3, fitsB, fit1 ha, fit4 hb, fit1 hc], by
    have e1 := encV_length (fit1 ha)
    have e2 := encV_length (fit4 hb)
    have e3 := encV_length (fit1 hc)
    simp [shL, cv3, enc, e1, e2, e3, wd, ByteArray.size]⟩
  exact ⟨h, by unfold bE; rw [if_pos h]⟩
theorem cv3_eE0 {l : Ls} (hl : inL l) (hr : rightL l = true) : l.st.toNat < 256 ∧ l.ep.toNat < 4294967296 ∧ l.to.toNat < 256 ∧ (l.st.toNat : Int) = l.st ∧ (l.ep.toNat : Int) = l.ep ∧ (l.to.toNat : Int) = l.to := by
  obtain ⟨h1, h2, h3⟩ := hl
  rcases right_cases hr with ⟨a, b, c⟩ | ⟨a, b, c⟩ | ⟨a, b, c⟩ <;> omega

theorem VR.lit3 (w : World) (T : TypeId) (a b c : Nat) (ha : a < 18446744073709551616) (hb : b < 18446744073709551616) (hc : c < 18446744073709551616) :
    VR (w.alloc (.cells #[.int .u64 a, .string ⟨#[]⟩, .int .u64 b, .string ⟨#[]⟩, .int .u64 c, .string ⟨#[]⟩] T)) (some ⟨w.heap.size, 0, none⟩) (cv3 a b c) := by
  have h := CB.new w T #[.int .u64 a, .string ⟨#[]⟩, .int .u64 b, .string ⟨#[]⟩, .int .u64 c, .string ⟨#[]⟩]
  intro i v hv
  match i, hv with
  | 0, hv => simp [cv3] at hv; subst hv; exact ⟨ha, by simp [ByteArray.size, maxLen], w.heap.size, 0, rfl, h.lt, CB.cell h 0, CB.cell h 1⟩
  | 1, hv => simp [cv3] at hv; subst hv; exact ⟨hb, by simp [ByteArray.size, maxLen], w.heap.size, 0, rfl, h.lt, CB.cell h 2, CB.cell h 3⟩
  | 2, hv => simp [cv3] at hv; subst hv; exact ⟨hc, by simp [ByteArray.size, maxLen], w.heap.size, 0, rfl, h.lt, CB.cell h 4, CB.cell h 5⟩
  | k + 3, hv => simp [cv3] at hv
theorem VR.drew {w : World} {A : Option Addr} {l : List CV} (h : VR w A l) : VR w.drew A l := h

theorem enc3_c (A : Option Addr) (cap a b c : Nat) (w : World) (hv : VR w A (cv3 a b c)) : Calls Try.prog 24 #[.string ⟨#[97, 99, 97]⟩, .slice A 3 cap] w (EPostC w (bE shL (cv3 a b c)) (eE shL (cv3 a b c))) :=
  encode_c ⟨#[97, 99, 97]⟩ A cap (cv3 a b c) w (by simp [ByteArray.size, maxLen]) hv
theorem enc3_r (A : Option Addr) (cap a b c : Nat) (w : World) (hv : VR w A (cv3 a b c)) : Calls Try.prog 25 #[.string ⟨#[97, 99, 97]⟩, .slice A 3 cap] w (EPostC w (bE shL (cv3 a b c)) (eE shL (cv3 a b c))) :=
  encode_r ⟨#[97, 99, 97]⟩ A cap (cv3 a b c) w (by simp [ByteArray.size, maxLen]) hv

set_option maxRecDepth 100000 in
set_option maxHeartbeats 1000000 in
theorem encL_c (ep st to : Int) (w : World) (hl : inL ⟨ep, st, to⟩) : Calls Try.prog 18 #[.agg #[.int .i64 ep, .int .i64 st, .int .u8 to]] w (EPostC w (bLe ⟨ep, st, to⟩) (kLe ⟨ep, st, to⟩)) := by
  cases hrt : rightL ⟨ep, st, to⟩ with
  | false =>
    have Hrt := Lib.hid hrt
    obtain ⟨W, hW⟩ : ∃ W, w.alloc (.cells #[.int .i64 ep, .int .i64 st, .int .u8 to] 27) = W := ⟨_, rfl⟩
    have hb : Below w.heap.size w W := by rw [← hW]; exact le_al _ _
    have HW := Lib.hid hW
    have Hk := Lib.hid (show bLe ⟨ep, st, to⟩ = [] ∧ kLe ⟨ep, st, to⟩ = 2 by unfold bLe kLe; rw [hrt]; simp)
    clear hW hrt
    go_enter Try.func18, Try.ntmps18
    go_wp2_with fail
    rw [HW.out]
    refine (right_c ep st to _).mono ?_
    rintro e w2 ⟨rfl, hb2⟩
    rw [Hrt.out]
    go_wp2_with fail
    go_ret2
    rw [Hk.out.1, Hk.out.2]
    exact ⟨none, 0, 0, none, rfl, by simpa [bc] using Seg.nil _ _ _, le_tr hb hb2⟩
  | true =>
    obtain ⟨n1, n2, n3, m1, m2, m3⟩ := cv3_eE0 hl hrt
    obtain ⟨k1, k2⟩ := cv3_eE n1 n2 n3
    have Hk := Lib.hid (show bLe ⟨ep, st, to⟩ = bE shL (cv3 st.toNat ep.toNat to.toNat) ∧ kLe ⟨ep, st, to⟩ = eE shL (cv3 st.toNat ep.toNat to.toNat) by
      unfold bLe kLe
      rw [hrt, k1, k2]
      exact ⟨rfl, rfl⟩)
    simp only at n1 n2 n3 m1 m2 m3
    have Hrt := Lib.hid hrt
    clear k1 k2 hrt hl
    rw [Hk.out.1, Hk.out.2]
    clear Hk
    generalize st.toNat = a at *
    generalize ep.toNat = b at *
    generalize to.toNat = c at *
    subst m1 m2 m3
    obtain ⟨W, hW⟩ : ∃ W, w.alloc (.cells #[.int .i64 b, .int .i64 a, .int .u8 c] 27) = W := ⟨_, rfl⟩
    have hp : LB W w.heap.size 27 ⟨b, a, c⟩ := by rw [← hW]; exact LB.new w _ ⟨b, a, c⟩
    have hb : Below w.heap.size w W := by rw [← hW]; exact le_al _ _
    have HW := Lib.hid hW
    clear hW
    go_enter Try.func18, Try.ntmps18
    go_wp2_with fail
    rw [HW.out]
    refine (right_c b a c _).mono ?_
    rintro e w2 ⟨rfl, hb2⟩
    rw [Hrt.out]
    obtain ⟨c0, c1, c2⟩ := (hp.on hb2).cells
    simp only at c0 c1 c2
    have hb3 := le_tr hb hb2
    have hv := VR.lit3 w2 58 a b c (by omega) (by omega) (by omega)
    have hb4 := le_tr hb3 (le_al w2 (.cells #[.int .u64 a, .string ⟨#[]⟩, .int .u64 b, .string ⟨#[]⟩, .int .u64 c, .string ⟨#[]⟩] 58))
    go_wp2_with fail
    refine (enc3_c _ _ a b c _ hv).mono ?_
    rintro e w3 ⟨A3, n3, c3, G3, rfl, hs3, hb5⟩
    go_wp2_with fail
    go_ret2
    exact ⟨A3, n3, c3, G3, rfl, hs3, le_tr hb4 hb5⟩

set_option maxHeartbeats 1000000 in
theorem n_r (n : Int) (w : World) : Calls Try.prog 26 #[.int .u64 n] w fun r w' => r = .returned (.agg #[.int .u64 n, .string ⟨#[]⟩]) ∧ Below w.heap.size w w' := by
  go_enter Try.func26, Try.ntmps26
  go_wp2_with fail
  have hb := le_al w (.cells #[.int .u64 n, .string ⟨#[]⟩] 61)
  have h := CB.new w 61 #[.int .u64 n, .string ⟨#[]⟩]
  generalize w.alloc (.cells #[.int .u64 n, .string ⟨#[]⟩] 61) = V at *
  have x0 : V.cell? ⟨w.heap.size, 0, none⟩ = some (.int .u64 n) := CB.cell h 0
  have x1 : V.cell? ⟨w.heap.size, 1, none⟩ = some (.string ⟨#[]⟩) := CB.cell h 1
  refine bodyPost_ret (v := .agg #[.int .u64 n, .string ⟨#[]⟩]) (by simp [results, Try.results26, go_sem, x0, x1]) rfl ⟨rfl, hb⟩
end Go.Proofs.Ytpdjcbigbgoioaa
