/-
  The walk of the law HandOne: it returns true and leaves all memory that was there. Condition: the steps can be read.
-/
import Derived.Test.YtmghckddofefkaaHaW
set_option linter.unusedVariables false
set_option linter.unusedSimpArgs false
namespace Go.Proofs.Ytmghckddofefkaa
open Go.RowKit


def stc (s : Stp) : List Value := [.int .u8 s.kd, .int .u16 (s.x : Int), .int .u8 (s.a : Int), .int .u8 (s.b : Int), .string s.cg]
instance : Nonempty (EncOk stc 5) := ⟨⟨fun _ => rfl, fun m u hu => by simp only [stc, List.mem_cons, List.not_mem_nil, or_false] at hu; rcases hu with rfl | rfl | rfl | rfl | rfl <;> rfl, by omega⟩⟩
def inStp (s : Stp) : Prop := (0 ≤ s.kd ∧ s.kd ≤ 255) ∧ s.x ≤ 65535 ∧ s.a ≤ 255 ∧ s.b ≤ 255
/-- The k-th step. -/
theorem step_at {w : World} {A : Option Addr} {n q : Nat} {K : List Stp} (h : RR w stc 5 A n q K) (hK : ∀ s ∈ K, inStp s) {k : Nat} (hk : k < n) :
    ∃ g off s, inStp s ∧ A = some ⟨g, off, none⟩ ∧ w.cell? ⟨g, off + k * 5, none⟩ = some (.int .u8 s.kd) ∧ w.cell? ⟨g, off + k * 5 + 1, none⟩ = some (.int .u16 (s.x : Int)) ∧ w.cell? ⟨g, off + k * 5 + 2, none⟩ = some (.int .u8 (s.a : Int)) ∧ w.cell? ⟨g, off + k * 5 + 3, none⟩ = some (.int .u8 (s.b : Int)) ∧ w.cell? ⟨g, off + k * 5 + 4, none⟩ = some (.string s.cg) := by
  obtain ⟨g, off, x, h1, h2, h3⟩ := h.at_ hk
  exact ⟨g, off, x, hK x (List.mem_of_getElem? h1), h2, h3 0 _ rfl, h3 1 _ rfl, h3 2 _ rfl, h3 3 _ rfl, h3 4 _ rfl⟩
theorem MI.next {M : List (Int × Int)} {E E' : Int} {o o' : Nat} (h : MI M E o) (hh : (E' = E ∧ o' = o) ∨ E' = E + 1) : MI M E' o' := by
  rcases hh with ⟨rfl, rfl⟩ | rfl
  · exact h
  · exact h.up
set_option maxRecDepth 100000 in
set_option maxHeartbeats 8000000 in
theorem one_walk (A : Option Addr) (n q : Nat) (K : List Stp) (w : World) (h : RR w stc 5 A n q K) (hK : ∀ s ∈ K, inStp s) : Calls Try.prog 5 #[.slice A n q] w fun r w' => r = .returned (.bool true) ∧ Below w.heap.size w w' := by
  have hmax : n ≤ 9223372036854775807 := by have h1 := h.cap; have h2 := h.max; simp only [maxLen] at h2; omega
  have HK := Lib.hid hK
  clear hK
  go_enter Try.func5, Try.ntmps5
  go_wp2_with fail
  refine (alive_c _).mono ?_
  rintro e w1 ⟨rfl, b1⟩
  go_wp2_with fail
  refine (begun_c _).mono ?_
  rintro e w2 ⟨P, rfl, hpl, b2⟩
  obtain ⟨B, hB⟩ : ∃ B, w1.heap.size = B := ⟨_, rfl⟩
  rw [hB] at hpl b2
  have hwB : w.heap.size ≤ B := by rw [← hB]; exact b1.size
  have b0 : Below w.heap.size w w2 := b1.trans (b2.mono hwB)
  have hB2 : B ≤ w2.heap.size := by rw [← hB]; exact b2.size
  clear b1 b2 hB
  go_wp2_with fail
  go_loopw [4] (fun iv wr => ∃ (k : Nat) (S : Nat → Sd) (L : List Mg) (c : ByteArray) (E : Int) (o : Nat) (t : Bool) (M : List (Int × Int)), k ≤ n ∧ k ≤ 200 ∧ iv = .int .i64 k ∧ PL B wr P S L c M ∧ Hid (PI 4 S L c E o t) ∧ Hid (MI M E o) ∧ L.length ≤ k ∧ M.length ≤ k + 1 ∧ Below w.heap.size w wr ∧ B ≤ wr.heap.size) (fun iv _ => n - (intOf iv).toNat)
  case atStart => exact ⟨0, _, _, _, 1, 0, false, _, by omega, by omega, rfl, hpl, PI.start (by omega) (by omega) _ (by decide), (fun p hp => by simp at hp; subst hp; exact ⟨by decide, fun _ => rfl⟩), by simp, by simp, b0, hB2⟩
  case round =>
    clear hpl b0 hB2
    obtain ⟨k, S, L, c, E, o, t, M, hk, hk2, rfl, hpr, HI, HM, hL, hMl, hbr, hBr⟩ := hrel
    obtain ⟨wz, hwz⟩ : ∃ z, z = wr := ⟨_, rfl⟩
    subst hwz
    by_cases hlt : k < n ∧ k < 200
    · obtain ⟨l1, l2⟩ := hlt
      have t1 : decide ((k : Int) < (n : Int)) = true := by simp; omega
      have t2 : decide ((k : Int) < 200) = true := by simp; omega
      obtain ⟨g, off, s, hs, rfl, d0, d1, d2, d3, d4⟩ := step_at (h.on hbr) HK.out l1
      obtain ⟨s1, s2, s3, s4⟩ := hs
      have st := fun W hp hB => step_c B P S L c M E o t s.kd s.x s.a s.b s.cg W hp hB HI.out (by omega) s2 s1 s3 s4
      clear s2 s1 s3 s4
      obtain ⟨skd, sx, sa, sb, scg⟩ := s
      simp only at d0 d1 d2 d3 d4 st
      go_wp2_with fail
      refine (st _ hpr hBr).mono ?_
      rintro e w5 ⟨S', L', c', E', o', t', ⟨v5, rfl⟩, hp5, hI5, hL5, hE5, _, b5⟩
      have hB5 : B ≤ w5.heap.size := Nat.le_trans hBr b5.size
      have HM5 := Lib.hid (HM.out.next hE5)
      have HI5 := Lib.hid hI5
      clear hI5 hE5 d0 d1 d2 d3 d4 st
      go_wp2_with fail
      refine (one_c B P S' L' c' M E' o' t' _ hp5 hB5 HI5.out HM5.out (by omega)).mono ?_
      rintro e w6 ⟨rfl, ⟨M', hp6, hM6, hl6⟩, b6⟩
      have HM6 := Lib.hid hM6
      clear hM6
      go_wp2_with fail
      go_roundw
      case rel => exact ⟨k + 1, S', L', c', E', o', t', M', by omega, by omega, by go_num, hp6, HI5, HM6, by omega, by omega, (hbr.trans (b5.mono hwB)).trans (b6.mono hwB), Nat.le_trans hB5 b6.size⟩
      case measure => simp [intOf]; omega
    · by_cases l1 : k < n
      · have t1 : decide ((k : Int) < (n : Int)) = true := by simp; omega
        have t2 : decide ((k : Int) < 200) = false := by simp; omega
        go_wp2_with fail
        go_ret
        exact ⟨rfl, hbr⟩
      · have t1 : decide ((k : Int) < (n : Int)) = false := by simp; omega
        go_wp2_with fail
        go_ret
        exact ⟨rfl, hbr⟩
end Go.Proofs.Ytmghckddofefkaa
