/-
  isBig, slices.IndexFunc, slices.ContainsFunc and framesOf, as Renew of package disk calls them. Conditions: the records can be read.
-/
import Derived.Test.YtdelllkgllfcdaaDiskD
namespace Go.Proofs.Ytdelllkgllfcdaa
open Go.RowKit

set_option maxHeartbeats 400000 in
theorem isBig_c (A : Option Addr) (n c : Nat) (b : Bool) (hb : decide ((4000 : Int) < (n : Int)) = b) (w : World) :
    Calls Try.prog 41 #[.slice A n c] w fun e w' => e = .returned (.bool b) ∧ w = w' := by
  subst hb
  go_enter Try.func41, Try.ntmps41
  go_wp2_with fail
  go_ret
  exact ⟨rfl, rfl⟩

/-- Where the first one that is too big stands, or nowhere. -/
def IPost (w : World) (ls : List (List UInt8)) (e : Ending) (w' : World) : Prop :=
  ∃ i : Int, e = .returned (.int .i64 i) ∧ w = w' ∧ ((bigB ls = true ∧ 0 ≤ i) ∨ (bigB ls = false ∧ i = -1))

theorem small_all {ls : List (List UInt8)} {n : Nat} (hn : ls.length = n) (h : ∀ j l, j < n → ls[j]? = some l → l.length ≤ 4000) : bigB ls = false := by
  unfold bigB
  rw [List.any_eq_false]
  intro l hl
  obtain ⟨j, hj⟩ := List.mem_iff_getElem?.1 hl
  have := h j l (by rw [← hn]; exact (List.getElem?_eq_some_iff.1 hj).1) hj
  simpa using this

set_option maxRecDepth 100000 in
set_option maxHeartbeats 1000000 in
theorem index_c (A : Option Addr) (n c : Nat) (ls : List (List UInt8)) (w : World) (hl : LR w w.heap.size A n c ls) :
    Calls Try.prog 43 #[.slice A n c, .func (.func 41) #[] #[]] w (IPost w ls) := by
  have hnm := hl.max
  have HL := Lib.hid hl.1
  go_enter Try.func43, Try.ntmps43
  go_wp2_with fail
  go_loop [8] (fun i => ∃ k : Nat, k ≤ n ∧ i = .int .i64 k ∧ Hid (∀ j l, j < k → ls[j]? = some l → l.length ≤ 4000)) (fun i => n - (intOf i).toNat)
  case atStart => exact ⟨0, Nat.zero_le _, rfl, fun j l h => absurd h (Nat.not_lt_zero _)⟩
  case round =>
    obtain ⟨k, hk, rfl, HS⟩ := hrel
    by_cases hlt : k < n
    · obtain ⟨g, off, A1, n1, c1, l, rfl, Hl, cl, hb1⟩ := hl.at_ hlt
      by_cases hbg : 4000 < l.length
      · have H := Lib.hid (show IPost w ls (.returned (.int .i64 (k : Int))) w from ⟨_, rfl, rfl, .inl ⟨bigB_yes Hl.out hbg, by omega⟩⟩)
        have hd : decide ((4000 : Int) < (n1 : Int)) = true := by have := hb1.1; simp; omega
        clear hb1 hbg
        go_wp2_with fail
        refine (isBig_c A1 n1 c1 true hd w).mono ?_
        rintro e w' ⟨rfl, rfl⟩
        go_wp2_with fail
        go_ret
        exact H.out
      · have HN := Lib.hid (show ∀ j l, j < k + 1 → ls[j]? = some l → l.length ≤ 4000 by
          intro j l' hj hl'
          rcases Nat.lt_or_eq_of_le (Nat.lt_succ_iff.1 hj) with hj | rfl
          · exact HS.out j l' hj hl'
          · rw [Hl.out] at hl'; cases hl'; omega)
        have hd : decide ((4000 : Int) < (n1 : Int)) = false := by have := hb1.1; simp; omega
        clear hb1 hbg HS
        go_wp2_with fail
        refine (isBig_c A1 n1 c1 false hd w).mono ?_
        rintro e w' ⟨rfl, rfl⟩
        go_wp2_with fail
        go_round
        case rel => exact ⟨k + 1, by omega, by go_num, HN.out⟩
        case measure => simp [intOf]; omega
    · obtain rfl : k = n := by omega
      have H := Lib.hid (show IPost w ls (.returned (.int .i64 (-1))) w from ⟨_, rfl, rfl, .inr ⟨small_all HL.out HS.out, rfl⟩⟩)
      clear HS
      go_wp2_with fail
      go_ret
      exact H.out

set_option maxRecDepth 100000 in
set_option maxHeartbeats 1000000 in
theorem contains_c (A : Option Addr) (n c : Nat) (ls : List (List UInt8)) (w : World) (hl : LR w w.heap.size A n c ls) :
    Calls Try.prog 40 #[.slice A n c, .func (.func 41) #[] #[]] w fun e w' => e = .returned (.bool (bigB ls)) ∧ w = w' := by
  go_enter Try.func40, Try.ntmps40
  go_wp2_with fail
  refine (index_c A n c ls w hl).mono ?_
  rintro e w' ⟨i, rfl, rfl, ⟨h1, h2⟩ | ⟨h1, rfl⟩⟩
  · have H1 := Lib.hid h1
    clear h1
    go_wp2_with fail
    go_ret
    exact ⟨ret_bool H1.out.symm, rfl⟩
  · have H1 := Lib.hid h1
    clear h1
    go_wp2_with fail
    go_ret
    exact ⟨ret_bool H1.out.symm, rfl⟩

/-- What framesOf gives back: the frames, and no error; or an error. -/
def RPost (w : World) (r : Nat) (ls : List (List UInt8)) (e : Ending) (w' : World) : Prop :=
  ∃ A n c, e = .returned (.tuple #[.slice A n c, .int .i64 (eR r ls : Int)]) ∧ BR w' w'.heap.size A n c (if eR r ls = 0 then frs ls else []) ∧ Below w.heap.size w w'

set_option maxRecDepth 100000 in
set_option maxHeartbeats 2000000 in
theorem frames_c (A : Option Addr) (n c r : Nat) (ls : List (List UInt8)) (w : World) (hl : LR w w.heap.size A n c ls) (hr : r ≤ 2000000) :
    Calls Try.prog 34 #[.slice A n c, .int .i64 r] w (RPost w r ls) := by
  have hnm := hl.max
  have HL := Lib.hid hl.1
  obtain ⟨i0, Hi, Hz, Hz1, Hz2⟩ := info_hid
  have p4 : 0 < 1 := by omega
  go_enter Try.func34, Try.ntmps34
  go_wp2_with fail
  refine (contains_c A n c ls w hl).mono ?_
  rintro e w' ⟨rfl, rfl⟩
  cases hbig : bigB ls with
  | true =>
    have H := Lib.hid (show RPost w r ls (.returned (.tuple #[.slice none 0 0, .int .i64 3])) w from ⟨none, 0, 0, by rw [eR_big hbig]; rfl, by rw [eR_big hbig]; exact BR.nil _ _, Below.refl _ _⟩)
    clear hbig
    go_wp2_with fail
    go_ret2
    exact H.out
  | false =>
    have HB := Lib.hid hbig
    clear hbig
    have HK : KI w [] none 0 0 w := ⟨⟨none, Seg.nil _ _ _, fun g e => by cases e⟩, Below.refl _ _⟩
    go_wp2_with fail
    go_loopw [6, 15] (fun a i wr => ∃ (k n' : Nat) (A' : Option Addr) (c' : Nat) (xs : List UInt8), k ≤ n ∧ i = .int .i64 k ∧ a = .slice A' n' c' ∧ n' ≤ r ∧ KI w xs A' n' c' wr ∧ Hid (frs (ls.take k) = xs)) (fun _ i _ => n - (intOf i).toNat)
    case atStart => exact ⟨0, 0, none, 0, [], Nat.zero_le _, rfl, rfl, Nat.zero_le _, HK, rfl⟩
    case round =>
      clear HK
      obtain ⟨k, n', A', c', xs, hk, rfl, rfl, hnr, HK, HX⟩ := hrel
      obtain ⟨G', hs', hG'⟩ := HK.ex
      have hxl : xs.length = n' := by have := hs'.1; rw [bc_length] at this; omega
      by_cases hlt : k < n
      · obtain ⟨g, off, A2, n2, c2, l, rfl, Hl, cl, hb2⟩ := (hl.below HK.bl (Nat.le_refl _)).at_ hlt
        have HN := Lib.hid (show frs (ls.take (k + 1)) = xs ++ frameB l by rw [frs_next Hl.out, HX.out])
        have hl4 : ¬ 4000 < l.length := by have := bigB_no HB.out l (List.mem_of_getElem? Hl.out); omega
        obtain ⟨e1, e2⟩ := eF_ok hl4
        have hn2 := hb2.1
        have hn4 : n2 ≤ 4000 := by omega
        have Hn2 := Lib.hid hn2
        clear hn2 hl4
        go_wp2_with fail
        refine (frame_c A2 n2 c2 l wr (hb2.more HK.bl.size)).mono ?_
        rintro e w3 ⟨A3, n3, c3, G3, rfl, hs3, hb3, _⟩
        rw [e2] at hs3
        rw [e1]
        obtain rfl : n3 = n2 + 7 := by have h5 := hs3.1; rw [bc_length, frameB_length, Hn2.out] at h5; omega
        have hsrc := hs3.src
        have hs'' := hs'.below hb3 (Nat.le_refl _)
        have HK3 : KI w xs A' n' c' w3 := ⟨⟨G', hs'', hG'⟩, HK.bl.trans (hb3.mono HK.bl.size)⟩
        clear e1 e2 hs3 hs' HK hb2 hb3
        by_cases hful : r < n' + (n2 + 7)
        · have H := Lib.hid (show RPost w r ls (.returned (.tuple #[.slice none 0 0, .int .i64 6])) w3 by
            have h6 : eR r ls = 6 := by
              refine eR_full HB.out ?_
              have h7 := frs_take_le ls (k + 1)
              rw [HN.out, List.length_append, frameB_length, hxl, Hn2.out] at h7
              omega
            exact ⟨none, 0, 0, by rw [h6]; rfl, by rw [h6]; exact BR.nil _ _, HK3.bl⟩)
          have hfi : (r : Int) < (n' : Int) + ((n2 : Int) + 7) := by omega
          clear HK3 hs'' hsrc hxl
          go_wp2_with fail
          go_ret2
          exact H.out
        · have hfi : ¬ (r : Int) < (n' : Int) + ((n2 : Int) + 7) := by omega
          have p1 : n' + (n2 + 7) ≤ maxLen := by simp only [maxLen]; omega
          have p2 : (n' + (n2 + 7)) * 1 ≤ 140737488355328 := by omega
          have HNX := Lib.hid (fun A4 c4 G4 w4 => HK3.next (ys := frameB l) (zs := xs ++ frameB l) (w3 := w4) (A3 := A4) (m := n' + (n2 + 7)) (c3 := c4) (G3 := G4) hG')
          clear HK3 hxl
          go_wp2_with (at_builtin; refine wpList_append_src _ rfl (.tmp 31) (.tmp 32) _ rfl 5 i0 _ 1 1 Try.underlying22 Hi.out Hz.out Hz1.out Hz2.out rfl p4 rfl hs'' rfl hsrc (bc_one _) p1 p2 ?_; intro A4 c4 G4 w4 hs4 hg4 hm4; have HK := Lib.hid (HNX.out _ _ _ _ hs4 hg4 hm4 (by first | rfl | trivial)); clear hs4 hg4 hm4)
          go_roundw
          case rel => exact ⟨k + 1, n' + (n2 + 7), A4, c4, xs ++ frameB l, by omega, by go_num, rfl, by omega, HK.out, HN.out⟩
          case measure => simp [intOf]; omega
      · obtain rfl : k = n := by omega
        have hxe : frs ls = xs := by rw [← HX.out, List.take_of_length_le (by rw [HL.out]; exact Nat.le_refl _)]
        have H := Lib.hid (show RPost w r ls (.returned (.tuple #[.slice A' n' c', .int .i64 0])) wr by
          have h0 : eR r ls = 0 := eR_ok HB.out (by rw [hxe, hxl]; omega)
          exact ⟨A', n', c', by rw [h0]; rfl, by rw [if_pos h0, hxe]; exact BR.of_seg hs', HK.bl⟩)
        clear HK hs' hxl hxe HX
        go_wp2_with fail
        go_ret2
        exact H.out
end Go.Proofs.Ytdelllkgllfcdaa
