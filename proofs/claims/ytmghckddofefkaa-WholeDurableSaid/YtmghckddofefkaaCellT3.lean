/-
  slices.SortFunc at the cells of package cells, keys and values uint8, waystation/hand.Side: a row of cells, each key once, comes to be by rising keys. Condition: the row is fewer than ten thousand and one.
-/
import Derived.Test.YtmghckddofefkaaCellA3
import Derived.Test.YtmghckddofefkaaCellS
import Derived.Test.YtmghckddofefkaaSortZ
import Derived.Shelf.Small.Bits
namespace Go.Proofs.Ytmghckddofefkaa.US
open Go.RowKit Go.Shelf Go.Maps Go.Sort Go.Lib

/-- The cells of a list. -/
def enc (p : Int × Sd) : List Value := [.int .u8 p.1, .int .u8 (p.2).me, .int .i64 (p.2).l.ep, .int .i64 (p.2).l.st, .int .u8 (p.2).l.to, .string (p.2).cg, .bool (p.2).kp]
def cel (L : List (Int × Sd)) : List Value := L.flatMap enc

theorem nan_c (x : Int) (W : World) : Calls Try.prog 108 #[.int .u8 x] W fun e w' => e = .returned (.bool false) ∧ W = w' := by
  go_enter Try.func108, Try.ntmps108
  go_wp2
  go_ret
  exact ⟨by simp, rfl⟩

def cmpi (x y : Int) : Int := if x < y then -1 else if y < x then 1 else 0

theorem cmp_c (x y : Int) (W : World) : Calls Try.prog 93 #[.int .u8 x, .int .u8 y] W fun e w' => e = .returned (.int .i64 (cmpi x y)) ∧ W = w' := by
  by_cases h1 : x < y
  · have e1 : cmpi x y = -1 := by simp [cmpi, h1]
    rw [e1]
    go_enter Try.func93, Try.ntmps93
    go_wp2_with (go_at_call 108; refine (nan_c _ _).mono ?_; rintro e w' ⟨rfl, rfl⟩)
    go_ret
    exact ⟨rfl, rfl⟩
  · by_cases h2 : y < x
    · have e1 : cmpi x y = 1 := by simp [cmpi, h1, h2]
      rw [e1]
      go_enter Try.func93, Try.ntmps93
      go_wp2_with (go_at_call 108; refine (nan_c _ _).mono ?_; rintro e w' ⟨rfl, rfl⟩)
      go_ret
      exact ⟨rfl, rfl⟩
    · have e1 : cmpi x y = 0 := by simp [cmpi, h1, h2]
      rw [e1]
      go_enter Try.func93, Try.ntmps93
      go_wp2_with (go_at_call 108; refine (nan_c _ _).mono ?_; rintro e w' ⟨rfl, rfl⟩)
      go_ret
      exact ⟨rfl, rfl⟩

theorem byKey_c (x y : Int × Sd) (W : World) : Calls Try.prog 80 #[.agg (enc x).toArray, .agg (enc y).toArray] W fun e w' => e = .returned (.int .i64 (cfk x y)) ∧ ∃ q os', w' = grow (W.drewN q) os' := by
  have hcon := fun W' => cmp_c x.1 y.1 W'
  have hr : cfk x y = cmpi x.1 y.1 := rfl
  rw [hr]
  generalize cmpi x.1 y.1 = r at hcon ⊢
  show Calls Try.prog 80 #[.agg #[.int .u8 x.1, .int .u8 (x.2).me, .int .i64 (x.2).l.ep, .int .i64 (x.2).l.st, .int .u8 (x.2).l.to, .string (x.2).cg, .bool (x.2).kp], .agg #[.int .u8 y.1, .int .u8 (y.2).me, .int .i64 (y.2).l.ep, .int .i64 (y.2).l.st, .int .u8 (y.2).l.to, .string (y.2).cg, .bool (y.2).kp]] W _
  go_enter Try.func80, Try.ntmps80
  go_wp2_with (go_at_call 93; refine (hcon _).mono ?_; rintro e w' ⟨rfl, rfl⟩)
  go_ret
  exact ⟨rfl, 0, _, by rw [alloc_eq_grow, alloc_eq_grow, grow_grow]; rfl⟩

theorem enc_two (x : Int × Sd) : (enc x).length = 7 := rfl
theorem enc_one (x : Int × Sd) : ∀ v ∈ enc x, v.oneCell' = true := fun v hv => by
  simp [enc] at hv
  rcases hv with rfl | rfl | rfl | rfl | rfl | rfl | rfl <;> rfl

set_option maxHeartbeats 1000000 in
theorem sort_c (w : World) (g off cap : Nat) (s L : List (Int × Sd)) (hs : Apart s) (hL : Srt L) (hp : s.Perm L) (hm : L.length ≤ 10000) (h : Seg w 148 7 (some ⟨g, off, none⟩) s.length cap (cel s) (some g)) :
    Calls Try.prog 79 #[.slice (some ⟨g, off, none⟩) s.length cap, .func (.func 80) #[] #[]] w fun e w' => e = .returned (.tuple #[]) ∧
      Seg w' 148 7 (some ⟨g, off, none⟩) s.length cap (cel L) (some g) ∧ w.grownBy w' (some g) := by
  have hsl : s.length = L.length := hp.length_eq
  have eg : ∀ args w, (callFunc 80 args).run Try.prog w = .ok (.enter 80 args) w := enters_of Try.func80 (by kernel_rfl) rfl
  have hH : HoldsK enc 7 w g off s.toArray := holdsK_of_seg (by decide) enc_two h
  have hblk : g < w.heap.size := h.lt g rfl
  have hcmp : CmpLays Try.prog 80 #[] enc 7 cfk g off s.toArray.size w := fun _ _ _ _ x y => byKey_c x y _
  have hz : s.toArray.size = s.length := by simp
  have hlim : Lib.bitLen s.length < 4611686018427387904 := Nat.lt_of_le_of_lt (Lib.bitLen_le s.length 62 (by omega) (by omega)) (by omega)
  have hpd := AnyQ.pdqsortCmpFunc_all Try.sortUS 7 (fun w => Try.isAgg148 w) (fun w => Try.sizeOf148 w) enc cfk 80 #[] swo_cfk g off cap s.toArray w eg hcmp ⟨enc_two, enc_one, hH, hblk⟩ (s.toArray.size + 1) 0 s.toArray.size (Lib.bitLen s.toArray.size) s.toArray w (by omega) rfl (SWK.start hH) (Nat.zero_le _) (Nat.le_refl _) (by rw [hz]; omega) (by rw [hz]; exact hlim) (Or.inl rfl)
  have hsorts := pdq_sorts (ltOf cfk) swo_cfk s.toArray 0 s.toArray.size (Lib.bitLen s.toArray.size) true true (Nat.zero_le _) (Nat.le_refl _) (Or.inl rfl)
  generalize pdq (ltOf cfk) s.toArray 0 s.toArray.size (Lib.bitLen s.toArray.size) true true = d' at hpd hsorts
  have hd : d' = L.toArray := by
    have := srt_of_sort hs hL hp hsorts.1 hsorts.2
    rw [← this]
  subst hd
  rw [hz] at hpd
  have hl : Calls Try.prog 92 #[.int .u64 (s.length : Int)] w fun e w' => e = .returned (.int .i64 (Lib.bitLen s.length : Nat)) ∧ w' = w := by
    have h := Any.bits_Len (SlLaysF0.n15.bits (P := Try.prog) { Try.sortUS with }) (s.length : Int) w (by omega) (by omega)
    rwa [Int.toNat_natCast] at h
  have wr : IntKind.u64.wrap (s.length : Int) = s.length := by simp [IntKind.wrap, IntKind.bits, IntKind.signed]; omega
  change Calls Try.prog 91 _ _ _ at hpd
  obtain ⟨N, hN⟩ : ∃ N, N = Lib.bitLen s.length := ⟨_, rfl⟩
  rw [← hN] at hpd hl
  clear hN hlim hsorts hcmp hH eg
  have Hseg := Lib.hid h
  have Hsl := Lib.hid hsl
  clear h hsl hz
  go_enter Try.func79, Try.ntmps79
  go_wp2_with (first | (go_at_call 92; refine hl.mono ?_; rintro e w' ⟨rfl, rfl⟩) | (go_at_call 91; refine hpd.mono ?_; rintro e w' ⟨rfl, n, os, rfl⟩))
  go_end0
  exact ⟨rfl, seg_sortK (by decide) enc_two Hseg.out (Hsl.out).symm n os, grown_sortK _ _ _ _⟩
end Go.Proofs.Ytmghckddofefkaa.US
