/-
  The walk of the law CellsSafe: it returns true and leaves all memory that was there. Conditions: the slice reads as a row of acts, the number is a uint8.
-/
import Derived.Test.YtopgnjnnijhpkaaCellK
namespace Go.Proofs.Ytopgnjnnijhpkaa
open Go.RowKit Go.Maps UI

/-- The first n are f's, the others g's. -/
def mix (n : Nat) (f g : Nat → Value) (i : Nat) : Value := if i < n then f i else g i
theorem mix_step (n : Nat) (f g : Nat → Value) (j : Nat) : mix (n + 1) f g j = if j = n then f n else mix n f g j := by
  unfold mix
  by_cases e : j = n
  · subst e; simp
  · by_cases h : j < n
    · rw [if_neg e, if_pos h, if_pos (by omega)]
    · rw [if_neg e, if_neg h, if_neg (by omega)]
theorem mix_all (f g : Nat → Value) {w : World} {b : Nat} {t : TypeId} (h : AR w b t (mix 256 f g)) : AR w b t f := by
  obtain ⟨cs, h1, h2, h3⟩ := h
  exact ⟨cs, h1, h2, fun i hi => by rw [h3 i hi]; simp [mix, hi]⟩
theorem mix_none (f g : Nat → Value) {w : World} {b : Nat} {t : TypeId} (h : AR w b t g) : AR w b t (mix 0 f g) := h

set_option maxRecDepth 100000 in
set_option maxHeartbeats 1000000 in
theorem safe_walk (a : Option Addr) (cap : Nat) (acts : List ActV) (at_ : Nat) (w : World) (h0 : CameA w a acts) (hm0 : acts.length ≤ maxLen) (hat : at_ < 256) :
    Calls Try.prog 4 #[.slice a acts.length cap, .int .u8 at_] w fun e w' => e = .returned (.bool true) ∧ Below w.heap.size w w' := by
  unfold maxLen at hm0
  by_cases hlen : 100 < acts.length
  · go_enter Try.func4, Try.ntmps4
    go_wp2_with fail
    refine (alive_c _).mono ?_
    rintro e w1 ⟨rfl, b1⟩
    go_wp2_with fail
    refine (new_ok 300 _ (by omega) (by omega)).mono ?_
    rintro e w2 ⟨c, rfl, h2, b2⟩
    go_wp2
    go_ret
    exact ⟨rfl, b1.trans (b2.mono b1.size)⟩
  · go_enter Try.func4, Try.ntmps4
    go_wp2_with fail
    refine (alive_c _).mono ?_
    rintro e w1 ⟨rfl, b1⟩
    go_wp2_with fail
    refine (new_ok 300 _ (by omega) (by omega)).mono ?_
    rintro e w2 ⟨c, rfl, h2, b2⟩
    have b12 := b1.trans (b2.mono b1.size)
    have hlow := b1.size
    obtain ⟨B1, hB1⟩ : ∃ B1, B1 = w1.heap.size := ⟨_, rfl⟩
    rw [← hB1] at h2 hlow
    clear b1 b2 hB1
    have a1 : AR ((w2.alloc (.cells Try.zeroCells44 44)).alloc (.cells Try.zeroCells45 45)) w2.heap.size 44 (valA []) := by
      rw [zeroI]
      exact (AR.new w2 _ _ (valA []) (fun _ _ => rfl)).alloc _
    have a2 : AR ((w2.alloc (.cells Try.zeroCells44 44)).alloc (.cells Try.zeroCells45 45)) (w2.heap.size + 1) 45 (hasA []) := by
      rw [zeroB]
      have := AR.new (w2.alloc (.cells Try.zeroCells44 44)) 45 (.bool false) (hasA []) (fun _ _ => rfl)
      rwa [World.size_alloc] at this
    have h3 := (h2.alloc (.cells Try.zeroCells44 44)).alloc (.cells Try.zeroCells45 45)
    have b3 := (b12.alloc b12.size (.cells Try.zeroCells44 44)).alloc (by have := b12.size; simp; omega) (.cells Try.zeroCells45 45)
    have hla := b12.size
    clear h2 b12
    obtain ⟨kk, hkk⟩ : ∃ kk : Nat, kk = at_ % (acts.length + 1) := ⟨_, rfl⟩
    have hk8 : ((at_ : Int) % ((acts.length : Int) + 1)) = kk := by rw [hkk]; simp
    have Hk8 := Lib.hid hk8
    clear hkk hk8
    go_wp2_with fail
    rw [Hk8.out]
    clear Hk8
    generalize hW3 : (w2.alloc (.cells Try.zeroCells44 44)).alloc (.cells Try.zeroCells45 45) = w3 at *
    clear hW3
    generalize w2.heap.size = la at *
    go_loopw [37] (fun i wr => ∃ (j : Nat) (L S : List (Int × Int)), j ≤ acts.length ∧ i = .int .i64 j ∧ L.length ≤ j ∧ CE B1 wr c 300 L S ∧ AR wr la 44 (valA S) ∧ AR wr (la + 1) 45 (hasA S) ∧ Below w.heap.size w wr) (fun i _ => acts.length - (intOf i).toNat)
    case atStart => exact ⟨0, [], [], by omega, rfl, by simp, h3, a1, a2, b3⟩
    case round =>
      clear h3 b3 a1 a2
      obtain ⟨j, L, S, hj, rfl, hL, h3, a1, a2, b3⟩ := hrel
      by_cases hlt : j < acts.length
      · obtain ⟨av, hav⟩ : ∃ av, acts[j]? = some av := ⟨_, List.getElem?_eq_getElem hlt⟩
        obtain ⟨hok, b, off, rfl, d0, d1, d2⟩ := h0.at_ b3 hav
        obtain ⟨kd, ky, vl⟩ := av
        obtain ⟨hkd, hky, hvl⟩ := hok
        simp only at d0 d1 d2 hky hvl hkd
        obtain ⟨kn, rfl, hkn⟩ := u8_nat hky
        obtain ⟨kx, rfl, hkx⟩ := u8_nat hkd
        have Hvl := Lib.hid hvl
        clear hav hvl hky hkd
        have h4 := h3.alloc (.cells #[.int .u8 kx, .int .u8 kn, .int .i64 vl] 30)
        have b4 := b3.alloc b3.size (.cells #[.int .u8 kx, .int .u8 kn, .int .i64 vl] 30)
        have q4 := CB.new wr 30 #[.int .u8 kx, .int .u8 kn, .int .i64 vl]
        have a14 := a1.alloc (.cells #[.int .u8 kx, .int .u8 kn, .int .i64 vl] 30)
        have a24 := a2.alloc (.cells #[.int .u8 kx, .int .u8 kn, .int .i64 vl] 30)
        clear h3 b3 a1 a2
        by_cases hjk : j = kk
        · subst hjk
          go_wp2_with fail
          refine (sync_c _ c 300 _ _ _ h4).mono ?_
          rintro e w5 ⟨rfl, h5, f5⟩
          have b5 := b4.trans (f5.low.mono hlow)
          have q5 := f5.cb q4 (h4.ne q4 (by decide))
          obtain ⟨cs1, cb1⟩ := a14.cb
          obtain ⟨cs2, cb2⟩ := a24.cb
          have a15 := mix_none (valA L) (valA S) (a14.kept f5 (h4.ne cb1 (by decide)))
          have a25 := mix_none (hasA L) (hasA S) (a24.kept f5 (h4.ne cb2 (by decide)))
          generalize valA S = vS at a15
          generalize hasA S = bS at a25
          clear h4 b4 f5 d0 d1 d2 a14 a24 cb1 cb2 q4
          go_wp2_with fail
          go_loopw [47] (fun i w6 => ∃ n : Nat, n ≤ 256 ∧ i = .int .i64 n ∧ CE B1 w6 c 300 L L ∧ AR w6 la 44 (mix n (valA L) vS) ∧ AR w6 (la + 1) 45 (mix n (hasA L) bS) ∧ CB w6 wr.heap.size 30 #[.int .u8 kx, .int .u8 kn, .int .i64 vl] ∧ Below w.heap.size w w6) (fun i _ => 256 - (intOf i).toNat)
          case atStart => exact ⟨0, by omega, rfl, h5, a15, a25, q5, b5⟩
          case round =>
            clear h5 a15 a25 q5 b5
            obtain ⟨n, hn, rfl, h6, a1, a2, q6, b6⟩ := hrel
            by_cases hn2 : n < 256
            · have hw : IntKind.u8.wrap (n : Int) = n := by simp [IntKind.wrap, IntKind.bits, IntKind.signed]; omega
              have hg := get_any _ c 300 _ _ _ h6 n (nat_u8 hn2)
              unfold gE at hg
              have y1 := a1.cell hn2
              have x1 := a1.frozen n
              obtain ⟨cs1, cb1⟩ := a1.cb
              have nq1 := q6.ne_ cb1 (by decide)
              cases hgl : getL L n with
              | none =>
                simp only [hgl, Option.getD_none] at hg
                have s13 := (a2.far (p := ⟨la, n, none⟩) (by simp) (.int .i64 0)).cell hn2
                have s14 := (a2.far (p := ⟨la, n, none⟩) (by simp) (.int .i64 0)).frozen n
                have h7 := h6.far cb1 (by decide) n (.int .i64 0)
                obtain ⟨cs3, cb3⟩ := (a2.far (p := ⟨la, n, none⟩) (by simp) (.int .i64 0)).cb
                have h8 := h7.far cb3 (by decide) n (.bool false)
                have a18 := (a1.put hn2 (.int .i64 0) (f' := mix (n + 1) (valA L) vS) (fun i _ => by rw [mix_step]; simp [valA, hgl])).far (p := ⟨la + 1, n, none⟩) (by simp) (.bool false)
                have a28 := (a2.far (p := ⟨la, n, none⟩) (by simp) (.int .i64 0)).put hn2 (.bool false) (f' := mix (n + 1) (hasA L) bS) (fun i _ => by rw [mix_step]; simp [hasA, has_get, hgl])
                have q7 := q6.far (p := ⟨la, n, none⟩) nq1 (.int .i64 0)
                have q8 := q7.far (p := ⟨la + 1, n, none⟩) (q7.ne_ cb3 (by decide)) (.bool false)
                have b8 := (b6.setCell (p := ⟨la, n, none⟩) hla (.int .i64 0)).setCell (p := ⟨la + 1, n, none⟩) (by simp; omega) (.bool false)
                have H8 := Lib.hid h8
                have A18 := Lib.hid a18
                have A28 := Lib.hid a28
                have Q8 := Lib.hid q8
                have HB8 := Lib.hid b8
                clear h6 h7 h8 a1 a2 a18 a28 q6 q7 q8 b6 b8 cb1 cb3 nq1 hgl
                go_wp2_with fail
                refine hg.mono ?_
                rintro e w8 ⟨rfl, rfl⟩
                go_wp2
                go_roundw
                case rel => exact ⟨n + 1, by omega, by go_num, H8.out, A18.out, A28.out, Q8.out, HB8.out⟩
                case measure => simp [intOf]; omega
              | some u =>
                simp only [hgl, Option.getD_some] at hg
                have s13 := (a2.far (p := ⟨la, n, none⟩) (by simp) (.int .i64 u)).cell hn2
                have s14 := (a2.far (p := ⟨la, n, none⟩) (by simp) (.int .i64 u)).frozen n
                have h7 := h6.far cb1 (by decide) n (.int .i64 u)
                obtain ⟨cs3, cb3⟩ := (a2.far (p := ⟨la, n, none⟩) (by simp) (.int .i64 u)).cb
                have h8 := h7.far cb3 (by decide) n (.bool true)
                have a18 := (a1.put hn2 (.int .i64 u) (f' := mix (n + 1) (valA L) vS) (fun i _ => by rw [mix_step]; simp [valA, hgl])).far (p := ⟨la + 1, n, none⟩) (by simp) (.bool true)
                have a28 := (a2.far (p := ⟨la, n, none⟩) (by simp) (.int .i64 u)).put hn2 (.bool true) (f' := mix (n + 1) (hasA L) bS) (fun i _ => by rw [mix_step]; simp [hasA, has_get, hgl])
                have q7 := q6.far (p := ⟨la, n, none⟩) nq1 (.int .i64 u)
                have q8 := q7.far (p := ⟨la + 1, n, none⟩) (q7.ne_ cb3 (by decide)) (.bool true)
                have b8 := (b6.setCell (p := ⟨la, n, none⟩) hla (.int .i64 u)).setCell (p := ⟨la + 1, n, none⟩) (by simp; omega) (.bool true)
                have H8 := Lib.hid h8
                have A18 := Lib.hid a18
                have A28 := Lib.hid a28
                have Q8 := Lib.hid q8
                have HB8 := Lib.hid b8
                clear h6 h7 h8 a1 a2 a18 a28 q6 q7 q8 b6 b8 cb1 cb3 nq1 hgl
                go_wp2_with fail
                refine hg.mono ?_
                rintro e w8 ⟨rfl, rfl⟩
                go_wp2
                go_roundw
                case rel => exact ⟨n + 1, by omega, by go_num, H8.out, A18.out, A28.out, Q8.out, HB8.out⟩
                case measure => simp [intOf]; omega
            · obtain rfl : n = 256 := by omega
              have a16 := mix_all _ _ a1
              have a26 := mix_all _ _ a2
              clear a1 a2
              have z0 := q6.cell 0
              have z1 := q6.cell 1
              have z2 := q6.cell 2
              simp only [List.getElem?_toArray, List.getElem?_cons_succ, List.getElem?_cons_zero] at z0 z1 z2
              obtain ⟨cs1, cb1⟩ := a16.cb
              obtain ⟨cs2, cb2⟩ := a26.cb
              have ne1 := h6.ne cb1 (by decide)
              have ne2 := h6.ne cb2 (by decide)
              clear cb1 cb2
              have srt := h6.srt
              go_wp2_with fail
              · refine (set_ok _ c 300 _ _ _ h6 kn vl (nat_u8 hkn) Hvl.out (.inr (by omega))).mono ?_
                rintro e w8 ⟨rfl, h8, f8⟩
                have b8 := b6.trans (f8.low.mono hlow)
                have a18 := a16.kept f8 ne1
                have a28 := a26.kept f8 ne2
                have hl8 : (putL L kn vl).length ≤ j + 1 := by
                  rw [length_put srt]
                  split <;> omega
                clear z0 z1 z2 q6 f8 h6 b6 a16 a26
                go_wp2
                go_roundw
                case rel => exact ⟨j + 1, _, _, by omega, by go_num, hl8, h8, a18, a28, b8⟩
                case measure => simp [intOf]; omega
              · refine (drop_any _ c 300 _ _ _ h6 kn (nat_u8 hkn)).mono ?_
                rintro e w8 ⟨rfl, h8, f8⟩
                have b8 := b6.trans (f8.low.mono hlow)
                have a18 := a16.kept f8 ne1
                have a28 := a26.kept f8 ne2
                have hl8 : (delL L kn).length ≤ j + 1 := by
                  have := length_del_le L kn
                  omega
                clear z0 z1 z2 q6 f8 h6 b6 a16 a26
                generalize gE L kn = er
                go_wp2
                go_roundw
                case rel => exact ⟨j + 1, _, _, by omega, by go_num, hl8, h8, a18, a28, b8⟩
                case measure => simp [intOf]; omega
        · have hjk2 : ((j : Int) == (kk : Int)) = false := by simp; omega
          have z0 := q4.cell 0
          have z1 := q4.cell 1
          have z2 := q4.cell 2
          simp only [List.getElem?_toArray, List.getElem?_cons_succ, List.getElem?_cons_zero] at z0 z1 z2
          obtain ⟨cs1, cb1⟩ := a14.cb
          obtain ⟨cs2, cb2⟩ := a24.cb
          have ne1 := h4.ne cb1 (by decide)
          have ne2 := h4.ne cb2 (by decide)
          clear cb1 cb2
          have srt := h4.srt
          go_wp2_with fail
          · refine (set_ok _ c 300 _ _ _ h4 kn vl (nat_u8 hkn) Hvl.out (.inr (by omega))).mono ?_
            rintro e w8 ⟨rfl, h8, f8⟩
            have b8 := b4.trans (f8.low.mono hlow)
            have a18 := a14.kept f8 ne1
            have a28 := a24.kept f8 ne2
            have hl8 : (putL L kn vl).length ≤ j + 1 := by
              rw [length_put srt]
              split <;> omega
            clear z0 z1 z2 q4 f8 h4 b4 a14 a24
            go_wp2
            go_roundw
            case rel => exact ⟨j + 1, _, _, by omega, by go_num, hl8, h8, a18, a28, b8⟩
            case measure => simp [intOf]; omega
          · refine (drop_any _ c 300 _ _ _ h4 kn (nat_u8 hkn)).mono ?_
            rintro e w8 ⟨rfl, h8, f8⟩
            have b8 := b4.trans (f8.low.mono hlow)
            have a18 := a14.kept f8 ne1
            have a28 := a24.kept f8 ne2
            have hl8 : (delL L kn).length ≤ j + 1 := by
              have := length_del_le L kn
              omega
            clear z0 z1 z2 q4 f8 h4 b4 a14 a24
            generalize gE L kn = er
            go_wp2
            go_roundw
            case rel => exact ⟨j + 1, _, _, by omega, by go_num, hl8, h8, a18, a28, b8⟩
            case measure => simp [intOf]; omega
      · go_wp2_with fail
        refine (crash_c _ c 300 _ _ _ h3).mono ?_
        rintro e w5 ⟨rfl, h5, f5⟩
        have b5 := b3.trans (f5.low.mono hlow)
        obtain ⟨cs1, cb1⟩ := a1.cb
        obtain ⟨cs2, cb2⟩ := a2.cb
        have a15 := a1.kept f5 (h3.ne cb1 (by decide))
        have a25 := a2.kept f5 (h3.ne cb2 (by decide))
        have H7 := Lib.hid h5
        have A17 := Lib.hid a15
        have A27 := Lib.hid a25
        have HB7 := Lib.hid b5
        clear h3 h5 a1 a2 a15 a25 b3 b5 f5 cb1 cb2
        go_wp2_with fail
        generalize S = M at *
        go_loop [83] (fun i => ∃ n : Nat, n ≤ 256 ∧ i = .int .i64 n) (fun i => 256 - (intOf i).toNat)
        case atStart => exact ⟨0, by omega, rfl⟩
        case round =>
          obtain ⟨n, hn, rfl⟩ := hrel
          by_cases hn2 : n < 256
          · have hw : IntKind.u8.wrap (n : Int) = n := by simp [IntKind.wrap, IntKind.bits, IntKind.signed]; omega
            have z1 := A17.out.cell hn2
            have z2 := A27.out.cell hn2
            unfold valA at z1
            unfold hasA at z2
            rw [has_get] at z2
            have hg := get_any _ c 300 _ _ _ H7.out n (nat_u8 hn2)
            unfold gE at hg
            cases hgl : getL M n with
            | none =>
              simp only [hgl, Option.getD_none, Option.isSome_none] at z1 z2 hg
              go_wp2_with fail
              refine hg.mono ?_
              rintro e w8 ⟨rfl, rfl⟩
              go_wp2
              go_round
              case rel => exact ⟨n + 1, by omega, by go_num⟩
              case measure => simp [intOf]; omega
            | some u =>
              simp only [hgl, Option.getD_some, Option.isSome_some] at z1 z2 hg
              go_wp2_with fail
              refine hg.mono ?_
              rintro e w8 ⟨rfl, rfl⟩
              go_wp2
              go_round
              case rel => exact ⟨n + 1, by omega, by go_num⟩
              case measure => simp [intOf]; omega
          · obtain rfl : n = 256 := by omega
            go_wp2
            go_ret
            exact ⟨rfl, HB7.out⟩
end Go.Proofs.Ytopgnjnnijhpkaa
