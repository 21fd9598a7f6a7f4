/-
  The walk of the law CellsKeys: it returns true and leaves all memory that was there. Conditions: the slice reads as a row of acts, the key is a uint8, the value an int64.
-/
import Derived.Test.YtopgnjnnijhpkaaCellH
import Derived.Test.YtopgnjnnijhpkaaCellG
namespace Go.Proofs.Ytopgnjnnijhpkaa
open Go.RowKit Go.Maps UI

theorem zeroI : Try.zeroCells44 = Array.replicate 256 (.int .i64 0) := by kernel_rfl
theorem zeroB : Try.zeroCells45 = Array.replicate 256 (.bool false) := by kernel_rfl

/-- The arrays that a law keeps beside cells: each key's value, and whether it has one. -/
def valA (L : List (Int × Int)) (i : Nat) : Value := .int .i64 ((getL L i).getD 0)
def hasA (L : List (Int × Int)) (i : Nat) : Value := .bool (hasL L i)

theorem valA_put {L : List (Int × Int)} (h : Srt L) (k : Nat) (v : Int) (j : Nat) : valA (putL L k v) j = if j = k then .int .i64 v else valA L j := by
  unfold valA
  rw [getL_put _ h]
  by_cases e : j = k
  · subst e; simp
  · rw [if_neg (by omega), if_neg e]
theorem hasA_put {L : List (Int × Int)} (h : Srt L) (k : Nat) (v : Int) (j : Nat) : hasA (putL L k v) j = if j = k then .bool true else hasA L j := by
  unfold hasA
  rw [has_get, has_get, getL_put _ h]
  by_cases e : j = k
  · subst e; simp
  · rw [if_neg (by omega), if_neg e]

theorem u8_nat {k : Int} (h : (Lit.int .u8 k).wf = true) : ∃ n : Nat, k = n ∧ n < 256 := by
  simp [Lit.wf, IntKind.min, IntKind.max, IntKind.bits, IntKind.signed] at h
  exact ⟨k.toNat, by omega, by omega⟩
theorem nat_u8 {n : Nat} (h : n < 256) : (Lit.int .u8 (n : Int)).wf = true := by
  simp [Lit.wf, IntKind.min, IntKind.max, IntKind.bits, IntKind.signed]
  omega

set_option maxRecDepth 100000 in
set_option maxHeartbeats 1000000 in
theorem keys_walk (a : Option Addr) (cap : Nat) (acts : List ActV) (k v : Int) (w : World) (h0 : CameA w a acts) (hm0 : acts.length ≤ maxLen) (hk : (Lit.int .u8 k).wf = true) (hv : (Lit.int .i64 v).wf = true) :
    Calls Try.prog 7 #[.slice a acts.length cap, .int .u8 k, .int .i64 v] w fun e w' => e = .returned (.bool true) ∧ Below w.heap.size w w' := by
  unfold maxLen at hm0
  have Hk := Lib.hid hk
  have Hv := Lib.hid hv
  clear hk hv
  by_cases hlen : 100 < acts.length
  · go_enter Try.func7, Try.ntmps7
    go_wp2_with fail
    refine (alive_c _).mono ?_
    rintro e w1 ⟨rfl, b1⟩
    go_wp2_with fail
    refine (new_ok 300 _ (by omega) (by omega)).mono ?_
    rintro e w2 ⟨c, rfl, h2, b2⟩
    go_wp2
    go_ret
    exact ⟨rfl, b1.trans (b2.mono b1.size)⟩
  · go_enter Try.func7, Try.ntmps7
    go_wp2_with fail
    refine (alive_c _).mono ?_
    rintro e w1 ⟨rfl, b1⟩
    go_wp2_with fail
    refine (new_ok 300 _ (by omega) (by omega)).mono ?_
    rintro e w2 ⟨c, rfl, h2, b2⟩
    have b12 := b1.trans (b2.mono b1.size)
    have hlow := b1.size
    obtain ⟨B1, hB1⟩ : ∃ B1, B1 = w1.heap.size := ⟨_, rfl⟩
    rw [← hB1] at h2 hlow
    clear b1 b2 hB1
    have a1 : AR ((w2.alloc (.cells Try.zeroCells44 44)).alloc (.cells Try.zeroCells45 45)) w2.heap.size 44 (valA []) := by
      rw [zeroI]
      exact (AR.new w2 _ _ (valA []) (fun _ _ => rfl)).alloc _
    have a2 : AR ((w2.alloc (.cells Try.zeroCells44 44)).alloc (.cells Try.zeroCells45 45)) (w2.heap.size + 1) 45 (hasA []) := by
      rw [zeroB]
      have := AR.new (w2.alloc (.cells Try.zeroCells44 44)) 45 (.bool false) (hasA []) (fun _ _ => rfl)
      rwa [World.size_alloc] at this
    have h3 := (h2.alloc (.cells Try.zeroCells44 44)).alloc (.cells Try.zeroCells45 45)
    have b3 := (b12.alloc b12.size (.cells Try.zeroCells44 44)).alloc (by have := b12.size; simp; omega) (.cells Try.zeroCells45 45)
    have hla := b12.size
    clear h2 b12
    go_wp2_with fail
    generalize hW3 : (w2.alloc (.cells Try.zeroCells44 44)).alloc (.cells Try.zeroCells45 45) = w3 at *
    clear hW3
    generalize w2.heap.size = la at *
    go_loopw [29] (fun i wr => ∃ (j : Nat) (L : List (Int × Int)), j ≤ acts.length ∧ i = .int .i64 j ∧ L.length ≤ j ∧ CE B1 wr c 300 L [] ∧ AR wr la 44 (valA L) ∧ AR wr (la + 1) 45 (hasA L) ∧ Below w.heap.size w wr) (fun i _ => acts.length - (intOf i).toNat)
    case atStart => exact ⟨0, [], by omega, rfl, by simp, h3, a1, a2, b3⟩
    case round =>
      clear h3 b3 a1 a2
      obtain ⟨j, L, hj, rfl, hL, h3, a1, a2, b3⟩ := hrel
      by_cases hlt : j < acts.length
      · obtain ⟨av, hav⟩ : ∃ av, acts[j]? = some av := ⟨_, List.getElem?_eq_getElem hlt⟩
        obtain ⟨hok, b, off, rfl, d0, d1, d2⟩ := h0.at_ b3 hav
        obtain ⟨kd, ky, vl⟩ := av
        obtain ⟨_, hky, hvl⟩ := hok
        simp only at d0 d1 d2 hky hvl
        obtain ⟨kn, rfl, hkn⟩ := u8_nat hky
        have Hvl := Lib.hid hvl
        clear hav hvl hky
        have h4 := h3.alloc (.cells #[.int .u8 kd, .int .u8 kn, .int .i64 vl] 30)
        have b4 := b3.alloc b3.size (.cells #[.int .u8 kd, .int .u8 kn, .int .i64 vl] 30)
        have q4 := CB.new wr 30 #[.int .u8 kd, .int .u8 kn, .int .i64 vl]
        have a14 := a1.alloc (.cells #[.int .u8 kd, .int .u8 kn, .int .i64 vl] 30)
        have a24 := a2.alloc (.cells #[.int .u8 kd, .int .u8 kn, .int .i64 vl] 30)
        go_wp2_with fail
        refine (set_ok _ c 300 _ _ _ h4 kn vl (nat_u8 hkn) Hvl.out (.inr (by omega))).mono ?_
        rintro e w5 ⟨rfl, h5, f5⟩
        have b5 := b4.trans (f5.low.mono hlow)
        have hl5 : (putL L kn vl).length ≤ j + 1 := by
          rw [length_put h3.srt]
          split <;> omega
        have q5 := f5.cb q4 (h4.ne q4 (by decide))
        obtain ⟨cs1, cb1⟩ := a14.cb
        obtain ⟨cs2, cb2⟩ := a24.cb
        have a15 := a14.kept f5 (h4.ne cb1 (by decide))
        have a25 := a24.kept f5 (h4.ne cb2 (by decide))
        have srt := h3.srt
        clear h3 h4 b3 b4 f5 d0 d1 d2 a1 a2 a14 a24 cb1 cb2
        have z1 := q5.cell 1
        have z2 := q5.cell 2
        simp only [List.getElem?_toArray, List.getElem?_cons_succ, List.getElem?_cons_zero] at z1 z2
        have y1 := a15.cell hkn
        have y2 := a25.cell hkn
        have x1 := a15.frozen kn
        have x2 := a25.frozen kn
        obtain ⟨cs1, cb1⟩ := a15.cb
        obtain ⟨cs2, cb2⟩ := a25.cb
        have n1 : wr.heap.size ≠ la := q5.ne_ cb1 (by decide)
        have n2 : wr.heap.size ≠ la + 1 := q5.ne_ cb2 (by decide)
        have s11 : (w5.setCell ⟨la, kn, none⟩ (.int .i64 vl)).cell? ⟨wr.heap.size, 1, none⟩ = some (.int .u8 kn) := ((q5.far (p := ⟨la, kn, none⟩) n1 (.int .i64 vl)).cell 1)
        have s12 : (w5.setCell ⟨la, kn, none⟩ (.int .i64 vl)).cell? ⟨wr.heap.size, 2, none⟩ = some (.int .i64 vl) := ((q5.far (p := ⟨la, kn, none⟩) n1 (.int .i64 vl)).cell 2)
        have s13 := (a25.far (p := ⟨la, kn, none⟩) (by simp) (.int .i64 vl)).cell hkn
        have s14 := (a25.far (p := ⟨la, kn, none⟩) (by simp) (.int .i64 vl)).frozen kn
        have s21 : (w5.setCell ⟨la + 1, kn, none⟩ (.bool true)).cell? ⟨wr.heap.size, 1, none⟩ = some (.int .u8 kn) := ((q5.far (p := ⟨la + 1, kn, none⟩) n2 (.bool true)).cell 1)
        have s22 : (w5.setCell ⟨la + 1, kn, none⟩ (.bool true)).cell? ⟨wr.heap.size, 2, none⟩ = some (.int .i64 vl) := ((q5.far (p := ⟨la + 1, kn, none⟩) n2 (.bool true)).cell 2)
        have s23 := (a15.far (p := ⟨la + 1, kn, none⟩) (by simp) (.bool true)).cell hkn
        have s24 := (a15.far (p := ⟨la + 1, kn, none⟩) (by simp) (.bool true)).frozen kn
        have h6 := (h5.far cb1 (by decide) kn (.int .i64 vl))
        obtain ⟨cs3, cb3⟩ := (a25.far (p := ⟨la, kn, none⟩) (by simp) (.int .i64 vl)).cb
        have h7 := h6.far cb3 (by decide) kn (.bool true)
        have a17 := (a15.put hkn (.int .i64 vl) (fun i _ => valA_put srt kn vl i)).far (p := ⟨la + 1, kn, none⟩) (by simp) (.bool true)
        have a27 := (a25.far (p := ⟨la, kn, none⟩) (by simp) (.int .i64 vl)).put hkn (.bool true) (fun i _ => hasA_put srt kn vl i)
        have b7 := (b5.setCell (p := ⟨la, kn, none⟩) hla (.int .i64 vl)).setCell (p := ⟨la + 1, kn, none⟩) (by simp; omega) (.bool true)
        have H7 := Lib.hid h7
        have A17 := Lib.hid a17
        have A27 := Lib.hid a27
        have HB7 := Lib.hid b7
        have HL5 := Lib.hid hl5
        clear cb1 cb2 cb3 h5 h6 h7 a17 a27 b7 a15 a25 b5 q5 hl5
        go_wp2_with fail
        go_region
        clear z1 z2 y1 y2 x1 x2 s11 s12 s13 s14 s21 s22 s23 s24
        go_wp2
        go_roundw
        case rel => exact ⟨j + 1, _, by omega, by go_num, HL5.out, H7.out.drew, A17.out, A27.out, ⟨HB7.out.os, HB7.out.tape, HB7.out.output, HB7.out.size, HB7.out.block⟩⟩
        case measure => simp [intOf]; omega
      · obtain ⟨kn, ek, hkn⟩ := u8_nat Hk.out
        subst ek
        have y1 := a1.cell hkn
        go_wp2_with fail
        refine (set_ok _ c 300 _ _ _ h3 kn v (nat_u8 hkn) Hv.out (.inr (by omega))).mono ?_
        rintro e w5 ⟨rfl, h5, f5⟩
        have b5 := b3.trans (f5.low.mono hlow)
        obtain ⟨cs1, cb1⟩ := a1.cb
        obtain ⟨cs2, cb2⟩ := a2.cb
        have a15 := a1.kept f5 (h3.ne cb1 (by decide))
        have a25 := a2.kept f5 (h3.ne cb2 (by decide))
        have srt := h3.srt
        clear h3 b3 f5 a1 a2 cb1 cb2 y1
        obtain ⟨cs1, cb1⟩ := a15.cb
        have y1 := a15.cell hkn
        have x1 := a15.frozen kn
        have s13 := (a25.far (p := ⟨la, kn, none⟩) (by simp) (.int .i64 v)).cell hkn
        have s14 := (a25.far (p := ⟨la, kn, none⟩) (by simp) (.int .i64 v)).frozen kn
        have h6 := (h5.far cb1 (by decide) kn (.int .i64 v))
        obtain ⟨cs3, cb3⟩ := (a25.far (p := ⟨la, kn, none⟩) (by simp) (.int .i64 v)).cb
        have h7 := h6.far cb3 (by decide) kn (.bool true)
        have a17 := (a15.put hkn (.int .i64 v) (fun i _ => valA_put srt kn v i)).far (p := ⟨la + 1, kn, none⟩) (by simp) (.bool true)
        have a27 := (a25.far (p := ⟨la, kn, none⟩) (by simp) (.int .i64 v)).put hkn (.bool true) (fun i _ => hasA_put srt kn v i)
        have b7 := (b5.setCell (p := ⟨la, kn, none⟩) hla (.int .i64 v)).setCell (p := ⟨la + 1, kn, none⟩) (by simp; omega) (.bool true)
        have H7 := Lib.hid h7
        have A17 := Lib.hid a17
        have A27 := Lib.hid a27
        have HB7 := Lib.hid b7
        clear cb1 cb3 h5 h6 h7 a17 a27 b7 a15 a25 b5
        go_wp2_with fail
        generalize (w5.setCell ⟨la, kn, none⟩ (.int .i64 v)).setCell ⟨la + 1, kn, none⟩ (.bool true) = W at *
        generalize putL L kn v = M at *
        clear y1 x1 s13 s14
        go_loop [58] (fun i => ∃ n : Nat, n ≤ 256 ∧ i = .int .i64 n) (fun i => 256 - (intOf i).toNat)
        case atStart => exact ⟨0, by omega, rfl⟩
        case round =>
          obtain ⟨n, hn, rfl⟩ := hrel
          by_cases hn2 : n < 256
          · have hw : IntKind.u8.wrap (n : Int) = n := by simp [IntKind.wrap, IntKind.bits, IntKind.signed]; omega
            have z1 := A17.out.cell hn2
            have z2 := A27.out.cell hn2
            unfold valA at z1
            unfold hasA at z2
            rw [has_get] at z2
            have hg := get_any _ c 300 _ _ _ H7.out n (nat_u8 hn2)
            unfold gE at hg
            cases hgl : getL M n with
            | none =>
              simp only [hgl, Option.getD_none, Option.isSome_none] at z1 z2 hg
              go_wp2_with fail
              refine hg.mono ?_
              rintro e w8 ⟨rfl, rfl⟩
              go_wp2
              go_round
              case rel => exact ⟨n + 1, by omega, by go_num⟩
              case measure => simp [intOf]; omega
            | some u =>
              simp only [hgl, Option.getD_some, Option.isSome_some] at z1 z2 hg
              go_wp2_with fail
              refine hg.mono ?_
              rintro e w8 ⟨rfl, rfl⟩
              go_wp2
              go_round
              case rel => exact ⟨n + 1, by omega, by go_num⟩
              case measure => simp [intOf]; omega
          · obtain rfl : n = 256 := by omega
            go_wp2
            go_ret
            exact ⟨rfl, HB7.out⟩
end Go.Proofs.Ytopgnjnnijhpkaa
