/-
  The walk of the law CellsDrops: it returns true and leaves all memory that was there. Conditions: the slice reads as a row of acts, the key is a uint8.
-/
import Derived.Test.YtopgnjnnijhpkaaCellH
namespace Go.Proofs.Ytopgnjnnijhpkaa
open Go.RowKit Go.Maps UI

theorem wf_u8 (n : Int) : (Lit.int .u8 (IntKind.u8.wrap n)).wf = true := by
  simp [Lit.wf, IntKind.wrap, IntKind.bits, IntKind.signed, IntKind.min, IntKind.max]
  omega

theorem wrap_ne (k : Int) (_ : (Lit.int .u8 k).wf = true) : IntKind.u8.wrap (k + 1) ≠ k := by
  simp [IntKind.wrap, IntKind.bits, IntKind.signed]
  omega

set_option maxRecDepth 100000 in
set_option maxHeartbeats 1000000 in
theorem drops_walk (a : Option Addr) (cap : Nat) (acts : List ActV) (k : Int) (w : World) (h0 : CameA w a acts) (hm0 : acts.length ≤ maxLen) (hk : (Lit.int .u8 k).wf = true) :
    Calls Try.prog 8 #[.slice a acts.length cap, .int .u8 k] w fun e w' => e = .returned (.bool true) ∧ Below w.heap.size w w' := by
  unfold maxLen at hm0
  have Hk := Lib.hid hk
  clear hk
  by_cases hlen : 100 < acts.length
  · go_enter Try.func8, Try.ntmps8
    go_wp2_with fail
    refine (alive_c _).mono ?_
    rintro e w1 ⟨rfl, b1⟩
    go_wp2_with fail
    refine (new_ok 300 _ (by omega) (by omega)).mono ?_
    rintro e w2 ⟨c, rfl, h2, b2⟩
    go_wp2
    go_ret
    exact ⟨rfl, b1.trans (b2.mono b1.size)⟩
  · go_enter Try.func8, Try.ntmps8
    go_wp2_with fail
    refine (alive_c _).mono ?_
    rintro e w1 ⟨rfl, b1⟩
    go_wp2_with fail
    refine (new_ok 300 _ (by omega) (by omega)).mono ?_
    rintro e w2 ⟨c, rfl, h2, b2⟩
    have b12 := b1.trans (b2.mono b1.size)
    have hlow := b1.size
    obtain ⟨B1, hB1⟩ : ∃ B1, B1 = w1.heap.size := ⟨_, rfl⟩
    rw [← hB1] at h2 hlow
    clear b1 b2 hB1
    go_wp2_with fail
    go_loopw [34] (fun i wr => ∃ (j : Nat) (L : List (Int × Int)), j ≤ acts.length ∧ i = .int .i64 j ∧ L.length ≤ j ∧ CE B1 wr c 300 L [] ∧ Below w.heap.size w wr) (fun i _ => acts.length - (intOf i).toNat)
    case atStart => exact ⟨0, [], by omega, rfl, by simp, h2, b12⟩
    case round =>
      clear h2 b12
      obtain ⟨j, L, hj, rfl, hL, h3, b3⟩ := hrel
      by_cases hlt : j < acts.length
      · obtain ⟨av, hav⟩ : ∃ av, acts[j]? = some av := ⟨_, List.getElem?_eq_getElem hlt⟩
        obtain ⟨hok, b, off, rfl, d0, d1, d2⟩ := h0.at_ b3 hav
        have Hok := Lib.hid hok
        clear hav hok
        have h4 := h3.alloc (.cells #[.int .u8 av.kind, .int .u8 av.k, .int .i64 av.v] 30)
        have b4 := b3.alloc b3.size (.cells #[.int .u8 av.kind, .int .u8 av.k, .int .i64 av.v] 30)
        go_wp2_with fail
        refine (set_ok _ c 300 _ _ _ h4 av.k av.v Hok.out.2.1 Hok.out.2.2 (.inr (by omega))).mono ?_
        rintro e w5 ⟨rfl, h5, f5⟩
        have b5 := b4.trans (f5.low.mono hlow)
        have hl5 : (putL L av.k av.v).length ≤ j + 1 := by
          rw [length_put h3.srt]
          split <;> omega
        clear h3 h4 b3 b4 f5 d0 d1 d2
        go_wp2
        go_roundw
        case rel => exact ⟨j + 1, _, by omega, by go_num, hl5, h5, b5⟩
        case measure => simp [intOf]; omega
      · have hmx : L.length ≤ 100 := by omega
        go_wp2_with fail
        refine (len_c _ c 300 _ _ _ h3).mono ?_
        rintro e w4 ⟨rfl, rfl⟩
        cases hg : getL L k with
        | none =>
          go_wp2_with fail
          refine (get_no _ c 300 _ _ _ h3 k Hk.out hg).mono ?_
          rintro e w4 ⟨rfl, rfl⟩
          go_wp2_with fail
          refine (drop_no _ c 300 _ _ _ h3 k Hk.out hg).mono ?_
          rintro e w4 ⟨rfl, rfl⟩
          go_wp2_with fail
          refine (get_no _ c 300 _ _ _ h3 k Hk.out hg).mono ?_
          rintro e w4 ⟨rfl, rfl⟩
          go_wp2_with fail
          refine (get_any _ c 300 _ _ _ h3 _ (wf_u8 _)).mono ?_
          rintro e w4 ⟨rfl, rfl⟩
          have hgk : getL (putL L k 9) k = some 9 := by rw [getL_put _ h3.srt, if_pos rfl]
          have hgE : gE (putL L k 9) (IntKind.u8.wrap (k + 1)) = gE L (IntKind.u8.wrap (k + 1)) := by
            unfold gE
            rw [getL_put _ h3.srt, if_neg (wrap_ne k Hk.out)]
          have Hgk := Lib.hid hgk
          have HgE := Lib.hid hgE
          clear hgk hgE
          obtain ⟨gg, hgg⟩ : ∃ gg, gg = gE L (IntKind.u8.wrap (k + 1)) := ⟨_, rfl⟩
          have Hgg := Lib.hid hgg
          rw [← hgg]
          clear hgg
          generalize (getL L (IntKind.u8.wrap (k + 1))).getD 0 = vv
          go_wp2_with fail
          refine (set_ok _ c 300 _ _ _ h3 k 9 Hk.out (by decide) (.inr (by omega))).mono ?_
          rintro e w6 ⟨rfl, h6, f6⟩
          have b6 := b3.trans (f6.low.mono hlow)
          clear f6
          go_wp2_with fail
          refine (get_yes _ c 300 _ _ _ h6 k 9 Hk.out Hgk.out).mono ?_
          rintro e w7 ⟨rfl, rfl⟩
          go_wp2_with fail
          refine (get_any _ c 300 _ _ _ h6 _ (wf_u8 _)).mono ?_
          rintro e w7 ⟨rfl, rfl⟩
          rw [HgE.out, ← Hgg.out]
          generalize (getL (putL L k 9) (IntKind.u8.wrap (k + 1))).getD 0 = vw
          go_wp2
          go_ret
          exact ⟨by simp, b6⟩
        | some v =>
          go_wp2_with fail
          refine (get_yes _ c 300 _ _ _ h3 k v Hk.out hg).mono ?_
          rintro e w4 ⟨rfl, rfl⟩
          go_wp2_with fail
          refine (drop_yes _ c 300 _ _ _ h3 k v Hk.out hg).mono ?_
          rintro e w5 ⟨rfl, h5, f5⟩
          have b5 := b3.trans (f5.low.mono hlow)
          have hdl : (delL L k).length + 1 = L.length := by
            have := length_del h3.srt k
            rw [has_get, hg] at this
            simpa using this
          have hg5 : getL (delL L k) k = none := by rw [getL_del _ h3.srt, if_pos rfl]
          obtain ⟨M, hM⟩ : ∃ M, M = delL L k := ⟨_, rfl⟩
          rw [← hM] at h5 hdl hg5
          clear hM h3 f5 b3 hg
          go_wp2_with fail
          refine (get_no _ c 300 _ _ _ h5 k Hk.out hg5).mono ?_
          rintro e w6 ⟨rfl, rfl⟩
          go_wp2_with fail
          refine (get_any _ c 300 _ _ _ h5 _ (wf_u8 _)).mono ?_
          rintro e w6 ⟨rfl, rfl⟩
          have hne : (((M.length : Nat) : Int) != (L.length : Int) - 1) = false := by simp; omega
          have Hdl := Lib.hid hdl
          have hM3 : M.length < 300 := by omega
          clear hdl hg5
          have hgk : getL (putL M k 9) k = some 9 := by rw [getL_put _ h5.srt, if_pos rfl]
          have hgE : gE (putL M k 9) (IntKind.u8.wrap (k + 1)) = gE M (IntKind.u8.wrap (k + 1)) := by
            unfold gE
            rw [getL_put _ h5.srt, if_neg (wrap_ne k Hk.out)]
          have Hgk := Lib.hid hgk
          have HgE := Lib.hid hgE
          clear hgk hgE
          obtain ⟨gg, hgg⟩ : ∃ gg, gg = gE M (IntKind.u8.wrap (k + 1)) := ⟨_, rfl⟩
          have Hgg := Lib.hid hgg
          rw [← hgg]
          clear hgg
          generalize (getL M (IntKind.u8.wrap (k + 1))).getD 0 = vv
          go_wp2_with fail
          refine (len_c _ c 300 _ _ _ h5).mono ?_
          rintro e w6 ⟨rfl, rfl⟩
          go_wp2_with fail
          refine (set_ok _ c 300 _ _ _ h5 k 9 Hk.out (by decide) (.inr (by omega))).mono ?_
          rintro e w6 ⟨rfl, h6, f6⟩
          have b6 := b5.trans (f6.low.mono hlow)
          clear f6
          go_wp2_with fail
          refine (get_yes _ c 300 _ _ _ h6 k 9 Hk.out Hgk.out).mono ?_
          rintro e w7 ⟨rfl, rfl⟩
          go_wp2_with fail
          refine (get_any _ c 300 _ _ _ h6 _ (wf_u8 _)).mono ?_
          rintro e w7 ⟨rfl, rfl⟩
          rw [HgE.out, ← Hgg.out]
          generalize (getL (putL M k 9) (IntKind.u8.wrap (k + 1))).getD 0 = vw
          go_wp2
          go_ret
          exact ⟨by simp, b6⟩
end Go.Proofs.Ytopgnjnnijhpkaa
