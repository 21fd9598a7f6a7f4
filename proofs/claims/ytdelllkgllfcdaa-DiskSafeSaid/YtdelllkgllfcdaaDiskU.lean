/-
  The walk of the law DiskSafe: it returns true and leaves all memory that was there. Conditions: the records can be read, the numbers are of 8 and of 16 bits.
-/
import Derived.Test.YtdelllkgllfcdaaDiskP
namespace Go.Proofs.Ytdelllkgllfcdaa
open Go.RowKit

/-- How many bytes are safe behind i records, of which the first k are synced. -/
def sS (ls : List (List UInt8)) (k i : Nat) : Nat := if k < i then (frs (ls.take k)).length else 0

/-- Where the loop of DiskSafe stands. -/
structure UI (w : World) (x : Nat) (ls : List (List UInt8)) (i : Nat) (S : Nat) (A' : Option Addr) (n' c' : Nat) (wr : World) : Prop where
  bx : Box wr x 28 A' n' c' S 1048576
  br : BR wr wr.heap.size A' n' c' (frs (ls.take i))
  bl : Below w.heap.size w wr
  xw : w.heap.size ≤ x
  nb : n' ≤ 4007 * i
theorem UI.put {w : World} {x : Nat} {ls : List (List UInt8)} {i : Nat} {S : Nat} {A' : Option Addr} {n' c' : Nat} {wr : World} (h : UI w x ls i S A' n' c' wr) {w2 : World} (hb : Below wr.heap.size wr w2) {A2 : Option Addr} {n2 c2 S2 j : Nat} (hx : BR w2 w2.heap.size A2 n2 c2 (frs (ls.take j))) (hn : n2 ≤ 4007 * j) :
    ∃ w3, ((w2.setCell ⟨x, 0, none⟩ (.slice A2 n2 c2)).setCell ⟨x, 1, none⟩ (.int .i64 S2)).setCell ⟨x, 2, none⟩ (.int .i64 1048576) = w3 ∧ UI w x ls j S2 A2 n2 c2 w3 := by
  obtain ⟨w3, h1, h2, _, h4, h5⟩ := store_end (h.bx.on hb h.bx.lt) A2 n2 c2 S2 1048576
  exact ⟨w3, h1, h2, h5 _ _ _ _ hx, h4 _ _ (h.bl.trans (hb.mono h.bl.size)) h.xw, h.xw, hn⟩
theorem UI.box {w : World} {x : Nat} {ls : List (List UInt8)} {i : Nat} {S : Nat} {A' : Option Addr} {n' c' : Nat} {wr : World} (h : UI w x ls i S A' n' c' wr) {w2 : World} (hb : Below wr.heap.size wr w2) : Box w2 x 28 A' n' c' S 1048576 := h.bx.on hb h.bx.lt

def more : List UInt8 := [109, 111, 114, 101]
/-- What a crash leaves of frames, of which the first k are safe. -/
theorem safe_math (ls : List (List UInt8)) (hb : ∀ l ∈ ls, l.length ≤ 4000) (kk K : Nat) (hkk : kk ≤ ls.length) (hK : (frs (ls.take kk)).length ≤ K) (hK2 : K ≤ (frs ls).length) :
    ∃ m Nm, m ≤ ls.length ∧ kk ≤ m ∧ Nm ≤ K ∧ aC ((frs ls).take K) = ls.take m ∧ aN ((frs ls).take K) = Nm ∧ ((frs ls).take K).take Nm = frs (ls.take m) ∧ aC (frs (ls.take m)) = ls.take m ∧ aN (frs (ls.take m)) = Nm ∧ (frs (ls.take m)).length = Nm ∧
      aC (frs (ls.take m) ++ frameB more) = ls.take m ++ [more] := by
  have hbm : ∀ m, ∀ l ∈ ls.take m, l.length ≤ 4000 := fun m l hl => hb l (List.mem_of_mem_take hl)
  obtain ⟨h1, h2⟩ := aC_cut ls K hb
  have h3 := take_aN _ ((frs ls).take K) (Nat.le_refl _)
  have h4 := aC_all (hbm (wh K ls))
  refine ⟨wh K ls, aN ((frs ls).take K), wh_le ls K, (wh_iff ls K kk hkk).1 hK, ?_, h1, rfl, ?_, h4.1, ?_, ?_, ?_⟩
  · exact aN_le' _ (by rw [List.length_take]; omega)
  · rw [h3.1, h1]
  · rw [h4.2, h2]
  · rw [h2]
  · rw [← frs_snoc]
    refine (aC_all fun l hl => ?_).1
    rcases List.mem_append.1 hl with hl | hl
    · exact hbm _ l hl
    · simp at hl; subst hl; decide
theorem more_l : (mkS more).toList = [109, 111, 114, 101] := by rw [tl_bl]; rfl
theorem box_new (w : World) (T : TypeId) (A : Option Addr) (n c : Nat) (s r : Int) : Below w.heap.size w (w.alloc (.cells #[.slice A n c, .int .i64 s, .int .i64 r] T)) := (Below.refl _ _).alloc (Nat.le_refl _) _

set_option maxRecDepth 100000 in
set_option maxHeartbeats 4000000 in
theorem safe_walk (Al : Option Addr) (nl cl : Nat) (ls : List (List UInt8)) (sy kp : Nat) (w : World) (hl : LR w w.heap.size Al nl cl ls) (hsy : sy < 256) (hkp : kp < 65536) :
    Calls Try.prog 5 #[.slice Al nl cl, .int .u8 sy, .int .u16 kp] w fun e w' => e = .returned (.bool true) ∧ Below w.heap.size w w' := by
  have hlm := hl.max
  have HL := Lib.hid hl.1
  go_enter Try.func5, Try.ntmps5
  go_wp2_with fail
  refine (alive_c w).mono ?_
  rintro e w1 ⟨rfl, hb1⟩
  go_wp2_with fail
  obtain ⟨W2, hW2, bx2, hbW2⟩ := boxed w1 28 none 0 0 0 1048576
  try rw [hW2]
  have hb02 := hb1.trans (hbW2.mono hb1.size)
  have hxw : w.heap.size ≤ w1.heap.size := hb1.size
  clear hW2 hb1 hbW2
  generalize w1.heap.size = x at *
  refine (few_c Al nl cl ls W2 (hl.on hb02)).mono ?_
  rintro e W2' ⟨b, rfl, rfl, hfew⟩
  cases b with
  | false =>
    go_wp2_with fail
    go_ret
    exact ⟨rfl, hb02⟩
  | true =>
  replace hfew := hfew rfl
  have hl2 := hl.below hb02 (Nat.le_refl _)
  go_wp2_with fail
  go_loop [33] (fun i => ∃ k : Nat, k ≤ nl ∧ i = .int .i64 k ∧ Hid (∀ j l, j < k → ls[j]? = some l → l.length ≤ 4000)) (fun i => nl - (intOf i).toNat)
  case atStart => exact ⟨0, Nat.zero_le _, rfl, fun j l h => absurd h (Nat.not_lt_zero _)⟩
  case round =>
    obtain ⟨k, hk, rfl, HS⟩ := hrel
    by_cases hlt : k < nl
    · obtain ⟨g, off, A1, n1, c1, l, rfl, Hl, cl', hbi⟩ := hl2.at_ hlt
      by_cases hbg : (4000 : Int) < (n1 : Int)
      · clear hbi
        go_wp2_with fail
        go_ret
        exact ⟨rfl, hb02⟩
      · have HN := Lib.hid (show ∀ j l, j < k + 1 → ls[j]? = some l → l.length ≤ 4000 by
          intro j l' hj hl'
          rcases Nat.lt_or_eq_of_le (Nat.lt_succ_iff.1 hj) with hj | rfl
          · exact HS.out j l' hj hl'
          · rw [Hl.out] at hl'; cases hl'; have := hbi.1; omega)
        clear hbi HS
        go_wp2_with fail
        go_round
        case rel => exact ⟨k + 1, by omega, by go_num, HN.out⟩
        case measure => simp [intOf]; omega
    · obtain rfl : k = nl := by omega
      have hsm := small_all HL.out HS.out
      have HB := Lib.hid (bigB_no hsm)
      clear hsm HS
      obtain ⟨kk, hkk⟩ : ∃ kk, sy % (k + 1) = kk := ⟨_, rfl⟩
      have hkl : kk ≤ k := by have := Nat.mod_lt sy (show 0 < k + 1 by omega); omega
      have Hkk := Lib.hid (show (sy : Int) % ((k : Int) + 1) = (kk : Int) by rw [← hkk, Int.natCast_emod]; rfl)
      clear hkk
      go_wp2_with fail
      rw [Hkk.out]
      have HI0 : UI w x ls 0 (sS ls kk 0) none 0 0 W2 := by
        have h0 : sS ls kk 0 = 0 := if_neg (Nat.not_lt_zero _)
        rw [h0]
        exact ⟨bx2, BR.nil _ _, hb02, hxw, Nat.le_refl _⟩
      clear bx2 hb02 hl2
      go_loopw [49] (fun i wr => ∃ (j : Nat) (A' : Option Addr) (n' c' : Nat), j ≤ k ∧ i = .int .i64 j ∧ UI w x ls j (sS ls kk j) A' n' c' wr) (fun i _ => k - (intOf i).toNat)
      case atStart => exact ⟨0, none, 0, 0, Nat.zero_le _, rfl, HI0⟩
      case round =>
        clear HI0
        obtain ⟨j, A', n', c', hj, rfl, HI⟩ := hrel
        have hnb := HI.nb
        obtain ⟨SJ, hSJ⟩ : ∃ S, sS ls kk j = S := ⟨_, rfl⟩
        have HSJ := Lib.hid hSJ
        rw [hSJ] at HI
        clear hSJ
        obtain ⟨d0, d1, d2⟩ := HI.bx.cells
        by_cases hjl : j < k
        · obtain ⟨g, off, Ai, ni, ci, l, rfl, Hl, cl', hbi⟩ := (hl.below HI.bl (Nat.le_refl _)).at_ hjl
          have hl4 : l.length ≤ 4000 := HB.out l (List.mem_of_getElem? Hl.out)
          have hil := hbi.1
          have Hil := Lib.hid hil
          have hni : ni ≤ 4000 := by omega
          have HEq := Lib.hid (show eA n' 1048576 l = 0 from eA_ok (by omega) (by rw [hil]; omega))
          have HBq := Lib.hid (show bA 1048576 (frs (ls.take j)) l = frs (ls.take (j + 1)) by rw [bA_ok (by rw [HI.br.1]; exact HEq.out), frs_next Hl.out])
          have HNx := Lib.hid (show (frs (ls.take (j + 1))).length = n' + (ni + 7) by rw [frs_next Hl.out, List.length_append, frameB_length, HI.br.1, hil])
          clear hil hl4
          by_cases hjk : j = kk
          · subst hjk
            have HSq := Lib.hid (show sS ls j (j + 1) = n' by unfold sS; rw [if_pos (by omega), HI.br.1])
            have hbq0 := hbi
            have hjj : ((j : Int) == (j : Int)) = true := beq_self_eq_true _
            go_wp2_with fail
            refine (sync_d A' n' c' SJ 1048576 _ wr HI.br (by omega)).mono ?_
            rintro e w2 ⟨Aq, cq, rfl, hx2, hb2⟩
            obtain ⟨wq, hwq, HQ⟩ := HI.put (S2 := n') (j := j) hb2 hx2 hnb
            have HWq := Lib.hid hwq
            obtain ⟨z0, z1, z2⟩ := (HI.box hb2).cells
            obtain ⟨f0, f1, f2⟩ := (HI.box hb2).froz
            have hbq : BR wq wq.heap.size Ai ni ci l := (hbi.keep fun g hg => (HQ.bl.block g hg).trans (HI.bl.block g hg).symm).more HQ.bl.size
            obtain ⟨e0, e1, e2⟩ := HQ.bx.cells
            clear hwq hx2 hb2 HI d0 d1 d2
            go_wp2_with fail
            rw [HWq.out]
            clear z0 z1 z2 f0 f1 f2
            refine (append_d Aq n' cq 1048576 n' (frs (ls.take j)) Ai ni ci l wq HQ.br hbq (by omega) (by omega)).mono ?_
            rintro e w4 ⟨A4, n4, c4, he4, hx4, hb4⟩
            rw [HEq.out] at he4
            rw [HBq.out] at hx4
            subst he4
            obtain rfl : n4 = n' + (ni + 7) := by have h6 := hx4.1; rw [HNx.out] at h6; omega
            have hbW := box_new w4 28 A4 (n' + (ni + 7)) c4 n' 1048576
            have hb5 : Below wq.heap.size wq (w4.alloc (.cells #[.slice A4 (n' + (ni + 7)) c4, .int .i64 n', .int .i64 1048576] 28)) := hb4.trans (hbW.mono hb4.size)
            obtain ⟨w6, hw6, HI6⟩ := HQ.put (S2 := n') (j := j + 1) hb5 (hx4.on hbW) (by omega)
            have HW6 := Lib.hid hw6
            obtain ⟨z0, z1, z2⟩ := (HQ.box hb5).cells
            obtain ⟨f0, f1, f2⟩ := (HQ.box hb5).froz
            clear hw6 hx4 hb4 hbW hb5 HQ hbq HEq HBq e0 e1 e2
            go_wp2_with fail
            rw [HW6.out]
            go_roundw
            case rel => exact ⟨j + 1, A4, _, c4, by omega, by go_num, by rw [HSq.out]; exact HI6⟩
            case measure => simp [intOf]; omega
          · have HSq := Lib.hid (show sS ls kk (j + 1) = SJ by
              rw [← HSJ.out]
              unfold sS
              by_cases h : kk < j
              · rw [if_pos h, if_pos (by omega)]
              · rw [if_neg h, if_neg (by omega)])
            have hjj : ((j : Int) == (kk : Int)) = false := by rw [beq_eq_false_iff_ne]; omega
            have hbq := hbi.more HI.bl.size
            go_wp2_with fail
            refine (append_d A' n' c' 1048576 SJ (frs (ls.take j)) Ai ni ci l wr HI.br hbq (by omega) (by omega)).mono ?_
            rintro e w4 ⟨A4, n4, c4, he4, hx4, hb4⟩
            rw [HEq.out] at he4
            rw [HBq.out] at hx4
            subst he4
            obtain rfl : n4 = n' + (ni + 7) := by have h6 := hx4.1; rw [HNx.out] at h6; omega
            have hbW := box_new w4 28 A4 (n' + (ni + 7)) c4 SJ 1048576
            have hb5 : Below wr.heap.size wr (w4.alloc (.cells #[.slice A4 (n' + (ni + 7)) c4, .int .i64 SJ, .int .i64 1048576] 28)) := hb4.trans (hbW.mono hb4.size)
            obtain ⟨w6, hw6, HI6⟩ := HI.put (S2 := SJ) (j := j + 1) hb5 (hx4.on hbW) (by omega)
            have HW6 := Lib.hid hw6
            obtain ⟨z0, z1, z2⟩ := (HI.box hb5).cells
            obtain ⟨f0, f1, f2⟩ := (HI.box hb5).froz
            clear hw6 hx4 hb4 hbW hb5 HI hbq HEq HBq d0 d1 d2
            go_wp2_with fail
            rw [HW6.out]
            go_roundw
            case rel => exact ⟨j + 1, A4, _, c4, by omega, by go_num, by rw [HSq.out]; exact HI6⟩
            case measure => simp [intOf]; omega
        · obtain rfl : j = k := by omega
          have HTk := Lib.hid (show ls.take j = ls from List.take_of_length_le (by rw [HL.out]; exact Nat.le_refl _))
          have kc := fun (w : World) (C : Array Value) (n c : Nat) => Lib.run_convert_bytes_const (P := Try.prog) w 22 5 C n c Try.underlying22 Try.underlying5
          by_cases hjk : kk = j
          · subst hjk
            have hjj : ((kk : Int) == (kk : Int)) = true := beq_self_eq_true _
            go_wp2_with fail
            refine (sync_d A' n' c' SJ 1048576 _ wr HI.br (by omega)).mono ?_
            rintro e w2 ⟨AF, cF, rfl, hx2, hb2⟩
            obtain ⟨wF, hwF, HF⟩ := HI.put (S2 := n') (j := kk) hb2 hx2 hnb
            have HWF := Lib.hid hwF
            obtain ⟨z0, z1, z2⟩ := (HI.box hb2).cells
            obtain ⟨f0, f1, f2⟩ := (HI.box hb2).froz
            obtain ⟨e0, e1, e2⟩ := HF.bx.cells
            have HS0 := Lib.hid (show (frs (ls.take kk)).length = n' from HI.br.1)
            have hS0 : n' ≤ n' := Nat.le_refl _
            clear hwF hx2 hb2 HI d0 d1 d2
            go_wp2_with fail
            rw [HWF.out]
            clear z0 z1 z2 f0 f1 f2 e0 e1 e2
            have hKl := kC_le (k := kp) hS0
            obtain ⟨K, hKe⟩ : ∃ K, kC n' n' kp = K := ⟨_, rfl⟩
            rw [hKe] at hKl
            obtain ⟨m, Nm, hm1, hm2, hm3, e1, e2, e3, e4, e5, e6, e7⟩ := safe_math ls HB.out kk K (by rw [HL.out]; exact hkl) (by rw [HS0.out]; exact hKl.1) (by have h9 := HF.br.1; rw [HTk.out] at h9; omega)
            rw [HL.out] at hm1
            have HKe := Lib.hid hKe
            have E1 := Lib.hid e1
            have E2 := Lib.hid e2
            have E3 := Lib.hid e3
            have E4 := Lib.hid e4
            have E5 := Lib.hid e5
            have E6 := Lib.hid e6
            have E7 := Lib.hid e7
            clear hKe e1 e2 e3 e4 e5 e6 e7
            have hxF := HF.br
            rw [HTk.out] at hxF
            have hbF := HF.bl
            refine (crash_d AF n' cF n' kp 1048576 (frs ls) wF hxF (by omega) hS0 hkp).mono ?_
            rw [HKe.out]
            rintro e w10 ⟨A10, c10, rfl, hx10, hb10⟩
            have hb010 := hbF.trans (hb10.mono hbF.size)
            clear hxF hbF hb10 HF
            go_wp2_with fail
            obtain ⟨W10, hW10, cx10, hbW10⟩ := boxed w10 28 A10 K c10 K 1048576
            try rw [hW10]
            have hxW := hx10.on hbW10
            have hb0W := hb010.trans (hbW10.mono hb010.size)
            clear hW10 hx10 hb010 hbW10
            generalize w10.heap.size = cb at *
            refine (records_d A10 K c10 K 1048576 _ W10 hxW (by omega)).mono ?_
            rintro e w11 h11
            obtain ⟨A11, n11, c11, he11, hl11, hb11⟩ := h11.toA
            rw [E2.out] at he11
            rw [E1.out] at hl11
            subst he11
            obtain rfl : m = n11 := by rw [← hl11.1, List.length_take, HL.out]; omega
            have cx11 := cx10.on hb11 cx10.lt
            have hx11 := hxW.on hb11
            have hb011 := hb0W.trans (hb11.mono hb0W.size)
            obtain ⟨hcut, hlc⟩ := lcut_upto (hl.on hb011) m m rfl hm1
            clear cx10 hxW hb0W hb11 h11
            have hm2' : ¬ m < kk := by omega
            have hm1' : ¬ kk < m := by omega
            have hm3' : ¬ K < Nm := by omega
            have hmm := hl11.max
            go_wp2_with (go_at_call 16; refine (same_yes A11 Al m c11 cl _ _ hl11 hlc).mono ?_; rintro e w12 ⟨rfl, hb12⟩; have cx12 := cx11.on hb12 cx11.lt; obtain ⟨y0, y1, y2⟩ := cx12.cells)
            have hx12 := hx11.on hb12
            have hl12 := hl11.on hb12
            have hb012 := hb011.trans (hb12.mono hb011.size)
            clear hx11 hl11 hb011 hb12 hcut hlc cx11 hm2' hm1' hm3' cx12
            refine (repair_d A10 K c10 K 1048576 _ w12 hx12 (by omega)).mono ?_
            rw [E2.out, E3.out, Nat.min_eq_right hm3]
            rintro e w13 ⟨A13, c13, rfl, hx13, hb13⟩
            have hl13 := hl12.on hb13
            have hb013 := hb012.trans (hb13.mono hb012.size)
            clear hx12 hl12 hb012 hb13 y0 y1 y2
            go_wp2_with fail
            obtain ⟨W13, hW13, rx13, hbW13⟩ := boxed w13 28 A13 Nm c13 Nm 1048576
            try rw [hW13]
            have hxW := hx13.on hbW13
            have hlW := hl13.on hbW13
            have hb0W := hb013.trans (hbW13.mono hb013.size)
            clear hW13 hx13 hl13 hb013 hbW13
            generalize w13.heap.size = rb at *
            refine (records_d A13 Nm c13 Nm 1048576 _ W13 hxW (by omega)).mono ?_
            rintro e w14 h14
            obtain ⟨A14, n14, c14, he14, hl14, hb14⟩ := h14.toA
            rw [E5.out] at he14
            rw [E4.out] at hl14
            subst he14
            have rx14 := rx13.on hb14 rx13.lt
            have hx14 := hxW.on hb14
            have hlm14 := hlW.on hb14
            have hb014 := hb0W.trans (hb14.mono hb0W.size)
            obtain rfl : m = n14 := by have h8 := hl14.1; have h9 := hlm14.1; omega
            clear rx13 hxW hlW hb0W hb14 h14
            have hNN : ((Nm : Int) != (Nm : Int)) = false := by simp
            go_wp2_with (go_at_call 16; refine (same_yes A14 A11 m c14 c11 _ _ hl14 hlm14).mono ?_; rintro e w15 ⟨rfl, hb15⟩; have rx15 := rx14.on hb15 rx14.lt; obtain ⟨y0, y1, y2⟩ := rx15.cells)
            have hx15 := hx14.on hb15
            have hlm15 := hlm14.on hb15
            have hb015 := hb014.trans (hb15.mono hb014.size)
            clear hx14 hl14 hlm14 hb014 hb15 rx14 hNN
            have hmo := cellsU8 (w := w15) (l := more) 5 [.int .u8 109, .int .u8 111, .int .u8 114, .int .u8 101] (4, 5) 4 rfl rfl (by simp [maxLen])
            have hbL : Below w15.heap.size w15 (w15.alloc (.cells #[.int .u8 109, .int .u8 111, .int .u8 114, .int .u8 101] 5 (4, 5))) := (Below.refl _ _).alloc (Nat.le_refl _) _
            have hxL := hx15.on hbL
            have hlL := hlm15.on hbL
            have hb0L := hb015.trans (hbL.mono hb015.size)
            clear hx15 hlm15 hb015 hbL y0 y1 y2 rx15
            have he0 : eA Nm 1048576 more = 0 := eA_ok (by decide) (by rw [show more.length = 4 from rfl]; omega)
            have hb0 : bA 1048576 (frs (ls.take m)) more = frs (ls.take m) ++ frameB more := bA_ok (by rw [E6.out]; exact he0)
            refine (append_d A13 Nm c13 1048576 Nm _ _ 4 4 more _ hxL hmo (by omega) (by omega)).mono ?_
            rw [he0, hb0]
            clear he0 hb0
            rintro e w16 ⟨A16, n16, c16, rfl, hx16, hb16⟩
            have hl16 := hlL.on hb16
            have hb016 := hb0L.trans (hb16.mono hb0L.size)
            have hn16 : n16 ≤ 1000000 := by have h9 := hx16.1; rw [List.length_append, E6.out, frameB_length, show more.length = 4 from rfl] at h9; omega
            clear hmo hxL hlL hb0L hb16
            go_wp2_with fail
            obtain ⟨W16, hW16, _, hbW16⟩ := boxed w16 28 A16 n16 c16 Nm 1048576
            try rw [hW16]
            have hxW := hx16.on hbW16
            have hb0W := hb016.trans (hbW16.mono hb016.size)
            clear hW16 hx16 hb016 hbW16 hl16
            refine (records_d A16 n16 c16 Nm 1048576 _ W16 hxW hn16).mono ?_
            rintro e w17 h17
            obtain ⟨A17, n17, c17, rfl, hl17, hb17⟩ := h17.toA
            rw [E7.out] at hl17
            obtain rfl : n17 = m + 1 := by rw [← hl17.1, List.length_append, List.length_take, HL.out]; simp; omega
            have hb017 := hb0W.trans (hb17.mono hb0W.size)
            obtain ⟨gz, oz, Az, nz, cz, lz, rfl, Hlz, cz0, hbz⟩ := hl17.at_ (show m < m + 1 by omega)
            obtain rfl : more = lz := by
              have h9 := Hlz.out
              rw [List.getElem?_append_right (by rw [List.length_take, HL.out]; omega)] at h9
              have h10 : m - (ls.take m).length = 0 := by rw [List.length_take, HL.out]; omega
              rw [h10] at h9
              simpa using h9
            have hcv := conv_br hbz
            have hmI : (((m + 1 : Nat) : Int) == (m : Int) + 1) = true := by rw [beq_iff_eq]; omega
            have hml := more_l
            generalize aN (frs (ls.take m) ++ frameB more) = NZ at *
            clear hxW hb0W hb17 h17 hl17 Hlz hbz
            go_wp2_with fail
            go_ret
            exact ⟨rfl, hb017⟩
          · have hjj : ((kk : Int) == (j : Int)) = false := by rw [beq_eq_false_iff_ne]; omega
            have HS0 := Lib.hid (show (frs (ls.take kk)).length = SJ by rw [← HSJ.out]; unfold sS; rw [if_pos (by omega)])
            have hS0 : SJ ≤ n' := by have h9 := frs_take_le ls kk; have h8 := HI.br.1; rw [HTk.out] at h8; rw [HS0.out] at h9; omega
            go_wp2_with fail
            clear d0 d1 d2
            have hKl := kC_le (k := kp) hS0
            obtain ⟨K, hKe⟩ : ∃ K, kC n' SJ kp = K := ⟨_, rfl⟩
            rw [hKe] at hKl
            obtain ⟨m, Nm, hm1, hm2, hm3, e1, e2, e3, e4, e5, e6, e7⟩ := safe_math ls HB.out kk K (by rw [HL.out]; exact hkl) (by rw [HS0.out]; exact hKl.1) (by have h9 := HI.br.1; rw [HTk.out] at h9; omega)
            rw [HL.out] at hm1
            have HKe := Lib.hid hKe
            have E1 := Lib.hid e1
            have E2 := Lib.hid e2
            have E3 := Lib.hid e3
            have E4 := Lib.hid e4
            have E5 := Lib.hid e5
            have E6 := Lib.hid e6
            have E7 := Lib.hid e7
            clear hKe e1 e2 e3 e4 e5 e6 e7
            have hxF := HI.br
            rw [HTk.out] at hxF
            have hbF := HI.bl
            refine (crash_d A' n' c' SJ kp 1048576 (frs ls) wr hxF (by omega) hS0 hkp).mono ?_
            rw [HKe.out]
            rintro e w10 ⟨A10, c10, rfl, hx10, hb10⟩
            have hb010 := hbF.trans (hb10.mono hbF.size)
            clear hxF hbF hb10 HI
            go_wp2_with fail
            obtain ⟨W10, hW10, cx10, hbW10⟩ := boxed w10 28 A10 K c10 K 1048576
            try rw [hW10]
            have hxW := hx10.on hbW10
            have hb0W := hb010.trans (hbW10.mono hb010.size)
            clear hW10 hx10 hb010 hbW10
            generalize w10.heap.size = cb at *
            refine (records_d A10 K c10 K 1048576 _ W10 hxW (by omega)).mono ?_
            rintro e w11 h11
            obtain ⟨A11, n11, c11, he11, hl11, hb11⟩ := h11.toA
            rw [E2.out] at he11
            rw [E1.out] at hl11
            subst he11
            obtain rfl : m = n11 := by rw [← hl11.1, List.length_take, HL.out]; omega
            have cx11 := cx10.on hb11 cx10.lt
            have hx11 := hxW.on hb11
            have hb011 := hb0W.trans (hb11.mono hb0W.size)
            obtain ⟨hcut, hlc⟩ := lcut_upto (hl.on hb011) m m rfl hm1
            clear cx10 hxW hb0W hb11 h11
            have hm2' : ¬ m < kk := by omega
            have hm1' : ¬ j < m := by omega
            have hm3' : ¬ K < Nm := by omega
            have hmm := hl11.max
            go_wp2_with (go_at_call 16; refine (same_yes A11 Al m c11 cl _ _ hl11 hlc).mono ?_; rintro e w12 ⟨rfl, hb12⟩; have cx12 := cx11.on hb12 cx11.lt; obtain ⟨y0, y1, y2⟩ := cx12.cells)
            have hx12 := hx11.on hb12
            have hl12 := hl11.on hb12
            have hb012 := hb011.trans (hb12.mono hb011.size)
            clear hx11 hl11 hb011 hb12 hcut hlc cx11 hm2' hm1' hm3' cx12
            refine (repair_d A10 K c10 K 1048576 _ w12 hx12 (by omega)).mono ?_
            rw [E2.out, E3.out, Nat.min_eq_right hm3]
            rintro e w13 ⟨A13, c13, rfl, hx13, hb13⟩
            have hl13 := hl12.on hb13
            have hb013 := hb012.trans (hb13.mono hb012.size)
            clear hx12 hl12 hb012 hb13 y0 y1 y2
            go_wp2_with fail
            obtain ⟨W13, hW13, rx13, hbW13⟩ := boxed w13 28 A13 Nm c13 Nm 1048576
            try rw [hW13]
            have hxW := hx13.on hbW13
            have hlW := hl13.on hbW13
            have hb0W := hb013.trans (hbW13.mono hb013.size)
            clear hW13 hx13 hl13 hb013 hbW13
            generalize w13.heap.size = rb at *
            refine (records_d A13 Nm c13 Nm 1048576 _ W13 hxW (by omega)).mono ?_
            rintro e w14 h14
            obtain ⟨A14, n14, c14, he14, hl14, hb14⟩ := h14.toA
            rw [E5.out] at he14
            rw [E4.out] at hl14
            subst he14
            have rx14 := rx13.on hb14 rx13.lt
            have hx14 := hxW.on hb14
            have hlm14 := hlW.on hb14
            have hb014 := hb0W.trans (hb14.mono hb0W.size)
            obtain rfl : m = n14 := by have h8 := hl14.1; have h9 := hlm14.1; omega
            clear rx13 hxW hlW hb0W hb14 h14
            have hNN : ((Nm : Int) != (Nm : Int)) = false := by simp
            go_wp2_with (go_at_call 16; refine (same_yes A14 A11 m c14 c11 _ _ hl14 hlm14).mono ?_; rintro e w15 ⟨rfl, hb15⟩; have rx15 := rx14.on hb15 rx14.lt; obtain ⟨y0, y1, y2⟩ := rx15.cells)
            have hx15 := hx14.on hb15
            have hlm15 := hlm14.on hb15
            have hb015 := hb014.trans (hb15.mono hb014.size)
            clear hx14 hl14 hlm14 hb014 hb15 rx14 hNN
            have hmo := cellsU8 (w := w15) (l := more) 5 [.int .u8 109, .int .u8 111, .int .u8 114, .int .u8 101] (4, 5) 4 rfl rfl (by simp [maxLen])
            have hbL : Below w15.heap.size w15 (w15.alloc (.cells #[.int .u8 109, .int .u8 111, .int .u8 114, .int .u8 101] 5 (4, 5))) := (Below.refl _ _).alloc (Nat.le_refl _) _
            have hxL := hx15.on hbL
            have hlL := hlm15.on hbL
            have hb0L := hb015.trans (hbL.mono hb015.size)
            clear hx15 hlm15 hb015 hbL y0 y1 y2 rx15
            have he0 : eA Nm 1048576 more = 0 := eA_ok (by decide) (by rw [show more.length = 4 from rfl]; omega)
            have hb0 : bA 1048576 (frs (ls.take m)) more = frs (ls.take m) ++ frameB more := bA_ok (by rw [E6.out]; exact he0)
            refine (append_d A13 Nm c13 1048576 Nm _ _ 4 4 more _ hxL hmo (by omega) (by omega)).mono ?_
            rw [he0, hb0]
            clear he0 hb0
            rintro e w16 ⟨A16, n16, c16, rfl, hx16, hb16⟩
            have hl16 := hlL.on hb16
            have hb016 := hb0L.trans (hb16.mono hb0L.size)
            have hn16 : n16 ≤ 1000000 := by have h9 := hx16.1; rw [List.length_append, E6.out, frameB_length, show more.length = 4 from rfl] at h9; omega
            clear hmo hxL hlL hb0L hb16
            go_wp2_with fail
            obtain ⟨W16, hW16, _, hbW16⟩ := boxed w16 28 A16 n16 c16 Nm 1048576
            try rw [hW16]
            have hxW := hx16.on hbW16
            have hb0W := hb016.trans (hbW16.mono hb016.size)
            clear hW16 hx16 hb016 hbW16 hl16
            refine (records_d A16 n16 c16 Nm 1048576 _ W16 hxW hn16).mono ?_
            rintro e w17 h17
            obtain ⟨A17, n17, c17, rfl, hl17, hb17⟩ := h17.toA
            rw [E7.out] at hl17
            obtain rfl : n17 = m + 1 := by rw [← hl17.1, List.length_append, List.length_take, HL.out]; simp; omega
            have hb017 := hb0W.trans (hb17.mono hb0W.size)
            obtain ⟨gz, oz, Az, nz, cz, lz, rfl, Hlz, cz0, hbz⟩ := hl17.at_ (show m < m + 1 by omega)
            obtain rfl : more = lz := by
              have h9 := Hlz.out
              rw [List.getElem?_append_right (by rw [List.length_take, HL.out]; omega)] at h9
              have h10 : m - (ls.take m).length = 0 := by rw [List.length_take, HL.out]; omega
              rw [h10] at h9
              simpa using h9
            have hcv := conv_br hbz
            have hmI : (((m + 1 : Nat) : Int) == (m : Int) + 1) = true := by rw [beq_iff_eq]; omega
            have hml := more_l
            generalize aN (frs (ls.take m) ++ frameB more) = NZ at *
            clear hxW hb0W hb17 h17 hl17 Hlz hbz
            go_wp2_with fail
            go_ret
            exact ⟨rfl, hb017⟩
end Go.Proofs.Ytdelllkgllfcdaa
