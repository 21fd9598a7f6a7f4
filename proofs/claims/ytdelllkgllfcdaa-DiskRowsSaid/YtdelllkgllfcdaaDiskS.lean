/-
  The walk of the law DiskRows: it returns true and leaves all memory that was there. Conditions: the bytes and the records can be read.
-/
import Derived.Test.YtdelllkgllfcdaaDiskR
namespace Go.Proofs.Ytdelllkgllfcdaa
open Go.RowKit

theorem box_at (w : World) (T : TypeId) (A : Option Addr) (n c : Nat) (s r : Int) : Below w.heap.size w (w.alloc (.cells #[.slice A n c, .int .i64 s, .int .i64 r] T)) := (Below.refl _ _).alloc (Nat.le_refl _) _

set_option maxRecDepth 100000 in
set_option maxHeartbeats 4000000 in
theorem rows_walk (A : Option Addr) (n c : Nat) (s r : Int) (bs : List UInt8) (Al : Option Addr) (nl cl : Nat) (ls : List (List UInt8)) (w : World) (hb : BR w w.heap.size A n c bs) (hl : LR w w.heap.size Al nl cl ls) :
    Calls Try.prog 7 #[.agg #[.slice A n c, .int .i64 s, .int .i64 r], .slice Al nl cl] w fun e w' => e = .returned (.bool true) ∧ Below w.heap.size w w' := by
  have hnm := hb.max
  have hlm := hl.max
  obtain ⟨i0, Hi, Hz, Hz1, Hz2⟩ := infoS_hid
  have p4 : 0 < 1 := by omega
  obtain ⟨W, hW, bx, hbW⟩ := boxed w 24 A n c s r
  go_enter Try.func7, Try.ntmps7
  go_wp2_with fail
  try rw [hW]
  clear hW
  refine (alive_c W).mono ?_
  rintro e w1 ⟨rfl, hb1⟩
  have bx1 := bx.on hb1 bx.lt
  have hb01 := hbW.trans (hb1.mono hbW.size)
  clear bx hbW hb1
  obtain ⟨d0, d1, d2⟩ := bx1.cells
  by_cases hbig : (9000 : Int) < (n : Int)
  · go_wp2_with fail
    go_ret
    exact ⟨rfl, hb01⟩
  go_wp2_with fail
  refine (few_c Al nl cl ls w1 (hl.on hb01)).mono ?_
  rintro e w1' ⟨b, rfl, rfl, hfew⟩
  cases b with
  | false =>
    go_wp2_with fail
    go_ret
    exact ⟨rfl, hb01⟩
  | true =>
  replace hfew := hfew rfl
  go_wp2_with fail
  refine (right_c A n c s r w1).mono ?_
  rintro e w2 ⟨rfl, hb2⟩
  have bx2 := bx1.on hb2 bx1.lt
  have hb02 := hb01.trans (hb2.mono hb01.size)
  clear bx1 hb01 hb2 d0 d1 d2
  cases hright : rightB n s r with
  | false =>
    clear hright
    go_wp2_with fail
    go_ret
    exact ⟨rfl, hb02⟩
  | true =>
    obtain ⟨s', r', rfl, rfl, hs, hr, hr2⟩ := right_of hright
    clear hright
    obtain ⟨d0, d1, d2⟩ := bx2.cells
    obtain ⟨t1, t2⟩ := take_aN bs.length bs (Nat.le_refl _)
    obtain ⟨t3, t4⟩ := aC_all t2
    have hN := aN_le' bs hb.1
    have hCl : (aC bs).length ≤ n := by have := (aN_le bs.length bs (Nat.le_refl _)).2; have h5 := hb.1; omega
    have hNl : (frs (aC bs)).length = aN bs := by rw [← t1, List.length_take, hb.1]; omega
    rw [hNl] at t4
    obtain ⟨C, hC⟩ : ∃ C, aC bs = C := ⟨_, rfl⟩
    obtain ⟨N, hNe⟩ : ∃ N, aN bs = N := ⟨_, rfl⟩
    rw [hC, hNe] at t1 t4 hNl
    rw [hC] at t2 t3 hCl
    rw [hNe] at hN
    have T1 := Lib.hid t1
    have T2 := Lib.hid t2
    have T3 := Lib.hid t3
    have T4 := Lib.hid t4
    have HNl := Lib.hid hNl
    have HNe := Lib.hid hNe
    clear t1 t2 t3 t4 hNl hC hNe
    go_wp2_with fail
    refine (repair_d A n c s' r' bs w2 (hb.on hb02) (by omega)).mono ?_
    rw [HNe.out, T1.out]
    rintro e w3 ⟨A3, c3, rfl, hx3, hb3⟩
    have bx3 := bx2.on hb3 bx2.lt
    have hb03 := hb02.trans (hb3.mono hb02.size)
    clear bx2 hb02 hb3 d0 d1 d2
    obtain ⟨M, hM⟩ : ∃ M, min s' N = M := ⟨_, rfl⟩
    rw [hM]
    have hMN : M ≤ N := by omega
    clear hM
    go_wp2_with fail
    obtain ⟨W4, hW4, ax4, hbW4⟩ := boxed w3 28 A3 N c3 M r'
    rw [hW4]
    have bx4 := bx3.on hbW4 bx3.lt
    have hx4 := hx3.on hbW4
    have hb04 := hb03.trans (hbW4.mono hb03.size)
    have hxw : w.heap.size < w3.heap.size := bx3.lt
    clear hW4 bx3 hx3 hb03 hbW4
    generalize w3.heap.size = x at *
    refine (repair_d A3 N c3 M r' _ W4 hx4 (by omega)).mono ?_
    rw [T4.out, Nat.min_eq_left hMN, List.take_of_length_le (by rw [HNl.out]; exact Nat.le_refl _)]
    rintro e w5 ⟨A5, c5, rfl, hx5, hb5⟩
    have bx5 := bx4.on hb5 bx4.lt
    have ax5 := ax4.on hb5 ax4.lt
    have hx45 := hx4.on hb5
    have hb05 := hb04.trans (hb5.mono hb04.size)
    clear bx4 ax4 hx4 hb04 hb5
    obtain ⟨d0, d1, d2⟩ := (ax5.alloc (.cells #[.slice A5 N c5, .int .i64 M, .int .i64 r'] 28)).cells
    go_wp2_with fail
    obtain ⟨W6, hW6, _, hbW6⟩ := boxed w5 28 A5 N c5 M r'
    rw [hW6]
    have bx6 := bx5.on hbW6 bx5.lt
    have ax6 := ax5.on hbW6 ax5.lt
    have hx6 := hx45.on hbW6
    have hy6 := hx5.on hbW6
    have hb06 := hb05.trans (hbW6.mono hb05.size)
    clear hW6 bx5 ax5 hx45 hx5 hb05 hbW6 d0 d1 d2
    refine (same_d A3 A5 N c3 N c5 M r' _ W6 hx6 hy6).mono ?_
    rintro e w7 ⟨rfl, hb7⟩
    have bx7 := bx6.on hb7 bx6.lt
    have ax7 := ax6.on hb7 ax6.lt
    have hx7 := hx6.on hb7
    have hb07 := hb06.trans (hb7.mono hb06.size)
    clear bx6 ax6 hx6 hy6 hb06 hb7
    obtain ⟨d0, d1, d2⟩ := ax7.cells
    go_wp2_with fail
    refine (records_d A3 N c3 M r' _ w7 hx7 (by omega)).mono ?_
    rintro e w8 ⟨A8, n8, c8, cells, G, B, rfl, hs8, hc8, hG8, hB1, hB2, hb8⟩
    rw [T3.out] at hc8
    have hn8 : n8 ≤ 9000 := by have h5 := hs8.1; have h6 := hc8.1; omega
    have HI : RI w x A n c s' r' M r' 0 C C A3 N c3 A8 n8 c8 G w8 := by
      refine ⟨bx7.on hb8 bx7.lt, ax7.on hb8 ax7.lt, hx7.on hb8, ⟨cells, B, hs8, hc8, hG8, Nat.le_trans hb07.size hB1, hB2⟩, fun g ad eG eA hn => ?_, T2.out, hb07.trans (hb8.mono hb07.size), hxw, by omega, by omega, by omega⟩
      obtain ⟨g', off, e1, e2, _⟩ := hx7.2.2.2 hn
      rw [e1] at eA
      cases eA
      have := hG8 g eG
      show g' ≠ g
      omega
    clear hs8 hc8 hG8 hB1 hB2 hb8 bx7 ax7 hx7 hb07 d0 d1 d2 hxw
    rw [T4.out]
    clear T1 T2 T3 T4 HNl HNe
    go_wp2_with fail
    go_loopw [7, 46] (fun a i wr => ∃ (k : Nat) (L : List (List UInt8)) (A' : Option Addr) (n' c' : Nat) (A7 : Option Addr) (m7 c7 : Nat) (G7 : Option Nat), k ≤ nl ∧ i = .int .i64 k ∧ a = .slice A7 m7 c7 ∧ RI w x A n c s' r' M r' k L L A' n' c' A7 m7 c7 G7 wr) (fun _ i _ => nl - (intOf i).toNat)
    case atStart => exact ⟨0, C, A3, N, c3, A8, n8, c8, G, Nat.zero_le _, rfl, rfl, HI⟩
    case round =>
      clear HI
      obtain ⟨k, L, A', n', c', A7, m7, c7, G7, hk, rfl, rfl, HI⟩ := hrel
      have hnb := HI.nb
      have hnr := HI.nr
      have hmb := HI.mb
      obtain ⟨d0, d1, d2⟩ := HI.bx.cells
      by_cases hlt : k < nl
      · obtain ⟨g, off, Ai, ni, ci, l, rfl, Hl, cl', hbi⟩ := (hl.below HI.bl (Nat.le_refl _)).at_ hlt
        have hil := hbi.1
        have hni := hbi.max
        go_wp2_with fail
        refine (append_f A' n' c' r' M (frs L) Ai ni ci l wr HI.br (hbi.more HI.bl.size) (by omega) (by omega)).mono ?_
        rintro e w2' ⟨A2, n2, c2, rfl, hx2, hb2, hf2⟩
        have hbW := box_at w2' 28 A2 n2 c2 M r'
        have HI2 := (HI.on hb2).on hbW
        have yb := Box.new w2' 28 A2 n2 c2 M r'
        have hx3 := hx2.on hbW
        have hwr : ∀ ad, A2 = some ad → wr.heap.size ≤ ad.block := hf2
        have hG1 : ∀ g, G7 = some g → g < wr.heap.size := by obtain ⟨cells', B', h1, _⟩ := HI.ex; exact h1.lt
        have hlt2 : ∀ ad, A2 = some ad → 0 < n2 → ad.block < w2'.heap.size := fun ad e hn => by
          obtain ⟨g', off', e1, e2, _⟩ := hx2.2.2.2 hn
          rw [e1] at e
          cases e
          exact e2
        obtain ⟨cells7, B7, h1, h2, h3, h4, h5⟩ := HI2.ex
        have hne := h1.ne_ yb sl_ne_disk
        have hap2 : ∀ g ad, G7 = some g → A2 = some ad → 0 < n2 → ad.block ≠ g := fun g ad eG eA hn => by
          have := hG1 g eG
          have := hwr ad eA
          omega
        by_cases hE : eA n' r' l = 0
        · obtain ⟨hz1, hz2⟩ := eA_zero hE
          have hbe : bA r' (frs L) l = frs (L ++ [l]) := by rw [bA_ok (by rw [HI.br.1]; exact hE), frs_snoc]
          rw [hbe] at hx2 hx3
          obtain rfl : n2 = n' + (ni + 7) := by
            have h6 := hx2.1
            rw [frs_snoc, List.length_append, frameB_length, HI.br.1, hil] at h6
            omega
          have hfw : ∀ y ∈ L ++ [l], y.length ≤ 4000 := fun y hy => by
            rcases List.mem_append.1 hy with hy | hy
            · exact HI.few y hy
            · simp at hy; subst hy; exact hz1
          have hli : BR (w2'.alloc (.cells #[.slice A2 (n' + (ni + 7)) c2, .int .i64 M, .int .i64 r'] 28)) w.heap.size Ai ni ci l := hbi.keep fun g hg => (HI2.bl.block g hg).trans (HI.bl.block g hg).symm
          have hx4 := hx3.on ((Below.refl (w2'.alloc (.cells #[.slice A2 (n' + (ni + 7)) c2, .int .i64 M, .int .i64 r'] 28)).heap.size _).alloc (Nat.le_refl _) (.cells #[.slice Ai ni ci] 22))
          have hsw : (w2'.alloc (.cells #[.slice A2 (n' + (ni + 7)) c2, .int .i64 M, .int .i64 r'] 28)).heap.size = w2'.heap.size + 1 := by simp
          have HSW := Lib.hid hsw
          have Hfin := Lib.hid (fun (A9 : Option Addr) (c9 : Nat) (G9 : Option Nat) (w9 : World) hs9 hg9 hm9 => (show ∃ w10, ((w9.setCell ⟨x, 0, none⟩ (.slice A2 (n' + (ni + 7)) c2)).setCell ⟨x, 1, none⟩ (.int .i64 M)).setCell ⟨x, 2, none⟩ (.int .i64 r') = w10 ∧ RI w x A n c s' r' M r' (k + 1) (L ++ [l]) (L ++ [l]) A2 (n' + (ni + 7)) c2 A9 (m7 + 1) c9 G9 w10 from
            (HI2.app h1 h2 h3 h4 h5 hli (o := .cells #[.slice Ai ni ci] 22) (w4 := w9) (A8 := A9) (c8 := c9) (G8 := G9) hs9 hg9 hm9).put (hx4.apart hg9 hap2) (fun g ad eG eA hn => by
              rcases hm9 with hm9 | ⟨g9, hm9, hg9'⟩
              · rw [hm9] at eG; exact hap2 g ad eG eA hn
              · rw [hm9] at eG; cases eG; have h7 := hlt2 ad eA hn; have h8 : w2'.heap.size + 1 + 1 ≤ g := by simpa using hg9'
                omega) hfw (by omega) (by omega)))
          have Hx9 := Lib.hid (fun (A9 : Option Addr) (c9 : Nat) (G9 : Option Nat) (w9 : World) hs9 hg9 hm9 => (HI2.app h1 h2 h3 h4 h5 hli (o := .cells #[.slice Ai ni ci] 22) (w4 := w9) (A8 := A9) (c8 := c9) (G8 := G9) hs9 hg9 hm9).bx)
          have Hy9 := Lib.hid (fun (w9 : World) (hg9 : ((w2'.alloc (.cells #[.slice A2 (n' + (ni + 7)) c2, .int .i64 M, .int .i64 r'] 28)).alloc (.cells #[.slice Ai ni ci] 22)).grownBy w9 G7) => (show Box w9 w2'.heap.size 28 A2 (n' + (ni + 7)) c2 M r' from CB.grown (yb.alloc _) hg9 (Ne.symm hne)))
          have h1a := h1.alloc (.cells #[.slice Ai ni ci] 22)
          have hsrc := srcs (w2'.alloc (.cells #[.slice A2 (n' + (ni + 7)) c2, .int .i64 M, .int .i64 r'] 28)) 22 [.slice Ai ni ci]
          have p1 : m7 + 1 ≤ maxLen := by simp only [maxLen]; omega
          have p2 : (m7 + 1) * 24 ≤ 140737488355328 := by omega
          rw [hE]
          clear hE hbe hx2 hx3 hx4 hsw hli h1 h2 h3 h4 h5 hne hap2 hlt2 hwr hG1 HI HI2 yb hbW hb2 hf2 hbi d0 d1 d2 hil hfw
          rw [HSW.out] at hsrc
          go_wp2_with (at_builtin; refine wpList_append_src _ rfl (.tmp 58) (.tmp 60) _ rfl 22 i0 _ 1 24 Try.underlying34 Hi.out Hz.out Hz1.out Hz2.out rfl p4 rfl h1a rfl hsrc (one_slice _ _ _) p1 p2 ?_; intro A9 c9 G9 w9 hs9 hg9 hm9; obtain ⟨w10, hw10, HI10⟩ := Hfin.out _ _ _ _ hs9 hg9 hm9; have HW10 := Lib.hid hw10; have bx9 := Hx9.out _ _ _ _ hs9 hg9 hm9; have by9 := Hy9.out _ hg9; obtain ⟨d0, d1, d2⟩ := bx9.cells; obtain ⟨f0, f1, f2⟩ := bx9.froz; obtain ⟨y0, y1, y2⟩ := by9.cells; clear hw10 hs9 hg9 hm9 h1a hsrc)
          rw [HW10.out]
          go_roundw
          case rel => exact ⟨k + 1, L ++ [l], A2, _, c2, A9, m7 + 1, c9, G9, by omega, by go_num, rfl, HI10⟩
          case measure => simp [intOf]; omega
        · have hbe : bA r' (frs L) l = frs L := bA_bad (by rw [HI.br.1]; exact hE)
          rw [hbe] at hx2 hx3
          obtain rfl : n' = n2 := by rw [← HI.br.1, ← hx2.1]
          obtain ⟨w10, hw10, HI10⟩ := HI2.up.put hx3 hap2 HI.few (by omega) (by omega)
          have HW10 := Lib.hid hw10
          obtain ⟨z0, z1, z2⟩ := HI2.bx.cells
          obtain ⟨f0, f1, f2⟩ := HI2.bx.froz
          have hEe : ((eA n' r' l : Int) == 0) = false := by rw [beq_eq_false_iff_ne]; omega
          generalize eA n' r' l = E at *
          clear hE hbe hx2 hx3 h1 h2 h3 h4 h5 hne hap2 hlt2 hwr hG1 HI HI2 yb hbW hb2 hf2 hbi d0 d1 d2 hil hw10
          go_wp2_with fail
          rw [HW10.out]
          go_roundw
          case rel => exact ⟨k + 1, L, A2, _, c2, A7, m7, c7, G7, by omega, by go_num, rfl, HI10⟩
          case measure => simp [intOf]; omega
      · obtain ⟨a1, a2⟩ := aC_all HI.few
        rw [HI.br.1] at a2
        obtain ⟨cells7, B7, h1, h2, h3, h4, h5⟩ := HI.ex
        have hlh := LR.of_seg h1 h2 h5
        have ax := HI.bx
        have bd := HI.bd
        have hbr := HI.br
        have hbl := HI.bl
        clear h1 h2 h3 h4 h5 HI
        go_wp2_with fail
        refine (records_d A' n' c' M r' _ wr hbr (by omega)).mono ?_
        rintro e w9 h9
        obtain ⟨A9, n9, c9, rfl, hl9, hb9⟩ := h9.toA
        rw [a1] at hl9
        rw [a2]
        have hlh9 := hlh.on hb9
        obtain rfl : m7 = n9 := by rw [← hl9.1, ← hlh9.1]
        have ax9 := ax.on hb9 ax.lt
        have bd9 := bd.on hb9 bd.lt
        have hb09 := hbl.trans (hb9.mono hbl.size)
        clear a1 a2 h9 hlh ax bd hbr hbl hb9 d0 d1 d2
        have hnn : ((n' : Int) == (n' : Int)) = true := beq_self_eq_true _
        go_wp2_with (go_at_call 16; refine (same_yes A9 A7 m7 c9 c7 _ _ hl9 hlh9).mono ?_; rintro e w11 ⟨rfl, hb11⟩; obtain ⟨d0, d1, d2⟩ := (ax9.on hb11 ax9.lt).cells; obtain ⟨z0, z1, z2⟩ := (bd9.on hb11 bd9.lt).cells)
        go_ret
        exact ⟨rfl, hb09.trans (hb11.mono hb09.size)⟩
end Go.Proofs.Ytdelllkgllfcdaa
