/-
  The walk of the law SumJoins: it returns true and leaves all memory that was there. Conditions: the slices can be read.
-/
import Derived.Test.YtalkmjdjdeoedaaSumG
namespace Go.Proofs.Ytalkmjdjdeoedaa
open Go.RowKit

theorem Try.sizeS (w : World) : (sizeOf 22).run Try.prog w = .ok 1 w := by kernel_rfl
theorem lcut_from {w : World} {B : Nat} {A : Option Addr} {n c : Nat} {ls : List (List UInt8)} (h : LR w B A n c ls) (lo m : Nat) (x : Int) (hx : x = lo) (h2 : lo + m = n) :
    ∃ A1 c1, (∀ W, (Instr.slice 36 (.slice A n c) (some (.int .i64 x)) none none).run Try.prog W = .ok (.slice A1 m c1) W) ∧ LR w B A1 m c1 (ls.drop lo) := by
  subst hx
  have h3 := h.cut (k := lo) (by omega)
  have e : n - lo = m := by omega
  rw [e] at h3
  exact ⟨_, _, fun W => by rw [run_cut_from (P := Try.prog) 36 22 Try.underlying36 1 Try.sizeS A n c lo (by omega) W, e], h3⟩
theorem lcut_upto {w : World} {B : Nat} {A : Option Addr} {n c : Nat} {ls : List (List UInt8)} (h : LR w B A n c ls) (hi : Nat) (y : Int) (hy : y = hi) (h2 : hi ≤ n) :
    (∀ W, (Instr.slice 36 (.slice A n c) none (some (.int .i64 y)) none).run Try.prog W = .ok (.slice A hi c) W) ∧ LR w B A hi c (ls.take hi) := by
  have hnc := h.2.1
  subst hy
  exact ⟨fun W => run_cut_upto (P := Try.prog) 36 22 Try.underlying36 1 Try.sizeS A n c hi (by omega) W, h.upto h2⟩

/-- Where the loop that joins frames stands: ms were taken. -/
structure JI (w : World) (i m : Nat) (ms : List (List UInt8)) (A' : Option Addr) (n' c' : Nat) (G' : Option Nat) (wr : World) : Prop where
  seg : Seg wr 5 1 A' n' c' (bc (frs ms)) G'
  new : ∀ g, G' = some g → w.heap.size ≤ g
  len : ms.length = m
  few : ∀ l ∈ ms, l.length ≤ 300
  bl : Below w.heap.size w wr
  room : n' ≤ 307 * i
  mi : m ≤ i
theorem JI.skip {w : World} {i m : Nat} {ms : List (List UInt8)} {A' : Option Addr} {n' c' : Nat} {G' : Option Nat} {wr : World} (h : JI w i m ms A' n' c' G' wr) : JI w (i + 1) m ms A' n' c' G' wr :=
  ⟨h.seg, h.new, h.len, h.few, h.bl, by have := h.room; omega, by have := h.mi; omega⟩
theorem JI.next {w : World} {i m : Nat} {ms : List (List UInt8)} {A' : Option Addr} {n' c' : Nat} {G' : Option Nat} {wr w2 w3 : World} {l : List UInt8} {n : Nat} (h : JI w i m ms A' n' c' G' wr) (hl : l.length = n) (h3 : n ≤ 300) (hb : Below wr.heap.size wr w2)
    {A3 : Option Addr} {c3 : Nat} {G3 : Option Nat} (hs : Seg w3 5 1 A3 (n' + (n + 7)) c3 (bc (frs ms) ++ bc (frameB l)) G3) (hg : w2.grownBy w3 G') (hm : Moved w2 G' G3) : JI w (i + 1) (m + 1) (ms ++ [l]) A3 (n' + (n + 7)) c3 G3 w3 := by
  have hb02 := h.bl.trans (hb.mono h.bl.size)
  refine ⟨by rw [frs_snoc, bc_append]; exact hs, hm.ge hb02.size h.new, by rw [List.length_append, h.len]; rfl, fun x hx => ?_, hb02.trans (grown_below hg hb02.size h.new), by have := h.room; omega, by have := h.mi; omega⟩
  rcases List.mem_append.1 hx with hx | hx
  · exact h.few x hx
  · simp at hx; subst hx; omega

set_option maxRecDepth 100000 in
set_option maxHeartbeats 2000000 in
theorem joins_walk (A : Option Addr) (n c : Nat) (ls : List (List UInt8)) (Ar : Option Addr) (nr cr : Nat) (rs : List UInt8) (w : World) (hl : LR w w.heap.size A n c ls) (hr : BR w w.heap.size Ar nr cr rs) :
    Calls Try.prog 8 #[.slice A n c, .slice Ar nr cr] w fun e w' => e = .returned (.bool true) ∧ Below w.heap.size w w' := by
  have hnm := hl.max
  have hrm := hr.max
  obtain ⟨i0, Hi, Hz, Hz1, Hz2⟩ := info_hid
  have p4 : 0 < 1 := by omega
  go_enter Try.func8, Try.ntmps8
  go_wp2_with fail
  refine (alive_c _).mono ?_
  rintro e w1 ⟨rfl, hb1⟩
  by_cases hbig : (3000 : Int) < (nr : Int)
  · go_wp2_with fail
    go_ret
    exact ⟨rfl, hb1⟩
  have HJ : JI w 0 0 [] none 0 0 none w1 := ⟨Seg.nil _ _ _, fun g e => (by cases e), rfl, fun l hl => (by simp at hl), hb1, Nat.zero_le _, Nat.le_refl _⟩
  clear hb1
  go_wp2_with fail
  go_loopw [5, 6, 7] (fun a m i wr => ∃ (i' m' n' : Nat) (A' : Option Addr) (c' : Nat) (G' : Option Nat) (ms : List (List UInt8)), i = .int .i64 i' ∧ m = .int .i64 m' ∧ a = .slice A' n' c' ∧ i' ≤ 20 ∧ JI w i' m' ms A' n' c' G' wr) (fun _ _ i _ => 20 - (intOf i).toNat)
  case atStart => exact ⟨0, 0, 0, none, 0, none, [], rfl, rfl, rfl, by omega, HJ⟩
  case round =>
    clear HJ
    obtain ⟨i', m', n', A', c', G', ms, rfl, rfl, rfl, hi20, HJ⟩ := hrel
    have hroom := HJ.room
    have hmi := HJ.mi
    by_cases hgo : i' < n ∧ i' < 20
    · obtain ⟨hlt, hlt2⟩ := hgo
      obtain ⟨g, off, Ai, ni, ci, l, rfl, Hl, cl, hbl⟩ := (hl.below HJ.bl (Nat.le_refl _)).at_ hlt
      have hni := hbl.max
      by_cases h3 : (300 : Int) < (ni : Int)
      · have HK := Lib.hid HJ.skip
        clear HJ
        go_wp2_with fail
        go_roundw
        case rel => exact ⟨i' + 1, m', n', A', c', G', ms, by go_num, rfl, rfl, by omega, HK.out⟩
        case measure => simp [intOf]; omega
      · go_wp2_with fail
        refine (frame_c Ai ni ci l wr (hbl.more HJ.bl.size)).mono ?_
        rintro e w2 ⟨A2, n2, c2, G2, rfl, hs2, hb2, _⟩
        obtain ⟨hE, hF⟩ := eF_ok (l := l) (by have := hbl.1; omega)
        rw [hF] at hs2
        rw [hE]
        obtain rfl : n2 = ni + 7 := by have := hs2.1; rw [bc_length, frameB_length, hbl.1] at this; omega
        have hs' := HJ.seg.below hb2 (Nat.le_refl _)
        have HN := Lib.hid (fun A3 c3 G3 w3 => HJ.next (l := l) (w2 := w2) (w3 := w3) (A3 := A3) (c3 := c3) (G3 := G3) hbl.1 (by omega) hb2)
        have p1 : n' + (ni + 7) ≤ maxLen := by simp only [maxLen]; omega
        have p2 : (n' + (ni + 7)) * 1 ≤ 140737488355328 := by omega
        have hsrc := hs2.src
        clear hs2 hb2 hE hF HJ hbl cl
        go_wp2_with (at_builtin; refine wpList_append_src _ rfl (.tmp 45) (.tmp 46) _ rfl 5 i0 _ 1 1 Try.underlying22 Hi.out Hz.out Hz1.out Hz2.out rfl p4 rfl hs' rfl hsrc (bc_one _) p1 p2 ?_; intro A3 c3 G3 w3 hs3 hg3 hm3; have HK := Lib.hid (HN.out _ _ _ _ hs3 hg3 hm3); clear hs3 hg3 hm3)
        go_roundw
        case rel => exact ⟨i' + 1, m' + 1, n' + (ni + 7), A3, c3, G3, ms ++ [l], by go_num, by go_num, rfl, by omega, HK.out⟩
        case measure => simp [intOf]; omega
    · have hcase : ¬ i' < n ∨ (i' < n ∧ ¬ (i' : Int) < 20) := by omega
      have hn6 : n' ≤ 6140 := by omega
      have hlenF := HJ.seg.1
      rw [bc_length] at hlenF
      have p1 : 0 + n' ≤ maxLen := by simp only [maxLen]; omega
      have p2 : (0 + n') * 1 ≤ 140737488355328 := by omega
      have q1 : n' + nr ≤ maxLen := by simp only [maxLen]; omega
      have q2 : (n' + nr) * 1 ≤ 140737488355328 := by omega
      have HF := Lib.hid (aC_frs ms rs (fun l hl => by have := HJ.few l hl; omega))
      have Hlen := Lib.hid hlenF
      have hbr := HJ.bl
      have hsa := HJ.seg
      have Hms := Lib.hid HJ.len
      have hrr := hr.below hbr (Nat.le_refl _)
      clear hlenF HJ hgo
      rcases hcase with hc | ⟨hc, hc2⟩
      all_goals
        go_wp2_with (first
          | (at_builtin; refine wpList_append_src _ rfl (.const (.slice none 0 0)) (.tmp 51) _ rfl 5 i0 _ 1 1 Try.underlying22 Hi.out Hz.out Hz1.out Hz2.out rfl p4 rfl (Seg.nil wr _ _) rfl hsa.src (bc_one _) p1 p2 ?_; intro A3 c3 G3 w3 hs3 hg3 hm3; rw [List.nil_append, Nat.zero_add] at hs3; have hr3 := hrr.below (grown_below hg3 (Nat.le_refl _) (fun g e => by cases e)) hbr.size)
          | (at_builtin; refine wpList_append_src _ rfl (.tmp 52) (.tmp 53) _ rfl 5 i0 _ 1 1 Try.underlying22 Hi.out Hz.out Hz1.out Hz2.out rfl p4 rfl hs3 rfl hr3.src (bc_one _) q1 q2 ?_; intro A4 c4 G4 w4 hs4 hg4 hm4; rw [← bc_append] at hs4))
        have hb4 : Below w.heap.size w w4 := hbr.trans ((grown_below (grown_trans hg3 hm3 hg4) (Nat.le_refl _) (fun g e => by cases e)).mono hbr.size)
        have hx4 := BR.of_seg hs4
        clear hs3 hg3 hm3 hr3 hs4 hg4 hm4 hsa hrr p1 p2 q1 q2
        refine (all_c A4 (n' + nr) c4 _ w4 hx4 (by omega)).mono ?_
        rintro e w5 ⟨A5, n5, c5, rfl, hl5, hb5⟩
        rw [HF.out.1] at hl5
        rw [HF.out.2]
        have hb05 := hb4.trans (hb5.mono hb4.size)
        have hr5 := hr.on hb05
        clear hb4 hb5 hx4
        go_wp2_with fail
        refine (all_c Ar nr cr rs w5 hr5 (by omega)).mono ?_
        rintro e w6 ⟨A6, n6, c6, rfl, hl6, hb6⟩
        have hb06 := hb05.trans (hb6.mono hb05.size)
        have hl56 := hl5.on hb6
        have hN := aN_le rs.length rs (Nat.le_refl _)
        have hrl := hr.1
        have hn5 : m' + n6 = n5 := by have h1 := hl5.1; have h2 := hl6.1; have h3 := Hms.out; rw [List.length_append] at h1; omega
        obtain ⟨A7, c7, hcut7, hl7⟩ := lcut_from hl56 m' n6 m' rfl hn5
        rw [List.drop_left' Hms.out] at hl7
        have hn6b : n6 ≤ 3000 := by have h2 := hl6.1; omega
        have hnb : aN rs ≤ 3000 := by omega
        have hFl : (frs ms).length = n' := by have := Hlen.out; omega
        rw [hFl]
        generalize aN rs = NR at *
        generalize aC rs = CR at *
        clear hl5 hl56 hb05 hb6 hr5 hN hrl
        have k1 : ((n5 : Int) == (m' : Int) + (n6 : Int)) = true := by rw [beq_iff_eq]; omega
        have k2 : (((n' + NR : Nat) : Int) == (n' : Int) + (NR : Int)) = true := by rw [beq_iff_eq]; omega
        go_wp2_with (go_at_call 19; refine (same_yes A7 A6 n6 c7 c6 CR _ hl7 hl6).mono ?_; rintro e w7 ⟨rfl, hb7⟩)
        go_ret
        exact ⟨rfl, hb06.trans (hb7.mono hb06.size)⟩
end Go.Proofs.Ytalkmjdjdeoedaa
