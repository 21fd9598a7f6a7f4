/-
  All of package sum and of the document's answer; slices of slices of bytes in memory. Conditions: the bytes can be read, there are a million of them at most.
-/
import Derived.Test.YtdelllkgllfcdaaSumD
import Derived.WalkMore
namespace Go.Proofs.Ytdelllkgllfcdaa
open Go.RowKit

/-- Cells that are slices of bytes, each of which can be read, below B. -/
def LC (w : World) (B : Nat) (cells : List Value) (ls : List (List UInt8)) : Prop :=
  cells.length = ls.length ∧ ∀ (i : Nat) (l : List UInt8), ls[i]? = some l → ∃ A n c, cells[i]? = some (.slice A n c) ∧ BR w B A n c l
theorem LC.nil (w : World) (B : Nat) : LC w B [] [] := ⟨rfl, fun i l h => by simp at h⟩
theorem LC.keep {w w' : World} {B : Nat} {cells : List Value} {ls : List (List UInt8)} (h : LC w B cells ls) (hk : ∀ g, g < B → w'.heap[g]? = w.heap[g]?) : LC w' B cells ls :=
  ⟨h.1, fun i l hl => by obtain ⟨A, n, c, h1, h2⟩ := h.2 i l hl; exact ⟨A, n, c, h1, h2.keep hk⟩⟩
theorem LC.snoc {w : World} {B : Nat} {cells : List Value} {ls : List (List UInt8)} (h : LC w B cells ls) {A : Option Addr} {n c : Nat} {l : List UInt8} (hl : BR w B A n c l) : LC w B (cells ++ [.slice A n c]) (ls ++ [l]) := by
  refine ⟨by simp [h.1], fun i m hm => ?_⟩
  by_cases hi : i < ls.length
  · rw [List.getElem?_append_left hi] at hm
    obtain ⟨A', n', c', h1, h2⟩ := h.2 i m hm
    exact ⟨A', n', c', by rw [List.getElem?_append_left (by rw [h.1]; exact hi)]; exact h1, h2⟩
  · rw [List.getElem?_append_right (by omega)] at hm
    obtain ⟨hlt, he⟩ := List.getElem?_eq_some_iff.1 hm
    simp at hlt he
    subst he
    have hz : i - ls.length = 0 := by omega
    exact ⟨A, n, c, by rw [List.getElem?_append_right (by rw [h.1]; omega), h.1, hz]; rfl, hl⟩

/-- A slice of slices of bytes that can be read, below B. -/
def LR (w : World) (B : Nat) (A : Option Addr) (n c : Nat) (ls : List (List UInt8)) : Prop :=
  ls.length = n ∧ n ≤ c ∧ c ≤ maxLen ∧ ∀ (i : Nat) (l : List UInt8), ls[i]? = some l → ∃ g off A' n' c', A = some ⟨g, off, none⟩ ∧ g < B ∧ w.cell? ⟨g, off + i, none⟩ = some (.slice A' n' c') ∧ BR w B A' n' c' l
section
variable {w w' : World} {B : Nat} {A : Option Addr} {n c : Nat} {ls : List (List UInt8)}
theorem LR.keep (h : LR w B A n c ls) (hk : ∀ g, g < B → w'.heap[g]? = w.heap[g]?) : LR w' B A n c ls := by
  refine ⟨h.1, h.2.1, h.2.2.1, fun i l hl => ?_⟩
  obtain ⟨g, off, A', n', c', h1, h2, h3, h4⟩ := h.2.2.2 i l hl
  exact ⟨g, off, A', n', c', h1, h2, (World.cell?_of_block (a := ⟨g, off + i, none⟩) (hk g h2)).trans h3, h4.keep hk⟩
theorem LR.below {B' : Nat} (h : LR w B A n c ls) (hb : Below B' w w') (hB : B ≤ B') : LR w' B A n c ls := h.keep fun g hg => hb.block g (by omega)
theorem LR.drewN (h : LR w B A n c ls) (k : Nat) : LR (w.drewN k) B A n c ls := h.keep fun _ _ => rfl
theorem LR.more {B' : Nat} (h : LR w B A n c ls) (hB : B ≤ B') : LR w B' A n c ls := by
  refine ⟨h.1, h.2.1, h.2.2.1, fun i l hl => ?_⟩
  obtain ⟨g, off, A', n', c', h1, h2, h3, h4⟩ := h.2.2.2 i l hl
  exact ⟨g, off, A', n', c', h1, by omega, h3, h4.more hB⟩
theorem LR.at_ (h : LR w B A n c ls) {i : Nat} (hi : i < n) : ∃ (g off : Nat) (A' : Option Addr) (n' c' : Nat) (l : List UInt8), A = some ⟨g, off, none⟩ ∧ Hid (ls[i]? = some l) ∧ w.cell? ⟨g, off + i, none⟩ = some (.slice A' n' c') ∧ BR w B A' n' c' l := by
  have hl : i < ls.length := by rw [h.1]; exact hi
  obtain ⟨g, off, A', n', c', h1, h2, h3, h4⟩ := h.2.2.2 i ls[i] (List.getElem?_eq_getElem hl)
  exact ⟨g, off, A', n', c', ls[i], h1, List.getElem?_eq_getElem hl, h3, h4⟩
theorem LR.upto (h : LR w B A n c ls) {k : Nat} (hk : k ≤ n) : LR w B A k c (ls.take k) := by
  refine ⟨by rw [List.length_take, h.1]; omega, by have := h.2.1; omega, h.2.2.1, fun i l hl => h.2.2.2 i l ?_⟩
  rw [List.getElem?_take] at hl
  split at hl
  · exact hl
  · cases hl
theorem LR.cut (h : LR w B A n c ls) {k : Nat} (hk : k ≤ n) : LR w B (if c = k then A else A.map (·.add (k * 1))) (n - k) (c - k) (ls.drop k) := by
  refine ⟨by rw [List.length_drop, h.1], by have := h.2.1; omega, by have := h.2.2.1; omega, fun i l hl => ?_⟩
  rw [List.getElem?_drop] at hl
  have hlt := (List.getElem?_eq_some_iff.1 hl).1
  rw [h.1] at hlt
  obtain ⟨g, off, A', n', c', rfl, h2, h3, h4⟩ := h.2.2.2 (k + i) l hl
  have hc : ¬ c = k := by have := h.2.1; omega
  exact ⟨g, off + k, A', n', c', by rw [if_neg hc]; simp [Addr.add_lit], h2, by rw [Nat.add_assoc]; exact h3, h4⟩
theorem LR.of_seg {e : TypeId} {cells : List Value} {G : Option Nat} (h : Seg w e 1 A n c cells G) (hc : LC w B cells ls) (hB : B ≤ w.heap.size) : LR w w.heap.size A n c ls := by
  have h1 := h.1
  have h2 := hc.1
  refine ⟨by omega, h.2.1, h.2.2.1, fun i l hl => ?_⟩
  obtain ⟨A', n', c', k1, k2⟩ := hc.2 i l hl
  obtain ⟨g, off, e1, e2, e3⟩ := h.at_ k1
  exact ⟨g, off, A', n', c', e1, h.lt g e2, e3, k2.more hB⟩
end

theorem Try.infoS : (Try.prog.info? 22).map (fun i => (i.zero, i.size, i.bytes)) = some (some (.slice none 0 0), 1, 24) := by kernel_rfl
theorem infoS_hid : ∃ i0, Hid (Try.prog.info? 22 = some i0) ∧ Hid (i0.zero = some (.slice none 0 0)) ∧ Hid (i0.size = 1) ∧ Hid (i0.bytes = 24) := by
  obtain ⟨i0, hi0, hz0, hz1, hz2⟩ := info_parts Try.infoS
  exact ⟨i0, hi0, hz0, hz1, hz2⟩
theorem one_slice (A : Option Addr) (n c : Nat) : ∀ u ∈ [Value.slice A n c], u.oneCell' = true := by
  intro u hu
  simp only [List.mem_singleton] at hu
  subst hu
  rfl

/-- A call gave slices of bytes, and a number, back. -/
def APost (w : World) (bs : List UInt8) (e : Ending) (w' : World) : Prop :=
  ∃ A n c, e = .returned (.tuple #[.slice A n c, .int .i64 (aN bs : Int)]) ∧ LR w' w'.heap.size A n c (aC bs) ∧ Below w.heap.size w w'

/-- Where the loop over frames stands: t bytes are behind it, ls was found. -/
structure AllI (w : World) (B : Nat) (bs : List UInt8) (n : Nat) (A1 : Option Addr) (c1 : Nat) (t : Nat) (A' : Option Addr) (n' c' : Nat) (wr : World) : Prop where
  tn : t ≤ n
  ex : ∃ (G' : Option Nat) (cells : List Value) (ls : List (List UInt8)), Seg wr 22 1 A' n' c' cells G' ∧ (∀ g, G' = some g → B ≤ g) ∧ LC wr B cells ls ∧ aC bs = ls ++ aC (bs.drop t)
  an : aN bs = t + aN (bs.drop t)
  nt : n' ≤ t
  br : BR wr B A1 n c1 bs
  bl : Below w.heap.size w wr
  sz : B ≤ wr.heap.size
/-- The same, and the slice of slices is one of the call's own. -/
def APostO (w : World) (bs : List UInt8) (e : Ending) (w' : World) : Prop :=
  ∃ A n c cells G B, e = .returned (.tuple #[.slice A n c, .int .i64 (aN bs : Int)]) ∧ Seg w' 22 1 A n c cells G ∧ LC w' B cells (aC bs) ∧ (∀ g, G = some g → B ≤ g) ∧ w.heap.size ≤ B ∧ B ≤ w'.heap.size ∧ Below w.heap.size w w'
theorem APostO.toA {w : World} {bs : List UInt8} {e : Ending} {w' : World} (h : APostO w bs e w') : APost w bs e w' := by
  obtain ⟨A, n, c, cells, G, B, h1, h2, h3, _, _, h6, h7⟩ := h
  exact ⟨A, n, c, h1, LR.of_seg h2 h3 h6, h7⟩
theorem AllI.stop {w : World} {B : Nat} {bs : List UInt8} {n : Nat} {A1 : Option Addr} {c1 t : Nat} {A' : Option Addr} {n' c' : Nat} {wr w' : World} (h : AllI w B bs n A1 c1 t A' n' c' wr) (h0 : ¬ fE (bs.drop t) = 0) (hb : Below wr.heap.size wr w') (hw : w.heap.size ≤ B) : APostO w bs (.returned (.tuple #[.slice A' n' c', .int .i64 (t : Int)])) w' := by
  obtain ⟨G', cells, ls, h1, h2, h3, h4⟩ := h.ex
  obtain ⟨e1, e2⟩ := aC_no h0
  have ha := h.an
  rw [e2, Nat.add_zero] at ha
  rw [e1, List.append_nil] at h4
  have hsz := h.sz
  refine ⟨A', n', c', cells, G', B, by rw [ha], h1.below hb (Nat.le_refl _), ?_, h2, hw, Nat.le_trans hsz hb.size, h.bl.trans (hb.mono h.bl.size)⟩
  rw [h4]
  exact h3.keep fun g hg => hb.block g (by omega)

theorem AllI.next {w : World} {B : Nat} {bs : List UInt8} {n : Nat} {A1 : Option Addr} {c1 t : Nat} {A' : Option Addr} {n' c' : Nat} {wr w3 w4 : World} (h : AllI w B bs n A1 c1 t A' n' c' wr) (hn : bs.length = n) (h0 : fE (bs.drop t) = 0) (hbl : Below wr.heap.size wr w3)
    {A3 : Option Addr} {n3 c3 : Nat} (hb3 : BR w3 B A3 n3 c3 (fC (bs.drop t))) {o : Obj} {G' G4 : Option Nat} {cells : List Value} {ls : List (List UInt8)} (hG : ∀ g, G' = some g → B ≤ g) (hc : LC wr B cells ls) (ha : aC bs = ls ++ aC (bs.drop t))
    {A4 : Option Addr} {c4 : Nat} (hs : Seg w4 22 1 A4 (n' + 1) c4 (cells ++ [.slice A3 n3 c3]) G4) (hg : (w3.alloc o).grownBy w4 G') (hm : Moved (w3.alloc o) G' G4) (hw : w.heap.size ≤ B) : AllI w B bs n A1 c1 (t + fK (bs.drop t)) A4 (n' + 1) c4 w4 ∧ t < t + fK (bs.drop t) ∧ t + fK (bs.drop t) ≤ n := by
  obtain ⟨e1, e2⟩ := aC_yes h0
  have hk := fK_ok h0
  have hz := fE_zero h0
  have hle := fK_le (bs.drop t)
  rw [List.length_drop] at hle
  have htn := h.tn
  have hsz : B ≤ w3.heap.size := Nat.le_trans h.sz hbl.size
  have hk3 : ∀ g, g < B → w4.heap[g]? = w3.heap[g]? := fun g hgB => by
    have hlt : g < w3.heap.size := by omega
    rw [hg.block g (by simp; omega) (fun e => by have := hG g e.symm; omega)]
    exact Below.heap_alloc w3 o g hlt
  have hkr : ∀ g, g < B → w4.heap[g]? = wr.heap[g]? := fun g hgB => (hk3 g hgB).trans (hbl.block g (Nat.lt_of_lt_of_le hgB h.sz))
  refine ⟨⟨by omega, ⟨G4, _, ls ++ [fC (bs.drop t)], hs, hm.ge (by simp; omega) hG, (hc.keep hkr).snoc (hb3.keep hk3), ?_⟩, ?_, ?_, h.br.keep hkr, ?_, ?_⟩, by omega, by omega⟩
  · rw [ha, e1, List.drop_drop, List.append_assoc]; rfl
  · rw [h.an, e2, List.drop_drop]; omega
  · have := h.nt; omega
  · refine (h.bl.trans (hbl.mono h.bl.size)).trans ⟨hg.os, hg.tape, hg.output, Nat.le_trans (by simp) hg.size, fun i hi => hk3 i (by omega)⟩
  · exact Nat.le_trans hsz (Nat.le_trans (by simp) hg.size)

set_option maxRecDepth 100000 in
set_option maxHeartbeats 1000000 in
theorem all_o (A : Option Addr) (n c : Nat) (bs : List UInt8) (w : World) (hb : BR w w.heap.size A n c bs) (hn : n ≤ 1000000) :
    Calls Try.prog 30 #[.slice A n c] w (APostO w bs) := by
  obtain ⟨i0, Hi, Hz, Hz1, Hz2⟩ := infoS_hid
  have hlen := Lib.hid hb.1
  have p4 : 0 < 1 := by omega
  go_enter Try.func30, Try.ntmps30
  go_wp2_with fail
  go_step3
  go_wp2_with fail
  refine (clone_c _ A n c bs w hb hn).mono ?_
  rintro e w1 ⟨A1, n1, c1, G1, rfl, hs1, hg1, hm1⟩
  obtain rfl : n1 = n := by have := hs1.1; rw [bc_length, hlen.out] at this; omega
  have HI : AllI w w1.heap.size bs n1 A1 c1 0 none 0 0 w1 :=
    ⟨Nat.zero_le _, ⟨none, [], [], Seg.nil _ _ _, fun g e => (by cases e), LC.nil _ _, rfl⟩, (by rw [Nat.zero_add]; rfl), Nat.le_refl _, BR.of_seg hs1, grown_below hg1 (Nat.le_refl _) (fun g e => by cases e), Nat.le_refl _⟩
  have hw01 : w.heap.size ≤ w1.heap.size := hg1.size
  clear hs1 hg1 hm1 hb
  go_wp2_with fail
  go_step3
  go_wp2_with fail
  go_loopw [5, 6] (fun cs tt wr => ∃ (t : Nat) (A' : Option Addr) (n' c' : Nat), tt = .int .i64 t ∧ cs = .slice A' n' c' ∧ AllI w w1.heap.size bs n1 A1 c1 t A' n' c' wr) (fun _ tt _ => n1 - (intOf tt).toNat)
  case atStart => exact ⟨0, none, 0, 0, rfl, rfl, HI⟩
  case round =>
    clear HI
    obtain ⟨t, A', n', c', rfl, rfl, HI⟩ := hrel
    have htn := HI.tn
    have hnt := HI.nt
    obtain ⟨A2, c2, hcut2, hb2⟩ := cut_from HI.br t t rfl htn
    go_wp2_with fail
    refine (cut_c w1.heap.size A2 (n1 - t) c2 (bs.drop t) wr hb2).mono ?_
    rintro e w3 ⟨A3, n3, c3, rfl, hb3, hbl3⟩
    by_cases h0 : fE (bs.drop t) = 0
    case neg =>
      have H := Lib.hid (HI.stop h0 hbl3 hw01)
      have h0' : ((fE (bs.drop t) : Int) == 0) = false := by rw [beq_eq_false_iff_ne]; omega
      generalize fE (bs.drop t) = E at *
      generalize fK (bs.drop t) = K at *
      clear HI hb3 hbl3 h0
      go_wp2_with fail
      try rw [Exit.noGoto_ret]
      go_ret2
      exact H.out
    case pos =>
      obtain ⟨G', cells, ls, hs', hG', hc', ha'⟩ := HI.ex
      have hs3 := hs'.below hbl3 (Nat.le_refl _)
      have HNX := Lib.hid (fun o G4 A4 c4 w4 => HI.next (w3 := w3) (w4 := w4) (o := o) (G4 := G4) (A4 := A4) (c4 := c4) hlen.out h0 hbl3 hb3 hG' hc' ha')
      rw [h0]
      obtain ⟨K, hK⟩ : ∃ K, fK (bs.drop t) = K := ⟨_, rfl⟩
      have hK7 : K ≤ 1000000 := by have := fK_le (bs.drop t); rw [List.length_drop, hK, hlen.out] at this; omega
      rw [hK] at HNX
      rw [hK]
      have p1 : n' + 1 ≤ maxLen := by simp only [maxLen]; omega
      have p2 : (n' + 1) * 24 ≤ 140737488355328 := by omega
      clear HI hb3 hbl3 h0 hK hs' hc' ha'
      go_wp2_with (at_builtin; refine wpList_append_src _ rfl (.tmp 23) (.tmp 25) _ rfl 22 i0 _ 1 24 Try.underlying34 Hi.out Hz.out Hz1.out Hz2.out rfl p4 rfl (hs3.alloc _) rfl (srcs w3 _ [.slice A3 n3 c3]) (one_slice _ _ _) p1 p2 ?_; intro A4 c4 G4 w4 hs4 hg4 hm4; have HI := Lib.hid (HNX.out _ _ _ _ _ hs4 hg4 hm4 hw01); clear hs4 hg4 hm4)
      go_roundw
      case rel => exact ⟨t + K, A4, n' + 1, c4, by go_num, rfl, HI.out.1⟩
      case measure => have := HI.out.2; simp [intOf]; omega

theorem all_c (A : Option Addr) (n c : Nat) (bs : List UInt8) (w : World) (hb : BR w w.heap.size A n c bs) (hn : n ≤ 1000000) :
    Calls Try.prog 30 #[.slice A n c] w (APost w bs) := (all_o A n c bs w hb hn).mono fun _ _ h => h.toA

set_option maxRecDepth 100000 in
set_option maxHeartbeats 1000000 in
theorem all_r (A : Option Addr) (n c : Nat) (bs : List UInt8) (w : World) (hb : BR w w.heap.size A n c bs) (hn : n ≤ 1000000) :
    Calls Try.prog 14 #[.slice A n c] w (APost w bs) := by
  obtain ⟨i0, Hi, Hz, Hz1, Hz2⟩ := infoS_hid
  have hlen := Lib.hid hb.1
  have p4 : 0 < 1 := by omega
  have HI : AllI w w.heap.size bs n A c 0 none 0 0 w :=
    ⟨Nat.zero_le _, ⟨none, [], [], Seg.nil _ _ _, fun g e => (by cases e), LC.nil _ _, rfl⟩, (by rw [Nat.zero_add]; rfl), Nat.le_refl _, hb, Below.refl _ _, Nat.le_refl _⟩
  have hw01 : w.heap.size ≤ w.heap.size := Nat.le_refl _
  clear hb
  go_enter Try.func14, Try.ntmps14
  go_wp2_with fail
  go_loopw [4, 5] (fun cs tt wr => ∃ (t : Nat) (A' : Option Addr) (n' c' : Nat), tt = .int .i64 t ∧ cs = .slice A' n' c' ∧ AllI w w.heap.size bs n A c t A' n' c' wr) (fun _ tt _ => n - (intOf tt).toNat)
  case atStart => exact ⟨0, none, 0, 0, rfl, rfl, HI⟩
  case round =>
    clear HI
    obtain ⟨t, A', n', c', rfl, rfl, HI⟩ := hrel
    have htn := HI.tn
    have hnt := HI.nt
    obtain ⟨A2, c2, hcut2, hb2⟩ := cut_from HI.br t t rfl htn
    go_wp2_with fail
    refine (first_r w.heap.size A2 (n - t) c2 (bs.drop t) wr hb2 HI.sz).mono ?_
    rintro e w3 ⟨A3, n3, c3, rfl, hb3, hbl3⟩
    by_cases h0 : fE (bs.drop t) = 0
    case neg =>
      have H := Lib.hid ((HI.stop h0 hbl3 hw01).toA)
      have h0' : ((fE (bs.drop t) : Int) != 0) = true := by rw [bne_iff_ne]; omega
      generalize fE (bs.drop t) = E at *
      generalize fK (bs.drop t) = K at *
      clear HI hb3 hbl3 h0
      go_wp2_with fail
      go_ret2
      exact H.out
    case pos =>
      obtain ⟨G', cells, ls, hs', hG', hc', ha'⟩ := HI.ex
      have hs3 := hs'.below hbl3 (Nat.le_refl _)
      have HNX := Lib.hid (fun o G4 A4 c4 w4 => HI.next (w3 := w3) (w4 := w4) (o := o) (G4 := G4) (A4 := A4) (c4 := c4) hlen.out h0 hbl3 hb3 hG' hc' ha')
      rw [h0]
      obtain ⟨K, hK⟩ : ∃ K, fK (bs.drop t) = K := ⟨_, rfl⟩
      have hK7 : K ≤ 1000000 := by have := fK_le (bs.drop t); rw [List.length_drop, hK, hlen.out] at this; omega
      rw [hK] at HNX
      rw [hK]
      have p1 : n' + 1 ≤ maxLen := by simp only [maxLen]; omega
      have p2 : (n' + 1) * 24 ≤ 140737488355328 := by omega
      clear HI hb3 hbl3 h0 hK hs' hc' ha'
      go_wp2_with (at_builtin; refine wpList_append_src _ rfl (.tmp 21) (.tmp 23) _ rfl 22 i0 _ 1 24 Try.underlying34 Hi.out Hz.out Hz1.out Hz2.out rfl p4 rfl (hs3.alloc _) rfl (srcs w3 _ [.slice A3 n3 c3]) (one_slice _ _ _) p1 p2 ?_; intro A4 c4 G4 w4 hs4 hg4 hm4; have HI := Lib.hid (HNX.out _ _ _ _ _ hs4 hg4 hm4 hw01); clear hs4 hg4 hm4)
      go_roundw
      case rel => exact ⟨t + K, A4, n' + 1, c4, by go_num, rfl, HI.out.1⟩
      case measure => have := HI.out.2; simp [intOf]; omega
end Go.Proofs.Ytdelllkgllfcdaa
