/-
  Decode of package code: it returns the document's values, or the document's error. Conditions: the shape is such as memory can hold, the bytes can be read.
-/
import Derived.Test.YtcfdfimkgehdfaaNCodeG
namespace Go.Proofs.Ytcfdfimkgehdfaa.Dk
set_option maxRecDepth 100000
open Go.RowKit

/-- Values as cells. -/
def vc (l : List CV) : List Value := l.flatMap fun v => [.int .u64 v.n, .string v.s]
theorem vc_append (l m : List CV) : vc (l ++ m) = vc l ++ vc m := List.flatMap_append
theorem vc_cons (v : CV) (l : List CV) : vc (v :: l) = .int .u64 v.n :: .string v.s :: vc l := rfl
theorem vc_length : ∀ l : List CV, (vc l).length = l.length * 2
  | [] => rfl
  | v :: l => by rw [vc_cons]; simp only [List.length_cons, vc_length l]; omega
theorem vc_get : ∀ (l : List CV) (i : Nat) (v : CV), l[i]? = some v → (vc l)[i * 2]? = some (.int .u64 v.n) ∧ (vc l)[i * 2 + 1]? = some (.string v.s)
  | [], i, v, h => by simp at h
  | u :: l, 0, v, h => by
    simp only [List.getElem?_cons_zero, Option.some.injEq] at h
    subst h
    exact ⟨rfl, rfl⟩
  | u :: l, i + 1, v, h => by
    have := vc_get l i v (by simpa using h)
    rw [vc_cons, show (i + 1) * 2 = i * 2 + 1 + 1 by omega]
    simpa using this
theorem vc_one (l : List CV) : ∀ u ∈ vc l, u.oneCell' = true := by
  intro u hu
  simp only [vc, List.mem_flatMap] at hu
  obtain ⟨v, _, hv⟩ := hu
  simp only [List.mem_cons, List.not_mem_nil, or_false] at hv
  rcases hv with rfl | rfl <;> rfl

def okV (l : List CV) : Prop := ∀ v ∈ l, v.n < 18446744073709551616 ∧ v.s.size ≤ maxLen
theorem okV.snoc {l : List CV} (h : okV l) {v : CV} (h1 : v.n < 18446744073709551616) (h2 : v.s.size ≤ maxLen) : okV (l ++ [v]) := by
  intro u hu
  rw [List.mem_append, List.mem_singleton] at hu
  rcases hu with hu | rfl
  · exact h u hu
  · exact ⟨h1, h2⟩

theorem VR.of_seg {w : World} {t : TypeId} {A : Option Addr} {n c : Nat} {l : List CV} {G : Option Nat} (h : Seg w t 2 A n c (vc l) G) (ho : okV l) : n = l.length ∧ VR w A l := by
  have h1 := h.1
  rw [vc_length] at h1
  refine ⟨by omega, fun i v hv => ?_⟩
  obtain ⟨k1, k2⟩ := ho v (List.mem_of_getElem? hv)
  obtain ⟨v0, v1⟩ := vc_get l i v hv
  obtain ⟨g, off, rfl, rfl, hc0⟩ := h.at_ v0
  obtain ⟨g', off', ha, hg, hc1⟩ := h.at_ v1
  cases ha
  exact ⟨k1, k2, g, off, rfl, World.block_lt_of_cell? w _ hc0, hc0, hc1⟩

theorem decs_append (s1 s2 : List UInt8) : ∀ b, decs (s1 ++ s2) b = (match decs s1 b with
    | none => none
    | some (l, r) => (match decs s2 r with
      | none => none
      | some (l2, r2) => some (l ++ l2, r2))) := by
  induction s1 with
  | nil => intro b; simp only [List.nil_append, decs]; split <;> simp_all
  | cons c cs ih =>
    intro b
    simp only [List.cons_append, decs]
    cases decV c b with
    | none => rfl
    | some p =>
      obtain ⟨v, r⟩ := p
      simp only [ih r]
      cases decs cs r with
      | none => rfl
      | some q =>
        obtain ⟨l, r'⟩ := q
        simp only
        cases decs s2 r' with
        | none => rfl
        | some q2 => rfl
theorem decs_one (c : UInt8) (b : List UInt8) : decs [c] b = (match decV c b with | none => none | some (v, r) => some ([v], r)) := by
  simp only [decs]
  cases decV c b with
  | none => rfl
  | some p => rfl
theorem RD.grown {w w' : World} {B rb : Nat} {bs : List UInt8} (h : RD w B rb bs) {G : Option Nat} (hg : w.grownBy w' G) (hne : ∀ g, G = some g → rb < g) : RD w' B rb bs := by
  have hlt := h.lt
  obtain ⟨h1, A, n, c, hcb, hbr⟩ := h
  exact ⟨h1, A, n, c, hcb.same (hg.block _ hlt (fun e => by have := hne _ e.symm; omega)), hbr.grown hg (by omega) (fun g e => by have := hne _ e; omega)⟩
theorem decs_snoc {sh b : List UInt8} {k : Nat} {c : UInt8} {l : List CV} {r r' : List UInt8} {v : CV} (hc : sh[k]? = some c) (h : decs (sh.take k) b = some (l, r)) (hv : decV c r = some (v, r')) : decs (sh.take (k + 1)) b = some (l ++ [v], r') := by
  obtain ⟨h1, rfl⟩ := List.getElem?_eq_some_iff.1 hc
  rw [List.take_succ_eq_append_getElem h1, decs_append, h]
  simp only [decs_one, hv]
theorem decs_stop {sh b : List UInt8} {k : Nat} {c : UInt8} {l : List CV} {r : List UInt8} (hc : sh[k]? = some c) (h : decs (sh.take k) b = some (l, r)) (hv : decV c r = none) : decs sh b = none := by
  obtain ⟨h1, rfl⟩ := List.getElem?_eq_some_iff.1 hc
  have : sh = sh.take k ++ ([sh[k]] ++ sh.drop (k + 1)) := by
    conv => lhs; rw [← List.take_append_drop k sh, List.drop_eq_getElem_cons h1]
    rfl
  rw [this, decs_append, h]
  simp only [List.singleton_append, decs, hv]
theorem decV_ok {c : UInt8} {b r : List UInt8} {v : CV} (h : decV c b = some (v, r)) : v.n < 18446744073709551616 ∧ v.s.size ≤ 2000 := by
  obtain ⟨_, hf⟩ := enc_decV c b v r h
  refine ⟨?_, fitB_size hf⟩
  unfold fitB at hf
  split at hf
  · simp only [Bool.and_eq_true, beq_iff_eq] at hf
    rw [hf.1]
    decide
  · simp only [Bool.and_eq_true, decide_eq_true_eq] at hf
    have h2 : 256 ^ wd c ≤ 256 ^ 8 := Nat.pow_le_pow_right (by omega) (wd_le c)
    exact Nat.lt_of_lt_of_le hf.2 h2

/-- A call gave values and a number back. -/
def DPost (w : World) (l : List CV) (k : Nat) (e : Ending) (w' : World) : Prop :=
  ∃ A c, e = .returned (.tuple #[.slice A l.length c, .int .i64 (k : Int)]) ∧ VR w' A l ∧ okV l ∧ Below w.heap.size w w'
theorem dpost_nil {w w' : World} {sh b : List UInt8} {k : Nat} (h1 : eD sh b = k) (h2 : lD sh b = []) (hb : Below w.heap.size w w') : DPost w (lD sh b) (eD sh b) (.returned (.tuple #[.slice none 0 0, .int .i64 (k : Int)])) w' := by
  rw [h1, h2]
  exact ⟨none, 0, rfl, fun i v hv => by simp at hv, fun v hv => by simp at hv, hb⟩
theorem eD_no {sh b : List UInt8} (hp : properB sh = true) (h : okD sh b = none) : eD sh b = 4 ∧ lD sh b = [] := by
  unfold eD lD
  rw [hp, h]
  exact ⟨rfl, rfl⟩
theorem eD_yes {sh b : List UInt8} {l : List CV} (hp : properB sh = true) (h : okD sh b = some l) : eD sh b = 0 ∧ lD sh b = l := by
  unfold eD lD
  rw [hp, h]
  exact ⟨rfl, rfl⟩
theorem eD_bad {sh b : List UInt8} (hp : properB sh = false) : eD sh b = 2 ∧ lD sh b = [] := by
  unfold eD lD
  rw [hp]
  exact ⟨rfl, rfl⟩

theorem Try.infoV : (Try.prog.info? 142).map (fun i => (i.zero, i.size, i.bytes)) = some (some (.agg #[.int .u64 0, .string ⟨#[]⟩]), 2, 24) := by kernel_rfl
theorem src2 (w : World) (t : TypeId) (v : CV) : Src (w.alloc (.cells #[.int .u64 v.n, .string v.s] t)) 2 (some ⟨w.heap.size, 0, none⟩) 1 (vc [v]) := by
  refine ⟨rfl, fun _ => ⟨_, rfl, fun j u hj => ?_⟩⟩
  have hcb := CB.new w t #[.int .u64 v.n, .string v.s]
  rw [Addr.add_lit, Nat.zero_add, hcb.cell j]
  rw [← hj]
  simp [vc]

set_option maxRecDepth 100000 in
set_option maxHeartbeats 1000000 in
theorem decode_c (s : ByteArray) (A : Option Addr) (n cap : Nat) (bs : List UInt8) (w : World) (hs : s.size ≤ maxLen) (hb : BR w w.heap.size A n cap bs) :
    Calls Try.prog 61 #[.string s, .slice A n cap] w (DPost w (lD (bl s) bs) (eD (bl s) bs)) := by
  have hs0 := hs
  unfold maxLen at hs
  have hbl := bl_length s
  have hbn := hb.1
  have hcm : n ≤ 9223372036854775807 := by have h1 := hb.2.1; have h2 := hb.2.2.1; simp only [maxLen] at h2; omega
  by_cases hp : properB (bl s) = false
  · have H := Lib.hid (dpost_nil (w := w) (w' := w) (eD_bad (b := bs) hp).1 (eD_bad (b := bs) hp).2 (Below.refl _ _))
    have Hp := Lib.hid hp
    clear hp hbl
    go_enter Try.func61, Try.ntmps61
    go_wp2_with fail
    refine (proper_c s _ hs0).mono ?_
    rintro e w' ⟨rfl, rfl⟩
    rw [Hp.out]
    go_wp2_with fail
    go_ret2
    exact H.out
  have hp' : properB (bl s) = true := by simpa using hp
  have hp100 : s.size ≤ 100 := by
    unfold properB at hp'
    simp only [Bool.and_eq_true, decide_eq_true_eq] at hp'
    omega
  have Hp := Lib.hid hp'
  clear hp hp'
  by_cases hbig : (4000 : Int) < (n : Int)
  · have hno := eD_no (b := bs) Hp.out (by unfold okD; rw [if_neg (by omega)])
    have H := Lib.hid (dpost_nil (w := w) (w' := w) hno.1 hno.2 (Below.refl _ _))
    clear hno hbn hbl
    go_enter Try.func61, Try.ntmps61
    go_wp2_with fail
    refine (proper_c s _ hs0).mono ?_
    rintro e w' ⟨rfl, rfl⟩
    rw [Hp.out]
    go_wp2_with fail
    go_ret2
    exact H.out
  have Hb4 := Lib.hid (show bs.length ≤ 4000 by omega)
  have Hbl := Lib.hid hbl
  obtain ⟨i0, hi0, hz0, hz1, hz2⟩ := info_parts Try.infoV
  have hrd : RD (w.alloc (.cells #[.slice A n cap] 163)) w.heap.size w.heap.size bs := ⟨Nat.le_refl _, A, n, cap, CB.new _ _ _, hb.below ((Below.refl _ w).alloc (Nat.le_refl _) _) (Nat.le_refl _)⟩
  obtain ⟨w1, hrun, hseg1, hg1⟩ := run_make_seg (P := Try.prog) (w.alloc (.cells #[.slice A n cap] 163)) 123 142 i0 _ 2 Try.underlying123 hi0 hz0 hz1 s.size (by rw [hz2]; omega) hs0
  have hb01 : Below w.heap.size w w1 := ((Below.refl _ w).alloc (Nat.le_refl _) _).trans (grown_below hg1 (by simp) (fun g e => by cases e))
  have hrd1 : RD w1 w.heap.size w.heap.size bs := hrd.below (grown_below hg1 (Nat.le_refl _) (fun g e => by cases e)) (Nat.le_refl _)
  rw [show (w.alloc (.cells #[.slice A n cap] 163)).heap.size = w.heap.size + 1 by simp] at hseg1 hrun
  have Hi := Lib.hid hi0
  have Hz := Lib.hid hz0
  have Hz1 := Lib.hid hz1
  have Hz2 := Lib.hid hz2
  clear hi0 hz0 hz1 hz2 hbl hbn hb hrd hg1
  go_enter Try.func61, Try.ntmps61
  go_wp2_with fail
  refine (proper_c s _ hs0).mono ?_
  rintro e w' ⟨rfl, rfl⟩
  rw [Hp.out]
  go_wp2_with fail
  clear hrun
  go_loopw [7, 25] (fun b i wr => ∃ (k : Nat) (A' : Option Addr) (n' c' : Nat) (G' : Option Nat) (l : List CV) (r : List UInt8), k ≤ s.size ∧ i = .int .i64 k ∧ b = .slice A' n' c' ∧ n' ≤ k ∧ Seg wr 142 2 A' n' c' (vc l) G' ∧ (∀ g, G' = some g → w.heap.size < g) ∧ RD wr w.heap.size w.heap.size r ∧ Hid (decs ((bl s).take k) bs = some (l, r)) ∧ okV l ∧ Below w.heap.size w wr) (fun _ i _ => s.size - (intOf i).toNat)
  case atStart => exact ⟨0, _, 0, _, _, [], bs, by omega, rfl, rfl, by omega, by simpa [vc] using hseg1, (fun g e => by cases e; omega), hrd1, rfl, (fun v hv => by simp at hv), hb01⟩
  case round =>
    clear hseg1 hrd1 hb01
    obtain ⟨k, A', n', c', G', l, r, hk, rfl, rfl, hn', hs', hG', hrd, Hd, hok, hbw⟩ := hrel
    by_cases hlt : k < s.size
    · have Hg := Lib.hid (bl_get s k hlt)
      go_wp2_with fail
      refine (value_any w.heap.size w.heap.size s[k] r _ hrd).mono ?_
      rintro e w2 ⟨v, ok, r2, hS, rfl, hr2, hg2⟩
      have hb2 : Below w.heap.size w w2 := hbw.trans (grown_below hg2 hbw.size (fun g e => by cases e; exact Nat.le_refl _))
      have hsz2 := hg2.size
      rcases hS with ⟨rfl, hv⟩ | ⟨rfl, hv⟩
      · have hs2 := hs'.keep (w' := w2) (fun g hg => hg2.block g (hs'.lt g hg) (by have := hG' g hg; simp; omega))
        obtain ⟨v1, v2⟩ := decV_ok hv
        have Hd2 := Lib.hid (decs_snoc Hg.out Hd.out hv)
        have hok2 := hok.snoc v1 (v := v) (by simp only [maxLen]; omega)
        have hs3 := (hs2.alloc (.cells #[.int .u64 v.n, .string v.s] 142)).alloc (.cells #[.int .u64 v.n, .string v.s] 142)
        have hr3 := (hr2.alloc (.cells #[.int .u64 v.n, .string v.s] 142)).alloc (.cells #[.int .u64 v.n, .string v.s] 142)
        have hb3 := (hb2.alloc hb2.size (.cells #[.int .u64 v.n, .string v.s] 142)).alloc (by simp; have := hb2.size; omega) (.cells #[.int .u64 v.n, .string v.s] 142)
        have hsrc := src2 (w2.alloc (.cells #[.int .u64 v.n, .string v.s] 142)) 142 v
        rw [show (w2.alloc (.cells #[.int .u64 v.n, .string v.s] 142)).heap.size = w2.heap.size + 1 by simp] at hsrc
        have p1 : n' + 1 ≤ maxLen := by simp only [maxLen]; omega
        have p2 : (n' + 1) * 24 ≤ 140737488355328 := by omega
        have p4 : 0 < 2 := by omega
        clear hv hs' hs2 hr2 hb2 hg2 hrd Hd hok hbw Hg
        go_wp2_with (at_builtin; refine wpList_append_src _ rfl (.tmp 38) (.tmp 40) _ rfl 142 i0 _ 2 24 Try.underlying123 Hi.out Hz.out Hz1.out Hz2.out rfl p4 rfl hs3 rfl hsrc (vc_one _) p1 p2 ?_)
        intro A6 c6 G6 w6 hs6 hg6 hm6
        rw [← vc_append] at hs6
        have hr6 := hr3.grown hg6 hG'
        have hb6 : Below w.heap.size w w6 := hb3.trans (grown_below hg6 hb3.size (fun g e => by have := hG' g e; omega))
        have hG6 : ∀ g, G6 = some g → w.heap.size < g := by
          have z : w.heap.size + 1 ≤ ((w2.alloc (.cells #[.int .u64 v.n, .string v.s] 142)).alloc (.cells #[.int .u64 v.n, .string v.s] 142)).heap.size := by have := hr3.lt; omega
          intro g e
          have := Moved.ge hm6 z (fun g e => hG' g e) g e
          omega
        clear hs3 hr3 hb3 hg6 hm6 hG' hsrc p1 p2
        go_wp2_with fail
        go_roundw
        case rel => exact ⟨k + 1, A6, n' + 1, c6, G6, l ++ [v], r2, by omega, by go_num, rfl, by omega, hs6, hG6, hr6, Hd2, hok2, hb6⟩
        case measure => simp [intOf]; omega
      · have hno := eD_no (b := bs) Hp.out (by unfold okD; rw [if_pos Hb4.out, decs_stop Hg.out Hd.out hv])
        have H := Lib.hid (dpost_nil (w := w) (w' := w2.alloc (.cells #[.int .u64 v.n, .string v.s] 142)) hno.1 hno.2 (hb2.alloc hb2.size _))
        clear hno hv hs' hr2 hb2 hg2 hrd Hd hok hbw Hg
        go_wp2_with fail
        go_ret2
        exact H.out
    · obtain rfl : k = s.size := by omega
      rw [List.take_of_length_le (by rw [Hbl.out]; exact Nat.le_refl _)] at Hd
      obtain ⟨hz, Ar, nr, cr, hcbr, hbr⟩ := hrd
      have c0 := hcbr.cell 0
      simp at c0
      have hrl := hbr.1
      have hrm : nr ≤ 9223372036854775807 := by have h1 := hbr.2.1; have h2 := hbr.2.2.1; simp only [maxLen] at h2; omega
      by_cases hr0 : nr = 0
      · subst hr0
        obtain rfl : r = [] := List.eq_nil_of_length_eq_zero hrl
        have hyes := eD_yes (b := bs) (l := l) Hp.out (by unfold okD; rw [if_pos Hb4.out, Hd.out])
        have H := Lib.hid (show DPost w (lD (bl s) bs) (eD (bl s) bs) (.returned (.tuple #[.slice A' n' c', .int .i64 ((0 : Nat) : Int)])) wr by
          rw [hyes.1, hyes.2]
          obtain ⟨h1, h2⟩ := VR.of_seg hs' hok
          subst h1
          exact ⟨A', c', rfl, h2, hok, hbw⟩)
        clear hyes hs' hbr hcbr hrl hok hbw Hd
        go_wp2_with fail
        go_ret2
        exact H.out
      · have hno := eD_no (b := bs) Hp.out (by
          unfold okD
          rw [if_pos Hb4.out, Hd.out]
          cases r with
          | nil => exact absurd hrl.symm hr0
          | cons a q => rfl)
        have H := Lib.hid (dpost_nil (w := w) (w' := wr) hno.1 hno.2 hbw)
        have hr1 : (0 : Int) < (nr : Int) := by omega
        clear hno hs' hbr hcbr hrl hok hbw Hd hr0
        go_wp2_with fail
        go_ret2
        exact H.out
end Go.Proofs.Ytcfdfimkgehdfaa.Dk
