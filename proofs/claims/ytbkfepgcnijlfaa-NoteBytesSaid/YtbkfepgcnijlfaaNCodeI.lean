/-
  value and Decode of the document's answer for layer 2. Conditions: the shape is such as memory can hold, the bytes can be read.
-/
import Derived.Test.YtbkfepgcnijlfaaNCodeH
namespace Go.Proofs.Ytbkfepgcnijlfaa.Dk
set_option maxRecDepth 100000
open Go.RowKit

theorem val_next {bs : List UInt8} {a j : Nat} {b : UInt8} (hb : bs[a + j]? = some b) : val ((bs.drop a).take (j + 1)) = val ((bs.drop a).take j) * 256 + b.toNat := by
  have h : (bs.drop a)[j]? = some b := by rw [List.getElem?_drop]; exact hb
  obtain ⟨h1, h2⟩ := List.getElem?_eq_some_iff.1 h
  rw [List.take_succ_eq_append_getElem h1, val_snoc, h2]

set_option maxHeartbeats 400000 in
theorem value_r (B : Nat) (A : Option Addr) (n c : Nat) (bs : List UInt8) (a k : Nat) (w : World) (hb : BR w B A n c bs) (hk : k ≤ 8) (ha : a ≤ 1000000000) :
    Calls Try.prog 47 #[.slice A n c, .int .i64 a, .int .i64 k] w fun e w' => e = .returned (.int .u64 ((val ((bs.drop a).take k) : Nat) : Int)) ∧ w = w' := by
  have hbn := Lib.hid hb.1
  have hnm : n ≤ 9223372036854775807 := by have h1 := hb.2.1; have h2 := hb.2.2.1; simp only [maxLen] at h2; omega
  obtain ⟨q0, Hq0⟩ : ∃ q0, Hid (val ((bs.drop a).take k) = q0) := ⟨_, rfl⟩
  rw [Hq0.out]
  go_enter Try.func47, Try.ntmps47
  go_wp2
  go_loop [7, 8] (fun m i => ∃ j q : Nat, j ≤ k ∧ i = .int .i64 ((a + j : Nat) : Int) ∧ m = .int .u64 q ∧ Hid (q = val ((bs.drop a).take j))) (fun _ i => a + k - (intOf i).toNat)
  case atStart => exact ⟨0, 0, by omega, by simp, rfl, rfl⟩
  case round =>
    obtain ⟨j, q, hj, rfl, rfl, Hq⟩ := hrel
    by_cases hjk : j < k
    · by_cases hlt : a + j < n
      · obtain ⟨g, off, b, rfl, hgB, Hb, cb⟩ := hb.at_ hlt
        have HV := Lib.hid (val_next Hb.out)
        have h64 := val_lt64 ((bs.drop a).take (j + 1)) (by rw [List.length_take]; omega)
        have hq64 : q * 256 + b.toNat < 18446744073709551616 := by rw [Hq.out, ← HV.out]; exact h64
        have hb8 : b.toNat < 256 := b.toNat_lt
        clear h64
        have hlt1 : ((a + j : Nat) : Int) < ((a + k : Nat) : Int) := by omega
        have hlt2 : ((a + j : Nat) : Int) < (n : Int) := by omega
        go_wp2_with fail
        go_round
        case rel => exact ⟨j + 1, q * 256 + b.toNat, by omega, by go_num, by go_num, show _ = _ by rw [HV.out, Hq.out]⟩
        case measure => simp [intOf]; omega
      · have hlt1 : ((a + j : Nat) : Int) < ((a + k : Nat) : Int) := by omega
        have hlt2 : ¬ ((a + j : Nat) : Int) < (n : Int) := by omega
        have HQ := Lib.hid (show q = q0 by
          rw [Hq.out, ← Hq0.out, List.take_of_length_le (by rw [List.length_drop, hbn.out]; omega), List.take_of_length_le (by rw [List.length_drop, hbn.out]; omega)])
        rw [HQ.out]
        go_wp2_with fail
        go_ret
        exact ⟨rfl, rfl⟩
    · obtain rfl : j = k := by omega
      have HQ := Lib.hid (show q = q0 by rw [Hq.out, ← Hq0.out])
      rw [HQ.out]
      go_wp2_with fail
      go_ret
      exact ⟨rfl, rfl⟩

def lenR : List UInt8 → List UInt8 → List UInt8
  | [], b => b
  | c :: cs, b => lenR cs (lenV c b).2
theorem lens_append (s1 s2 : List UInt8) : ∀ b, lens (s1 ++ s2) b = lens s1 b ++ lens s2 (lenR s1 b) := by
  induction s1 with
  | nil => intro b; rfl
  | cons c cs ih => intro b; simp only [List.cons_append, lens, lenR, ih]
theorem lenR_append (s1 s2 : List UInt8) : ∀ b, lenR (s1 ++ s2) b = lenR s2 (lenR s1 b) := by
  induction s1 with
  | nil => intro b; rfl
  | cons c cs ih => intro b; simp only [List.cons_append, lenR, ih]
theorem lens_snoc {sh bs : List UInt8} {k a : Nat} {c : UInt8} {l : List CV} {v : CV} {r : List UInt8} (hc : sh[k]? = some c) (h1 : lens (sh.take k) bs = l) (h2 : lenR (sh.take k) bs = bs.drop a) (hv : lenV c (bs.drop a) = (v, r)) :
    lens (sh.take (k + 1)) bs = l ++ [v] ∧ lenR (sh.take (k + 1)) bs = r := by
  obtain ⟨h3, rfl⟩ := List.getElem?_eq_some_iff.1 hc
  rw [List.take_succ_eq_append_getElem h3, lens_append, lenR_append, h1, h2]
  simp only [lens, lenR, hv, and_self]

theorem sub_br {w : World} {B : Nat} {A : Option Addr} {n c : Nat} {bs : List UInt8} (h : BR w B A n c bs) (lo hi : Nat) (h1 : lo ≤ hi) (h2 : hi ≤ n) :
    ∃ A1 m c1, (∀ W, (Instr.slice 26 (.slice A n c) (some (.int .i64 lo)) (some (.int .i64 hi)) none).run Try.prog W = .ok (.slice A1 m c1) W) ∧ (convert 26 9 (.slice A1 m c1)).run Try.prog w = .ok (.string (mkS ((bs.drop lo).take (hi - lo)))) w := by
  have hnc := h.2.1
  exact ⟨_, _, _, fun W => run_cut_both (P := Try.prog) 26 5 Try.underlying26 1 Try.sizeB A n c lo hi h1 (by omega) W, conv_br ((h.cut (k := lo) (by omega)).upto (k := hi - lo) (by omega))⟩
theorem sub_eq {bs : List UInt8} {n a q F H : Nat} (hn : bs.length = n) (hF : F = min (a + 2) n) (hH : H = min (F + q) n) : (bs.drop F).take (H - F) = ((bs.drop a).drop 2).take q := by
  rw [List.drop_drop]
  by_cases h : a + 2 ≤ n
  · obtain rfl : F = a + 2 := by omega
    by_cases h2 : a + 2 + q ≤ n
    · rw [show H - (a + 2) = q by omega]
    · rw [List.take_of_length_le (by rw [List.length_drop]; omega), List.take_of_length_le (by rw [List.length_drop]; omega)]
  · obtain rfl : F = n := by omega
    rw [List.drop_eq_nil_of_le (by omega), List.drop_eq_nil_of_le (by omega)]
    simp

theorem Try.infoW : (Try.prog.info? 58).map (fun i => (i.zero, i.size, i.bytes)) = some (some (.agg #[.int .u64 0, .string ⟨#[]⟩]), 2, 24) := by kernel_rfl

set_option maxRecDepth 100000 in
set_option maxHeartbeats 1000000 in
theorem decode_r (s : ByteArray) (A : Option Addr) (n cap : Nat) (bs : List UInt8) (w : World) (hs : s.size ≤ maxLen) (hb : BR w w.heap.size A n cap bs) (hn5 : n ≤ 5000) :
    Calls Try.prog 28 #[.string s, .slice A n cap] w (DPost w (lD (bl s) bs) (eD (bl s) bs)) := by
  have hs0 := hs
  unfold maxLen at hs
  have hbl := bl_length s
  have hbn := hb.1
  by_cases hp : properB (bl s) = false
  · have H := Lib.hid (dpost_nil (w := w) (w' := w) (eD_bad (b := bs) hp).1 (eD_bad (b := bs) hp).2 (Below.refl _ _))
    have Hp := Lib.hid hp
    clear hp hbl
    go_enter Try.func28, Try.ntmps28
    go_wp2_with fail
    refine (shape_r s _ hs0).mono ?_
    rintro e w' ⟨rfl, rfl⟩
    rw [Hp.out]
    go_wp2_with fail
    go_ret2
    exact H.out
  have hp' : properB (bl s) = true := by simpa using hp
  have hp100 : s.size ≤ 100 := by
    unfold properB at hp'
    simp only [Bool.and_eq_true, decide_eq_true_eq] at hp'
    omega
  have Hp := Lib.hid hp'
  have hlet : ∀ (k : Nat) (c : UInt8), (bl s)[k]? = some c → 0 < wd c := by
    intro k c hc
    unfold properB at hp'
    simp only [Bool.and_eq_true] at hp'
    have := List.all_eq_true.1 hp'.2 c (List.mem_of_getElem? hc)
    unfold letB at this
    simp only [bne_iff_ne] at this
    omega
  clear hp hp'
  have Hbl := Lib.hid hbl
  have Hlet := Lib.hid hlet
  have Hbn := Lib.hid hbn
  obtain ⟨i0, hi0, hz0, hz1, hz2⟩ := info_parts Try.infoW
  have Hi := Lib.hid hi0
  have Hz := Lib.hid hz0
  have Hz1 := Lib.hid hz1
  have Hz2 := Lib.hid hz2
  clear hi0 hz0 hz1 hz2 hbl hbn hlet
  go_enter Try.func28, Try.ntmps28
  go_wp2_with fail
  refine (shape_r s _ hs0).mono ?_
  rintro e w' ⟨rfl, rfl⟩
  rw [Hp.out]
  go_wp2_with fail
  go_loopw [6, 7, 8] (fun b at_ i wr => ∃ (k a : Nat) (A' : Option Addr) (n' c' : Nat) (G' : Option Nat) (l : List CV), k ≤ s.size ∧ i = .int .i64 k ∧ at_ = .int .i64 a ∧ a ≤ 70000 * k ∧ b = .slice A' n' c' ∧ n' ≤ k ∧ Seg wr 58 2 A' n' c' (vc l) G' ∧ (∀ g, G' = some g → w.heap.size ≤ g) ∧ Hid (lens ((bl s).take k) bs = l) ∧ Hid (lenR ((bl s).take k) bs = bs.drop a) ∧ okV l ∧ Below w.heap.size w wr) (fun _ _ i _ => s.size - (intOf i).toNat)
  case atStart => exact ⟨0, 0, none, 0, 0, none, [], by omega, rfl, rfl, by omega, rfl, by omega, by simpa [vc] using Seg.nil w _ _, (fun g e => by cases e), rfl, rfl, (fun v hv => by simp at hv), Below.refl _ _⟩
  case round =>
    obtain ⟨k, a, A', n', c', G', l, hk, rfl, rfl, ha, rfl, hn', hs', hG', Hl, Hr, hok, hbw⟩ := hrel
    have hbr := hb.below hbw (Nat.le_refl _)
    by_cases hlt : k < s.size
    · have Hg := Lib.hid (bl_get s k hlt)
      have p1 : n' + 1 ≤ maxLen := by simp only [maxLen]; omega
      have p2 : (n' + 1) * 24 ≤ 140737488355328 := by omega
      have p4 : 0 < 2 := by omega
      have hw0 := Hlet.out k _ Hg.out
      by_cases hc : s[k] = 116
      · have Hw := Lib.hid (show wrf s[k] = 0 by rw [hc]; rfl)
        have HL := Lib.hid (show lenV s[k] (bs.drop a) = (⟨0, mkS (((bs.drop a).drop 2).take (val ((bs.drop a).take 2)))⟩, (bs.drop a).drop (2 + val ((bs.drop a).take 2))) from if_pos hc)
        clear hc
        obtain ⟨q, Hq⟩ : ∃ q, Hid (val ((bs.drop a).take 2) = q) := ⟨_, rfl⟩
        have hq : q < 65536 := by
          have h1 := val_lt ((bs.drop a).take 2)
          have h2 : 256 ^ ((bs.drop a).take 2).length ≤ 256 ^ 2 := Nat.pow_le_pow_right (by omega) (by rw [List.length_take]; omega)
          rw [Hq.out] at h1
          omega
        rw [Hq.out] at HL
        obtain ⟨tx, Htx⟩ : ∃ tx, Hid (((bs.drop a).drop 2).take q = tx) := ⟨_, rfl⟩
        rw [Htx.out] at HL
        have htl : tx.length < 65536 := by
          rw [← Htx.out, List.length_take]
          omega
        have hok2 := hok.snoc (v := ⟨0, mkS tx⟩) (show (0 : Nat) < 18446744073709551616 by decide) (by rw [mkS_size]; simp only [maxLen]; omega)
        have HL2 := Lib.hid (lens_snoc Hg.out Hl.out Hr.out HL.out)
        rw [List.drop_drop] at HL2
        have hs3 := hs'.alloc (.cells #[.int .u64 0, .string (mkS tx)] 58)
        have hsrc : Src (wr.alloc (.cells #[.int .u64 0, .string (mkS tx)] 58)) 2 _ 1 _ := src2 wr 58 ⟨0, mkS tx⟩
        have hb3 := hbw.alloc hbw.size (.cells #[.int .u64 0, .string (mkS tx)] 58)
        go_wp2_with fail
        refine (width_r s[k] _).mono ?_
        rintro e w' ⟨rfl, rfl⟩
        rw [Hw.out]
        go_wp2_with fail
        refine (value_r _ _ _ _ bs a 2 _ hbr (by omega) (by omega)).mono ?_
        rintro e w' ⟨rfl, rfl⟩
        rw [Hq.out]
        by_cases hn1 : (n : Int) < (a : Int) + 2
        · by_cases hq0 : q = 0
          · have hq1 : ¬ (n : Int) < (n : Int) + (q : Int) := by omega
            obtain ⟨A1, m1, c1, hcut, hcv⟩ := sub_br hbr (n) (n + q) (by omega) (by omega)
            rw [sub_eq (q := q) (a := a) Hbn.out (by omega) (by omega), Htx.out] at hcv
            rw [show ((n + q : Nat) : Int) = (n : Int) + (q : Int) by omega] at hcut
            clear hq0
            go_wp2_with (at_builtin; refine wpList_append_src _ rfl (.tmp 49) (.tmp 61) _ rfl 58 i0 _ 2 24 Try.underlying55 Hi.out Hz.out Hz1.out Hz2.out rfl p4 rfl hs3 rfl hsrc (vc_one _) p1 p2 ?_)
            intro A6 c6 G6 w6 hs6 hg6 hm6
            rw [← vc_append] at hs6
            have hb6 : Below w.heap.size w w6 := hb3.trans (grown_below hg6 hb3.size hG')
            have hG6 := Moved.ge hm6 hb3.size hG'
            clear hs3 hsrc hb3 hg6 hm6 hbr hs' hG' hbw Hl Hr hok hcut hcv
            go_wp2_with fail
            go_roundw
            case rel => exact ⟨k + 1, a + (2 + q), A6, n' + 1, c6, G6, l ++ [⟨0, mkS tx⟩], by omega, by go_num, by go_num, by omega, rfl, by omega, hs6, hG6, Lib.hid HL2.out.1, Lib.hid HL2.out.2, hok2, hb6⟩
            case measure => simp [intOf]; omega
          · have hq1 : (n : Int) < (n : Int) + (q : Int) := by omega
            obtain ⟨A1, m1, c1, hcut, hcv⟩ := sub_br hbr (n) (n) (by omega) (by omega)
            rw [sub_eq (q := q) (a := a) Hbn.out (by omega) (by omega), Htx.out] at hcv
            go_wp2_with (at_builtin; refine wpList_append_src _ rfl (.tmp 49) (.tmp 61) _ rfl 58 i0 _ 2 24 Try.underlying55 Hi.out Hz.out Hz1.out Hz2.out rfl p4 rfl hs3 rfl hsrc (vc_one _) p1 p2 ?_)
            intro A6 c6 G6 w6 hs6 hg6 hm6
            rw [← vc_append] at hs6
            have hb6 : Below w.heap.size w w6 := hb3.trans (grown_below hg6 hb3.size hG')
            have hG6 := Moved.ge hm6 hb3.size hG'
            clear hs3 hsrc hb3 hg6 hm6 hbr hs' hG' hbw Hl Hr hok hcut hcv
            go_wp2_with fail
            go_roundw
            case rel => exact ⟨k + 1, a + (2 + q), A6, n' + 1, c6, G6, l ++ [⟨0, mkS tx⟩], by omega, by go_num, by go_num, by omega, rfl, by omega, hs6, hG6, Lib.hid HL2.out.1, Lib.hid HL2.out.2, hok2, hb6⟩
            case measure => simp [intOf]; omega
        · by_cases hn2 : (n : Int) < (a : Int) + 2 + (q : Int)
          · have hz : 0 = 0 := rfl
            obtain ⟨A1, m1, c1, hcut, hcv⟩ := sub_br hbr (a + 2) (n) (by omega) (by omega)
            rw [sub_eq (q := q) (a := a) Hbn.out (by omega) (by omega), Htx.out] at hcv
            rw [show ((a + 2 : Nat) : Int) = (a : Int) + 2 by omega] at hcut
            go_wp2_with (at_builtin; refine wpList_append_src _ rfl (.tmp 49) (.tmp 61) _ rfl 58 i0 _ 2 24 Try.underlying55 Hi.out Hz.out Hz1.out Hz2.out rfl p4 rfl hs3 rfl hsrc (vc_one _) p1 p2 ?_)
            intro A6 c6 G6 w6 hs6 hg6 hm6
            rw [← vc_append] at hs6
            have hb6 : Below w.heap.size w w6 := hb3.trans (grown_below hg6 hb3.size hG')
            have hG6 := Moved.ge hm6 hb3.size hG'
            clear hs3 hsrc hb3 hg6 hm6 hbr hs' hG' hbw Hl Hr hok hcut hcv
            go_wp2_with fail
            go_roundw
            case rel => exact ⟨k + 1, a + (2 + q), A6, n' + 1, c6, G6, l ++ [⟨0, mkS tx⟩], by omega, by go_num, by go_num, by omega, rfl, by omega, hs6, hG6, Lib.hid HL2.out.1, Lib.hid HL2.out.2, hok2, hb6⟩
            case measure => simp [intOf]; omega
          · have hz : 0 = 0 := rfl
            obtain ⟨A1, m1, c1, hcut, hcv⟩ := sub_br hbr (a + 2) (a + 2 + q) (by omega) (by omega)
            rw [sub_eq (q := q) (a := a) Hbn.out (by omega) (by omega), Htx.out] at hcv
            rw [show ((a + 2 : Nat) : Int) = (a : Int) + 2 by omega, show ((a + 2 + q : Nat) : Int) = (a : Int) + 2 + (q : Int) by omega] at hcut
            go_wp2_with (at_builtin; refine wpList_append_src _ rfl (.tmp 49) (.tmp 61) _ rfl 58 i0 _ 2 24 Try.underlying55 Hi.out Hz.out Hz1.out Hz2.out rfl p4 rfl hs3 rfl hsrc (vc_one _) p1 p2 ?_)
            intro A6 c6 G6 w6 hs6 hg6 hm6
            rw [← vc_append] at hs6
            have hb6 : Below w.heap.size w w6 := hb3.trans (grown_below hg6 hb3.size hG')
            have hG6 := Moved.ge hm6 hb3.size hG'
            clear hs3 hsrc hb3 hg6 hm6 hbr hs' hG' hbw Hl Hr hok hcut hcv
            go_wp2_with fail
            go_roundw
            case rel => exact ⟨k + 1, a + (2 + q), A6, n' + 1, c6, G6, l ++ [⟨0, mkS tx⟩], by omega, by go_num, by go_num, by omega, rfl, by omega, hs6, hG6, Lib.hid HL2.out.1, Lib.hid HL2.out.2, hok2, hb6⟩
            case measure => simp [intOf]; omega
      · have Hw := Lib.hid (wr_ne hc)
        have HL := Lib.hid (show lenV s[k] (bs.drop a) = (⟨val ((bs.drop a).take (wd s[k])), mkS []⟩, (bs.drop a).drop (wd s[k])) from if_neg hc)
        have hw8 := wd_le s[k]
        clear hc
        obtain ⟨q, Hq⟩ : ∃ q, Hid (val ((bs.drop a).take (wd s[k])) = q) := ⟨_, Lib.hid rfl⟩
        have hq : q < 18446744073709551616 := by rw [← Hq.out]; exact val_lt64 _ (by rw [List.length_take]; omega)
        rw [Hq.out] at HL
        have hok2 := hok.snoc (v := ⟨q, mkS []⟩) hq (by rw [mkS_size]; exact Nat.zero_le _)
        have HL2 := Lib.hid (lens_snoc Hg.out Hl.out Hr.out HL.out)
        rw [List.drop_drop] at HL2
        go_wp2_with fail
        refine (width_r s[k] _).mono ?_
        rintro e w' ⟨rfl, rfl⟩
        rw [Hw.out]
        have hw0' : (0 : Int) < (wd s[k] : Int) := by omega
        go_wp2_with fail
        refine (value_r _ _ _ _ bs a (wd s[k]) _ hbr hw8 (by omega)).mono ?_
        rintro e w' ⟨rfl, rfl⟩
        rw [Hq.out]
        have hs3 := hs'.alloc (.cells #[.int .u64 q, .string (mkS [])] 58)
        have hsrc := src2 wr 58 ⟨q, mkS []⟩
        have hb3 := hbw.alloc hbw.size (.cells #[.int .u64 q, .string (mkS [])] 58)
        go_wp2_with (at_builtin; refine wpList_append_src _ rfl (.tmp 29) (.tmp 35) _ rfl 58 i0 _ 2 24 Try.underlying55 Hi.out Hz.out Hz1.out Hz2.out rfl p4 rfl hs3 rfl hsrc (vc_one _) p1 p2 ?_)
        intro A6 c6 G6 w6 hs6 hg6 hm6
        rw [← vc_append] at hs6
        have hb6 : Below w.heap.size w w6 := hb3.trans (grown_below hg6 hb3.size hG')
        have hG6 := Moved.ge hm6 hb3.size hG'
        clear hs3 hsrc hb3 hg6 hm6 hbr hs' hG' hbw HL Hl Hr hok
        go_wp2_with fail
        go_roundw
        case rel => exact ⟨k + 1, a + wd s[k], A6, n' + 1, c6, G6, l ++ [⟨q, mkS []⟩], by omega, by go_num, by go_num, by omega, rfl, by omega, hs6, hG6, Lib.hid HL2.out.1, Lib.hid HL2.out.2, hok2, hb6⟩
        case measure => simp [intOf]; omega
    · obtain rfl : k = s.size := by omega
      rw [List.take_of_length_le (by rw [Hbl.out]; exact Nat.le_refl _)] at Hl
      obtain ⟨h1, hvr⟩ := VR.of_seg hs' hok
      have Hn := Lib.hid h1
      clear h1
      go_wp2_with fail
      rw [Hn.out]
      refine (encode_r s A' c' l _ hs0 hvr).mono ?_
      rintro e w2 ⟨A2, n2, c2, G2, rfl, hs2, hb2⟩
      have hcv1 := conv_br (BR.of_seg hs2)
      have hcv2 := conv_br (hbr.below (hb2.mono hbw.size) (Nat.le_refl _))
      have hb02 : Below w.heap.size w w2 := hbw.trans (hb2.mono hbw.size)
      have hvr2 := hvr.below hb2 (Nat.le_refl _)
      have hdl := okD_lens (bl s) bs Hp.out
      rw [Hl.out] at hdl
      by_cases he : eE (bl s) l = 0
      · have HE := Lib.hid he
        have HB := Lib.hid (show bE (bl s) l = enc (bl s) l by unfold bE; rw [if_pos he])
        rw [HB.out] at hcv1
        by_cases hbe : enc (bl s) l = bs
        · have hyes := eD_yes (b := bs) (l := l) Hp.out (by
            rcases hdl with h | h
            · exact h.2.2
            · exact absurd ⟨he, hbe⟩ h.1)
          have H := Lib.hid (show DPost w (lD (bl s) bs) (eD (bl s) bs) (.returned (.tuple #[.slice A' l.length c', .int .i64 ((0 : Nat) : Int)])) w2 by
            rw [hyes.1, hyes.2]
            exact ⟨A', c', rfl, hvr2, hok, hb02⟩)
          rw [hbe] at hcv1
          rw [he]
          have hee : ((mkS bs).toList == (mkS bs).toList) = true := beq_self_eq_true _
          clear hyes hdl he hbe hs' hvr hvr2 hb02 hb2 hs2 hok hbw HE HB hb hbr
          go_wp2_with fail
          go_ret2
          exact H.out
        · have hno := eD_no (b := bs) Hp.out (by
            rcases hdl with h | h
            · exact absurd h.2.1 hbe
            · exact h.2)
          have H := Lib.hid (dpost_nil (w := w) (w' := w2) hno.1 hno.2 hb02)
          rw [he]
          have hee : ((mkS (enc (bl s) l)).toList == (mkS bs).toList) = false := by
            rw [tl_bl, tl_bl, bl_mkS, bl_mkS, beq_eq_false_iff_ne]
            exact hbe
          generalize enc (bl s) l = en at *
          clear hno hdl he hbe hs' hvr hvr2 hb02 hb2 hs2 hok hbw HE HB hb hbr
          go_wp2_with fail
          go_ret2
          exact H.out
      · have hno := eD_no (b := bs) Hp.out (by
          rcases hdl with h | h
          · exact absurd h.1 he
          · exact h.2)
        have H := Lib.hid (dpost_nil (w := w) (w' := w2) hno.1 hno.2 hb02)
        have hee : ((eE (bl s) l : Int) != 0) = true := by rw [bne_iff_ne]; omega
        clear hno hdl he hs' hvr hvr2 hb02 hb2 hs2 hok hbw hb hbr
        go_wp2_with fail
        go_ret2
        exact H.out
end Go.Proofs.Ytbkfepgcnijlfaa.Dk
