/-
  The reader of package code: take, number, text and value. Conditions: the reader's struct is a block of its own, the bytes that it reads lie below it.
-/
import Derived.Test.YtcfdfimkgehdfaaDzCode
namespace Go.Proofs.Ytcfdfimkgehdfaa.Dz
set_option maxRecDepth 100000
open Go.RowKit


/-- A reader: its struct is block rb, what is left of its bytes lies below B. -/
def RD (w : World) (B rb : Nat) (bs : List UInt8) : Prop := B ≤ rb ∧ ∃ A n c, CB w rb 163 #[.slice A n c] ∧ BR w B A n c bs

def TPostC (w : World) (B rb k : Nat) (bs : List UInt8) (e : Ending) (w' : World) : Prop :=
  ∃ A c, e = .returned (.tuple #[.slice A k c, .bool true]) ∧ BR w' B A k c (bs.take k) ∧ RD w' B rb (bs.drop k) ∧ w.grownBy w' (some rb)

theorem take_no (B rb k : Nat) (bs : List UInt8) (w : World) (hr : RD w B rb bs) (h : bs.length < k) :
    Calls Try.prog 89 #[.pointer (some ⟨rb, 0, none⟩), .int .i64 k] w fun e w' => e = .returned (.tuple #[.slice none 0 0, .bool false]) ∧ w = w' := by
  obtain ⟨hB, A, n, c, hcb, hbr⟩ := hr
  have h1 : (n : Int) < (k : Int) := by have := hbr.1; omega
  have c0 := hcb.cell 0
  simp at c0
  clear hcb hbr h
  go_enter Try.func89, Try.ntmps89
  go_wp2
  go_ret2
  exact ⟨rfl, rfl⟩

theorem take_ok (B rb k : Nat) (bs : List UInt8) (w : World) (hr : RD w B rb bs) (h : k ≤ bs.length) :
    Calls Try.prog 89 #[.pointer (some ⟨rb, 0, none⟩), .int .i64 k] w (TPostC w B rb k bs) := by
  obtain ⟨hB, A, n, c, hcb, hbr⟩ := hr
  have hn := hbr.1
  have hnc := hbr.2.1
  have hcm := hbr.2.2.1
  simp only [maxLen] at hcm
  have h1 : ¬ (n : Int) < (k : Int) := by omega
  have c0 := hcb.cell 0
  have f0 := hcb.frozen 0
  simp at c0
  have hcut1 : ∀ W, (Instr.slice 30 (.slice A n c) (some (.int .i64 k)) none none).run Try.prog W = _ := fun W => run_cut_from (P := Try.prog) 30 5 Try.underlying30 1 Try.sizeB A n c k (by omega) W
  have hcut2 : ∀ W, (Instr.slice 30 (.slice A n c) none (some (.int .i64 k)) none).run Try.prog W = _ := fun W => run_cut_upto (P := Try.prog) 30 5 Try.underlying30 1 Try.sizeB A n c k (by omega) W
  have hc := hbr.cut (k := k) (by omega)
  have hu := hbr.upto (k := k) (by omega)
  generalize hA1 : (if c = k then A else A.map (fun x : Addr => x.add (k * 1))) = A1 at hcut1 hc
  have hend : TPostC w B rb k bs (.returned (.tuple #[.slice A k c, .bool true])) (w.setCell ⟨rb, 0, none⟩ (.slice A1 (n - k) (c - k))) :=
    ⟨A, c, rfl, hu.keep (fun g hg => Below.heap_setCell w _ _ g (by simp only; omega)), ⟨hB, A1, n - k, c - k, by simpa using hcb.put 0 (.slice A1 (n - k) (c - k)), hc.keep (fun g hg => Below.heap_setCell w _ _ g (by simp only; omega))⟩, grown_put (World.grownBy.refl w _) 0 _⟩
  have H := Lib.hid hend
  clear hend hc hu hbr hcb hA1 hn h
  go_enter Try.func89, Try.ntmps89
  go_wp2
  go_ret2
  exact H.out

/-- A call of the reader gave a value back. -/
def NPost (w : World) (B rb : Nat) (v : CV) (ok : Bool) (rest : List UInt8) (e : Ending) (w' : World) : Prop :=
  e = .returned (.tuple #[.agg #[.int .u64 v.n, .string v.s], .bool ok]) ∧ RD w' B rb rest ∧ w.grownBy w' (some rb)

theorem RD.lt {w : World} {B rb : Nat} {bs : List UInt8} (h : RD w B rb bs) : rb < w.heap.size := by
  obtain ⟨_, A, n, c, hcb, _⟩ := h
  exact hcb.lt
theorem RD.below {w w' : World} {B rb : Nat} {bs : List UInt8} (h : RD w B rb bs) {B' : Nat} (hb : Below B' w w') (hB : w.heap.size ≤ B') : RD w' B rb bs := by
  have hlt := h.lt
  obtain ⟨h1, A, n, c, hcb, hbr⟩ := h
  exact ⟨h1, A, n, c, hcb.same (hb.block _ (by omega)), hbr.below hb (by omega)⟩
theorem RD.alloc {w : World} {B rb : Nat} {bs : List UInt8} (h : RD w B rb bs) (o : Obj) : RD (w.alloc o) B rb bs := h.below ((Below.refl _ w).alloc (Nat.le_refl _) o) (Nat.le_refl _)
theorem RD.far {w : World} {B rb : Nat} {bs : List UInt8} (h : RD w B rb bs) {p : Addr} (hp : rb < p.block) (u : Value) : RD (w.setCell p u) B rb bs := by
  obtain ⟨h1, A, n, c, hcb, hbr⟩ := h
  exact ⟨h1, A, n, c, hcb.far (by omega) u, hbr.keep (fun g hg => Below.heap_setCell w p u g (by omega))⟩

set_option maxHeartbeats 400000 in
theorem number_ok (B rb k : Nat) (bs : List UInt8) (w : World) (hr : RD w B rb bs) (hk : k ≤ 8) (h : k ≤ bs.length) :
    Calls Try.prog 87 #[.pointer (some ⟨rb, 0, none⟩), .int .i64 k] w (NPost w B rb ⟨val (bs.take k), mkS []⟩ true (bs.drop k)) := by
  have hrb := hr.lt
  go_enter Try.func87, Try.ntmps87
  go_wp2_with fail
  refine (take_ok B rb k bs _ (hr.alloc _) h).mono ?_
  rintro e w2 ⟨A2, c2, rfl, hb2, hr2, hg2⟩
  have z2 : w.heap.size < w2.heap.size := by have := hg2.size; simp at this; omega
  have hz := hr2.1
  have hcb4 : CB w2 w.heap.size 142 #[.int .u64 0, .string (mkS [])] := (CB.new w _ _).same (hg2.block _ (by simp) (by simp; omega))
  have hg0 : w.grownBy w2 (some rb) := grown_trans (grown_alloc (World.grownBy.refl w _) _) (.inl rfl) hg2
  clear hg2 hr h
  go_wp2_with fail
  go_loopw [19] (fun i wr => ∃ j q : Nat, j ≤ k ∧ i = .int .i64 j ∧ Hid (q = val ((bs.take k).take j)) ∧ CB wr w2.heap.size 142 #[.int .u64 q, .string (mkS [])] ∧ CB wr w.heap.size 142 #[.int .u64 0, .string (mkS [])] ∧ RD wr B rb (bs.drop k) ∧ BR wr B A2 k c2 (bs.take k) ∧ w.grownBy wr (some rb)) (fun i _ => k - (intOf i).toNat)
  case atStart =>
    exact ⟨0, 0, by omega, rfl, rfl, CB.new _ _ _, hcb4.alloc _, hr2.alloc _, hb2.below ((Below.refl _ w2).alloc (Nat.le_refl _) _) (by omega), grown_alloc hg0 _⟩
  case round =>
    clear hb2 hr2 hcb4 hg0
    obtain ⟨j, q, hj, rfl, Hq, hcb8, hcb4, hrr, hbb, hgg⟩ := hrel
    have d0 := hcb8.cell 0
    have d1 := hcb8.cell 1
    have f0 := hcb8.frozen 0
    simp at d0 d1
    by_cases hlt : j < k
    · obtain ⟨g, off, b, rfl, hgB, Hb, cb⟩ := hbb.at_ hlt
      have HV := Lib.hid (val_step Hb.out)
      have h64 := val_lt64 ((bs.take k).take (j + 1)) (by rw [List.length_take]; omega)
      have HO := Lib.hid (or_step q b (by rw [Hq.out, ← HV.out]; exact h64))
      clear h64
      go_wp2_with fail
      rw [HO.out]
      go_roundw
      case rel =>
        refine ⟨j + 1, q * 256 + b.toNat, by omega, by go_num, ?_, by simpa using hcb8.put 0 (.int .u64 ((q * 256 + b.toNat : Nat) : Int)), hcb4.far (by simp only; omega) _, hrr.far (by simp only; omega) _, hbb.keep (fun g hg => Below.heap_setCell wr _ _ g (by simp only; omega)), grown_new hgg (by simp only; omega) _⟩
        show _ = _
        rw [HV.out, Hq.out]
      case measure => simp [intOf]; omega
    · obtain rfl : j = k := by omega
      have e0 := hcb4.cell 0
      have e1 := hcb4.cell 1
      have g0 := hcb4.frozen 0
      have g1 := hcb4.frozen 1
      simp at e0 e1
      have HQ := Lib.hid (show q = val (bs.take j) by rw [Hq.out, List.take_of_length_le (by rw [List.length_take]; omega)])
      have hcbF : CB ((wr.setCell ⟨w.heap.size, 0, none⟩ (.int .u64 q)).setCell ⟨w.heap.size, 1, none⟩ (.string (mkS []))) w.heap.size 142 #[.int .u64 q, .string (mkS [])] := by simpa using (hcb4.put 0 (.int .u64 q)).put 1 (.string (mkS []))
      have hrF : RD ((wr.setCell ⟨w.heap.size, 0, none⟩ (.int .u64 q)).setCell ⟨w.heap.size, 1, none⟩ (.string (mkS []))) B rb (bs.drop j) := (hrr.far (by simp only; omega) _).far (by simp only; omega) _
      have hgF : w.grownBy ((wr.setCell ⟨w.heap.size, 0, none⟩ (.int .u64 q)).setCell ⟨w.heap.size, 1, none⟩ (.string (mkS []))) (some rb) := grown_new (grown_new hgg (by simp only; omega) _) (by simp only; omega) _
      go_wp2_with fail
      generalize (wr.setCell ⟨w.heap.size, 0, none⟩ (.int .u64 q)).setCell ⟨w.heap.size, 1, none⟩ (.string (mkS [])) = W at *
      have x0 := hcbF.cell 0
      have x1 := hcbF.cell 1
      simp at x0 x1
      refine bodyPost_ret (v := .tuple #[.agg #[.int .u64 q, .string (mkS [])], .bool true]) (by simp [results, Try.results87, go_sem, x0, x1]) rfl ⟨by rw [HQ.out], hrF, hgF⟩

set_option maxHeartbeats 400000 in
theorem number_no (B rb k : Nat) (bs : List UInt8) (w : World) (hr : RD w B rb bs) (h : bs.length < k) :
    Calls Try.prog 87 #[.pointer (some ⟨rb, 0, none⟩), .int .i64 k] w (NPost w B rb ⟨0, mkS []⟩ false bs) := by
  have hrb := hr.lt
  have hz := hr.1
  go_enter Try.func87, Try.ntmps87
  go_wp2_with fail
  refine (take_no B rb k bs _ (hr.alloc _) h).mono ?_
  rintro e w2 ⟨rfl, rfl⟩
  have hcb4 : CB ((w.alloc (.cells #[.int .u64 0, .string ⟨#[]⟩] 142)).alloc (.cells #[.int .u64 0, .string ⟨#[]⟩] 142)) w.heap.size 142 #[.int .u64 0, .string (mkS [])] := (CB.new w _ _).alloc _
  have hcb8 : CB ((w.alloc (.cells #[.int .u64 0, .string ⟨#[]⟩] 142)).alloc (.cells #[.int .u64 0, .string ⟨#[]⟩] 142)) (w.heap.size + 1) 142 #[.int .u64 0, .string (mkS [])] := by
    have := CB.new (w.alloc (.cells #[.int .u64 0, .string ⟨#[]⟩] 142)) 142 #[.int .u64 0, .string ⟨#[]⟩]
    rw [show (w.alloc (.cells #[.int .u64 0, .string ⟨#[]⟩] 142)).heap.size = w.heap.size + 1 by simp] at this
    exact this
  have hr1 : RD ((w.alloc (.cells #[.int .u64 0, .string ⟨#[]⟩] 142)).alloc (.cells #[.int .u64 0, .string ⟨#[]⟩] 142)) B rb bs := (hr.alloc _).alloc _
  have hg1 : w.grownBy ((w.alloc (.cells #[.int .u64 0, .string ⟨#[]⟩] 142)).alloc (.cells #[.int .u64 0, .string ⟨#[]⟩] 142)) (some rb) := grown_alloc (grown_alloc (World.grownBy.refl w _) _) _
  clear hr h
  go_wp2_with fail
  generalize (w.alloc (.cells #[.int .u64 0, .string ⟨#[]⟩] 142)).alloc (.cells #[.int .u64 0, .string ⟨#[]⟩] 142) = W at *
  have d0 := hcb8.cell 0
  have d1 := hcb8.cell 1
  have e0 := hcb4.cell 0
  have e1 := hcb4.cell 1
  have g0 := hcb4.frozen 0
  have g1 := hcb4.frozen 1
  simp at d0 d1 e0 e1
  go_loop [19] (fun i => i = .int .i64 0) (fun _ => 0)
  case atStart => rfl
  case round =>
    subst hrel
    have hcbF : CB ((W.setCell ⟨w.heap.size, 0, none⟩ (.int .u64 0)).setCell ⟨w.heap.size, 1, none⟩ (.string (mkS []))) w.heap.size 142 #[.int .u64 0, .string (mkS [])] := by simpa using (hcb4.put 0 (.int .u64 0)).put 1 (.string (mkS []))
    have hrF : RD ((W.setCell ⟨w.heap.size, 0, none⟩ (.int .u64 0)).setCell ⟨w.heap.size, 1, none⟩ (.string (mkS []))) B rb bs := (hr1.far (by simp only; omega) _).far (by simp only; omega) _
    have hgF : w.grownBy ((W.setCell ⟨w.heap.size, 0, none⟩ (.int .u64 0)).setCell ⟨w.heap.size, 1, none⟩ (.string (mkS []))) (some rb) := grown_new (grown_new hg1 (by simp only; omega) _) (by simp only; omega) _
    go_wp2_with fail
    generalize (W.setCell ⟨w.heap.size, 0, none⟩ (.int .u64 0)).setCell ⟨w.heap.size, 1, none⟩ (.string (mkS [])) = W' at *
    have x0 := hcbF.cell 0
    have x1 := hcbF.cell 1
    simp at x0 x1
    exact bodyPost_ret (v := .tuple #[.agg #[.int .u64 0, .string (mkS [])], .bool false]) (by simp [results, Try.results87, go_sem, x0, x1]) rfl ⟨rfl, hrF, hgF⟩

end Go.Proofs.Ytcfdfimkgehdfaa.Dz

/-
  The reader of package code: text and value. Conditions: the reader's struct is a block of its own, the bytes that it reads lie below it.
-/
namespace Go.Proofs.Ytcfdfimkgehdfaa.Dz
set_option maxRecDepth 100000
open Go.RowKit

def NoPost (w : World) (B rb : Nat) (e : Ending) (w' : World) : Prop := ∃ v r, NPost w B rb v false r e w'

set_option maxHeartbeats 400000 in
theorem text_ok (B rb n : Nat) (bs : List UInt8) (w : World) (hr : RD w B rb bs) (h2 : 2 ≤ bs.length) (hn : Hid (val (bs.take 2) = n)) (hn2 : n ≤ 2000) (hl : n ≤ (bs.drop 2).length) :
    Calls Try.prog 88 #[.pointer (some ⟨rb, 0, none⟩), .int .i64 2] w (NPost w B rb ⟨0, mkS ((bs.drop 2).take n)⟩ true ((bs.drop 2).drop n)) := by
  have hrb := hr.lt
  have hz := hr.1
  generalize Htx : (bs.drop 2).take n = tx
  generalize Hrs : (bs.drop 2).drop n = rs
  have HT := Lib.hid Htx
  have HR := Lib.hid Hrs
  clear Htx Hrs
  go_enter Try.func88, Try.ntmps88
  go_wp2_with fail
  refine (number_ok B rb 2 bs _ (hr.alloc _) (by omega) h2).mono ?_
  rintro e w2 ⟨rfl, hr2, hg2⟩
  rw [hn.out]
  have z2 : w.heap.size < w2.heap.size := by have := hg2.size; simp at this; omega
  have hcb4 : CB w2 w.heap.size 142 #[.int .u64 0, .string (mkS [])] := (CB.new w _ _).grown hg2 (by simp; omega)
  have hg0 : w.grownBy w2 (some rb) := grown_trans (grown_alloc (World.grownBy.refl w _) _) (.inl rfl) hg2
  have hcb4' := hcb4.alloc (.cells #[.int .u64 n, .string (mkS [])] 142)
  have hr3 := hr2.alloc (.cells #[.int .u64 n, .string (mkS [])] 142)
  have hg3 := grown_alloc hg0 (.cells #[.int .u64 n, .string (mkS [])] 142)
  clear hr h2 hn hg2 hr2 hg0 hcb4
  go_wp2_with fail
  refine (take_ok B rb n _ _ hr3 hl).mono ?_
  rintro e w4 ⟨A4, c4, rfl, hb4, hr4, hg4⟩
  rw [HT.out] at hb4
  rw [HR.out] at hr4
  have hcv := conv_br hb4
  have hcbA : CB w4 w.heap.size 142 #[.int .u64 0, .string (mkS [])] := hcb4'.grown hg4 (by simp; omega)
  have hgA : w.grownBy w4 (some rb) := grown_trans hg3 (.inl rfl) hg4
  have e0 := hcbA.cell 0
  have e1 := hcbA.cell 1
  have g0 := hcbA.frozen 0
  have g1 := hcbA.frozen 1
  simp at e0 e1
  have hcbF : CB ((w4.setCell ⟨w.heap.size, 0, none⟩ (.int .u64 0)).setCell ⟨w.heap.size, 1, none⟩ (.string (mkS tx))) w.heap.size 142 #[.int .u64 0, .string (mkS tx)] := by simpa using (hcbA.put 0 (.int .u64 0)).put 1 (.string (mkS tx))
  have hrF : RD ((w4.setCell ⟨w.heap.size, 0, none⟩ (.int .u64 0)).setCell ⟨w.heap.size, 1, none⟩ (.string (mkS tx))) B rb rs := (hr4.far (by simp only; omega) _).far (by simp only; omega) _
  have hgF : w.grownBy ((w4.setCell ⟨w.heap.size, 0, none⟩ (.int .u64 0)).setCell ⟨w.heap.size, 1, none⟩ (.string (mkS tx))) (some rb) := grown_new (grown_new hgA (by simp only; omega) _) (by simp only; omega) _
  clear hcbA hgA hcb4' hr3 hg3 hb4 hr4 hg4 hl
  go_wp2_with fail
  generalize (w4.setCell ⟨w.heap.size, 0, none⟩ (.int .u64 0)).setCell ⟨w.heap.size, 1, none⟩ (.string (mkS tx)) = W' at *
  have x0 := hcbF.cell 0
  have x1 := hcbF.cell 1
  simp at x0 x1
  exact bodyPost_ret (v := .tuple #[.agg #[.int .u64 0, .string (mkS tx)], .bool true]) (by simp [results, Try.results88, go_sem, x0, x1]) rfl ⟨rfl, hrF, hgF⟩

set_option maxHeartbeats 400000 in
theorem text_no1 (B rb : Nat) (bs : List UInt8) (w : World) (hr : RD w B rb bs) (h2 : bs.length < 2) :
    Calls Try.prog 88 #[.pointer (some ⟨rb, 0, none⟩), .int .i64 2] w (NoPost w B rb) := by
  have hrb := hr.lt
  have hz := hr.1
  go_enter Try.func88, Try.ntmps88
  go_wp2_with fail
  refine (number_no B rb 2 bs _ (hr.alloc _) h2).mono ?_
  rintro e w2 ⟨rfl, hr2, hg2⟩
  have z2 : w.heap.size < w2.heap.size := by have := hg2.size; simp at this; omega
  have hcb4 : CB w2 w.heap.size 142 #[.int .u64 0, .string (mkS [])] := (CB.new w _ _).grown hg2 (by simp; omega)
  have hg0 : w.grownBy w2 (some rb) := grown_trans (grown_alloc (World.grownBy.refl w _) _) (.inl rfl) hg2
  have hcbF := ((hcb4.put 0 (.int .u64 0)).put 1 (.string ⟨#[]⟩)).alloc (.cells #[.int .u64 0, .string (mkS [])] 142)
  have hrF := ((hr2.far (p := ⟨w.heap.size, 0, none⟩) (by simp only; omega) (.int .u64 0)).far (p := ⟨w.heap.size, 1, none⟩) (by simp only; omega) (.string ⟨#[]⟩)).alloc (.cells #[.int .u64 0, .string (mkS [])] 142)
  have hgF := grown_alloc (grown_new (grown_new hg0 (p := ⟨w.heap.size, 0, none⟩) (by simp only; omega) (.int .u64 0)) (p := ⟨w.heap.size, 1, none⟩) (by simp only; omega) (.string ⟨#[]⟩)) (.cells #[.int .u64 0, .string (mkS [])] 142)
  have e0 := hcb4.cell 0
  have e1 := hcb4.cell 1
  have g0 := hcb4.frozen 0
  have g1 := hcb4.frozen 1
  simp at e0 e1
  clear hr h2 hg2 hr2 hg0 hcb4
  go_wp2_with fail
  exact bodyPost_ret (v := .tuple #[.agg #[.int .u64 0, .string ⟨#[]⟩], .bool false]) (by simp [results, Try.results88, go_sem, z2, e0, e1]) rfl ⟨⟨0, ⟨#[]⟩⟩, bs, rfl, hrF, hgF⟩

set_option maxHeartbeats 400000 in
theorem text_no2 (B rb n : Nat) (bs : List UInt8) (w : World) (hr : RD w B rb bs) (h2 : 2 ≤ bs.length) (hn : Hid (val (bs.take 2) = n)) (hn2 : 2000 < n) (hn3 : n < 65536) :
    Calls Try.prog 88 #[.pointer (some ⟨rb, 0, none⟩), .int .i64 2] w (NoPost w B rb) := by
  have hrb := hr.lt
  have hz := hr.1
  generalize Hrs : bs.drop 2 = rs
  have HR := Lib.hid Hrs
  clear Hrs
  go_enter Try.func88, Try.ntmps88
  go_wp2_with fail
  refine (number_ok B rb 2 bs _ (hr.alloc _) (by omega) h2).mono ?_
  rintro e w2 ⟨rfl, hr2, hg2⟩
  rw [hn.out]
  rw [HR.out] at hr2
  have z2 : w.heap.size < w2.heap.size := by have := hg2.size; simp at this; omega
  have hcb4 : CB w2 w.heap.size 142 #[.int .u64 0, .string (mkS [])] := (CB.new w _ _).grown hg2 (by simp; omega)
  have hg0 : w.grownBy w2 (some rb) := grown_trans (grown_alloc (World.grownBy.refl w _) _) (.inl rfl) hg2
  have hcbF := ((hcb4.put 0 (.int .u64 0)).put 1 (.string ⟨#[]⟩)).alloc (.cells #[.int .u64 n, .string (mkS [])] 142)
  have hrF := ((hr2.far (p := ⟨w.heap.size, 0, none⟩) (by simp only; omega) (.int .u64 0)).far (p := ⟨w.heap.size, 1, none⟩) (by simp only; omega) (.string ⟨#[]⟩)).alloc (.cells #[.int .u64 n, .string (mkS [])] 142)
  have hgF := grown_alloc (grown_new (grown_new hg0 (p := ⟨w.heap.size, 0, none⟩) (by simp only; omega) (.int .u64 0)) (p := ⟨w.heap.size, 1, none⟩) (by simp only; omega) (.string ⟨#[]⟩)) (.cells #[.int .u64 n, .string (mkS [])] 142)
  have e0 := hcb4.cell 0
  have e1 := hcb4.cell 1
  have g0 := hcb4.frozen 0
  have g1 := hcb4.frozen 1
  simp at e0 e1
  clear hr h2 hg2 hr2 hg0 hcb4 hn
  go_wp2_with fail
  exact bodyPost_ret (v := .tuple #[.agg #[.int .u64 0, .string ⟨#[]⟩], .bool false]) (by simp [results, Try.results88, go_sem, z2, e0, e1]) rfl ⟨⟨0, ⟨#[]⟩⟩, rs, rfl, hrF, hgF⟩

set_option maxHeartbeats 400000 in
theorem text_no3 (B rb n : Nat) (bs : List UInt8) (w : World) (hr : RD w B rb bs) (h2 : 2 ≤ bs.length) (hn : Hid (val (bs.take 2) = n)) (hn2 : n ≤ 2000) (hl : (bs.drop 2).length < n) :
    Calls Try.prog 88 #[.pointer (some ⟨rb, 0, none⟩), .int .i64 2] w (NoPost w B rb) := by
  have hrb := hr.lt
  have hz := hr.1
  generalize Hrs : bs.drop 2 = rs at hl
  have HR := Lib.hid Hrs
  clear Hrs
  go_enter Try.func88, Try.ntmps88
  go_wp2_with fail
  refine (number_ok B rb 2 bs _ (hr.alloc _) (by omega) h2).mono ?_
  rintro e w2 ⟨rfl, hr2, hg2⟩
  rw [hn.out]
  rw [HR.out] at hr2
  have z2 : w.heap.size < w2.heap.size := by have := hg2.size; simp at this; omega
  have hcb4 : CB w2 w.heap.size 142 #[.int .u64 0, .string (mkS [])] := (CB.new w _ _).grown hg2 (by simp; omega)
  have hg0 : w.grownBy w2 (some rb) := grown_trans (grown_alloc (World.grownBy.refl w _) _) (.inl rfl) hg2
  have hr3 := hr2.alloc (.cells #[.int .u64 n, .string (mkS [])] 142)
  have hcbF := ((hcb4.put 0 (.int .u64 0)).put 1 (.string ⟨#[]⟩)).alloc (.cells #[.int .u64 n, .string (mkS [])] 142)
  have hrF := ((hr2.far (p := ⟨w.heap.size, 0, none⟩) (by simp only; omega) (.int .u64 0)).far (p := ⟨w.heap.size, 1, none⟩) (by simp only; omega) (.string ⟨#[]⟩)).alloc (.cells #[.int .u64 n, .string (mkS [])] 142)
  have hgF := grown_alloc (grown_new (grown_new hg0 (p := ⟨w.heap.size, 0, none⟩) (by simp only; omega) (.int .u64 0)) (p := ⟨w.heap.size, 1, none⟩) (by simp only; omega) (.string ⟨#[]⟩)) (.cells #[.int .u64 n, .string (mkS [])] 142)
  have e0 := hcb4.cell 0
  have e1 := hcb4.cell 1
  have g0 := hcb4.frozen 0
  have g1 := hcb4.frozen 1
  simp at e0 e1
  clear hr h2 hg2 hr2 hg0 hcb4 hn
  go_wp2_with fail
  refine (take_no B rb n _ _ hr3 hl).mono ?_
  rintro e w' ⟨rfl, rfl⟩
  have hcv : ∀ W : World, (convert 30 9 (.slice none 0 0)).run Try.prog W = .ok (.string ⟨#[]⟩) W := fun W => conv_br (BR.nil W 0)
  clear hr3 hl
  go_wp2_with fail
  exact bodyPost_ret (v := .tuple #[.agg #[.int .u64 0, .string ⟨#[]⟩], .bool false]) (by simp [results, Try.results88, go_sem, z2, e0, e1]) rfl ⟨⟨0, ⟨#[]⟩⟩, rs, rfl, hrF, hgF⟩
end Go.Proofs.Ytcfdfimkgehdfaa.Dz

/-
  The reader's method value, and Decode of package code: it returns the document's values, or the document's error. Conditions: the shape is such as memory can hold, the bytes can be read.
-/
namespace Go.Proofs.Ytcfdfimkgehdfaa.Dz
set_option maxRecDepth 100000
open Go.RowKit

/-- What a value off the front may be. -/
def VS (c : UInt8) (bs : List UInt8) (v : CV) (ok : Bool) (r : List UInt8) : Prop := (ok = true ∧ decV c bs = some (v, r)) ∨ (ok = false ∧ decV c bs = none)
def VPost (w : World) (B rb : Nat) (c : UInt8) (bs : List UInt8) (e : Ending) (w' : World) : Prop := ∃ v ok r, VS c bs v ok r ∧ NPost w B rb v ok r e w'

theorem text_any (B rb : Nat) (bs : List UInt8) (w : World) (hr : RD w B rb bs) :
    Calls Try.prog 88 #[.pointer (some ⟨rb, 0, none⟩), .int .i64 2] w (VPost w B rb 116 bs) := by
  by_cases h2 : bs.length < 2
  · exact (text_no1 B rb bs w hr h2).mono fun e w' ⟨v, r, h⟩ => ⟨v, false, r, .inr ⟨rfl, by unfold decV; rw [if_pos rfl, if_pos h2]⟩, h⟩
  · have h3 : val (bs.take 2) < 65536 := by
      have := val_lt (bs.take 2)
      rwa [List.length_take, Nat.min_eq_left (by omega)] at this
    by_cases h4 : 2000 < val (bs.take 2)
    · exact (text_no2 B rb _ bs w hr (by omega) (Lib.hid rfl) h4 h3).mono fun e w' ⟨v, r, h⟩ => ⟨v, false, r, .inr ⟨rfl, by unfold decV; rw [if_pos rfl, if_neg h2, if_pos h4]⟩, h⟩
    · by_cases h5 : (bs.drop 2).length < val (bs.take 2)
      · exact (text_no3 B rb _ bs w hr (by omega) (Lib.hid rfl) (by omega) h5).mono fun e w' ⟨v, r, h⟩ => ⟨v, false, r, .inr ⟨rfl, by unfold decV; rw [if_pos rfl, if_neg h2, if_neg h4, if_pos h5]⟩, h⟩
      · exact (text_ok B rb _ bs w hr (by omega) (Lib.hid rfl) (by omega) (by omega)).mono fun e w' h => ⟨_, true, _, .inl ⟨rfl, by unfold decV; rw [if_pos rfl, if_neg h2, if_neg h4, if_neg h5]⟩, h⟩

theorem number_any (B rb : Nat) (c : UInt8) (bs : List UInt8) (w : World) (hr : RD w B rb bs) (hc : ¬ c = 116) :
    Calls Try.prog 87 #[.pointer (some ⟨rb, 0, none⟩), .int .i64 (wd c)] w (VPost w B rb c bs) := by
  by_cases h2 : bs.length < wd c
  · exact (number_no B rb _ bs w hr h2).mono fun e w' h => ⟨_, false, _, .inr ⟨rfl, by unfold decV; rw [if_neg hc, if_pos h2]⟩, h⟩
  · exact (number_ok B rb _ bs w hr (wd_le c) (by omega)).mono fun e w' h => ⟨_, true, _, .inl ⟨rfl, by unfold decV; rw [if_neg hc, if_neg h2]⟩, h⟩

set_option maxHeartbeats 400000 in
theorem value_any (B rb : Nat) (c : UInt8) (bs : List UInt8) (w : World) (hr : RD w B rb bs) :
    Calls Try.prog 82 #[.pointer (some ⟨rb, 0, none⟩), .int .u8 c.toNat] w (VPost w B rb c bs) := by
  have hrb := hr.lt
  have hz := hr.1
  by_cases hc : c = 116
  · have e3 : ((c.toNat : Int) == 116) = true := by rw [hc]; rfl
    have Hc := Lib.hid hc
    clear hc
    go_enter Try.func82, Try.ntmps82
    go_wp2_with fail
    refine (width_c c _).mono ?_
    rintro e w' ⟨rfl, rfl⟩
    rw [show wd c = 2 by rw [Hc.out]; rfl]
    go_wp2_with fail
    refine (text_any B rb bs _ (hr.alloc _)).mono ?_
    rintro e w2 ⟨v, ok, r, hS, rfl, hr2, hg2⟩
    rw [← Hc.out] at hS
    have z2 : w.heap.size < w2.heap.size := by have := hg2.size; simp at this; omega
    have hcb4 : CB w2 w.heap.size 142 #[.int .u64 0, .string (mkS [])] := (CB.new w _ _).grown hg2 (by simp; omega)
    have hg0 : w.grownBy w2 (some rb) := grown_trans (grown_alloc (World.grownBy.refl w _) _) (.inl rfl) hg2
    have e0 := hcb4.cell 0
    have e1 := hcb4.cell 1
    have g0 := hcb4.frozen 0
    have g1 := hcb4.frozen 1
    simp at e0 e1
    have hcbF : CB ((w2.setCell ⟨w.heap.size, 0, none⟩ (.int .u64 v.n)).setCell ⟨w.heap.size, 1, none⟩ (.string v.s)) w.heap.size 142 #[.int .u64 v.n, .string v.s] := by simpa using (hcb4.put 0 (.int .u64 v.n)).put 1 (.string v.s)
    have hrF := (hr2.far (p := ⟨w.heap.size, 0, none⟩) (by simp only; omega) (.int .u64 v.n)).far (p := ⟨w.heap.size, 1, none⟩) (by simp only; omega) (.string v.s)
    have hgF := grown_new (grown_new hg0 (p := ⟨w.heap.size, 0, none⟩) (by simp only; omega) (.int .u64 v.n)) (p := ⟨w.heap.size, 1, none⟩) (by simp only; omega) (.string v.s)
    clear hr hg2 hr2 hg0 hcb4
    go_wp2_with fail
    generalize (w2.setCell ⟨w.heap.size, 0, none⟩ (.int .u64 v.n)).setCell ⟨w.heap.size, 1, none⟩ (.string v.s) = W' at *
    have x0 := hcbF.cell 0
    have x1 := hcbF.cell 1
    simp at x0 x1
    exact bodyPost_ret (v := .tuple #[.agg #[.int .u64 v.n, .string v.s], .bool ok]) (by simp [results, Try.results82, go_sem, x0, x1]) rfl ⟨v, ok, r, hS, rfl, hrF, hgF⟩
  · have e3 := u8ne 116 116 rfl hc
    have Hc := Lib.hid hc
    clear hc
    go_enter Try.func82, Try.ntmps82
    go_wp2_with fail
    refine (width_c c _).mono ?_
    rintro e w' ⟨rfl, rfl⟩
    go_wp2_with fail
    refine (number_any B rb c bs _ (hr.alloc _) Hc.out).mono ?_
    rintro e w2 ⟨v, ok, r, hS, rfl, hr2, hg2⟩
    have z2 : w.heap.size < w2.heap.size := by have := hg2.size; simp at this; omega
    have hcb4 : CB w2 w.heap.size 142 #[.int .u64 0, .string (mkS [])] := (CB.new w _ _).grown hg2 (by simp; omega)
    have hg0 : w.grownBy w2 (some rb) := grown_trans (grown_alloc (World.grownBy.refl w _) _) (.inl rfl) hg2
    have e0 := hcb4.cell 0
    have e1 := hcb4.cell 1
    have g0 := hcb4.frozen 0
    have g1 := hcb4.frozen 1
    simp at e0 e1
    have hcbF : CB ((w2.setCell ⟨w.heap.size, 0, none⟩ (.int .u64 v.n)).setCell ⟨w.heap.size, 1, none⟩ (.string v.s)) w.heap.size 142 #[.int .u64 v.n, .string v.s] := by simpa using (hcb4.put 0 (.int .u64 v.n)).put 1 (.string v.s)
    have hrF := (hr2.far (p := ⟨w.heap.size, 0, none⟩) (by simp only; omega) (.int .u64 v.n)).far (p := ⟨w.heap.size, 1, none⟩) (by simp only; omega) (.string v.s)
    have hgF := grown_new (grown_new hg0 (p := ⟨w.heap.size, 0, none⟩) (by simp only; omega) (.int .u64 v.n)) (p := ⟨w.heap.size, 1, none⟩) (by simp only; omega) (.string v.s)
    clear hr hg2 hr2 hg0 hcb4
    go_wp2_with fail
    generalize (w2.setCell ⟨w.heap.size, 0, none⟩ (.int .u64 v.n)).setCell ⟨w.heap.size, 1, none⟩ (.string v.s) = W' at *
    have x0 := hcbF.cell 0
    have x1 := hcbF.cell 1
    simp at x0 x1
    exact bodyPost_ret (v := .tuple #[.agg #[.int .u64 v.n, .string v.s], .bool ok]) (by simp [results, Try.results82, go_sem, x0, x1]) rfl ⟨v, ok, r, hS, rfl, hrF, hgF⟩
end Go.Proofs.Ytcfdfimkgehdfaa.Dz

/-
  Decode of package code: it returns the document's values, or the document's error. Conditions: the shape is such as memory can hold, the bytes can be read.
-/
namespace Go.Proofs.Ytcfdfimkgehdfaa.Dz
set_option maxRecDepth 100000
open Go.RowKit

/-- Values as cells. -/
def vc (l : List CV) : List Value := l.flatMap fun v => [.int .u64 v.n, .string v.s]
theorem vc_append (l m : List CV) : vc (l ++ m) = vc l ++ vc m := List.flatMap_append
theorem vc_cons (v : CV) (l : List CV) : vc (v :: l) = .int .u64 v.n :: .string v.s :: vc l := rfl
theorem vc_length : ∀ l : List CV, (vc l).length = l.length * 2
  | [] => rfl
  | v :: l => by rw [vc_cons]; simp only [List.length_cons, vc_length l]; omega
theorem vc_get : ∀ (l : List CV) (i : Nat) (v : CV), l[i]? = some v → (vc l)[i * 2]? = some (.int .u64 v.n) ∧ (vc l)[i * 2 + 1]? = some (.string v.s)
  | [], i, v, h => by simp at h
  | u :: l, 0, v, h => by
    simp only [List.getElem?_cons_zero, Option.some.injEq] at h
    subst h
    exact ⟨rfl, rfl⟩
  | u :: l, i + 1, v, h => by
    have := vc_get l i v (by simpa using h)
    rw [vc_cons, show (i + 1) * 2 = i * 2 + 1 + 1 by omega]
    simpa using this
theorem vc_one (l : List CV) : ∀ u ∈ vc l, u.oneCell' = true := by
  intro u hu
  simp only [vc, List.mem_flatMap] at hu
  obtain ⟨v, _, hv⟩ := hu
  simp only [List.mem_cons, List.not_mem_nil, or_false] at hv
  rcases hv with rfl | rfl <;> rfl

def okV (l : List CV) : Prop := ∀ v ∈ l, v.n < 18446744073709551616 ∧ v.s.size ≤ maxLen
theorem okV.snoc {l : List CV} (h : okV l) {v : CV} (h1 : v.n < 18446744073709551616) (h2 : v.s.size ≤ maxLen) : okV (l ++ [v]) := by
  intro u hu
  rw [List.mem_append, List.mem_singleton] at hu
  rcases hu with hu | rfl
  · exact h u hu
  · exact ⟨h1, h2⟩

theorem VR.of_seg {w : World} {t : TypeId} {A : Option Addr} {n c : Nat} {l : List CV} {G : Option Nat} (h : Seg w t 2 A n c (vc l) G) (ho : okV l) : n = l.length ∧ VR w A l := by
  have h1 := h.1
  rw [vc_length] at h1
  refine ⟨by omega, fun i v hv => ?_⟩
  obtain ⟨k1, k2⟩ := ho v (List.mem_of_getElem? hv)
  obtain ⟨v0, v1⟩ := vc_get l i v hv
  obtain ⟨g, off, rfl, rfl, hc0⟩ := h.at_ v0
  obtain ⟨g', off', ha, hg, hc1⟩ := h.at_ v1
  cases ha
  exact ⟨k1, k2, g, off, rfl, World.block_lt_of_cell? w _ hc0, hc0, hc1⟩

theorem decs_append (s1 s2 : List UInt8) : ∀ b, decs (s1 ++ s2) b = (match decs s1 b with
    | none => none
    | some (l, r) => (match decs s2 r with
      | none => none
      | some (l2, r2) => some (l ++ l2, r2))) := by
  induction s1 with
  | nil => intro b; simp only [List.nil_append, decs]; split <;> simp_all
  | cons c cs ih =>
    intro b
    simp only [List.cons_append, decs]
    cases decV c b with
    | none => rfl
    | some p =>
      obtain ⟨v, r⟩ := p
      simp only [ih r]
      cases decs cs r with
      | none => rfl
      | some q =>
        obtain ⟨l, r'⟩ := q
        simp only
        cases decs s2 r' with
        | none => rfl
        | some q2 => rfl
theorem decs_one (c : UInt8) (b : List UInt8) : decs [c] b = (match decV c b with | none => none | some (v, r) => some ([v], r)) := by
  simp only [decs]
  cases decV c b with
  | none => rfl
  | some p => rfl
theorem RD.grown {w w' : World} {B rb : Nat} {bs : List UInt8} (h : RD w B rb bs) {G : Option Nat} (hg : w.grownBy w' G) (hne : ∀ g, G = some g → rb < g) : RD w' B rb bs := by
  have hlt := h.lt
  obtain ⟨h1, A, n, c, hcb, hbr⟩ := h
  exact ⟨h1, A, n, c, hcb.same (hg.block _ hlt (fun e => by have := hne _ e.symm; omega)), hbr.grown hg (by omega) (fun g e => by have := hne _ e; omega)⟩
theorem decs_snoc {sh b : List UInt8} {k : Nat} {c : UInt8} {l : List CV} {r r' : List UInt8} {v : CV} (hc : sh[k]? = some c) (h : decs (sh.take k) b = some (l, r)) (hv : decV c r = some (v, r')) : decs (sh.take (k + 1)) b = some (l ++ [v], r') := by
  obtain ⟨h1, rfl⟩ := List.getElem?_eq_some_iff.1 hc
  rw [List.take_succ_eq_append_getElem h1, decs_append, h]
  simp only [decs_one, hv]
theorem decs_stop {sh b : List UInt8} {k : Nat} {c : UInt8} {l : List CV} {r : List UInt8} (hc : sh[k]? = some c) (h : decs (sh.take k) b = some (l, r)) (hv : decV c r = none) : decs sh b = none := by
  obtain ⟨h1, rfl⟩ := List.getElem?_eq_some_iff.1 hc
  have : sh = sh.take k ++ ([sh[k]] ++ sh.drop (k + 1)) := by
    conv => lhs; rw [← List.take_append_drop k sh, List.drop_eq_getElem_cons h1]
    rfl
  rw [this, decs_append, h]
  simp only [List.singleton_append, decs, hv]
theorem decV_ok {c : UInt8} {b r : List UInt8} {v : CV} (h : decV c b = some (v, r)) : v.n < 18446744073709551616 ∧ v.s.size ≤ 2000 := by
  obtain ⟨_, hf⟩ := enc_decV c b v r h
  refine ⟨?_, fitB_size hf⟩
  unfold fitB at hf
  split at hf
  · simp only [Bool.and_eq_true, beq_iff_eq] at hf
    rw [hf.1]
    decide
  · simp only [Bool.and_eq_true, decide_eq_true_eq] at hf
    have h2 : 256 ^ wd c ≤ 256 ^ 8 := Nat.pow_le_pow_right (by omega) (wd_le c)
    exact Nat.lt_of_lt_of_le hf.2 h2

/-- A call gave values and a number back. -/
def DPostC (w : World) (l : List CV) (k : Nat) (e : Ending) (w' : World) : Prop :=
  ∃ A c, e = .returned (.tuple #[.slice A l.length c, .int .i64 (k : Int)]) ∧ VR w' A l ∧ okV l ∧ Below w.heap.size w w'
theorem dpost_nil {w w' : World} {sh b : List UInt8} {k : Nat} (h1 : eD sh b = k) (h2 : lD sh b = []) (hb : Below w.heap.size w w') : DPostC w (lD sh b) (eD sh b) (.returned (.tuple #[.slice none 0 0, .int .i64 (k : Int)])) w' := by
  rw [h1, h2]
  exact ⟨none, 0, rfl, fun i v hv => by simp at hv, fun v hv => by simp at hv, hb⟩
theorem eD_no {sh b : List UInt8} (hp : properB sh = true) (h : okD sh b = none) : eD sh b = 4 ∧ lD sh b = [] := by
  unfold eD lD
  rw [hp, h]
  exact ⟨rfl, rfl⟩
theorem eD_yes {sh b : List UInt8} {l : List CV} (hp : properB sh = true) (h : okD sh b = some l) : eD sh b = 0 ∧ lD sh b = l := by
  unfold eD lD
  rw [hp, h]
  exact ⟨rfl, rfl⟩
theorem eD_bad {sh b : List UInt8} (hp : properB sh = false) : eD sh b = 2 ∧ lD sh b = [] := by
  unfold eD lD
  rw [hp]
  exact ⟨rfl, rfl⟩

theorem Try.infoV : (Try.prog.info? 142).map (fun i => (i.zero, i.size, i.bytes)) = some (some (.agg #[.int .u64 0, .string ⟨#[]⟩]), 2, 24) := by kernel_rfl
theorem src2 (w : World) (t : TypeId) (v : CV) : Src (w.alloc (.cells #[.int .u64 v.n, .string v.s] t)) 2 (some ⟨w.heap.size, 0, none⟩) 1 (vc [v]) := by
  refine ⟨rfl, fun _ => ⟨_, rfl, fun j u hj => ?_⟩⟩
  have hcb := CB.new w t #[.int .u64 v.n, .string v.s]
  rw [Addr.add_lit, Nat.zero_add, hcb.cell j]
  rw [← hj]
  simp [vc]

set_option maxRecDepth 100000 in
set_option maxHeartbeats 1000000 in
theorem decode_c (s : ByteArray) (A : Option Addr) (n cap : Nat) (bs : List UInt8) (w : World) (hs : s.size ≤ maxLen) (hb : BR w w.heap.size A n cap bs) :
    Calls Try.prog 61 #[.string s, .slice A n cap] w (DPostC w (lD (bl s) bs) (eD (bl s) bs)) := by
  have hs0 := hs
  unfold maxLen at hs
  have hbl := bl_length s
  have hbn := hb.1
  have hcm : n ≤ 9223372036854775807 := by have h1 := hb.2.1; have h2 := hb.2.2.1; simp only [maxLen] at h2; omega
  by_cases hp : properB (bl s) = false
  · have H := Lib.hid (dpost_nil (w := w) (w' := w) (eD_bad (b := bs) hp).1 (eD_bad (b := bs) hp).2 (Below.refl _ _))
    have Hp := Lib.hid hp
    clear hp hbl
    go_enter Try.func61, Try.ntmps61
    go_wp2_with fail
    refine (proper_c s _ hs0).mono ?_
    rintro e w' ⟨rfl, rfl⟩
    rw [Hp.out]
    go_wp2_with fail
    go_ret2
    exact H.out
  have hp' : properB (bl s) = true := by simpa using hp
  have hp100 : s.size ≤ 100 := by
    unfold properB at hp'
    simp only [Bool.and_eq_true, decide_eq_true_eq] at hp'
    omega
  have Hp := Lib.hid hp'
  clear hp hp'
  by_cases hbig : (4000 : Int) < (n : Int)
  · have hno := eD_no (b := bs) Hp.out (by unfold okD; rw [if_neg (by omega)])
    have H := Lib.hid (dpost_nil (w := w) (w' := w) hno.1 hno.2 (Below.refl _ _))
    clear hno hbn hbl
    go_enter Try.func61, Try.ntmps61
    go_wp2_with fail
    refine (proper_c s _ hs0).mono ?_
    rintro e w' ⟨rfl, rfl⟩
    rw [Hp.out]
    go_wp2_with fail
    go_ret2
    exact H.out
  have Hb4 := Lib.hid (show bs.length ≤ 4000 by omega)
  have Hbl := Lib.hid hbl
  obtain ⟨i0, hi0, hz0, hz1, hz2⟩ := info_parts Try.infoV
  have hrd : RD (w.alloc (.cells #[.slice A n cap] 163)) w.heap.size w.heap.size bs := ⟨Nat.le_refl _, A, n, cap, CB.new _ _ _, hb.below ((Below.refl _ w).alloc (Nat.le_refl _) _) (Nat.le_refl _)⟩
  obtain ⟨w1, hrun, hseg1, hg1⟩ := run_make_seg (P := Try.prog) (w.alloc (.cells #[.slice A n cap] 163)) 123 142 i0 _ 2 Try.underlying123 hi0 hz0 hz1 s.size (by rw [hz2]; omega) hs0
  have hb01 : Below w.heap.size w w1 := ((Below.refl _ w).alloc (Nat.le_refl _) _).trans (grown_below hg1 (by simp) (fun g e => by cases e))
  have hrd1 : RD w1 w.heap.size w.heap.size bs := hrd.below (grown_below hg1 (Nat.le_refl _) (fun g e => by cases e)) (Nat.le_refl _)
  rw [show (w.alloc (.cells #[.slice A n cap] 163)).heap.size = w.heap.size + 1 by simp] at hseg1 hrun
  have Hi := Lib.hid hi0
  have Hz := Lib.hid hz0
  have Hz1 := Lib.hid hz1
  have Hz2 := Lib.hid hz2
  clear hi0 hz0 hz1 hz2 hbl hbn hb hrd hg1
  go_enter Try.func61, Try.ntmps61
  go_wp2_with fail
  refine (proper_c s _ hs0).mono ?_
  rintro e w' ⟨rfl, rfl⟩
  rw [Hp.out]
  go_wp2_with fail
  clear hrun
  go_loopw [7, 25] (fun b i wr => ∃ (k : Nat) (A' : Option Addr) (n' c' : Nat) (G' : Option Nat) (l : List CV) (r : List UInt8), k ≤ s.size ∧ i = .int .i64 k ∧ b = .slice A' n' c' ∧ n' ≤ k ∧ Seg wr 142 2 A' n' c' (vc l) G' ∧ (∀ g, G' = some g → w.heap.size < g) ∧ RD wr w.heap.size w.heap.size r ∧ Hid (decs ((bl s).take k) bs = some (l, r)) ∧ okV l ∧ Below w.heap.size w wr) (fun _ i _ => s.size - (intOf i).toNat)
  case atStart => exact ⟨0, _, 0, _, _, [], bs, by omega, rfl, rfl, by omega, by simpa [vc] using hseg1, (fun g e => by cases e; omega), hrd1, rfl, (fun v hv => by simp at hv), hb01⟩
  case round =>
    clear hseg1 hrd1 hb01
    obtain ⟨k, A', n', c', G', l, r, hk, rfl, rfl, hn', hs', hG', hrd, Hd, hok, hbw⟩ := hrel
    by_cases hlt : k < s.size
    · have Hg := Lib.hid (bl_get s k hlt)
      go_wp2_with fail
      refine (value_any w.heap.size w.heap.size s[k] r _ hrd).mono ?_
      rintro e w2 ⟨v, ok, r2, hS, rfl, hr2, hg2⟩
      have hb2 : Below w.heap.size w w2 := hbw.trans (grown_below hg2 hbw.size (fun g e => by cases e; exact Nat.le_refl _))
      have hsz2 := hg2.size
      rcases hS with ⟨rfl, hv⟩ | ⟨rfl, hv⟩
      · have hs2 := hs'.keep (w' := w2) (fun g hg => hg2.block g (hs'.lt g hg) (by have := hG' g hg; simp; omega))
        obtain ⟨v1, v2⟩ := decV_ok hv
        have Hd2 := Lib.hid (decs_snoc Hg.out Hd.out hv)
        have hok2 := hok.snoc v1 (v := v) (by simp only [maxLen]; omega)
        have hs3 := (hs2.alloc (.cells #[.int .u64 v.n, .string v.s] 142)).alloc (.cells #[.int .u64 v.n, .string v.s] 142)
        have hr3 := (hr2.alloc (.cells #[.int .u64 v.n, .string v.s] 142)).alloc (.cells #[.int .u64 v.n, .string v.s] 142)
        have hb3 := (hb2.alloc hb2.size (.cells #[.int .u64 v.n, .string v.s] 142)).alloc (by simp; have := hb2.size; omega) (.cells #[.int .u64 v.n, .string v.s] 142)
        have hsrc := src2 (w2.alloc (.cells #[.int .u64 v.n, .string v.s] 142)) 142 v
        rw [show (w2.alloc (.cells #[.int .u64 v.n, .string v.s] 142)).heap.size = w2.heap.size + 1 by simp] at hsrc
        have p1 : n' + 1 ≤ maxLen := by simp only [maxLen]; omega
        have p2 : (n' + 1) * 24 ≤ 140737488355328 := by omega
        have p4 : 0 < 2 := by omega
        clear hv hs' hs2 hr2 hb2 hg2 hrd Hd hok hbw Hg
        go_wp2_with (at_builtin; refine wpList_append_src _ rfl (.tmp 38) (.tmp 40) _ rfl 142 i0 _ 2 24 Try.underlying123 Hi.out Hz.out Hz1.out Hz2.out rfl p4 rfl hs3 rfl hsrc (vc_one _) p1 p2 ?_)
        intro A6 c6 G6 w6 hs6 hg6 hm6
        rw [← vc_append] at hs6
        have hr6 := hr3.grown hg6 hG'
        have hb6 : Below w.heap.size w w6 := hb3.trans (grown_below hg6 hb3.size (fun g e => by have := hG' g e; omega))
        have hG6 : ∀ g, G6 = some g → w.heap.size < g := by
          have z : w.heap.size + 1 ≤ ((w2.alloc (.cells #[.int .u64 v.n, .string v.s] 142)).alloc (.cells #[.int .u64 v.n, .string v.s] 142)).heap.size := by have := hr3.lt; omega
          intro g e
          have := Moved.ge hm6 z (fun g e => hG' g e) g e
          omega
        clear hs3 hr3 hb3 hg6 hm6 hG' hsrc p1 p2
        go_wp2_with fail
        go_roundw
        case rel => exact ⟨k + 1, A6, n' + 1, c6, G6, l ++ [v], r2, by omega, by go_num, rfl, by omega, hs6, hG6, hr6, Hd2, hok2, hb6⟩
        case measure => simp [intOf]; omega
      · have hno := eD_no (b := bs) Hp.out (by unfold okD; rw [if_pos Hb4.out, decs_stop Hg.out Hd.out hv])
        have H := Lib.hid (dpost_nil (w := w) (w' := w2.alloc (.cells #[.int .u64 v.n, .string v.s] 142)) hno.1 hno.2 (hb2.alloc hb2.size _))
        clear hno hv hs' hr2 hb2 hg2 hrd Hd hok hbw Hg
        go_wp2_with fail
        go_ret2
        exact H.out
    · obtain rfl : k = s.size := by omega
      rw [List.take_of_length_le (by rw [Hbl.out]; exact Nat.le_refl _)] at Hd
      obtain ⟨hz, Ar, nr, cr, hcbr, hbr⟩ := hrd
      have c0 := hcbr.cell 0
      simp at c0
      have hrl := hbr.1
      have hrm : nr ≤ 9223372036854775807 := by have h1 := hbr.2.1; have h2 := hbr.2.2.1; simp only [maxLen] at h2; omega
      by_cases hr0 : nr = 0
      · subst hr0
        obtain rfl : r = [] := List.eq_nil_of_length_eq_zero hrl
        have hyes := eD_yes (b := bs) (l := l) Hp.out (by unfold okD; rw [if_pos Hb4.out, Hd.out])
        have H := Lib.hid (show DPostC w (lD (bl s) bs) (eD (bl s) bs) (.returned (.tuple #[.slice A' n' c', .int .i64 ((0 : Nat) : Int)])) wr by
          rw [hyes.1, hyes.2]
          obtain ⟨h1, h2⟩ := VR.of_seg hs' hok
          subst h1
          exact ⟨A', c', rfl, h2, hok, hbw⟩)
        clear hyes hs' hbr hcbr hrl hok hbw Hd
        go_wp2_with fail
        go_ret2
        exact H.out
      · have hno := eD_no (b := bs) Hp.out (by
          unfold okD
          rw [if_pos Hb4.out, Hd.out]
          cases r with
          | nil => exact absurd hrl.symm hr0
          | cons a q => rfl)
        have H := Lib.hid (dpost_nil (w := w) (w' := wr) hno.1 hno.2 hbw)
        have hr1 : (0 : Int) < (nr : Int) := by omega
        clear hno hs' hbr hcbr hrl hok hbw Hd hr0
        go_wp2_with fail
        go_ret2
        exact H.out
end Go.Proofs.Ytcfdfimkgehdfaa.Dz

/-
  The signs of layer 2, and alive of its laws. Conditions: the numbers are of 64 bits.
-/
namespace Go.Proofs.Ytcfdfimkgehdfaa.Dz
set_option maxRecDepth 100000
open Go.RowKit

theorem sgn1 (n : Int) (h1 : -9223372036854775808 ≤ n) (h2 : n ≤ 9223372036854775807) : IntKind.u64.wrap (IntKind.u64.wrap n + 9223372036854775808) = n + 9223372036854775808 := by
  rw [IntKind.wrap_u64, IntKind.wrap_u64]
  omega
theorem sgn2 (n : Int) (h1 : 0 ≤ n) (h2 : n ≤ 18446744073709551615) : wrap64 (IntKind.u64.wrap (n - 9223372036854775808)) = n - 9223372036854775808 := by
  rw [IntKind.wrap_u64]
  unfold wrap64
  omega

theorem sign_c (n : Int) (w : World) (h1 : -9223372036854775808 ≤ n) (h2 : n ≤ 9223372036854775807) :
    Calls Try.prog 68 #[.int .i64 n] w fun e w' => e = .returned (.int .u64 (n + 9223372036854775808)) ∧ w = w' := by
  have H := Lib.hid (sgn1 n h1 h2)
  clear h1 h2
  go_enter Try.func68, Try.ntmps68
  go_wp2
  go_ret
  exact ⟨congrArg (fun x => Ending.returned (.int .u64 x)) H.out, rfl⟩

theorem unsign_c (n : Int) (w : World) (h1 : 0 ≤ n) (h2 : n ≤ 18446744073709551615) :
    Calls Try.prog 73 #[.int .u64 n] w fun e w' => e = .returned (.int .i64 (n - 9223372036854775808)) ∧ w = w' := by
  have H := Lib.hid (sgn2 n h1 h2)
  clear h1 h2
  go_enter Try.func73, Try.ntmps73
  go_wp2
  go_ret
  exact ⟨congrArg (fun x => Ending.returned (.int .i64 x)) H.out, rfl⟩

def aV : List CV := [⟨258, mkS []⟩, ⟨0, mkS [120]⟩]
theorem a_sh : bl (mkS [98, 116]) = [98, 116] := rfl
theorem a_e : eE [98, 116] aV = 0 := by rfl
theorem a_b : bE [98, 116] aV = [1, 2, 0, 1, 120] := by rfl
theorem a_p : properB [98, 116] = true := by rfl
theorem a_d : eD [98, 116] [1, 2, 0, 1, 120] = 0 ∧ lD [98, 116] [1, 2, 0, 1, 120] = aV := eD_yes a_p (okD_some.2 ⟨rfl, rfl, rfl, by decide⟩)
theorem a_s : eD [98, 116] [1, 2] = 4 := by rfl

end Go.Proofs.Ytcfdfimkgehdfaa.Dz
