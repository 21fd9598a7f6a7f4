/-
  The reader of package code: take, number, text and value. Conditions: the reader's struct is a block of its own, the bytes that it reads lie below it.
-/
import Derived.Test.YtcfdfimkgehdfaaNCodeD
namespace Go.Proofs.Ytcfdfimkgehdfaa.Dk
set_option maxRecDepth 100000
open Go.RowKit


/-- A reader: its struct is block rb, what is left of its bytes lies below B. -/
def RD (w : World) (B rb : Nat) (bs : List UInt8) : Prop := B ≤ rb ∧ ∃ A n c, CB w rb 163 #[.slice A n c] ∧ BR w B A n c bs

def TPost (w : World) (B rb k : Nat) (bs : List UInt8) (e : Ending) (w' : World) : Prop :=
  ∃ A c, e = .returned (.tuple #[.slice A k c, .bool true]) ∧ BR w' B A k c (bs.take k) ∧ RD w' B rb (bs.drop k) ∧ w.grownBy w' (some rb)

theorem take_no (B rb k : Nat) (bs : List UInt8) (w : World) (hr : RD w B rb bs) (h : bs.length < k) :
    Calls Try.prog 89 #[.pointer (some ⟨rb, 0, none⟩), .int .i64 k] w fun e w' => e = .returned (.tuple #[.slice none 0 0, .bool false]) ∧ w = w' := by
  obtain ⟨hB, A, n, c, hcb, hbr⟩ := hr
  have h1 : (n : Int) < (k : Int) := by have := hbr.1; omega
  have c0 := hcb.cell 0
  simp at c0
  clear hcb hbr h
  go_enter Try.func89, Try.ntmps89
  go_wp2
  go_ret2
  exact ⟨rfl, rfl⟩

theorem take_ok (B rb k : Nat) (bs : List UInt8) (w : World) (hr : RD w B rb bs) (h : k ≤ bs.length) :
    Calls Try.prog 89 #[.pointer (some ⟨rb, 0, none⟩), .int .i64 k] w (TPost w B rb k bs) := by
  obtain ⟨hB, A, n, c, hcb, hbr⟩ := hr
  have hn := hbr.1
  have hnc := hbr.2.1
  have hcm := hbr.2.2.1
  simp only [maxLen] at hcm
  have h1 : ¬ (n : Int) < (k : Int) := by omega
  have c0 := hcb.cell 0
  have f0 := hcb.frozen 0
  simp at c0
  have hcut1 : ∀ W, (Instr.slice 30 (.slice A n c) (some (.int .i64 k)) none none).run Try.prog W = _ := fun W => run_cut_from (P := Try.prog) 30 5 Try.underlying30 1 Try.sizeB A n c k (by omega) W
  have hcut2 : ∀ W, (Instr.slice 30 (.slice A n c) none (some (.int .i64 k)) none).run Try.prog W = _ := fun W => run_cut_upto (P := Try.prog) 30 5 Try.underlying30 1 Try.sizeB A n c k (by omega) W
  have hc := hbr.cut (k := k) (by omega)
  have hu := hbr.upto (k := k) (by omega)
  generalize hA1 : (if c = k then A else A.map (fun x : Addr => x.add (k * 1))) = A1 at hcut1 hc
  have hend : TPost w B rb k bs (.returned (.tuple #[.slice A k c, .bool true])) (w.setCell ⟨rb, 0, none⟩ (.slice A1 (n - k) (c - k))) :=
    ⟨A, c, rfl, hu.keep (fun g hg => Below.heap_setCell w _ _ g (by simp only; omega)), ⟨hB, A1, n - k, c - k, by simpa using hcb.put 0 (.slice A1 (n - k) (c - k)), hc.keep (fun g hg => Below.heap_setCell w _ _ g (by simp only; omega))⟩, grown_put (World.grownBy.refl w _) 0 _⟩
  have H := Lib.hid hend
  clear hend hc hu hbr hcb hA1 hn h
  go_enter Try.func89, Try.ntmps89
  go_wp2
  go_ret2
  exact H.out

/-- A call of the reader gave a value back. -/
def NPost (w : World) (B rb : Nat) (v : CV) (ok : Bool) (rest : List UInt8) (e : Ending) (w' : World) : Prop :=
  e = .returned (.tuple #[.agg #[.int .u64 v.n, .string v.s], .bool ok]) ∧ RD w' B rb rest ∧ w.grownBy w' (some rb)

theorem RD.lt {w : World} {B rb : Nat} {bs : List UInt8} (h : RD w B rb bs) : rb < w.heap.size := by
  obtain ⟨_, A, n, c, hcb, _⟩ := h
  exact hcb.lt
theorem RD.below {w w' : World} {B rb : Nat} {bs : List UInt8} (h : RD w B rb bs) {B' : Nat} (hb : Below B' w w') (hB : w.heap.size ≤ B') : RD w' B rb bs := by
  have hlt := h.lt
  obtain ⟨h1, A, n, c, hcb, hbr⟩ := h
  exact ⟨h1, A, n, c, hcb.same (hb.block _ (by omega)), hbr.below hb (by omega)⟩
theorem RD.alloc {w : World} {B rb : Nat} {bs : List UInt8} (h : RD w B rb bs) (o : Obj) : RD (w.alloc o) B rb bs := h.below ((Below.refl _ w).alloc (Nat.le_refl _) o) (Nat.le_refl _)
theorem RD.far {w : World} {B rb : Nat} {bs : List UInt8} (h : RD w B rb bs) {p : Addr} (hp : rb < p.block) (u : Value) : RD (w.setCell p u) B rb bs := by
  obtain ⟨h1, A, n, c, hcb, hbr⟩ := h
  exact ⟨h1, A, n, c, hcb.far (by omega) u, hbr.keep (fun g hg => Below.heap_setCell w p u g (by omega))⟩

set_option maxHeartbeats 400000 in
theorem number_ok (B rb k : Nat) (bs : List UInt8) (w : World) (hr : RD w B rb bs) (hk : k ≤ 8) (h : k ≤ bs.length) :
    Calls Try.prog 87 #[.pointer (some ⟨rb, 0, none⟩), .int .i64 k] w (NPost w B rb ⟨val (bs.take k), mkS []⟩ true (bs.drop k)) := by
  have hrb := hr.lt
  go_enter Try.func87, Try.ntmps87
  go_wp2_with fail
  refine (take_ok B rb k bs _ (hr.alloc _) h).mono ?_
  rintro e w2 ⟨A2, c2, rfl, hb2, hr2, hg2⟩
  have z2 : w.heap.size < w2.heap.size := by have := hg2.size; simp at this; omega
  have hz := hr2.1
  have hcb4 : CB w2 w.heap.size 142 #[.int .u64 0, .string (mkS [])] := (CB.new w _ _).same (hg2.block _ (by simp) (by simp; omega))
  have hg0 : w.grownBy w2 (some rb) := grown_trans (grown_alloc (World.grownBy.refl w _) _) (.inl rfl) hg2
  clear hg2 hr h
  go_wp2_with fail
  go_loopw [19] (fun i wr => ∃ j q : Nat, j ≤ k ∧ i = .int .i64 j ∧ Hid (q = val ((bs.take k).take j)) ∧ CB wr w2.heap.size 142 #[.int .u64 q, .string (mkS [])] ∧ CB wr w.heap.size 142 #[.int .u64 0, .string (mkS [])] ∧ RD wr B rb (bs.drop k) ∧ BR wr B A2 k c2 (bs.take k) ∧ w.grownBy wr (some rb)) (fun i _ => k - (intOf i).toNat)
  case atStart =>
    exact ⟨0, 0, by omega, rfl, rfl, CB.new _ _ _, hcb4.alloc _, hr2.alloc _, hb2.below ((Below.refl _ w2).alloc (Nat.le_refl _) _) (by omega), grown_alloc hg0 _⟩
  case round =>
    clear hb2 hr2 hcb4 hg0
    obtain ⟨j, q, hj, rfl, Hq, hcb8, hcb4, hrr, hbb, hgg⟩ := hrel
    have d0 := hcb8.cell 0
    have d1 := hcb8.cell 1
    have f0 := hcb8.frozen 0
    simp at d0 d1
    by_cases hlt : j < k
    · obtain ⟨g, off, b, rfl, hgB, Hb, cb⟩ := hbb.at_ hlt
      have HV := Lib.hid (val_step Hb.out)
      have h64 := val_lt64 ((bs.take k).take (j + 1)) (by rw [List.length_take]; omega)
      have HO := Lib.hid (or_step q b (by rw [Hq.out, ← HV.out]; exact h64))
      clear h64
      go_wp2_with fail
      rw [HO.out]
      go_roundw
      case rel =>
        refine ⟨j + 1, q * 256 + b.toNat, by omega, by go_num, ?_, by simpa using hcb8.put 0 (.int .u64 ((q * 256 + b.toNat : Nat) : Int)), hcb4.far (by simp only; omega) _, hrr.far (by simp only; omega) _, hbb.keep (fun g hg => Below.heap_setCell wr _ _ g (by simp only; omega)), grown_new hgg (by simp only; omega) _⟩
        show _ = _
        rw [HV.out, Hq.out]
      case measure => simp [intOf]; omega
    · obtain rfl : j = k := by omega
      have e0 := hcb4.cell 0
      have e1 := hcb4.cell 1
      have g0 := hcb4.frozen 0
      have g1 := hcb4.frozen 1
      simp at e0 e1
      have HQ := Lib.hid (show q = val (bs.take j) by rw [Hq.out, List.take_of_length_le (by rw [List.length_take]; omega)])
      have hcbF : CB ((wr.setCell ⟨w.heap.size, 0, none⟩ (.int .u64 q)).setCell ⟨w.heap.size, 1, none⟩ (.string (mkS []))) w.heap.size 142 #[.int .u64 q, .string (mkS [])] := by simpa using (hcb4.put 0 (.int .u64 q)).put 1 (.string (mkS []))
      have hrF : RD ((wr.setCell ⟨w.heap.size, 0, none⟩ (.int .u64 q)).setCell ⟨w.heap.size, 1, none⟩ (.string (mkS []))) B rb (bs.drop j) := (hrr.far (by simp only; omega) _).far (by simp only; omega) _
      have hgF : w.grownBy ((wr.setCell ⟨w.heap.size, 0, none⟩ (.int .u64 q)).setCell ⟨w.heap.size, 1, none⟩ (.string (mkS []))) (some rb) := grown_new (grown_new hgg (by simp only; omega) _) (by simp only; omega) _
      go_wp2_with fail
      generalize (wr.setCell ⟨w.heap.size, 0, none⟩ (.int .u64 q)).setCell ⟨w.heap.size, 1, none⟩ (.string (mkS [])) = W at *
      have x0 := hcbF.cell 0
      have x1 := hcbF.cell 1
      simp at x0 x1
      refine bodyPost_ret (v := .tuple #[.agg #[.int .u64 q, .string (mkS [])], .bool true]) (by simp [results, Try.results87, go_sem, x0, x1]) rfl ⟨by rw [HQ.out], hrF, hgF⟩

set_option maxHeartbeats 400000 in
theorem number_no (B rb k : Nat) (bs : List UInt8) (w : World) (hr : RD w B rb bs) (h : bs.length < k) :
    Calls Try.prog 87 #[.pointer (some ⟨rb, 0, none⟩), .int .i64 k] w (NPost w B rb ⟨0, mkS []⟩ false bs) := by
  have hrb := hr.lt
  have hz := hr.1
  go_enter Try.func87, Try.ntmps87
  go_wp2_with fail
  refine (take_no B rb k bs _ (hr.alloc _) h).mono ?_
  rintro e w2 ⟨rfl, rfl⟩
  have hcb4 : CB ((w.alloc (.cells #[.int .u64 0, .string ⟨#[]⟩] 142)).alloc (.cells #[.int .u64 0, .string ⟨#[]⟩] 142)) w.heap.size 142 #[.int .u64 0, .string (mkS [])] := (CB.new w _ _).alloc _
  have hcb8 : CB ((w.alloc (.cells #[.int .u64 0, .string ⟨#[]⟩] 142)).alloc (.cells #[.int .u64 0, .string ⟨#[]⟩] 142)) (w.heap.size + 1) 142 #[.int .u64 0, .string (mkS [])] := by
    have := CB.new (w.alloc (.cells #[.int .u64 0, .string ⟨#[]⟩] 142)) 142 #[.int .u64 0, .string ⟨#[]⟩]
    rw [show (w.alloc (.cells #[.int .u64 0, .string ⟨#[]⟩] 142)).heap.size = w.heap.size + 1 by simp] at this
    exact this
  have hr1 : RD ((w.alloc (.cells #[.int .u64 0, .string ⟨#[]⟩] 142)).alloc (.cells #[.int .u64 0, .string ⟨#[]⟩] 142)) B rb bs := (hr.alloc _).alloc _
  have hg1 : w.grownBy ((w.alloc (.cells #[.int .u64 0, .string ⟨#[]⟩] 142)).alloc (.cells #[.int .u64 0, .string ⟨#[]⟩] 142)) (some rb) := grown_alloc (grown_alloc (World.grownBy.refl w _) _) _
  clear hr h
  go_wp2_with fail
  generalize (w.alloc (.cells #[.int .u64 0, .string ⟨#[]⟩] 142)).alloc (.cells #[.int .u64 0, .string ⟨#[]⟩] 142) = W at *
  have d0 := hcb8.cell 0
  have d1 := hcb8.cell 1
  have e0 := hcb4.cell 0
  have e1 := hcb4.cell 1
  have g0 := hcb4.frozen 0
  have g1 := hcb4.frozen 1
  simp at d0 d1 e0 e1
  go_loop [19] (fun i => i = .int .i64 0) (fun _ => 0)
  case atStart => rfl
  case round =>
    subst hrel
    have hcbF : CB ((W.setCell ⟨w.heap.size, 0, none⟩ (.int .u64 0)).setCell ⟨w.heap.size, 1, none⟩ (.string (mkS []))) w.heap.size 142 #[.int .u64 0, .string (mkS [])] := by simpa using (hcb4.put 0 (.int .u64 0)).put 1 (.string (mkS []))
    have hrF : RD ((W.setCell ⟨w.heap.size, 0, none⟩ (.int .u64 0)).setCell ⟨w.heap.size, 1, none⟩ (.string (mkS []))) B rb bs := (hr1.far (by simp only; omega) _).far (by simp only; omega) _
    have hgF : w.grownBy ((W.setCell ⟨w.heap.size, 0, none⟩ (.int .u64 0)).setCell ⟨w.heap.size, 1, none⟩ (.string (mkS []))) (some rb) := grown_new (grown_new hg1 (by simp only; omega) _) (by simp only; omega) _
    go_wp2_with fail
    generalize (W.setCell ⟨w.heap.size, 0, none⟩ (.int .u64 0)).setCell ⟨w.heap.size, 1, none⟩ (.string (mkS [])) = W' at *
    have x0 := hcbF.cell 0
    have x1 := hcbF.cell 1
    simp at x0 x1
    exact bodyPost_ret (v := .tuple #[.agg #[.int .u64 0, .string (mkS [])], .bool false]) (by simp [results, Try.results87, go_sem, x0, x1]) rfl ⟨rfl, hrF, hgF⟩

end Go.Proofs.Ytcfdfimkgehdfaa.Dk
