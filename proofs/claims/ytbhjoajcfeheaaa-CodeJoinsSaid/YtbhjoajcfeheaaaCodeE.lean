/-
  The reader of package code: take, number, text and value. Conditions: the reader's struct is a block of its own, the bytes that it reads lie below it.
-/
import Derived.Test.YtbhjoajcfeheaaaCodeD
namespace Go.Proofs.Ytbhjoajcfeheaaa
open Go.RowKit

/-- A slice of bytes that can be read, below block B. -/
def BR (w : World) (B : Nat) (A : Option Addr) (n c : Nat) (bs : List UInt8) : Prop :=
  bs.length = n ∧ n ≤ c ∧ c ≤ maxLen ∧ (0 < n → ∃ g off, A = some ⟨g, off, none⟩ ∧ g < B ∧ ∀ i b, bs[i]? = some b → w.cell? ⟨g, off + i, none⟩ = some (.int .u8 (b.toNat : Int)))

section
variable {w w' : World} {B : Nat} {A : Option Addr} {n c : Nat} {bs : List UInt8}
theorem BR.nil (w : World) (B : Nat) : BR w B none 0 0 [] := ⟨rfl, Nat.le_refl _, Nat.zero_le _, fun h => by omega⟩
theorem BR.keep (h : BR w B A n c bs) (hk : ∀ g, g < B → w'.heap[g]? = w.heap[g]?) : BR w' B A n c bs := by
  refine ⟨h.1, h.2.1, h.2.2.1, fun hn => ?_⟩
  obtain ⟨g, off, h1, h2, h3⟩ := h.2.2.2 hn
  exact ⟨g, off, h1, h2, fun i b hb => (World.cell?_of_block (a := ⟨g, off + i, none⟩) (hk g h2)).trans (h3 i b hb)⟩
theorem BR.below {B' : Nat} (h : BR w B A n c bs) (hb : Below B' w w') (hB : B ≤ B') : BR w' B A n c bs := h.keep fun g hg => hb.block g (by omega)
theorem BR.more {B' : Nat} (h : BR w B A n c bs) (hB : B ≤ B') : BR w B' A n c bs :=
  ⟨h.1, h.2.1, h.2.2.1, fun hn => by obtain ⟨g, off, h1, h2, h3⟩ := h.2.2.2 hn; exact ⟨g, off, h1, by omega, h3⟩⟩
theorem BR.grown (h : BR w B A n c bs) {G : Option Nat} (hg : w.grownBy w' G) (hB : B ≤ w.heap.size) (hG : ∀ g, G = some g → B ≤ g) : BR w' B A n c bs :=
  h.keep fun g hgB => hg.block g (by omega) (fun e => by have := hG g e.symm; omega)
theorem BR.cut (h : BR w B A n c bs) {k : Nat} (hk : k ≤ n) : BR w B (if c = k then A else A.map (·.add (k * 1))) (n - k) (c - k) (bs.drop k) := by
  refine ⟨by rw [List.length_drop, h.1], by have := h.2.1; omega, by have := h.2.2.1; omega, fun hn => ?_⟩
  obtain ⟨g, off, rfl, h2, h3⟩ := h.2.2.2 (by omega)
  have hc : ¬ c = k := by have := h.2.1; omega
  refine ⟨g, off + k, by rw [if_neg hc]; simp [Addr.add_lit], h2, fun i b hb => ?_⟩
  rw [Nat.add_assoc]
  exact h3 _ b (by rw [← hb, List.getElem?_drop])
theorem BR.upto (h : BR w B A n c bs) {k : Nat} (hk : k ≤ n) : BR w B A k c (bs.take k) := by
  refine ⟨by rw [List.length_take, h.1]; omega, by have := h.2.1; omega, h.2.2.1, fun hn => ?_⟩
  obtain ⟨g, off, h1, h2, h3⟩ := h.2.2.2 (by omega)
  refine ⟨g, off, h1, h2, fun i b hb => h3 i b ?_⟩
  rw [List.getElem?_take] at hb
  split at hb
  · exact hb
  · cases hb
theorem BR.at_ (h : BR w B A n c bs) {i : Nat} (hi : i < n) : ∃ (g off : Nat) (b : UInt8), A = some ⟨g, off, none⟩ ∧ g < B ∧ Hid (bs[i]? = some b) ∧ w.cell? ⟨g, off + i, none⟩ = some (.int .u8 (b.toNat : Int)) := by
  obtain ⟨g, off, h1, h2, h3⟩ := h.2.2.2 (by omega)
  have hl : i < bs.length := by rw [h.1]; exact hi
  exact ⟨g, off, bs[i], h1, h2, List.getElem?_eq_getElem hl, h3 i _ (List.getElem?_eq_getElem hl)⟩
theorem BR.of_seg {e : TypeId} {G : Option Nat} (h : Seg w e 1 A n c (bc bs) G) : BR w w.heap.size A n c bs := by
  have h1 := h.1
  rw [bc_length] at h1
  refine ⟨by omega, h.2.1, h.2.2.1, fun hn => ?_⟩
  rcases h.2.2.2 with ⟨_, h0, _⟩ | ⟨g, off, cur, h1, h2, h3, _, h4⟩
  · have := h.2.1; omega
  · refine ⟨g, off, h1, h3.lt, fun i b hb => ?_⟩
    rw [h3.cell]
    exact h4 i _ (by unfold bc; rw [List.getElem?_map, hb]; rfl)
end

/-- A cut 's[k:]', its address under one name. -/
theorem run_cut_from {P : Program} (t e : TypeId) (ht : P.underlying t = some (.slice e)) (size : Nat) (hz : ∀ w, (sizeOf e).run P w = .ok size w) (A : Option Addr) (n c k : Nat) (hk : k ≤ n) (w : World) :
    (Instr.slice t (.slice A n c) (some (.int .i64 k)) none none).run P w = .ok (.slice (if c = k then A else A.map (·.add (k * size))) (n - k) (c - k)) w := by
  simp [Instr.slice, run_underlying ht, Instr.sliceBounds, hz, go_sem, hk]
/-- A cut 's[:k]'. -/
theorem run_cut_upto {P : Program} (t e : TypeId) (ht : P.underlying t = some (.slice e)) (size : Nat) (hz : ∀ w, (sizeOf e).run P w = .ok size w) (A : Option Addr) (n c k : Nat) (hk : k ≤ c) (w : World) :
    (Instr.slice t (.slice A n c) none (some (.int .i64 k)) none).run P w = .ok (.slice A k c) w := by
  simp [Instr.slice, run_underlying ht, Instr.sliceBounds, hz, go_sem, hk]
theorem Try.sizeB (w : World) : (sizeOf 5).run Try.prog w = .ok 1 w := by kernel_rfl

/-- A reader: its struct is block rb, what is left of its bytes lies below B. -/
def RD (w : World) (B rb : Nat) (bs : List UInt8) : Prop := B ≤ rb ∧ ∃ A n c, CB w rb 61 #[.slice A n c] ∧ BR w B A n c bs

def TPost (w : World) (B rb k : Nat) (bs : List UInt8) (e : Ending) (w' : World) : Prop :=
  ∃ A c, e = .returned (.tuple #[.slice A k c, .bool true]) ∧ BR w' B A k c (bs.take k) ∧ RD w' B rb (bs.drop k) ∧ w.grownBy w' (some rb)

theorem take_no (B rb k : Nat) (bs : List UInt8) (w : World) (hr : RD w B rb bs) (h : bs.length < k) :
    Calls Try.prog 36 #[.pointer (some ⟨rb, 0, none⟩), .int .i64 k] w fun e w' => e = .returned (.tuple #[.slice none 0 0, .bool false]) ∧ w = w' := by
  obtain ⟨hB, A, n, c, hcb, hbr⟩ := hr
  have h1 : (n : Int) < (k : Int) := by have := hbr.1; omega
  have c0 := hcb.cell 0
  simp at c0
  clear hcb hbr h
  go_enter Try.func36, Try.ntmps36
  go_wp2
  go_ret2
  exact ⟨rfl, rfl⟩

theorem grown_put {w w1 : World} {g : Nat} (h : w.grownBy w1 (some g)) (i : Nat) (u : Value) : w.grownBy (w1.setCell ⟨g, i, none⟩ u) (some g) :=
  ⟨h.os, h.tape, h.output, by simpa [World.setCell] using h.size, fun j hj hne => (Below.heap_setCell w1 ⟨g, i, none⟩ u j (fun e => hne (by rw [e]))).trans (h.block j hj hne)⟩

theorem take_ok (B rb k : Nat) (bs : List UInt8) (w : World) (hr : RD w B rb bs) (h : k ≤ bs.length) :
    Calls Try.prog 36 #[.pointer (some ⟨rb, 0, none⟩), .int .i64 k] w (TPost w B rb k bs) := by
  obtain ⟨hB, A, n, c, hcb, hbr⟩ := hr
  have hn := hbr.1
  have hnc := hbr.2.1
  have hcm := hbr.2.2.1
  simp only [maxLen] at hcm
  have h1 : ¬ (n : Int) < (k : Int) := by omega
  have c0 := hcb.cell 0
  have f0 := hcb.frozen 0
  simp at c0
  have hcut1 : ∀ W, (Instr.slice 25 (.slice A n c) (some (.int .i64 k)) none none).run Try.prog W = _ := fun W => run_cut_from (P := Try.prog) 25 5 Try.underlying25 1 Try.sizeB A n c k (by omega) W
  have hcut2 : ∀ W, (Instr.slice 25 (.slice A n c) none (some (.int .i64 k)) none).run Try.prog W = _ := fun W => run_cut_upto (P := Try.prog) 25 5 Try.underlying25 1 Try.sizeB A n c k (by omega) W
  have hc := hbr.cut (k := k) (by omega)
  have hu := hbr.upto (k := k) (by omega)
  generalize hA1 : (if c = k then A else A.map (fun x : Addr => x.add (k * 1))) = A1 at hcut1 hc
  have hend : TPost w B rb k bs (.returned (.tuple #[.slice A k c, .bool true])) (w.setCell ⟨rb, 0, none⟩ (.slice A1 (n - k) (c - k))) :=
    ⟨A, c, rfl, hu.keep (fun g hg => Below.heap_setCell w _ _ g (by simp only; omega)), ⟨hB, A1, n - k, c - k, by simpa using hcb.put 0 (.slice A1 (n - k) (c - k)), hc.keep (fun g hg => Below.heap_setCell w _ _ g (by simp only; omega))⟩, grown_put (World.grownBy.refl w _) 0 _⟩
  have H := Lib.hid hend
  clear hend hc hu hbr hcb hA1 hn h
  go_enter Try.func36, Try.ntmps36
  go_wp2
  go_ret2
  exact H.out

/-- A call of the reader gave a value back. -/
def NPost (w : World) (B rb : Nat) (v : CV) (ok : Bool) (rest : List UInt8) (e : Ending) (w' : World) : Prop :=
  e = .returned (.tuple #[.agg #[.int .u64 v.n, .string v.s], .bool ok]) ∧ RD w' B rb rest ∧ w.grownBy w' (some rb)

theorem RD.lt {w : World} {B rb : Nat} {bs : List UInt8} (h : RD w B rb bs) : rb < w.heap.size := by
  obtain ⟨_, A, n, c, hcb, _⟩ := h
  exact hcb.lt
theorem RD.below {w w' : World} {B rb : Nat} {bs : List UInt8} (h : RD w B rb bs) {B' : Nat} (hb : Below B' w w') (hB : w.heap.size ≤ B') : RD w' B rb bs := by
  have hlt := h.lt
  obtain ⟨h1, A, n, c, hcb, hbr⟩ := h
  exact ⟨h1, A, n, c, hcb.same (hb.block _ (by omega)), hbr.below hb (by omega)⟩
theorem RD.alloc {w : World} {B rb : Nat} {bs : List UInt8} (h : RD w B rb bs) (o : Obj) : RD (w.alloc o) B rb bs := h.below ((Below.refl _ w).alloc (Nat.le_refl _) o) (Nat.le_refl _)
theorem RD.far {w : World} {B rb : Nat} {bs : List UInt8} (h : RD w B rb bs) {p : Addr} (hp : rb < p.block) (u : Value) : RD (w.setCell p u) B rb bs := by
  obtain ⟨h1, A, n, c, hcb, hbr⟩ := h
  exact ⟨h1, A, n, c, hcb.far (by omega) u, hbr.keep (fun g hg => Below.heap_setCell w p u g (by omega))⟩

theorem val_lt64 (l : List UInt8) (h : l.length ≤ 8) : val l < 18446744073709551616 := by
  have h1 := val_lt l
  have h2 : 256 ^ l.length ≤ 256 ^ 8 := Nat.pow_le_pow_right (by omega) h
  have h3 : (256 : Nat) ^ 8 = 18446744073709551616 := by rfl
  omega
theorem val_step {bs : List UInt8} {k j : Nat} {b : UInt8} (hb : (bs.take k)[j]? = some b) : val ((bs.take k).take (j + 1)) = val ((bs.take k).take j) * 256 + b.toNat := by
  obtain ⟨h1, rfl⟩ := List.getElem?_eq_some_iff.1 hb
  rw [List.take_succ_eq_append_getElem h1, val_snoc]

theorem or_step (q : Nat) (b : UInt8) (h : q * 256 + b.toNat < 18446744073709551616) : bits .or .u64 (IntKind.u64.wrap ((q : Int) * 256)) (IntKind.u64.wrap (b.toNat : Int)) = ((q * 256 + b.toNat : Nat) : Int) := by
  have hb : b.toNat < 2 ^ 8 := b.toNat_lt
  have h1 : q * 256 < 18446744073709551616 := Nat.lt_of_le_of_lt (Nat.le_add_right _ _) h
  have h2 : b.toNat < 18446744073709551616 := Nat.lt_of_le_of_lt (Nat.le_add_left _ _) h
  have e1 : IntKind.u64.wrap ((q : Int) * 256) = ((q * 256 : Nat) : Int) := by rw [IntKind.wrap_u64]; omega
  have e2 : IntKind.u64.wrap (b.toNat : Int) = (b.toNat : Int) := by rw [IntKind.wrap_u64]; omega
  rw [e1, e2, u64_or_nat (q * 256) b.toNat h1 h2]
  have := Nat.shiftLeft_add_eq_or_of_lt hb q
  rw [Nat.shiftLeft_eq] at this
  rw [← this]
theorem grown_new {w w1 : World} {G : Option Nat} (h : w.grownBy w1 G) {p : Addr} (hp : w.heap.size ≤ p.block) (u : Value) : w.grownBy (w1.setCell p u) G :=
  ⟨h.os, h.tape, h.output, by simpa [World.setCell] using h.size, fun j hj hne => (Below.heap_setCell w1 p u j (by omega)).trans (h.block j hj hne)⟩

set_option maxHeartbeats 400000 in
theorem number_ok (B rb k : Nat) (bs : List UInt8) (w : World) (hr : RD w B rb bs) (hk : k ≤ 8) (h : k ≤ bs.length) :
    Calls Try.prog 34 #[.pointer (some ⟨rb, 0, none⟩), .int .i64 k] w (NPost w B rb ⟨val (bs.take k), mkS []⟩ true (bs.drop k)) := by
  have hrb := hr.lt
  go_enter Try.func34, Try.ntmps34
  go_wp2_with fail
  refine (take_ok B rb k bs _ (hr.alloc _) h).mono ?_
  rintro e w2 ⟨A2, c2, rfl, hb2, hr2, hg2⟩
  have z2 : w.heap.size < w2.heap.size := by have := hg2.size; simp at this; omega
  have hz := hr2.1
  have hcb4 : CB w2 w.heap.size 48 #[.int .u64 0, .string (mkS [])] := (CB.new w _ _).same (hg2.block _ (by simp) (by simp; omega))
  have hg0 : w.grownBy w2 (some rb) := grown_trans (grown_alloc (World.grownBy.refl w _) _) (.inl rfl) hg2
  clear hg2 hr h
  go_wp2_with fail
  go_loopw [19] (fun i wr => ∃ j q : Nat, j ≤ k ∧ i = .int .i64 j ∧ Hid (q = val ((bs.take k).take j)) ∧ CB wr w2.heap.size 48 #[.int .u64 q, .string (mkS [])] ∧ CB wr w.heap.size 48 #[.int .u64 0, .string (mkS [])] ∧ RD wr B rb (bs.drop k) ∧ BR wr B A2 k c2 (bs.take k) ∧ w.grownBy wr (some rb)) (fun i _ => k - (intOf i).toNat)
  case atStart =>
    exact ⟨0, 0, by omega, rfl, rfl, CB.new _ _ _, hcb4.alloc _, hr2.alloc _, hb2.below ((Below.refl _ w2).alloc (Nat.le_refl _) _) (by omega), grown_alloc hg0 _⟩
  case round =>
    clear hb2 hr2 hcb4 hg0
    obtain ⟨j, q, hj, rfl, Hq, hcb8, hcb4, hrr, hbb, hgg⟩ := hrel
    have d0 := hcb8.cell 0
    have d1 := hcb8.cell 1
    have f0 := hcb8.frozen 0
    simp at d0 d1
    by_cases hlt : j < k
    · obtain ⟨g, off, b, rfl, hgB, Hb, cb⟩ := hbb.at_ hlt
      have HV := Lib.hid (val_step Hb.out)
      have h64 := val_lt64 ((bs.take k).take (j + 1)) (by rw [List.length_take]; omega)
      have HO := Lib.hid (or_step q b (by rw [Hq.out, ← HV.out]; exact h64))
      clear h64
      go_wp2_with fail
      rw [HO.out]
      go_roundw
      case rel =>
        refine ⟨j + 1, q * 256 + b.toNat, by omega, by go_num, ?_, by simpa using hcb8.put 0 (.int .u64 ((q * 256 + b.toNat : Nat) : Int)), hcb4.far (by simp only; omega) _, hrr.far (by simp only; omega) _, hbb.keep (fun g hg => Below.heap_setCell wr _ _ g (by simp only; omega)), grown_new hgg (by simp only; omega) _⟩
        show _ = _
        rw [HV.out, Hq.out]
      case measure => simp [intOf]; omega
    · obtain rfl : j = k := by omega
      have e0 := hcb4.cell 0
      have e1 := hcb4.cell 1
      have g0 := hcb4.frozen 0
      have g1 := hcb4.frozen 1
      simp at e0 e1
      have HQ := Lib.hid (show q = val (bs.take j) by rw [Hq.out, List.take_of_length_le (by rw [List.length_take]; omega)])
      have hcbF : CB ((wr.setCell ⟨w.heap.size, 0, none⟩ (.int .u64 q)).setCell ⟨w.heap.size, 1, none⟩ (.string (mkS []))) w.heap.size 48 #[.int .u64 q, .string (mkS [])] := by simpa using (hcb4.put 0 (.int .u64 q)).put 1 (.string (mkS []))
      have hrF : RD ((wr.setCell ⟨w.heap.size, 0, none⟩ (.int .u64 q)).setCell ⟨w.heap.size, 1, none⟩ (.string (mkS []))) B rb (bs.drop j) := (hrr.far (by simp only; omega) _).far (by simp only; omega) _
      have hgF : w.grownBy ((wr.setCell ⟨w.heap.size, 0, none⟩ (.int .u64 q)).setCell ⟨w.heap.size, 1, none⟩ (.string (mkS []))) (some rb) := grown_new (grown_new hgg (by simp only; omega) _) (by simp only; omega) _
      go_wp2_with fail
      generalize (wr.setCell ⟨w.heap.size, 0, none⟩ (.int .u64 q)).setCell ⟨w.heap.size, 1, none⟩ (.string (mkS [])) = W at *
      have x0 := hcbF.cell 0
      have x1 := hcbF.cell 1
      simp at x0 x1
      refine bodyPost_ret (v := .tuple #[.agg #[.int .u64 q, .string (mkS [])], .bool true]) (by simp [results, Try.results34, go_sem, x0, x1]) rfl ⟨by rw [HQ.out], hrF, hgF⟩

set_option maxHeartbeats 400000 in
theorem number_no (B rb k : Nat) (bs : List UInt8) (w : World) (hr : RD w B rb bs) (h : bs.length < k) :
    Calls Try.prog 34 #[.pointer (some ⟨rb, 0, none⟩), .int .i64 k] w (NPost w B rb ⟨0, mkS []⟩ false bs) := by
  have hrb := hr.lt
  have hz := hr.1
  go_enter Try.func34, Try.ntmps34
  go_wp2_with fail
  refine (take_no B rb k bs _ (hr.alloc _) h).mono ?_
  rintro e w2 ⟨rfl, rfl⟩
  have hcb4 : CB ((w.alloc (.cells #[.int .u64 0, .string ⟨#[]⟩] 48)).alloc (.cells #[.int .u64 0, .string ⟨#[]⟩] 48)) w.heap.size 48 #[.int .u64 0, .string (mkS [])] := (CB.new w _ _).alloc _
  have hcb8 : CB ((w.alloc (.cells #[.int .u64 0, .string ⟨#[]⟩] 48)).alloc (.cells #[.int .u64 0, .string ⟨#[]⟩] 48)) (w.heap.size + 1) 48 #[.int .u64 0, .string (mkS [])] := by
    have := CB.new (w.alloc (.cells #[.int .u64 0, .string ⟨#[]⟩] 48)) 48 #[.int .u64 0, .string ⟨#[]⟩]
    rw [show (w.alloc (.cells #[.int .u64 0, .string ⟨#[]⟩] 48)).heap.size = w.heap.size + 1 by simp] at this
    exact this
  have hr1 : RD ((w.alloc (.cells #[.int .u64 0, .string ⟨#[]⟩] 48)).alloc (.cells #[.int .u64 0, .string ⟨#[]⟩] 48)) B rb bs := (hr.alloc _).alloc _
  have hg1 : w.grownBy ((w.alloc (.cells #[.int .u64 0, .string ⟨#[]⟩] 48)).alloc (.cells #[.int .u64 0, .string ⟨#[]⟩] 48)) (some rb) := grown_alloc (grown_alloc (World.grownBy.refl w _) _) _
  clear hr h
  go_wp2_with fail
  generalize (w.alloc (.cells #[.int .u64 0, .string ⟨#[]⟩] 48)).alloc (.cells #[.int .u64 0, .string ⟨#[]⟩] 48) = W at *
  have d0 := hcb8.cell 0
  have d1 := hcb8.cell 1
  have e0 := hcb4.cell 0
  have e1 := hcb4.cell 1
  have g0 := hcb4.frozen 0
  have g1 := hcb4.frozen 1
  simp at d0 d1 e0 e1
  go_loop [19] (fun i => i = .int .i64 0) (fun _ => 0)
  case atStart => rfl
  case round =>
    subst hrel
    have hcbF : CB ((W.setCell ⟨w.heap.size, 0, none⟩ (.int .u64 0)).setCell ⟨w.heap.size, 1, none⟩ (.string (mkS []))) w.heap.size 48 #[.int .u64 0, .string (mkS [])] := by simpa using (hcb4.put 0 (.int .u64 0)).put 1 (.string (mkS []))
    have hrF : RD ((W.setCell ⟨w.heap.size, 0, none⟩ (.int .u64 0)).setCell ⟨w.heap.size, 1, none⟩ (.string (mkS []))) B rb bs := (hr1.far (by simp only; omega) _).far (by simp only; omega) _
    have hgF : w.grownBy ((W.setCell ⟨w.heap.size, 0, none⟩ (.int .u64 0)).setCell ⟨w.heap.size, 1, none⟩ (.string (mkS []))) (some rb) := grown_new (grown_new hg1 (by simp only; omega) _) (by simp only; omega) _
    go_wp2_with fail
    generalize (W.setCell ⟨w.heap.size, 0, none⟩ (.int .u64 0)).setCell ⟨w.heap.size, 1, none⟩ (.string (mkS [])) = W' at *
    have x0 := hcbF.cell 0
    have x1 := hcbF.cell 1
    simp at x0 x1
    exact bodyPost_ret (v := .tuple #[.agg #[.int .u64 0, .string (mkS [])], .bool false]) (by simp [results, Try.results34, go_sem, x0, x1]) rfl ⟨rfl, hrF, hgF⟩

theorem conv_br {w : World} {B : Nat} {A : Option Addr} {n c : Nat} {bs : List UInt8} (h : BR w B A n c bs) : (convert 25 9 (.slice A n c)).run Try.prog w = .ok (.string (mkS bs)) w := by
  have e : mkS bs = strOfNums (bs.map fun b => (b.toNat : Int)) := by
    apply bl_inj
    rw [bl_mkS]
    unfold bl
    rw [strOfNums_data, List.map_map]
    conv => lhs; rw [← List.map_id bs]
    apply List.map_congr_left
    intro b _
    simp
  rcases Nat.eq_zero_or_pos n with h0 | h0
  · subst h0
    obtain rfl : bs = [] := List.eq_nil_of_length_eq_zero h.1
    rcases A with _ | ⟨g, off, sp⟩
    · rw [run_convert_bytes_nil (P := Try.prog) w 25 5 Try.underlying25 Try.underlying5 0 c 9 Try.underlying9]
      rfl
    · rw [run_convert_bytes_string (P := Try.prog) w 25 9 5 _ 0 c Try.underlying25 Try.underlying5 Try.underlying9]
      rw [run_bytesToString (P := Try.prog) w ⟨g, off, sp⟩ 0 c [] (by simpa using run_loadCells_list (P := Try.prog) w ⟨g, off, sp⟩ [] (fun j v hj => by simp at hj))]
      rfl
  · obtain ⟨g, off, rfl, _, hc⟩ := h.2.2.2 h0
    rw [run_convert_bytes_arg (P := Try.prog) w 25 5 Try.underlying25 Try.underlying5 g off n c (bs.map fun b => (b.toNat : Int)) (by rw [List.length_map]; exact h.1) (fun i hi => by
      have hl : i < bs.length := by rw [h.1]; exact hi
      rw [hc i bs[i] (List.getElem?_eq_getElem hl)]
      simp [List.getD, List.getElem?_eq_getElem hl]) 9 Try.underlying9, e]

end Go.Proofs.Ytbhjoajcfeheaaa
