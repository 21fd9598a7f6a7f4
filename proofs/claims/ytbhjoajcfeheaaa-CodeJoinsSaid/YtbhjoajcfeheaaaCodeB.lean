/-
  Bytes in memory: a slice of bytes of a call's own that grows by bytes and by strings; appendNumber of package code, number of the document's answer. Conditions: the slice is one of the call's own (Seg), numbers are of 64 bits and of 8 bytes at most.
-/
import Derived.Test.YtbhjoajcfeheaaaCodeA
import Derived.Test.YtbhjoajcfeheaaaMemC
import Derived.Lib.AppendStr
namespace Go.Proofs.Ytbhjoajcfeheaaa
open Go.RowKit

/-- Bytes as cells. -/
def bc (l : List UInt8) : List Value := l.map fun b => .int .u8 (b.toNat : Int)
theorem bc_length (l : List UInt8) : (bc l).length = l.length := List.length_map _
theorem bc_append (l m : List UInt8) : bc (l ++ m) = bc l ++ bc m := List.map_append
theorem bc_str (s : ByteArray) : Lib.strCells s = bc (bl s) := rfl
theorem bc_one (l : List UInt8) : ∀ u ∈ bc l, u.oneCell' = true := by
  intro u hu
  simp only [bc, List.mem_map] at hu
  obtain ⟨b, _, rfl⟩ := hu
  rfl

theorem grown_trans {w w1 w2 : World} {G G1 : Option Nat} (h : w.grownBy w1 G) (hm : Moved w G G1) (k : w1.grownBy w2 G1) : w.grownBy w2 G :=
  ⟨k.os.trans h.os, k.tape.trans h.tape, k.output.trans h.output, Nat.le_trans h.size k.size, fun i hi hne => (k.block i (Nat.lt_of_lt_of_le hi h.size) (by
    rcases hm with rfl | ⟨g, rfl, hg⟩
    · exact hne
    · intro e; cases e; omega)).trans (h.block i hi hne)⟩
theorem grown_alloc {w w1 : World} {G : Option Nat} (h : w.grownBy w1 G) (o : Obj) : w.grownBy (w1.alloc o) G :=
  ⟨h.os, h.tape, h.output, Nat.le_trans h.size (by simp), fun i hi hne => (Below.heap_alloc w1 o i (Nat.lt_of_lt_of_le hi h.size)).trans (h.block i hi hne)⟩
theorem grown_drewN {w w1 : World} {G : Option Nat} (h : w.grownBy w1 G) (n : Nat) : w.grownBy (w1.drewN n) G := ⟨h.os, h.tape, h.output, h.size, h.block⟩
theorem grown_below {w w1 : World} {G : Option Nat} (h : w.grownBy w1 G) {B : Nat} (hB : B ≤ w.heap.size) (hG : ∀ g, G = some g → B ≤ g) : Below B w w1 :=
  ⟨h.os, h.tape, h.output, h.size, fun i hi => h.block i (by omega) (fun e => by have := hG i e.symm; omega)⟩
theorem below_grown {w w1 : World} (h : Below w.heap.size w w1) (G : Option Nat) : w.grownBy w1 G := ⟨h.os, h.tape, h.output, h.size, fun i hi _ => h.block i hi⟩
theorem Moved.ge {w : World} {G G' : Option Nat} (h : Moved w G G') {B : Nat} (hB : B ≤ w.heap.size) (hG : ∀ g, G = some g → B ≤ g) : ∀ g, G' = some g → B ≤ g := by
  rcases h with rfl | ⟨g, rfl, hg⟩
  · exact hG
  · intro g' e; cases e; omega
theorem Moved.of_size {w w1 : World} {G G' : Option Nat} (h : Moved w1 G G') (hs : w.heap.size ≤ w1.heap.size) : Moved w G G' := by
  rcases h with rfl | ⟨g, rfl, hg⟩
  · exact .inl rfl
  · exact .inr ⟨g, rfl, by omega⟩

section
variable {P : Program} (w : World)
theorem run_append_seg_string (t u ty e : TypeId) (i : TypeInfo) (ht : P.underlying t = some (.slice e)) (hu : P.underlying u = some .string) (hi : P.info? e = some i) (hz : i.zero = some (.int .u8 0)) (hsize : i.size = 1) (hby : i.bytes = 1)
    {A : Option Addr} {n c : Nat} {xs : List Value} {G : Option Nat} (h : Seg w e 1 A n c xs G) (s : ByteArray) (h63 : n + s.size ≤ maxLen) (hbytes : n + s.size ≤ 140737488355328) :
    ∃ A' c' G' w', (Builtin.append_ #[t, u] ty #[.slice A n c, .string s]).run P w = .ok (.slice A' (n + s.size) c') w' ∧ Seg w' e 1 A' (n + s.size) c' (xs ++ Lib.strCells s) G' ∧ w.grownBy w' G ∧ Moved w G G' := by
  have hlen := h.1
  have hnc := h.2.1
  have hcm := h.2.2.1
  have hsl := Lib.strCells_length s
  have hsmall : n + s.size ≤ 9223372036854775807 := by simp only [maxLen] at h63; omega
  rcases h.2.2.2 with ⟨rfl, rfl, rfl⟩ | ⟨g, off, cur, rfl, rfl, hb, hfit, hcells⟩
  · obtain rfl : n = 0 := by omega
    obtain rfl : xs = [] := List.eq_nil_of_length_eq_zero (by simpa using hlen)
    obtain ⟨v', w', hrun, r1, r2, r3⟩ := Lib.run_append_own_string (P := P) w w.heap.size t u ty e i ht hu hi hz hsize hby (.slice none 0 0) 0 [] (World.ownsRow_nil w _ e 1) s h63 hbytes (Nat.le_refl _)
    by_cases hm : s.size = 0
    · obtain rfl := r3.2 ⟨rfl, hm⟩
      have hn : Lib.strCells s = [] := List.eq_nil_of_length_eq_zero (by rw [hsl]; exact hm)
      refine ⟨none, 0, none, w', by rw [hrun, hm], ?_, r2, .inl rfl⟩
      rw [hm, hn]
      exact Seg.nil _ _ _
    · obtain ⟨g, c', rfl, hg, hs⟩ := Seg.of_own r1 (by omega)
      exact ⟨_, c', some g, w', hrun, hs, r2, .inr ⟨g, rfl, hg⟩⟩
  · by_cases hr : n + s.size ≤ c
    · have hf := Lib.run_firstCells_string (P := P) w 1 s
      have hst := run_storeCells_cells (P := P) g (off + n) (Lib.strCells s) 0 w (fun j hj => by rw [hb.cell, Array.getElem?_eq_getElem (by omega)]; rfl) (fun j _ => hb.frozen _) (Lib.strCells_oneCell s)
      simp only [Nat.add_zero] at hst
      obtain ⟨cs', k1, k2, k3, k4⟩ := hb.puts (Lib.strCells s) (off + n) (by omega)
      refine ⟨some ⟨g, off, none⟩, c, some g, w.setCells g (off + n) (Lib.strCells s), ?_, ⟨by rw [List.length_append, hlen, hsl, Nat.mul_one, Nat.mul_one], hr, hcm, .inr ⟨g, off, cs', rfl, rfl, k1, by rw [k2]; exact hfit, fun j u hu => ?_⟩⟩, setCells_grown g _ _ w, .inl rfl⟩
      · simp [Builtin.append_, run_underlying ht, run_underlying hu, sizeOf, typeInfo, hi, hsize, Builtin.lenOf, hr, hf, Addr.add_lit, hst]
      · by_cases hj : j < xs.length
        · rw [List.getElem?_append_left hj] at hu
          rw [k4 _ (by omega)]
          exact hcells j u hu
        · rw [List.getElem?_append_right (by omega)] at hu
          have hjl : j - xs.length < (Lib.strCells s).length := (List.getElem?_eq_some_iff.1 hu).1
          have := k3 (j - xs.length) hjl
          rw [show off + n + (j - xs.length) = off + j by omega] at this
          rw [this]
          exact hu
    · have hrun := Lib.run_append_grow_string (P := P) w t u ty e i (.int .u8 0) ht hu hi hz ⟨g, off, none⟩ n c xs (by rw [hsize]; exact hlen) (fun j v hj => by rw [Addr.add_lit, hb.cell]; exact hcells j v hj) s (by omega) (by omega) (by rw [hby]; exact growslice_fits (by omega) (by omega))
      have hge := grownCap_ge w (n + s.size) c e
      have hcm' : grownCap w (n + s.size) c e ≤ maxLen := grownCap_le_maxLen w (n + s.size) c e h63
      refine ⟨_, _, some w.heap.size, _, hrun, ⟨by rw [List.length_append, hlen, hsl, Nat.mul_one, Nat.mul_one], hge, hcm', .inr ⟨w.heap.size, 0, _, rfl, rfl, heap_alloc_new w.drew _, ?_, fun j u hu => ?_⟩⟩, ⟨rfl, rfl, rfl, by simp, fun k hk _ => Below.heap_alloc w.drew _ k hk⟩, .inr ⟨_, rfl, Nat.le_refl _⟩⟩
      · have hz1 : (Value.int IntKind.u8 0).cells.size = 1 := rfl
        simp only [Array.size_append, List.size_toArray, size_zeroCells, hz1, hlen, hsl]
        omega
      · have hjl : j < (xs ++ Lib.strCells s).length := (List.getElem?_eq_some_iff.1 hu).1
        rw [Nat.zero_add, ← Array.getElem?_toList]
        simp only [Array.toList_append]
        rw [List.getElem?_append_left (by simpa using hjl)]
        exact hu

theorem wpList_append_seg_string {ops : Array Oper} {rest : List Oper} {o : Oper} {a : Act} {Q : Exit → Act → World → Prop} (hgd : o.guard = none) (s x : Operand) (t u : TypeId)
    (ho : o.op = .call { callee := .builtin .append, args := #[s, x], argTypes := #[t, u] })
    (e : TypeId) (i : TypeInfo) (ht : P.underlying t = some (.slice e)) (hu : P.underlying u = some .string) (hi : P.info? e = some i) (hz : i.zero = some (.int .u8 0)) (hsize : i.size = 1) (hby : i.bytes = 1)
    {A : Option Addr} {n c : Nat} {xs : List Value} {G : Option Nat} (hs : a.eval s = .slice A n c) (hseg : Seg w e 1 A n c xs G)
    (st : ByteArray) (hx : a.eval x = .string st) (h63 : n + st.size ≤ maxLen) (hbytes : n + st.size ≤ 140737488355328)
    (h : ∀ A' c' G' w', Seg w' e 1 A' (n + st.size) c' (xs ++ Lib.strCells st) G' → w.grownBy w' G → Moved w G G' → wpList P ops Q rest (a.put o.dst (.slice A' (n + st.size) c')) w') : wpList P ops Q (o :: rest) a w := by
  obtain ⟨A', c', G', w', hrun, h2, h3, h4⟩ := run_append_seg_string (P := P) w t u o.type e i ht hu hi hz hsize hby hseg st h63 hbytes
  refine wpList_plain hgd fun K hK' => ?_
  unfold Oper.wp
  simp [execOp, ho, resolve, invoke, builtin, hs, hx, hrun, Result.andThen]
  exact hK' _ _ (h A' c' G' w' h2 h3 h4)

/-- The append of any slice as one step of a walk. -/
theorem wpList_append_src {ops : Array Oper} {rest : List Oper} {o : Oper} {a : Act} {Q : Exit → Act → World → Prop} (hgd : o.guard = none) (s x : Operand) (t : TypeId)
    (ho : o.op = .call { callee := .builtin .append, args := #[s, x], argTypes := #[t, t] })
    (e : TypeId) (i : TypeInfo) (z : Value) (size bytes : Nat) (ht : P.underlying t = some (.slice e)) (hi : P.info? e = some i) (hz : i.zero = some z)
    (hsize : i.size = size) (hby : i.bytes = bytes) (hzs : z.cells.size = size) (hsz : 0 < size)
    {A : Option Addr} {n c : Nat} {xs : List Value} {G : Option Nat} (hs : a.eval s = .slice A n c) (hseg : Seg w e size A n c xs G)
    {As : Option Addr} {m k : Nat} {news : List Value} (hx : a.eval x = .slice As m k) (hsrc : Src w size As m news) (h1 : ∀ u ∈ news, u.oneCell' = true)
    (h63 : n + m ≤ maxLen) (hbytes : (n + m) * bytes ≤ 140737488355328)
    (h : ∀ A' c' G' w', Seg w' e size A' (n + m) c' (xs ++ news) G' → w.grownBy w' G → Moved w G G' → wpList P ops Q rest (a.put o.dst (.slice A' (n + m) c')) w') : wpList P ops Q (o :: rest) a w := by
  obtain ⟨A', c', G', w', hrun, h2, h3, h4⟩ := run_append_src (P := P) w t o.type e i z size bytes ht hi hz hsize hby hzs hsz hseg k hsrc h1 h63 hbytes
  refine wpList_plain hgd fun K hK' => ?_
  unfold Oper.wp
  simp [execOp, ho, resolve, invoke, builtin, hs, hx, hrun, Result.andThen]
  exact hK' _ _ (h A' c' G' w' h2 h3 h4)
end

theorem Try.infoB : (Try.prog.info? 5).map (fun i => (i.zero, i.size, i.bytes)) = some (some (.int .u8 0), 1, 1) := by kernel_rfl

/-- A call gave bytes bs back, in a slice of its own that was G's. -/
def BPost (w : World) (G : Option Nat) (bs : List UInt8) (e : Ending) (w' : World) : Prop :=
  ∃ A' n' c' G', e = .returned (.slice A' n' c') ∧ Seg w' 5 1 A' n' c' (bc bs) G' ∧ w.grownBy w' G ∧ Moved w G G'

theorem num_get (N : Nat) : ∀ (k j : Nat), j < k → (num N k)[k - (j + 1)]? = some (UInt8.ofNat (N / 256 ^ j))
  | 0, j, h => by omega
  | k + 1, j, h => by
    by_cases e : j = k
    · subst e; simp [num]
    · rw [show k + 1 - (j + 1) = (k - (j + 1)) + 1 by omega, num, List.getElem?_cons_succ]
      exact num_get N k j (by omega)
theorem num_snoc (N k j : Nat) (h : j < k) : (num N k).take (k - (j + 1)) ++ [UInt8.ofNat (N / 256 ^ j)] = (num N k).take (k - j) := by
  have := num_get N k j h
  obtain ⟨h1, h2⟩ := List.getElem?_eq_some_iff.1 this
  rw [show k - j = (k - (j + 1)) + 1 by omega, List.take_succ_eq_append_getElem h1, h2]

theorem u8_ofNat (N j : Nat) : ((UInt8.ofNat (N / 256 ^ j)).toNat : Int) = (N : Int) / 2 ^ (8 * j) % 256 := by
  rw [shr_nat, UInt8.toNat_ofNat']
  rfl
theorem src1 (w : World) (t : TypeId) (v : Value) : Src (w.alloc (.cells #[v] t)) 1 (some ⟨w.heap.size, 0, none⟩) 1 [v] := by
  refine ⟨rfl, fun _ => ⟨_, rfl, fun j u hj => ?_⟩⟩
  match j, hj with
  | 0, hj => simp at hj; subst hj; exact (CB.new w _ #[v]).cell 0
theorem bc_snoc (l : List UInt8) (N j : Nat) : bc l ++ [.int .u8 ((N : Int) / 2 ^ (8 * j) % 256)] = bc (l ++ [UInt8.ofNat (N / 256 ^ j)]) := by
  rw [bc_append]
  simp only [bc, List.map_cons, List.map_nil, u8_ofNat]
theorem one_one (k : IntKind) (x : Int) : ∀ u ∈ [Value.int k x], u.oneCell' = true := by
  intro u hu
  simp only [List.mem_singleton] at hu
  subst hu
  rfl

set_option maxHeartbeats 400000 in
theorem appendNumber_c (A : Option Addr) (n c : Nat) (bs : List UInt8) (G : Option Nat) (N k : Nat) (w : World) (hseg : Seg w 5 1 A n c (bc bs) G) (_hN : N < 18446744073709551616) (hk : k ≤ 8) (hn : n ≤ 1000000) :
    Calls Try.prog 33 #[.slice A n c, .int .u64 N, .int .i64 k] w (BPost w G (bs ++ num N k)) := by
  obtain ⟨i0, hi0, hz0, hz1, hz2⟩ := info_parts Try.infoB
  have Hi := Lib.hid hi0
  have Hz := Lib.hid hz0
  have Hz1 := Lib.hid hz1
  have Hz2 := Lib.hid hz2
  clear hi0 hz0 hz1 hz2
  go_enter Try.func33, Try.ntmps33
  go_wp2
  go_loopw [0, 7] (fun b i wr => ∃ (j : Nat) (A' : Option Addr) (n' c' : Nat) (G' : Option Nat), j ≤ k ∧ i = .int .i64 ((j : Int) - 1) ∧ b = .slice A' n' c' ∧ n' ≤ n + 8 - j ∧ Seg wr 5 1 A' n' c' (bc (bs ++ (num N k).take (k - j))) G' ∧ w.grownBy wr G ∧ Moved w G G') (fun _ i _ => ((intOf i) + 1).toNat)
  case atStart => exact ⟨k, A, n, c, G, Nat.le_refl _, rfl, rfl, by omega, by simpa using hseg, World.grownBy.refl w _, .inl rfl⟩
  case round =>
    obtain ⟨j, A', n', c', G', hj, rfl, rfl, hn', hs', hg', hm'⟩ := hrel
    match j, hj, hn', hs' with
    | 0, hj, hn', hs' =>
      have H := Lib.hid (show BPost w G (bs ++ num N k) (.returned (.slice A' n' c')) wr from ⟨A', n', c', G', rfl, by rw [Nat.sub_zero, List.take_of_length_le (by rw [num_length]; exact Nat.le_refl _)] at hs'; exact hs', hg', hm'⟩)
      go_wp2_with fail
      go_ret
      exact H.out
    | j + 1, hj, hn', hs' =>
      rw [show ((j + 1 : Nat) : Int) - 1 = (j : Int) by omega]
      have p1 : n' + 1 ≤ maxLen := by simp only [maxLen]; omega
      have p2 : (n' + 1) * 1 ≤ 140737488355328 := by omega
      have p4 : 0 < 1 := by omega
      clear hseg _hN
      go_wp2_with (at_builtin; refine wpList_append_src _ rfl (.tmp 14) (.tmp 20) _ rfl 5 i0 _ 1 1 Try.underlying25 Hi.out Hz.out Hz1.out Hz2.out rfl p4 rfl (hs'.alloc _) rfl (src1 _ _ _) (one_one _ _) p1 p2 ?_; intro A1 c1 G1 w1 hs1 hg1 hm1)
      rw [bc_snoc, List.append_assoc, num_snoc N k j (by omega)] at hs1
      have hm2 : Moved w G G1 := hm'.trans (hm1.of_size (by simp)) hg'.size
      have hg2 : w.grownBy w1 G := grown_trans (grown_alloc hg' _) hm' hg1
      clear hg1 hm1 hs' hg' hm' p1 p2
      go_wp2_with fail
      go_roundw
      case rel => exact ⟨j, A1, n' + 1, c1, G1, by omega, by go_num, rfl, by omega, hs1, hg2, hm2⟩
      case measure => simp [intOf]

theorem byte_mod (N j q : Nat) (h : q = N / 256 ^ j) : Value.int .u8 ((q : Int) % 256) = .int .u8 ((N : Int) / 2 ^ (8 * j) % 256) := by rw [shr_nat, h]

set_option maxHeartbeats 400000 in
theorem number_r (N k : Nat) (w : World) (hN : N < 18446744073709551616) (hk : k ≤ 8) :
    Calls Try.prog 29 #[.int .u64 N, .int .i64 k] w (BPost w none (num N k)) := by
  obtain ⟨i0, hi0, hz0, hz1, hz2⟩ := info_parts Try.infoB
  have Hi := Lib.hid hi0
  have Hz := Lib.hid hz0
  have Hz1 := Lib.hid hz1
  have Hz2 := Lib.hid hz2
  clear hi0 hz0 hz1 hz2
  go_enter Try.func29, Try.ntmps29
  go_wp2
  go_loopw [5, 6] (fun b i wr => ∃ (j : Nat) (A' : Option Addr) (n' c' : Nat) (G' : Option Nat), j ≤ k ∧ i = .int .i64 ((j : Int) - 1) ∧ b = .slice A' n' c' ∧ n' ≤ 8 - j ∧ Seg wr 5 1 A' n' c' (bc ((num N k).take (k - j))) G' ∧ w.grownBy wr none ∧ Moved w none G') (fun _ i _ => ((intOf i) + 1).toNat)
  case atStart => exact ⟨k, none, 0, 0, none, Nat.le_refl _, rfl, rfl, by omega, by simpa [bc] using Seg.nil w _ _, World.grownBy.refl w _, .inl rfl⟩
  case round =>
    obtain ⟨j, A', n', c', G', hj, rfl, rfl, hn', hs', hg', hm'⟩ := hrel
    match j, hj, hn', hs' with
    | 0, hj, hn', hs' =>
      have H := Lib.hid (show BPost w none (num N k) (.returned (.slice A' n' c')) wr from ⟨A', n', c', G', rfl, by rw [Nat.sub_zero, List.take_of_length_le (by rw [num_length]; exact Nat.le_refl _)] at hs'; exact hs', hg', hm'⟩)
      go_wp2_with fail
      go_ret
      exact H.out
    | j + 1, hj, hn', hs' =>
      rw [show ((j + 1 : Nat) : Int) - 1 = (j : Int) by omega]
      go_wp2_with fail
      go_loop [7, 8] (fun m i => ∃ r q : Nat, r ≤ j ∧ i = .int .i64 r ∧ m = .int .u64 q ∧ q ≤ N ∧ Hid (q = N / 256 ^ r)) (fun _ i => j - (intOf i).toNat)
      case atStart => exact ⟨0, N, Nat.zero_le _, rfl, rfl, Nat.le_refl _, show _ = _ by simp⟩
      case round =>
        obtain ⟨r, q, hr, rfl, rfl, hq, Hq⟩ := hrel
        by_cases hlt : r < j
        · go_wp2_with fail
          go_round
          case rel => exact ⟨r + 1, q / 256, by omega, by go_num, by go_num, by omega, show _ = _ by rw [Hq.out, div_pow_succ]⟩
          case measure => simp [intOf]; omega
        · obtain rfl : r = j := by omega
          have p1 : n' + 1 ≤ maxLen := by simp only [maxLen]; omega
          have p2 : (n' + 1) * 1 ≤ 140737488355328 := by omega
          have p4 : 0 < 1 := by omega
          go_wp2_with (at_builtin; refine wpList_append_src _ rfl (.tmp 23) (.tmp 27) _ rfl 5 i0 _ 1 1 Try.underlying25 Hi.out Hz.out Hz1.out Hz2.out rfl p4 rfl (hs'.alloc _) rfl (src1 _ _ _) (one_one _ _) p1 p2 ?_; intro A1 c1 G1 w1 hs1 hg1 hm1)
          rw [byte_mod N r q Hq.out, bc_snoc, num_snoc N k r (by omega)] at hs1
          have hm2 : Moved w none G1 := hm'.trans (hm1.of_size (by simp)) hg'.size
          have hg2 : w.grownBy w1 none := grown_trans (grown_alloc hg' _) hm' hg1
          clear hg1 hm1 hs' hg' hm' p1 p2
          go_wp2_with fail
          go_roundw
          case rel => exact ⟨r, A1, n' + 1, c1, G1, by omega, by go_num, rfl, by omega, hs1, hg2, hm2⟩
          case measure => simp [intOf]

theorem encV_t {v : CV} : encV 116 v = num v.s.size 2 ++ bl v.s := if_pos rfl
theorem encV_n {c : UInt8} {v : CV} (h : ¬ c = 116) : encV c v = num v.n (wd c) := if_neg h
theorem grown_drew {w w1 : World} {G : Option Nat} (h : w.grownBy w1 G) : w.grownBy w1.drew G := ⟨h.os, h.tape, h.output, h.size, h.block⟩

set_option maxHeartbeats 400000 in
theorem appendValue_c (A : Option Addr) (n c : Nat) (bs : List UInt8) (G : Option Nat) (l : UInt8) (v : CV) (w : World) (hseg : Seg w 5 1 A n c (bc bs) G) (hv : v.n < 18446744073709551616) (hs : v.s.size ≤ 2000) (hn : n ≤ 1000000) :
    Calls Try.prog 26 #[.slice A n c, .int .u8 l.toNat, .agg #[.int .u64 v.n, .string v.s]] w (BPost w G (bs ++ encV l v)) := by
  obtain ⟨N, s⟩ := v
  simp only at hv hs ⊢
  obtain ⟨i0, hi0, hz0, hz1, hz2⟩ := info_parts Try.infoB
  have Hi := Lib.hid hi0
  have Hz := Lib.hid hz0
  have Hz1 := Lib.hid hz1
  have Hz2 := Lib.hid hz2
  clear hi0 hz0 hz1 hz2
  have hlen := hseg.1
  have hcb := CB.new w 48 #[.int .u64 N, .string s]
  have hsg := hseg.alloc (.cells #[.int .u64 N, .string s] 48)
  have hgr := grown_alloc (World.grownBy.refl w G) (.cells #[.int .u64 N, .string s] 48)
  have hne : some w.heap.size ≠ G := fun e => absurd (hseg.lt _ e.symm) (Nat.lt_irrefl _)
  have hsz : w.heap.size ≤ (w.alloc (.cells #[.int .u64 N, .string s] 48)).heap.size := by simp
  by_cases hc : l = 116
  · subst hc
    rw [encV_t]
    simp only
    go_enter Try.func26, Try.ntmps26
    go_wp2_with fail
    generalize w.alloc (.cells #[.int .u64 N, .string s] 48) = W at *
    have c1 := hcb.cell 1
    simp at c1
    go_still_tail 7, (by kernel_rfl)
    still_call ((width_c 116 _).mono fun e w' hh => ⟨hh.1, hh.2.symm⟩)
    repeat still_step
    refine wpStill_nil ?_
    change wpList _ _ _ _ _ W.drew
    go_wp2_with fail
    refine (appendNumber_c A n c bs G s.size 2 W.drew hsg.drew (by omega) (by omega) hn).mono ?_
    rintro e w1 ⟨A1, n1, c1', G1, rfl, hs1, hg1, hm1⟩
    have hcb1 : CB w1 w.heap.size 48 #[.int .u64 N, .string s] := hcb.drew.same (hg1.block _ hcb.lt hne)
    have d1 := hcb1.cell 1
    simp at d1
    have hn1 : n1 ≤ 1000002 := by have := hs1.1; rw [bc_length, List.length_append, num_length] at this; rw [bc_length] at hlen; omega
    have p1 : n1 + s.size ≤ maxLen := by simp only [maxLen]; omega
    have p2 : n1 + s.size ≤ 140737488355328 := by omega
    have hg1' : w.grownBy w1 G := grown_trans (grown_drew hgr) (.inl rfl) hg1
    have hm1' : Moved w G G1 := hm1.of_size hsz
    clear hcb hsg hgr hne hg1 hm1 hcb1 c1 hseg hlen hsz
    go_wp2_with (at_builtin; refine wpList_append_seg_string _ rfl (.tmp 17) (.tmp 19) _ _ rfl 5 i0 Try.underlying25 Try.underlying9 Hi.out Hz.out Hz1.out Hz2.out rfl hs1 s rfl p1 p2 ?_; intro A2 c2 G2 w2 hs2 hg2 hm2)
    rw [bc_str, ← bc_append, List.append_assoc] at hs2
    have H := Lib.hid (show BPost w G (bs ++ (num s.size 2 ++ bl s)) (.returned (.slice A2 (n1 + s.size) c2)) w2 from ⟨A2, _, c2, G2, rfl, hs2, grown_trans hg1' hm1' hg2, hm1'.trans hm2 hg1'.size⟩)
    clear hs2 hg2 hm2 hs1 hg1' hm1' p1 p2 d1
    go_wp2_with fail
    go_ret
    exact H.out
  · have e3 := u8ne 116 116 rfl hc
    have hw8 := wd_le l
    rw [encV_n hc]
    simp only
    clear hc
    go_enter Try.func26, Try.ntmps26
    go_wp2_with fail
    generalize w.alloc (.cells #[.int .u64 N, .string s] 48) = W at *
    have c0 := hcb.cell 0
    simp at c0
    go_still_tail 5, (by kernel_rfl)
    still_call ((width_c l _).mono fun e w' hh => ⟨hh.1, hh.2.symm⟩)
    repeat still_step
    refine wpStill_nil ?_
    change wpList _ _ _ _ _ W.drew
    go_wp2_with fail
    refine (appendNumber_c A n c bs G N (wd l) W.drew hsg.drew hv hw8 hn).mono ?_
    rintro e w1 ⟨A1, n1, c1', G1, rfl, hs1, hg1, hm1⟩
    have H := Lib.hid (show BPost w G (bs ++ num N (wd l)) (.returned (.slice A1 n1 c1')) w1 from ⟨A1, _, c1', G1, rfl, hs1, grown_trans (grown_drew hgr) (.inl rfl) hg1, hm1.of_size hsz⟩)
    clear hcb hsg hgr hne hg1 hm1 c0 hseg hlen hs1 hsz
    go_wp2_with fail
    go_ret
    exact H.out
end Go.Proofs.Ytbhjoajcfeheaaa
