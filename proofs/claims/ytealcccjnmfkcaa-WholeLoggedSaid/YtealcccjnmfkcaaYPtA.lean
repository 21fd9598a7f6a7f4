/-
  Parts in memory; the small functions of package part: stateInRange, isDecision, localFits, outcomeFits, addsInRange, copyOfDeltas. Condition: the deltas can be read.
-/
import Derived.Test.YtealcccjnmfkcaaYDlA
import Derived.Test.YtealcccjnmfkcaaPtM
import Derived.Deep.CutRange
set_option linter.unusedVariables false
set_option linter.unusedSimpArgs false
namespace Go.Proofs.Ytealcccjnmfkcaa
open Go.RowKit

/-- Block b is a part. -/
def PB (W : World) (b : Nat) (T : TypeId) (s : Int) (A : Option Addr) (n c : Nat) (l : Bool) (o : Int) : Prop := CB W b T #[.int .i64 s, .slice A n c, .bool l, .int .i64 o]
theorem CB.on {W W' : World} {b : Nat} {T : TypeId} {cs : Array Value} (h : CB W b T cs) (hb : Below W.heap.size W W') : CB W' b T cs := h.same (hb.block _ h.lt)
section
variable {W W' : World} {b : Nat} {T : TypeId} {s : Int} {A : Option Addr} {n c : Nat} {l : Bool} {o : Int}
theorem PB.lt (h : PB W b T s A n c l o) : b < W.heap.size := CB.lt h
theorem PB.cells (h : PB W b T s A n c l o) : W.cell? ⟨b, 0, none⟩ = some (.int .i64 s) ∧ W.cell? ⟨b, 1, none⟩ = some (.slice A n c) ∧ W.cell? ⟨b, 2, none⟩ = some (.bool l) ∧ W.cell? ⟨b, 3, none⟩ = some (.int .i64 o) :=
  ⟨CB.cell h 0, CB.cell h 1, CB.cell h 2, CB.cell h 3⟩
theorem PB.froz (h : PB W b T s A n c l o) : W.frozen? ⟨b, 0, none⟩ = false ∧ W.frozen? ⟨b, 1, none⟩ = false ∧ W.frozen? ⟨b, 2, none⟩ = false ∧ W.frozen? ⟨b, 3, none⟩ = false := ⟨CB.frozen h 0, CB.frozen h 1, CB.frozen h 2, CB.frozen h 3⟩
theorem PB.on (h : PB W b T s A n c l o) (hb : Below W.heap.size W W') : PB W' b T s A n c l o := CB.on h hb
theorem PB.drew (h : PB W b T s A n c l o) : PB W.drew b T s A n c l o := h
theorem PB.drewN (h : PB W b T s A n c l o) (k : Nat) : PB (W.drewN k) b T s A n c l o := h
theorem PB.alloc (h : PB W b T s A n c l o) (ob : Obj) : PB (W.alloc ob) b T s A n c l o := CB.alloc h ob
theorem PB.new (w : World) (T : TypeId) (s : Int) (A : Option Addr) (n c : Nat) (l : Bool) (o : Int) : PB (w.alloc (.cells #[.int .i64 s, .slice A n c, .bool l, .int .i64 o] T)) w.heap.size T s A n c l o := CB.new _ _ _
theorem PB.put0 (h : PB W b T s A n c l o) (s' : Int) : PB (W.setCell ⟨b, 0, none⟩ (.int .i64 s')) b T s' A n c l o := CB.put h 0 _
theorem PB.put1 (h : PB W b T s A n c l o) (A' : Option Addr) (n' c' : Nat) : PB (W.setCell ⟨b, 1, none⟩ (.slice A' n' c')) b T s A' n' c' l o := CB.put h 1 _
theorem PB.put2 (h : PB W b T s A n c l o) (l' : Bool) : PB (W.setCell ⟨b, 2, none⟩ (.bool l')) b T s A n c l' o := CB.put h 2 _
theorem PB.put3 (h : PB W b T s A n c l o) (o' : Int) : PB (W.setCell ⟨b, 3, none⟩ (.int .i64 o')) b T s A n c l o' := CB.put h 3 _
theorem PB.drne (h : PB W b T s A n c l o) {A' : Option Addr} {n' c' : Nat} {L : List Dl} (hd : DR W A' n' c' L) : ∀ g off, A' = some ⟨g, off, none⟩ → 0 < n' → g ≠ b := by
  rintro g off rfl hn rfl
  obtain ⟨g', off', e, h1, h2⟩ := hd.at2 hn
  cases e
  rw [CB.cell h] at h1
  match hk : off + 0 * 2, h1 with
  | 0, h1 => simp at h1
  | 1, h1 => simp at h1
  | 2, h1 => simp at h1
  | 3, h1 => simp at h1
  | k + 4, h1 => simp at h1
end
/-- All but block d is as it was. -/
structure Kept (d : Nat) (W V : World) : Prop where
  cb : ∀ (b : Nat) (T : TypeId) (cs : Array Value), b ≠ d → CB W b T cs → CB V b T cs
  low : ∀ (B : Nat) (w : World), Below B w W → B ≤ d → Below B w V
  dr : ∀ (A : Option Addr) (n c : Nat) (L : List Dl), DR W A n c L → DR V A n c L
  sg : ∀ (A : Option Addr) (n c : Nat) (xs : List Value) (G : Option Nat), Seg W 102 2 A n c xs G → Seg V 102 2 A n c xs G
  size : V.heap.size = W.heap.size
theorem Kept.trans {d : Nat} {W V U : World} (h : Kept d W V) (k : Kept d V U) : Kept d W U :=
  ⟨fun b T cs hb hc => k.cb b T cs hb (h.cb b T cs hb hc), fun B w hw hB => k.low B w (h.low B w hw hB) hB, fun A n c L hd => k.dr A n c L (h.dr A n c L hd), fun A n c xs G hs => k.sg A n c xs G (h.sg A n c xs G hs), k.size.trans h.size⟩
theorem Kept.of {W : World} {d : Nat} {T : TypeId} {s : Int} {A : Option Addr} {n c : Nat} {l : Bool} {o : Int} (h : PB W d T s A n c l o) (hT : 102 ≠ T) (i : Nat) (x : Value) : Kept d W (W.setCell ⟨d, i, none⟩ x) :=
  ⟨fun b T cs hb hc => hc.far (p := ⟨d, i, none⟩) hb x, fun B w hw hB => hw.setCell (p := ⟨d, i, none⟩) hB x,
   fun A n c L hd => hd.keep fun g off hA hn _ => Below.heap_setCell W ⟨d, i, none⟩ x g (h.drne hd g off hA hn),
   fun A n c xs G hs => hs.far (p := ⟨d, i, none⟩) (hs.ne_ h hT) x, by simp [World.setCell]⟩
/-- A part is stored into block d: the world behind it under a name. -/
theorem store_end {W : World} {d : Nat} {T : TypeId} {s' : Int} {A' : Option Addr} {n' c' : Nat} {l' : Bool} {o' : Int} (h : PB W d T s' A' n' c' l' o') (hT : 102 ≠ T) (s : Int) (A : Option Addr) (n c : Nat) (l : Bool) (o : Int) :
    ∃ V, (((W.setCell ⟨d, 0, none⟩ (.int .i64 s)).setCell ⟨d, 1, none⟩ (.slice A n c)).setCell ⟨d, 2, none⟩ (.bool l)).setCell ⟨d, 3, none⟩ (.int .i64 o) = V ∧ PB V d T s A n c l o ∧ Kept d W V := by
  have h0 := h.put0 s
  have h1 := h0.put1 A n c
  have h2 := h1.put2 l
  have h3 := h2.put3 o
  exact ⟨_, rfl, h3, (((Kept.of h hT 0 _).trans (Kept.of h0 hT 1 _)).trans (Kept.of h1 hT 2 _)).trans (Kept.of h2 hT 3 _)⟩
theorem Try.neP : 102 ≠ 40 := by decide
theorem Try.neR : 102 ≠ 95 := by decide
/-- The slice lies in a block above B. -/
def Fr (B : Nat) (A : Option Addr) (n : Nat) : Prop := 0 < n → ∀ g off, A = some ⟨g, off, none⟩ → B ≤ g
theorem Fr.mono {B B' : Nat} {A : Option Addr} {n : Nat} (h : Fr B A n) (hB : B' ≤ B) : Fr B' A n := fun hn g off e => Nat.le_trans hB (h hn g off e)
theorem Fr.zero (A : Option Addr) (n : Nat) : Fr 0 A n := fun _ _ _ _ => Nat.zero_le _
theorem Fr.of_seg {W : World} {B : Nat} {e : TypeId} {size : Nat} {A : Option Addr} {n c : Nat} {xs : List Value} {G : Option Nat} (h : Seg W e size A n c xs G) (hG : ∀ g, G = some g → B ≤ g) : Fr B A n := by
  intro hn g off hA
  rcases h.2.2.2 with ⟨h0, _, _⟩ | ⟨g', off', cur, h1, h2, _⟩
  · rw [h0] at hA; cases hA
  · rw [h1] at hA; cases hA; exact hG g h2

/-- A call gave a part and a number back. -/
def APost (w : World) (B : Nat) (p : Pt) (k : Int) (e : Ending) (w' : World) : Prop :=
  ∃ A n c, e = .returned (.tuple #[.agg #[.int .i64 p.st, .slice A n c, .bool p.lo, .int .i64 p.ou], .int .i64 k]) ∧ DR w' A n c p.ad ∧ Below w.heap.size w w' ∧ Fr B A n
/-- A call gave a part, deltas and a number back. -/
def BPost (w : World) (B : Nat) (p : Pt) (D : List Dl) (k : Int) (e : Ending) (w' : World) : Prop :=
  ∃ A n c A' n' c', e = .returned (.tuple #[.agg #[.int .i64 p.st, .slice A n c, .bool p.lo, .int .i64 p.ou], .slice A' n' c', .int .i64 k]) ∧ DR w' A n c p.ad ∧ DR w' A' n' c' D ∧ Below w.heap.size w w' ∧ Fr B A n

set_option maxHeartbeats 1000000 in
theorem state_c (s : Int) (w : World) : Calls Try.prog 62 #[.int .i64 s] w fun e w' => e = .returned (.bool (stB s)) ∧ Below w.heap.size w w' := by
  go_enter Try.func62, Try.ntmps62
  by_cases h0 : s = 0
  · have h1 : (s == 0) = true := by simp [h0]
    have H := Lib.hid (show stB s = true by unfold stB; simp [h0])
    clear h0
    go_wp2_with fail
    go_ret
    exact ⟨by rw [H.out]; rfl, Below.refl _ _⟩
  have h0' : (s == 0) = false := by simp [h0]
  by_cases h1 : s = 1
  · have h1' : (s == 1) = true := by simp [h1]
    have H := Lib.hid (show stB s = true by unfold stB; simp [h1])
    clear h0 h1
    go_wp2_with fail
    go_ret
    exact ⟨by rw [H.out]; rfl, Below.refl _ _⟩
  have h1' : (s == 1) = false := by simp [h1]
  by_cases h2 : s = 2
  · have h2' : (s == 2) = true := by simp [h2]
    have H := Lib.hid (show stB s = true by unfold stB; simp [h2])
    clear h0 h1 h2
    go_wp2_with fail
    go_ret
    exact ⟨by rw [H.out]; rfl, Below.refl _ _⟩
  have h2' : (s == 2) = false := by simp [h2]
  have H := Lib.hid (show stB s = (s == 3) by unfold stB; rw [h0', h1', h2']; rfl)
  clear h0 h1 h2
  generalize stB s = b at *
  go_wp2_with fail
  go_ret
  exact ⟨by rw [H.out]; rfl, Below.refl _ _⟩

set_option maxHeartbeats 1000000 in
theorem isDec_c (o : Int) (w : World) : Calls Try.prog 92 #[.int .i64 o] w fun e w' => e = .returned (.bool (deB o)) ∧ Below w.heap.size w w' := by
  go_enter Try.func92, Try.ntmps92
  by_cases h0 : o = 1
  · have h1 : (o == 1) = true := by simp [h0]
    have H := Lib.hid (show deB o = true by unfold deB; simp [h0])
    clear h0
    go_wp2_with fail
    go_ret
    exact ⟨by rw [H.out]; rfl, Below.refl _ _⟩
  have h0' : (o == 1) = false := by simp [h0]
  have H := Lib.hid (show deB o = (o == 2) by unfold deB; rw [h0']; rfl)
  clear h0
  generalize deB o = b at *
  go_wp2_with fail
  go_ret
  exact ⟨by rw [H.out]; rfl, Below.refl _ _⟩

set_option maxRecDepth 100000 in
set_option maxHeartbeats 1000000 in
theorem loFits_c (s : Int) (A : Option Addr) (n c : Nat) (l : Bool) (o : Int) (w : World) : Calls Try.prog 64 #[.agg #[.int .i64 s, .slice A n c, .bool l, .int .i64 o]] w fun e w' => e = .returned (.bool (loB s l)) ∧ Below w.heap.size w w' := by
  obtain ⟨W, hW⟩ : ∃ W, w.alloc (.cells #[.int .i64 s, .slice A n c, .bool l, .int .i64 o] 40) = W := ⟨_, rfl⟩
  have hp : PB W w.heap.size 40 s A n c l o := by rw [← hW]; exact PB.new _ _ _ _ _ _ _ _
  have hb : Below w.heap.size w W := by rw [← hW]; exact belA _ _
  obtain ⟨c0, c1, c2, c3⟩ := hp.cells
  have HW := Lib.hid hW
  clear hW hp
  go_enter Try.func64, Try.ntmps64
  cases l with
  | false =>
    go_wp2_with fail
    rw [HW.out]
    go_wp2_with fail
    go_ret
    exact ⟨rfl, hb⟩
  | true =>
    by_cases h1 : s = 1
    · have h1' : (s == 1) = true := by simp [h1]
      have H := Lib.hid (show loB s true = true by unfold loB; simp [h1])
      clear h1
      go_wp2_with fail
      rw [HW.out]
      go_wp2_with fail
      go_ret
      exact ⟨by rw [H.out]; rfl, hb⟩
    · have h1' : (s == 1) = false := by simp [h1]
      have H := Lib.hid (show loB s true = (s == 3) by unfold loB; rw [h1']; rfl)
      clear h1
      generalize loB s true = b at *
      go_wp2_with fail
      rw [HW.out]
      go_wp2_with fail
      go_ret
      exact ⟨by rw [H.out]; rfl, hb⟩

set_option maxRecDepth 100000 in
set_option maxHeartbeats 1000000 in
theorem ouFits_c (s : Int) (A : Option Addr) (n c : Nat) (l : Bool) (o : Int) (w : World) : Calls Try.prog 65 #[.agg #[.int .i64 s, .slice A n c, .bool l, .int .i64 o]] w fun e w' => e = .returned (.bool (ouB s o)) ∧ Below w.heap.size w w' := by
  obtain ⟨W, hW⟩ : ∃ W, w.alloc (.cells #[.int .i64 s, .slice A n c, .bool l, .int .i64 o] 40) = W := ⟨_, rfl⟩
  have hp : PB W w.heap.size 40 s A n c l o := by rw [← hW]; exact PB.new _ _ _ _ _ _ _ _
  have hb : Below w.heap.size w W := by rw [← hW]; exact belA _ _
  obtain ⟨c0, c1, c2, c3⟩ := hp.cells
  have HW := Lib.hid hW
  clear hW hp
  go_enter Try.func65, Try.ntmps65
  by_cases h1 : s = 3
  · have h1' : (s == 3) = true := by simp [h1]
    have H := Lib.hid (show ouB s o = deB o by unfold ouB; rw [if_pos h1])
    clear h1
    have hc := isDec_c o W
    generalize ouB s o = b at *
    generalize deB o = b2 at *
    go_wp2_with fail
    rw [HW.out]
    go_wp2_with fail
    refine hc.mono ?_
    rintro e w1 ⟨rfl, b1⟩
    have hb1 := Lib.hid (bel2 hb b1)
    clear b1 hc hb c0 c1 c2 c3
    go_wp2_with fail
    go_ret
    exact ⟨by rw [H.out]; rfl, hb1.out⟩
  · have h1' : (s == 3) = false := by simp [h1]
    have H := Lib.hid (show ouB s o = (o == 0) by unfold ouB; rw [if_neg h1])
    clear h1
    generalize ouB s o = b at *
    go_wp2_with fail
    rw [HW.out]
    go_wp2_with fail
    go_ret
    exact ⟨by rw [H.out]; rfl, hb⟩

set_option maxRecDepth 100000 in
set_option maxHeartbeats 1000000 in
theorem addsIn_c (A : Option Addr) (n c : Nat) (L : List Dl) (w : World) (h : DR w A n c L) :
    Calls Try.prog 63 #[.slice A n c] w fun e w' => e = .returned (.bool (adB L)) ∧ Below w.heap.size w w' := by
  have hlen := Lib.hid h.len
  have hmx : n ≤ maxLen := Nat.le_trans h.cap h.max
  simp only [maxLen] at hmx
  go_enter Try.func63, Try.ntmps63
  by_cases hb : 50 < n
  · have hb1 : (50 : Int) < (n : Int) := by omega
    have H := Lib.hid (show adB L = false by unfold adB; rw [hlen.out]; simp; omega)
    go_wp2_with fail
    go_ret
    exact ⟨by rw [H.out]; rfl, Below.refl _ _⟩
  have hb1 : ¬ (50 : Int) < (n : Int) := by omega
  go_wp2_with fail
  go_loopw [10] (fun i wr => ∃ j : Nat, j ≤ n ∧ i = .int .i64 j ∧ KeysP (L.take j) ∧ Below w.heap.size w wr) (fun i _ => n - (intOf i).toNat)
  case atStart => exact ⟨0, by omega, rfl, keys_nil, Below.refl _ _⟩
  case round =>
    obtain ⟨j, hj, rfl, hal, hlow⟩ := hrel
    have Hal := Lib.hid hal
    clear hal
    by_cases hlt : j < n
    · obtain ⟨g, off, rfl, d1, d2⟩ := (h.on hlow).at2 hlt
      have htk := Lib.hid (tk_take (L := L) (j := j) (by rw [hlen.out]; exact hlt))
      generalize tk L j = x at *
      have hl1 := Lib.hid (bel2 hlow (belA wr (.cells #[.int .u8 x.k, .int .i64 x.b] 102)))
      clear hlow
      by_cases hk : x.k < 64
      · have hk1 : ¬ (64 : Int) ≤ x.k := by omega
        have Hn := Lib.hid (show KeysP (L.take (j + 1)) by rw [htk.out]; exact keys_snoc.2 ⟨Hal.out, hk⟩)
        clear hk
        go_wp2_with fail
        go_roundw
        case rel => exact ⟨j + 1, by omega, by go_num, Hn.out, hl1.out⟩
        case measure => simp [intOf]; omega
      · have hk1 : (64 : Int) ≤ x.k := by omega
        have Hf := Lib.hid (show adB L = false by
          have : keysB L = false := by rw [keysB_no]; exact keys_no_pre (j := j + 1) (by rw [htk.out]; exact fun k => hk (keys_snoc.1 k).2)
          unfold adB; rw [this]; simp)
        clear hk
        go_wp2_with fail
        go_ret
        exact ⟨by rw [Hf.out]; rfl, hl1.out⟩
    · obtain rfl : j = n := by omega
      have Hr := Lib.hid (show adB L = true by
        have := Hal.out
        rw [take_all hlen.out] at this
        exact ad_of (by rw [hlen.out]; omega) this)
      go_wp2_with fail
      go_ret
      exact ⟨by rw [Hr.out]; rfl, hlow⟩

set_option maxHeartbeats 400000 in
theorem copyD_o (A : Option Addr) (n c : Nat) (L : List Dl) (w : World) (h : DR w A n c L) (hn : n ≤ 1000) :
    Calls Try.prog 41 #[.slice A n c] w fun e w' => ∃ A' c', e = .returned (.slice A' n c') ∧ OS w 102 2 (rc dc L) (.slice A' n c') w' := by
  obtain ⟨i0, hi0, hz0, hz1, hz2⟩ := info_parts Try.infoD
  have p1 : 0 + n ≤ maxLen := by simp only [maxLen]; omega
  have p2 : (0 + n) * 16 ≤ 140737488355328 := by omega
  have p03 : 0 < 2 := by omega
  have hsrc := h.src
  have hz := Nat.zero_add n
  clear h
  go_enter Try.func41, Try.ntmps41
  go_wp2_with (at_builtin; refine wpList_append_src _ rfl (.const (.slice none 0 0)) (.tmp 3) _ rfl 102 i0 _ 2 16 Try.underlying26 hi0 hz0 hz1 hz2 rfl p03 rfl (Seg.nil w _ _) rfl hsrc (rc_one 2 _) p1 p2 n hz ?_; intro A1 c1 G1 w1 hs1 hg1 hm1)
  rw [List.nil_append] at hs1
  have H := Lib.hid (OS.app (w := w) (Below.refl _ _) (fun g e => by cases e) hs1 hg1 hm1)
  clear hs1 hg1 hm1 hsrc
  go_wp2_with fail
  go_ret
  exact ⟨_, _, rfl, H.out⟩
end Go.Proofs.Ytealcccjnmfkcaa
/-
  copyOf and Right of package part. Condition: the deltas can be read; a thousand at most where they are copied.
-/
set_option linter.unusedVariables false
set_option linter.unusedSimpArgs false
namespace Go.Proofs.Ytealcccjnmfkcaa
open Go.RowKit

set_option maxRecDepth 100000 in
set_option maxHeartbeats 1000000 in
theorem copyP_o (s : Int) (A : Option Addr) (n c : Nat) (l : Bool) (o : Int) (L : List Dl) (w : World) (h : DR w A n c L) (hn : n ≤ 1000) :
    Calls Try.prog 98 #[.agg #[.int .i64 s, .slice A n c, .bool l, .int .i64 o]] w fun e w' => ∃ A' c', e = .returned (.agg #[.int .i64 s, .slice A' n c', .bool l, .int .i64 o]) ∧ OS w 102 2 (rc dc L) (.slice A' n c') w' := by
  obtain ⟨W, hW⟩ : ∃ W, (w.alloc (.cells #[.int .i64 s, .slice A n c, .bool l, .int .i64 o] 40)).alloc (.cells #[.int .i64 0, .slice none 0 0, .bool false, .int .i64 0] 40) = W := ⟨_, rfl⟩
  have hp : PB W w.heap.size 40 s A n c l o := by rw [← hW]; exact (PB.new _ _ _ _ _ _ _ _).alloc _
  have hq : PB W (w.heap.size + 1) 40 0 none 0 0 false 0 := by
    rw [← hW]
    have := PB.new (w.alloc (.cells #[.int .i64 s, .slice A n c, .bool l, .int .i64 o] 40)) 40 0 none 0 0 false 0
    simpa using this
  have hb : Below w.heap.size w W := by rw [← hW]; exact bel2 (belA _ _) (belA _ _)
  obtain ⟨c0, c1, c2, c3⟩ := hp.cells
  have hc := copyD_o A n c L W (h.on hb) hn
  have HW := Lib.hid hW
  clear hW
  go_enter Try.func98, Try.ntmps98
  go_wp2_with fail
  rw [HW.out]
  go_wp2_with fail
  refine hc.mono ?_
  rintro e w1 ⟨A1, c1', rfl, hos⟩
  have hp1 := hp.on hos.low
  have hq1 := hq.on hos.low
  clear hc hp hq c0 c1 c2 c3
  obtain ⟨c0, c1, c2, c3⟩ := hp1.cells
  obtain ⟨f0, f1, f2, f3⟩ := hp1.froz
  obtain ⟨V, hV⟩ : ∃ V, w1.setCell ⟨w.heap.size, 1, none⟩ (.slice A1 n c1') = V := ⟨_, rfl⟩
  have hpV : PB V w.heap.size 40 s A1 n c1' l o := by rw [← hV]; exact hp1.put1 _ _ _
  have hkV : Kept w.heap.size w1 V := by rw [← hV]; exact Kept.of hp1 Try.neP _ _
  have hqV : PB V (w.heap.size + 1) 40 0 none 0 0 false 0 := hkV.cb _ _ _ (by omega) hq1
  obtain ⟨d0, d1, d2, d3⟩ := hpV.cells
  obtain ⟨g0, g1, g2, g3⟩ := hqV.froz
  obtain ⟨e0, e1, e2, e3⟩ := hqV.cells
  have HV := Lib.hid hV
  clear hV
  obtain ⟨U, hU, hqU, hkU⟩ := store_end hqV Try.neP s A1 n c1' l o
  have HU := Lib.hid hU
  clear hU
  obtain ⟨v0, v1, v2, v3⟩ := hqU.cells
  have Hos := Lib.hid (show OS w 102 2 (rc dc L) (.slice A1 n c1') U by
    obtain ⟨⟨A9, m9, c9, G9, hv, hs, hG⟩, hl⟩ := hos
    refine ⟨⟨A9, m9, c9, G9, hv, hkU.sg _ _ _ _ _ (hkV.sg _ _ _ _ _ hs), fun g hg => Nat.le_trans hb.size (hG g hg)⟩, ?_⟩
    exact hkU.low _ _ (hkV.low _ _ (bel2 hb hl) (Nat.le_refl _)) (by omega))
  clear hos hkU hkV hqV hpV hp1 hq1
  go_upto_region 2 with fail
  rw [HV.out]
  go_wp2_with fail
  rw [HU.out]
  exact bodyPost_ret (v := .agg #[.int .i64 s, .slice A1 n c1', .bool l, .int .i64 o]) (by simp [results, Try.results98, go_sem, v0, v1, v2, v3]) rfl ⟨A1, c1', rfl, Hos.out⟩

set_option maxRecDepth 100000 in
set_option maxHeartbeats 2000000 in
theorem right_c (s : Int) (A : Option Addr) (n c : Nat) (l : Bool) (o : Int) (L : List Dl) (w : World) (h : DR w A n c L) :
    Calls Try.prog 40 #[.agg #[.int .i64 s, .slice A n c, .bool l, .int .i64 o]] w fun e w' => e = .returned (.bool (okP ⟨s, L, l, o⟩)) ∧ Below w.heap.size w w' := by
  obtain ⟨W, hW⟩ : ∃ W, w.alloc (.cells #[.int .i64 s, .slice A n c, .bool l, .int .i64 o] 40) = W := ⟨_, rfl⟩
  have hp : PB W w.heap.size 40 s A n c l o := by rw [← hW]; exact PB.new _ _ _ _ _ _ _ _
  have hb : Below w.heap.size w W := by rw [← hW]; exact belA _ _
  obtain ⟨c0, c1, c2, c3⟩ := hp.cells
  have hc := state_c s W
  have HW := Lib.hid hW
  have N1 := Lib.hid (fun k => ok_no1 (p := ⟨s, L, l, o⟩) k)
  have N2 := Lib.hid (fun k => ok_no2 (p := ⟨s, L, l, o⟩) k)
  have N3 := Lib.hid (fun k => ok_no3 (p := ⟨s, L, l, o⟩) k)
  have N4 := Lib.hid (fun k1 k2 k3 => show okP ⟨s, L, l, o⟩ = ouB s o by unfold okP; rw [show stB s = true from k1, show adB L = true from k2, show loB s l = true from k3]; rfl)
  generalize okP ⟨s, L, l, o⟩ = R at *
  clear hW
  go_enter Try.func40, Try.ntmps40
  go_wp2_with fail
  rw [HW.out]
  go_wp2_with fail
  refine hc.mono ?_
  rintro e w1 ⟨rfl, b1⟩
  have hp1 := hp.on b1
  have hb1 := bel2 hb b1
  clear hc b1 hb hp c0 c1 c2 c3
  obtain ⟨c0, c1, c2, c3⟩ := hp1.cells
  cases h1 : stB s with
  | false =>
    have H := Lib.hid (N1.out h1)
    clear h1
    go_wp2_with fail
    go_ret
    exact ⟨by rw [H.out]; rfl, hb1⟩
  | true =>
    have hc := addsIn_c A n c L w1 (h.on hb1)
    have H1 := Lib.hid h1
    clear h1
    go_wp2_with fail
    refine hc.mono ?_
    rintro e w2 ⟨rfl, b2⟩
    have hp2 := hp1.on b2
    have hb2 := bel2 hb1 b2
    clear hc b2 hb1 hp1 c0 c1 c2 c3
    obtain ⟨c0, c1, c2, c3⟩ := hp2.cells
    cases h2 : adB L with
    | false =>
      have H := Lib.hid (N2.out h2)
      clear h2
      go_wp2_with fail
      go_ret
      exact ⟨by rw [H.out]; rfl, hb2⟩
    | true =>
      have hc := loFits_c s A n c l o w2
      have H2 := Lib.hid h2
      clear h2
      go_wp2_with fail
      refine hc.mono ?_
      rintro e w3 ⟨rfl, b3⟩
      have hp3 := hp2.on b3
      have hb3 := bel2 hb2 b3
      clear hc b3 hb2 hp2 c0 c1 c2 c3
      obtain ⟨c0, c1, c2, c3⟩ := hp3.cells
      cases h3 : loB s l with
      | false =>
        have H := Lib.hid (N3.out h3)
        clear h3
        go_wp2_with fail
        go_ret
        exact ⟨by rw [H.out]; rfl, hb3⟩
      | true =>
        have hc := ouFits_c s A n c l o w3
        have H := Lib.hid (N4.out H1.out H2.out h3)
        clear h3
        generalize ouB s o = q at *
        go_wp2_with fail
        refine hc.mono ?_
        rintro e w4 ⟨rfl, b4⟩
        have hb4 := bel2 hb3 b4
        clear hc b4 hb3 hp3 c0 c1 c2 c3
        go_wp2_with fail
        go_ret
        exact ⟨by rw [H.out]; rfl, hb4⟩
end Go.Proofs.Ytealcccjnmfkcaa
