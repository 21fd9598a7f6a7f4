/-
  Plain mathematics of layer 4: what Append, Crash, Repair and Renew answer, as lists of bytes. It speaks of no program. No condition.
-/
import Derived.Test.YtcfdfimkgehdfaaDzSum
import Derived.Lib.AppendZeros
namespace Go.Proofs.Ytcfdfimkgehdfaa.Dz
set_option maxRecDepth 100000

/-- What Append answers: its error, and the bytes. -/
def eA (n r : Nat) (rec : List UInt8) : Nat := if 4000 < rec.length then 3 else if r < n + (rec.length + 7) then 6 else 0
def bA (r : Nat) (bs rec : List UInt8) : List UInt8 := if eA bs.length r rec = 0 then bs ++ frameB rec else bs
theorem eA_big {n r : Nat} {rec : List UInt8} (h : 4000 < rec.length) : eA n r rec = 3 := if_pos h
theorem eA_full {n r : Nat} {rec : List UInt8} (h : ¬ 4000 < rec.length) (h1 : r < n + (rec.length + 7)) : eA n r rec = 6 := by unfold eA; rw [if_neg h, if_pos h1]
theorem eA_ok {n r : Nat} {rec : List UInt8} (h : ¬ 4000 < rec.length) (h1 : ¬ r < n + (rec.length + 7)) : eA n r rec = 0 := by unfold eA; rw [if_neg h, if_neg h1]
theorem bA_bad {r : Nat} {bs rec : List UInt8} (h : ¬ eA bs.length r rec = 0) : bA r bs rec = bs := if_neg h
theorem bA_ok {r : Nat} {bs rec : List UInt8} (h : eA bs.length r rec = 0) : bA r bs rec = bs ++ frameB rec := if_pos h
theorem eA_zero {n r : Nat} {rec : List UInt8} (h : eA n r rec = 0) : rec.length ≤ 4000 ∧ n + (rec.length + 7) ≤ r := by
  unfold eA at h
  split at h
  · omega
  · split at h <;> omega

/-- What Renew answers: its error, and the bytes. -/
def bigB (ls : List (List UInt8)) : Bool := ls.any fun l => decide (4000 < l.length)
def eR (r : Nat) (ls : List (List UInt8)) : Nat := if bigB ls = true then 3 else if r < (frs ls).length then 6 else 0
theorem bigB_no {ls : List (List UInt8)} (h : bigB ls = false) : ∀ l ∈ ls, l.length ≤ 4000 := by
  intro l hl
  unfold bigB at h
  rw [List.any_eq_false] at h
  have := h l hl
  simpa using this
theorem bigB_yes {ls : List (List UInt8)} {k : Nat} {l : List UInt8} (h : ls[k]? = some l) (h1 : 4000 < l.length) : bigB ls = true := by
  unfold bigB
  rw [List.any_eq_true]
  exact ⟨l, List.mem_of_getElem? h, by simpa using h1⟩
theorem eR_big {r : Nat} {ls : List (List UInt8)} (h : bigB ls = true) : eR r ls = 3 := if_pos h
theorem eR_full {r : Nat} {ls : List (List UInt8)} (h : bigB ls = false) (h1 : r < (frs ls).length) : eR r ls = 6 := by unfold eR; rw [if_neg (by rw [h]; decide), if_pos h1]
theorem eR_ok {r : Nat} {ls : List (List UInt8)} (h : bigB ls = false) (h1 : ¬ r < (frs ls).length) : eR r ls = 0 := by unfold eR; rw [if_neg (by rw [h]; decide), if_neg h1]
theorem eR_zero {r : Nat} {ls : List (List UInt8)} (h : eR r ls = 0) : bigB ls = false ∧ (frs ls).length ≤ r := by
  unfold eR at h
  split at h
  · omega
  · split at h
    · omega
    · rename_i h1 h2
      exact ⟨by simpa using h1, by omega⟩
theorem frs_next {ls : List (List UInt8)} {k : Nat} {l : List UInt8} (h : ls[k]? = some l) : frs (ls.take (k + 1)) = frs (ls.take k) ++ frameB l := by
  obtain ⟨h1, rfl⟩ := List.getElem?_eq_some_iff.1 h
  rw [List.take_succ_eq_append_getElem h1, frs_snoc]
theorem frs_take_le (ls : List (List UInt8)) (k : Nat) : (frs (ls.take k)).length ≤ (frs ls).length := by
  conv => rhs; rw [← List.take_append_drop k ls, frs_append, List.length_append]
  omega

/-- The bytes of the frames that stand at the beginning are those of the records. -/
theorem take_aN : ∀ (n : Nat) (b : List UInt8), b.length ≤ n → b.take (aN b) = frs (aC b) ∧ ∀ l ∈ aC b, l.length ≤ 4000
  | 0, b, h => by
    have hb : b = [] := List.eq_nil_of_length_eq_zero (by omega)
    obtain ⟨h1, h2⟩ := aC_no (b := b) (by rw [fE_none (by omega)]; omega)
    rw [h1, h2]
    simp [frs]
  | n + 1, b, h => by
    by_cases h0 : fE b = 0
    · obtain ⟨h1, h2⟩ := aC_yes h0
      have hk := fK_ok h0
      have hz := fE_zero h0
      have hf := first_frame h0
      obtain ⟨i1, i2⟩ := take_aN n (b.drop (fK b)) (by rw [List.length_drop]; omega)
      refine ⟨?_, ?_⟩
      · rw [h1, h2, frs_cons, ← i1, List.take_add, hk, hf.1]
      · rw [h1]
        intro l hl
        rcases List.mem_cons.1 hl with rfl | hl
        · exact fC_length_le b
        · exact i2 l hl
    · obtain ⟨h1, h2⟩ := aC_no h0
      rw [h1, h2]
      simp [frs]
theorem aC_nil : aC [] = [] ∧ aN [] = 0 := aC_no (by decide)
theorem aC_all {ls : List (List UInt8)} (h : ∀ l ∈ ls, l.length ≤ 4000) : aC (frs ls) = ls ∧ aN (frs ls) = (frs ls).length := by
  have := aC_frs ls [] h
  rw [List.append_nil, aC_nil.1, aC_nil.2, List.append_nil, Nat.add_zero] at this
  exact this

/-- What is found in a beginning is a beginning of what is found. -/
theorem aC_prefix : ∀ (n : Nat) (y z : List UInt8), y.length ≤ n → ∃ r, aC (y ++ z) = aC y ++ r
  | 0, y, z, h => by
    obtain ⟨h1, _⟩ := aC_no (b := y) (by rw [fE_none (by omega)]; omega)
    exact ⟨aC (y ++ z), by rw [h1]; rfl⟩
  | n + 1, y, z, h => by
    by_cases h0 : fE y = 0
    · obtain ⟨h1, _⟩ := aC_yes h0
      have hk := fK_ok h0
      have hz := fE_zero h0
      have hf := first_frame h0
      have hy : y = frameB (fC y) ++ y.drop (fK y) := by rw [hk, ← hf.1, List.take_append_drop]
      obtain ⟨r, hr⟩ := aC_prefix n (y.drop (fK y)) z (by rw [List.length_drop]; omega)
      obtain ⟨k1, k2, k3⟩ := frame_first (fC y) (y.drop (fK y) ++ z) (fC_length_le y)
      have he : y ++ z = frameB (fC y) ++ (y.drop (fK y) ++ z) := by rw [← List.append_assoc, ← hy]
      obtain ⟨e1, _⟩ := aC_yes k1
      refine ⟨r, ?_⟩
      rw [he, e1, k2, k3, List.drop_left' (frameB_length (fC y)), hr, h1]
      rfl
    · obtain ⟨h1, _⟩ := aC_no h0
      exact ⟨aC (y ++ z), by rw [h1]; rfl⟩
theorem aC_less (b : List UInt8) {p q : Nat} (h : p ≤ q) : ∃ r, aC (b.take q) = aC (b.take p) ++ r := by
  obtain ⟨r, hr⟩ := aC_prefix _ (b.take p) ((b.take q).drop p) (Nat.le_refl _)
  refine ⟨r, ?_⟩
  rw [← hr]
  congr 1
  conv => lhs; rw [← List.take_append_drop p (b.take q)]
  rw [List.take_take, Nat.min_eq_left h]
end Go.Proofs.Ytcfdfimkgehdfaa.Dz

/-
  The small functions of package disk: copyOf, clone, durable, Sync, Crash. Conditions: the disk's bytes can be read, there are a million of them at most.
-/
namespace Go.Proofs.Ytcfdfimkgehdfaa.Dz
set_option maxRecDepth 100000
open Go.RowKit

/-- A call gave bytes of its own back. -/
def SPost (w : World) (n : Nat) (bs : List UInt8) (e : Ending) (w' : World) : Prop :=
  ∃ A c, e = .returned (.slice A n c) ∧ BR w' w'.heap.size A n c bs ∧ Below w.heap.size w w'

/-- The slice lies in a block that is new since w. -/
def Fresh (w : World) (A : Option Addr) : Prop := ∀ ad, A = some ad → w.heap.size ≤ ad.block
theorem Fresh.of_seg {w w' : World} {e : TypeId} {size : Nat} {A : Option Addr} {n c : Nat} {xs : List Value} {G : Option Nat} (h : Seg w' e size A n c xs G) (hG : ∀ g, G = some g → w.heap.size ≤ g) : Fresh w A := by
  intro ad had
  rcases h.2.2.2 with ⟨h0, _, _⟩ | ⟨g, off, cur, h1, h2, _⟩
  · rw [h0] at had; cases had
  · rw [h1] at had; cases had; exact hG g h2
theorem Fresh.mono {w w' : World} {A : Option Addr} (h : Fresh w' A) (hs : w.heap.size ≤ w'.heap.size) : Fresh w A := fun ad had => Nat.le_trans hs (h ad had)
/-- The same, in a new block. -/
def SPostF (w : World) (n : Nat) (bs : List UInt8) (e : Ending) (w' : World) : Prop :=
  ∃ A c, e = .returned (.slice A n c) ∧ BR w' w'.heap.size A n c bs ∧ Below w.heap.size w w' ∧ Fresh w A
theorem SPostF.toS {w : World} {n : Nat} {bs : List UInt8} {e : Ending} {w' : World} (h : SPostF w n bs e w') : SPost w n bs e w' := by
  obtain ⟨A, c, h1, h2, h3, _⟩ := h
  exact ⟨A, c, h1, h2, h3⟩

set_option maxHeartbeats 400000 in
theorem copy_f (A : Option Addr) (n c : Nat) (bs : List UInt8) (w : World) (hb : BR w w.heap.size A n c bs) (hn : n ≤ 1000000) :
    Calls Try.prog 83 #[.slice A n c] w (SPostF w n bs) := by
  obtain ⟨i0, Hi, Hz, Hz1, Hz2⟩ := info_hid
  have p1 : 0 + n ≤ maxLen := by simp only [maxLen]; omega
  have p2 : (0 + n) * 1 ≤ 140737488355328 := by omega
  have p4 : 0 < 1 := by omega
  have hsrc := hb.src
  clear hb
  go_enter Try.func83, Try.ntmps83
  go_wp2_with (at_builtin; refine wpList_append_src _ rfl (.const (.slice none 0 0)) (.tmp 3) _ rfl 5 i0 _ 1 1 Try.underlying30 Hi.out Hz.out Hz1.out Hz2.out rfl p4 rfl (Seg.nil w _ _) rfl hsrc (bc_one _) p1 p2 ?_; intro A1 c1 G1 w1 hs1 hg1 hm1)
  rw [List.nil_append, Nat.zero_add] at hs1
  have H := Lib.hid (show SPostF w n bs (.returned (.slice A1 n c1)) w1 from ⟨A1, c1, rfl, BR.of_seg hs1, grown_below hg1 (Nat.le_refl _) (fun g e => by cases e), Fresh.of_seg hs1 (hm1.ge (Nat.le_refl _) (fun g e => by cases e))⟩)
  clear hs1 hg1 hm1 hsrc
  go_wp2_with fail
  go_ret
  exact H.out
theorem copy_c (A : Option Addr) (n c : Nat) (bs : List UInt8) (w : World) (hb : BR w w.heap.size A n c bs) (hn : n ≤ 1000000) :
    Calls Try.prog 83 #[.slice A n c] w (SPost w n bs) := (copy_f A n c bs w hb hn).mono fun _ _ h => h.toS

/-- A call gave a disk back, with bytes of its own. -/
def DPost (w : World) (n : Nat) (s r : Int) (bs : List UInt8) (e : Ending) (w' : World) : Prop :=
  ∃ A c, e = .returned (.agg #[.slice A n c, .int .i64 s, .int .i64 r]) ∧ BR w' w'.heap.size A n c bs ∧ Below w.heap.size w w'

/-- The same, in a new block. -/
def DPostF (w : World) (n : Nat) (s r : Int) (bs : List UInt8) (e : Ending) (w' : World) : Prop :=
  ∃ A c, e = .returned (.agg #[.slice A n c, .int .i64 s, .int .i64 r]) ∧ BR w' w'.heap.size A n c bs ∧ Below w.heap.size w w' ∧ Fresh w A
theorem DPostF.toD {w : World} {n : Nat} {s r : Int} {bs : List UInt8} {e : Ending} {w' : World} (h : DPostF w n s r bs e w') : DPost w n s r bs e w' := by
  obtain ⟨A, c, h1, h2, h3, _⟩ := h
  exact ⟨A, c, h1, h2, h3⟩

/-- All that was there reads as before. -/
theorem bcell {W w1 : World} (hb : Below W.heap.size W w1) : (∀ b o, b < W.heap.size → w1.cell? ⟨b, o, none⟩ = W.cell? ⟨b, o, none⟩) ∧ (∀ b o, b < W.heap.size → w1.frozen? ⟨b, o, none⟩ = W.frozen? ⟨b, o, none⟩) :=
  ⟨fun b o h => hb.cell (p := ⟨b, o, none⟩) h, fun b o h => hb.frozen (p := ⟨b, o, none⟩) h⟩

theorem BR.drewS {W : World} {A : Option Addr} {n c : Nat} {bs : List UInt8} (h : BR W W.heap.size A n c bs) : BR W.drew W.drew.heap.size A n c bs := h.drew
theorem LR.drewS {W : World} {A : Option Addr} {n c : Nat} {ls : List (List UInt8)} (h : LR W W.heap.size A n c ls) : LR W.drew W.drew.heap.size A n c ls := h.keep fun _ _ => rfl
theorem below_drew {B : Nat} {W w1 : World} (h : Below B W.drew w1) : Below B W w1 := ⟨h.os, h.tape, h.output, h.size, h.block⟩
theorem below_drewN {B k : Nat} {W w1 : World} (h : Below B (W.drewN k) w1) : Below B W w1 := ⟨h.os, h.tape, h.output, h.size, h.block⟩

/-- Block b is a disk, as a box of the walk. -/
def Box (W : World) (b : Nat) (T : TypeId) (A : Option Addr) (n c : Nat) (s r : Int) : Prop := CB W b T #[.slice A n c, .int .i64 s, .int .i64 r]
/-- What a store of a whole disk makes of a world. -/
abbrev set3 (W : World) (d : Nat) (x0 x1 x2 : Value) : World := ((W.setCell ⟨d, 0, none⟩ x0).setCell ⟨d, 1, none⟩ x1).setCell ⟨d, 2, none⟩ x2
section
variable {W W' : World} {b : Nat} {T : TypeId} {A : Option Addr} {n c : Nat} {s r : Int}
theorem Box.lt (h : Box W b T A n c s r) : b < W.heap.size := CB.lt h
theorem Box.cells (h : Box W b T A n c s r) : W.cell? ⟨b, 0, none⟩ = some (.slice A n c) ∧ W.cell? ⟨b, 1, none⟩ = some (.int .i64 s) ∧ W.cell? ⟨b, 2, none⟩ = some (.int .i64 r) :=
  ⟨by rw [CB.cell h]; rfl, by rw [CB.cell h]; rfl, by rw [CB.cell h]; rfl⟩
theorem Box.froz (h : Box W b T A n c s r) : W.frozen? ⟨b, 0, none⟩ = false ∧ W.frozen? ⟨b, 1, none⟩ = false ∧ W.frozen? ⟨b, 2, none⟩ = false := ⟨CB.frozen h 0, CB.frozen h 1, CB.frozen h 2⟩
theorem Box.on {B : Nat} (h : Box W b T A n c s r) (hb : Below B W W') (hB : b < B) : Box W' b T A n c s r := CB.same h (hb.block b hB)
theorem Box.drew (h : Box W b T A n c s r) : Box W.drew b T A n c s r := h
theorem Box.drewN (h : Box W b T A n c s r) (k : Nat) : Box (W.drewN k) b T A n c s r := h
theorem Box.alloc (h : Box W b T A n c s r) (o : Obj) : Box (W.alloc o) b T A n c s r := CB.alloc h o
theorem Box.far3 (h : Box W b T A n c s r) {d : Nat} (hd : b ≠ d) (x0 x1 x2 : Value) : Box (set3 W d x0 x1 x2) b T A n c s r := CB.far (CB.far (CB.far h (p := ⟨d, 0, none⟩) hd x0) (p := ⟨d, 1, none⟩) hd x1) (p := ⟨d, 2, none⟩) hd x2
theorem Box.put3 (h : Box W b T A n c s r) (A' : Option Addr) (n' c' : Nat) (s' r' : Int) : Box (set3 W b (.slice A' n' c') (.int .i64 s') (.int .i64 r')) b T A' n' c' s' r' :=
  ((CB.put h 0 (.slice A' n' c')).put 1 (.int .i64 s')).put 2 (.int .i64 r')
theorem Box.new (w : World) (T : TypeId) (A : Option Addr) (n c : Nat) (s r : Int) : Box (w.alloc (.cells #[.slice A n c, .int .i64 s, .int .i64 r] T)) w.heap.size T A n c s r := CB.new _ _ _
end
theorem below_set3 {B : Nat} {w W : World} (h : Below B w W) {d : Nat} (hd : B ≤ d) (x0 x1 x2 : Value) : Below B w (set3 W d x0 x1 x2) := ((h.setCell hd _).setCell hd _).setCell hd _
theorem set3_size (W : World) (d : Nat) (x0 x1 x2 : Value) : (set3 W d x0 x1 x2).heap.size = W.heap.size := by simp [set3, World.setCell]
/-- Bytes stay, whatever disk is stored. -/
theorem BR.far3 {W : World} {B : Nat} {A : Option Addr} {n c : Nat} {bs : List UInt8} (h : BR W B A n c bs) {d : Nat} {T : TypeId} {A' : Option Addr} {n' c' : Nat} {s' r' : Int} (hd : Box W d T A' n' c' s' r') (x0 x1 x2 : Value) : BR (set3 W d x0 x1 x2) B A n c bs := by
  refine ⟨h.1, h.2.1, h.2.2.1, fun hn => ?_⟩
  obtain ⟨g, off, h1, h2, h3⟩ := h.2.2.2 hn
  refine ⟨g, off, h1, h2, fun i v hv => ?_⟩
  have h4 := h3 i v hv
  have hne : g ≠ d := by
    rintro rfl
    rw [CB.cell hd] at h4
    match hk : off + i, h4 with
    | 0, h4 => simp at h4
    | 1, h4 => simp at h4
    | 2, h4 => simp at h4
    | k + 3, h4 => simp at h4
  rw [← h4]
  refine World.cell?_of_block (a := ⟨g, off + i, none⟩) ?_
  rw [set3, Below.heap_setCell _ ⟨d, 2, none⟩ _ g hne, Below.heap_setCell _ ⟨d, 1, none⟩ _ g hne, Below.heap_setCell _ ⟨d, 0, none⟩ _ g hne]

/-- The two boxes at the beginning of a function with a disk for argument and one for result. -/
theorem two_boxes (w : World) (T T' : TypeId) (A : Option Addr) (n c : Nat) (s r : Int) : ∃ W, W = (w.alloc (.cells #[.slice A n c, .int .i64 s, .int .i64 r] T)).alloc (.cells #[.slice none 0 0, .int .i64 0, .int .i64 0] T') ∧ Box W w.heap.size T A n c s r ∧ Box W (w.heap.size + 1) T' none 0 0 0 0 ∧ Below w.heap.size w W ∧ Hid (W.heap.size = w.heap.size + 2) := by
  refine ⟨_, rfl, (Box.new w T A n c s r).alloc _, ?_, ((Below.refl _ _).alloc (Nat.le_refl _) _).alloc (by simp) _, ?_⟩
  · have := Box.new (w.alloc (.cells #[.slice A n c, .int .i64 s, .int .i64 r] T)) T' none 0 0 0 0
    simpa using this
  · show _ = _
    simp

/-- A disk is stored into block d: the world behind it under a name. -/
theorem store_end {w1 : World} {d : Nat} {T : TypeId} {A' : Option Addr} {n' c' : Nat} {s' r' : Int} (hd : Box w1 d T A' n' c' s' r') (A : Option Addr) (n c : Nat) (s r : Int) :
    ∃ w2, ((w1.setCell ⟨d, 0, none⟩ (.slice A n c)).setCell ⟨d, 1, none⟩ (.int .i64 s)).setCell ⟨d, 2, none⟩ (.int .i64 r) = w2 ∧ Box w2 d T A n c s r ∧
      (∀ (b : Nat) (T' : TypeId) (A'' : Option Addr) (n'' c'' : Nat) (s'' r'' : Int), b ≠ d → Box w1 b T' A'' n'' c'' s'' r'' → Box w2 b T' A'' n'' c'' s'' r'') ∧
      (∀ (B : Nat) (w : World), Below B w w1 → B ≤ d → Below B w w2) ∧ (∀ (A'' : Option Addr) (n'' c'' : Nat) (bs : List UInt8), BR w1 w1.heap.size A'' n'' c'' bs → BR w2 w2.heap.size A'' n'' c'' bs) :=
  ⟨_, rfl, hd.put3 A n c s r, fun b T' A'' n'' c'' s'' r'' hne h => h.far3 hne _ _ _, fun B w h hB => below_set3 h hB _ _ _, fun A'' n'' c'' bs h => by
    have e : (((w1.setCell ⟨d, 0, none⟩ (.slice A n c)).setCell ⟨d, 1, none⟩ (.int .i64 s)).setCell ⟨d, 2, none⟩ (.int .i64 r)).heap.size = w1.heap.size := set3_size w1 d _ _ _
    rw [e]
    exact h.far3 hd _ _ _⟩

theorem dpost_end {w w1 : World} {d : Nat} {T : TypeId} {A' : Option Addr} {n' c' : Nat} {s' r' : Int} (hd : Box w1 d T A' n' c' s' r') (hbl : Below w.heap.size w w1) (hw : w.heap.size ≤ d) {A : Option Addr} {n c : Nat} {bs : List UInt8} (hx : BR w1 w1.heap.size A n c bs) (s r : Int) :
    ∃ w2, ((w1.setCell ⟨d, 0, none⟩ (.slice A n c)).setCell ⟨d, 1, none⟩ (.int .i64 s)).setCell ⟨d, 2, none⟩ (.int .i64 r) = w2 ∧ (w2.cell? ⟨d, 0, none⟩ = some (.slice A n c) ∧ w2.cell? ⟨d, 1, none⟩ = some (.int .i64 s) ∧ w2.cell? ⟨d, 2, none⟩ = some (.int .i64 r)) ∧
      BR w2 w2.heap.size A n c bs ∧ Below w.heap.size w w2 := by
  obtain ⟨w2, h1, h2, _, h4, h5⟩ := store_end hd A n c s r
  exact ⟨w2, h1, h2.cells, h5 _ _ _ _ hx, h4 _ _ hbl hw⟩

set_option maxRecDepth 100000 in
set_option maxHeartbeats 1000000 in
theorem clone_f (A : Option Addr) (n c : Nat) (s r : Int) (bs : List UInt8) (w : World) (hb : BR w w.heap.size A n c bs) (hn : n ≤ 1000000) :
    Calls Try.prog 69 #[.agg #[.slice A n c, .int .i64 s, .int .i64 r]] w (DPostF w n s r bs) := by
  obtain ⟨W, hW, ha, hbox, hbl, hS⟩ := two_boxes w 106 106 A n c s r
  have hbW := hb.on hbl
  go_enter Try.func69, Try.ntmps69
  go_wp2_with fail
  rw [← hW]
  clear hW
  go_region_held3 (fun W' => W'.cell? ⟨w.heap.size, 0, none⟩ = some (.slice A n c) ∧ W'.cell? ⟨w.heap.size, 1, none⟩ = some (.int .i64 s) ∧ W'.cell? ⟨w.heap.size, 2, none⟩ = some (.int .i64 r)) (first | exact ha.cells | exact y1.cells | exact (y1.far3 (by omega) _ _ _).cells) (first
    | (go_at_call 83; refine (copy_f A n c bs W.drew hbW.drew hn).mono ?_; rintro e w1 ⟨A1, c1, rfl, hx1, hb1, hf1⟩; have y1 := ha.drew.on hb1 ha.lt; have y2 := hbox.drew.on hb1 hbox.lt; obtain ⟨z0, z1, z2⟩ := y2.cells; obtain ⟨f0, f1, f2⟩ := y2.froz))
  obtain ⟨w2, hw2, ⟨v0, v1, v2⟩, hx2, hb2⟩ := dpost_end y2 (hbl.trans ((below_drew hb1).mono hbl.size)) (by omega) hx1 s r
  rw [hw2]
  clear hw2
  go_wp2_with fail
  exact bodyPost_ret (v := .agg #[.slice A1 n c1, .int .i64 s, .int .i64 r]) (by simp [results, Try.results69, go_sem, v0, v1, v2]) rfl ⟨A1, c1, rfl, hx2, hb2, hf1.mono hbl.size⟩
theorem clone_d (A : Option Addr) (n c : Nat) (s r : Int) (bs : List UInt8) (w : World) (hb : BR w w.heap.size A n c bs) (hn : n ≤ 1000000) :
    Calls Try.prog 69 #[.agg #[.slice A n c, .int .i64 s, .int .i64 r]] w (DPost w n s r bs) := (clone_f A n c s r bs w hb hn).mono fun _ _ h => h.toD

set_option maxRecDepth 100000 in
set_option maxHeartbeats 1000000 in
theorem durable_d (A : Option Addr) (n c k : Nat) (s r : Int) (bs : List UInt8) (w : World) (hb : BR w w.heap.size A n c bs) (hn : n ≤ 1000000) (hk : k ≤ n) :
    Calls Try.prog 72 #[.agg #[.slice A n c, .int .i64 s, .int .i64 r], .int .i64 k] w (DPost w k k r (bs.take k)) := by
  obtain ⟨W, hW, ha, hbox, hbl, hS⟩ := two_boxes w 106 106 A n c s r
  obtain ⟨hcut, hbW⟩ := cut_upto (hb.on hbl) k k rfl hk
  go_enter Try.func72, Try.ntmps72
  go_wp2_with fail
  rw [← hW]
  clear hW
  go_region_held3 (fun W' => W'.cell? ⟨w.heap.size, 0, none⟩ = some (.slice A n c) ∧ W'.cell? ⟨w.heap.size, 1, none⟩ = some (.int .i64 s) ∧ W'.cell? ⟨w.heap.size, 2, none⟩ = some (.int .i64 r)) (first | exact ha.cells | exact y1.cells | exact (y1.far3 (by omega) _ _ _).cells) (first
    | (go_at_call 83; refine (copy_c A k c (bs.take k) W.drew hbW.drew (by omega)).mono ?_; rintro e w1 ⟨A1, c1, rfl, hx1, hb1⟩; have y1 := ha.drew.on hb1 ha.lt; have y2 := hbox.drew.on hb1 hbox.lt; obtain ⟨z0, z1, z2⟩ := y2.cells; obtain ⟨f0, f1, f2⟩ := y2.froz))
  obtain ⟨w2, hw2, ⟨v0, v1, v2⟩, hx2, hb2⟩ := dpost_end y2 (hbl.trans ((below_drew hb1).mono hbl.size)) (by omega) hx1 k r
  rw [hw2]
  clear hw2
  go_wp2_with fail
  exact bodyPost_ret (v := .agg #[.slice A1 k c1, .int .i64 k, .int .i64 r]) (by simp [results, Try.results72, go_sem, v0, v1, v2]) rfl ⟨A1, c1, rfl, hx2, hb2⟩

set_option maxRecDepth 100000 in
set_option maxHeartbeats 1000000 in
theorem sync_d (A : Option Addr) (n c : Nat) (s r : Int) (bs : List UInt8) (w : World) (hb : BR w w.heap.size A n c bs) (hn : n ≤ 1000000) :
    Calls Try.prog 46 #[.agg #[.slice A n c, .int .i64 s, .int .i64 r]] w (DPost w n n r bs) := by
  obtain ⟨W, hW, ha, hbox, hbl, hS⟩ := two_boxes w 106 106 A n c s r
  have HT := Lib.hid (show bs.take n = bs from List.take_of_length_le (by rw [hb.1]; exact Nat.le_refl _))
  have hbW := hb.on hbl
  obtain ⟨d0, d1, d2⟩ := ha.cells
  go_enter Try.func46, Try.ntmps46
  go_wp2_with fail
  rw [← hW]
  clear hW
  refine (durable_d A n c n s r bs W hbW hn (Nat.le_refl _)).mono ?_
  rintro e w1 ⟨A1, c1, rfl, hx1, hb1⟩
  rw [HT.out] at hx1
  have y2 := hbox.on hb1 hbox.lt
  obtain ⟨z0, z1, z2⟩ := y2.cells
  obtain ⟨f0, f1, f2⟩ := y2.froz
  obtain ⟨w2, hw2, ⟨v0, v1, v2⟩, hx2, hb2⟩ := dpost_end y2 (hbl.trans (hb1.mono hbl.size)) (by omega) hx1 n r
  have Hw2 := Lib.hid hw2
  clear hw2 hb1 hx1 y2 hbW HT
  go_wp2_with fail
  rw [Hw2.out]
  exact bodyPost_ret (v := .agg #[.slice A1 n c1, .int .i64 n, .int .i64 r]) (by simp [results, Try.results46, go_sem, v0, v1, v2]) rfl ⟨A1, c1, rfl, hx2, hb2⟩

/-- How many bytes a crash leaves. -/
def kC (n s k : Nat) : Nat := s + k % (n - s + 1)
theorem kC_le {n s k : Nat} (h : s ≤ n) : s ≤ kC n s k ∧ kC n s k ≤ n := by
  unfold kC
  have := Nat.mod_lt k (show 0 < n - s + 1 by omega)
  omega

set_option maxRecDepth 100000 in
set_option maxHeartbeats 1000000 in
theorem crash_d (A : Option Addr) (n c s k : Nat) (r : Int) (bs : List UInt8) (w : World) (hb : BR w w.heap.size A n c bs) (hn : n ≤ 1000000) (hs : s ≤ n) (hk : k < 65536) :
    Calls Try.prog 45 #[.agg #[.slice A n c, .int .i64 s, .int .i64 r], .int .u16 k] w (DPost w (kC n s k) (kC n s k) r (bs.take (kC n s k))) := by
  obtain ⟨K, hKe⟩ : ∃ K, kC n s k = K := ⟨_, rfl⟩
  rw [hKe]
  have hK := (kC_le (k := k) hs).2
  have q4 : IntKind.i64.wrap ((s : Int) + (k : Int).tmod ((n : Int) - (s : Int) + 1)) = ((kC n s k : Nat) : Int) := by
    have e : ((kC n s k : Nat) : Int) = (s : Int) + (k : Int) % ((n : Int) - (s : Int) + 1) := by
      unfold kC
      rw [Int.natCast_add, Int.natCast_emod, show ((n - s + 1 : Nat) : Int) = (n : Int) - (s : Int) + 1 by omega]
    rw [Int.tmod_eq_emod_of_nonneg (by omega), ← e]
    exact IntWalk.i64_in _ (by omega)
  rw [hKe] at hK q4
  have Q4 := Lib.hid q4
  clear q4 hKe
  obtain ⟨W, hW, ha, hbox, hbl, hS⟩ := two_boxes w 106 106 A n c s r
  have hbW := hb.on hbl
  obtain ⟨d0, d1, d2⟩ := ha.cells
  go_enter Try.func45, Try.ntmps45
  go_wp2_with fail
  rw [← hW]
  clear hW
  have q1 : IntKind.i64.wrap ((n : Int) - (s : Int) + 1) = (n : Int) - (s : Int) + 1 := IntWalk.i64_in _ (by omega)
  have q2 : IntKind.i64.wrap ((k : Int)) = (k : Int) := IntWalk.i64_in _ (by omega)
  have q3 : ¬ (n : Int) - (s : Int) + 1 = 0 := by omega
  go_region_held3 (fun W' => W'.cell? ⟨w.heap.size, 0, none⟩ = some (.slice A n c) ∧ W'.cell? ⟨w.heap.size, 1, none⟩ = some (.int .i64 s) ∧ W'.cell? ⟨w.heap.size, 2, none⟩ = some (.int .i64 r)) (first | exact ha.cells | exact y1.cells | exact (y1.far3 (by omega) _ _ _).cells) (first
    | (go_at_call 72; rw [Q4.out]; (with_reducible refine (durable_d A n c K s r bs W.drew hbW.drewS hn hK).mono ?_); rintro e w1 ⟨A1, c1, rfl, hx1, hb1⟩; have y1 := ha.drew.on hb1 ha.lt; have y2 := hbox.drew.on hb1 hbox.lt; obtain ⟨z0, z1, z2⟩ := y2.cells; obtain ⟨f0, f1, f2⟩ := y2.froz))
  clear q1 q2 q3
  obtain ⟨w2, hw2, ⟨v0, v1, v2⟩, hx2, hb2⟩ := dpost_end y2 (hbl.trans ((below_drew hb1).mono hbl.size)) (by omega) hx1 K r
  rw [hw2]
  clear hw2
  go_wp2_with fail
  exact bodyPost_ret (v := .agg #[.slice A1 K c1, .int .i64 K, .int .i64 r]) (by simp [results, Try.results45, go_sem, v0, v1, v2]) rfl ⟨A1, c1, rfl, hx2, hb2⟩
end Go.Proofs.Ytcfdfimkgehdfaa.Dz

/-
  Records and Repair of package disk. Conditions: the disk's bytes can be read, there are a million of them at most.
-/
namespace Go.Proofs.Ytcfdfimkgehdfaa.Dz
set_option maxRecDepth 100000
open Go.RowKit

set_option maxRecDepth 100000 in
set_option maxHeartbeats 1000000 in
theorem records_d (A : Option Addr) (n c : Nat) (s r : Int) (bs : List UInt8) (w : World) (hb : BR w w.heap.size A n c bs) (hn : n ≤ 1000000) :
    Calls Try.prog 44 #[.agg #[.slice A n c, .int .i64 s, .int .i64 r]] w (APostO w bs) := by
  have hbl : Below w.heap.size w (w.alloc (.cells #[.slice A n c, .int .i64 s, .int .i64 r] 106)) := (Below.refl _ _).alloc (Nat.le_refl _) _
  have hbW := hb.on hbl
  go_enter Try.func44, Try.ntmps44
  go_wp2_with fail
  refine (all_o A n c bs _ hbW hn).mono ?_
  rintro e w1 ⟨A1, n1, c1, cells, G, B, rfl, h2, h3, h4, h5, h6, h7⟩
  have H := Lib.hid (show APostO w bs (.returned (.tuple #[.slice A1 n1 c1, .int .i64 (aN bs : Int)])) w1 from ⟨A1, n1, c1, cells, G, B, rfl, h2, h3, h4, Nat.le_trans hbl.size h5, h6, hbl.trans (h7.mono hbl.size)⟩)
  clear h2 h3 h4 h5 h6 h7
  generalize aN bs = N at *
  go_wp2_with fail
  go_ret2
  exact H.out

theorem aN_le' (bs : List UInt8) {n : Nat} (h : bs.length = n) : aN bs ≤ n := by have := (aN_le bs.length bs (Nat.le_refl _)).1; omega

end Go.Proofs.Ytcfdfimkgehdfaa.Dz

/-
  slices.Grow and slices.Concat as package disk calls them: the bytes of all parts, one behind the other, in a slice of its own. Conditions: the parts can be read, they have a million bytes at most in all.
-/
namespace Go.Proofs.Ytcfdfimkgehdfaa.Dz
set_option maxRecDepth 100000
open Go.RowKit

/-- An empty slice of bytes of the call's own. -/
def GPost (w : World) (e : Ending) (w' : World) : Prop :=
  ∃ A c G, e = .returned (.slice A 0 c) ∧ Seg w' 5 1 A 0 c [] G ∧ w.grownBy w' none ∧ Moved w none G

theorem run_zeros (m : Nat) (h0 : 0 < m) (hm : m ≤ 2000000) (w : World) (x : Int) (hx : x = m) : ∃ c w', (∀ ty, (Builtin.append_ #[30, 3] ty #[.slice none 0 0, .int .i64 x]).run Try.prog w = .ok (.slice (some ⟨w.heap.size, 0, none⟩) m c) w') ∧
    Seg w' 5 1 (some ⟨w.heap.size, 0, none⟩) 0 c [] (some w.heap.size) ∧ w.grownBy w' none := by
  obtain ⟨i0, Hi, Hz, Hz1, Hz2⟩ := info_hid
  subst hx
  have hge := grownCap_ge w m 0 5
  have hle := grownCap_le_maxLen w m 0 5 (by simp only [maxLen]; omega)
  refine ⟨grownCap w m 0 5, _, fun ty => Lib.run_append_nil_zeros (P := Try.prog) w 30 3 ty 5 i0 (.int .u8 0) .i64 .i64 Try.underlying30 Try.underlying3 Hi.out Hz.out m h0 (by rw [Hz1.out]; omega) (by omega) (by rw [Hz2.out]; omega), ⟨by simp, Nat.zero_le _, hle, .inr ⟨w.heap.size, 0, _, rfl, rfl, heap_alloc_new w.drew _, ?_, fun j u hu => by simp at hu⟩⟩, ⟨rfl, rfl, rfl, by simp, fun k hk _ => Below.heap_alloc w.drew _ k hk⟩⟩
  have hz1 : (Value.int IntKind.u8 0).cells.size = 1 := rfl
  simp only [Array.size_append, size_zeroCells, hz1]
  omega

set_option maxRecDepth 100000 in
set_option maxHeartbeats 1000000 in
theorem grow_c (m : Nat) (h0 : 0 < m) (hm : m ≤ 2000000) (w : World) :
    Calls Try.prog 84 #[.slice none 0 0, .int .i64 m] w (GPost w) := by
  obtain ⟨c1, w1, hrun, hs1, hg1⟩ := run_zeros m h0 hm w m rfl
  have hc1 := hs1.2.1
  have H := Lib.hid (show GPost w (.returned (.slice (some ⟨w.heap.size, 0, none⟩) 0 c1)) w1 from ⟨_, c1, _, rfl, hs1, hg1, .inr ⟨_, rfl, Nat.le_refl _⟩⟩)
  have q1 : ¬ (m : Int) < 0 := by omega
  have q2 : (0 : Int) < (m : Int) := by omega
  clear hs1 hg1
  go_enter Try.func84, Try.ntmps84
  go_wp2_with (at_builtin; refine Lib.wpList_append_run _ rfl _ _ _ _ rfl _ _ rfl rfl _ _ (hrun _) ?_)
  go_ret
  exact H.out

theorem flat_next {ls : List (List UInt8)} {k : Nat} {l : List UInt8} (h : ls[k]? = some l) : (ls.take (k + 1)).flatten = (ls.take k).flatten ++ l := by
  obtain ⟨h1, rfl⟩ := List.getElem?_eq_some_iff.1 h
  rw [List.take_succ_eq_append_getElem h1, List.flatten_append]
  simp
theorem flat_le (ls : List (List UInt8)) (k : Nat) : (ls.take k).flatten.length ≤ ls.flatten.length := by
  conv => rhs; rw [← List.take_append_drop k ls, List.flatten_append, List.length_append]
  omega

/-- Where the loop that joins parts stands. -/
structure KI (w : World) (xs : List UInt8) (A' : Option Addr) (n' c' : Nat) (wr : World) : Prop where
  ex : ∃ G', Seg wr 5 1 A' n' c' (bc xs) G' ∧ ∀ g, G' = some g → w.heap.size ≤ g
  bl : Below w.heap.size w wr
theorem KI.next {w : World} {xs ys zs : List UInt8} {A' : Option Addr} {n' c' : Nat} {wr w3 : World} (h : KI w xs A' n' c' wr) {G' G3 : Option Nat} (hG : ∀ g, G' = some g → w.heap.size ≤ g)
    {A3 : Option Addr} {m c3 : Nat} (hs : Seg w3 5 1 A3 m c3 (bc xs ++ bc ys) G3) (hg : wr.grownBy w3 G') (hm : Moved wr G' G3) (he : zs = xs ++ ys) : KI w zs A3 m c3 w3 := by
  subst he
  exact ⟨⟨G3, by rw [bc_append]; exact hs, hm.ge h.bl.size hG⟩, h.bl.trans (grown_below hg h.bl.size hG)⟩

set_option maxRecDepth 100000 in
set_option maxHeartbeats 2000000 in
theorem concat_f (A : Option Addr) (n c : Nat) (ls : List (List UInt8)) (w : World) (hl : LR w w.heap.size A n c ls) (m : Nat) (hm : ls.flatten.length = m) (h0 : 0 < m) (h1 : m ≤ 2000000) :
    Calls Try.prog 70 #[.slice A n c] w (SPostF w m ls.flatten) := by
  have hnm := hl.max
  have HM := Lib.hid hm
  have HL := Lib.hid hl.1
  clear hm
  obtain ⟨i0, Hi, Hz, Hz1, Hz2⟩ := info_hid
  have p4 : 0 < 1 := by omega
  go_enter Try.func70, Try.ntmps70
  go_wp2_with fail
  go_loop [3, 11] (fun x i => ∃ k q : Nat, k ≤ n ∧ i = .int .i64 k ∧ x = .int .i64 q ∧ Hid ((ls.take k).flatten.length = q)) (fun _ i => n - (intOf i).toNat)
  case atStart => exact ⟨0, 0, Nat.zero_le _, rfl, rfl, rfl⟩
  case round =>
    obtain ⟨k, q, hk, rfl, rfl, HQ⟩ := hrel
    by_cases hlt : k < n
    · obtain ⟨g, off, A1, n1, c1, l, rfl, Hl, cl, hb1⟩ := hl.at_ hlt
      have HN := Lib.hid (show (ls.take (k + 1)).flatten.length = q + n1 by rw [flat_next Hl.out, List.length_append, HQ.out, hb1.1])
      have hq : q + n1 ≤ m := by rw [← HN.out, ← HM.out]; exact flat_le ls (k + 1)
      have hq0 : ¬ (q : Int) + (n1 : Int) < 0 := by omega
      clear hb1
      go_wp2_with fail
      go_round
      case rel => exact ⟨k + 1, q + n1, by omega, by go_num, by go_num, HN.out⟩
      case measure => simp [intOf]; omega
    · obtain rfl : k = n := by omega
      obtain rfl : q = m := by rw [← HQ.out, ← HM.out, List.take_of_length_le (by rw [HL.out]; exact Nat.le_refl _)]
      clear HQ
      go_wp2_with fail
      refine (grow_c q h0 h1 w).mono ?_
      rintro e w1 ⟨A1, c1, G1, rfl, hs1, hg1, hm1⟩
      have HK : KI w [] A1 0 c1 w1 := ⟨⟨G1, hs1, hm1.ge (Nat.le_refl _) (fun g e => by cases e)⟩, grown_below hg1 (Nat.le_refl _) (fun g e => by cases e)⟩
      clear hs1 hg1 hm1
      go_wp2_with fail
      go_loopw [6, 27] (fun a i wr => ∃ (k' n' : Nat) (A' : Option Addr) (c' : Nat) (xs : List UInt8), k' ≤ k ∧ i = .int .i64 k' ∧ a = .slice A' n' c' ∧ KI w xs A' n' c' wr ∧ Hid ((ls.take k').flatten = xs)) (fun _ i _ => k - (intOf i).toNat)
      case atStart => exact ⟨0, 0, A1, c1, [], Nat.zero_le _, rfl, rfl, HK, rfl⟩
      case round =>
        clear HK
        obtain ⟨k', n', A', c', xs, hk', rfl, rfl, HK, HX⟩ := hrel
        obtain ⟨G', hs', hG'⟩ := HK.ex
        have hxl : xs.length = n' := by have := hs'.1; rw [bc_length] at this; omega
        have hxm : n' ≤ q := by rw [← hxl, ← HX.out, ← HM.out]; exact flat_le ls k'
        by_cases hlt' : k' < k
        · obtain ⟨g, off, A2, n2, c2, l, rfl, Hl, cl, hb2⟩ := (hl.below HK.bl (Nat.le_refl _)).at_ hlt'
          have HN := Lib.hid (show (ls.take (k' + 1)).flatten = xs ++ l by rw [flat_next Hl.out, HX.out])
          have hq2 : n' + n2 ≤ q := by have h5 := flat_le ls (k' + 1); rw [HN.out, List.length_append, HM.out, hxl, hb2.1] at h5; exact h5
          have hsrc := hb2.src
          have p1 : n' + n2 ≤ maxLen := by simp only [maxLen]; omega
          have p2 : (n' + n2) * 1 ≤ 140737488355328 := by omega
          have HNX := Lib.hid (fun A3 c3 G3 w3 => HK.next (ys := l) (zs := xs ++ l) (w3 := w3) (A3 := A3) (m := n' + n2) (c3 := c3) (G3 := G3) hG')
          clear HK hb2 hxl
          go_wp2_with (at_builtin; refine wpList_append_src _ rfl (.tmp 31) (.tmp 32) _ rfl 5 i0 _ 1 1 Try.underlying30 Hi.out Hz.out Hz1.out Hz2.out rfl p4 rfl hs' rfl hsrc (bc_one _) p1 p2 ?_; intro A3 c3 G3 w3 hs3 hg3 hm3; have HK := Lib.hid (HNX.out _ _ _ _ hs3 hg3 hm3 rfl); clear hs3 hg3 hm3)
          go_roundw
          case rel => exact ⟨k' + 1, n' + n2, A3, c3, xs ++ l, by omega, by go_num, rfl, HK.out, HN.out⟩
          case measure => simp [intOf]; omega
        · obtain rfl : k' = k := by omega
          have hxe : ls.flatten = xs := by rw [← HX.out, List.take_of_length_le (by rw [HL.out]; exact Nat.le_refl _)]
          obtain rfl : n' = q := by rw [← hxl, ← hxe, HM.out]
          have H := Lib.hid (show SPostF w n' ls.flatten (.returned (.slice A' n' c')) wr from ⟨A', c', rfl, by rw [hxe]; exact BR.of_seg hs', HK.bl, Fresh.of_seg hs' hG'⟩)
          clear HK hs' hxl hxe HX
          go_wp2_with fail
          go_ret
          exact H.out
end Go.Proofs.Ytcfdfimkgehdfaa.Dz

/-
  Append of package disk. Conditions: the bytes can be read, there are a million of them at most.
-/
namespace Go.Proofs.Ytcfdfimkgehdfaa.Dz
set_option maxRecDepth 100000
open Go.RowKit

/-- A call gave a disk with bytes of its own, and an error, back. -/
def TPost (w : World) (s r : Int) (bs : List UInt8) (k : Nat) (e : Ending) (w' : World) : Prop :=
  ∃ A n c, e = .returned (.tuple #[.agg #[.slice A n c, .int .i64 s, .int .i64 r], .int .i64 (k : Int)]) ∧ BR w' w'.heap.size A n c bs ∧ Below w.heap.size w w'

/-- The same, in a new block. -/
def TPostF (w : World) (s r : Int) (bs : List UInt8) (k : Nat) (e : Ending) (w' : World) : Prop :=
  ∃ A n c, e = .returned (.tuple #[.agg #[.slice A n c, .int .i64 s, .int .i64 r], .int .i64 (k : Int)]) ∧ BR w' w'.heap.size A n c bs ∧ Below w.heap.size w w' ∧ Fresh w A
theorem TPostF.toT {w : World} {s r : Int} {bs : List UInt8} {k : Nat} {e : Ending} {w' : World} (h : TPostF w s r bs k e w') : TPost w s r bs k e w' := by
  obtain ⟨A, n, c, h1, h2, h3, _⟩ := h
  exact ⟨A, n, c, h1, h2, h3⟩

/-- Two slices of bytes in a row that the walk has just made. -/
theorem lr_two {W : World} {A A' : Option Addr} {n c n' c' : Nat} {bs fs : List UInt8} (h1 : BR W W.heap.size A n c bs) (h2 : BR W W.heap.size A' n' c' fs) (T : TypeId) : LR (W.alloc (.cells #[.slice A n c, .slice A' n' c'] T)) (W.alloc (.cells #[.slice A n c, .slice A' n' c'] T)).heap.size (some ⟨W.heap.size, 0, none⟩) 2 2 [bs, fs] := by
  have hbl : Below W.heap.size W (W.alloc (.cells #[.slice A n c, .slice A' n' c'] T)) := (Below.refl _ _).alloc (Nat.le_refl _) _
  have hcb := CB.new W T #[.slice A n c, .slice A' n' c']
  refine ⟨rfl, Nat.le_refl _, by simp [maxLen], fun i l hl => ?_⟩
  match i, hl with
  | 0, hl =>
    simp at hl
    subst hl
    exact ⟨W.heap.size, 0, A, n, c, rfl, hcb.lt, by rw [hcb.cell]; rfl, h1.on hbl⟩
  | 1, hl =>
    simp at hl
    subst hl
    exact ⟨W.heap.size, 0, A', n', c', rfl, hcb.lt, by rw [hcb.cell]; rfl, h2.on hbl⟩
/-- One slice of bytes in a row that the walk has just made. -/
theorem lr_one {W : World} {A : Option Addr} {n c : Nat} {bs : List UInt8} (h1 : BR W W.heap.size A n c bs) (T : TypeId) : LR (W.alloc (.cells #[.slice A n c] T)) (W.alloc (.cells #[.slice A n c] T)).heap.size (some ⟨W.heap.size, 0, none⟩) 1 1 [bs] := by
  have hbl : Below W.heap.size W (W.alloc (.cells #[.slice A n c] T)) := (Below.refl _ _).alloc (Nat.le_refl _) _
  have hcb := CB.new W T #[.slice A n c]
  refine ⟨rfl, Nat.le_refl _, by simp [maxLen], fun i l hl => ?_⟩
  match i, hl with
  | 0, hl =>
    simp at hl
    subst hl
    exact ⟨W.heap.size, 0, A, n, c, rfl, hcb.lt, by rw [hcb.cell]; rfl, h1.on hbl⟩

set_option maxRecDepth 100000 in
set_option maxHeartbeats 2000000 in
theorem append_f (A : Option Addr) (n c r : Nat) (s : Int) (bs : List UInt8) (Ar : Option Addr) (nr cr : Nat) (rs : List UInt8) (w : World) (hb : BR w w.heap.size A n c bs) (hr : BR w w.heap.size Ar nr cr rs) (hn : n ≤ 1000000) (hrm : r ≤ 2000000) :
    Calls Try.prog 43 #[.agg #[.slice A n c, .int .i64 s, .int .i64 r], .slice Ar nr cr] w (TPostF w s r (bA r bs rs) (eA n r rs)) := by
  obtain ⟨W, hW, ha, hbox, hbl, hS⟩ := two_boxes w 106 106 A n c s r
  have hrW := hr.on hbl
  have hnl := hb.1
  have hrl := hr.1
  have hrx := hr.max
  go_enter Try.func43, Try.ntmps43
  go_wp2_with fail
  rw [← hW]
  clear hW
  refine (frame_c Ar nr cr rs W hrW).mono ?_
  rintro e w1 ⟨A1, n1, c1, G1, rfl, hs1, hb1, _⟩
  have hf1 := BR.of_seg hs1
  have ha1 := ha.on hb1 ha.lt
  have hbox1 := hbox.on hb1 hbox.lt
  have hbl1 := hbl.trans (hb1.mono hbl.size)
  have hb1' := hb.on hbl1
  clear hs1 hrW ha hbox hbl hb1
  obtain ⟨d0, d1, d2⟩ := ha1.cells
  by_cases hbig : 4000 < rs.length
  · obtain ⟨e1, e2⟩ := eF_big hbig
    have HE := Lib.hid (eA_big (n := n) (r := r) hbig)
    have HB := Lib.hid (bA_bad (r := r) (bs := bs) (rec := rs) (by rw [eA_big hbig]; omega))
    rw [e1]
    clear e1 e2 hbig hf1
    go_wp2_with fail
    refine (clone_f A n c s r bs w1 hb1' hn).mono ?_
    rintro e w2 ⟨A2, c2, rfl, hx2, hb2, hf2⟩
    have y2 := hbox1.on hb2 hbox1.lt
    obtain ⟨z0, z1, z2⟩ := y2.cells
    obtain ⟨f0, f1, f2⟩ := y2.froz
    obtain ⟨w3, hw3, ⟨v0, v1, v2⟩, hx3, hb3⟩ := dpost_end y2 (hbl1.trans (hb2.mono hbl1.size)) (by omega) hx2 s r
    have Hw3 := Lib.hid hw3
    clear hw3 hb2 hx2 y2 d0 d1 d2 hnl hrl
    go_wp2_with fail
    rw [Hw3.out]
    exact bodyPost_ret (v := .tuple #[.agg #[.slice A2 n c2, .int .i64 s, .int .i64 r], .int .i64 3]) (by simp [results, Try.results43, go_sem, v0, v1, v2]) rfl ⟨A2, n, c2, by rw [HE.out]; rfl, by rw [HB.out]; exact hx3, hb3, hf2.mono hbl1.size⟩
  obtain ⟨e1, e2⟩ := eF_ok hbig
  rw [e2] at hf1
  obtain rfl : n1 = nr + 7 := by have h5 := hf1.1; rw [frameB_length] at h5; omega
  rw [e1]
  by_cases hfull : r < n + (nr + 7)
  · have HE := Lib.hid (eA_full (n := n) (r := r) hbig (by rw [hrl]; exact hfull))
    have HB := Lib.hid (bA_bad (r := r) (bs := bs) (rec := rs) (by rw [hnl, HE.out]; omega))
    have hfi : (r : Int) < (n : Int) + ((nr : Int) + 7) := by omega
    have hbg : nr ≤ 4000 := by omega
    clear e1 e2 hbig hf1
    go_wp2_with fail
    refine (clone_f A n c s r bs w1 hb1' hn).mono ?_
    rintro e w2 ⟨A2, c2, rfl, hx2, hb2, hf2⟩
    have y2 := hbox1.on hb2 hbox1.lt
    obtain ⟨z0, z1, z2⟩ := y2.cells
    obtain ⟨f0, f1, f2⟩ := y2.froz
    obtain ⟨w3, hw3, ⟨v0, v1, v2⟩, hx3, hb3⟩ := dpost_end y2 (hbl1.trans (hb2.mono hbl1.size)) (by omega) hx2 s r
    have Hw3 := Lib.hid hw3
    clear hw3 hb2 hx2 y2 d0 d1 d2 hnl hrl
    go_wp2_with fail
    rw [Hw3.out]
    exact bodyPost_ret (v := .tuple #[.agg #[.slice A2 n c2, .int .i64 s, .int .i64 r], .int .i64 6]) (by simp [results, Try.results43, go_sem, v0, v1, v2]) rfl ⟨A2, n, c2, by rw [HE.out]; rfl, by rw [HB.out]; exact hx3, hb3, hf2.mono hbl1.size⟩
  · have HE := Lib.hid (eA_ok (n := n) (r := r) hbig (by rw [hrl]; exact hfull))
    have HB := Lib.hid (bA_ok (r := r) (bs := bs) (rec := rs) (by rw [hnl, HE.out]))
    have hfi : ¬ (r : Int) < (n : Int) + ((nr : Int) + 7) := by omega
    have hbg : nr ≤ 4000 := by omega
    have Hlen := Lib.hid (show [bs, frameB rs].flatten.length = n + (nr + 7) by simp [frameB_length, hnl, hrl])
    have HFl := Lib.hid (show [bs, frameB rs].flatten = bs ++ frameB rs by simp)
    clear e1 e2 hbig hnl hrl
    generalize frameB rs = fs at *
    have hL := (lr_two hb1' hf1 30).drewS
    have haL := (ha1.alloc (.cells #[.slice A n c, .slice A1 (nr + 7) c1] 30)).drew
    have hbL := (hbox1.alloc (.cells #[.slice A n c, .slice A1 (nr + 7) c1] 30)).drew
    have hblL : Below w.heap.size w (w1.alloc (.cells #[.slice A n c, .slice A1 (nr + 7) c1] 30)).drew := (hbl1.alloc hbl1.size _).drew
    go_wp2_with fail
    go_region_held3 (fun W' => W'.cell? ⟨w.heap.size, 0, none⟩ = some (.slice A n c) ∧ W'.cell? ⟨w.heap.size, 1, none⟩ = some (.int .i64 s) ∧ W'.cell? ⟨w.heap.size, 2, none⟩ = some (.int .i64 r)) (first | exact ha1.cells | exact haL.cells | exact y1.cells | exact (y1.far3 (by omega) _ _ _).cells) (first
      | (go_at_call 70; (with_reducible refine (concat_f _ 2 2 [bs, fs] _ hL (n + (nr + 7)) Hlen.out (by omega) (by omega)).mono ?_); rw [HFl.out]; rintro e w2 ⟨A2, c2, rfl, hx2, hb2, hf2⟩; have y1 := haL.on hb2 haL.lt; have y2 := hbL.on hb2 hbL.lt; obtain ⟨z0, z1, z2⟩ := y2.cells; obtain ⟨f0, f1, f2⟩ := y2.froz))
    obtain ⟨w3, hw3, ⟨v0, v1, v2⟩, hx3, hb3⟩ := dpost_end y2 (hblL.trans (hb2.mono hblL.size)) (by omega) hx2 s r
    rw [hw3]
    clear hw3
    go_wp2_with fail
    exact bodyPost_ret (v := .tuple #[.agg #[.slice A2 (n + (nr + 7)) c2, .int .i64 s, .int .i64 r], .int .i64 0]) (by simp [results, Try.results43, go_sem, v0, v1, v2]) rfl ⟨A2, _, c2, by rw [HE.out]; rfl, by rw [HB.out]; exact hx3, hb3, hf2.mono hblL.size⟩
theorem append_d (A : Option Addr) (n c r : Nat) (s : Int) (bs : List UInt8) (Ar : Option Addr) (nr cr : Nat) (rs : List UInt8) (w : World) (hb : BR w w.heap.size A n c bs) (hr : BR w w.heap.size Ar nr cr rs) (hn : n ≤ 1000000) (hrm : r ≤ 2000000) :
    Calls Try.prog 43 #[.agg #[.slice A n c, .int .i64 s, .int .i64 r], .slice Ar nr cr] w (TPost w s r (bA r bs rs) (eA n r rs)) := (append_f A n c r s bs Ar nr cr rs w hb hr hn hrm).mono fun _ _ h => h.toT
end Go.Proofs.Ytcfdfimkgehdfaa.Dz
