/-
  The small functions of package disk: copyOf, clone, durable, Sync, Crash. Conditions: the disk's bytes can be read, there are a million of them at most.
-/
import Derived.Test.YtdelllkgllfcdaaSumN
namespace Go.Proofs.Ytdelllkgllfcdaa
open Go.RowKit

/-- A call gave bytes of its own back. -/
def SPost (w : World) (n : Nat) (bs : List UInt8) (e : Ending) (w' : World) : Prop :=
  ∃ A c, e = .returned (.slice A n c) ∧ BR w' w'.heap.size A n c bs ∧ Below w.heap.size w w'

/-- The slice lies in a block that is new since w. -/
def Fresh (w : World) (A : Option Addr) : Prop := ∀ ad, A = some ad → w.heap.size ≤ ad.block
theorem Fresh.of_seg {w w' : World} {e : TypeId} {size : Nat} {A : Option Addr} {n c : Nat} {xs : List Value} {G : Option Nat} (h : Seg w' e size A n c xs G) (hG : ∀ g, G = some g → w.heap.size ≤ g) : Fresh w A := by
  intro ad had
  rcases h.2.2.2 with ⟨h0, _, _⟩ | ⟨g, off, cur, h1, h2, _⟩
  · rw [h0] at had; cases had
  · rw [h1] at had; cases had; exact hG g h2
theorem Fresh.mono {w w' : World} {A : Option Addr} (h : Fresh w' A) (hs : w.heap.size ≤ w'.heap.size) : Fresh w A := fun ad had => Nat.le_trans hs (h ad had)
/-- The same, in a new block. -/
def SPostF (w : World) (n : Nat) (bs : List UInt8) (e : Ending) (w' : World) : Prop :=
  ∃ A c, e = .returned (.slice A n c) ∧ BR w' w'.heap.size A n c bs ∧ Below w.heap.size w w' ∧ Fresh w A
theorem SPostF.toS {w : World} {n : Nat} {bs : List UInt8} {e : Ending} {w' : World} (h : SPostF w n bs e w') : SPost w n bs e w' := by
  obtain ⟨A, c, h1, h2, h3, _⟩ := h
  exact ⟨A, c, h1, h2, h3⟩

set_option maxHeartbeats 400000 in
theorem copy_f (A : Option Addr) (n c : Nat) (bs : List UInt8) (w : World) (hb : BR w w.heap.size A n c bs) (hn : n ≤ 1000000) :
    Calls Try.prog 33 #[.slice A n c] w (SPostF w n bs) := by
  obtain ⟨i0, Hi, Hz, Hz1, Hz2⟩ := info_hid
  have p1 : 0 + n ≤ maxLen := by simp only [maxLen]; omega
  have p2 : (0 + n) * 1 ≤ 140737488355328 := by omega
  have p4 : 0 < 1 := by omega
  have hsrc := hb.src
  clear hb
  go_enter Try.func33, Try.ntmps33
  go_wp2_with (at_builtin; refine wpList_append_src _ rfl (.const (.slice none 0 0)) (.tmp 3) _ rfl 5 i0 _ 1 1 Try.underlying22 Hi.out Hz.out Hz1.out Hz2.out rfl p4 rfl (Seg.nil w _ _) rfl hsrc (bc_one _) p1 p2 ?_; intro A1 c1 G1 w1 hs1 hg1 hm1)
  rw [List.nil_append, Nat.zero_add] at hs1
  have H := Lib.hid (show SPostF w n bs (.returned (.slice A1 n c1)) w1 from ⟨A1, c1, rfl, BR.of_seg hs1, grown_below hg1 (Nat.le_refl _) (fun g e => by cases e), Fresh.of_seg hs1 (hm1.ge (Nat.le_refl _) (fun g e => by cases e))⟩)
  clear hs1 hg1 hm1 hsrc
  go_wp2_with fail
  go_ret
  exact H.out
theorem copy_c (A : Option Addr) (n c : Nat) (bs : List UInt8) (w : World) (hb : BR w w.heap.size A n c bs) (hn : n ≤ 1000000) :
    Calls Try.prog 33 #[.slice A n c] w (SPost w n bs) := (copy_f A n c bs w hb hn).mono fun _ _ h => h.toS

/-- A call gave a disk back, with bytes of its own. -/
def DPost (w : World) (n : Nat) (s r : Int) (bs : List UInt8) (e : Ending) (w' : World) : Prop :=
  ∃ A c, e = .returned (.agg #[.slice A n c, .int .i64 s, .int .i64 r]) ∧ BR w' w'.heap.size A n c bs ∧ Below w.heap.size w w'

/-- The same, in a new block. -/
def DPostF (w : World) (n : Nat) (s r : Int) (bs : List UInt8) (e : Ending) (w' : World) : Prop :=
  ∃ A c, e = .returned (.agg #[.slice A n c, .int .i64 s, .int .i64 r]) ∧ BR w' w'.heap.size A n c bs ∧ Below w.heap.size w w' ∧ Fresh w A
theorem DPostF.toD {w : World} {n : Nat} {s r : Int} {bs : List UInt8} {e : Ending} {w' : World} (h : DPostF w n s r bs e w') : DPost w n s r bs e w' := by
  obtain ⟨A, c, h1, h2, h3, _⟩ := h
  exact ⟨A, c, h1, h2, h3⟩

/-- All that was there reads as before. -/
theorem bcell {W w1 : World} (hb : Below W.heap.size W w1) : (∀ b o, b < W.heap.size → w1.cell? ⟨b, o, none⟩ = W.cell? ⟨b, o, none⟩) ∧ (∀ b o, b < W.heap.size → w1.frozen? ⟨b, o, none⟩ = W.frozen? ⟨b, o, none⟩) :=
  ⟨fun b o h => hb.cell (p := ⟨b, o, none⟩) h, fun b o h => hb.frozen (p := ⟨b, o, none⟩) h⟩

theorem BR.drewS {W : World} {A : Option Addr} {n c : Nat} {bs : List UInt8} (h : BR W W.heap.size A n c bs) : BR W.drew W.drew.heap.size A n c bs := h.drew
theorem LR.drewS {W : World} {A : Option Addr} {n c : Nat} {ls : List (List UInt8)} (h : LR W W.heap.size A n c ls) : LR W.drew W.drew.heap.size A n c ls := h.keep fun _ _ => rfl
theorem below_drew {B : Nat} {W w1 : World} (h : Below B W.drew w1) : Below B W w1 := ⟨h.os, h.tape, h.output, h.size, h.block⟩
theorem below_drewN {B k : Nat} {W w1 : World} (h : Below B (W.drewN k) w1) : Below B W w1 := ⟨h.os, h.tape, h.output, h.size, h.block⟩

/-- Block b is a disk, as a box of the walk. -/
def Box (W : World) (b : Nat) (T : TypeId) (A : Option Addr) (n c : Nat) (s r : Int) : Prop := CB W b T #[.slice A n c, .int .i64 s, .int .i64 r]
/-- What a store of a whole disk makes of a world. -/
abbrev set3 (W : World) (d : Nat) (x0 x1 x2 : Value) : World := ((W.setCell ⟨d, 0, none⟩ x0).setCell ⟨d, 1, none⟩ x1).setCell ⟨d, 2, none⟩ x2
section
variable {W W' : World} {b : Nat} {T : TypeId} {A : Option Addr} {n c : Nat} {s r : Int}
theorem Box.lt (h : Box W b T A n c s r) : b < W.heap.size := CB.lt h
theorem Box.cells (h : Box W b T A n c s r) : W.cell? ⟨b, 0, none⟩ = some (.slice A n c) ∧ W.cell? ⟨b, 1, none⟩ = some (.int .i64 s) ∧ W.cell? ⟨b, 2, none⟩ = some (.int .i64 r) :=
  ⟨by rw [CB.cell h]; rfl, by rw [CB.cell h]; rfl, by rw [CB.cell h]; rfl⟩
theorem Box.froz (h : Box W b T A n c s r) : W.frozen? ⟨b, 0, none⟩ = false ∧ W.frozen? ⟨b, 1, none⟩ = false ∧ W.frozen? ⟨b, 2, none⟩ = false := ⟨CB.frozen h 0, CB.frozen h 1, CB.frozen h 2⟩
theorem Box.on {B : Nat} (h : Box W b T A n c s r) (hb : Below B W W') (hB : b < B) : Box W' b T A n c s r := CB.same h (hb.block b hB)
theorem Box.drew (h : Box W b T A n c s r) : Box W.drew b T A n c s r := h
theorem Box.drewN (h : Box W b T A n c s r) (k : Nat) : Box (W.drewN k) b T A n c s r := h
theorem Box.alloc (h : Box W b T A n c s r) (o : Obj) : Box (W.alloc o) b T A n c s r := CB.alloc h o
theorem Box.far3 (h : Box W b T A n c s r) {d : Nat} (hd : b ≠ d) (x0 x1 x2 : Value) : Box (set3 W d x0 x1 x2) b T A n c s r := CB.far (CB.far (CB.far h (p := ⟨d, 0, none⟩) hd x0) (p := ⟨d, 1, none⟩) hd x1) (p := ⟨d, 2, none⟩) hd x2
theorem Box.put3 (h : Box W b T A n c s r) (A' : Option Addr) (n' c' : Nat) (s' r' : Int) : Box (set3 W b (.slice A' n' c') (.int .i64 s') (.int .i64 r')) b T A' n' c' s' r' :=
  ((CB.put h 0 (.slice A' n' c')).put 1 (.int .i64 s')).put 2 (.int .i64 r')
theorem Box.new (w : World) (T : TypeId) (A : Option Addr) (n c : Nat) (s r : Int) : Box (w.alloc (.cells #[.slice A n c, .int .i64 s, .int .i64 r] T)) w.heap.size T A n c s r := CB.new _ _ _
end
theorem below_set3 {B : Nat} {w W : World} (h : Below B w W) {d : Nat} (hd : B ≤ d) (x0 x1 x2 : Value) : Below B w (set3 W d x0 x1 x2) := ((h.setCell hd _).setCell hd _).setCell hd _
theorem set3_size (W : World) (d : Nat) (x0 x1 x2 : Value) : (set3 W d x0 x1 x2).heap.size = W.heap.size := by simp [set3, World.setCell]
/-- Bytes stay, whatever disk is stored. -/
theorem BR.far3 {W : World} {B : Nat} {A : Option Addr} {n c : Nat} {bs : List UInt8} (h : BR W B A n c bs) {d : Nat} {T : TypeId} {A' : Option Addr} {n' c' : Nat} {s' r' : Int} (hd : Box W d T A' n' c' s' r') (x0 x1 x2 : Value) : BR (set3 W d x0 x1 x2) B A n c bs := by
  refine ⟨h.1, h.2.1, h.2.2.1, fun hn => ?_⟩
  obtain ⟨g, off, h1, h2, h3⟩ := h.2.2.2 hn
  refine ⟨g, off, h1, h2, fun i v hv => ?_⟩
  have h4 := h3 i v hv
  have hne : g ≠ d := by
    rintro rfl
    rw [CB.cell hd] at h4
    match hk : off + i, h4 with
    | 0, h4 => simp at h4
    | 1, h4 => simp at h4
    | 2, h4 => simp at h4
    | k + 3, h4 => simp at h4
  rw [← h4]
  refine World.cell?_of_block (a := ⟨g, off + i, none⟩) ?_
  rw [set3, Below.heap_setCell _ ⟨d, 2, none⟩ _ g hne, Below.heap_setCell _ ⟨d, 1, none⟩ _ g hne, Below.heap_setCell _ ⟨d, 0, none⟩ _ g hne]

/-- The two boxes at the beginning of a function with a disk for argument and one for result. -/
theorem two_boxes (w : World) (T T' : TypeId) (A : Option Addr) (n c : Nat) (s r : Int) : ∃ W, W = (w.alloc (.cells #[.slice A n c, .int .i64 s, .int .i64 r] T)).alloc (.cells #[.slice none 0 0, .int .i64 0, .int .i64 0] T') ∧ Box W w.heap.size T A n c s r ∧ Box W (w.heap.size + 1) T' none 0 0 0 0 ∧ Below w.heap.size w W ∧ Hid (W.heap.size = w.heap.size + 2) := by
  refine ⟨_, rfl, (Box.new w T A n c s r).alloc _, ?_, ((Below.refl _ _).alloc (Nat.le_refl _) _).alloc (by simp) _, ?_⟩
  · have := Box.new (w.alloc (.cells #[.slice A n c, .int .i64 s, .int .i64 r] T)) T' none 0 0 0 0
    simpa using this
  · show _ = _
    simp

/-- A disk is stored into block d: the world behind it under a name. -/
theorem store_end {w1 : World} {d : Nat} {T : TypeId} {A' : Option Addr} {n' c' : Nat} {s' r' : Int} (hd : Box w1 d T A' n' c' s' r') (A : Option Addr) (n c : Nat) (s r : Int) :
    ∃ w2, ((w1.setCell ⟨d, 0, none⟩ (.slice A n c)).setCell ⟨d, 1, none⟩ (.int .i64 s)).setCell ⟨d, 2, none⟩ (.int .i64 r) = w2 ∧ Box w2 d T A n c s r ∧
      (∀ (b : Nat) (T' : TypeId) (A'' : Option Addr) (n'' c'' : Nat) (s'' r'' : Int), b ≠ d → Box w1 b T' A'' n'' c'' s'' r'' → Box w2 b T' A'' n'' c'' s'' r'') ∧
      (∀ (B : Nat) (w : World), Below B w w1 → B ≤ d → Below B w w2) ∧ (∀ (A'' : Option Addr) (n'' c'' : Nat) (bs : List UInt8), BR w1 w1.heap.size A'' n'' c'' bs → BR w2 w2.heap.size A'' n'' c'' bs) :=
  ⟨_, rfl, hd.put3 A n c s r, fun b T' A'' n'' c'' s'' r'' hne h => h.far3 hne _ _ _, fun B w h hB => below_set3 h hB _ _ _, fun A'' n'' c'' bs h => by
    have e : (((w1.setCell ⟨d, 0, none⟩ (.slice A n c)).setCell ⟨d, 1, none⟩ (.int .i64 s)).setCell ⟨d, 2, none⟩ (.int .i64 r)).heap.size = w1.heap.size := set3_size w1 d _ _ _
    rw [e]
    exact h.far3 hd _ _ _⟩

theorem dpost_end {w w1 : World} {d : Nat} {T : TypeId} {A' : Option Addr} {n' c' : Nat} {s' r' : Int} (hd : Box w1 d T A' n' c' s' r') (hbl : Below w.heap.size w w1) (hw : w.heap.size ≤ d) {A : Option Addr} {n c : Nat} {bs : List UInt8} (hx : BR w1 w1.heap.size A n c bs) (s r : Int) :
    ∃ w2, ((w1.setCell ⟨d, 0, none⟩ (.slice A n c)).setCell ⟨d, 1, none⟩ (.int .i64 s)).setCell ⟨d, 2, none⟩ (.int .i64 r) = w2 ∧ (w2.cell? ⟨d, 0, none⟩ = some (.slice A n c) ∧ w2.cell? ⟨d, 1, none⟩ = some (.int .i64 s) ∧ w2.cell? ⟨d, 2, none⟩ = some (.int .i64 r)) ∧
      BR w2 w2.heap.size A n c bs ∧ Below w.heap.size w w2 := by
  obtain ⟨w2, h1, h2, _, h4, h5⟩ := store_end hd A n c s r
  exact ⟨w2, h1, h2.cells, h5 _ _ _ _ hx, h4 _ _ hbl hw⟩

set_option maxRecDepth 100000 in
set_option maxHeartbeats 1000000 in
theorem clone_f (A : Option Addr) (n c : Nat) (s r : Int) (bs : List UInt8) (w : World) (hb : BR w w.heap.size A n c bs) (hn : n ≤ 1000000) :
    Calls Try.prog 27 #[.agg #[.slice A n c, .int .i64 s, .int .i64 r]] w (DPostF w n s r bs) := by
  obtain ⟨W, hW, ha, hbox, hbl, hS⟩ := two_boxes w 28 28 A n c s r
  have hbW := hb.on hbl
  go_enter Try.func27, Try.ntmps27
  go_wp2_with fail
  rw [← hW]
  clear hW
  go_region_held3 (fun W' => W'.cell? ⟨w.heap.size, 0, none⟩ = some (.slice A n c) ∧ W'.cell? ⟨w.heap.size, 1, none⟩ = some (.int .i64 s) ∧ W'.cell? ⟨w.heap.size, 2, none⟩ = some (.int .i64 r)) (first | exact ha.cells | exact y1.cells | exact (y1.far3 (by omega) _ _ _).cells) (first
    | (go_at_call 33; refine (copy_f A n c bs W.drew hbW.drew hn).mono ?_; rintro e w1 ⟨A1, c1, rfl, hx1, hb1, hf1⟩; have y1 := ha.drew.on hb1 ha.lt; have y2 := hbox.drew.on hb1 hbox.lt; obtain ⟨z0, z1, z2⟩ := y2.cells; obtain ⟨f0, f1, f2⟩ := y2.froz))
  obtain ⟨w2, hw2, ⟨v0, v1, v2⟩, hx2, hb2⟩ := dpost_end y2 (hbl.trans ((below_drew hb1).mono hbl.size)) (by omega) hx1 s r
  rw [hw2]
  clear hw2
  go_wp2_with fail
  exact bodyPost_ret (v := .agg #[.slice A1 n c1, .int .i64 s, .int .i64 r]) (by simp [results, Try.results27, go_sem, v0, v1, v2]) rfl ⟨A1, c1, rfl, hx2, hb2, hf1.mono hbl.size⟩
theorem clone_d (A : Option Addr) (n c : Nat) (s r : Int) (bs : List UInt8) (w : World) (hb : BR w w.heap.size A n c bs) (hn : n ≤ 1000000) :
    Calls Try.prog 27 #[.agg #[.slice A n c, .int .i64 s, .int .i64 r]] w (DPost w n s r bs) := (clone_f A n c s r bs w hb hn).mono fun _ _ h => h.toD

set_option maxRecDepth 100000 in
set_option maxHeartbeats 1000000 in
theorem durable_d (A : Option Addr) (n c k : Nat) (s r : Int) (bs : List UInt8) (w : World) (hb : BR w w.heap.size A n c bs) (hn : n ≤ 1000000) (hk : k ≤ n) :
    Calls Try.prog 32 #[.agg #[.slice A n c, .int .i64 s, .int .i64 r], .int .i64 k] w (DPost w k k r (bs.take k)) := by
  obtain ⟨W, hW, ha, hbox, hbl, hS⟩ := two_boxes w 28 28 A n c s r
  obtain ⟨hcut, hbW⟩ := cut_upto (hb.on hbl) k k rfl hk
  go_enter Try.func32, Try.ntmps32
  go_wp2_with fail
  rw [← hW]
  clear hW
  go_region_held3 (fun W' => W'.cell? ⟨w.heap.size, 0, none⟩ = some (.slice A n c) ∧ W'.cell? ⟨w.heap.size, 1, none⟩ = some (.int .i64 s) ∧ W'.cell? ⟨w.heap.size, 2, none⟩ = some (.int .i64 r)) (first | exact ha.cells | exact y1.cells | exact (y1.far3 (by omega) _ _ _).cells) (first
    | (go_at_call 33; refine (copy_c A k c (bs.take k) W.drew hbW.drew (by omega)).mono ?_; rintro e w1 ⟨A1, c1, rfl, hx1, hb1⟩; have y1 := ha.drew.on hb1 ha.lt; have y2 := hbox.drew.on hb1 hbox.lt; obtain ⟨z0, z1, z2⟩ := y2.cells; obtain ⟨f0, f1, f2⟩ := y2.froz))
  obtain ⟨w2, hw2, ⟨v0, v1, v2⟩, hx2, hb2⟩ := dpost_end y2 (hbl.trans ((below_drew hb1).mono hbl.size)) (by omega) hx1 k r
  rw [hw2]
  clear hw2
  go_wp2_with fail
  exact bodyPost_ret (v := .agg #[.slice A1 k c1, .int .i64 k, .int .i64 r]) (by simp [results, Try.results32, go_sem, v0, v1, v2]) rfl ⟨A1, c1, rfl, hx2, hb2⟩

set_option maxRecDepth 100000 in
set_option maxHeartbeats 1000000 in
theorem sync_d (A : Option Addr) (n c : Nat) (s r : Int) (bs : List UInt8) (w : World) (hb : BR w w.heap.size A n c bs) (hn : n ≤ 1000000) :
    Calls Try.prog 17 #[.agg #[.slice A n c, .int .i64 s, .int .i64 r]] w (DPost w n n r bs) := by
  obtain ⟨W, hW, ha, hbox, hbl, hS⟩ := two_boxes w 28 28 A n c s r
  have HT := Lib.hid (show bs.take n = bs from List.take_of_length_le (by rw [hb.1]; exact Nat.le_refl _))
  have hbW := hb.on hbl
  obtain ⟨d0, d1, d2⟩ := ha.cells
  go_enter Try.func17, Try.ntmps17
  go_wp2_with fail
  rw [← hW]
  clear hW
  refine (durable_d A n c n s r bs W hbW hn (Nat.le_refl _)).mono ?_
  rintro e w1 ⟨A1, c1, rfl, hx1, hb1⟩
  rw [HT.out] at hx1
  have y2 := hbox.on hb1 hbox.lt
  obtain ⟨z0, z1, z2⟩ := y2.cells
  obtain ⟨f0, f1, f2⟩ := y2.froz
  obtain ⟨w2, hw2, ⟨v0, v1, v2⟩, hx2, hb2⟩ := dpost_end y2 (hbl.trans (hb1.mono hbl.size)) (by omega) hx1 n r
  have Hw2 := Lib.hid hw2
  clear hw2 hb1 hx1 y2 hbW HT
  go_wp2_with fail
  rw [Hw2.out]
  exact bodyPost_ret (v := .agg #[.slice A1 n c1, .int .i64 n, .int .i64 r]) (by simp [results, Try.results17, go_sem, v0, v1, v2]) rfl ⟨A1, c1, rfl, hx2, hb2⟩

/-- How many bytes a crash leaves. -/
def kC (n s k : Nat) : Nat := s + k % (n - s + 1)
theorem kC_le {n s k : Nat} (h : s ≤ n) : s ≤ kC n s k ∧ kC n s k ≤ n := by
  unfold kC
  have := Nat.mod_lt k (show 0 < n - s + 1 by omega)
  omega

set_option maxRecDepth 100000 in
set_option maxHeartbeats 1000000 in
theorem crash_d (A : Option Addr) (n c s k : Nat) (r : Int) (bs : List UInt8) (w : World) (hb : BR w w.heap.size A n c bs) (hn : n ≤ 1000000) (hs : s ≤ n) (hk : k < 65536) :
    Calls Try.prog 19 #[.agg #[.slice A n c, .int .i64 s, .int .i64 r], .int .u16 k] w (DPost w (kC n s k) (kC n s k) r (bs.take (kC n s k))) := by
  obtain ⟨K, hKe⟩ : ∃ K, kC n s k = K := ⟨_, rfl⟩
  rw [hKe]
  have hK := (kC_le (k := k) hs).2
  have q4 : IntKind.i64.wrap ((s : Int) + (k : Int).tmod ((n : Int) - (s : Int) + 1)) = ((kC n s k : Nat) : Int) := by
    have e : ((kC n s k : Nat) : Int) = (s : Int) + (k : Int) % ((n : Int) - (s : Int) + 1) := by
      unfold kC
      rw [Int.natCast_add, Int.natCast_emod, show ((n - s + 1 : Nat) : Int) = (n : Int) - (s : Int) + 1 by omega]
    rw [Int.tmod_eq_emod_of_nonneg (by omega), ← e]
    exact IntWalk.i64_in _ (by omega)
  rw [hKe] at hK q4
  have Q4 := Lib.hid q4
  clear q4 hKe
  obtain ⟨W, hW, ha, hbox, hbl, hS⟩ := two_boxes w 28 28 A n c s r
  have hbW := hb.on hbl
  obtain ⟨d0, d1, d2⟩ := ha.cells
  go_enter Try.func19, Try.ntmps19
  go_wp2_with fail
  rw [← hW]
  clear hW
  have q1 : IntKind.i64.wrap ((n : Int) - (s : Int) + 1) = (n : Int) - (s : Int) + 1 := IntWalk.i64_in _ (by omega)
  have q2 : IntKind.i64.wrap ((k : Int)) = (k : Int) := IntWalk.i64_in _ (by omega)
  have q3 : ¬ (n : Int) - (s : Int) + 1 = 0 := by omega
  go_region_held3 (fun W' => W'.cell? ⟨w.heap.size, 0, none⟩ = some (.slice A n c) ∧ W'.cell? ⟨w.heap.size, 1, none⟩ = some (.int .i64 s) ∧ W'.cell? ⟨w.heap.size, 2, none⟩ = some (.int .i64 r)) (first | exact ha.cells | exact y1.cells | exact (y1.far3 (by omega) _ _ _).cells) (first
    | (go_at_call 32; rw [Q4.out]; (with_reducible refine (durable_d A n c K s r bs W.drew hbW.drewS hn hK).mono ?_); rintro e w1 ⟨A1, c1, rfl, hx1, hb1⟩; have y1 := ha.drew.on hb1 ha.lt; have y2 := hbox.drew.on hb1 hbox.lt; obtain ⟨z0, z1, z2⟩ := y2.cells; obtain ⟨f0, f1, f2⟩ := y2.froz))
  clear q1 q2 q3
  obtain ⟨w2, hw2, ⟨v0, v1, v2⟩, hx2, hb2⟩ := dpost_end y2 (hbl.trans ((below_drew hb1).mono hbl.size)) (by omega) hx1 K r
  rw [hw2]
  clear hw2
  go_wp2_with fail
  exact bodyPost_ret (v := .agg #[.slice A1 K c1, .int .i64 K, .int .i64 r]) (by simp [results, Try.results19, go_sem, v0, v1, v2]) rfl ⟨A1, c1, rfl, hx2, hb2⟩
end Go.Proofs.Ytdelllkgllfcdaa
