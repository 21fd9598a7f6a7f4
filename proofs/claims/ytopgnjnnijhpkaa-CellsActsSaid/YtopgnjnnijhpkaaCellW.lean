/-
  The document's Drop and Set for cells. Conditions: the lists read as the predicate RS says, by rising keys, and are not longer than ten thousand.
-/
import Derived.Test.YtopgnjnnijhpkaaCellV
namespace Go.Proofs.Ytopgnjnnijhpkaa
open Go.RowKit Go.Maps UI

theorem Try.infoR : (Try.prog.info? 77).map (fun i => (i.zero, i.size, i.bytes)) = some (some (.agg #[.int .u8 0, .int .i64 0]), 2, 16) := by kernel_rfl

/-- While a list is made anew: the box of the argument, that of the result, the list so far. -/
structure DI (w : World) (x y z : Value) (M : List (Int × Int)) (v : Value) (W : World) : Prop where
  bx : CB W w.heap.size 28 #[x, y, z]
  rs : CB W (w.heap.size + 1) 28 #[.slice none 0 0, .slice none 0 0, .int .i64 0]
  out : ∃ A c G, v = .slice A M.length c ∧ Seg W 77 2 A M.length c (cel M) G ∧ ∀ g, G = some g → w.heap.size ≤ g
  low : Below w.heap.size w W

section
variable {w : World} {x y z : Value} {M : List (Int × Int)} {v : Value} {W : World}
theorem DI.start (w : World) (x y z : Value) : DI w x y z [] (.slice none 0 0) ((w.alloc (.cells #[x, y, z] 28)).alloc (.cells #[.slice none 0 0, .slice none 0 0, .int .i64 0] 28)) := by
  refine ⟨(CB.new _ _ _).alloc _, ?_, ⟨none, 0, none, rfl, Seg.nil _ _ _, fun _ h => by cases h⟩, ((Below.refl _ _).alloc (Nat.le_refl _) _).alloc (by simp) _⟩
  have := CB.new (w.alloc (.cells #[x, y, z] 28)) 28 #[.slice none 0 0, .slice none 0 0, .int .i64 0]
  simpa using this

theorem DI.app (h : DI w x y z M v W) {A : Option Addr} {c : Nat} {G : Option Nat} (hs : Seg W 77 2 A M.length c (cel M) G) (hG : ∀ g, G = some g → w.heap.size ≤ g) {p q : Int}
    {A1 : Option Addr} {c1 : Nat} {G1 : Option Nat} {w1 : World} (n1 : Seg w1 77 2 A1 (M.length + 1) c1 (cel M ++ [.int .u8 p, .int .i64 q]) G1)
    (n2 : (W.alloc (.cells #[.int .u8 p, .int .i64 q] 77)).grownBy w1 G) (n3 : Moved (W.alloc (.cells #[.int .u8 p, .int .i64 q] 77)) G G1) :
    DI w x y z (M ++ [(p, q)]) (.slice A1 (M.length + 1) c1) w1 := by
  rw [cel_snoc] at n1
  have hz := h.low.size
  have keep : ∀ {g : Nat} {cs : Array Value}, CB W g 28 cs → CB w1 g 28 cs := fun {g} {cs} hc => (hc.alloc _).same (n2.block g (hc.alloc _).lt (fun e => hs.ne_ hc (by decide) e.symm))
  refine ⟨keep h.bx, keep h.rs, ⟨A1, c1, G1, by simp, by simpa using n1, fun g hg => ?_⟩, (h.low.alloc hz _).grown n2 (by simp; omega) hG⟩
  rcases n3 with e | ⟨g', e, hg'⟩
  · exact hG g (by rw [← e]; exact hg)
  · rw [e] at hg
    cases hg
    simp at hg'
    omega
end

theorem appG {w W : World} {o : Obj} (hz : w.heap.size ≤ W.heap.size) {G G1 : Option Nat} (hG : ∀ g, G = some g → w.heap.size ≤ g) (n3 : Moved (W.alloc o) G G1) : ∀ g, G1 = some g → w.heap.size ≤ g := fun g hg => by
  rcases n3 with e | ⟨g', e, hg'⟩
  · exact hG g (by rw [← e]; exact hg)
  · rw [e] at hg
    cases hg
    simp at hg'
    omega
theorem RS.lt {w : World} {g off n cap : Nat} {L : List (Int × Int)} (h : RS w (some ⟨g, off, none⟩) n cap L) : g < w.heap.size := by
  obtain ⟨_, G, h2⟩ := h
  rcases h2.2.2.2 with ⟨h0, _⟩ | ⟨g', off', cur, h1, _, h3, _⟩
  · cases h0
  · cases h1
    exact h3.lt

/-- The result's box has taken a whole value. -/
theorem box_end {W : World} {b : Nat} {t : TypeId} {u0 u1 u2 : Value} (h : CB W b t #[u0, u1, u2]) (x y z : Value) : CB (((W.setCell ⟨b, 0, none⟩ x).setCell ⟨b, 1, none⟩ y).setCell ⟨b, 2, none⟩ z) b t #[x, y, z] := by
  have := ((h.put 0 x).put 1 y).put 2 z
  simpa using this
theorem box_far {W : World} {b g : Nat} (h : g ≠ b) (x y z : Value) : (((W.setCell ⟨b, 0, none⟩ x).setCell ⟨b, 1, none⟩ y).setCell ⟨b, 2, none⟩ z).heap[g]? = W.heap[g]? :=
  ((Below.heap_setCell _ ⟨b, 2, none⟩ z g h).trans (Below.heap_setCell _ ⟨b, 1, none⟩ y g h)).trans (Below.heap_setCell _ ⟨b, 0, none⟩ x g h)

/-- What Drop and Set answer: a list in memory, the others as they were. -/
def RPost (w : World) (M : List (Int × Int)) (a2 : Option Addr) (n2 cap2 : Nat) (room er : Int) (e : Ending) (w' : World) : Prop :=
  ∃ A c, e = .returned (.tuple #[.agg #[.slice A M.length c, .slice a2 n2 cap2, .int .i64 room], .int .i64 er]) ∧ RS w' A M.length c M ∧ Below w.heap.size w w'

theorem RS.box {W : World} {a : Option Addr} {n cap : Nat} {L : List (Int × Int)} (h : RS W a n cap L) {b : Nat} {cs : Array Value} (hc : CB W b 28 cs) (x y z : Value) : RS (((W.setCell ⟨b, 0, none⟩ x).setCell ⟨b, 1, none⟩ y).setCell ⟨b, 2, none⟩ z) a n cap L := by
  obtain ⟨h1, G, h2⟩ := h
  exact ⟨h1, G, h2.keep fun g hg => box_far (fun e => h2.ne_ hc (by decide) (by rw [hg, e])) x y z⟩
theorem below_box {B : Nat} {w W : World} (h : Below B w W) {b : Nat} (hb : B ≤ b) (x y z : Value) : Below B w (((W.setCell ⟨b, 0, none⟩ x).setCell ⟨b, 1, none⟩ y).setCell ⟨b, 2, none⟩ z) :=
  ((h.setCell (p := ⟨b, 0, none⟩) hb x).setCell (p := ⟨b, 1, none⟩) hb y).setCell (p := ⟨b, 2, none⟩) hb z

set_option maxRecDepth 100000 in
set_option maxHeartbeats 1000000 in
theorem refDrop_no (a a2 : Option Addr) (cap n2 cap2 : Nat) (room : Int) (L : List (Int × Int)) (k : Int) (w : World) (h : RS w a L.length cap L) (hm : L.length ≤ 10000) (hg : getL L k = none) :
    Calls Try.prog 13 #[.agg #[.slice a L.length cap, .slice a2 n2 cap2, .int .i64 room], .int .u8 k] w (RPost w L a2 n2 cap2 room 7) := by
  have hst := DI.start w (.slice a L.length cap) (.slice a2 n2 cap2) (.int .i64 room)
  obtain ⟨W, hW⟩ : ∃ W, W = (w.alloc (.cells #[.slice a L.length cap, .slice a2 n2 cap2, .int .i64 room] 28)).alloc (.cells #[.slice none 0 0, .slice none 0 0, .int .i64 0] 28) := ⟨_, rfl⟩
  rw [← hW] at hst
  have HW := Lib.hid hW
  clear hW
  have hf := find_no a cap L k W (h.keep hst.low) hm hg
  clear hg
  have c0 := hst.bx.cell 0
  have c1 := hst.bx.cell 1
  have c2 := hst.bx.cell 2
  have d0 := hst.rs.cell 0
  have d1 := hst.rs.cell 1
  have d2 := hst.rs.cell 2
  have e0 := hst.rs.frozen 0
  have e1 := hst.rs.frozen 1
  have e2 := hst.rs.frozen 2
  simp only [List.getElem?_toArray, List.getElem?_cons_succ, List.getElem?_cons_zero] at c0 c1 c2 d0 d1 d2
  go_enter Try.func13, Try.ntmps13
  go_wp2_with fail
  rw [← HW.out]
  refine hf.mono ?_
  rintro e w' ⟨rfl, rfl⟩
  go_wp2_with fail
  have hq := box_end hst.rs (.slice a L.length cap) (.slice a2 n2 cap2) (.int .i64 room)
  have f0 := hq.cell 0
  have f1 := hq.cell 1
  have f2 := hq.cell 2
  simp only [List.getElem?_toArray, List.getElem?_cons_succ, List.getElem?_cons_zero] at f0 f1 f2
  refine bodyPost_ret (v := .tuple #[.agg #[.slice a L.length cap, .slice a2 n2 cap2, .int .i64 room], .int .i64 7]) ?_ rfl ⟨a, cap, rfl, (h.keep hst.low).box hst.rs _ _ _, below_box hst.low (by omega) _ _ _⟩
  generalize ((W.setCell ⟨w.heap.size + 1, 0, none⟩ (.slice a L.length cap)).setCell ⟨w.heap.size + 1, 1, none⟩ (.slice a2 n2 cap2)).setCell ⟨w.heap.size + 1, 2, none⟩ (.int .i64 room) = WW at *
  simp [results, Try.results13, go_sem, f0, f1, f2]

set_option maxRecDepth 100000 in
set_option maxHeartbeats 1000000 in
theorem refSet_full (a a2 : Option Addr) (cap n2 cap2 : Nat) (room : Int) (L : List (Int × Int)) (k v : Int) (w : World) (h : RS w a L.length cap L) (hm : L.length ≤ 10000) (hg : getL L k = none) (hr : room ≤ L.length) :
    Calls Try.prog 17 #[.agg #[.slice a L.length cap, .slice a2 n2 cap2, .int .i64 room], .int .u8 k, .int .i64 v] w (RPost w L a2 n2 cap2 room 6) := by
  have hst := DI.start w (.slice a L.length cap) (.slice a2 n2 cap2) (.int .i64 room)
  obtain ⟨W, hW⟩ : ∃ W, W = (w.alloc (.cells #[.slice a L.length cap, .slice a2 n2 cap2, .int .i64 room] 28)).alloc (.cells #[.slice none 0 0, .slice none 0 0, .int .i64 0] 28) := ⟨_, rfl⟩
  rw [← hW] at hst
  have HW := Lib.hid hW
  clear hW
  have hf := find_no a cap L k W (h.keep hst.low) hm hg
  clear hg
  have c0 := hst.bx.cell 0
  have c1 := hst.bx.cell 1
  have c2 := hst.bx.cell 2
  have d0 := hst.rs.cell 0
  have d1 := hst.rs.cell 1
  have d2 := hst.rs.cell 2
  have e0 := hst.rs.frozen 0
  have e1 := hst.rs.frozen 1
  have e2 := hst.rs.frozen 2
  simp only [List.getElem?_toArray, List.getElem?_cons_succ, List.getElem?_cons_zero] at c0 c1 c2 d0 d1 d2
  go_enter Try.func17, Try.ntmps17
  go_wp2_with fail
  rw [← HW.out]
  refine hf.mono ?_
  rintro e w' ⟨rfl, rfl⟩
  go_wp2_with fail
  have hq := box_end hst.rs (.slice a L.length cap) (.slice a2 n2 cap2) (.int .i64 room)
  have f0 := hq.cell 0
  have f1 := hq.cell 1
  have f2 := hq.cell 2
  simp only [List.getElem?_toArray, List.getElem?_cons_succ, List.getElem?_cons_zero] at f0 f1 f2
  refine bodyPost_ret (v := .tuple #[.agg #[.slice a L.length cap, .slice a2 n2 cap2, .int .i64 room], .int .i64 6]) ?_ rfl ⟨a, cap, rfl, (h.keep hst.low).box hst.rs _ _ _, below_box hst.low (by omega) _ _ _⟩
  generalize ((W.setCell ⟨w.heap.size + 1, 0, none⟩ (.slice a L.length cap)).setCell ⟨w.heap.size + 1, 1, none⟩ (.slice a2 n2 cap2)).setCell ⟨w.heap.size + 1, 2, none⟩ (.int .i64 room) = WW at *
  simp [results, Try.results17, go_sem, f0, f1, f2]
end Go.Proofs.Ytopgnjnnijhpkaa
