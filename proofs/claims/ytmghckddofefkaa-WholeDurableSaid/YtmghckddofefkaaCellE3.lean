/-
  The calls of package cells, keys and values uint8, waystation/hand.Side: what New, Set, Get, Drop, Sync, Crash and Len return, and what they leave in memory. Conditions: the cells are such as New made, as the predicate CE says.
-/
import Derived.Test.YtmghckddofefkaaCellC3
import Derived.Test.YtmghckddofefkaaCellD3
import Derived.Test.YtmghckddofefkaaRangeA
import Derived.Test.YtmghckddofefkaaCellF
import Derived.Test.YtmghckddofefkaaLeA
import Derived.Test.YtmghckddofefkaaHaA
set_option linter.unusedVariables false
namespace Go.Proofs.Ytmghckddofefkaa.US
open Go.RowKit Go.Shelf Go.Maps

/-- Cells: their struct is block c; they hold L now, and S when they were safe; none of their blocks lies below B. -/
structure CE (B : Nat) (w : World) (c : Nat) (room : Int) (L S : List (Int × Sd)) : Prop where
  ex : ∃ bn bs, CB w c 111 #[.int .i64 room, .map (some bn), .map (some bs)] ∧ MP w bn L ∧ MP w bs S ∧ bn ≠ bs ∧ B ≤ bn ∧ B ≤ bs
  low : B ≤ c
  pos : 0 < room
  top : room ≤ 10000
  fit : (L.length : Int) ≤ room
  fitS : (S.length : Int) ≤ room

section
variable {B : Nat} {w w' : World} {c : Nat} {room : Int} {L S : List (Int × Sd)}
theorem CE.srt (h : CE B w c room L S) : Srt L := by obtain ⟨bn, bs, _, h1, _⟩ := h.ex; exact h1.srt
theorem CE.srtS (h : CE B w c room L S) : Srt S := by obtain ⟨bn, bs, _, _, h1, _⟩ := h.ex; exact h1.srt
theorem CE.len (h : CE B w c room L S) : L.length ≤ 10000 := by have := h.fit; have := h.top; omega
theorem CE.lt (h : CE B w c room L S) : c < w.heap.size := by obtain ⟨bn, bs, h1, _⟩ := h.ex; exact h1.lt
theorem CE.le (h : CE B w c room L S) : B ≤ w.heap.size := by have := h.lt; have := h.low; omega
theorem CE.below (h : CE B w c room L S) {B' : Nat} (hb : Below B' w w') (hB : w.heap.size ≤ B') : CE B w' c room L S := by
  obtain ⟨⟨bn, bs, h1, h2, h3, h4, h5, h6⟩, r1, r2, r3, r4, r5⟩ := h
  exact ⟨⟨bn, bs, h1.same (hb.block _ (Nat.lt_of_lt_of_le h1.lt hB)), h2.same (hb.block _ (Nat.lt_of_lt_of_le h2.lt hB)), h3.same (hb.block _ (Nat.lt_of_lt_of_le h3.lt hB)), h4, h5, h6⟩, r1, r2, r3, r4, r5⟩
theorem CE.drewN (h : CE B w c room L S) (n : Nat) : CE B (w.drewN n) c room L S := ⟨h.ex, h.low, h.pos, h.top, h.fit, h.fitS⟩
theorem CE.drew (h : CE B w c room L S) : CE B w.drew c room L S := ⟨h.ex, h.low, h.pos, h.top, h.fit, h.fitS⟩
theorem CE.alloc (h : CE B w c room L S) (o : Obj) : CE B (w.alloc o) c room L S := h.below ((Below.refl _ _).alloc (Nat.le_refl _) _) (Nat.le_refl _)
theorem CE.ne (h : CE B w c room L S) {g : Nat} {t : TypeId} {cs : Array Value} (hc : CB w g t cs) (ht : t ≠ 111) : g ≠ c := by
  obtain ⟨⟨bn, bs, h1, _⟩, _⟩ := h
  exact hc.ne_ h1 ht
/-- A block of cells of another type is written, or a book of a statement. -/
theorem CE.other (h : CE B w c room L S) {G : Nat} (hg : ∀ g, g ≠ G → w'.heap[g]? = w.heap[g]?) (hG : G ≠ c) (hm : ∀ es cl, w.heap[G]? ≠ some (.map es cl)) : CE B w' c room L S := by
  obtain ⟨⟨bn, bs, h1, h2, h3, h4, h5, h6⟩, r1, r2, r3, r4, r5⟩ := h
  have n1 : bn ≠ G := by rintro rfl; obtain ⟨es, cl, e⟩ := h2.is; exact hm es cl e
  have n2 : bs ≠ G := by rintro rfl; obtain ⟨es, cl, e⟩ := h3.is; exact hm es cl e
  exact ⟨⟨bn, bs, h1.same (hg c (Ne.symm hG)), h2.same (hg bn n1), h3.same (hg bs n2), h4, h5, h6⟩, r1, r2, r3, r4, r5⟩
theorem CE.far (h : CE B w c room L S) {g : Nat} {t : TypeId} {cs : Array Value} (hc : CB w g t cs) (ht : t ≠ 111) (i : Nat) (u : Value) : CE B (w.setCell ⟨g, i, none⟩ u) c room L S :=
  h.other (G := g) (fun g' hg' => Below.heap_setCell w ⟨g, i, none⟩ u g' hg') (h.ne hc ht) (fun es cl e => by
    have h' : w.heap[g]? = some (.cells cs t (0, 0)) := hc
    rw [h'] at e
    cases e)
theorem CE.putBook (h : CE B w c room L S) {l : Nat} (hl : Book w l) (o : Obj) : CE B (w.putObj l o) c room L S := by
  refine h.other (G := l) (fun g' hg' => World.putObj_heap_other hg') ?_ (fun es cl e => ?_)
  · obtain ⟨⟨bn, bs, h1, _⟩, _⟩ := h
    exact fun e => h1.noBook hl e.symm
  · rcases hl with ⟨r, hl⟩ | ⟨d, hl⟩ <;> (rw [hl] at e; cases e)
/-- A block that is no block of these cells is written, and new ones are laid. -/
theorem CE.grown (h : CE B w c room L S) {G : Option Nat} (hg : w.grownBy w' G) (hG : ∀ g, G = some g → g ≠ c ∧ ∀ es cl, w.heap[g]? ≠ some (.map es cl)) : CE B w' c room L S := by
  obtain ⟨⟨bn, bs, h1, h2, h3, h4, h5, h6⟩, r1, r2, r3, r4, r5⟩ := h
  refine ⟨⟨bn, bs, h1.same (hg.block _ h1.lt (fun e => (hG c e.symm).1 rfl)), h2.same (hg.block _ h2.lt (fun e => ?_)), h3.same (hg.block _ h3.lt (fun e => ?_)), h4, h5, h6⟩, r1, r2, r3, r4, r5⟩
  · obtain ⟨es, cl, e'⟩ := h2.is; exact (hG bn e.symm).2 es cl e'
  · obtain ⟨es, cl, e'⟩ := h3.is; exact (hG bs e.symm).2 es cl e'

theorem CE.turn {bn bs : Nat} {L' : List (Int × Sd)} {n : Nat} (h : CE B w c room L S) (h1 : CB w c 111 #[.int .i64 room, .map (some bn), .map (some bs)]) (h2 : MP w bn L) (h3 : MP w bs S) (h4 : bn ≠ bs) (h5 : B ≤ bn) (h6 : B ≤ bs)
    (ht : (w.drewN n).mapTurned w' bn) (hm : MP w' bn L') (hl : (L'.length : Int) ≤ room) : CE B w' c room L' S ∧ CF B w w' c := by
  have hg := ht.grown
  have hb : ∀ g, g < w.heap.size → g ≠ bn → w'.heap[g]? = w.heap[g]? := fun g hlt hne => hg.block g hlt (fun e => hne (by cases e; rfl))
  refine ⟨⟨⟨bn, bs, h1.same (hb c h1.lt (h2.ne h1)), hm, h3.same (hb bs h3.lt (Ne.symm h4)), h4, h5, h6⟩, h.low, h.pos, h.top, hl, h.fitS⟩, ?_⟩
  refine ⟨⟨hg.os, hg.tape, hg.output, hg.size, fun g hlt => hb g (by have := h.le; omega) (by omega)⟩, fun g hlt hc hn => hb g hlt ?_⟩
  rintro rfl
  obtain ⟨es, cl, e⟩ := h2.is
  exact hn es cl e
end

theorem MP.of_put {w w' : World} {b : Nat} {L : List (Int × Sd)} (h : MP w b L) {n : Nat} {k : Int} {v : Sd} {d : DataW Unit} (hd : d = dv v) (ho : w'.ownsMap Try.prog 5 rdS b n ((dat .u8 dv L).put (.int .u8 k) d)) : MP w' b (putL L k v) := by
  rw [hd, dat_put] at ho
  have := tight ho
  rw [dat_size] at this
  exact ⟨this, h.2.put k v⟩
theorem MP.of_del {w w' : World} {b : Nat} {L : List (Int × Sd)} (h : MP w b L) {n : Nat} {k : Int} (ho : w'.ownsMap Try.prog 5 rdS b n ((dat .u8 dv L).del (.int .u8 k))) : MP w' b (delL L k) := by
  rw [dat_del] at ho
  have := tight ho
  rw [dat_size] at this
  exact ⟨this, h.2.del k⟩

theorem created_yes (c : Nat) (room : Int) (u v : Value) (w : World) (hb : CB w c 111 #[.int .i64 room, u, v]) (h : 0 < room) :
    Calls Try.prog 57 #[.pointer (some ⟨c, 0, none⟩)] w fun e w' => e = .returned (.bool true) ∧ w = w' := by
  have c0 := hb.cell 0
  simp at c0
  go_enter Try.func57, Try.ntmps57
  go_wp2
  go_ret
  exact ⟨rfl, rfl⟩

theorem len_c (B c : Nat) (room : Int) (L S : List (Int × Sd)) (w : World) (h : CE B w c room L S) :
    Calls Try.prog 35 #[.pointer (some ⟨c, 0, none⟩)] w fun e w' => e = .returned (.int .i64 L.length) ∧ w = w' := by
  obtain ⟨bn, bs, h1, h2, h3, h4, h5, h6⟩ := h.ex
  have hc := created_yes c room _ _ w h1 h.pos
  have c1 := h1.cell 1
  simp at c1
  have hlen := h2.len
  clear h2 h3
  go_enter Try.func35, Try.ntmps35
  go_wp2_with (go_at_call 57; refine hc.mono ?_; rintro e w' ⟨rfl, rfl⟩)
  go_ret
  exact ⟨rfl, rfl⟩

theorem MP.on {w w' : World} {b : Nat} {L : List (Int × Sd)} (h : MP w b L) (hb : Below w.heap.size w w') : MP w' b L := h.same (hb.block _ h.lt)
theorem CE.on {B : Nat} {w w' : World} {c : Nat} {room : Int} {L S : List (Int × Sd)} (h : CE B w c room L S) (b : Below w.heap.size w w') : CE B w' c room L S := h.below b (Nat.le_refl _)
theorem CF.behind {B : Nat} {w W w' : World} {c : Nat} (h : CF B W w' c) (b : Below w.heap.size w W) (hB : B ≤ w.heap.size) : CF B w w' c := by
  refine ⟨(b.mono hB).trans h.low, fun g hg hne hn => ?_⟩
  have e := b.block g hg
  rw [h.keep g (Nat.lt_of_lt_of_le hg b.size) hne (by rw [e]; exact hn), e]
theorem created_ce {B : Nat} {w : World} {c : Nat} {room : Int} {L S : List (Int × Sd)} (h : CE B w c room L S) :
    Calls Try.prog 57 #[.pointer (some ⟨c, 0, none⟩)] w fun e w' => e = .returned (.bool true) ∧ Below w.heap.size w w' := by
  obtain ⟨bn, bs, h1, _⟩ := h.ex
  exact (created_yes c room _ _ w h1 h.pos).mono (by rintro e w' ⟨rfl, rfl⟩; exact ⟨rfl, Below.refl _ _⟩)

set_option maxRecDepth 100000 in
set_option maxHeartbeats 4000000 in
theorem get_yes (B c : Nat) (room : Int) (L S : List (Int × Sd)) (w : World) (h : CE B w c room L S) (k : Int) (v : Sd) (hk : (Lit.int .u8 k).wf = true) (hg : getL L k = some v) :
    Calls Try.prog 31 #[.pointer (some ⟨c, 0, none⟩), .int .u8 k] w fun e w' => e = .returned (.tuple #[(Value.agg #[.int .u8 (v).me, .int .i64 (v).l.ep, .int .i64 (v).l.st, .int .u8 (v).l.to, .string (v).cg, .bool (v).kp]), .int .i64 0]) ∧ Below w.heap.size w w' := by
  obtain ⟨W1, hW1⟩ : ∃ V, (w.alloc (.cells #[.int .u8 0, .int .i64 0, .int .i64 0, .int .u8 0, .string ⟨#[]⟩, .bool false] 31)).alloc (.cells #[.int .u8 0, .int .i64 0, .int .i64 0, .int .u8 0, .string ⟨#[]⟩, .bool false] 31) = V := ⟨_, rfl⟩
  have nW1_r : CB W1 (w.heap.size) 31 #[.int .u8 0, .int .i64 0, .int .i64 0, .int .u8 0, .string ⟨#[]⟩, .bool false] := by
    rw [← hW1]
    have := ((CB.new w 31 #[.int .u8 0, .int .i64 0, .int .i64 0, .int .u8 0, .string ⟨#[]⟩, .bool false]).alloc (.cells #[.int .u8 0, .int .i64 0, .int .i64 0, .int .u8 0, .string ⟨#[]⟩, .bool false] 31))
    simpa using this
  have nW1_z : CB W1 (w.heap.size + 1) 31 #[.int .u8 0, .int .i64 0, .int .i64 0, .int .u8 0, .string ⟨#[]⟩, .bool false] := by
    rw [← hW1]
    have := (CB.new (w.alloc (.cells #[.int .u8 0, .int .i64 0, .int .i64 0, .int .u8 0, .string ⟨#[]⟩, .bool false] 31)) 31 #[.int .u8 0, .int .i64 0, .int .i64 0, .int .u8 0, .string ⟨#[]⟩, .bool false])
    simpa using this
  have neW1_01 : w.heap.size ≠ w.heap.size + 1 := by omega
  have lW1 : Below w.heap.size w W1 := by rw [← hW1]; exact le_tr (le_al _ _) (le_al _ _)
  have HW1 := Lib.hid hW1
  clear hW1
  have r1_e := (h).on lW1
  go_enter Try.func31, Try.ntmps31
  go_wp2_with fail
  rw [HW1.out]
  refine (created_ce r1_e).mono ?_
  rintro e w2 ⟨rfl, b2⟩
  have r3_r := le_on nW1_r b2
  have r3_z := le_on nW1_z b2
  have r3_e := (r1_e).on b2
  have l3 := le_tr lW1 b2
  clear nW1_r nW1_z r1_e lW1
  clear b2
  obtain ⟨bn, bs, h1, h2, _, _, _, _⟩ := (r3_e).ex
  have c1 := h1.cell 1
  simp at c1
  have hlook := h2.look hk
  rw [has_get, hg] at hlook
  simp only [Option.getD_some, Option.isSome_some] at hlook
  clear h1 h2 hk hg
  have av_v : w.heap.size ≤ w2.heap.size := by have := l3.size; omega
  obtain ⟨W4, hW4⟩ : ∃ V, w2.alloc (.cells #[.int .u8 (v).me, .int .i64 (v).l.ep, .int .i64 (v).l.st, .int .u8 (v).l.to, .string (v).cg, .bool (v).kp] 31) = V := ⟨_, rfl⟩
  have zW4 : w2.heap.size = w2.heap.size := by rfl
  have nW4 : CB W4 (w2.heap.size) 31 #[.int .u8 (v).me, .int .i64 (v).l.ep, .int .i64 (v).l.st, .int .u8 (v).l.to, .string (v).cg, .bool (v).kp] := by rw [← zW4, ← hW4]; exact CB.new _ _ _
  have bW4 : Below w2.heap.size w2 W4 := by rw [← hW4]; exact le_al _ _
  have neW4_r : w.heap.size ≠ w2.heap.size := by have := CB.lt r3_r; omega
  have neW4_z : w.heap.size + 1 ≠ w2.heap.size := by have := CB.lt r3_z; omega
  have HW4 := Lib.hid hW4
  clear hW4 zW4
  have r5_r := le_on r3_r bW4
  have r5_z := le_on r3_z bW4
  have l5 := le_tr l3 bW4
  clear r3_r r3_z l3
  clear bW4
  have f5_v0 : (w2.alloc (.cells #[.int .u8 (v).me, .int .i64 (v).l.ep, .int .i64 (v).l.st, .int .u8 (v).l.to, .string (v).cg, .bool (v).kp] 31)).cell? ⟨w2.heap.size, 0, none⟩ = some (.int .u8 (v).me) := by rw [HW4.out]; exact CB.cell nW4 0
  have f5_v1 : (w2.alloc (.cells #[.int .u8 (v).me, .int .i64 (v).l.ep, .int .i64 (v).l.st, .int .u8 (v).l.to, .string (v).cg, .bool (v).kp] 31)).cell? ⟨w2.heap.size, 1, none⟩ = some (.int .i64 (v).l.ep) := by rw [HW4.out]; exact CB.cell nW4 1
  have f5_v2 : (w2.alloc (.cells #[.int .u8 (v).me, .int .i64 (v).l.ep, .int .i64 (v).l.st, .int .u8 (v).l.to, .string (v).cg, .bool (v).kp] 31)).cell? ⟨w2.heap.size, 2, none⟩ = some (.int .i64 (v).l.st) := by rw [HW4.out]; exact CB.cell nW4 2
  have f5_v3 : (w2.alloc (.cells #[.int .u8 (v).me, .int .i64 (v).l.ep, .int .i64 (v).l.st, .int .u8 (v).l.to, .string (v).cg, .bool (v).kp] 31)).cell? ⟨w2.heap.size, 3, none⟩ = some (.int .u8 (v).l.to) := by rw [HW4.out]; exact CB.cell nW4 3
  have f5_v4 : (w2.alloc (.cells #[.int .u8 (v).me, .int .i64 (v).l.ep, .int .i64 (v).l.st, .int .u8 (v).l.to, .string (v).cg, .bool (v).kp] 31)).cell? ⟨w2.heap.size, 4, none⟩ = some (.string (v).cg) := by rw [HW4.out]; exact CB.cell nW4 4
  have f5_v5 : (w2.alloc (.cells #[.int .u8 (v).me, .int .i64 (v).l.ep, .int .i64 (v).l.st, .int .u8 (v).l.to, .string (v).cg, .bool (v).kp] 31)).cell? ⟨w2.heap.size, 5, none⟩ = some (.bool (v).kp) := by rw [HW4.out]; exact CB.cell nW4 5
  have f5_r0 : (w2.alloc (.cells #[.int .u8 (v).me, .int .i64 (v).l.ep, .int .i64 (v).l.st, .int .u8 (v).l.to, .string (v).cg, .bool (v).kp] 31)).cell? ⟨w.heap.size, 0, none⟩ = some (.int .u8 0) := by rw [HW4.out]; exact CB.cell r5_r 0
  have z5_r0 : (w2.alloc (.cells #[.int .u8 (v).me, .int .i64 (v).l.ep, .int .i64 (v).l.st, .int .u8 (v).l.to, .string (v).cg, .bool (v).kp] 31)).frozen? ⟨w.heap.size, 0, none⟩ = false := by rw [HW4.out]; exact CB.frozen r5_r 0
  have f5_r1 : (w2.alloc (.cells #[.int .u8 (v).me, .int .i64 (v).l.ep, .int .i64 (v).l.st, .int .u8 (v).l.to, .string (v).cg, .bool (v).kp] 31)).cell? ⟨w.heap.size, 1, none⟩ = some (.int .i64 0) := by rw [HW4.out]; exact CB.cell r5_r 1
  have z5_r1 : (w2.alloc (.cells #[.int .u8 (v).me, .int .i64 (v).l.ep, .int .i64 (v).l.st, .int .u8 (v).l.to, .string (v).cg, .bool (v).kp] 31)).frozen? ⟨w.heap.size, 1, none⟩ = false := by rw [HW4.out]; exact CB.frozen r5_r 1
  have f5_r2 : (w2.alloc (.cells #[.int .u8 (v).me, .int .i64 (v).l.ep, .int .i64 (v).l.st, .int .u8 (v).l.to, .string (v).cg, .bool (v).kp] 31)).cell? ⟨w.heap.size, 2, none⟩ = some (.int .i64 0) := by rw [HW4.out]; exact CB.cell r5_r 2
  have z5_r2 : (w2.alloc (.cells #[.int .u8 (v).me, .int .i64 (v).l.ep, .int .i64 (v).l.st, .int .u8 (v).l.to, .string (v).cg, .bool (v).kp] 31)).frozen? ⟨w.heap.size, 2, none⟩ = false := by rw [HW4.out]; exact CB.frozen r5_r 2
  have f5_r3 : (w2.alloc (.cells #[.int .u8 (v).me, .int .i64 (v).l.ep, .int .i64 (v).l.st, .int .u8 (v).l.to, .string (v).cg, .bool (v).kp] 31)).cell? ⟨w.heap.size, 3, none⟩ = some (.int .u8 0) := by rw [HW4.out]; exact CB.cell r5_r 3
  have z5_r3 : (w2.alloc (.cells #[.int .u8 (v).me, .int .i64 (v).l.ep, .int .i64 (v).l.st, .int .u8 (v).l.to, .string (v).cg, .bool (v).kp] 31)).frozen? ⟨w.heap.size, 3, none⟩ = false := by rw [HW4.out]; exact CB.frozen r5_r 3
  have f5_r4 : (w2.alloc (.cells #[.int .u8 (v).me, .int .i64 (v).l.ep, .int .i64 (v).l.st, .int .u8 (v).l.to, .string (v).cg, .bool (v).kp] 31)).cell? ⟨w.heap.size, 4, none⟩ = some (.string ⟨#[]⟩) := by rw [HW4.out]; exact CB.cell r5_r 4
  have z5_r4 : (w2.alloc (.cells #[.int .u8 (v).me, .int .i64 (v).l.ep, .int .i64 (v).l.st, .int .u8 (v).l.to, .string (v).cg, .bool (v).kp] 31)).frozen? ⟨w.heap.size, 4, none⟩ = false := by rw [HW4.out]; exact CB.frozen r5_r 4
  have f5_r5 : (w2.alloc (.cells #[.int .u8 (v).me, .int .i64 (v).l.ep, .int .i64 (v).l.st, .int .u8 (v).l.to, .string (v).cg, .bool (v).kp] 31)).cell? ⟨w.heap.size, 5, none⟩ = some (.bool false) := by rw [HW4.out]; exact CB.cell r5_r 5
  have z5_r5 : (w2.alloc (.cells #[.int .u8 (v).me, .int .i64 (v).l.ep, .int .i64 (v).l.st, .int .u8 (v).l.to, .string (v).cg, .bool (v).kp] 31)).frozen? ⟨w.heap.size, 5, none⟩ = false := by rw [HW4.out]; exact CB.frozen r5_r 5
  obtain ⟨V6, hV6⟩ : ∃ V, (((((W4.setCell ⟨w.heap.size, 0, none⟩ (.int .u8 (v).me)).setCell ⟨w.heap.size, 1, none⟩ (.int .i64 (v).l.ep)).setCell ⟨w.heap.size, 2, none⟩ (.int .i64 (v).l.st)).setCell ⟨w.heap.size, 3, none⟩ (.int .u8 (v).l.to)).setCell ⟨w.heap.size, 4, none⟩ (.string (v).cg)).setCell ⟨w.heap.size, 5, none⟩ (.bool (v).kp) = V := ⟨_, rfl⟩
  have nV6 : CB V6 (w.heap.size) 31 #[.int .u8 (v).me, .int .i64 (v).l.ep, .int .i64 (v).l.st, .int .u8 (v).l.to, .string (v).cg, .bool (v).kp] := by rw [← hV6]; exact cb_cast (CB.put (CB.put (CB.put (CB.put (CB.put (CB.put r5_r 0 (.int .u8 (v).me)) 1 (.int .i64 (v).l.ep)) 2 (.int .i64 (v).l.st)) 3 (.int .u8 (v).l.to)) 4 (.string (v).cg)) 5 (.bool (v).kp)) (by kernel_rfl)
  have mV6_z : CB V6 (w.heap.size + 1) 31 #[.int .u8 0, .int .i64 0, .int .i64 0, .int .u8 0, .string ⟨#[]⟩, .bool false] := by rw [← hV6]; exact (CB.far (CB.far (CB.far (CB.far (CB.far (CB.far r5_z (p := ⟨w.heap.size, 0, none⟩) (Ne.symm neW1_01) (.int .u8 (v).me)) (p := ⟨w.heap.size, 1, none⟩) (Ne.symm neW1_01) (.int .i64 (v).l.ep)) (p := ⟨w.heap.size, 2, none⟩) (Ne.symm neW1_01) (.int .i64 (v).l.st)) (p := ⟨w.heap.size, 3, none⟩) (Ne.symm neW1_01) (.int .u8 (v).l.to)) (p := ⟨w.heap.size, 4, none⟩) (Ne.symm neW1_01) (.string (v).cg)) (p := ⟨w.heap.size, 5, none⟩) (Ne.symm neW1_01) (.bool (v).kp))
  have mV6_v : CB V6 (w2.heap.size) 31 #[.int .u8 (v).me, .int .i64 (v).l.ep, .int .i64 (v).l.st, .int .u8 (v).l.to, .string (v).cg, .bool (v).kp] := by rw [← hV6]; exact (CB.far (CB.far (CB.far (CB.far (CB.far (CB.far nW4 (p := ⟨w.heap.size, 0, none⟩) (Ne.symm neW4_r) (.int .u8 (v).me)) (p := ⟨w.heap.size, 1, none⟩) (Ne.symm neW4_r) (.int .i64 (v).l.ep)) (p := ⟨w.heap.size, 2, none⟩) (Ne.symm neW4_r) (.int .i64 (v).l.st)) (p := ⟨w.heap.size, 3, none⟩) (Ne.symm neW4_r) (.int .u8 (v).l.to)) (p := ⟨w.heap.size, 4, none⟩) (Ne.symm neW4_r) (.string (v).cg)) (p := ⟨w.heap.size, 5, none⟩) (Ne.symm neW4_r) (.bool (v).kp))
  have oV6 := (Below.setCell (Below.setCell (Below.setCell (Below.setCell (Below.setCell (Below.setCell l5 (p := ⟨w.heap.size, 0, none⟩) (by dsimp only; omega) (.int .u8 (v).me)) (p := ⟨w.heap.size, 1, none⟩) (by dsimp only; omega) (.int .i64 (v).l.ep)) (p := ⟨w.heap.size, 2, none⟩) (by dsimp only; omega) (.int .i64 (v).l.st)) (p := ⟨w.heap.size, 3, none⟩) (by dsimp only; omega) (.int .u8 (v).l.to)) (p := ⟨w.heap.size, 4, none⟩) (by dsimp only; omega) (.string (v).cg)) (p := ⟨w.heap.size, 5, none⟩) (by dsimp only; omega) (.bool (v).kp))
  rw [hV6] at oV6
  have HV6 := Lib.hid (show ((((((w2.alloc (.cells #[.int .u8 (v).me, .int .i64 (v).l.ep, .int .i64 (v).l.st, .int .u8 (v).l.to, .string (v).cg, .bool (v).kp] 31)).setCell ⟨w.heap.size, 0, none⟩ (.int .u8 (v).me)).setCell ⟨w.heap.size, 1, none⟩ (.int .i64 (v).l.ep)).setCell ⟨w.heap.size, 2, none⟩ (.int .i64 (v).l.st)).setCell ⟨w.heap.size, 3, none⟩ (.int .u8 (v).l.to)).setCell ⟨w.heap.size, 4, none⟩ (.string (v).cg)).setCell ⟨w.heap.size, 5, none⟩ (.bool (v).kp) = V6 by rw [HW4.out]; exact hV6)
  clear hV6
  clear r5_r r5_z nW4 l5
  go_wp2_with fail
  rw [HV6.out]
  have x_r0 : V6.cell? ⟨w.heap.size, 0, none⟩ = some (.int .u8 (v).me) := CB.cell nV6 0
  have x_r1 : V6.cell? ⟨w.heap.size, 1, none⟩ = some (.int .i64 (v).l.ep) := CB.cell nV6 1
  have x_r2 : V6.cell? ⟨w.heap.size, 2, none⟩ = some (.int .i64 (v).l.st) := CB.cell nV6 2
  have x_r3 : V6.cell? ⟨w.heap.size, 3, none⟩ = some (.int .u8 (v).l.to) := CB.cell nV6 3
  have x_r4 : V6.cell? ⟨w.heap.size, 4, none⟩ = some (.string (v).cg) := CB.cell nV6 4
  have x_r5 : V6.cell? ⟨w.heap.size, 5, none⟩ = some (.bool (v).kp) := CB.cell nV6 5
  exact bodyPost_ret (v := .tuple #[.agg #[.int .u8 (v).me, .int .i64 (v).l.ep, .int .i64 (v).l.st, .int .u8 (v).l.to, .string (v).cg, .bool (v).kp], .int .i64 0]) (by simp [results, Try.results31, go_sem, x_r0, x_r1, x_r2, x_r3, x_r4, x_r5]) rfl ⟨rfl, oV6⟩

set_option maxRecDepth 100000 in
set_option maxHeartbeats 4000000 in
theorem set_new (B c : Nat) (room : Int) (L S : List (Int × Sd)) (w : World) (h : CE B w c room L S) (k : Int) (v : Sd) (hk : (Lit.int .u8 k).wf = true) (hg : getL L k = none) (hl : (L.length : Int) < room) :
    Calls Try.prog 28 #[.pointer (some ⟨c, 0, none⟩), .int .u8 k, (Value.agg #[.int .u8 (v).me, .int .i64 (v).l.ep, .int .i64 (v).l.st, .int .u8 (v).l.to, .string (v).cg, .bool (v).kp])] w fun e w' => e = .returned (.int .i64 0) ∧ CE B w' c room (putL L k v) S ∧ CF B w w' c := by
  obtain ⟨W1, hW1⟩ : ∃ V, w.alloc (.cells #[.int .u8 (v).me, .int .i64 (v).l.ep, .int .i64 (v).l.st, .int .u8 (v).l.to, .string (v).cg, .bool (v).kp] 31) = V := ⟨_, rfl⟩
  have nW1_x : CB W1 (w.heap.size) 31 #[.int .u8 (v).me, .int .i64 (v).l.ep, .int .i64 (v).l.st, .int .u8 (v).l.to, .string (v).cg, .bool (v).kp] := by
    rw [← hW1]
    have := (CB.new w 31 #[.int .u8 (v).me, .int .i64 (v).l.ep, .int .i64 (v).l.st, .int .u8 (v).l.to, .string (v).cg, .bool (v).kp])
    simpa using this
  have lW1 : Below w.heap.size w W1 := by rw [← hW1]; exact le_al _ _
  have HW1 := Lib.hid hW1
  clear hW1
  have r1_e := (h).on lW1
  go_enter Try.func28, Try.ntmps28
  go_wp2_with fail
  rw [HW1.out]
  refine (created_ce r1_e).mono ?_
  rintro e w2 ⟨rfl, b2⟩
  have r3_x := le_on nW1_x b2
  have r3_e := (r1_e).on b2
  have l3 := le_tr lW1 b2
  clear nW1_x r1_e lW1
  clear b2
  have hce := r3_e
  obtain ⟨bn, bs, h1, h2, h3, h4, h5, h6⟩ := (r3_e).ex
  have c0 := h1.cell 0
  have c1 := h1.cell 1
  simp at c0 c1
  have hlook := h2.look hk
  have hh : hasL L k = false := by rw [has_get, hg]; rfl
  rw [hh, hg] at hlook
  simp only [Option.getD_none] at hlook
  have hne : (((L.length : Nat) : Int) == room) = false := by simp; omega
  have hfit : ((putL L k v).length : Int) ≤ room := by rw [length_put h.srt, hh]; simp; omega
  have hmx : L.length < maxLen := by have := h.len; simp only [maxLen]; omega
  clear hg hh h1 h2 h3 h4 h5 h6
  have av_p : w.heap.size ≤ w2.heap.size := by have := l3.size; omega
  obtain ⟨W4, hW4⟩ : ∃ V, w2.alloc (.cells #[.int .u8 (sd0).me, .int .i64 (sd0).l.ep, .int .i64 (sd0).l.st, .int .u8 (sd0).l.to, .string (sd0).cg, .bool (sd0).kp] 31) = V := ⟨_, rfl⟩
  have zW4 : w2.heap.size = w2.heap.size := by rfl
  have nW4 : CB W4 (w2.heap.size) 31 #[.int .u8 (sd0).me, .int .i64 (sd0).l.ep, .int .i64 (sd0).l.st, .int .u8 (sd0).l.to, .string (sd0).cg, .bool (sd0).kp] := by rw [← zW4, ← hW4]; exact CB.new _ _ _
  have bW4 : Below w2.heap.size w2 W4 := by rw [← hW4]; exact le_al _ _
  have neW4_x : w.heap.size ≠ w2.heap.size := by have := CB.lt r3_x; omega
  have HW4 := Lib.hid hW4
  clear hW4 zW4
  have r5_x := le_on r3_x bW4
  have r5_e := (r3_e).on bW4
  have l5 := le_tr l3 bW4
  clear r3_x r3_e l3
  clear bW4
  have d0 := c0
  have d1 := c1
  go_wp2_with fail
  rw [HW4.out]
  clear hlook c0 c1 d0 d1
  obtain ⟨bn, bs, h1, h2, h3, h4, h5, h6⟩ := (r5_e).ex
  have c0 := h1.cell 0
  have c1 := h1.cell 1
  simp at c0 c1
  have hlen : ∀ n ty, (Builtin.len_ #[109] ty #[.map (some bn)]).run Try.prog (W4.drewN n) = .ok (.int .i64 L.length) (W4.drewN n) := fun n ty => (h2.drewN n).len ty
  have f5_x0 : W4.cell? ⟨w.heap.size, 0, none⟩ = some (.int .u8 (v).me) := CB.cell r5_x 0
  have f5_x1 : W4.cell? ⟨w.heap.size, 1, none⟩ = some (.int .i64 (v).l.ep) := CB.cell r5_x 1
  have f5_x2 : W4.cell? ⟨w.heap.size, 2, none⟩ = some (.int .i64 (v).l.st) := CB.cell r5_x 2
  have f5_x3 : W4.cell? ⟨w.heap.size, 3, none⟩ = some (.int .u8 (v).l.to) := CB.cell r5_x 3
  have f5_x4 : W4.cell? ⟨w.heap.size, 4, none⟩ = some (.string (v).cg) := CB.cell r5_x 4
  have f5_x5 : W4.cell? ⟨w.heap.size, 5, none⟩ = some (.bool (v).kp) := CB.cell r5_x 5
  go_quiet (fail)
  go_wp2_with fail
  clear f5_x0 f5_x1 f5_x2 f5_x3 f5_x4 f5_x5
  clear c0 c1 hlen
  obtain ⟨Wq, hWq⟩ : ∃ V, W4.drewN nq = V := ⟨_, rfl⟩
  have bq : Below W4.heap.size W4 Wq := by rw [← hWq]; exact le_dN (Below.refl _ _)
  rw [hWq]
  clear hWq
  have r7_x := le_on r5_x bq
  have r7_p := le_on nW4 bq
  have r7_c := le_on h1 bq
  have r7_e := (r5_e).on bq
  have r7_m := (h2).on bq
  have r7_m2 := (h3).on bq
  have l7 := le_tr l5 bq
  clear r5_x nW4 h1 r5_e h2 h3 l5
  clear bq
  have y8 := Lib.hid (show (fun V : World => V.cell? ⟨w.heap.size, 0, none⟩ = some (.int .u8 (v).me) ∧ V.cell? ⟨w.heap.size, 1, none⟩ = some (.int .i64 (v).l.ep) ∧ V.cell? ⟨w.heap.size, 2, none⟩ = some (.int .i64 (v).l.st) ∧ V.cell? ⟨w.heap.size, 3, none⟩ = some (.int .u8 (v).l.to) ∧ V.cell? ⟨w.heap.size, 4, none⟩ = some (.string (v).cg) ∧ V.cell? ⟨w.heap.size, 5, none⟩ = some (.bool (v).kp) ∧ V.cell? ⟨c, 0, none⟩ = some (.int .i64 room) ∧ V.cell? ⟨c, 1, none⟩ = some (.map (some bn)) ∧ V.cell? ⟨c, 2, none⟩ = some (.map (some bs))) Wq from ⟨CB.cell r7_x 0, CB.cell r7_x 1, CB.cell r7_x 2, CB.cell r7_x 3, CB.cell r7_x 4, CB.cell r7_x 5, CB.cell r7_c 0, CB.cell r7_c 1, CB.cell r7_c 2⟩)
  refine wp_region_held_drew (S := (fun V : World => V.cell? ⟨w.heap.size, 0, none⟩ = some (.int .u8 (v).me) ∧ V.cell? ⟨w.heap.size, 1, none⟩ = some (.int .i64 (v).l.ep) ∧ V.cell? ⟨w.heap.size, 2, none⟩ = some (.int .i64 (v).l.st) ∧ V.cell? ⟨w.heap.size, 3, none⟩ = some (.int .u8 (v).l.to) ∧ V.cell? ⟨w.heap.size, 4, none⟩ = some (.string (v).cg) ∧ V.cell? ⟨w.heap.size, 5, none⟩ = some (.bool (v).kp) ∧ V.cell? ⟨c, 0, none⟩ = some (.int .i64 room) ∧ V.cell? ⟨c, 1, none⟩ = some (.map (some bn)) ∧ V.cell? ⟨c, 2, none⟩ = some (.map (some bs)))) (by kernel_rfl) y8.out (fun hHeld => ?_)
  obtain ⟨D8, hD8⟩ : ∃ V, Wq.drew = V := ⟨_, rfl⟩
  have b8 : Below Wq.heap.size Wq D8 := by rw [← hD8]; exact le_dr (Below.refl _ _)
  rw [hD8] at hHeld ⊢
  clear hD8
  have r9_x := le_on r7_x b8
  have r9_p := le_on r7_p b8
  have r9_c := le_on r7_c b8
  have r9_e := (r7_e).on b8
  have r9_m := (r7_m).on b8
  have r9_m2 := (r7_m2).on b8
  have l9 := le_tr l7 b8
  clear r7_x r7_p r7_c r7_e r7_m r7_m2 l7
  clear b8
  refine wpAnyH_takeL (i := 0) (d := some 35) (v := .pointer (some ⟨c, 0, none⟩)) rfl rfl (by kernel_rfl) (by kernel_rfl) (by kernel_rfl) (fun _ _ _ h => h) (Or.inl ⟨by rfl, ?_⟩) hHeld ?_
  · intro w hSw; (try dsimp only at hSw); go_simp
  try simp only [Act.put, List.setIfInBounds_toArray, List.set_cons_zero, List.set_cons_succ]
  refine wpAnyH_takeL (i := 1) (d := some 36) (v := .pointer (some ⟨c, 0, none⟩)) rfl rfl (by kernel_rfl) (by kernel_rfl) (by kernel_rfl) (fun _ _ _ h => h) (Or.inl ⟨by rfl, ?_⟩) hHeld ?_
  · intro w hSw; (try dsimp only at hSw); go_simp
  try simp only [Act.put, List.setIfInBounds_toArray, List.set_cons_zero, List.set_cons_succ]
  refine wpAnyH_takeL (i := 2) (d := some 37) (v := .pointer (some ⟨c, 1, none⟩)) rfl rfl (by kernel_rfl) (by kernel_rfl) (by kernel_rfl) (fun _ _ _ h => h) (Or.inl ⟨by rfl, ?_⟩) hHeld ?_
  · intro w hSw; (try dsimp only at hSw); go_simp
  try simp only [Act.put, List.setIfInBounds_toArray, List.set_cons_zero, List.set_cons_succ]
  refine wpAnyH_takeL (i := 3) (d := some 38) (v := .map (some bn)) rfl rfl (by kernel_rfl) (by kernel_rfl) (by kernel_rfl) (fun _ _ _ h => h) (Or.inl ⟨by rfl, ?_⟩) hHeld ?_
  · intro w hSw; (try dsimp only at hSw); go_simp
  try simp only [Act.put, List.setIfInBounds_toArray, List.set_cons_zero, List.set_cons_succ]
  refine wpAnyH_takeL (i := 4) (d := some 39) (v := .int .u8 k) rfl rfl (by kernel_rfl) (by kernel_rfl) (by kernel_rfl) (fun _ _ _ h => h) (Or.inl ⟨by rfl, ?_⟩) hHeld ?_
  · intro w hSw; (try dsimp only at hSw); go_simp
  try simp only [Act.put, List.setIfInBounds_toArray, List.set_cons_zero, List.set_cons_succ]
  refine wpAnyH_takeL (i := 5) (d := some 40) (v := .agg #[.int .u8 (v).me, .int .i64 (v).l.ep, .int .i64 (v).l.st, .int .u8 (v).l.to, .string (v).cg, .bool (v).kp]) rfl rfl (by kernel_rfl) (by kernel_rfl) (by kernel_rfl) (fun _ _ _ h => h) (Or.inl ⟨by rfl, ?_⟩) hHeld ?_
  · intro w hSw; (try dsimp only at hSw); go_simp
  try simp only [Act.put, List.setIfInBounds_toArray, List.set_cons_zero, List.set_cons_succ]
  refine wpAnyH_ready (rs := [6]) (by kernel_rfl) (by simp) ?_
  refine AllReadyH.cons rfl (fun K hK => ?_) AllReadyH.nil
  obtain ⟨w1, hrun1, hmp1, hturn1⟩ := MP.store (v := v) r9_m hmx hk trivial
  go_simp
  go_wp2_with fail
  have n1x : CB w1 (w.heap.size) 31 #[.int .u8 (v).me, .int .i64 (v).l.ep, .int .i64 (v).l.st, .int .u8 (v).l.to, .string (v).cg, .bool (v).kp] := CB.same r9_x (hturn1.grown.block _ (CB.lt r9_x) (fun e => MP.ne r9_m r9_x (by injection e with e'; first | done | exact e' | exact e'.symm)))
  have n1c : CB w1 (c) 111 #[.int .i64 room, .map (some bn), .map (some bs)] := CB.same r9_c (hturn1.grown.block _ (CB.lt r9_c) (fun e => MP.ne r9_m r9_c (by injection e with e'; first | done | exact e' | exact e'.symm)))
  have y10 := Lib.hid (show (fun V : World => V.cell? ⟨w.heap.size, 0, none⟩ = some (.int .u8 (v).me) ∧ V.cell? ⟨w.heap.size, 1, none⟩ = some (.int .i64 (v).l.ep) ∧ V.cell? ⟨w.heap.size, 2, none⟩ = some (.int .i64 (v).l.st) ∧ V.cell? ⟨w.heap.size, 3, none⟩ = some (.int .u8 (v).l.to) ∧ V.cell? ⟨w.heap.size, 4, none⟩ = some (.string (v).cg) ∧ V.cell? ⟨w.heap.size, 5, none⟩ = some (.bool (v).kp) ∧ V.cell? ⟨c, 0, none⟩ = some (.int .i64 room) ∧ V.cell? ⟨c, 1, none⟩ = some (.map (some bn)) ∧ V.cell? ⟨c, 2, none⟩ = some (.map (some bs))) w1 from ⟨CB.cell n1x 0, CB.cell n1x 1, CB.cell n1x 2, CB.cell n1x 3, CB.cell n1x 4, CB.cell n1x 5, CB.cell n1c 0, CB.cell n1c 1, CB.cell n1c 2⟩)
  refine hK.out _ _ y10.out (fun hHeld => ?_)
  clear hK K y10
  try simp only [Act.put, List.setIfInBounds_toArray, List.set_cons_zero, List.set_cons_succ]
  refine wpAnyH_done (by kernel_rfl) ?_ _
  go_wp2_with fail
  go_ret
  obtain ⟨r1, r2⟩ := (r9_e).turn (n := 0) r9_c r9_m r9_m2 h4 h5 h6 hturn1 hmp1 hfit
  exact ⟨rfl, r1, CF.behind r2 l9 h.le⟩

set_option maxRecDepth 100000 in
set_option maxHeartbeats 4000000 in
theorem set_old (B c : Nat) (room : Int) (L S : List (Int × Sd)) (w : World) (h : CE B w c room L S) (k : Int) (v u : Sd) (hk : (Lit.int .u8 k).wf = true) (hg : getL L k = some u) :
    Calls Try.prog 28 #[.pointer (some ⟨c, 0, none⟩), .int .u8 k, (Value.agg #[.int .u8 (v).me, .int .i64 (v).l.ep, .int .i64 (v).l.st, .int .u8 (v).l.to, .string (v).cg, .bool (v).kp])] w fun e w' => e = .returned (.int .i64 0) ∧ CE B w' c room (putL L k v) S ∧ CF B w w' c := by
  obtain ⟨W1, hW1⟩ : ∃ V, w.alloc (.cells #[.int .u8 (v).me, .int .i64 (v).l.ep, .int .i64 (v).l.st, .int .u8 (v).l.to, .string (v).cg, .bool (v).kp] 31) = V := ⟨_, rfl⟩
  have nW1_x : CB W1 (w.heap.size) 31 #[.int .u8 (v).me, .int .i64 (v).l.ep, .int .i64 (v).l.st, .int .u8 (v).l.to, .string (v).cg, .bool (v).kp] := by
    rw [← hW1]
    have := (CB.new w 31 #[.int .u8 (v).me, .int .i64 (v).l.ep, .int .i64 (v).l.st, .int .u8 (v).l.to, .string (v).cg, .bool (v).kp])
    simpa using this
  have lW1 : Below w.heap.size w W1 := by rw [← hW1]; exact le_al _ _
  have HW1 := Lib.hid hW1
  clear hW1
  have r1_e := (h).on lW1
  go_enter Try.func28, Try.ntmps28
  go_wp2_with fail
  rw [HW1.out]
  refine (created_ce r1_e).mono ?_
  rintro e w2 ⟨rfl, b2⟩
  have r3_x := le_on nW1_x b2
  have r3_e := (r1_e).on b2
  have l3 := le_tr lW1 b2
  clear nW1_x r1_e lW1
  clear b2
  have hce := r3_e
  obtain ⟨bn, bs, h1, h2, h3, h4, h5, h6⟩ := (r3_e).ex
  have c0 := h1.cell 0
  have c1 := h1.cell 1
  simp at c0 c1
  have hlook := h2.look hk
  have hh : hasL L k = true := by rw [has_get, hg]; rfl
  rw [hh, hg] at hlook
  simp only [Option.getD_some] at hlook
  have hfit : ((putL L k v).length : Int) ≤ room := by rw [length_put h.srt, hh]; exact h.fit
  have hmx : L.length < maxLen := by have := h.len; simp only [maxLen]; omega
  clear hg hh h1 h2 h3 h4 h5 h6
  have av_p : w.heap.size ≤ w2.heap.size := by have := l3.size; omega
  obtain ⟨W4, hW4⟩ : ∃ V, w2.alloc (.cells #[.int .u8 (u).me, .int .i64 (u).l.ep, .int .i64 (u).l.st, .int .u8 (u).l.to, .string (u).cg, .bool (u).kp] 31) = V := ⟨_, rfl⟩
  have zW4 : w2.heap.size = w2.heap.size := by rfl
  have nW4 : CB W4 (w2.heap.size) 31 #[.int .u8 (u).me, .int .i64 (u).l.ep, .int .i64 (u).l.st, .int .u8 (u).l.to, .string (u).cg, .bool (u).kp] := by rw [← zW4, ← hW4]; exact CB.new _ _ _
  have bW4 : Below w2.heap.size w2 W4 := by rw [← hW4]; exact le_al _ _
  have neW4_x : w.heap.size ≠ w2.heap.size := by have := CB.lt r3_x; omega
  have HW4 := Lib.hid hW4
  clear hW4 zW4
  have r5_x := le_on r3_x bW4
  have r5_e := (r3_e).on bW4
  have l5 := le_tr l3 bW4
  clear r3_x r3_e l3
  clear bW4
  have d0 := c0
  have d1 := c1
  go_wp2_with fail
  rw [HW4.out]
  clear hlook c0 c1 d0 d1
  obtain ⟨bn, bs, h1, h2, h3, h4, h5, h6⟩ := (r5_e).ex
  have c0 := h1.cell 0
  have c1 := h1.cell 1
  simp at c0 c1
  have f5_x0 : W4.cell? ⟨w.heap.size, 0, none⟩ = some (.int .u8 (v).me) := CB.cell r5_x 0
  have f5_x1 : W4.cell? ⟨w.heap.size, 1, none⟩ = some (.int .i64 (v).l.ep) := CB.cell r5_x 1
  have f5_x2 : W4.cell? ⟨w.heap.size, 2, none⟩ = some (.int .i64 (v).l.st) := CB.cell r5_x 2
  have f5_x3 : W4.cell? ⟨w.heap.size, 3, none⟩ = some (.int .u8 (v).l.to) := CB.cell r5_x 3
  have f5_x4 : W4.cell? ⟨w.heap.size, 4, none⟩ = some (.string (v).cg) := CB.cell r5_x 4
  have f5_x5 : W4.cell? ⟨w.heap.size, 5, none⟩ = some (.bool (v).kp) := CB.cell r5_x 5
  go_quiet (fail)
  go_wp2_with fail
  clear f5_x0 f5_x1 f5_x2 f5_x3 f5_x4 f5_x5
  clear c0 c1
  obtain ⟨Wq, hWq⟩ : ∃ V, W4.drewN nq = V := ⟨_, rfl⟩
  have bq : Below W4.heap.size W4 Wq := by rw [← hWq]; exact le_dN (Below.refl _ _)
  rw [hWq]
  clear hWq
  have r7_x := le_on r5_x bq
  have r7_p := le_on nW4 bq
  have r7_c := le_on h1 bq
  have r7_e := (r5_e).on bq
  have r7_m := (h2).on bq
  have r7_m2 := (h3).on bq
  have l7 := le_tr l5 bq
  clear r5_x nW4 h1 r5_e h2 h3 l5
  clear bq
  have y8 := Lib.hid (show (fun V : World => V.cell? ⟨w.heap.size, 0, none⟩ = some (.int .u8 (v).me) ∧ V.cell? ⟨w.heap.size, 1, none⟩ = some (.int .i64 (v).l.ep) ∧ V.cell? ⟨w.heap.size, 2, none⟩ = some (.int .i64 (v).l.st) ∧ V.cell? ⟨w.heap.size, 3, none⟩ = some (.int .u8 (v).l.to) ∧ V.cell? ⟨w.heap.size, 4, none⟩ = some (.string (v).cg) ∧ V.cell? ⟨w.heap.size, 5, none⟩ = some (.bool (v).kp) ∧ V.cell? ⟨c, 0, none⟩ = some (.int .i64 room) ∧ V.cell? ⟨c, 1, none⟩ = some (.map (some bn)) ∧ V.cell? ⟨c, 2, none⟩ = some (.map (some bs))) Wq from ⟨CB.cell r7_x 0, CB.cell r7_x 1, CB.cell r7_x 2, CB.cell r7_x 3, CB.cell r7_x 4, CB.cell r7_x 5, CB.cell r7_c 0, CB.cell r7_c 1, CB.cell r7_c 2⟩)
  refine wp_region_held_drew (S := (fun V : World => V.cell? ⟨w.heap.size, 0, none⟩ = some (.int .u8 (v).me) ∧ V.cell? ⟨w.heap.size, 1, none⟩ = some (.int .i64 (v).l.ep) ∧ V.cell? ⟨w.heap.size, 2, none⟩ = some (.int .i64 (v).l.st) ∧ V.cell? ⟨w.heap.size, 3, none⟩ = some (.int .u8 (v).l.to) ∧ V.cell? ⟨w.heap.size, 4, none⟩ = some (.string (v).cg) ∧ V.cell? ⟨w.heap.size, 5, none⟩ = some (.bool (v).kp) ∧ V.cell? ⟨c, 0, none⟩ = some (.int .i64 room) ∧ V.cell? ⟨c, 1, none⟩ = some (.map (some bn)) ∧ V.cell? ⟨c, 2, none⟩ = some (.map (some bs)))) (by kernel_rfl) y8.out (fun hHeld => ?_)
  obtain ⟨D8, hD8⟩ : ∃ V, Wq.drew = V := ⟨_, rfl⟩
  have b8 : Below Wq.heap.size Wq D8 := by rw [← hD8]; exact le_dr (Below.refl _ _)
  rw [hD8] at hHeld ⊢
  clear hD8
  have r9_x := le_on r7_x b8
  have r9_p := le_on r7_p b8
  have r9_c := le_on r7_c b8
  have r9_e := (r7_e).on b8
  have r9_m := (r7_m).on b8
  have r9_m2 := (r7_m2).on b8
  have l9 := le_tr l7 b8
  clear r7_x r7_p r7_c r7_e r7_m r7_m2 l7
  clear b8
  refine wpAnyH_takeL (i := 0) (d := some 35) (v := .pointer (some ⟨c, 0, none⟩)) rfl rfl (by kernel_rfl) (by kernel_rfl) (by kernel_rfl) (fun _ _ _ h => h) (Or.inl ⟨by rfl, ?_⟩) hHeld ?_
  · intro w hSw; (try dsimp only at hSw); go_simp
  try simp only [Act.put, List.setIfInBounds_toArray, List.set_cons_zero, List.set_cons_succ]
  refine wpAnyH_takeL (i := 1) (d := some 36) (v := .pointer (some ⟨c, 0, none⟩)) rfl rfl (by kernel_rfl) (by kernel_rfl) (by kernel_rfl) (fun _ _ _ h => h) (Or.inl ⟨by rfl, ?_⟩) hHeld ?_
  · intro w hSw; (try dsimp only at hSw); go_simp
  try simp only [Act.put, List.setIfInBounds_toArray, List.set_cons_zero, List.set_cons_succ]
  refine wpAnyH_takeL (i := 2) (d := some 37) (v := .pointer (some ⟨c, 1, none⟩)) rfl rfl (by kernel_rfl) (by kernel_rfl) (by kernel_rfl) (fun _ _ _ h => h) (Or.inl ⟨by rfl, ?_⟩) hHeld ?_
  · intro w hSw; (try dsimp only at hSw); go_simp
  try simp only [Act.put, List.setIfInBounds_toArray, List.set_cons_zero, List.set_cons_succ]
  refine wpAnyH_takeL (i := 3) (d := some 38) (v := .map (some bn)) rfl rfl (by kernel_rfl) (by kernel_rfl) (by kernel_rfl) (fun _ _ _ h => h) (Or.inl ⟨by rfl, ?_⟩) hHeld ?_
  · intro w hSw; (try dsimp only at hSw); go_simp
  try simp only [Act.put, List.setIfInBounds_toArray, List.set_cons_zero, List.set_cons_succ]
  refine wpAnyH_takeL (i := 4) (d := some 39) (v := .int .u8 k) rfl rfl (by kernel_rfl) (by kernel_rfl) (by kernel_rfl) (fun _ _ _ h => h) (Or.inl ⟨by rfl, ?_⟩) hHeld ?_
  · intro w hSw; (try dsimp only at hSw); go_simp
  try simp only [Act.put, List.setIfInBounds_toArray, List.set_cons_zero, List.set_cons_succ]
  refine wpAnyH_takeL (i := 5) (d := some 40) (v := .agg #[.int .u8 (v).me, .int .i64 (v).l.ep, .int .i64 (v).l.st, .int .u8 (v).l.to, .string (v).cg, .bool (v).kp]) rfl rfl (by kernel_rfl) (by kernel_rfl) (by kernel_rfl) (fun _ _ _ h => h) (Or.inl ⟨by rfl, ?_⟩) hHeld ?_
  · intro w hSw; (try dsimp only at hSw); go_simp
  try simp only [Act.put, List.setIfInBounds_toArray, List.set_cons_zero, List.set_cons_succ]
  refine wpAnyH_ready (rs := [6]) (by kernel_rfl) (by simp) ?_
  refine AllReadyH.cons rfl (fun K hK => ?_) AllReadyH.nil
  obtain ⟨w1, hrun1, hmp1, hturn1⟩ := MP.store (v := v) r9_m hmx hk trivial
  go_simp
  go_wp2_with fail
  have n1x : CB w1 (w.heap.size) 31 #[.int .u8 (v).me, .int .i64 (v).l.ep, .int .i64 (v).l.st, .int .u8 (v).l.to, .string (v).cg, .bool (v).kp] := CB.same r9_x (hturn1.grown.block _ (CB.lt r9_x) (fun e => MP.ne r9_m r9_x (by injection e with e'; first | done | exact e' | exact e'.symm)))
  have n1c : CB w1 (c) 111 #[.int .i64 room, .map (some bn), .map (some bs)] := CB.same r9_c (hturn1.grown.block _ (CB.lt r9_c) (fun e => MP.ne r9_m r9_c (by injection e with e'; first | done | exact e' | exact e'.symm)))
  have y10 := Lib.hid (show (fun V : World => V.cell? ⟨w.heap.size, 0, none⟩ = some (.int .u8 (v).me) ∧ V.cell? ⟨w.heap.size, 1, none⟩ = some (.int .i64 (v).l.ep) ∧ V.cell? ⟨w.heap.size, 2, none⟩ = some (.int .i64 (v).l.st) ∧ V.cell? ⟨w.heap.size, 3, none⟩ = some (.int .u8 (v).l.to) ∧ V.cell? ⟨w.heap.size, 4, none⟩ = some (.string (v).cg) ∧ V.cell? ⟨w.heap.size, 5, none⟩ = some (.bool (v).kp) ∧ V.cell? ⟨c, 0, none⟩ = some (.int .i64 room) ∧ V.cell? ⟨c, 1, none⟩ = some (.map (some bn)) ∧ V.cell? ⟨c, 2, none⟩ = some (.map (some bs))) w1 from ⟨CB.cell n1x 0, CB.cell n1x 1, CB.cell n1x 2, CB.cell n1x 3, CB.cell n1x 4, CB.cell n1x 5, CB.cell n1c 0, CB.cell n1c 1, CB.cell n1c 2⟩)
  refine hK.out _ _ y10.out (fun hHeld => ?_)
  clear hK K y10
  try simp only [Act.put, List.setIfInBounds_toArray, List.set_cons_zero, List.set_cons_succ]
  refine wpAnyH_done (by kernel_rfl) ?_ _
  go_wp2_with fail
  go_ret
  obtain ⟨r1, r2⟩ := (r9_e).turn (n := 0) r9_c r9_m r9_m2 h4 h5 h6 hturn1 hmp1 hfit
  exact ⟨rfl, r1, CF.behind r2 l9 h.le⟩

theorem set_ok (B c : Nat) (room : Int) (L S : List (Int × Sd)) (w : World) (h : CE B w c room L S) (k : Int) (v : Sd) (hk : (Lit.int .u8 k).wf = true) (hl : hasL L k = true ∨ (L.length : Int) < room) :
    Calls Try.prog 28 #[.pointer (some ⟨c, 0, none⟩), .int .u8 k, (Value.agg #[.int .u8 (v).me, .int .i64 (v).l.ep, .int .i64 (v).l.st, .int .u8 (v).l.to, .string (v).cg, .bool (v).kp])] w fun e w' => e = .returned (.int .i64 0) ∧ CE B w' c room (putL L k v) S ∧ CF B w w' c := by
  cases hg : getL L k with
  | none =>
    refine set_new B c room L S w h k v hk hg ?_
    rcases hl with hl | hl
    · rw [has_get, hg] at hl
      cases hl
    · exact hl
  | some u => exact set_old B c room L S w h k v u hk hg

theorem sync_c (B c : Nat) (room : Int) (L S : List (Int × Sd)) (w : World) (h : CE B w c room L S) :
    Calls Try.prog 29 #[.pointer (some ⟨c, 0, none⟩)] w fun e w' => e = .returned (.int .i64 0) ∧ CE B w' c room L L ∧ CF B w w' c := by
  obtain ⟨bn, bs, h1, h2, h3, h4, h5, h6⟩ := h.ex
  have hc := created_yes c room _ _ w h1 h.pos
  have c1 := h1.cell 1
  simp at c1
  have hcl := clone_c w bn L h2 h.len
  have hlt := h1.lt
  go_enter Try.func29, Try.ntmps29
  go_wp2_with (first
    | (go_at_call 57; refine hc.mono ?_; rintro e w' ⟨rfl, rfl⟩)
    | (go_at_call 58; refine hcl.mono ?_; rintro e w1 ⟨b', rfl, r1, r2, r3⟩
       have f2 : w1.frozen? ⟨c, 2, none⟩ = false := (h1.same (r3.block c hlt)).frozen 2
       have g2 : w1.cell? ⟨c, 2, none⟩ = some (.map (some bs)) := (h1.same (r3.block c hlt)).cell 2))
  go_ret
  have k1 : CB w1 c 111 _ := h1.same (r3.block c hlt)
  refine ⟨rfl, ⟨⟨bn, b', by simpa using k1.put 2 (.map (some b')), (h2.same (r3.block bn h2.lt)).far (fun e => h2.ne h1 e.symm) _, r1.far (fun e => r1.ne k1 e.symm) _, ?_, h5, ?_⟩, h.low, h.pos, h.top, h.fit, h.fit⟩, ?_⟩
  · have := h2.lt; omega
  · have := h.le; omega
  · refine ⟨(r3.mono h.le).setCell (p := ⟨c, 2, none⟩) h.low _, fun g hg hne hn => ?_⟩
    exact (Below.heap_setCell w1 ⟨c, 2, none⟩ _ g hne).trans (r3.block g hg)

theorem crash_c (B c : Nat) (room : Int) (L S : List (Int × Sd)) (w : World) (h : CE B w c room L S) :
    Calls Try.prog 30 #[.pointer (some ⟨c, 0, none⟩)] w fun e w' => e = .returned (.int .i64 0) ∧ CE B w' c room S S ∧ CF B w w' c := by
  obtain ⟨bn, bs, h1, h2, h3, h4, h5, h6⟩ := h.ex
  have hc := created_yes c room _ _ w h1 h.pos
  have c1 := h1.cell 2
  simp at c1
  have hcl := clone_c w bs S h3 (by have := h.fitS; have := h.top; omega)
  have hlt := h1.lt
  go_enter Try.func30, Try.ntmps30
  go_wp2_with (first
    | (go_at_call 57; refine hc.mono ?_; rintro e w' ⟨rfl, rfl⟩)
    | (go_at_call 58; refine hcl.mono ?_; rintro e w1 ⟨b', rfl, r1, r2, r3⟩
       have f2 : w1.frozen? ⟨c, 1, none⟩ = false := (h1.same (r3.block c hlt)).frozen 1
       have g2 : w1.cell? ⟨c, 1, none⟩ = some (.map (some bn)) := (h1.same (r3.block c hlt)).cell 1))
  go_ret
  have k1 : CB w1 c 111 _ := h1.same (r3.block c hlt)
  refine ⟨rfl, ⟨⟨b', bs, by simpa using k1.put 1 (.map (some b')), r1.far (fun e => r1.ne k1 e.symm) _, (h3.same (r3.block bs h3.lt)).far (fun e => h3.ne h1 e.symm) _, ?_, ?_, h6⟩, h.low, h.pos, h.top, h.fitS, h.fitS⟩, ?_⟩
  · have := h3.lt; omega
  · have := h.le; omega
  · refine ⟨(r3.mono h.le).setCell (p := ⟨c, 1, none⟩) h.low _, fun g hg hne hn => ?_⟩
    exact (Below.heap_setCell w1 ⟨c, 1, none⟩ _ g hne).trans (r3.block g hg)

theorem new_ok (room : Int) (w : World) (h1 : 1 ≤ room) (h2 : room ≤ 10000) :
    Calls Try.prog 27 #[.int .i64 room] w fun e w' => ∃ c, e = .returned (.pointer (some ⟨c, 0, none⟩)) ∧ CE w.heap.size w' c room [] [] ∧ Below w.heap.size w w' := by
  have hmm := @run_makeMap Try.prog
  have n1 : ¬ room < 1 := by omega
  have n2 : ¬ room > 10000 := by omega
  go_enter Try.func27, Try.ntmps27
  go_wp2
  go_ret
  have q1 := ((MP.made w).alloc (.map #[] 0)).alloc (.cells #[.int .i64 room, .map (some w.heap.size), .map (some (w.heap.size + 1))] 111)
  have q2 := (MP.made (w.alloc (.map #[] 0))).alloc (.cells #[.int .i64 room, .map (some w.heap.size), .map (some (w.heap.size + 1))] 111)
  have q3 := CB.new ((w.alloc (.map #[] 0)).alloc (.map #[] 0)) 111 #[.int .i64 room, .map (some w.heap.size), .map (some (w.heap.size + 1))]
  simp only [World.size_alloc] at q2 q3
  exact ⟨w.heap.size + 1 + 1, rfl, ⟨⟨w.heap.size, w.heap.size + 1, q3, q1, q2, by omega, Nat.le_refl _, by omega⟩, by omega, by omega, h2, by simp; omega, by simp; omega⟩, (((Below.refl _ _).alloc (Nat.le_refl _) _).alloc (by simp) _).alloc (by simp; omega) _⟩

theorem new_no (room : Int) (w : World) (h : room < 1 ∨ 10000 < room) :
    Calls Try.prog 27 #[.int .i64 room] w fun e w' => e = .returned (.pointer none) ∧ w = w' := by
  rcases h with h | h
  · go_enter Try.func27, Try.ntmps27
    go_wp2
    go_ret
    exact ⟨rfl, rfl⟩
  · have n1 : ¬ room < 1 := by omega
    go_enter Try.func27, Try.ntmps27
    go_wp2
    go_ret
    exact ⟨rfl, rfl⟩
end Go.Proofs.Ytmghckddofefkaa.US
