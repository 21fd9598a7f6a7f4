/-
  The calls of package cells, keys and values uint8, int64: what New, Set, Get, Drop, Sync, Crash and Len return, and what they leave in memory. Conditions: the cells are such as New made, as the predicate CE says.
-/
import Derived.Test.YtopgnjnnijhpkaaCellC1
import Derived.Test.YtopgnjnnijhpkaaCellD1
import Derived.Test.YtopgnjnnijhpkaaRangeA
import Derived.Test.YtopgnjnnijhpkaaCellF
namespace Go.Proofs.Ytopgnjnnijhpkaa.UI
open Go.RowKit Go.Shelf Go.Maps

/-- Cells: their struct is block c; they hold L now, and S when they were safe; none of their blocks lies below B. -/
structure CE (B : Nat) (w : World) (c : Nat) (room : Int) (L S : List (Int × Int)) : Prop where
  ex : ∃ bn bs, CB w c 73 #[.int .i64 room, .map (some bn), .map (some bs)] ∧ MP w bn L ∧ MP w bs S ∧ bn ≠ bs ∧ B ≤ bn ∧ B ≤ bs
  low : B ≤ c
  pos : 0 < room
  top : room ≤ 10000
  fit : (L.length : Int) ≤ room
  fitS : (S.length : Int) ≤ room

section
variable {B : Nat} {w w' : World} {c : Nat} {room : Int} {L S : List (Int × Int)}
theorem CE.srt (h : CE B w c room L S) : Srt L := by obtain ⟨bn, bs, _, h1, _⟩ := h.ex; exact h1.srt
theorem CE.srtS (h : CE B w c room L S) : Srt S := by obtain ⟨bn, bs, _, _, h1, _⟩ := h.ex; exact h1.srt
theorem CE.len (h : CE B w c room L S) : L.length ≤ 10000 := by have := h.fit; have := h.top; omega
theorem CE.lt (h : CE B w c room L S) : c < w.heap.size := by obtain ⟨bn, bs, h1, _⟩ := h.ex; exact h1.lt
theorem CE.le (h : CE B w c room L S) : B ≤ w.heap.size := by have := h.lt; have := h.low; omega
theorem CE.below (h : CE B w c room L S) {B' : Nat} (hb : Below B' w w') (hB : w.heap.size ≤ B') : CE B w' c room L S := by
  obtain ⟨⟨bn, bs, h1, h2, h3, h4, h5, h6⟩, r1, r2, r3, r4, r5⟩ := h
  exact ⟨⟨bn, bs, h1.same (hb.block _ (Nat.lt_of_lt_of_le h1.lt hB)), h2.same (hb.block _ (Nat.lt_of_lt_of_le h2.lt hB)), h3.same (hb.block _ (Nat.lt_of_lt_of_le h3.lt hB)), h4, h5, h6⟩, r1, r2, r3, r4, r5⟩
theorem CE.drewN (h : CE B w c room L S) (n : Nat) : CE B (w.drewN n) c room L S := ⟨h.ex, h.low, h.pos, h.top, h.fit, h.fitS⟩
theorem CE.drew (h : CE B w c room L S) : CE B w.drew c room L S := ⟨h.ex, h.low, h.pos, h.top, h.fit, h.fitS⟩
theorem CE.alloc (h : CE B w c room L S) (o : Obj) : CE B (w.alloc o) c room L S := h.below ((Below.refl _ _).alloc (Nat.le_refl _) _) (Nat.le_refl _)
theorem CE.ne (h : CE B w c room L S) {g : Nat} {t : TypeId} {cs : Array Value} (hc : CB w g t cs) (ht : t ≠ 73) : g ≠ c := by
  obtain ⟨⟨bn, bs, h1, _⟩, _⟩ := h
  exact hc.ne_ h1 ht
/-- A block of cells of another type is written, or a book of a statement. -/
theorem CE.other (h : CE B w c room L S) {G : Nat} (hg : ∀ g, g ≠ G → w'.heap[g]? = w.heap[g]?) (hG : G ≠ c) (hm : ∀ es cl, w.heap[G]? ≠ some (.map es cl)) : CE B w' c room L S := by
  obtain ⟨⟨bn, bs, h1, h2, h3, h4, h5, h6⟩, r1, r2, r3, r4, r5⟩ := h
  have n1 : bn ≠ G := by rintro rfl; obtain ⟨es, cl, e⟩ := h2.is; exact hm es cl e
  have n2 : bs ≠ G := by rintro rfl; obtain ⟨es, cl, e⟩ := h3.is; exact hm es cl e
  exact ⟨⟨bn, bs, h1.same (hg c (Ne.symm hG)), h2.same (hg bn n1), h3.same (hg bs n2), h4, h5, h6⟩, r1, r2, r3, r4, r5⟩
theorem CE.far (h : CE B w c room L S) {g : Nat} {t : TypeId} {cs : Array Value} (hc : CB w g t cs) (ht : t ≠ 73) (i : Nat) (u : Value) : CE B (w.setCell ⟨g, i, none⟩ u) c room L S :=
  h.other (G := g) (fun g' hg' => Below.heap_setCell w ⟨g, i, none⟩ u g' hg') (h.ne hc ht) (fun es cl e => by
    have h' : w.heap[g]? = some (.cells cs t (0, 0)) := hc
    rw [h'] at e
    cases e)
theorem CE.putBook (h : CE B w c room L S) {l : Nat} (hl : Book w l) (o : Obj) : CE B (w.putObj l o) c room L S := by
  refine h.other (G := l) (fun g' hg' => World.putObj_heap_other hg') ?_ (fun es cl e => ?_)
  · obtain ⟨⟨bn, bs, h1, _⟩, _⟩ := h
    exact fun e => h1.noBook hl e.symm
  · rcases hl with ⟨r, hl⟩ | ⟨d, hl⟩ <;> (rw [hl] at e; cases e)
/-- A block that is no block of these cells is written, and new ones are laid. -/
theorem CE.grown (h : CE B w c room L S) {G : Option Nat} (hg : w.grownBy w' G) (hG : ∀ g, G = some g → g ≠ c ∧ ∀ es cl, w.heap[g]? ≠ some (.map es cl)) : CE B w' c room L S := by
  obtain ⟨⟨bn, bs, h1, h2, h3, h4, h5, h6⟩, r1, r2, r3, r4, r5⟩ := h
  refine ⟨⟨bn, bs, h1.same (hg.block _ h1.lt (fun e => (hG c e.symm).1 rfl)), h2.same (hg.block _ h2.lt (fun e => ?_)), h3.same (hg.block _ h3.lt (fun e => ?_)), h4, h5, h6⟩, r1, r2, r3, r4, r5⟩
  · obtain ⟨es, cl, e'⟩ := h2.is; exact (hG bn e.symm).2 es cl e'
  · obtain ⟨es, cl, e'⟩ := h3.is; exact (hG bs e.symm).2 es cl e'

theorem CE.turn {bn bs : Nat} {L' : List (Int × Int)} {n : Nat} (h : CE B w c room L S) (h1 : CB w c 73 #[.int .i64 room, .map (some bn), .map (some bs)]) (h2 : MP w bn L) (h3 : MP w bs S) (h4 : bn ≠ bs) (h5 : B ≤ bn) (h6 : B ≤ bs)
    (ht : (w.drewN n).mapTurned w' bn) (hm : MP w' bn L') (hl : (L'.length : Int) ≤ room) : CE B w' c room L' S ∧ CF B w w' c := by
  have hg := ht.grown
  have hb : ∀ g, g < w.heap.size → g ≠ bn → w'.heap[g]? = w.heap[g]? := fun g hlt hne => hg.block g hlt (fun e => hne (by cases e; rfl))
  refine ⟨⟨⟨bn, bs, h1.same (hb c h1.lt (h2.ne h1)), hm, h3.same (hb bs h3.lt (Ne.symm h4)), h4, h5, h6⟩, h.low, h.pos, h.top, hl, h.fitS⟩, ?_⟩
  refine ⟨⟨hg.os, hg.tape, hg.output, hg.size, fun g hlt => hb g (by have := h.le; omega) (by omega)⟩, fun g hlt hc hn => hb g hlt ?_⟩
  rintro rfl
  obtain ⟨es, cl, e⟩ := h2.is
  exact hn es cl e
end

theorem MP.of_put {w w' : World} {b : Nat} {L : List (Int × Int)} (h : MP w b L) {n : Nat} {k : Int} {v : Int} {d : DataW Unit} (hd : d = dv v) (ho : w'.ownsMap Try.prog 5 (plainElem Try.prog 2) b n ((dat .u8 dv L).put (.int .u8 k) d)) : MP w' b (putL L k v) := by
  rw [hd, dat_put] at ho
  have := tight ho
  rw [dat_size] at this
  exact ⟨this, h.2.put k v⟩
theorem MP.of_del {w w' : World} {b : Nat} {L : List (Int × Int)} (h : MP w b L) {n : Nat} {k : Int} (ho : w'.ownsMap Try.prog 5 (plainElem Try.prog 2) b n ((dat .u8 dv L).del (.int .u8 k))) : MP w' b (delL L k) := by
  rw [dat_del] at ho
  have := tight ho
  rw [dat_size] at this
  exact ⟨this, h.2.del k⟩

theorem created_yes (c : Nat) (room : Int) (u v : Value) (w : World) (hb : CB w c 73 #[.int .i64 room, u, v]) (h : 0 < room) :
    Calls Try.prog 33 #[.pointer (some ⟨c, 0, none⟩)] w fun e w' => e = .returned (.bool true) ∧ w = w' := by
  have c0 := hb.cell 0
  simp at c0
  go_enter Try.func33, Try.ntmps33
  go_wp2
  go_ret
  exact ⟨rfl, rfl⟩

theorem len_c (B c : Nat) (room : Int) (L S : List (Int × Int)) (w : World) (h : CE B w c room L S) :
    Calls Try.prog 32 #[.pointer (some ⟨c, 0, none⟩)] w fun e w' => e = .returned (.int .i64 L.length) ∧ w = w' := by
  obtain ⟨bn, bs, h1, h2, h3, h4, h5, h6⟩ := h.ex
  have hc := created_yes c room _ _ w h1 h.pos
  have c1 := h1.cell 1
  simp at c1
  have hlen := h2.len
  clear h2 h3
  go_enter Try.func32, Try.ntmps32
  go_wp2_with (go_at_call 33; refine hc.mono ?_; rintro e w' ⟨rfl, rfl⟩)
  go_ret
  exact ⟨rfl, rfl⟩

theorem get_yes (B c : Nat) (room : Int) (L S : List (Int × Int)) (w : World) (h : CE B w c room L S) (k : Int) (v : Int) (hk : (Lit.int .u8 k).wf = true) (hg : getL L k = some v) :
    Calls Try.prog 11 #[.pointer (some ⟨c, 0, none⟩), .int .u8 k] w fun e w' => e = .returned (.tuple #[(Value.int .i64 v), .int .i64 0]) ∧ w = w' := by
  obtain ⟨bn, bs, h1, h2, h3, h4, h5, h6⟩ := h.ex
  have hc := created_yes c room _ _ w h1 h.pos
  have c1 := h1.cell 1
  simp at c1
  have hlook := h2.look hk
  rw [has_get, hg] at hlook
  simp only [Option.getD_some, Option.isSome_some] at hlook
  clear h2 h3 hk hg
  go_enter Try.func11, Try.ntmps11
  go_wp2_with (go_at_call 33; refine hc.mono ?_; rintro e w' ⟨rfl, rfl⟩)
  go_ret2
  exact ⟨rfl, rfl⟩

theorem get_no (B c : Nat) (room : Int) (L S : List (Int × Int)) (w : World) (h : CE B w c room L S) (k : Int) (hk : (Lit.int .u8 k).wf = true) (hg : getL L k = none) :
    Calls Try.prog 11 #[.pointer (some ⟨c, 0, none⟩), .int .u8 k] w fun e w' => e = .returned (.tuple #[(Value.int .i64 0), .int .i64 7]) ∧ w = w' := by
  obtain ⟨bn, bs, h1, h2, h3, h4, h5, h6⟩ := h.ex
  have hc := created_yes c room _ _ w h1 h.pos
  have c1 := h1.cell 1
  simp at c1
  have hlook := h2.look hk
  rw [has_get, hg] at hlook
  simp only [Option.getD_none, Option.isSome_none] at hlook
  clear h2 h3 hk hg
  go_enter Try.func11, Try.ntmps11
  go_wp2_with (go_at_call 33; refine hc.mono ?_; rintro e w' ⟨rfl, rfl⟩)
  go_ret2
  exact ⟨rfl, rfl⟩

theorem drop_no (B c : Nat) (room : Int) (L S : List (Int × Int)) (w : World) (h : CE B w c room L S) (k : Int) (hk : (Lit.int .u8 k).wf = true) (hg : getL L k = none) :
    Calls Try.prog 14 #[.pointer (some ⟨c, 0, none⟩), .int .u8 k] w fun e w' => e = .returned (.int .i64 7) ∧ w = w' := by
  have hgt := get_no B c room L S w h k hk hg
  clear hk hg h
  go_enter Try.func14, Try.ntmps14
  go_wp2_with (go_at_call 11; refine hgt.mono ?_; rintro e w' ⟨rfl, rfl⟩)
  go_ret
  exact ⟨rfl, rfl⟩

theorem drop_yes (B c : Nat) (room : Int) (L S : List (Int × Int)) (w : World) (h : CE B w c room L S) (k : Int) (v : Int) (hk : (Lit.int .u8 k).wf = true) (hg : getL L k = some v) :
    Calls Try.prog 14 #[.pointer (some ⟨c, 0, none⟩), .int .u8 k] w fun e w' => e = .returned (.int .i64 0) ∧ CE B w' c room (delL L k) S ∧ CF B w w' c := by
  have hgt := get_yes B c room L S w h k v hk hg
  obtain ⟨bn, bs, h1, h2, h3, h4, h5, h6⟩ := h.ex
  have c1 := h1.cell 1
  simp at c1
  have hown := h2.1
  have hfit : ((delL L k).length : Int) ≤ room := by have := length_del_le L k; have := h.fit; omega
  clear hg
  go_enter Try.func14, Try.ntmps14
  go_wp2_with (first
    | (go_at_call 11; refine hgt.mono ?_; rintro e w' ⟨rfl, rfl⟩)
    | (at_delete; refine wpList_delete_own _ rfl _ _ 71 5 rfl 2 lawK Try.underlying71 _ bn L.length _ rfl hown _ _ rfl (keyOf_int_mk Try.underlying5 hk) ?_; intro w1 hown1 hturn1))
  go_ret
  obtain ⟨r1, r2⟩ := h.turn (n := 0) h1 h2 h3 h4 h5 h6 hturn1 (h2.of_del hown1) hfit
  exact ⟨rfl, r1, r2⟩

set_option maxHeartbeats 400000 in
theorem set_full (B c : Nat) (room : Int) (L S : List (Int × Int)) (w : World) (h : CE B w c room L S) (k : Int) (v : Int) (hk : (Lit.int .u8 k).wf = true) (hg : getL L k = none) (hl : (L.length : Int) = room) :
    Calls Try.prog 18 #[.pointer (some ⟨c, 0, none⟩), .int .u8 k, (Value.int .i64 v)] w fun e w' => e = .returned (.int .i64 6) ∧ ∃ n, w' = w.drewN n := by
  obtain ⟨bn, bs, h1, h2, h3, h4, h5, h6⟩ := h.ex
  have hc := created_yes c room _ _ w h1 h.pos
  have c0 := h1.cell 0
  have c1 := h1.cell 1
  simp at c0 c1
  have hlook := h2.look hk
  rw [has_get, hg] at hlook
  simp only [Option.getD_none, Option.isSome_none] at hlook
  have hlen : ∀ n ty, (Builtin.len_ #[71] ty #[.map (some bn)]).run Try.prog (w.drewN n) = .ok (.int .i64 room) (w.drewN n) := fun n ty => by rw [← hl]; exact (h2.drewN n).len ty
  clear h2 h3 hk hg hl h
  go_enter Try.func18, Try.ntmps18
  go_wp2_with (go_at_call 33; refine hc.mono ?_; rintro e w' ⟨rfl, rfl⟩)
  go_quiet (fail)
  go_wp2
  go_ret
  exact ⟨rfl, _, rfl⟩

set_option maxHeartbeats 400000 in
theorem set_new (B c : Nat) (room : Int) (L S : List (Int × Int)) (w : World) (h : CE B w c room L S) (k : Int) (v : Int) (hk : (Lit.int .u8 k).wf = true) (hv : ((Lit.int .i64 v).wf = true)) (hg : getL L k = none) (hl : (L.length : Int) < room) :
    Calls Try.prog 18 #[.pointer (some ⟨c, 0, none⟩), .int .u8 k, (Value.int .i64 v)] w fun e w' => e = .returned (.int .i64 0) ∧ CE B w' c room (putL L k v) S ∧ CF B w w' c := by
  obtain ⟨bn, bs, h1, h2, h3, h4, h5, h6⟩ := h.ex
  have hc := created_yes c room _ _ w h1 h.pos
  have c0 := h1.cell 0
  have c1 := h1.cell 1
  simp at c0 c1
  have hlook := h2.look hk
  have hh : hasL L k = false := by rw [has_get, hg]; rfl
  rw [hh, hg] at hlook
  simp only [Option.getD_none] at hlook
  have hlen : ∀ n ty, (Builtin.len_ #[71] ty #[.map (some bn)]).run Try.prog (w.drewN n) = .ok (.int .i64 L.length) (w.drewN n) := fun n ty => (h2.drewN n).len ty
  have hne : (((L.length : Nat) : Int) == room) = false := by simp; omega
  have hfit : ((putL L k v).length : Int) ≤ room := by rw [length_put h.srt, hh]; simp; omega
  have hmx : L.length < maxLen := by have := h.len; simp only [maxLen]; omega
  clear hg hh
  go_enter Try.func18, Try.ntmps18
  go_wp2_with (go_at_call 33; refine hc.mono ?_; rintro e w' ⟨rfl, rfl⟩)
  go_quiet (fail)
  go_wp2_with (at_mapUpdate; refine wpList_mapUpdate_in _ rfl _ _ _ 71 rfl 5 2 lawK Try.underlying71 _ bn L.length _ rfl (h2.drewN _).1 hmx _ _ _ rfl rfl (keyOf_int_mk Try.underlying5 hk) _ [] (val_mk hv) ?_; intro w1 hown1 hturn1)
  go_ret
  obtain ⟨r1, r2⟩ := h.turn h1 h2 h3 h4 h5 h6 hturn1 (h2.of_put rfl hown1) hfit
  exact ⟨rfl, r1, r2⟩

set_option maxHeartbeats 400000 in
theorem set_old (B c : Nat) (room : Int) (L S : List (Int × Int)) (w : World) (h : CE B w c room L S) (k : Int) (v u : Int) (hk : (Lit.int .u8 k).wf = true) (hv : ((Lit.int .i64 v).wf = true)) (hg : getL L k = some u) :
    Calls Try.prog 18 #[.pointer (some ⟨c, 0, none⟩), .int .u8 k, (Value.int .i64 v)] w fun e w' => e = .returned (.int .i64 0) ∧ CE B w' c room (putL L k v) S ∧ CF B w w' c := by
  obtain ⟨bn, bs, h1, h2, h3, h4, h5, h6⟩ := h.ex
  have hc := created_yes c room _ _ w h1 h.pos
  have c0 := h1.cell 0
  have c1 := h1.cell 1
  simp at c0 c1
  have hlook := h2.look hk
  have hh : hasL L k = true := by rw [has_get, hg]; rfl
  rw [hh, hg] at hlook
  simp only [Option.getD_some] at hlook
  have hfit : ((putL L k v).length : Int) ≤ room := by rw [length_put h.srt, hh]; exact h.fit
  have hmx : L.length < maxLen := by have := h.len; simp only [maxLen]; omega
  clear hg hh
  go_enter Try.func18, Try.ntmps18
  go_wp2_with (go_at_call 33; refine hc.mono ?_; rintro e w' ⟨rfl, rfl⟩)
  go_quiet (fail)
  go_wp2_with (at_mapUpdate; refine wpList_mapUpdate_in _ rfl _ _ _ 71 rfl 5 2 lawK Try.underlying71 _ bn L.length _ rfl (h2.drewN _).1 hmx _ _ _ rfl rfl (keyOf_int_mk Try.underlying5 hk) _ [] (val_mk hv) ?_; intro w1 hown1 hturn1)
  go_ret
  obtain ⟨r1, r2⟩ := h.turn h1 h2 h3 h4 h5 h6 hturn1 (h2.of_put rfl hown1) hfit
  exact ⟨rfl, r1, r2⟩

theorem set_ok (B c : Nat) (room : Int) (L S : List (Int × Int)) (w : World) (h : CE B w c room L S) (k : Int) (v : Int) (hk : (Lit.int .u8 k).wf = true) (hv : ((Lit.int .i64 v).wf = true)) (hl : hasL L k = true ∨ (L.length : Int) < room) :
    Calls Try.prog 18 #[.pointer (some ⟨c, 0, none⟩), .int .u8 k, (Value.int .i64 v)] w fun e w' => e = .returned (.int .i64 0) ∧ CE B w' c room (putL L k v) S ∧ CF B w w' c := by
  cases hg : getL L k with
  | none =>
    refine set_new B c room L S w h k v hk hv hg ?_
    rcases hl with hl | hl
    · rw [has_get, hg] at hl
      cases hl
    · exact hl
  | some u => exact set_old B c room L S w h k v u hk hv hg

theorem sync_c (B c : Nat) (room : Int) (L S : List (Int × Int)) (w : World) (h : CE B w c room L S) :
    Calls Try.prog 15 #[.pointer (some ⟨c, 0, none⟩)] w fun e w' => e = .returned (.int .i64 0) ∧ CE B w' c room L L ∧ CF B w w' c := by
  obtain ⟨bn, bs, h1, h2, h3, h4, h5, h6⟩ := h.ex
  have hc := created_yes c room _ _ w h1 h.pos
  have c1 := h1.cell 1
  simp at c1
  have hcl := clone_c w bn L h2 h.len
  have hlt := h1.lt
  go_enter Try.func15, Try.ntmps15
  go_wp2_with (first
    | (go_at_call 33; refine hc.mono ?_; rintro e w' ⟨rfl, rfl⟩)
    | (go_at_call 35; refine hcl.mono ?_; rintro e w1 ⟨b', rfl, r1, r2, r3⟩
       have f2 : w1.frozen? ⟨c, 2, none⟩ = false := (h1.same (r3.block c hlt)).frozen 2
       have g2 : w1.cell? ⟨c, 2, none⟩ = some (.map (some bs)) := (h1.same (r3.block c hlt)).cell 2))
  go_ret
  have k1 : CB w1 c 73 _ := h1.same (r3.block c hlt)
  refine ⟨rfl, ⟨⟨bn, b', by simpa using k1.put 2 (.map (some b')), (h2.same (r3.block bn h2.lt)).far (fun e => h2.ne h1 e.symm) _, r1.far (fun e => r1.ne k1 e.symm) _, ?_, h5, ?_⟩, h.low, h.pos, h.top, h.fit, h.fit⟩, ?_⟩
  · have := h2.lt; omega
  · have := h.le; omega
  · refine ⟨(r3.mono h.le).setCell (p := ⟨c, 2, none⟩) h.low _, fun g hg hne hn => ?_⟩
    exact (Below.heap_setCell w1 ⟨c, 2, none⟩ _ g hne).trans (r3.block g hg)

theorem crash_c (B c : Nat) (room : Int) (L S : List (Int × Int)) (w : World) (h : CE B w c room L S) :
    Calls Try.prog 16 #[.pointer (some ⟨c, 0, none⟩)] w fun e w' => e = .returned (.int .i64 0) ∧ CE B w' c room S S ∧ CF B w w' c := by
  obtain ⟨bn, bs, h1, h2, h3, h4, h5, h6⟩ := h.ex
  have hc := created_yes c room _ _ w h1 h.pos
  have c1 := h1.cell 2
  simp at c1
  have hcl := clone_c w bs S h3 (by have := h.fitS; have := h.top; omega)
  have hlt := h1.lt
  go_enter Try.func16, Try.ntmps16
  go_wp2_with (first
    | (go_at_call 33; refine hc.mono ?_; rintro e w' ⟨rfl, rfl⟩)
    | (go_at_call 35; refine hcl.mono ?_; rintro e w1 ⟨b', rfl, r1, r2, r3⟩
       have f2 : w1.frozen? ⟨c, 1, none⟩ = false := (h1.same (r3.block c hlt)).frozen 1
       have g2 : w1.cell? ⟨c, 1, none⟩ = some (.map (some bn)) := (h1.same (r3.block c hlt)).cell 1))
  go_ret
  have k1 : CB w1 c 73 _ := h1.same (r3.block c hlt)
  refine ⟨rfl, ⟨⟨b', bs, by simpa using k1.put 1 (.map (some b')), r1.far (fun e => r1.ne k1 e.symm) _, (h3.same (r3.block bs h3.lt)).far (fun e => h3.ne h1 e.symm) _, ?_, ?_, h6⟩, h.low, h.pos, h.top, h.fitS, h.fitS⟩, ?_⟩
  · have := h3.lt; omega
  · have := h.le; omega
  · refine ⟨(r3.mono h.le).setCell (p := ⟨c, 1, none⟩) h.low _, fun g hg hne hn => ?_⟩
    exact (Below.heap_setCell w1 ⟨c, 1, none⟩ _ g hne).trans (r3.block g hg)

theorem new_ok (room : Int) (w : World) (h1 : 1 ≤ room) (h2 : room ≤ 10000) :
    Calls Try.prog 10 #[.int .i64 room] w fun e w' => ∃ c, e = .returned (.pointer (some ⟨c, 0, none⟩)) ∧ CE w.heap.size w' c room [] [] ∧ Below w.heap.size w w' := by
  have hmm := @run_makeMap Try.prog
  have n1 : ¬ room < 1 := by omega
  have n2 : ¬ room > 10000 := by omega
  go_enter Try.func10, Try.ntmps10
  go_wp2
  go_ret
  have q1 := ((MP.made w).alloc (.map #[] 0)).alloc (.cells #[.int .i64 room, .map (some w.heap.size), .map (some (w.heap.size + 1))] 73)
  have q2 := (MP.made (w.alloc (.map #[] 0))).alloc (.cells #[.int .i64 room, .map (some w.heap.size), .map (some (w.heap.size + 1))] 73)
  have q3 := CB.new ((w.alloc (.map #[] 0)).alloc (.map #[] 0)) 73 #[.int .i64 room, .map (some w.heap.size), .map (some (w.heap.size + 1))]
  simp only [World.size_alloc] at q2 q3
  exact ⟨w.heap.size + 1 + 1, rfl, ⟨⟨w.heap.size, w.heap.size + 1, q3, q1, q2, by omega, Nat.le_refl _, by omega⟩, by omega, by omega, h2, by simp; omega, by simp; omega⟩, (((Below.refl _ _).alloc (Nat.le_refl _) _).alloc (by simp) _).alloc (by simp; omega) _⟩

theorem new_no (room : Int) (w : World) (h : room < 1 ∨ 10000 < room) :
    Calls Try.prog 10 #[.int .i64 room] w fun e w' => e = .returned (.pointer none) ∧ w = w' := by
  rcases h with h | h
  · go_enter Try.func10, Try.ntmps10
    go_wp2
    go_ret
    exact ⟨rfl, rfl⟩
  · have n1 : ¬ room < 1 := by omega
    go_enter Try.func10, Try.ntmps10
    go_wp2
    go_ret
    exact ⟨rfl, rfl⟩
end Go.Proofs.Ytopgnjnnijhpkaa.UI
