/-
  agent.Unpack. Condition: the text is no longer than memory lets it be.
-/
import Derived.Test.YtfdboahcaiolgaaAgD
import Derived.Test.YtfdboahcaiolgaaAgE
import Derived.Test.YtfdboahcaiolgaaAgI
set_option linter.unusedVariables false
set_option linter.unusedSimpArgs false
namespace Go.Proofs.Ytfdboahcaiolgaa
open Go.RowKit
attribute [local go_sem] Oper.semAt_some
open Dk (Nt InN RightN BoundN MsgN NoMsg KindN EpN bound_n)


theorem st_alloc1 {P : Program} {ops : Array Oper} {rest : List Oper} {dst : Option Tmp} {ty : TypeId} {pos : String} {aft : Array Edge} {a : Act} {w : World} {Q : Exit → Act → World → Prop} (T : TypeId) (v : Value) (cs : Array Value) (hc : v.cells = cs) (hz : ∀ V : World, (zeroValue T).run P V = .ok v V)
    (k : Sh (∀ V g, CB V g T cs → Fr w V g → wpList P ops Q rest (a.put dst (.pointer (some ⟨g, 0, none⟩))) V)) : wpList P ops Q (⟨dst, .alloc T, ty, pos, aft, none⟩ :: rest) a w := by
  subst hc
  refine wpList_plain rfl fun K hK => ?_
  unfold Oper.wp execOp
  simp only [Instr.alloc, hz, Sem.run_bind, newVar, newRow, run_newObj_alloc, Sem.run_pure, Result.andThen_ok]
  exact hK _ _ (k.out _ _ (CB.new w T v.cells) ⟨rfl, le_al _ _⟩)
theorem leaves_nil {P : Program} {fn : Func} {tmps : Array Value} {R : Ending → World → Prop} {w : World} (h : LeavesIn Fence.wide 0 P fn tmps R [] .returning w) : LeavesInM Fence.wide 0 P fn tmps R [] .returning w := by
  rw [LeavesInM.eq_def]
  exact h
/-- A slice, a number, in a variable of its own. -/
def hdA (p : Option Addr × Nat × Nat) : Array Value := #[.slice p.1 p.2.1 p.2.2]
def nuA (x : Int) : Array Value := #[.int .i64 x]
theorem hdA_one (p : Option Addr × Nat × Nat) : (hdA p).all (·.oneCell') = true := by simp [hdA, Value.oneCell']
theorem nuA_one (x : Int) : (nuA x).all (·.oneCell') = true := by simp [nuA, Value.oneCell']
theorem hdA_size (p : Option Addr × Nat × Nat) : (hdA p).size = 1 := rfl
theorem nuA_size (x : Int) : (nuA x).size = 1 := rfl
theorem hdA_set (p q : Option Addr × Nat × Nat) : (hdA p).setIfInBounds 0 (.slice q.1 q.2.1 q.2.2) = hdA q := rfl
theorem nuA_set (x y : Int) : (nuA x).setIfInBounds 0 (.int .i64 y) = nuA y := rfl
theorem zero_sb (V : World) : (zeroValue 27).run Try.prog V = .ok (.slice none 0 0) V := Try.zeroValue27 V
theorem zero_en (V : World) : (zeroValue 24).run Try.prog V = .ok (.int .i64 0) V := Try.zeroValue24 V
theorem rr_of_vr {W : World} {A : Option Addr} {l : List Dk.CV} (h : Dk.VR W A l) (hl : l.length ≤ maxLen) : RR W vcl 2 A l.length l.length l := by
  by_cases h0 : 0 < l.length
  · obtain ⟨v, g, off, _, _, _, hA, _, _⟩ := h.at_ h0
    subst hA
    refine RR.of_at rfl (Nat.le_refl _) hl fun k x hx i u hu => ?_
    obtain ⟨_, _, g', off', hA, _, c0, c1⟩ := h k x hx
    cases hA
    match i, hu with
    | 0, hu => simp [vcl] at hu; subst hu; exact c0
    | 1, hu => simp [vcl] at hu; subst hu; exact c1
    | i + 2, hu => simp [vcl] at hu
  · exact ⟨rfl, Nat.le_refl _, hl, fun h => absurd h h0⟩
theorem okV_of_vr {W : World} {A : Option Addr} {l : List Dk.CV} (h : Dk.VR W A l) : Dk.okV l := fun v hv => by
  obtain ⟨i, hi⟩ := List.getElem?_of_mem hv
  obtain ⟨h1, h2, _⟩ := h i v hi
  exact ⟨h1, h2⟩
def gL (bs : List UInt8) : List Bl := (dG bs).getD []
def gE (bs : List UInt8) : Nat := match dG bs with | none => 4 | some _ => 0
theorem g_none {bs : List UInt8} (h : dG bs = none) : gL bs = [] ∧ gE bs = 4 := by unfold gL gE; rw [h]; exact ⟨rfl, rfl⟩
theorem g_some {bs : List UInt8} {L : List Bl} (h : dG bs = some L) : gL bs = L ∧ gE bs = 0 := by unfold gL gE; rw [h]; exact ⟨rfl, rfl⟩
/-- Behind Unpack: its ballots have no room behind them. -/
def UPost (w : World) (bs : List UInt8) (e : Ending) (w' : World) : Prop :=
  ∃ A, e = .returned (.tuple #[.slice A (gL bs).length (gL bs).length, .int .i64 ((gE bs : Nat) : Int)]) ∧ RS w' 49 dcl 2 A (gL bs).length (gL bs).length (gL bs) ∧ Below w.heap.size w w'
theorem UPost.no {w w' : World} {bs : List UInt8} (h : dG bs = none) (hb : Below w.heap.size w w') : UPost w bs (.returned (.tuple #[.slice none 0 0, .int .i64 4])) w' := by
  obtain ⟨h1, h2⟩ := g_none h
  unfold UPost
  rw [h1, h2]
  exact ⟨none, rfl, RS.nil _ _ _ _, hb⟩
theorem UPost.yes {w w' : World} {bs : List UInt8} {L : List Bl} {A : Option Addr} {n : Nat} (h : dG bs = some L) (hr : RS w' 49 dcl 2 A n n L) (hb : Below w.heap.size w w') : UPost w bs (.returned (.tuple #[.slice A n n, .int .i64 0])) w' := by
  obtain ⟨h1, h2⟩ := g_some h
  have hl := hr.len
  subst hl
  unfold UPost
  rw [h1, h2]
  exact ⟨A, rfl, hr, hb⟩
structure LeW (w W : World) : Prop where
  le : w.heap.size ≤ W.heap.size
theorem LeW.on {w W V : World} (h : LeW w W) (hb : Below W.heap.size W V) : LeW w V := ⟨Nat.le_trans h.le hb.size⟩
theorem LeW.wr {w W V : World} {g N : Nat} (h : LeW w W) (k : Wr W V g) (hn : N ≤ g) : LeW w V := ⟨by rw [k.size]; exact h.le⟩
theorem lo_val : ∀ (d : Nat) {l : List Dk.CV}, l.length = 2 * d → Dk.fitsB (shG d) l = true → ∀ k, k < d → (vAt l (2 * k)).n < 65536 ∧ (vAt l (2 * k + 1)).n < 256
  | 0, l, _, _, k, hk => by omega
  | d + 1, [], h, _, _, _ => by simp at h
  | d + 1, [_], h, _, _, _ => by simp at h; omega
  | d + 1, a :: c :: r, h, hf, k, hk => by
    simp only [List.length_cons] at h
    simp only [shG, Dk.fitsB, Bool.and_eq_true] at hf
    have e0 := Dk.fit_n (by decide) hf.1
    have e1 := Dk.fit_n (by decide) hf.2.1
    cases k with
    | zero => exact ⟨by have := e0.2; simpa [vAt, Dk.wd] using this, by have := e1.2; simpa [vAt, Dk.wd] using this⟩
    | succ k =>
      have := lo_val d (l := r) (by omega) hf.2.2 k (by omega)
      have a1 : vAt (a :: c :: r) (2 * (k + 1)) = vAt r (2 * k) := by unfold vAt; rw [show 2 * (k + 1) = 2 * k + 1 + 1 by omega]; simp
      have a2 : vAt (a :: c :: r) (2 * (k + 1) + 1) = vAt r (2 * k + 1) := by unfold vAt; rw [show 2 * (k + 1) + 1 = 2 * k + 1 + 1 + 1 by omega]; simp
      rw [a1, a2]
      exact this
/-- What Unpack's loop has in memory behind k rounds. -/
structure US (w w2 : World) (rb eb xb gm bp : Nat) (A4 : Option Addr) (M c4 d : Nat) (l : List Dk.CV) (k : Nat) (W : World) : Prop where
  m : SO w.heap.size W 49 dcl 2 (some ⟨gm, 0, none⟩) k d ((blG l).take k) (some gm)
  x : CB W xb 27 (hdA (some ⟨gm, 0, none⟩, k, d))
  r : CB W rb 27 (hdA (none, 0, 0))
  e : CB W eb 24 (nuA 0)
  b : CB W bp 81 #[.slice A4 M c4]
  v : RL w2 W vcl 2 A4 M M l
  low : Below w.heap.size w W
section
variable {w w2 : World} {rb eb xb gm bp : Nat} {A4 : Option Addr} {M c4 d : Nat} {l : List Dk.CV} {k : Nat} {W V : World}
theorem US.on (h : US w w2 rb eb xb gm bp A4 M c4 d l k W) (hb : Below W.heap.size W V) : US w w2 rb eb xb gm bp A4 M c4 d l k V := ⟨h.m.on hb, le_on h.x hb, le_on h.r hb, le_on h.e hb, le_on h.b hb, h.v.on hb, le_tr h.low hb⟩
theorem US.drew (h : US w w2 rb eb xb gm bp A4 M c4 d l k W) : US w w2 rb eb xb gm bp A4 M c4 d l k W.drew := ⟨h.m.drew, h.x.drew, h.r.drew, h.e.drew, h.b.drew, h.v.drew, belowD h.low⟩
theorem US.putBook (h : US w w2 rb eb xb gm bp A4 M c4 d l k W) {L : Nat} (hb : Book W L) (h1 : w2.heap.size ≤ L) (h2 : w.heap.size ≤ L) (o : Obj) : US w w2 rb eb xb gm bp A4 M c4 d l k (W.putObj L o) :=
  ⟨⟨h.m.seg.putBook hb o, h.m.hi⟩, h.x.putBook hb o, h.r.putBook hb o, h.e.putBook hb o, h.b.putBook hb o, ⟨h.v.rr.keep fun b off hA hn _ => World.putObj_heap_other (by have := h.v.lo b off hA hn; omega), h.v.lo⟩, below_putObj h.low h2 o⟩
theorem US.next (h : US w w2 rb eb xb gm bp A4 M c4 d l k W) {b : Bl} (hx : (blG l)[k]? = some b) (hs : Seg V 49 2 (some ⟨gm, 0, none⟩) (k + 1) d (rc dcl ((blG l).take k) ++ rc dcl [b]) (some gm)) (hg : W.grownBy V (some gm)) (hne : rb ≠ xb) (hgm : w2.heap.size ≤ gm) (hxb : w2.heap.size ≤ xb) (hgw : w.heap.size ≤ gm) (hxw : w.heap.size ≤ xb) :
    US w w2 rb eb xb gm bp A4 M c4 d l (k + 1) (V.setCell ⟨xb, 0, none⟩ (.slice (some ⟨gm, 0, none⟩) (k + 1) d)) := by
  have ng : ∀ {g : Nat} {T : TypeId} {cs : Array Value}, CB W g T cs → 49 ≠ T → CB V g T cs := fun hc ht => CB.same hc (hg.block _ hc.lt (fun e => by have := h.m.noT hc ht gm rfl; cases e; exact this rfl))
  have x4 := ng h.x (by decide)
  have r4 := ng h.r (by decide)
  have e4 := ng h.e (by decide)
  have b4 := ng h.b (by decide)
  rw [← rc_append] at hs
  rw [← take_snoc hx] at hs
  refine ⟨⟨hs.far (p := ⟨xb, 0, none⟩) (hs.ne_ x4 (by decide)) _, fun g e => by cases e; exact hgw⟩, x4.put 0 _, r4.far (p := ⟨xb, 0, none⟩) hne _, e4.far (p := ⟨xb, 0, none⟩) (CB.ne_ e4 x4 (by decide)) _, b4.far (p := ⟨xb, 0, none⟩) (CB.ne_ b4 x4 (by decide)) _, ⟨?_, h.v.lo⟩, ?_⟩
  · have v4 : RR V vcl 2 A4 M M l := h.v.rr.keep fun g off hA hn hlt => hg.block g hlt (fun e => by cases e; have := h.v.lo gm off hA hn; omega)
    exact v4.keep fun g off hA hn _ => Below.heap_setCell V ⟨xb, 0, none⟩ _ g (by have := h.v.lo g off hA hn; simp only; omega)
  · exact (h.low.grown hg h.low.size (fun g e => by cases e; exact hgw)).setCell (p := ⟨xb, 0, none⟩) hxw _
theorem US.x4 (h : US w w2 rb eb xb gm bp A4 M c4 d l k W) (hg : W.grownBy V (some gm)) : CB V xb 27 (hdA (some ⟨gm, 0, none⟩, k, d)) ∧ CB W xb 27 (hdA (some ⟨gm, 0, none⟩, k, d)) ∧ True :=
  ⟨CB.same h.x (hg.block _ h.x.lt (fun e => by have := h.m.noT h.x (by decide) gm rfl; cases e; exact this rfl)), h.x, trivial⟩
end
theorem Book.same {w V : World} {L : Nat} (h : Book w L) (e : V.heap[L]? = w.heap[L]?) : Book V L := by
  rcases h with ⟨r, h⟩ | ⟨r, h⟩
  · exact .inl ⟨r, e.trans h⟩
  · exact .inr ⟨r, e.trans h⟩
/-- An append whose run is known, in a fence. -/
theorem wpListIn_apprun {F : Fence} {nn : Nat} {P : Program} (w : World) {ops : Array Oper} {rest : List Oper} {o : Oper} {a : Act} {Q : Exit → Act → World → Prop} (hgd : o.guard = none) (s x : Operand) (t u : TypeId)
    (ho : o.op = .call { callee := .builtin .append, args := #[s, x], argTypes := #[t, u] }) (vs vx v' : Value) (w' : World) (hs : a.eval s = vs) (hx : a.eval x = vx) (hrun : (Builtin.append_ #[t, u] o.type #[vs, vx]).run P w = .ok v' w')
    (h : wpListIn F nn P ops Q rest (a.put o.dst v') w') : wpListIn F nn P ops Q (o :: rest) a w := by
  refine wpListIn_plain hgd fun K hK' => ?_
  unfold Oper.wpIn
  refine ⟨by simp [Oper.about, ho, resolve, Target.leads, Sem.run_pure], ?_⟩
  rw [Oper.semAt_plain F _ _ (by rw [ho]; intro c hc'; cases hc')]
  simp [execOp, ho, resolve, invoke, builtin, hs, hx, hrun, Result.andThen]
  exact hK' _ _ h
theorem q3 (s d : Nat) (h : s / 3 = d) : (s : Int) / 3 = (d : Int) ∧ Int.tdiv (s : Int) 3 = (d : Int) := by
  have e : (s : Int) / 3 = (d : Int) := by omega
  exact ⟨e, by rw [Int.tdiv_eq_ediv_of_nonneg (by omega)]; exact e⟩
theorem q2 (s d : Nat) (h : s / 2 = d) : (s : Int) / 2 = (d : Int) ∧ Int.tdiv (s : Int) 2 = (d : Int) := by
  have e : (s : Int) / 2 = (d : Int) := by omega
  exact ⟨e, by rw [Int.tdiv_eq_ediv_of_nonneg (by omega)]; exact e⟩
set_option maxRecDepth 100000 in
set_option maxHeartbeats 4000000 in
theorem gunp_c (s : ByteArray) (w : World) (hs : s.size ≤ 1000000) : Calls Try.prog 13 #[.string s] w (UPost w (Dk.bl s)) := by
  have hbl := Dk.bl_length s
  by_cases h150 : 150 < s.size
  · skip
    have HN := Lib.hid (dG_long (bs := Dk.bl s) (by omega))
    have k1 : decide ((150 : Int) < (s.size : Int)) = true := by simp; omega
    have k2 : decide ((s.size : Int) > 150) = true := by simp; omega
    clear h150 hbl
    refine (callsIn_wide (n := 0)).1 ?_
    refine callsIn_of_wp_marks Try.func13 rfl trivial ?_ rfl
    simp only [Try.ntmps13, List.size_toArray, List.length_cons, List.length_nil, Nat.reduceAdd, Nat.reduceSub, Array.replicate_succ, Array.replicate_zero, List.push_toArray, List.append_toArray, List.nil_append, List.cons_append]
    refine wpIn_wide.2 ?_
    go_wp2_with (first | ((with_reducible refine st_alloc1 27 (.slice none 0 0) (hdA (none, 0, 0)) rfl ?_ ?_); exact zero_sb))
    refine ⟨fun V1 g1 n1 f1 => ?_⟩
    have up1 : w.heap.size ≤ g1 := Nat.le_of_eq f1.at_
    have bl1 := f1.bel
    clear f1
    have l3 := le_tr (Below.refl _ _) bl1
    clear bl1
    go_wp2_with (first | ((with_reducible refine st_alloc1 24 (.int .i64 0) (nuA (0)) rfl ?_ ?_); exact zero_en))
    refine ⟨fun V4 g4 n4 f4 => ?_⟩
    have ne4_r := f4.ne n1
    have up4 : w.heap.size ≤ g4 := f4.up l3
    have bl4 := f4.bel
    clear f4
    have r6_r := le_on n1 bl4
    have l6 := le_tr l3 bl4
    clear n1 l3
    clear bl4
    go_wp2_with (first | ((with_reducible refine st_cell 27 _ _ g1 0 (.slice none 0 0) ?_ ?_ r6_r (new := hdA (none, 0, 0)) ?_ ?_ ?_ ?_ ?_ ?_); exact rfl; exact rfl; exact (by rw [hdA_size]; decide); exact hdA_set _ (none, 0, 0); exact one_sb; exact rfl; exact rfl))
    refine ⟨fun V7 n7 k7 => ?_⟩
    have m7_e := k7.on n4 (Ne.symm ne4_r)
    have o7 := k7.bel _ _ l6 up1
    clear k7
    clear r6_r n4 l6
    go_wp2_with (first | ((with_reducible refine st_cell 24 _ _ g4 0 (.int .i64 4) ?_ ?_ m7_e (new := nuA (4)) ?_ ?_ ?_ ?_ ?_ ?_); exact rfl; exact rfl; exact (by rw [nuA_size]; decide); exact nuA_set _ _; exact one_en; exact rfl; exact rfl))
    refine ⟨fun V8 n8 k8 => ?_⟩
    have m8_r := k8.on n7 ne4_r
    have o8 := k8.bel _ _ o7 up4
    clear k8
    clear m7_e n7 o7
    go_wp2_with fail
    have x2 := CB.cell m8_r 0
    have x3 := CB.cell n8 0
    simp only [hdA, nuA, List.getElem?_toArray, List.getElem?_cons_zero] at x2 x3
    exact leaves_nil ⟨.tuple #[.slice none 0 0, .int .i64 4], by simp [results, Try.results13, go_sem, x2, x3], UPost.no HN.out o8⟩
  have k1 : decide ((150 : Int) < (s.size : Int)) = false := by simp; omega
  have k2 : decide ((s.size : Int) > 150) = false := by simp; omega
  obtain ⟨d, hd⟩ : ∃ d, s.size / 3 = d := ⟨_, rfl⟩
  obtain ⟨d1, d2⟩ := q3 _ _ hd
  have hd50 : d ≤ 50 := by omega
  have w3 : IntKind.i64.wrap (d : Int) = (d : Int) := IntWalk.i64_in _ (by omega)
  have hpr : Dk.properB (shG d) = true := shG_proper.2 hd50
  have hbd : (Dk.bl s).length / 3 = d := by rw [hbl]; exact hd
  have CS := fun V => shape_c d V (by omega)
  obtain ⟨bs, hbs⟩ : ∃ bs, Dk.bl s = bs := ⟨_, rfl⟩
  rw [hbs] at hbd hbl
  have CD : ∀ V A c, RR V bcl 1 A s.size c bs → Calls Try.prog 34 #[.string (Dk.mkS (shG d)), .slice A s.size c] V (ValPost V (Dk.lD (shG d) bs) (Dk.eD (shG d) bs)) := fun V A c hV => by
    have := dec_C A s.size c bs V (Dk.mkS (shG d)) (shS_max (by omega)) hV
    rwa [Dk.bl_mkS] at this
  have CB_ : ∀ V : World, ∃ c V', (convert 9 77 (.string s)).run Try.prog V = .ok (.slice (some ⟨V.heap.size, 0, none⟩) s.size c) V' ∧ RR V' bcl 1 (some ⟨V.heap.size, 0, none⟩) s.size c bs ∧ Below V.heap.size V V' := fun V => by rw [← hbs]; exact conv_B V s (by simp only [maxLen]; omega)
  obtain ⟨S, hS⟩ : ∃ S, Dk.mkS (shG d) = S := ⟨_, rfl⟩
  simp only [hS] at CS CD
  clear hS
  cases ho : Dk.okD (shG d) bs with
  | none =>
    obtain ⟨e1, e2⟩ := Dk.eD_no hpr ho
    rw [e1, e2] at CD
    have HN := Lib.hid (show dG (Dk.bl s) = none by rw [hbs]; exact dG_no (by rw [hbd]; exact ho))
    clear e1 e2
    clear ho hpr hbd hbl hbs h150 hd
    refine (callsIn_wide (n := 0)).1 ?_
    refine callsIn_of_wp_marks Try.func13 rfl trivial ?_ rfl
    simp only [Try.ntmps13, List.size_toArray, List.length_cons, List.length_nil, Nat.reduceAdd, Nat.reduceSub, Array.replicate_succ, Array.replicate_zero, List.push_toArray, List.append_toArray, List.nil_append, List.cons_append]
    refine wpIn_wide.2 ?_
    go_wp2_with (first | ((with_reducible refine st_alloc1 27 (.slice none 0 0) (hdA (none, 0, 0)) rfl ?_ ?_); exact zero_sb))
    refine ⟨fun V1 g1 n1 f1 => ?_⟩
    have up1 : w.heap.size ≤ g1 := Nat.le_of_eq f1.at_
    have bl1 := f1.bel
    clear f1
    have l3 := le_tr (Below.refl _ _) bl1
    clear bl1
    go_wp2_with (first | ((with_reducible refine st_alloc1 24 (.int .i64 0) (nuA (0)) rfl ?_ ?_); exact zero_en))
    refine ⟨fun V4 g4 n4 f4 => ?_⟩
    have ne4_r := f4.ne n1
    have up4 : w.heap.size ≤ g4 := f4.up l3
    have bl4 := f4.bel
    clear f4
    have r6_r := le_on n1 bl4
    have l6 := le_tr l3 bl4
    clear n1 l3
    clear bl4
    go_wp2_with fail
    (with_reducible refine (CS _).mono ?_)
    rintro e w7 ⟨rfl, b7⟩
    have r9_r := le_on r6_r b7
    have r9_e := le_on n4 b7
    have l9 := le_tr l6 b7
    clear r6_r n4 l6
    clear b7
    obtain ⟨c9, V9, hrun9, h9, b9⟩ := CB_ w7
    clear CB_
    go_wp2_with fail
    clear hrun9
    have r12_r := le_on r9_r b9
    have r12_e := le_on r9_e b9
    have l12 := le_tr l9 b9
    clear r9_r r9_e l9
    clear b9
    go_wp2_with fail
    (with_reducible refine (CD _ _ _ h9).mono ?_)
    rintro e w13 ⟨A4, c4, rfl, h4, b13⟩
    have r15_r := le_on r12_r b13
    have r15_e := le_on r12_e b13
    have l15 := le_tr l12 b13
    clear r12_r r12_e l12
    clear b13
    clear h9
    go_wp2_with (first | ((with_reducible refine st_cell 27 _ _ g1 0 (.slice none 0 0) ?_ ?_ r15_r (new := hdA (none, 0, 0)) ?_ ?_ ?_ ?_ ?_ ?_); exact rfl; exact rfl; exact (by rw [hdA_size]; decide); exact hdA_set _ (none, 0, 0); exact one_sb; exact rfl; exact rfl))
    refine ⟨fun V16 n16 k16 => ?_⟩
    have m16_e := k16.on r15_e (Ne.symm ne4_r)
    have o16 := k16.bel _ _ l15 up1
    clear k16
    clear r15_r r15_e l15
    go_wp2_with (first | ((with_reducible refine st_cell 24 _ _ g4 0 (.int .i64 4) ?_ ?_ m16_e (new := nuA (4)) ?_ ?_ ?_ ?_ ?_ ?_); exact rfl; exact rfl; exact (by rw [nuA_size]; decide); exact nuA_set _ _; exact one_en; exact rfl; exact rfl))
    refine ⟨fun V17 n17 k17 => ?_⟩
    have m17_r := k17.on n16 ne4_r
    have o17 := k17.bel _ _ o16 up4
    clear k17
    clear m16_e n16 o16
    go_wp2_with fail
    have x2 := CB.cell m17_r 0
    have x3 := CB.cell n17 0
    simp only [hdA, nuA, List.getElem?_toArray, List.getElem?_cons_zero] at x2 x3
    exact leaves_nil ⟨.tuple #[.slice none 0 0, .int .i64 4], by simp [results, Try.results13, go_sem, x2, x3], UPost.no HN.out o17⟩
  | some l =>
    obtain ⟨e1, e2⟩ := Dk.eD_yes hpr ho
    obtain ⟨o1, o2, o3, o4⟩ := Dk.okD_some.1 ho
    rw [shG_length] at o1
    rw [e1, e2] at CD
    have hbl2 := blG_len d o1
    have HG := Lib.hid (show dG (Dk.bl s) = if RightB (blG l) then some (blG l) else none by rw [hbs]; exact dG_of (by rw [hbd]; exact ho))
    obtain ⟨M, hM⟩ : ∃ M, l.length = M := ⟨_, rfl⟩
    have hM2 : M = 2 * d := by omega
    obtain ⟨m1, m2⟩ := q2 M d (by omega)
    have HF := Lib.hid o2
    have HL := Lib.hid hM
    have HM := Lib.hid hM2
    have HBL := Lib.hid hbl2
    have hMb : M ≤ 100 := by omega
    clear e1 e2 o1 o2 o3 o4 hM hM2 hbl2
    clear ho hpr hbd hbl hbs h150 hd
    refine (callsIn_wide (n := 0)).1 ?_
    refine callsIn_of_wp_marks Try.func13 rfl trivial ?_ rfl
    simp only [Try.ntmps13, List.size_toArray, List.length_cons, List.length_nil, Nat.reduceAdd, Nat.reduceSub, Array.replicate_succ, Array.replicate_zero, List.push_toArray, List.append_toArray, List.nil_append, List.cons_append]
    refine wpIn_wide.2 ?_
    go_wp2_with (first | ((with_reducible refine st_alloc1 27 (.slice none 0 0) (hdA (none, 0, 0)) rfl ?_ ?_); exact zero_sb))
    refine ⟨fun V1 g1 n1 f1 => ?_⟩
    have up1 : w.heap.size ≤ g1 := Nat.le_of_eq f1.at_
    have bl1 := f1.bel
    clear f1
    have l3 := le_tr (Below.refl _ _) bl1
    clear bl1
    go_wp2_with (first | ((with_reducible refine st_alloc1 24 (.int .i64 0) (nuA (0)) rfl ?_ ?_); exact zero_en))
    refine ⟨fun V4 g4 n4 f4 => ?_⟩
    have ne4_r := f4.ne n1
    have up4 : w.heap.size ≤ g4 := f4.up l3
    have bl4 := f4.bel
    clear f4
    have r6_r := le_on n1 bl4
    have l6 := le_tr l3 bl4
    clear n1 l3
    clear bl4
    go_wp2_with fail
    (with_reducible refine (CS _).mono ?_)
    rintro e w7 ⟨rfl, b7⟩
    have r9_r := le_on r6_r b7
    have r9_e := le_on n4 b7
    have l9 := le_tr l6 b7
    clear r6_r n4 l6
    clear b7
    obtain ⟨c9, V9, hrun9, h9, b9⟩ := CB_ w7
    clear CB_
    go_wp2_with fail
    clear hrun9
    have r12_r := le_on r9_r b9
    have r12_e := le_on r9_e b9
    have l12 := le_tr l9 b9
    clear r9_r r9_e l9
    clear b9
    have CD' : ∀ V A c, RR V bcl 1 A s.size c bs → Calls Try.prog 34 #[.string S, .slice A s.size c] V (fun e w' => ∃ A c, e = .returned (.tuple #[.slice A M c, .int .i64 0]) ∧ Dk.VR w' A l ∧ Below V.heap.size V w') := fun V A c hV => by have := CD V A c hV; unfold ValPost at this; rw [HL.out] at this; exact this
    clear CD
    go_wp2_with fail
    (with_reducible refine (CD' _ _ _ h9).mono ?_)
    rintro e w13 ⟨A4, c4, rfl, h4, b13⟩
    have r15_r := le_on r12_r b13
    have r15_e := le_on r12_e b13
    have l15 := le_tr l12 b13
    clear r12_r r12_e l12
    clear b13
    clear h9 CD' CS
    have hov := okV_of_vr h4
    have hr4 := RL.start (rr_of_vr h4 (by rw [HL.out]; simp only [maxLen]; omega))
    rw [HL.out] at hr4
    clear h4
    obtain ⟨w2, hw2⟩ : ∃ x, x = w13 := ⟨_, rfl⟩
    have hs2 : LeW w2 w13 := ⟨by rw [hw2]; exact Nat.le_refl _⟩
    rw [← hw2] at hr4
    have hr4' : RL w2 w13 vcl 2 A4 M M l := by rw [← hw2]; exact hr4
    clear hr4 hw2
    go_wp2_with (first | ((with_reducible refine st_make (c := dcl) (s := 2) 27 49 _ _ d ?_ ?_ Try.underlying27 Try.infoBc (by omega) (by simp only [maxLen]; omega) ?_); exact rfl; exact rfl))
    refine ⟨fun V16 g16 n16 f16 => ?_⟩
    have no16_r : ∀ b, (some g16) = some b → b ≠ g1 := fun b e => by cases e; exact Ne.symm (f16.ne r15_r)
    have no16_e : ∀ b, (some g16) = some b → b ≠ g4 := fun b e => by cases e; exact Ne.symm (f16.ne r15_e)
    have up16 : w.heap.size ≤ g16 := f16.up l15
    have uup16 : w2.heap.size ≤ g16 := by have := (hs2).le; have := f16.at_; omega
    have so16 : SO w.heap.size V16 49 dcl 2 (some ⟨g16, 0, none⟩) 0 d [] (some g16) := ⟨n16.seg, fun g e => by cases e; exact up16⟩
    have bl16 := f16.bel
    clear f16 n16
    have r18_r := le_on r15_r bl16
    have r18_e := le_on r15_e bl16
    have r18_v := (hr4').on bl16
    have r18_q := (hs2).on bl16
    have l18 := le_tr l15 bl16
    clear r15_r r15_e hr4' hs2 l15
    clear bl16
    go_wp2_with (first | ((with_reducible refine st_alloc1 27 (.slice none 0 0) (hdA (none, 0, 0)) rfl ?_ ?_); exact zero_sb))
    refine ⟨fun V19 g19 n19 f19 => ?_⟩
    have ne19_r := f19.ne r18_r
    have ne19_e := f19.ne r18_e
    have no19_m := SO.fresh so16 (Nat.le_of_eq f19.at_)
    have up19 : w.heap.size ≤ g19 := f19.up l18
    have uup19 : w2.heap.size ≤ g19 := by have := (r18_q).le; have := f19.at_; omega
    have bl19 := f19.bel
    clear f19
    have r20_m := SO.on so16 bl19
    have r21_r := le_on r18_r bl19
    have r21_e := le_on r18_e bl19
    have r21_v := (r18_v).on bl19
    have r21_q := (r18_q).on bl19
    have l21 := le_tr l18 bl19
    clear r18_r r18_e r18_v r18_q l18
    clear so16
    clear bl19
    go_wp2_with (first | ((with_reducible refine st_cell 27 _ _ g19 0 (.slice (some ⟨g16, 0, none⟩) 0 d) ?_ ?_ n19 (new := hdA (some ⟨g16, 0, none⟩, 0, d)) ?_ ?_ ?_ ?_ ?_ ?_); exact rfl; exact rfl; exact (by rw [hdA_size]; decide); exact hdA_set _ (some ⟨g16, 0, none⟩, 0, d); exact one_sb; exact rfl; exact rfl))
    refine ⟨fun V23 n23 k23 => ?_⟩
    have m23_r := k23.on r21_r ne19_r
    have m23_e := k23.on r21_e ne19_e
    have m23_v := RL.wr r21_v k23 uup19
    have m23_q := (r21_q).wr k23 up19
    have m23_m := SO.wr r20_m k23 no19_m
    have o23 := k23.bel _ _ l21 up19
    clear k23
    clear n19 r21_r r21_e r21_v r21_q r20_m l21
    go_wp2_with fail
    (with_reducible refine (pairs_c A4 M c4 _).mono ?_)
    rintro e w24 ⟨bp, rfl, hbp, hbp0, b24⟩
    have r25_m := SO.on m23_m b24
    have r26_r := le_on m23_r b24
    have r26_e := le_on m23_e b24
    have r26_x := le_on n23 b24
    have r26_v := (m23_v).on b24
    have r26_q := (m23_q).on b24
    have l26 := le_tr o23 b24
    clear m23_r m23_e n23 m23_v m23_q o23
    clear m23_m
    clear b24
    go_wp2_with fail
    have hU0 : US w w2 g1 g4 g19 g16 bp A4 M c4 d l 0 w24 := ⟨r25_m, r26_x, r26_r, r26_e, hbp, r26_v, l26⟩
    have hq0 : w2.heap.size ≤ w24.heap.size := (r26_q).le
    have hw0 : w.heap.size ≤ w24.heap.size := (l26).size
    have hne : g1 ≠ g19 := ne19_r
    have hgm : w2.heap.size ≤ g16 := uup16
    have hxb : w2.heap.size ≤ g19 := uup19
    have hgw : w.heap.size ≤ g16 := up16
    have hxw : w.heap.size ≤ g19 := up19
    have hrw : w.heap.size ≤ g1 := up1
    have hew : w.heap.size ≤ g4 := up4
    clear r25_m r26_x r26_r r26_e hbp r26_v l26 r26_q
    refine (wpIn_wide (n := 0)).1 ?_
    refine range_law_c (gf := 62) (cb := #[.pointer (some ⟨bp, 0, none⟩)]) rfl (enters_of Try.func62 (by kernel_rfl) rfl) (enc := fun k => #[.agg #[.int .u64 ((vAt l (2 * k)).n : Int), .string (vAt l (2 * k)).s], .agg #[.int .u64 ((vAt l (2 * k + 1)).n : Int), .string (vAt l (2 * k + 1)).s]]) (pairs_iter A4 d M c4 bp l HL.out HM.out (by omega)) (fun _ => rfl)
      (fun k W => Hid (RightB ((blG l).take k)) ∧ US w w2 g1 g4 g19 g16 bp A4 M c4 d l k W)
      (fun c W => c = .ret ∧ Hid (dG (Dk.bl s) = none) ∧ CB W g1 27 (hdA (none, 0, 0)) ∧ CB W g4 24 (nuA 4) ∧ Below w.heap.size w W)
      (fun k W h => ⟨h.2.b, vr_rr h.2.v.rr hov⟩) ?hI ?hIx (fun k W h => ⟨h.1, h.2.drew⟩) ?h0
      (fun k a' W => ∃ (g7 g8 : Nat) (u : Nat → Value), CB W g7 96 #[.int .u64 ((vAt l (2 * k)).n : Int), .string (vAt l (2 * k)).s] ∧ CB W g8 96 #[.int .u64 ((vAt l (2 * k + 1)).n : Int), .string (vAt l (2 * k + 1)).s] ∧ a' = { tmps := #[u 0, u 1, .pointer (some ⟨g1, 0, none⟩), .pointer (some ⟨g4, 0, none⟩), u 4, u 5, .pointer (some ⟨g19, 0, none⟩), .pointer (some ⟨g7, 0, none⟩), .pointer (some ⟨g8, 0, none⟩), u 9, u 10, u 11, u 12, u 13, u 14, u 15, u 16, u 17, u 18, u 19, u 20, u 21, u 22, u 23, u 24, u 25, u 26, u 27, u 28, u 29, u 30, u 31, u 32, u 33, u 34, u 35, u 36, u 37, u 38, u 39, u 40, u 41, u 42, u 43, u 44, u 45, u 46, u 47, u 48], defers := [] })
      ?hAx ?assign ?body ?done ?stop
    case hI =>
      rintro k W o ⟨h1, h2⟩ hbk
      exact ⟨h1, h2.putBook hbk (by omega) (by omega) (.loop o)⟩
    case hIx =>
      rintro c W o ⟨h1, h2, h3, h4, h5⟩ hbk
      exact ⟨h1, h2, h3.putBook hbk (.loop o), h4.putBook hbk (.loop o), below_putObj h5 (by omega) (.loop o)⟩
    case h0 =>
      intro rr
      exact ⟨Lib.hid (by simpa using right_nil), (hU0.on (le_al _ _)).on (le_al _ _)⟩
    case hAx =>
      rintro k a' W o ⟨g7, g8, u, h7, h8, rfl⟩ hbk
      exact ⟨g7, g8, u, h7.putBook hbk (.loop o), h8.putBook hbk (.loop o), rfl⟩
    case assign =>
      rintro ll k W K hk ⟨hR, hU⟩ bk1 bk2 hK
      gi_wp2
      have hlt1 := bk1.lt
      have hlt2 := bk2.lt
      refine hK _ _ ⟨?_, ?_⟩ ⟨hR, (hU.on (le_al _ _)).on (le_al _ _)⟩ ⟨W.heap.size, W.heap.size + 1, fun i => (#[.string s, undef, .pointer (some ⟨g1, 0, none⟩), .pointer (some ⟨g4, 0, none⟩), .slice A4 M c4, .int .i64 0, .pointer (some ⟨g19, 0, none⟩), undef, undef, undef, .string s, .int .i64 (s.size : Int), .bool false, .tuple #[.slice A4 M c4, .int .i64 0], .string s, .int .i64 (s.size : Int), .int .i64 (d : Int), .string S, .string s, .slice (some ⟨w7.heap.size, 0, none⟩) s.size c9, .tuple #[.slice A4 M c4, .int .i64 0], .slice A4 M c4, .int .i64 0, .int .i64 0, .bool false, .slice A4 M c4, .int .i64 (M : Int), .int .i64 (d : Int), .slice (some ⟨g16, 0, none⟩) 0 d, .slice A4 M c4, .func (.func 62) #[] #[.pointer (some ⟨bp, 0, none⟩)], .agg #[.int .u64 ((vAt l (2 * k)).n : Int), .string (vAt l (2 * k)).s], .agg #[.int .u64 ((vAt l (2 * k + 1)).n : Int), .string (vAt l (2 * k + 1)).s]] : Array Value).getD i undef, CB.alloc (CB.new _ _ _) _, ?_, by rfl⟩
      · exact (le_al _ _).block _ (by simp; omega) |>.trans ((le_al _ _).block _ hlt1)
      · exact (le_al _ _).block _ (by simp; omega) |>.trans ((le_al _ _).block _ hlt2)
      · have := CB.new (W.alloc (.cells #[.int .u64 ((vAt l (2 * k)).n : Int), .string (vAt l (2 * k)).s] 96)) 96 #[.int .u64 ((vAt l (2 * k + 1)).n : Int), .string (vAt l (2 * k + 1)).s]
        rwa [World.size_alloc] at this
    case body =>
      rintro ll k a' W hk ⟨hR, hU⟩ ⟨g7, g8, u, h7, h8, rfl⟩ bk1 bk2
      obtain ⟨ba, bc⟩ := lo_val d (by rw [HL.out]; exact HM.out) HF.out k hk
      have hxk : (blG l)[k]? = some ⟨((vAt l (2 * k)).n : Int), ((vAt l (2 * k + 1)).n : Int)⟩ := blG_at (vAt_get (by rw [HL.out]; have := HM.out; omega)) (vAt_get (by rw [HL.out]; have := HM.out; omega))
      generalize (vAt l (2 * k)) = a at h7 hxk ba
      generalize (vAt l (2 * k + 1)) = c at h8 hxk bc
      have HX := Lib.hid hxk
      have wa : IntKind.i64.wrap (a.n : Int) = (a.n : Int) := IntWalk.i64_in _ (by omega)
      have wc : IntKind.i64.wrap (c.n : Int) = (c.n : Int) := IntWalk.i64_in _ (by omega)
      have c7 : W.cell? ⟨g7, 0, none⟩ = some (.int .u64 (a.n : Int)) := h7.cell 0
      have c8 : W.cell? ⟨g8, 0, none⟩ = some (.int .u64 (c.n : Int)) := h8.cell 0
      have cx : (W.alloc (.cells #[.int .i64 (a.n : Int), .int .i64 (c.n : Int)] 49)).cell? ⟨g19, 0, none⟩ = some (.slice (some ⟨g16, 0, none⟩) k d) := (CB.alloc hU.x _).cell 0
      have C : ∀ V, US w w2 g1 g4 g19 g16 bp A4 M c4 d l k V → Calls Try.prog 36 #[.slice (some ⟨g16, 0, none⟩) k d, .agg #[.int .i64 (a.n : Int), .int .i64 (c.n : Int)]] V (fun zz w' => zz = .returned (.bool (decide (FolB ((blG l).take k) ⟨(a.n : Int), (c.n : Int)⟩))) ∧ Below V.heap.size V w') := fun V hV => fol_c (some ⟨g16, 0, none⟩) k d ((blG l).take k) ⟨(a.n : Int), (c.n : Int)⟩ V hV.m.rr
      have hU0' := hU.on (le_al W (.cells #[.int .i64 (a.n : Int), .int .i64 (c.n : Int)] 49))
      have h9 := CB.new W 49 #[.int .i64 (a.n : Int), .int .i64 (c.n : Int)]
      have kp1 := (le_al W (.cells #[.int .i64 (a.n : Int), .int .i64 (c.n : Int)] 49)).block _ bk1.lt
      have kp2 := (le_al W (.cells #[.int .i64 (a.n : Int), .int .i64 (c.n : Int)] 49)).block _ bk2.lt
      have lt1 : w24.heap.size + 1 < (W.alloc (.cells #[.int .i64 (a.n : Int), .int .i64 (c.n : Int)] 49)).heap.size := by have := bk2.lt; simp; omega
      by_cases hF : FolB ((blG l).take k) ⟨(a.n : Int), (c.n : Int)⟩
      · have HN := Lib.hid (right_next hxk hF hR.out)
        simp only [decide_eq_true hF] at C
        clear hF hxk h7 h8 hU hU0 ba bc
        gi_wp2_with fail
        refine ⟨trivial, rfl, CallsIn.inRound ll ((callsIn_wide.2 (C _ hU0')).mono ?_)⟩
        rintro e w1 ⟨rfl, b1⟩
        have hU1 := hU0'.on b1
        have h91 := le_on h9 b1
        have cx1 : w1.cell? ⟨g19, 0, none⟩ = some (.slice (some ⟨g16, 0, none⟩) k d) := hU1.x.cell 0
        have c90 : w1.cell? ⟨W.heap.size, 0, none⟩ = some (.int .i64 (a.n : Int)) := h91.cell 0
        have c91 : w1.cell? ⟨W.heap.size, 1, none⟩ = some (.int .i64 (c.n : Int)) := h91.cell 1
        have kq1 := (b1.block _ (by omega)).trans kp1
        have kq2 := (b1.block _ lt1).trans kp2
        have lt2 : w24.heap.size + 1 < w1.heap.size := Nat.lt_of_lt_of_le lt1 b1.size
        have kr1 := ((le_al w1 (.cells #[.int .i64 (a.n : Int), .int .i64 (c.n : Int)] 49)).block _ (by omega)).trans kq1
        have kr2 := ((le_al w1 (.cells #[.int .i64 (a.n : Int), .int .i64 (c.n : Int)] 49)).block _ lt2).trans kq2
        have hU2 := hU1.on (le_al w1 (.cells #[.int .i64 (a.n : Int), .int .i64 (c.n : Int)] 49))
        obtain ⟨i0, hi0, hz0, hz1, hz2⟩ := parts_of Try.infoBc
        obtain ⟨w4, hrun, hsg, hgr⟩ := run_append_room_seg (P := Try.prog) (w1.alloc (.cells #[.int .i64 (a.n : Int), .int .i64 (c.n : Int)] 49)) 27 27 49 i0 2 Try.underlying27 hi0 hz1 hU2.m.seg (As := some ⟨w1.heap.size, 0, none⟩) (m := 1) 1 (news := rc dcl [⟨(a.n : Int), (c.n : Int)⟩]) (Src.box (CB.new _ _ _) rfl) (rc_one 2 _) (by decide) (by omega)
        have hx4 := hU2.x4 hgr
        have hUn := hU2.next HX.out hsg hgr hne hgm hxb hgw hxw
        have nb1 : Book W w24.heap.size := bk1
        have hnx1 := CB.noBook hx4.2.1 (Book.same bk1 kr1)
        have hnx2 := CB.noBook hx4.2.1 (Book.same bk2 kr2)
        have hng1 := Seg.noBook hU2.m.seg (Book.same bk1 kr1)
        have hng2 := Seg.noBook hU2.m.seg (Book.same bk2 kr2)
        have k2 : Keep2 w24.heap.size W w4 := Keep2.grown (W' := w1.alloc (.cells #[.int .i64 (a.n : Int), .int .i64 (c.n : Int)] 49)) ⟨kr1, kr2⟩ hgr (by simp; omega) hng1 hng2
        have cx4 : w4.cell? ⟨g19, 0, none⟩ = some (.slice (some ⟨g16, 0, none⟩) k d) := hx4.1.cell 0
        have fx4 : w4.frozen? ⟨g19, 0, none⟩ = false := hx4.1.frozen 0
        have k3 := Keep2.put k2 (p := ⟨g19, 0, none⟩) hnx1 hnx2 (.slice (some ⟨g16, 0, none⟩) (k + 1) d)
        clear cx c7 c8 hsg hgr hx4 hU2 hU1 hU0' h9 h91 C kp1 kp2 kq1 kq2 kr1 kr2
        gi_wp2_with (gi_at_builtin; refine wpListIn_apprun _ rfl (.tmp 44) (.tmp 46) 27 27 rfl _ _ _ w4 rfl rfl hrun ?_)
        exact ⟨k3, HN, hUn⟩
      · have HN := Lib.hid (show dG (Dk.bl s) = none by rw [HG.out, if_neg (not_right hxk hF)])
        simp only [decide_eq_false hF] at C
        clear hF hxk h7 h8 hU hU0 ba bc
        gi_wp2_with fail
        refine ⟨trivial, rfl, CallsIn.inRound ll ((callsIn_wide.2 (C _ hU0')).mono ?_)⟩
        rintro e w1 ⟨rfl, b1⟩
        have hU1 := hU0'.on b1
        have kq1 := (b1.block _ (by omega)).trans kp1
        have kq2 := (b1.block _ lt1).trans kp2
        have hr1 : w1.cell? ⟨g1, 0, none⟩ = some (.slice none 0 0) := hU1.r.cell 0
        have fr1 : w1.frozen? ⟨g1, 0, none⟩ = false := hU1.r.frozen 0
        have nre := CB.ne_ hU1.r hU1.e (by decide)
        have he1 : (w1.setCell ⟨g1, 0, none⟩ (.slice none 0 0)).cell? ⟨g4, 0, none⟩ = some (.int .i64 0) := (hU1.e.far (p := ⟨g1, 0, none⟩) (Ne.symm nre) _).cell 0
        have fe1 : (w1.setCell ⟨g1, 0, none⟩ (.slice none 0 0)).frozen? ⟨g4, 0, none⟩ = false := (hU1.e.far (p := ⟨g1, 0, none⟩) (Ne.symm nre) _).frozen 0
        have k2 : Keep2 w24.heap.size W w1 := ⟨kq1, kq2⟩
        have k3 := Keep2.put k2 (p := ⟨g1, 0, none⟩) (CB.noBook hU1.r (Book.same bk1 kq1)) (CB.noBook hU1.r (Book.same bk2 kq2)) (.slice none 0 0)
        have k4 := Keep2.put k3 (p := ⟨g4, 0, none⟩) (CB.noBook hU1.e (Book.same bk1 kq1)) (CB.noBook hU1.e (Book.same bk2 kq2)) (.int .i64 4)
        have hrr := ((hU1.r.put 0 (.slice none 0 0)).far (p := ⟨g4, 0, none⟩) nre (.int .i64 4))
        have hee := ((hU1.e.far (p := ⟨g1, 0, none⟩) (Ne.symm nre) (.slice none 0 0)).put 0 (.int .i64 4))
        have hlw := (hU1.low.setCell (p := ⟨g1, 0, none⟩) hrw (.slice none 0 0)).setCell (p := ⟨g4, 0, none⟩) hew (.int .i64 4)
        clear cx c7 c8 hU1 hU0' h9 C kp1 kp2 kq1 kq2 k2 k3
        gi_wp2_with fail
        exact ⟨k4, rfl, HN, hrr, hee, hlw⟩
    case done =>
      rintro W ⟨hR, hU⟩ hK
      have HR := Lib.hid (show dG (Dk.bl s) = some (blG l) by rw [HG.out, if_pos (by have := hR.out; rwa [List.take_of_length_le (by rw [HBL.out]; exact Nat.le_refl _)] at this)])
      have cx : W.cell? ⟨g19, 0, none⟩ = some (.slice (some ⟨g16, 0, none⟩) d d) := hU.x.cell 0
      have hr1 : W.cell? ⟨g1, 0, none⟩ = some (.slice none 0 0) := hU.r.cell 0
      have fr1 : W.frozen? ⟨g1, 0, none⟩ = false := hU.r.frozen 0
      have nre := CB.ne_ hU.r hU.e (by decide)
      have he1 : (W.setCell ⟨g1, 0, none⟩ (.slice (some ⟨g16, 0, none⟩) d d)).cell? ⟨g4, 0, none⟩ = some (.int .i64 0) := (hU.e.far (p := ⟨g1, 0, none⟩) (Ne.symm nre) _).cell 0
      have fe1 : (W.setCell ⟨g1, 0, none⟩ (.slice (some ⟨g16, 0, none⟩) d d)).frozen? ⟨g4, 0, none⟩ = false := (hU.e.far (p := ⟨g1, 0, none⟩) (Ne.symm nre) _).frozen 0
      have hrr := ((hU.r.put 0 (.slice (some ⟨g16, 0, none⟩) d d)).far (p := ⟨g4, 0, none⟩) nre (.int .i64 0))
      have hee := ((hU.e.far (p := ⟨g1, 0, none⟩) (Ne.symm nre) (.slice (some ⟨g16, 0, none⟩) d d)).put 0 (.int .i64 0))
      have hlw := (hU.low.setCell (p := ⟨g1, 0, none⟩) hrw (.slice (some ⟨g16, 0, none⟩) d d)).setCell (p := ⟨g4, 0, none⟩) hew (.int .i64 0)
      have hmm : Seg ((W.setCell ⟨g1, 0, none⟩ (.slice (some ⟨g16, 0, none⟩) d d)).setCell ⟨g4, 0, none⟩ (.int .i64 0)) 49 2 (some ⟨g16, 0, none⟩) d d (rc dcl (blG l)) (some g16) := by
        have h1 := hU.m.seg
        rw [List.take_of_length_le (by rw [HBL.out]; exact Nat.le_refl _)] at h1
        have h2 := h1.far (p := ⟨g1, 0, none⟩) (h1.ne_ hU.r (by decide)) (.slice (some ⟨g16, 0, none⟩) d d)
        have e2 := hU.e.far (p := ⟨g1, 0, none⟩) (Ne.symm nre) (.slice (some ⟨g16, 0, none⟩) d d)
        exact h2.far (p := ⟨g4, 0, none⟩) (h2.ne_ e2 (by decide)) (.int .i64 0)
      have hbk : Book W w24.heap.size := .inr ⟨_, hK⟩
      have hK3 : ((W.setCell ⟨g1, 0, none⟩ (.slice (some ⟨g16, 0, none⟩) d d)).setCell ⟨g4, 0, none⟩ (.int .i64 0)).heap[w24.heap.size]? = some (.deferred (some [])) := ((Below.heap_setCell _ ⟨g4, 0, none⟩ _ _ (hU.e.noBook hbk).symm).trans (Below.heap_setCell _ ⟨g1, 0, none⟩ _ _ (hU.r.noBook hbk).symm)).trans hK
      obtain ⟨W3, hW3⟩ : ∃ V, (W.setCell ⟨g1, 0, none⟩ (.slice (some ⟨g16, 0, none⟩) d d)).setCell ⟨g4, 0, none⟩ (.int .i64 0) = V := ⟨_, rfl⟩
      rw [hW3] at hrr hee hlw hmm hK3
      have HW3 := Lib.hid hW3
      clear hU hK hW3 hbk
      go_wp2_with fail
      rw [HW3.out]
      refine ⟨by simp, .inl ⟨_, _, rfl, run_takeDeferred hK3, ?_⟩⟩
      have hbk3 : Book W3 w24.heap.size := .inr ⟨_, hK3⟩
      have z2 := (hrr.putBook hbk3 (.deferred none)).cell 0
      have z3 := (hee.putBook hbk3 (.deferred none)).cell 0
      simp only [hdA, nuA, Array.getElem?_setIfInBounds, List.size_toArray, List.length_cons, List.length_nil, if_true, Nat.zero_add, Nat.zero_lt_one] at z2 z3
      exact leaves_nil ⟨.tuple #[.slice (some ⟨g16, 0, none⟩) d d, .int .i64 0], by simp [results, Try.results13, go_sem, z2, z3], UPost.yes HR.out ⟨some g16, hmm.putBook hbk3 (.deferred none)⟩ (below_putObj hlw hw0 _)⟩
    case stop =>
      rintro c W ⟨rfl, hN, hr, he, hb⟩ hK
      gi_wp2_with fail
      refine ⟨by simp, .inl ⟨_, _, rfl, run_takeDeferred hK, ?_⟩⟩
      have hbk3 : Book W w24.heap.size := .inr ⟨_, hK⟩
      have z2 := (hr.putBook hbk3 (.deferred none)).cell 0
      have z3 := (he.putBook hbk3 (.deferred none)).cell 0
      simp only [hdA, nuA, List.getElem?_toArray, List.getElem?_cons_zero] at z2 z3
      exact leaves_nil ⟨.tuple #[.slice none 0 0, .int .i64 4], by simp [results, Try.results13, go_sem, z2, z3], UPost.no hN.out (below_putObj hb hw0 _)⟩
end Go.Proofs.Ytfdboahcaiolgaa
