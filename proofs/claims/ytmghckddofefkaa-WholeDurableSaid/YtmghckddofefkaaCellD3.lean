/-
  The cells of a table of package cells by rising keys, keys and values uint8, waystation/hand.Side. Condition: the block reads as a map of at most ten thousand keys.
-/
import Derived.Test.YtmghckddofefkaaCellB3
import Derived.Test.YtmghckddofefkaaCellC3
import Derived.Test.YtmghckddofefkaaCellT3
namespace Go.Proofs.Ytmghckddofefkaa.US
open Go.RowKit Go.Shelf Go.Maps
attribute [local go_sem] Oper.semAt_some

theorem Try.infoC : (Try.prog.info? 148).map (fun i => (i.zero, i.size, i.bytes)) = some (some (.agg #[.int .u8 0, .int .u8 (sd0).me, .int .i64 (sd0).l.ep, .int .i64 (sd0).l.st, .int .u8 (sd0).l.to, .string (sd0).cg, .bool (sd0).kp]), 7, 64) := by kernel_rfl

/-- Behind some rounds: the box of the variable, and the row that it has gathered. -/
structure SI (w : World) (bx : Nat) (s : List (Int × Sd)) (W : World) : Prop where
  row : ∃ g off c, CB W bx 115 #[.slice (some ⟨g, off, none⟩) s.length c] ∧ Seg W 148 7 (some ⟨g, off, none⟩) s.length c (cel s) (some g) ∧ w.heap.size ≤ g
  low : Below w.heap.size w W

theorem SI.mur {w : World} {bx : Nat} {s : List (Int × Sd)} {W W' : World} (h : SI w bx s W) {B : Nat} (hm : Mur B W W') (hB : w.heap.size ≤ B) : SI w bx s W' := by
  obtain ⟨⟨g, off, c, h1, h2, h3⟩, h4⟩ := h
  have hcb : ∀ {g : Nat} {t : TypeId} {cs : Array Value}, CB W g t cs → W'.heap[g]? = W.heap[g]? := fun {g} {t} {cs} hc => hm.block _ hc.lt (.inr fun m s sn c e => by
    have h' : W.heap[g]? = some (.cells cs t (0, 0)) := hc
    rw [h'] at e
    cases e)
  refine ⟨⟨g, off, c, h1.same (hcb h1), h2.keep fun g' hg' => ?_, h3⟩, hm.below h4 hB h4.size⟩
  cases hg'
  rcases h2.2.2.2 with ⟨h0, _⟩ | ⟨g', off', cur, _, hg, hc, _⟩
  · cases h0
  · cases hg
    exact hcb hc

theorem seg_some {w : World} {e : TypeId} {size : Nat} {A : Option Addr} {n c : Nat} {xs : List Value} {G : Option Nat} (h : Seg w e size A n c xs G) (hn : 0 < n) : ∃ g off, A = some ⟨g, off, none⟩ ∧ G = some g := by
  rcases h.2.2.2 with ⟨_, h0, _⟩ | ⟨g, off, cur, h1, h2, _⟩
  · have := h.2.1
    omega
  · exact ⟨g, off, h1, h2⟩

theorem seg_of_make {w : World} {base g cap : Nat} {e : TypeId} {size : Nat} (h : w.ownsRow base e size (.slice (some ⟨g, 0, none⟩) 0 cap) 0 []) : Seg w e size (some ⟨g, 0, none⟩) 0 cap [] (some g) := by
  rcases h.2 with ⟨h0, _⟩ | ⟨g', cap', cur, hv, hb, hg, hc, hx, hs, ht⟩
  · cases h0
  · cases hv
    exact ⟨by simp, hc, hx, .inr ⟨g, 0, cur, rfl, rfl, hg, by omega, fun j u hu => by simp at hu⟩⟩

theorem cel_snoc (s : List (Int × Sd)) (k : Int) (v : Sd) : cel s ++ [.int .u8 k, .int .u8 (v).me, .int .i64 (v).l.ep, .int .i64 (v).l.st, .int .u8 (v).l.to, .string (v).cg, .bool (v).kp] = cel (s ++ [(k, v)]) := by
  simp [cel, enc]

theorem seg_iter {W : World} {e : TypeId} {size : Nat} {A : Option Addr} {n c : Nat} {xs : List Value} {G : Option Nat} (h : Seg W e size A n c xs G) : ∀ g, G = some g → ∀ m s sn c, W.heap[g]? ≠ some (.mapIter m s sn c) := by
  rintro g rfl m s sn c' e
  rcases h.2.2.2 with ⟨_, _, h0⟩ | ⟨g', off', cur, _, hg, hc, _⟩
  · cases h0
  · cases hg
    have h' : W.heap[g]? = some (.cells cur _ (0, 0)) := hc
    rw [h'] at e
    cases e

set_option maxRecDepth 100000 in
set_option maxHeartbeats 1000000 in
theorem sorted_c (w : World) (b : Nat) (L : List (Int × Sd)) (h : MP w b L) (hm : L.length ≤ 10000) :
    Calls Try.prog 59 #[.map (some b)] w fun e w' => ∃ A c G, e = .returned (.slice A L.length c) ∧ Seg w' 148 7 A L.length c (cel L) G ∧ (∀ g, G = some g → w.heap.size ≤ g) ∧ Below w.heap.size w w' := by
  have hlen := h.len
  have hlt := h.lt
  obtain ⟨i0, hi0, hz0, hz1, hz2⟩ := info_parts Try.infoC
  refine (callsIn_wide (n := 0)).1 ?_
  refine callsIn_of_wp_marks Try.func59 rfl trivial ?_ rfl
  simp only [Try.ntmps59, List.size_toArray, List.length_cons, List.length_nil, Nat.reduceAdd, Nat.reduceSub, Array.replicate_succ, Array.replicate_zero, List.push_toArray, List.append_toArray, List.nil_append, List.cons_append]
  gi_wp2_with (gi_at_make; refine wpListIn_make_own _ rfl _ _ 115 rfl w.heap.size 148 i0 (.agg #[.int .u8 0, .int .u8 (sd0).me, .int .i64 (sd0).l.ep, .int .i64 (sd0).l.st, .int .u8 (sd0).l.to, .string (sd0).cg, .bool (sd0).kp]) 7 Try.underlying115 hi0 hz0 hz1 _ _ _ L.length rfl rfl rfl (by rw [hz2]; omega) (by simp only [maxLen]; omega) (Nat.le_refl _) ?_; intro w1 hrow1 hg1)
  have hs1 := seg_of_make hrow1
  have hsz1 := hg1.size
  have hB1 : Below w.heap.size w w1 := (Below.refl _ _).grown hg1 (Nat.le_refl _) (fun j hj => by cases hj)
  have hsz : (w1.alloc (.cells #[.slice (some ⟨w.heap.size, 0, none⟩) 0 L.length] 115)).heap.size = w1.heap.size + 1 := by simp
  have hN0 : SI w w1.heap.size [] (w1.alloc (.cells #[.slice (some ⟨w.heap.size, 0, none⟩) 0 L.length] 115)) :=
    ⟨⟨w.heap.size, 0, L.length, CB.new w1 _ _, hs1.alloc _, Nat.le_refl _⟩, hB1.alloc hsz1 _⟩
  have HN0 := Lib.hid hN0
  have Hsz := Lib.hid hsz
  clear hsz hN0 hs1 hB1 hrow1 hg1
  refine range_law_mb (gf := 78) (fb := #[.map (some b)]) rfl (enters_of Try.func78 (by kernel_rfl) rfl) (each_iter w b L h) (fun _ => rfl)
    (SI w w1.heap.size) ?need ?hI ?hM ?h0
    (fun p => .cells #[.int .u8 (p.2).me, .int .i64 (p.2).l.ep, .int .i64 (p.2).l.st, .int .u8 (p.2).l.to, .string (p.2).cg, .bool (p.2).kp] 31) (fun _ => ⟨_, _, _, rfl⟩)
    (fun p n => { tmps := #[.map (some b), undef, .slice none 0 0, .pointer (some ⟨w1.heap.size, 0, none⟩), .int .u8 p.1, .pointer (some ⟨n, 0, none⟩), .map (some b), .int .i64 L.length, .slice (some ⟨w.heap.size, 0, none⟩) 0 L.length, .map (some b), .func (.func 78) #[.map (some b)] #[], .int .u8 p.1, (Value.agg #[.int .u8 (p.2).me, .int .i64 (p.2).l.ep, .int .i64 (p.2).l.st, .int .u8 (p.2).l.to, .string (p.2).cg, .bool (p.2).kp]), undef, undef, undef, undef, undef, undef, undef, undef, undef], defers := [] }) ?assign ?body ?done
  case need => exact fun s W hi => hi.low.block b hlt
  case hI =>
    intro s W o hi hbk
    rw [Hsz.out] at hbk ⊢
    obtain ⟨⟨g, off, c, q1, q2, q3⟩, q4⟩ := hi
    exact ⟨⟨g, off, c, q1.putBook hbk _, q2.putBook hbk _, q3⟩, below_putObj q4 (by omega) _⟩
  case hM => exact fun s W W' hi hmu => hi.mur hmu (by rw [Hsz.out]; omega)
  case h0 =>
    intro r
    obtain ⟨⟨g, off, c, q1, q2, q3⟩, q4⟩ := HN0.out
    exact ⟨⟨g, off, c, (q1.alloc _).alloc _, (q2.alloc _).alloc _, q3⟩, (q4.alloc (by rw [Hsz.out]; omega) _).alloc (by rw [World.size_alloc, Hsz.out]; omega) _⟩
  case assign =>
    intro l p W K hK
    gi_wp2
    exact hK
  case body =>
    rintro l s ⟨k, v⟩ W n hap hsub ⟨⟨g, off, c, q1, q2, q3⟩, q4⟩ bk1 bk2 hn hnl
    have cbn : CB W n 31 #[.int .u8 (v).me, .int .i64 (v).l.ep, .int .i64 (v).l.st, .int .u8 (v).l.to, .string (v).cg, .bool (v).kp] := hn
    have b0 := cbn.cell 0
    have b1 := cbn.cell 1
    have b2 := cbn.cell 2
    have b3 := cbn.cell 3
    have b4 := cbn.cell 4
    have b5 := cbn.cell 5
    simp only [List.getElem?_toArray, List.getElem?_cons_zero, List.getElem?_cons_succ] at b0 b1 b2 b3 b4 b5
    rw [Hsz.out] at bk1 bk2 ⊢
    have hln : s.length + 1 ≤ 10000 := by
      have := apart_length hap (L := L) hsub
      simp at this
      omega
    have cN := q1.cell 0
    simp only [List.getElem?_toArray, List.getElem?_cons_zero] at cN
    have hlt2 := bk2.lt
    have hW := q4.size
    have Hsub := Lib.hid hsub
    clear hlen hsub HN0 Hsz cbn hn hnl
    gi_wp2_with (gi_at_builtin; refine wpListIn_append_seg _ rfl (.tmp 13) (.tmp 17) _ rfl 148 i0 _ 7 64 Try.underlying115 hi0 hz0 hz1 hz2 rfl (by omega) rfl (q2.alloc _) ⟨W.heap.size, 0, none⟩ 1 1 [.int .u8 k, .int .u8 (v).me, .int .i64 (v).l.ep, .int .i64 (v).l.st, .int .u8 (v).l.to, .string (v).cg, .bool (v).kp] rfl rfl ?c1 ?c2 (by omega) ?c3 ?c4 ?_)
    case c1 =>
      intro j u hj
      match j, hj with
      | 0, hj => simp at hj; subst hj; exact (CB.new W _ #[.int .u8 k, .int .u8 (v).me, .int .i64 (v).l.ep, .int .i64 (v).l.st, .int .u8 (v).l.to, .string (v).cg, .bool (v).kp]).cell 0
      | 1, hj => simp at hj; subst hj; exact (CB.new W _ #[.int .u8 k, .int .u8 (v).me, .int .i64 (v).l.ep, .int .i64 (v).l.st, .int .u8 (v).l.to, .string (v).cg, .bool (v).kp]).cell 1
      | 2, hj => simp at hj; subst hj; exact (CB.new W _ #[.int .u8 k, .int .u8 (v).me, .int .i64 (v).l.ep, .int .i64 (v).l.st, .int .u8 (v).l.to, .string (v).cg, .bool (v).kp]).cell 2
      | 3, hj => simp at hj; subst hj; exact (CB.new W _ #[.int .u8 k, .int .u8 (v).me, .int .i64 (v).l.ep, .int .i64 (v).l.st, .int .u8 (v).l.to, .string (v).cg, .bool (v).kp]).cell 3
      | 4, hj => simp at hj; subst hj; exact (CB.new W _ #[.int .u8 k, .int .u8 (v).me, .int .i64 (v).l.ep, .int .i64 (v).l.st, .int .u8 (v).l.to, .string (v).cg, .bool (v).kp]).cell 4
      | 5, hj => simp at hj; subst hj; exact (CB.new W _ #[.int .u8 k, .int .u8 (v).me, .int .i64 (v).l.ep, .int .i64 (v).l.st, .int .u8 (v).l.to, .string (v).cg, .bool (v).kp]).cell 5
      | 6, hj => simp at hj; subst hj; exact (CB.new W _ #[.int .u8 k, .int .u8 (v).me, .int .i64 (v).l.ep, .int .i64 (v).l.st, .int .u8 (v).l.to, .string (v).cg, .bool (v).kp]).cell 6
    case c2 => intro u hu; simp at hu; rcases hu with rfl | rfl | rfl | rfl | rfl | rfl | rfl <;> rfl
    case c3 => simp only [maxLen]; omega
    case c4 => omega
    intro A1 c1 G1 w2 hseg hgr hmv
    rw [cel_snoc] at hseg
    have hne1 := q2.ne_ q1 (by decide)
    have hb1 : CB w2 w1.heap.size 115 #[.slice (some ⟨g, off, none⟩) s.length c] := (q1.alloc _).same (hgr.block _ (q1.alloc _).lt (fun e => hne1 e.symm))
    have hne2 := hseg.ne_ hb1 (by decide)
    have hk2 : Keep2 (w1.heap.size + 1) W w2 := ((Keep2.refl _ W).alloc hlt2 _).grown hgr (by simp; omega) (q2.noBook bk1) (q2.noBook bk2)
    have hB1 : Below w.heap.size w w2 := (q4.alloc q4.size _).grown hgr (by simp; omega) (fun j hj => by cases hj; exact q3)
    have hki : KI W w2 := ((KI.refl W).alloc _).grown hgr (seg_iter (q2.alloc _))
    obtain ⟨g1, off1, rfl, rfl⟩ := seg_some hseg (by omega)
    have hG1 : w.heap.size ≤ g1 := by
      rcases hmv with e | ⟨g', e, hg'⟩
      · cases e; exact q3
      · cases e
        simp at hg'
        omega
    have d1 := hb1.cell 0
    have d2 := hb1.frozen 0
    simp only [List.getElem?_toArray, List.getElem?_cons_zero] at d1
    have hend : RoundEndM (w1.heap.size + 1) (SI w w1.heap.size) (s ++ [(k, v)]) W .normal { tmps := #[], defers := [] } (w2.setCell ⟨w1.heap.size, 0, none⟩ (.slice (some ⟨g1, off1, none⟩) (s.length + 1) c1)) := by
      refine ⟨hk2.put (p := ⟨w1.heap.size, 0, none⟩) (by simp) (by simp; omega) _, ⟨⟨g1, off1, c1, ?_, ?_, hG1⟩, hB1.setCell (p := ⟨w1.heap.size, 0, none⟩) (by simpa using hsz1) _⟩, hki.setCell (p := ⟨w1.heap.size, 0, none⟩) (fun m s sn c e => ?_) _⟩
      · have := hb1.put 0 (.slice (some ⟨g1, off1, none⟩) (s.length + 1) c1)
        simpa using this
      · have := hseg.far (p := ⟨w1.heap.size, 0, none⟩) hne2 (.slice (some ⟨g1, off1, none⟩) (s.length + 1) c1)
        simpa using this
      · have h' : w2.heap[w1.heap.size]? = some (.cells _ _ (0, 0)) := hb1
        rw [h'] at e
        cases e
    have Hend := Lib.hid hend
    clear hb1 hseg hgr hmv hne1 hne2 hk2 hB1 hG1 q1 q2 q3 q4 bk1 bk2 hi0 hz0 hz1 hz2 cN hend hki
    gi_wp2
    exact Hend.out
  case done =>
    intro s W hap hpm hi hdf
    obtain ⟨⟨g, off, c, q1, q2, q3⟩, q4⟩ := hi
    have cN := q1.cell 0
    simp only [List.getElem?_toArray, List.getElem?_cons_zero] at cN
    rw [Hsz.out] at hdf ⊢
    have hsort := sort_c W g off c s L hap h.srt hpm hm q2
    have hls : s.length = L.length := hpm.length_eq
    have hne := q2.ne_ q1 (by decide)
    have hnb := q2.noBook (L := w1.heap.size + 1) (.inr ⟨_, hdf⟩)
    have hbl := q1.lt
    have hdl : w1.heap.size + 1 < W.heap.size := (Array.getElem?_eq_some_iff.1 hdf).1
    have Hls := Lib.hid hls
    clear hls hlen HN0 Hsz
    gi_wp2_with fail
    refine ⟨trivial, rfl, (callsIn_wide.2 hsort).mono ?_⟩
    rintro e w2 ⟨rfl, r1, r2⟩
    have d1 : w2.cell? ⟨w1.heap.size, 0, none⟩ = some (.slice (some ⟨g, off, none⟩) s.length c) := ((q1.same (r2.block _ hbl (fun e => hne e.symm))).cell 0)
    have hdf2 : w2.heap[w1.heap.size + 1]? = some (.deferred (some [])) := (r2.block _ hdl (fun e => hnb e.symm)).trans hdf
    have hB2 : Below w.heap.size w w2 := q4.grown r2 q4.size (fun j hj => by cases hj; exact q3)
    clear hsort hdf cN q1 q2 hnb hne
    gi_wp2
    refine ⟨by simp, .inl ⟨_, _, rfl, run_takeDeferred hdf2, ?_⟩⟩
    refine ⟨_, results_tmp rfl _ _ _, some ⟨g, off, none⟩, c, some g, by rw [Hls.out]; rfl, ?_, fun g' hg' => by cases hg'; exact q3, below_putObj hB2 (by omega) _⟩
    rw [← Hls.out]
    exact r1.putBook (.inr ⟨_, hdf2⟩) _
end Go.Proofs.Ytmghckddofefkaa.US
