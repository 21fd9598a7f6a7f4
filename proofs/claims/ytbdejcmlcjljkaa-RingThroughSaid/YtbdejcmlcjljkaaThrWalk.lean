/-
  The walk of the law RingThrough: it returns true and leaves all memory that was there. Conditions: the slice reads as a row of numbers, the stop is a byte.
-/
import Derived.Test.YtbdejcmlcjljkaaThrA
namespace Go.Proofs.Ytbdejcmlcjljkaa
open Go.RowKit Go.Shelf
attribute [local go_sem] Oper.semAt_some

/-- Behind k rounds of the loop that fills the queue. -/
structure PL (w : World) (s rb b : Nat) (a : Option Addr) (cap : Nat) (xs : List Int) (stop : Int) (k : Nat) (W : World) : Prop where
  cl : CB W s 27 #[.slice a xs.length cap]
  cs : CB W (s + 1) 5 #[.int .u8 stop]
  cr : CB W (s + 1 + 1) 4 #[.bool false]
  cp : CB W rb 24 #[.pointer (some ⟨b, 0, none⟩)]
  low : Below s w W
  rest : ∃ G, RG W b 10000 G (xs.take k) ∧ ∀ g, G = some g → s ≤ g

theorem PL.step {w : World} {s rb b : Nat} {a : Option Addr} {cap : Nat} {xs : List Int} {stop : Int} {k : Nat} {W W' : World} (h : PL w s rb b a cap xs stop k W) (hs : s ≤ W.heap.size) (hsb : s ≤ b) {G G' : Option Nat} (r : RG W b 10000 G (xs.take k)) (e : ∀ g, G = some g → s ≤ g)
    {x : Int} (hx : xs[k]? = some x) (k1 : RG W' b 10000 G' (xs.take k ++ [x])) (k2 : Only W W' b G) (k3 : Moved W G G') : PL w s rb b a cap xs stop (k + 1) W' := by
  obtain ⟨h1, h2, h3, h4, h5, _⟩ := h
  have keep : ∀ {g : Nat} {t : TypeId} {cs : Array Value}, CB W g t cs → t ≠ 2 → t ≠ 74 → CB W' g t cs := fun hc ht ht2 => k2.cb hc (r.neb hc ht2) (r.ne hc ht)
  obtain ⟨hlt, he⟩ := List.getElem?_eq_some_iff.1 hx
  refine ⟨keep h1 (by decide) (by decide), keep h2 (by decide) (by decide), keep h3 (by decide) (by decide), keep h4 (by decide) (by decide), h5.trans (k2.below hs hsb e), G', by rw [List.take_succ_eq_append_getElem hlt, he]; exact k1, ?_⟩
  intro g hg
  rcases k3 with e' | ⟨g', e', hg'⟩
  · exact e g (by rw [← e']; exact hg)
  · rw [e'] at hg
    cases hg
    omega

set_option maxRecDepth 100000 in
set_option maxHeartbeats 2000000 in
theorem thr_walk (a : Option Addr) (cap : Nat) (xs : List Int) (stop : Int) (hs0 : 0 ≤ stop) (hs1 : stop ≤ 255) (w : World) (h0 : Came1 .i64 w a xs) (hm0 : xs.length ≤ maxLen) :
    Calls Try.prog 5 #[.slice a xs.length cap, .int .u8 stop] w fun e w' => e = .returned (.bool true) ∧ Below w.heap.size w w' := by
  unfold maxLen at hm0
  obtain ⟨w3, hw3⟩ : ∃ w3, w3 = ((w.alloc (.cells #[.slice a xs.length cap] 27)).alloc (.cells #[.int .u8 stop] 5)).alloc (.cells #[.bool false] 4) := ⟨_, rfl⟩
  have k1 : CB w3 w.heap.size 27 #[.slice a xs.length cap] := by rw [hw3]; exact ((CB.new _ _ _).alloc _).alloc _
  have k2 : CB w3 (w.heap.size + 1) 5 #[.int .u8 stop] := by
    rw [hw3]
    have := (CB.new (w.alloc (.cells #[.slice a xs.length cap] 27)) 5 #[.int .u8 stop]).alloc (.cells #[.bool false] 4)
    simpa using this
  have k3 : CB w3 (w.heap.size + 1 + 1) 4 #[.bool false] := by
    rw [hw3]
    have := CB.new ((w.alloc (.cells #[.slice a xs.length cap] 27)).alloc (.cells #[.int .u8 stop] 5)) 4 #[.bool false]
    simpa using this
  have kB : Below w.heap.size w w3 := by rw [hw3]; exact (((Below.refl _ _).alloc (Nat.le_refl _) _).alloc (by simp) _).alloc (by simp; omega) _
  have ks : w3.heap.size = w.heap.size + 3 := by rw [hw3]; simp
  have Hw3 := Lib.hid hw3
  clear hw3
  have Hks := Lib.hid ks
  clear ks
  refine (callsIn_wide (n := 0)).1 ?_
  refine callsIn_of_wp_marks Try.func5 rfl trivial ?_ rfl
  simp only [Try.ntmps5, List.size_toArray, List.length_cons, List.length_nil, Nat.reduceAdd, Nat.reduceSub, Array.replicate_succ, Array.replicate_zero, List.push_toArray, List.append_toArray, List.nil_append, List.cons_append]
  gi_wp2_with fail
  rw [← Hw3.out]
  refine ⟨trivial, rfl, (callsIn_wide.2 (alive_any w3)).mono ?_⟩
  rintro e w4 ⟨rfl, hb4⟩
  rw [Hks.out] at hb4
  have j1 := k1.same (hb4.block _ (by omega))
  have j2 := k2.same (hb4.block _ (by omega))
  have j3 := k3.same (hb4.block _ (by omega))
  have jB : Below w.heap.size w w4 := kB.trans (hb4.mono (by omega))
  have jz : w.heap.size + 3 ≤ w4.heap.size := by have := hb4.size; rw [Hks.out] at this; exact this
  clear k1 k2 k3 kB hb4 Hw3 Hks
  gi_wp2_with fail
  refine ⟨trivial, rfl, (callsIn_wide.2 (new_yes 10000 w4 (by omega) (by omega))).mono ?_⟩
  rintro e w5 ⟨rfl, hr5, hw5⟩
  have l1 : CB w5 w.heap.size 27 #[.slice a xs.length cap] := by rw [hw5]; exact j1.alloc _
  have l2 : CB w5 (w.heap.size + 1) 5 #[.int .u8 stop] := by rw [hw5]; exact j2.alloc _
  have l3 : CB w5 (w.heap.size + 1 + 1) 4 #[.bool false] := by rw [hw5]; exact j3.alloc _
  have lB : Below w.heap.size w w5 := by rw [hw5]; exact jB.alloc (by omega) _
  have hbb : w.heap.size ≤ w4.heap.size := by omega
  have lz : w.heap.size + 3 ≤ w5.heap.size := by rw [hw5]; simp; omega
  clear hw5 j1 j2 j3 jB jz
  generalize w4.heap.size = b at *
  have m1 := l1.alloc (.cells #[.pointer (some ⟨b, 0, none⟩)] 24)
  have m2 := l2.alloc (.cells #[.pointer (some ⟨b, 0, none⟩)] 24)
  have m3 := l3.alloc (.cells #[.pointer (some ⟨b, 0, none⟩)] 24)
  have m4 : CB (w5.alloc (.cells #[.pointer (some ⟨b, 0, none⟩)] 24)) w5.heap.size 24 #[.pointer (some ⟨b, 0, none⟩)] := CB.new _ _ _
  have hpl : PL w w.heap.size w5.heap.size b a cap xs stop 0 (w5.alloc (.cells #[.pointer (some ⟨b, 0, none⟩)] 24)) :=
    ⟨m1, m2, m3, m4, lB.alloc (by omega) _, none, by simpa using hr5.alloc _, fun _ hg => by cases hg⟩
  have c1 := m1.cell 0
  have c3 := m3.cell 0
  have f3 := m3.frozen 0
  simp only [List.getElem?_toArray, List.getElem?_cons_zero] at c1 c3
  have w6z : w.heap.size + 3 ≤ (w5.alloc (.cells #[.pointer (some ⟨b, 0, none⟩)] 24)).heap.size := by simp; omega
  by_cases hbig : (500 : Int) < (xs.length : Int)
  · gi_wp2_with fail
    have hc5 := (m3.put 0 (.bool true)).cell 0
    simp only [Array.getElem?_setIfInBounds, List.size_toArray, List.length_cons, List.length_nil, if_true, Nat.zero_add, Nat.zero_lt_one] at hc5
    refine ⟨.bool true, ?_, rfl, hpl.low.setCell (p := ⟨w.heap.size + 1 + 1, 0, none⟩) (by simp; omega) _⟩
    simp [results, Try.results5, go_sem, hc5]
  have hbd : decide ((500 : Int) < (xs.length : Int)) = false := by simp; omega
  gi_wp2_with fail
  have hrb : w.heap.size ≤ w5.heap.size := by omega
  clear c1 c3 f3 m1 m2 m3 m4 l1 l2 l3 lB
  gi_loopw [28] (fun i wr => ∃ k : Nat, k ≤ xs.length ∧ i = .int .i64 k ∧ PL w w.heap.size w5.heap.size b a cap xs stop k wr ∧ w5.heap.size < wr.heap.size) (fun i _ => xs.length - (intOf i).toNat)
  case atStart => exact ⟨0, by omega, rfl, hpl, by simp⟩
  case round =>
    clear hpl hr5
    obtain ⟨k, hk, rfl, hpl, hsz⟩ := hrel
    obtain ⟨G, hrg, heg⟩ := hpl.rest
    have c1 := hpl.cl.cell 0
    have c4 := hpl.cp.cell 0
    simp only [List.getElem?_toArray, List.getElem?_cons_zero] at c1 c4
    by_cases hlt : k < xs.length
    · obtain ⟨ba, oa, x, rfl, hx, hc⟩ := h0.at_ hpl.low hlt
      have hl1 : (xs.take k).length = k := by rw [List.length_take]; omega
      have hl2 : ((xs.take k).length : Int) < 10000 := by omega
      have hl3 : (xs.take k).length ≤ 10000 := by omega
      clear hl1
      gi_wp2_with fail
      refine ⟨trivial, rfl, (callsIn_wide.2 (push_ok b 10000 G (xs.take k) x wr hrg (by omega) hl2 hl3)).mono ?_⟩
      rintro e w7 ⟨rfl, G', q1, q2, q3⟩
      have hnext := hpl.step (by omega) hbb hrg heg hx.out q1 q2 q3
      have hs7 := q2.size
      clear q1 q2 q3 hpl hrg heg hc c1 c4 hl2 hl3
      gi_wp2_with fail
      go_roundw
      case rel => exact ⟨k + 1, by omega, by go_num, hnext, by omega⟩
      case measure => simp [intOf]; omega
    · obtain rfl : k = xs.length := by omega
      rw [List.take_length] at hrg
      gi_wp2_with fail
      refine ⟨trivial, rfl, (callsIn_wide.2 (all_ok b 10000 G xs wr hrg (by omega) (by omega))).mono ?_⟩
      rintro e wA ⟨A, c, Gn, rfl, hsg, hGn, hBA⟩
      have hszA := hBA.size
      obtain ⟨h1, h2, h3, h4, h5, _⟩ := hpl
      have hrgA := hrg.below hBA hrg.lt.1 hrg.lt.2
      have hltG := hrg.lt.2
      have g1 := h1.same (hBA.block _ h1.lt)
      have g2 := h2.same (hBA.block _ h2.lt)
      have g3 := h3.same (hBA.block _ h3.lt)
      have g4 := h4.same (hBA.block _ h4.lt)
      have g5 : Below w.heap.size w wA := h5.trans (hBA.mono (by omega))
      have hTh : Th w w.heap.size w5.heap.size wA.heap.size b a A cap c xs stop Gn 0 (wA.alloc (.cells #[.slice none 0 0] 27)) :=
        ⟨g1.alloc _, g2.alloc _, g3.alloc _, g4.alloc _, hsg.alloc _, g5.alloc (by omega) _, none, 0, none, G, xs, CB.new _ _ _, by simpa using Seg.nil _ _ _, hrgA.alloc _, rfl,
          (fun g hg e => by have e1 := hGn g hg; have e2 := hltG g e; omega), (fun _ _ e => by cases e), (fun _ e => by cases e), heg, (fun _ e => by cases e)⟩
      have hsb : w.heap.size ≤ wA.heap.size := by omega
      clear h1 h2 h3 h4 h5 hrg hrgA hBA g1 g2 g3 g4 g5 hsg c1 c4 hGn hltG heg
      gi_wp2_with fail
      have hsz6 : (wA.alloc (.cells #[.slice none 0 0] 27)).heap.size = wA.heap.size + 1 := by simp
      refine range_law (gf := 35) (fb := #[.slice A xs.length c]) rfl (enters_of Try.func35 (by kernel_rfl) rfl) (each_iter A c xs Gn (by simp only [maxLen]; omega)) (fun _ => rfl)
        (fun k W => Th w w.heap.size w5.heap.size wA.heap.size b a A cap c xs stop Gn k W ∧ (stop = 0 ∨ (k : Int) < stop))
        (fun cd W => cd = .exit 2 ∧ ∃ k : Nat, k ≤ xs.length ∧ 1 ≤ k ∧ (k : Int) = stop ∧ Th w w.heap.size w5.heap.size wA.heap.size b a A cap c xs stop Gn k W) (fun _ _ hh => hh.1.now) ?hI ?hIx ?h0
        (fun k => { tmps := #[.slice a xs.length cap, .int .u8 stop, .pointer (some ⟨w.heap.size, 0, none⟩), .pointer (some ⟨w.heap.size + 1, 0, none⟩), .pointer (some ⟨w.heap.size + 1 + 1, 0, none⟩), .pointer (some ⟨w5.heap.size, 0, none⟩), undef, u7,
          .func (.func 35) #[.slice A xs.length c] #[], .pointer (some ⟨wA.heap.size, 0, none⟩), .int .i64 (xs[k]?.getD 0), undef, undef, undef, .bool true, .bool false, .pointer (some ⟨b, 0, none⟩), .pointer (some ⟨b, 0, none⟩), .bool false, .bool false,
          .slice a xs.length cap, .int .i64 xs.length, .bool false, .bool false, undef, undef, .slice a xs.length cap, .int .i64 xs.length, .int .i64 xs.length, .bool false, u30, u31, u32, u33, u34, u35, .pointer (some ⟨b, 0, none⟩),
          .func (.func 35) #[.slice A xs.length c] #[], .func (.func 35) #[.slice A xs.length c] #[], .int .i64 (xs[k]?.getD 0), undef, undef, undef, undef, undef, undef, undef, undef, undef, undef, undef, undef, undef, undef, undef, undef, undef, undef, undef, undef, undef, undef, undef, undef, undef, undef, undef, undef, undef, undef, undef, undef, undef, undef, undef, undef, undef, undef, undef, undef, undef, undef, undef, undef, undef, undef], defers := [] }) ?assign ?body ?done ?stop
      case hI =>
        rintro k W o ⟨q1, q2⟩ hbk
        exact ⟨q1.putBook hbk (by simp; omega) _, q2⟩
      case hIx =>
        rintro cd W o ⟨q1, k, q2, q3, q4, q5⟩ hbk
        exact ⟨q1, k, q2, q3, q4, q5.putBook hbk (by simp; omega) _⟩
      case h0 =>
        intro r
        exact ⟨(hTh.alloc (by simp; omega) _).alloc (by simp; omega) _, by omega⟩
      case assign =>
        intro l k W K hK
        gi_wp2
        exact hK
      case body =>
        rintro l k W hk ⟨hth, hst⟩ bk1 bk2
        rw [hsz6] at bk1 bk2 ⊢
        have hx := take_snoc_map hk
        generalize xs[k]?.getD 0 = x at hx ⊢
        have Hx := Lib.hid hx
        obtain ⟨A2, c2, G2, G, ys, r1, r2, r3, r4, d1, d2, d3, e1, e2⟩ := hth.rest
        obtain ⟨i0, hi0, hz0, hz1, hz2⟩ := info_parts Try.infoE
        have cN := r1.cell 0
        simp only [List.getElem?_toArray, List.getElem?_cons_zero] at cN
        have hWs : w.heap.size ≤ W.heap.size := by have := bk1.lt; omega
        have p0 : 0 < 1 := by omega
        have p3 : k + 1 ≤ maxLen := by simp only [maxLen]; omega
        have p4 : (k + 1) * 8 ≤ 140737488355328 := by omega
        clear hx hTh
        gi_wp2_with (gi_at_builtin; refine wpListIn_append_seg _ rfl (.tmp 40) (.tmp 42) _ rfl 2 i0 _ 1 8 Try.underlying27 hi0 hz0 hz1 hz2 rfl p0 rfl (r2.alloc _) ⟨W.heap.size, 0, none⟩ 1 1 [.int .i64 x] rfl rfl (cell_one_new _ _ _) (by simp [Value.oneCell']) p0 p3 p4 ?_)
        intro A3 c3 G3 W1 n1 n2 n3
        obtain ⟨hkp, hth1, hk1⟩ := hth.seen hWs hsb Hx.out r1 r2 r3 r4 d1 d2 d3 e1 e2 n1 n2 n3 bk1 bk2 (by omega)
        have z1 := hkp _ _ _ r1 (by decide)
        have z2 := hkp _ _ _ hth.cl (by decide)
        have z4 := hkp _ _ _ hth.cp (by decide)
        have y1 := z1.cell 0
        have y2 := z1.frozen 0
        have y3 := z2.cell 0
        have y4 := z4.cell 0
        simp only [List.getElem?_toArray, List.getElem?_cons_zero] at y1 y3 y4
        obtain ⟨W2, hW2⟩ : ∃ W2, W2 = W1.setCell ⟨wA.heap.size, 0, none⟩ (.slice A3 (k + 1) c3) := ⟨_, rfl⟩
        rw [← hW2] at hth1 hk1
        have HW2 := Lib.hid hW2
        have hkl : ¬ ((xs.length : Int) < (k : Int) + 1) := by omega
        have hneS : ¬ w.heap.size = wA.heap.size := by omega
        have hneR : ¬ w5.heap.size = wA.heap.size := by omega
        clear hW2 z1 z2 z4 hkp n1 n2 n3 r1 r2 r3 r4 d1 d2 d3 e1 e2 cN hi0 hz0 hz1 hz2 hth
        gi_wp2_with fail
        rw [← HW2.out]
        clear y1 y2 y3 y4 HW2
        obtain ⟨bk3, bk4⟩ := Book.keep bk1 bk2 hk1
        have hW2s : w.heap.size ≤ W2.heap.size := by have := bk3.lt; omega
        obtain ⟨A4, c4, G4, G, ys, r1, r2, r3, r4, d1, d2, d3, e1, e2⟩ := hth1.rest
        obtain ⟨h1, h2, h3, h4, h5, h6, _⟩ := hth1
        obtain ⟨y, ys, rfl⟩ : ∃ y ys', ys = y :: ys' := by
          cases ys with
          | nil => simp at r4; omega
          | cons y ys => exact ⟨y, ys, rfl⟩
        refine ⟨trivial, rfl, CallsIn.inRound l ((callsIn_wide.2 (pop_ok b 10000 G y ys W2 r3 (by omega))).mono ?_)⟩
        rintro e W3 ⟨rfl, q1, q2⟩
        obtain ⟨h1, h2, h3, h4, h5, h6, r1, r2, d1, d3, e1, hk2⟩ := Th.ring h1 h2 h3 h4 h5 h6 hW2s hbb r1 r2 r3 d1 d3 e1 q2 (Moved.refl _ _) bk3 bk4
        obtain ⟨bk5, bk6⟩ := Book.keep bk3 bk4 hk2
        have hW3s : w.heap.size ≤ W3.heap.size := by have := bk5.lt; omega
        have y4 := h4.cell 0
        simp only [List.getElem?_toArray, List.getElem?_cons_zero] at y4
        have hly : ys.length + 1 = xs.length := by simpa using r4
        have hl2 : (ys.length : Int) < 10000 := by omega
        have hl3 : ys.length ≤ 10000 := by omega
        have Hly := Lib.hid hly
        clear hly r3 r4 q2
        gi_wp2_with fail
        refine ⟨trivial, rfl, CallsIn.inRound l ((callsIn_wide.2 (push_ok b 10000 G ys _ W3 q1 (by omega) hl2 hl3)).mono ?_)⟩
        rintro e W4 ⟨rfl, G5, v1, v2, v3⟩
        obtain ⟨h1, h2, h3, h4, h5, h6, r1, r2, d1, d3, e1, hk3⟩ := Th.ring h1 h2 h3 h4 h5 h6 hW3s hbb r1 r2 q1 d1 d3 e1 v2 v3 bk5 bk6
        have hTh4 : Th w w.heap.size w5.heap.size wA.heap.size b a A cap c xs stop Gn (k + 1) W4 := ⟨h1, h2, h3, h4, h5, h6, A4, c4, G4, G5, _, r1, r2, v1, by simpa using Hly.out, d1, d2, d3, e1, e2⟩
        have hkk : Keep2 (wA.heap.size + 1) W W4 := (hk1.trans hk2).trans hk3
        have y5 := r1.cell 0
        have y6 := h2.cell 0
        simp only [List.getElem?_toArray, List.getElem?_cons_zero] at y5 y6
        clear h1 h2 h3 h4 h5 h6 r1 r2 d1 d3 e1 v1 v2 v3 q1 hk1 hk2 hk3 bk1 bk2 bk3 bk4 bk5 bk6 y4 d2 e2
        by_cases hst2 : (k : Int) + 1 = stop
        · have t1 : (((k : Int) + 1) == stop) = true := by rw [beq_iff_eq]; exact hst2
          have Hst2 := Lib.hid hst2
          clear hst2
          gi_wp2_with fail
          exact ⟨hkk, rfl, k + 1, by omega, by omega, by have := Hst2.out; omega, hTh4⟩
        · have t1 : (((k : Int) + 1) == stop) = false := by rw [beq_eq_false_iff_ne]; exact hst2
          have Hst2 := Lib.hid hst2
          clear hst2
          gi_wp2_with fail
          exact ⟨hkk, hTh4, by have := Hst2.out; omega⟩
      case done =>
        rintro W ⟨hth, hst⟩ hK
        rw [hsz6] at hK ⊢
        obtain ⟨A2, c2, G2, G, ys, r1, r2, r3, r4, d1, d2, d3, e1, e2⟩ := hth.rest
        have y1 := r1.cell 0
        have y2 := hth.cl.cell 0
        have y3 := hth.cs.cell 0
        have y4 := hth.cr.cell 0
        have y5 := hth.cr.frozen 0
        simp only [List.getElem?_toArray, List.getElem?_cons_zero] at y1 y2 y3 y4
        clear r1 r3 r4 d1 d2 d3 e1 e2 hTh
        by_cases hst0 : stop = 0
        · subst hst0
          clear hst
          gi_wp2_with fail
          gi_loopw [70] (fun i wr => ∃ j : Nat, j ≤ xs.length ∧ i = .int .i64 j ∧ wr = W) (fun i _ => xs.length - (intOf i).toNat)
          case atStart => exact ⟨0, by omega, rfl, rfl⟩
          case round =>
            obtain ⟨j, hj, rfl, rfl⟩ := hrel
            by_cases hjm : j < xs.length
            · obtain ⟨ba, oa, x, rfl, hx, hc⟩ := h0.at_ hth.low (show j < xs.length by omega)
              obtain ⟨g2, o2, rfl, rfl, hc2⟩ := r2.at_ (j := j) (u := .int .i64 x) (by rw [List.getElem?_take_of_lt (by omega), List.getElem?_map, hx.out]; rfl)
              have hjm' : (j : Int) < ((xs.length : Nat) : Int) := by omega
              clear hx
              gi_wp2_with fail
              go_roundw
              case rel => exact ⟨j + 1, by omega, by go_num, trivial⟩
              case measure => simp [intOf]; omega
            · have hjm' : ¬ (j : Int) < ((xs.length : Nat) : Int) := by omega
              gi_wp2_with fail
              have hbk : Book wr (wA.heap.size + 1) := .inr ⟨_, hK⟩
              have hK3 : (wr.setCell ⟨w.heap.size + 1 + 1, 0, none⟩ (.bool true)).heap[wA.heap.size + 1]? = some (.deferred (some [])) := (Below.heap_setCell _ _ _ _ (hth.cr.noBook hbk).symm).trans hK
              have hc5 := ((hth.cr.put 0 (.bool true)).putBook (.inr ⟨_, hK3⟩) (.deferred none)).cell 0
              simp only [Array.getElem?_setIfInBounds, List.size_toArray, List.length_cons, List.length_nil, if_true, Nat.zero_add, Nat.zero_lt_one] at hc5
              refine ⟨by simp, .inl ⟨_, _, rfl, run_takeDeferred hK3, ?_⟩⟩
              refine ⟨.bool true, ?_, rfl, below_putObj (hth.low.setCell (p := ⟨w.heap.size + 1 + 1, 0, none⟩) (by simp; omega) _) (by omega) _⟩
              simp [results, Try.results5, go_sem, hc5]
        · have hp1 : 0 < stop := by omega
          have hp2 : ¬ stop < (xs.length : Int) := by omega
          clear hst hst0
          gi_wp2_with fail
          gi_loopw [70] (fun i wr => ∃ j : Nat, j ≤ xs.length ∧ i = .int .i64 j ∧ wr = W) (fun i _ => xs.length - (intOf i).toNat)
          case atStart => exact ⟨0, by omega, rfl, rfl⟩
          case round =>
            obtain ⟨j, hj, rfl, rfl⟩ := hrel
            by_cases hjm : j < xs.length
            · obtain ⟨ba, oa, x, rfl, hx, hc⟩ := h0.at_ hth.low (show j < xs.length by omega)
              obtain ⟨g2, o2, rfl, rfl, hc2⟩ := r2.at_ (j := j) (u := .int .i64 x) (by rw [List.getElem?_take_of_lt (by omega), List.getElem?_map, hx.out]; rfl)
              have hjm' : (j : Int) < ((xs.length : Nat) : Int) := by omega
              clear hx
              gi_wp2_with fail
              go_roundw
              case rel => exact ⟨j + 1, by omega, by go_num, trivial⟩
              case measure => simp [intOf]; omega
            · have hjm' : ¬ (j : Int) < ((xs.length : Nat) : Int) := by omega
              gi_wp2_with fail
              have hbk : Book wr (wA.heap.size + 1) := .inr ⟨_, hK⟩
              have hK3 : (wr.setCell ⟨w.heap.size + 1 + 1, 0, none⟩ (.bool true)).heap[wA.heap.size + 1]? = some (.deferred (some [])) := (Below.heap_setCell _ _ _ _ (hth.cr.noBook hbk).symm).trans hK
              have hc5 := ((hth.cr.put 0 (.bool true)).putBook (.inr ⟨_, hK3⟩) (.deferred none)).cell 0
              simp only [Array.getElem?_setIfInBounds, List.size_toArray, List.length_cons, List.length_nil, if_true, Nat.zero_add, Nat.zero_lt_one] at hc5
              refine ⟨by simp, .inl ⟨_, _, rfl, run_takeDeferred hK3, ?_⟩⟩
              refine ⟨.bool true, ?_, rfl, below_putObj (hth.low.setCell (p := ⟨w.heap.size + 1 + 1, 0, none⟩) (by simp; omega) _) (by omega) _⟩
              simp [results, Try.results5, go_sem, hc5]
      case stop =>
        rintro cd W ⟨rfl, m, hm1, hm2, hm3, hth⟩ hK
        rw [hsz6] at hK ⊢
        subst hm3
        obtain ⟨A2, c2, G2, G, ys, r1, r2, r3, r4, d1, d2, d3, e1, e2⟩ := hth.rest
        have y1 := r1.cell 0
        have y2 := hth.cl.cell 0
        have y3 := hth.cs.cell 0
        have y4 := hth.cr.cell 0
        have y5 := hth.cr.frozen 0
        simp only [List.getElem?_toArray, List.getElem?_cons_zero] at y1 y2 y3 y4
        clear r1 r3 r4 d1 d2 d3 e1 e2 hTh
        have hp1 : 0 < (m : Int) := by omega
        by_cases hmn : m < xs.length
        · have hp2 : (m : Int) < (xs.length : Int) := by omega
          gi_wp2_with fail
          gi_loopw [70] (fun i wr => ∃ j : Nat, j ≤ m ∧ i = .int .i64 j ∧ wr = W) (fun i _ => m - (intOf i).toNat)
          case atStart => exact ⟨0, by omega, rfl, rfl⟩
          case round =>
            obtain ⟨j, hj, rfl, rfl⟩ := hrel
            by_cases hjm : j < m
            · obtain ⟨ba, oa, x, rfl, hx, hc⟩ := h0.at_ hth.low (show j < xs.length by omega)
              obtain ⟨g2, o2, rfl, rfl, hc2⟩ := r2.at_ (j := j) (u := .int .i64 x) (by rw [List.getElem?_take_of_lt (by omega), List.getElem?_map, hx.out]; rfl)
              have hjm' : (j : Int) < ((m : Nat) : Int) := by omega
              clear hx
              gi_wp2_with fail
              go_roundw
              case rel => exact ⟨j + 1, by omega, by go_num, trivial⟩
              case measure => simp [intOf]; omega
            · have hjm' : ¬ (j : Int) < ((m : Nat) : Int) := by omega
              gi_wp2_with fail
              have hbk : Book wr (wA.heap.size + 1) := .inr ⟨_, hK⟩
              have hK3 : (wr.setCell ⟨w.heap.size + 1 + 1, 0, none⟩ (.bool true)).heap[wA.heap.size + 1]? = some (.deferred (some [])) := (Below.heap_setCell _ _ _ _ (hth.cr.noBook hbk).symm).trans hK
              have hc5 := ((hth.cr.put 0 (.bool true)).putBook (.inr ⟨_, hK3⟩) (.deferred none)).cell 0
              simp only [Array.getElem?_setIfInBounds, List.size_toArray, List.length_cons, List.length_nil, if_true, Nat.zero_add, Nat.zero_lt_one] at hc5
              refine ⟨by simp, .inl ⟨_, _, rfl, run_takeDeferred hK3, ?_⟩⟩
              refine ⟨.bool true, ?_, rfl, below_putObj (hth.low.setCell (p := ⟨w.heap.size + 1 + 1, 0, none⟩) (by simp; omega) _) (by omega) _⟩
              simp [results, Try.results5, go_sem, hc5]
        · have hp2 : ¬ (m : Int) < (xs.length : Int) := by omega
          obtain rfl : m = xs.length := by omega
          clear hmn
          gi_wp2_with fail
          gi_loopw [70] (fun i wr => ∃ j : Nat, j ≤ xs.length ∧ i = .int .i64 j ∧ wr = W) (fun i _ => xs.length - (intOf i).toNat)
          case atStart => exact ⟨0, by omega, rfl, rfl⟩
          case round =>
            obtain ⟨j, hj, rfl, rfl⟩ := hrel
            by_cases hjm : j < xs.length
            · obtain ⟨ba, oa, x, rfl, hx, hc⟩ := h0.at_ hth.low (show j < xs.length by omega)
              obtain ⟨g2, o2, rfl, rfl, hc2⟩ := r2.at_ (j := j) (u := .int .i64 x) (by rw [List.getElem?_take_of_lt (by omega), List.getElem?_map, hx.out]; rfl)
              have hjm' : (j : Int) < ((xs.length : Nat) : Int) := by omega
              clear hx
              gi_wp2_with fail
              go_roundw
              case rel => exact ⟨j + 1, by omega, by go_num, trivial⟩
              case measure => simp [intOf]; omega
            · have hjm' : ¬ (j : Int) < ((xs.length : Nat) : Int) := by omega
              gi_wp2_with fail
              have hbk : Book wr (wA.heap.size + 1) := .inr ⟨_, hK⟩
              have hK3 : (wr.setCell ⟨w.heap.size + 1 + 1, 0, none⟩ (.bool true)).heap[wA.heap.size + 1]? = some (.deferred (some [])) := (Below.heap_setCell _ _ _ _ (hth.cr.noBook hbk).symm).trans hK
              have hc5 := ((hth.cr.put 0 (.bool true)).putBook (.inr ⟨_, hK3⟩) (.deferred none)).cell 0
              simp only [Array.getElem?_setIfInBounds, List.size_toArray, List.length_cons, List.length_nil, if_true, Nat.zero_add, Nat.zero_lt_one] at hc5
              refine ⟨by simp, .inl ⟨_, _, rfl, run_takeDeferred hK3, ?_⟩⟩
              refine ⟨.bool true, ?_, rfl, below_putObj (hth.low.setCell (p := ⟨w.heap.size + 1 + 1, 0, none⟩) (by simp; omega) _) (by omega) _⟩
              simp [results, Try.results5, go_sem, hc5]

end Go.Proofs.Ytbdejcmlcjljkaa
