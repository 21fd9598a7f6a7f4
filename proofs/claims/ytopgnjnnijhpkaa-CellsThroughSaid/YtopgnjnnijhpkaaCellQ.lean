/-
  The walk of the law CellsThrough: it returns true and leaves all memory that was there. Conditions: the slice reads as a row of acts, the stop is a byte.
-/
import Derived.Test.YtopgnjnnijhpkaaCellH
import Derived.Test.YtopgnjnnijhpkaaCellP2
namespace Go.Proofs.Ytopgnjnnijhpkaa
open Go.RowKit Go.Shelf Go.Maps
attribute [local go_sem] Oper.semAt_some

/-- The text x. -/
abbrev tx : ByteArray := { data := #[120] }
abbrev ty : ByteArray := { data := #[121] }

theorem wf_i64 (n : Int) : (Lit.int .i64 (wrap64 n)).wf = true := wrap64_wf n

theorem drop_is (B c : Nat) (room : Int) (L S : List (Int × ByteArray)) (w : World) (h : IS.CE B w c room L S) (k : Int) (hk : (Lit.int .i64 k).wf = true) :
    Calls Try.prog 24 #[.pointer (some ⟨c, 0, none⟩), .int .i64 k] w fun e w' => ∃ er, e = .returned (.int .i64 er) ∧ IS.CE B w' c room (delL L k) S ∧ CF B w w' c := by
  cases hg : getL L k with
  | none =>
    refine (IS.drop_no B c room L S w h k hk hg).mono ?_
    rintro e w' ⟨rfl, rfl⟩
    rw [delL_none hg]
    exact ⟨7, rfl, h, CF.refl _ _ _⟩
  | some v =>
    refine (IS.drop_yes B c room L S w h k v hk hg).mono ?_
    rintro e w' ⟨rfl, h1, h2⟩
    exact ⟨0, rfl, h1, h2⟩

/-- Behind k rounds of the loop that fills the cells. -/
structure PL (w : World) (s cb B c : Nat) (stop : Int) (k : Nat) (L : List (Int × ByteArray)) (W : World) : Prop where
  cs : CB W s 5 #[.int .u8 stop]
  cr : CB W (s + 1) 4 #[.bool false]
  cc : CB W cb 47 #[.pointer (some ⟨c, 0, none⟩)]
  cells : IS.CE B W c 300 L []
  low : Below s w W
  len : L.length ≤ k
  txt : ∀ p ∈ L, p.2 = tx
  wf : ∀ p ∈ L, (Lit.int .i64 p.1).wf = true

section
variable {w : World} {s cb B c : Nat} {stop : Int} {k : Nat} {L : List (Int × ByteArray)} {W W' : World}
theorem PL.alloc (h : PL w s cb B c stop k L W) (hs : s ≤ W.heap.size) (o : Obj) : PL w s cb B c stop k L (W.alloc o) := ⟨h.cs.alloc o, h.cr.alloc o, h.cc.alloc o, h.cells.alloc o, h.low.alloc hs o, h.len, h.txt, h.wf⟩
theorem PL.step (h : PL w s cb B c stop k L W) (hs : s ≤ B) {v : Int} (hv : (Lit.int .i64 v).wf = true) (hc : IS.CE B W' c 300 (putL L v tx) []) (hf : CF B W W' c) : PL w s cb B c stop (k + 1) (putL L v tx) W' := by
  refine ⟨hf.cb h.cs (h.cells.ne h.cs (by decide)), hf.cb h.cr (h.cells.ne h.cr (by decide)), hf.cb h.cc (h.cells.ne h.cc (by decide)), hc, h.low.trans (hf.low.mono hs), ?_, fun p hp => ?_, fun p hp => ?_⟩
  · rw [length_put h.cells.srt]
    have := h.len
    split <;> omega
  · rcases mem_putL.1 hp with rfl | ⟨hp, _⟩
    · rfl
    · exact h.txt p hp
  · rcases mem_putL.1 hp with rfl | ⟨hp, _⟩
    · exact hv
    · exact h.wf p hp
end

/-- Between two rounds of the loop that goes through. -/
structure TH (w : World) (s cb nb B c : Nat) (A : Option Addr) (cp : Nat) (L : List (Int × ByteArray)) (G : Option Nat) (stop : Int) (seen : Nat) (last : Int) (M : List (Int × ByteArray)) (W : World) : Prop where
  cs : CB W s 5 #[.int .u8 stop]
  cr : CB W (s + 1) 4 #[.bool false]
  cc : CB W cb 47 #[.pointer (some ⟨c, 0, none⟩)]
  cn : CB W nb 3 #[.int .i64 L.length]
  ce : CB W (nb + 1) 3 #[.int .i64 seen]
  cl : CB W (nb + 1 + 1) 2 #[.int .i64 last]
  row : Seg W 101 2 A L.length cp (IS.cel L) G
  cells : IS.CE B W c 300 M []
  low : Below s w W

section
variable {w : World} {s cb nb B c : Nat} {A : Option Addr} {cp : Nat} {L : List (Int × ByteArray)} {G : Option Nat} {stop : Int} {seen : Nat} {last : Int} {M M' : List (Int × ByteArray)} {W W' : World}
theorem TH.alloc (h : TH w s cb nb B c A cp L G stop seen last M W) (hs : s ≤ W.heap.size) (o : Obj) : TH w s cb nb B c A cp L G stop seen last M (W.alloc o) :=
  ⟨h.cs.alloc o, h.cr.alloc o, h.cc.alloc o, h.cn.alloc o, h.ce.alloc o, h.cl.alloc o, h.row.alloc o, h.cells.alloc o, h.low.alloc hs o⟩
theorem TH.putBook (h : TH w s cb nb B c A cp L G stop seen last M W) {l : Nat} (hl : Book W l) (hs : s ≤ l) (o : Obj) : TH w s cb nb B c A cp L G stop seen last M (W.putObj l o) :=
  ⟨h.cs.putBook hl o, h.cr.putBook hl o, h.cc.putBook hl o, h.cn.putBook hl o, h.ce.putBook hl o, h.cl.putBook hl o, h.row.putBook hl o, h.cells.putBook hl o, below_putObj h.low hs o⟩
theorem TH.call (h : TH w s cb nb B c A cp L G stop seen last M W) (hs : s ≤ B) (hc : IS.CE B W' c 300 M' []) (hf : CF B W W' c) : TH w s cb nb B c A cp L G stop seen last M' W' := by
  have hcc : ∃ cs, CB W c 85 cs := by obtain ⟨bn, bs, h1, _⟩ := h.cells.ex; exact ⟨_, h1⟩
  obtain ⟨cs, hcc⟩ := hcc
  exact ⟨hf.cb h.cs (h.cells.ne h.cs (by decide)), hf.cb h.cr (h.cells.ne h.cr (by decide)), hf.cb h.cc (h.cells.ne h.cc (by decide)), hf.cb h.cn (h.cells.ne h.cn (by decide)), hf.cb h.ce (h.cells.ne h.ce (by decide)), hf.cb h.cl (h.cells.ne h.cl (by decide)),
    hf.seg h.row (h.row.ne_ hcc (by decide)), hc, h.low.trans (hf.low.mono hs)⟩
theorem TH.setLast (h : TH w s cb nb B c A cp L G stop seen last M W) (hs : s ≤ nb) (x : Int) : TH w s cb nb B c A cp L G stop seen x M (W.setCell ⟨nb + 1 + 1, 0, none⟩ (.int .i64 x)) :=
  ⟨h.cs.far (h.cs.ne_ h.cl (by decide)) _, h.cr.far (h.cr.ne_ h.cl (by decide)) _, h.cc.far (h.cc.ne_ h.cl (by decide)) _, h.cn.far (by simp; omega) _, h.ce.far (by simp) _, by simpa using h.cl.put 0 (.int .i64 x),
    h.row.far (h.row.ne_ h.cl (by decide)) _, h.cells.far h.cl (by decide) 0 _, h.low.setCell (p := ⟨nb + 1 + 1, 0, none⟩) (by simp; omega) _⟩
theorem TH.setSeen (h : TH w s cb nb B c A cp L G stop seen last M W) (hs : s ≤ nb) (x : Nat) : TH w s cb nb B c A cp L G stop x last M (W.setCell ⟨nb + 1, 0, none⟩ (.int .i64 x)) :=
  ⟨h.cs.far (h.cs.ne_ h.ce (by decide)) _, h.cr.far (h.cr.ne_ h.ce (by decide)) _, h.cc.far (h.cc.ne_ h.ce (by decide)) _, h.cn.far (by simp) _, by simpa using h.ce.put 0 (.int .i64 x), h.cl.far (by simp) _,
    h.row.far (h.row.ne_ h.ce (by decide)) _, h.cells.far h.ce (by decide) 0 _, h.low.setCell (p := ⟨nb + 1, 0, none⟩) (by simp; omega) _⟩
theorem TH.isC (h : TH w s cb nb B c A cp L G stop seen last M W) : ∃ t cs, CB W c t cs := by obtain ⟨bn, bs, h1, _⟩ := h.cells.ex; exact ⟨_, _, h1⟩
end

set_option maxRecDepth 100000 in
set_option maxHeartbeats 2000000 in
theorem through_walk (a : Option Addr) (cap : Nat) (acts : List ActV) (stop : Nat) (hs1 : stop < 256) (w : World) (h0 : CameA w a acts) (hm0 : acts.length ≤ maxLen) :
    Calls Try.prog 5 #[.slice a acts.length cap, .int .u8 stop] w fun e w' => e = .returned (.bool true) ∧ Below w.heap.size w w' := by
  unfold maxLen at hm0
  obtain ⟨w3, hw3⟩ : ∃ w3, w3 = (w.alloc (.cells #[.int .u8 stop] 5)).alloc (.cells #[.bool false] 4) := ⟨_, rfl⟩
  have k2 : CB w3 w.heap.size 5 #[.int .u8 stop] := by rw [hw3]; exact (CB.new _ _ _).alloc _
  have k3 : CB w3 (w.heap.size + 1) 4 #[.bool false] := by
    rw [hw3]
    have := CB.new (w.alloc (.cells #[.int .u8 stop] 5)) 4 #[.bool false]
    simpa using this
  have kB : Below w.heap.size w w3 := by rw [hw3]; exact ((Below.refl _ _).alloc (Nat.le_refl _) _).alloc (by simp) _
  have ks : w3.heap.size = w.heap.size + 2 := by rw [hw3]; simp
  have Hw3 := Lib.hid hw3
  have Hks := Lib.hid ks
  clear hw3 ks
  refine (callsIn_wide (n := 0)).1 ?_
  refine callsIn_of_wp_marks Try.func5 rfl trivial ?_ rfl
  simp only [Try.ntmps5, List.size_toArray, List.length_cons, List.length_nil, Nat.reduceAdd, Nat.reduceSub, Array.replicate_succ, Array.replicate_zero, List.push_toArray, List.append_toArray, List.nil_append, List.cons_append]
  gi_wp2_with fail
  rw [← Hw3.out]
  refine ⟨trivial, rfl, (callsIn_wide.2 (alive_c w3)).mono ?_⟩
  rintro e w4 ⟨rfl, hb4⟩
  have hz4 := hb4.size
  rw [Hks.out] at hb4 hz4
  have j2 := k2.same (hb4.block _ (by omega))
  have j3 := k3.same (hb4.block _ (by omega))
  have jB : Below w.heap.size w w4 := kB.trans (hb4.mono (by omega))
  clear k2 k3 kB hb4 Hw3 Hks
  gi_wp2_with fail
  refine ⟨trivial, rfl, (callsIn_wide.2 (IS.new_ok 300 w4 (by omega) (by omega))).mono ?_⟩
  rintro e w5 ⟨c, rfl, hr5, hb5⟩
  have l2 := j2.same (hb5.block _ (by omega))
  have l3 := j3.same (hb5.block _ (by omega))
  have lB : Below w.heap.size w w5 := jB.trans (hb5.mono (by omega))
  have lz := hb5.size
  have hB1 : w.heap.size ≤ w4.heap.size := by omega
  clear hb5 j2 j3 jB
  obtain ⟨B1, hB1e⟩ : ∃ B1, B1 = w4.heap.size := ⟨_, rfl⟩
  rw [← hB1e] at hr5 hB1 hz4 lz
  clear hB1e
  have hpl : PL w w.heap.size w5.heap.size B1 c stop 0 [] (w5.alloc (.cells #[.pointer (some ⟨c, 0, none⟩)] 47)) :=
    ⟨l2.alloc _, l3.alloc _, CB.new _ _ _, hr5.alloc _, lB.alloc (by omega) _, by simp, by simp, by simp⟩
  have c3 := hpl.cr.cell 0
  have f3 := hpl.cr.frozen 0
  simp only [List.getElem?_toArray, List.getElem?_cons_zero] at c3
  by_cases hbig : (100 : Int) < (acts.length : Int)
  · gi_wp2_with fail
    have hc5 := (hpl.cr.put 0 (.bool true)).cell 0
    simp only [Array.getElem?_setIfInBounds, List.size_toArray, List.length_cons, List.length_nil, if_true, Nat.zero_add, Nat.zero_lt_one] at hc5
    refine ⟨.bool true, ?_, rfl, hpl.low.setCell (p := ⟨w.heap.size + 1, 0, none⟩) (by simp) _⟩
    simp [results, Try.results5, go_sem, hc5]
  have hbd : decide ((100 : Int) < (acts.length : Int)) = false := by simp; omega
  gi_wp2_with fail
  clear c3 f3 l2 l3 lB
  gi_loopw [28] (fun i wr => ∃ (k : Nat) (L : List (Int × ByteArray)), k ≤ acts.length ∧ i = .int .i64 k ∧ PL w w.heap.size w5.heap.size B1 c stop k L wr ∧ w5.heap.size < wr.heap.size) (fun i _ => acts.length - (intOf i).toNat)
  case atStart => exact ⟨0, [], by omega, rfl, hpl, by simp⟩
  case round =>
    clear hpl hr5
    obtain ⟨k, L, hk, rfl, hpl, hsz⟩ := hrel
    by_cases hlt : k < acts.length
    · obtain ⟨av, hav⟩ : ∃ av, acts[k]? = some av := ⟨_, List.getElem?_eq_getElem hlt⟩
      obtain ⟨hok, b, off, rfl, d0, d1, d2⟩ := h0.at_ hpl.low hav
      obtain ⟨kd, ky, vl⟩ := av
      obtain ⟨_, _, hvl⟩ := hok
      simp only at d0 d1 d2 hvl
      have Hvl := Lib.hid hvl
      clear hav hvl
      have hp2 := hpl.alloc (by omega) (.cells #[.int .u8 kd, .int .u8 ky, .int .i64 vl] 30)
      have c4 := hp2.cc.cell 0
      simp only [List.getElem?_toArray, List.getElem?_cons_zero] at c4
      have hln := hpl.len
      clear hpl
      gi_wp2_with fail
      refine ⟨trivial, rfl, (callsIn_wide.2 (IS.set_ok B1 c 300 L [] _ hp2.cells vl tx Hvl.out (by decide) (.inr (by omega)))).mono ?_⟩
      rintro e w7 ⟨rfl, q1, q2⟩
      have hnext := hp2.step hB1 Hvl.out q1 q2
      have hs7 := q2.size
      simp only [World.size_alloc] at hs7
      clear q1 q2 hp2 d0 d1 d2 c4
      gi_wp2_with fail
      go_roundw
      case rel => exact ⟨k + 1, _, by omega, by go_num, hnext, by omega⟩
      case measure => simp [intOf]; omega
    · obtain rfl : k = acts.length := by omega
      have c4 := hpl.cc.cell 0
      simp only [List.getElem?_toArray, List.getElem?_cons_zero] at c4
      gi_wp2_with fail
      refine ⟨trivial, rfl, (callsIn_wide.2 (IS.len_c B1 c 300 L [] wr hpl.cells)).mono ?_⟩
      rintro e w6 ⟨rfl, rfl⟩
      have hn1 := hpl.alloc (by omega) (.cells #[.int .i64 L.length] 3)
      have hn2 := hn1.alloc (by simp; omega) (.cells #[.int .i64 0] 3)
      have hn3 := hn2.alloc (by simp; omega) (.cells #[.int .i64 0] 2)
      have e1 : CB (((wr.alloc (.cells #[.int .i64 L.length] 3)).alloc (.cells #[.int .i64 0] 3)).alloc (.cells #[.int .i64 0] 2)) wr.heap.size 3 #[.int .i64 L.length] := ((CB.new wr _ _).alloc _).alloc _
      have e2 : CB (((wr.alloc (.cells #[.int .i64 L.length] 3)).alloc (.cells #[.int .i64 0] 3)).alloc (.cells #[.int .i64 0] 2)) (wr.heap.size + 1) 3 #[.int .i64 0] := by
        have := (CB.new (wr.alloc (.cells #[.int .i64 L.length] 3)) 3 #[.int .i64 0]).alloc (.cells #[.int .i64 0] 2)
        simpa using this
      have e3 : CB (((wr.alloc (.cells #[.int .i64 L.length] 3)).alloc (.cells #[.int .i64 0] 3)).alloc (.cells #[.int .i64 0] 2)) (wr.heap.size + 1 + 1) 2 #[.int .i64 0] := by
        have := CB.new ((wr.alloc (.cells #[.int .i64 L.length] 3)).alloc (.cells #[.int .i64 0] 3)) 2 #[.int .i64 0]
        simpa using this
      have c5 := hn3.cc.cell 0
      simp only [List.getElem?_toArray, List.getElem?_cons_zero] at c5
      have hnl : L.length ≤ 100 := by have := hpl.len; omega
      have hall := IS.all_c B1 c 300 L [] _ hn3.cells
      have htx := hpl.txt
      have hwf := hpl.wf
      have hsrt := hpl.cells.srt
      have Htx := Lib.hid htx
      have Hwf := Lib.hid hwf
      have Hsrt := Lib.hid hsrt
      clear htx hwf hsrt hn1 hn2 hpl c4
      gi_wp2_with fail
      refine ⟨trivial, rfl, (callsIn_wide.2 hall).mono ?_⟩
      rintro e wA ⟨A, cp, G, rfl, hsg, hGn, hBA⟩
      have hszA := hBA.size
      simp only [World.size_alloc] at hszA
      have hTh : TH w w.heap.size w5.heap.size wr.heap.size B1 c A cp L G stop 0 0 L wA :=
        ⟨hn3.cs.same (hBA.block _ hn3.cs.lt), hn3.cr.same (hBA.block _ hn3.cr.lt), hn3.cc.same (hBA.block _ hn3.cc.lt), e1.same (hBA.block _ e1.lt), e2.same (hBA.block _ e2.lt), e3.same (hBA.block _ e3.lt), hsg, hn3.cells.below hBA (Nat.le_refl _), hn3.low.trans (hBA.mono (by simp; omega))⟩
      have HTh := Lib.hid hTh
      have hnb : w.heap.size ≤ wr.heap.size := by omega
      obtain ⟨nb, hnbe⟩ : ∃ nb, nb = wr.heap.size := ⟨_, rfl⟩
      clear e1 e2 e3 c5 hn3 hall hsg hGn hBA hTh hnbe
      gi_wp2_with fail
      refine range_law_a (gf := 39) (fb := #[.slice A L.length cp]) rfl (enters_of Try.func39 (by kernel_rfl) rfl) (IS.row_iter A cp L G (by omega)) (fun _ => rfl)
        (fun k W => ∃ M last, TH w w.heap.size w5.heap.size wr.heap.size B1 c A cp L G stop k last M W ∧ M.length ≤ L.length + k ∧ (k = 0 ∨ last = (IS.kth L (k - 1)).1) ∧ (stop = 0 ∨ k < stop))
        (fun cd W => cd = .exit 2 ∧ ∃ M last, TH w w.heap.size w5.heap.size wr.heap.size B1 c A cp L G stop stop last M W ∧ stop ≤ L.length ∧ 1 ≤ stop) ?need ?hI ?hIx ?hA ?h0
        (fun k => { tmps := #[.slice a acts.length cap, .int .u8 stop, undef, .pointer (some ⟨w.heap.size, 0, none⟩), .pointer (some ⟨w.heap.size + 1, 0, none⟩), .pointer (some ⟨w5.heap.size, 0, none⟩), undef, u7,
          .pointer (some ⟨wr.heap.size, 0, none⟩), .pointer (some ⟨wr.heap.size + 1, 0, none⟩), .pointer (some ⟨wr.heap.size + 1 + 1, 0, none⟩), .int .i64 (IS.kth L k).1, .string (IS.kth L k).2, undef, .bool true, .bool false, .pointer (some ⟨c, 0, none⟩), .pointer (some ⟨c, 0, none⟩), .bool false, .bool false,
          .slice a acts.length cap, .int .i64 acts.length, .bool false, .bool false, undef, undef, .slice a acts.length cap, .int .i64 acts.length, .int .i64 acts.length, .bool false, u30, u31, u32, u33, u34, u35, u36, .pointer (some ⟨c, 0, none⟩), .int .i64 L.length,
          .pointer (some ⟨c, 0, none⟩), .func (.func 39) #[.slice A L.length cp] #[], .int .i64 (IS.kth L k).1, .string (IS.kth L k).2, undef, undef, undef, undef, undef, undef, undef, undef, undef, undef, undef, undef, undef, undef, undef, undef, undef, undef, undef, undef, undef, undef, undef, undef, undef, undef, undef, undef, undef, undef, undef, undef, undef, undef, undef, undef, undef, undef, undef, undef], defers := [] }) ?assign ?body ?done ?stop
      case need =>
        rintro k W ⟨M, last, h, _⟩
        exact h.row
      case hI =>
        rintro k W o ⟨M, last, h, r⟩ hbk
        exact ⟨M, last, h.putBook hbk (by omega) _, r⟩
      case hIx =>
        rintro cd W o ⟨q1, M, last, h, r⟩ hbk
        exact ⟨q1, M, last, h.putBook hbk (by omega) _, r⟩
      case hA =>
        rintro k W cs t ⟨M, last, h, r⟩ hlt'
        exact ⟨M, last, h.alloc (by omega) _, r⟩
      case h0 =>
        intro r
        exact ⟨L, 0, (HTh.out.alloc (by omega) _).alloc (by simp; omega) _, by omega, .inl rfl, by omega⟩
      case assign =>
        intro l k W K hK
        gi_wp2
        exact hK
      case body =>
        rintro l k W hk ⟨M, last, hth, hM, hla, hst⟩ bk1 bk2
        have hmem : IS.kth L k ∈ L := by
          unfold IS.kth
          rw [List.getElem?_eq_getElem hk]
          exact List.getElem_mem hk
        have hlt2 : k = 0 ∨ last < (IS.kth L k).1 := by
          rcases hla with h | h
          · exact .inl h
          · by_cases hk0 : k = 0
            · exact .inl hk0
            · refine .inr ?_
              rw [h]
              have := List.pairwise_iff_getElem.1 Hsrt.out (k - 1) k (by omega) hk (by omega)
              unfold IS.kth
              rw [List.getElem?_eq_getElem hk, List.getElem?_eq_getElem (show k - 1 < L.length by omega)]
              exact this
        have hkk : (IS.kth L (k + 1 - 1)).1 = (IS.kth L k).1 := by simp
        have hv := Htx.out _ hmem
        have hw := Hwf.out _ hmem
        have Hkk := Lib.hid hkk
        clear hmem hkk hla
        generalize IS.kth L k = x at *
        obtain ⟨xk, xv⟩ := x
        simp only at hv hw hlt2 Hkk
        subst hv
        have Hw := Lib.hid hw
        clear hw
        have y1 := hth.cn.cell 0
        have y2 := hth.ce.cell 0
        have y3 := hth.cl.cell 0
        have y4 := hth.cl.frozen 0
        simp only [List.getElem?_toArray, List.getElem?_cons_zero] at y1 y2 y3
        have y5 := hth.cc.cell 0
        have y6 := hth.ce.frozen 0
        simp only [List.getElem?_toArray, List.getElem?_cons_zero] at y5
        have h1 := hth.setLast hnb xk
        have h2 := h1.setSeen hnb (k + 1)
        have hkc : Keep2 wA.heap.size W ((W.setCell ⟨wr.heap.size + 1 + 1, 0, none⟩ (.int .i64 xk)).setCell ⟨wr.heap.size + 1, 0, none⟩ (.int .i64 ((k + 1 : Nat) : Int))) :=
          ((Keep2.refl wA.heap.size W).put (p := ⟨wr.heap.size + 1 + 1, 0, none⟩) (hth.cl.noBook bk1) (hth.cl.noBook bk2) _).put (p := ⟨wr.heap.size + 1, 0, none⟩) (hth.ce.noBook bk1) (hth.ce.noBook bk2) _
        have ecast : ((k + 1 : Nat) : Int) = (k : Int) + 1 := by simp
        rw [ecast] at h2 hkc
        clear ecast h1
        obtain ⟨W2, hW2⟩ : ∃ W2, W2 = (W.setCell ⟨wr.heap.size + 1 + 1, 0, none⟩ (.int .i64 xk)).setCell ⟨wr.heap.size + 1, 0, none⟩ (.int .i64 ((k : Int) + 1)) := ⟨_, rfl⟩
        rw [← hW2] at h2 hkc
        have HW2 := Lib.hid hW2
        have H2 := Lib.hid h2
        have hneS : ¬ w5.heap.size = wr.heap.size + 1 := by omega
        have hneR : ¬ w5.heap.size = wr.heap.size + 1 + 1 := by omega
        have hkn : ¬ L.length ≤ k := by omega
        have hkz : ¬ 0 < k ∨ (0 < k ∧ ¬ xk ≤ last) := by omega
        obtain ⟨bk3, bk4⟩ := Book.keep bk1 bk2 hkc
        have hMl : M.length ≤ 200 := by omega
        have Hst := Lib.hid hst
        have Hlt2 := Lib.hid hlt2
        clear hW2 h2 hth hlt2 hst HTh bk1 bk2
        have key : TH w w.heap.size w5.heap.size wr.heap.size B1 c A cp L G stop (k + 1) xk M W2 := H2.out
        clear Hlt2
        rcases hkz with hk1 | ⟨hk1, hk2⟩
        all_goals
          gi_wp2_with fail
          rw [← HW2.out]
          clear y1 y2 y3 y4 y5 y6 HW2 H2
          refine ⟨trivial, rfl, CallsIn.inRound l ((callsIn_wide.2 (drop_is B1 c 300 M [] W2 key.cells xk Hw.out)).mono ?_)⟩
          rintro e W3 ⟨er, rfl, q1, q2⟩
          have key3 := key.call hB1 q1 q2
          have kk3 := q2.keep2 bk3 bk4 key.isC
          obtain ⟨bk5, bk6⟩ := Book.keep bk3 bk4 kk3
          have y5 := key3.cc.cell 0
          simp only [List.getElem?_toArray, List.getElem?_cons_zero] at y5
          have hMl3 : (delL M xk).length ≤ L.length + k := by have := length_del_le M xk; omega
          clear q1 q2 key
          gi_wp2_with fail
          refine ⟨trivial, rfl, CallsIn.inRound l ((callsIn_wide.2 (IS.set_ok B1 c 300 _ [] W3 key3.cells _ ty (wf_i64 _) (by decide) (.inr (by omega)))).mono ?_)⟩
          rintro e W4 ⟨rfl, q1, q2⟩
          have key4 := key3.call hB1 q1 q2
          have kk4 := q2.keep2 bk5 bk6 key3.isC
          have hkk := (hkc.trans kk3).trans kk4
          have hMl4 : (putL (delL M xk) (wrap64 (xk + 1)) ty).length ≤ L.length + (k + 1) := by
            rw [length_put key3.cells.srt]
            split <;> omega
          have y7 := key4.ce.cell 0
          have y8 := key4.cs.cell 0
          simp only [List.getElem?_toArray, List.getElem?_cons_zero] at y7 y8
          clear q1 q2 key3 kk3 kk4 hkc bk3 bk4 bk5 bk6 y5 hMl3
          have ecast : ((k + 1 : Nat) : Int) = (k : Int) + 1 := by simp
          rw [ecast] at y7
          clear ecast
          by_cases hst2 : k + 1 = stop
          · have t1 : (((k : Int) + 1) == (stop : Int)) = true := by rw [beq_iff_eq]; omega
            have Hst2 := Lib.hid hst2
            clear hst2
            gi_wp2_with fail
            exact ⟨hkk, rfl, _, xk, by have := Hst2.out; rw [this] at key4; exact key4, by have := Hst2.out; omega, by have := Hst2.out; omega⟩
          · have t1 : (((k : Int) + 1) == (stop : Int)) = false := by rw [beq_eq_false_iff_ne]; omega
            have Hst2 := Lib.hid hst2
            clear hst2
            gi_wp2_with fail
            exact ⟨hkk, _, xk, key4, hMl4, .inr Hkk.out.symm, by have := Hst2.out; have := Hst.out; omega⟩
      case done =>
        rintro W ⟨M, last, hth, hM, hla, hst⟩ hK
        have y1 := hth.cn.cell 0
        have y2 := hth.ce.cell 0
        have y3 := hth.cs.cell 0
        have y4 := hth.cr.cell 0
        have y5 := hth.cr.frozen 0
        simp only [List.getElem?_toArray, List.getElem?_cons_zero] at y1 y2 y3 y4
        have hbk : Book W wA.heap.size := .inr ⟨_, hK⟩
        have hK3 : (W.setCell ⟨w.heap.size + 1, 0, none⟩ (.bool true)).heap[wA.heap.size]? = some (.deferred (some [])) := (Below.heap_setCell _ _ _ _ (hth.cr.noBook hbk).symm).trans hK
        have hc5 := ((hth.cr.put 0 (.bool true)).putBook (.inr ⟨_, hK3⟩) (.deferred none)).cell 0
        simp only [Array.getElem?_setIfInBounds, List.size_toArray, List.length_cons, List.length_nil, if_true, Nat.zero_add, Nat.zero_lt_one] at hc5
        have hlow := below_putObj (hth.low.setCell (p := ⟨w.heap.size + 1, 0, none⟩) (by simp) (.bool true)) (L := wA.heap.size) (by omega) (.deferred none)
        have Hc5 := Lib.hid hc5
        have Hlow := Lib.hid hlow
        have HK3 := Lib.hid hK3
        clear hth hM hla HTh hc5 hlow hK3 hbk hK
        by_cases hst0 : stop = 0
        · subst hst0
          clear hst
          gi_wp2_with fail
          refine ⟨by simp, .inl ⟨_, _, rfl, run_takeDeferred HK3.out, ?_⟩⟩
          refine ⟨.bool true, ?_, rfl, Hlow.out⟩
          simp [results, Try.results5, go_sem, Hc5.out]
        · have hp1 : 0 < stop := by omega
          have Hmn := Lib.hid (show ((L.length : Int) == min (L.length : Int) (stop : Int)) = true by rw [beq_iff_eq]; omega)
          clear hst hst0
          gi_wp2_with fail
          rw [Hmn.out]
          refine ⟨by simp, .inl ⟨_, _, rfl, run_takeDeferred HK3.out, ?_⟩⟩
          refine ⟨.bool true, ?_, rfl, Hlow.out⟩
          simp [results, Try.results5, go_sem, Hc5.out]
      case stop =>
        rintro cd W ⟨rfl, M, last, hth, hle, hge⟩ hK
        have y1 := hth.cn.cell 0
        have y2 := hth.ce.cell 0
        have y3 := hth.cs.cell 0
        have y4 := hth.cr.cell 0
        have y5 := hth.cr.frozen 0
        simp only [List.getElem?_toArray, List.getElem?_cons_zero] at y1 y2 y3 y4
        have hbk : Book W wA.heap.size := .inr ⟨_, hK⟩
        have hK3 : (W.setCell ⟨w.heap.size + 1, 0, none⟩ (.bool true)).heap[wA.heap.size]? = some (.deferred (some [])) := (Below.heap_setCell _ _ _ _ (hth.cr.noBook hbk).symm).trans hK
        have hc5 := ((hth.cr.put 0 (.bool true)).putBook (.inr ⟨_, hK3⟩) (.deferred none)).cell 0
        simp only [Array.getElem?_setIfInBounds, List.size_toArray, List.length_cons, List.length_nil, if_true, Nat.zero_add, Nat.zero_lt_one] at hc5
        have hlow := below_putObj (hth.low.setCell (p := ⟨w.heap.size + 1, 0, none⟩) (by simp) (.bool true)) (L := wA.heap.size) (by omega) (.deferred none)
        have Hc5 := Lib.hid hc5
        have Hlow := Lib.hid hlow
        have HK3 := Lib.hid hK3
        have hp1 : 0 < stop := by omega
        clear hth HTh hc5 hlow hK3 hbk hK
        have Hmn := Lib.hid (show ((stop : Int) == min (L.length : Int) (stop : Int)) = true by rw [beq_iff_eq]; omega)
        gi_wp2_with fail
        rw [Hmn.out]
        refine ⟨by simp, .inl ⟨_, _, rfl, run_takeDeferred HK3.out, ?_⟩⟩
        refine ⟨.bool true, ?_, rfl, Hlow.out⟩
        simp [results, Try.results5, go_sem, Hc5.out]
end Go.Proofs.Ytopgnjnnijhpkaa
