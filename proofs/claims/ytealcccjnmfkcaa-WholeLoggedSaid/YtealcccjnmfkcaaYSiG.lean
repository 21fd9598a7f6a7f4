/-
  Package site: New, Get, Part, Log. Conditions: the site is such as SR says, its log not long.
-/
import Derived.Test.YtealcccjnmfkcaaYSiE
import Derived.Test.YtealcccjnmfkcaaYSiA
set_option linter.unusedVariables false
set_option linter.unusedSimpArgs false
namespace Go.Proofs.Ytealcccjnmfkcaa
open Go.RowKit

theorem Try.infoK : (Try.prog.info? 35).map (fun i => (i.zero, i.size, i.bytes)) = some (some (.agg #[.int .i64 0, .int .i64 0, .int .u8 0, .int .i64 0]), 4, 32) := by kernel_rfl
theorem kc_one (x : Rc) : ∀ u ∈ kc x, u.oneCell' = true := encOne (c := kc) 4 x
theorem app4 {n : Nat} (h : n ≤ 300000) : n + 1 ≤ maxLen ∧ (n + 1) * 32 ≤ 140737488355328 := by simp only [maxLen]; omega
/-- None of a site's own blocks lies below B. -/
structure Hi (B b m : Nat) (G : Option Nat) : Prop where
  b : B ≤ b
  m : B ≤ m
  G : ∀ g, G = some g → B ≤ g

/-- A call gave a part, and whether there is one. -/
def QPost (w : World) (p : Pt) (is : Bool) (e : Ending) (w' : World) : Prop :=
  ∃ A n c, e = .returned (.tuple #[pv A n c p, .bool is]) ∧ DS w' A n c p.ad ∧ Below w.heap.size w w' ∧ Fr w.heap.size A n

set_option maxRecDepth 100000 in
set_option maxHeartbeats 1000000 in
theorem new_c (w : World) : Calls Try.prog 14 #[] w fun e w' => ∃ b m, e = .returned (.pointer (some ⟨b, 0, none⟩)) ∧ SR w' b m none si0 [] ∧ Below w.heap.size w w' ∧ Hi w.heap.size b m none := by
  obtain ⟨W, hW⟩ : ∃ W, w.alloc (.map #[] 0) = W := ⟨_, rfl⟩
  have hm : MF W w.heap.size 0 (fun _ => none) := by rw [← hW]; exact MF.made w
  have hb : Below w.heap.size w W := by rw [← hW]; exact belA _ _
  obtain ⟨V, hV⟩ : ∃ V, W.alloc (.cells #[.slice none 0 0, .slice none 0 0, .map (some w.heap.size), .slice none 0 0] 63) = V := ⟨_, rfl⟩
  have hs : CB V W.heap.size 63 #[.slice none 0 0, .slice none 0 0, .map (some w.heap.size), .slice none 0 0] := by rw [← hV]; exact CB.new _ _ _
  have hb2 : Below W.heap.size W V := by rw [← hV]; exact belA _ _
  have e1 : W.heap.size = w.heap.size + 1 := by rw [← hW]; simp
  rw [e1] at hs
  have H := Lib.hid (show ∃ b m, (Ending.returned (.pointer (some ⟨w.heap.size + 1, 0, none⟩))) = .returned (.pointer (some ⟨b, 0, none⟩)) ∧ SR V b m none si0 [] ∧ Below w.heap.size w V ∧ Hi w.heap.size b m none from
    ⟨_, w.heap.size, rfl, ⟨⟨none, 0, 0, none, 0, 0, none, 0, 0, _, hs, RS.nil _ _ _ _, RS.nil _ _ _ _, hm.on hb2, Seg.nil _ _ _, fun tx => rfl⟩, good0⟩, bel2 hb hb2, ⟨by omega, Nat.le_refl _, fun g e => by cases e⟩⟩)
  have hmk : (Instr.makeMap 61 none).run Try.prog w = .ok (.map (some w.heap.size)) (w.alloc (.map #[] 0)) := run_makeMap _ w
  have HW := Lib.hid hW
  have HV := Lib.hid hV
  clear hW hV hs hm hb hb2 e1
  go_enter Try.func14, Try.ntmps14
  go_wp2_with fail
  rw [HW.out, HV.out]
  go_wp2_with fail
  go_ret
  exact H.out

set_option maxRecDepth 100000 in
set_option maxHeartbeats 1000000 in
theorem sget_c (b m : Nat) (G : Option Nat) (s : Si) (log : List Rc) (k : Int) (w : World) (h : SR w b m G s log) :
    Calls Try.prog 23 #[.pointer (some ⟨b, 0, none⟩), .int .u8 k] w fun e w' => e = .returned (.int .i64 (getD s.led k)) ∧ Below w.heap.size w w' := by
  obtain ⟨⟨A1, n1, c1, A2, n2, c2, A3, n3, c3, f, h1, h2, h3, h4, h5, h6⟩, hg⟩ := h
  have hcr := created_c b m _ _ _ w h1
  have hgt := get_c A1 n1 c1 k s.led w h2.rr (by have := h2.len; have := right_len hg.inv.right hg.inv.wf; omega)
  have s0 := h1.cell 0
  simp only [List.getElem?_toArray, List.getElem?_cons_zero] at s0
  clear h1 h2 h3 h4 h5 h6 hg
  go_enter Try.func23, Try.ntmps23
  go_wp2_with fail
  (with_reducible refine hcr.mono ?_)
  rintro e w' ⟨rfl, rfl⟩
  go_wp2_with fail
  (with_reducible refine hgt.mono ?_)
  rintro e w1 ⟨rfl, b1⟩
  go_wp2_with fail
  go_ret
  exact ⟨rfl, b1⟩

set_option maxRecDepth 100000 in
set_option maxHeartbeats 1000000 in
theorem slog_c (b m : Nat) (G : Option Nat) (s : Si) (log : List Rc) (w : World) (h : SR w b m G s log) (hl : log.length ≤ 5000) :
    Calls Try.prog 22 #[.pointer (some ⟨b, 0, none⟩)] w (RPost w 35 kc 4 log) := by
  obtain ⟨⟨A1, n1, c1, A2, n2, c2, A3, n3, c3, f, h1, h2, h3, h4, h5, h6⟩, hg⟩ := h
  have hcr := created_c b m _ _ _ w h1
  have s3 := h1.cell 3
  simp only [List.getElem?_toArray, List.getElem?_cons_zero, List.getElem?_cons_succ] at s3
  obtain ⟨i0, hi0, hz0, hz1, hz2⟩ := info_parts Try.infoK
  have hlen := rc_len (L := log) h5
  have p1 : 0 + n3 ≤ maxLen := by simp only [maxLen]; omega
  have p2 : (0 + n3) * 32 ≤ 140737488355328 := by omega
  have p03 : 0 < 4 := by omega
  have hsrc := h5.src
  have hz := Nat.zero_add n3
  clear h1 h2 h3 h4 h5 h6 hg hlen
  go_enter Try.func22, Try.ntmps22
  go_wp2_with fail
  (with_reducible refine hcr.mono ?_)
  rintro e w' ⟨rfl, rfl⟩
  go_wp2_with (at_builtin; refine wpList_append_src _ rfl (.const (.slice none 0 0)) (.tmp 9) _ rfl 35 i0 _ 4 32 Try.underlying49 hi0 hz0 hz1 hz2 rfl p03 rfl (Seg.nil _ _ _) rfl hsrc (rc_one 4 _) p1 p2 n3 hz ?_; intro A1 c1 G1 w1 hs1 hg1 hm1)
  rw [List.nil_append] at hs1
  have H := Lib.hid (RPost.of_os (OS.app (Below.refl _ _) (fun g e => by cases e) hs1 hg1 hm1))
  clear hs1 hg1 hm1 hsrc
  go_wp2_with fail
  go_ret
  exact H.out

set_option maxRecDepth 100000 in
set_option maxHeartbeats 2000000 in
theorem spart_c (b m : Nat) (G : Option Nat) (s : Si) (log : List Rc) (tx : Int) (w : World) (h : SR w b m G s log) (htx : -9223372036854775808 ≤ tx ∧ tx ≤ 9223372036854775807) :
    Calls Try.prog 17 #[.pointer (some ⟨b, 0, none⟩), .int .i64 tx] w (QPost w ((fnd s.pts tx).getD p0) (fnd s.pts tx).isSome) := by
  obtain ⟨⟨A1, n1, c1, A2, n2, c2, A3, n3, c3, f, h1, h2, h3, h4, h5, h6⟩, hg⟩ := h
  obtain ⟨A, n, c, p1, p2, p3⟩ := h6.at_ tx
  have hok : okP ((fnd s.pts tx).getD p0) = true := by
    cases hf : fnd s.pts tx with
    | none => decide
    | some p => exact (hg.inv.ok _ (fnd_mem hf)).1
  obtain ⟨own, how⟩ : ∃ own, (fnd s.pts tx).getD p0 = own := ⟨_, rfl⟩
  obtain ⟨is, his⟩ : ∃ is, (fnd s.pts tx).isSome = is := ⟨_, rfl⟩
  rw [how] at p1 p2 hok ⊢
  rw [his] at p3 ⊢
  clear how his
  obtain ⟨W, hW⟩ : ∃ W, w.alloc (.cells #[.int .i64 0, .slice none 0 0, .bool false, .int .i64 0] 40) = W := ⟨_, rfl⟩
  have bW : Below w.heap.size w W := by rw [← hW]; exact belA _ _
  have zW : PB W w.heap.size 40 0 none 0 0 false 0 := by rw [← hW]; exact PB.new _ _ _ _ _ _ _ _
  have HW := Lib.hid hW
  clear hW
  have hcr := created_c b m _ _ _ W (h1.on bW)
  have look := MF.look (h4.on bW) (wfI htx)
  rw [p1, p3] at look
  have s2 := (h1.on bW).cell 2
  simp only [List.getElem?_toArray, List.getElem?_cons_zero, List.getElem?_cons_succ] at s2
  obtain ⟨V, hV⟩ : ∃ V, W.alloc (.cells #[.int .i64 own.st, .slice A n c, .bool own.lo, .int .i64 own.ou] 40) = V := ⟨_, rfl⟩
  have bV : Below W.heap.size W V := by rw [← hV]; exact belA _ _
  have oV : PB V W.heap.size 40 own.st A n c own.lo own.ou := by rw [← hV]; exact PB.new _ _ _ _ _ _ _ _
  have zV := zW.on bV
  have HV := Lib.hid hV
  have bW' := bW
  have bV' := bV
  have dV := (p2.on bW).on bV
  have lV := bel2 bW bV
  have hlt := zW.lt
  clear hV p1 p3 p2 zW h1 h2 h3 h4 h5 h6 hg bV
  obtain ⟨i0, hi0, hz0, hz1, hz2⟩ := info_parts Try.infoD
  have hlen := dV.len
  have hol := ok_len hok
  have q1 : 0 + n ≤ maxLen := by simp only [maxLen]; omega
  have q2 : (0 + n) * 16 ≤ 140737488355328 := by omega
  have p03 : 0 < 2 := by omega
  have hsrc := dV.rr.src
  have hz := Nat.zero_add n
  clear hlen hol hok bW
  obtain ⟨o0, o1, o2, o3⟩ := oV.cells
  go_enter Try.func17, Try.ntmps17
  go_upto_region 1 with fail
  rw [HW.out]
  go_wp2_with fail
  (with_reducible refine hcr.mono ?_)
  rintro e w' ⟨rfl, rfl⟩
  go_upto_region 4 with fail
  rw [HV.out]
  go_wp2_with (at_builtin; refine wpList_append_src _ rfl (.const (.slice none 0 0)) (.tmp 22) _ rfl 102 i0 _ 2 16 Try.underlying26 hi0 hz0 hz1 hz2 rfl p03 rfl (Seg.nil _ _ _) rfl hsrc (rc_one 2 _) q1 q2 n hz ?_; intro A8 c8 G8 w8 hs8 hg8 hm8; refine Stay.mk ?_)
  refine Stay.open_ ?_
  rw [List.nil_append] at hs8
  have hG8 := Lib.hid (show ∀ g, G8 = some g → w.heap.size ≤ g from hm8.ge (Nat.le_trans bW'.size bV'.size) (fun g e => by cases e))
  have b8 : Below V.heap.size V w8 := grown_below hg8 (Nat.le_refl _) (fun g e => by cases e)
  have o8 := oV.on b8
  have z8 := zV.on b8
  have l8 := bel2 lV b8
  clear look s2 hcr hsrc dV oV zV lV hg8 hm8 bW' bV' o0 o1 o2 o3 b8
  obtain ⟨o0, o1, o2, o3⟩ := o8.cells
  obtain ⟨g0, g1, g2, g3⟩ := o8.froz
  obtain ⟨X, hX⟩ : ∃ X, w8.setCell ⟨w'.heap.size, 1, none⟩ (.slice A8 n c8) = X := ⟨_, rfl⟩
  have oX : PB X w'.heap.size 40 own.st A8 n c8 own.lo own.ou := by rw [← hX]; exact o8.put1 _ _ _
  have kX : Kept w'.heap.size w8 X := by rw [← hX]; exact Kept.of o8 Try.neP _ _
  have zX := kX.cb _ _ _ (by omega) z8
  have zX : PB X w.heap.size 40 0 none 0 0 false 0 := zX
  have gX := kX.sg _ _ _ _ _ hs8
  have lX := kX.low _ _ l8 (by omega)
  have HX := Lib.hid hX
  clear hX kX
  go_upto_region 5 with fail
  rw [HX.out]
  clear o0 o1 o2 o3 g0 g1 g2 g3 o8 z8 l8 hs8
  obtain ⟨o0, o1, o2, o3⟩ := oX.cells
  obtain ⟨z0, z1, z2, z3⟩ := zX.cells
  obtain ⟨y0, y1, y2, y3⟩ := zX.froz
  obtain ⟨U, hU, hrU, hkU⟩ := store_end zX Try.neP own.st A8 n c8 own.lo own.ou
  obtain ⟨v0, v1, v2, v3⟩ := hrU.cells
  have HU := Lib.hid hU
  have H := Lib.hid (show QPost w own is (.returned (.tuple #[pv A8 n c8 own, .bool is])) U from ⟨A8, n, c8, rfl, ⟨_, hkU.sg _ _ _ _ _ gX⟩, hkU.low _ _ lX (Nat.le_refl _), Fr.of_seg gX hG8.out⟩)
  clear hU hkU hrU
  go_wp2_with fail
  rw [HU.out]
  exact bodyPost_ret (v := .tuple #[pv A8 n c8 own, .bool is]) (by simp [results, Try.results17, go_sem, v0, v1, v2, v3]) rfl H.out
end Go.Proofs.Ytealcccjnmfkcaa
