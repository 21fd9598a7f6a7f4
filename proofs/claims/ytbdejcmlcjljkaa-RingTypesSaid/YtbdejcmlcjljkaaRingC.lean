/-
  The iterators of package ring at int64: the rounds of 'each', and what All returns. Conditions: the slice, or the queue, reads as the predicates Seg and RG say.
-/
import Derived.Test.YtbdejcmlcjljkaaRingB
import Derived.Test.YtbdejcmlcjljkaaRange
import Derived.Shelf.Abstract
import Derived.Shelf.RegionOpen
import Derived.OwnWalkIn
import Derived.TacticsInMore
import Derived.LoopNIn
import Derived.LoopIn
namespace Go.Proofs.Ytbdejcmlcjljkaa
open Go.RowKit Go.Shelf
attribute [local go_sem] Oper.semAt_some

set_option maxRecDepth 100000 in
set_option maxHeartbeats 400000 in
theorem each_iter (A : Option Addr) (c : Nat) (xs : List Int) (G : Option Nat) (hm : xs.length ≤ maxLen) :
    Iter Try.prog 35 (fun y => #[.slice A xs.length c] ++ #[y]) xs.length (fun k => #[.int .i64 (xs[k]?.getD 0)]) (fun W => Seg W 2 1 A xs.length c (xs.map (.int .i64)) G) := by
  unfold maxLen at hm
  intro l J Jx W hN hY h0
  refine callsIn_of_wp Try.func35 rfl trivial ?_ rfl
  simp only [Try.ntmps35, List.size_toArray, List.length_cons, List.length_nil, Nat.reduceAdd, Nat.reduceSub, Array.replicate_succ, Array.replicate_zero, List.push_toArray, List.append_toArray, List.nil_append, List.cons_append]
  gi_wp2
  gi_loopw [8] (fun i wr => ∃ k : Nat, k ≤ xs.length ∧ i = .int .i64 k ∧ J k wr) (fun i _ => xs.length - (intOf i).toNat)
  case atStart => exact ⟨0, by omega, rfl, h0⟩
  case round =>
    obtain ⟨k, hk, rfl, hJ⟩ := hrel
    by_cases hlt : k < xs.length
    · have hs := hN k wr hJ
      have hx : xs[k]? = some (xs[k]?.getD 0) := by rw [List.getElem?_eq_getElem hlt]; rfl
      obtain ⟨g, off, rfl, rfl, hc⟩ := hs.at_ (j := k) (u := .int .i64 (xs[k]?.getD 0)) (by rw [List.getElem?_map, hx]; rfl)
      obtain ⟨fn, tmps, assign, body, hy, hR⟩ := hY k wr hlt hJ
      generalize xs[k]?.getD 0 = x at hy hc
      clear hx hs hY hN
      gi_wp2
      refine ⟨rfl, hR.mono ?_⟩
      rintro e W3 (⟨rfl, hJ3⟩ | ⟨rfl, hJ3⟩)
      · gi_wp2
        go_roundw
        case rel => exact ⟨k + 1, by omega, by go_num, hJ3⟩
        case measure => simp [intOf]; omega
      · gi_wp2
        refine bodyPost_ret (results_none rfl _ _ _) rfl ?_
        exact ⟨⟨_, rfl⟩, .inr hJ3⟩
    · obtain rfl : k = xs.length := by omega
      gi_wp2
      go_end0
      exact ⟨⟨_, rfl⟩, .inl hJ⟩

/-- Behind k rounds of All's loop: the box of its variable, and the row that it has gathered. -/
def AllI (w : World) (xs : List Int) (k : Nat) (W : World) : Prop :=
  ∃ A' c' G', CB W w.heap.size 72 #[.slice A' k c'] ∧ Seg W 2 1 A' k c' ((xs.map (.int .i64)).take k) G' ∧ (∀ g, G' = some g → w.heap.size ≤ g) ∧ Below w.heap.size w W

theorem take_snoc_map {xs : List Int} {k : Nat} (hk : k < xs.length) : (xs.map (Value.int .i64)).take k ++ [.int .i64 (xs[k]?.getD 0)] = (xs.map (Value.int .i64)).take (k + 1) := by
  rw [List.take_succ_eq_append_getElem (by simpa using hk), List.getElem?_eq_getElem hk]
  simp

set_option maxRecDepth 100000 in
set_option maxHeartbeats 400000 in
theorem all_ok (b : Nat) (room : Int) (G : Option Nat) (xs : List Int) (w : World) (hb : RG w b room G xs) (h : 0 < room) (hm : xs.length ≤ 10000) :
    Calls Try.prog 21 #[.pointer (some ⟨b, 0, none⟩)] w fun e w' => ∃ A c G', e = .returned (.func (.func 35) #[.slice A xs.length c] #[]) ∧ Seg w' 2 1 A xs.length c (xs.map (.int .i64)) G' ∧ (∀ g, G' = some g → w.heap.size ≤ g) ∧ Below w.heap.size w w' := by
  obtain ⟨A, n, c, hb, hs⟩ := hb
  have hn : n = xs.length := by have := hs.1; simp at this; omega
  subst hn
  obtain ⟨i0, hi0, hz0, hz1, hz2⟩ := info_parts Try.infoE
  have hb1 : CB (w.alloc (.cells #[.slice none 0 0] 72)) b 74 #[.int .i64 room, .slice A xs.length c] := hb.alloc _
  have hs1 := hs.alloc (.cells #[.slice none 0 0] 72)
  have hN : CB (w.alloc (.cells #[.slice none 0 0] 72)) w.heap.size 72 #[.slice none 0 0] := CB.new _ _ _
  have hB : Below w.heap.size w (w.alloc (.cells #[.slice none 0 0] 72)) := (Below.refl _ _).alloc (Nat.le_refl _) _
  have hsz : (w.alloc (.cells #[.slice none 0 0] 72)).heap.size = w.heap.size + 1 := by simp
  have hlt := hb.lt
  have c1 := hb1.cell 1
  simp only [List.getElem?_toArray, List.getElem?_cons_succ, List.getElem?_cons_zero] at c1
  refine (callsIn_wide (n := 0)).1 ?_
  refine callsIn_of_wp_marks Try.func21 rfl trivial ?_ rfl
  simp only [Try.ntmps21, List.size_toArray, List.length_cons, List.length_nil, Nat.reduceAdd, Nat.reduceSub, Array.replicate_succ, Array.replicate_zero, List.push_toArray, List.append_toArray, List.nil_append, List.cons_append]
  gi_wp2_with fail
  refine ⟨trivial, rfl, (callsIn_wide.2 (created_yes b room _ _ hb1 h)).mono ?_⟩
  rintro e w' ⟨rfl, rfl⟩
  gi_wp2_with fail
  refine range_law (gf := 35) (fb := #[.slice A xs.length c]) rfl (enters_of Try.func35 (by kernel_rfl) rfl) (each_iter A c xs G (by simp only [maxLen]; omega)) (fun _ => rfl)
    (AllI w xs)
    (fun _ _ => False) ?need ?hI (fun _ _ _ hh _ => hh) ?h0
    (fun k => { tmps := #[.pointer (some ⟨b, 0, none⟩), undef, .nilFunc, .pointer (some ⟨w.heap.size, 0, none⟩), .int .i64 (xs[k]?.getD 0), .pointer (some ⟨b, 0, none⟩), .bool true, .pointer (some ⟨b, 0, none⟩), .pointer (some ⟨b, 0, none⟩), .pointer (some ⟨b, 1, none⟩), .slice A xs.length c, .func (.func 35) #[.slice A xs.length c] #[], .int .i64 (xs[k]?.getD 0), undef, undef, undef, undef, undef, undef], defers := [] }) ?assign ?body ?done ?stop
  case need =>
    rintro k W ⟨A', c', G', _, _, _, hB'⟩
    exact hs.keep fun g hg => hB'.block g (hs.lt g hg)
  case hI =>
    rintro k W o ⟨A', c', G', q1, q2, q3, q4⟩ hbk
    exact ⟨A', c', G', q1.putBook hbk _, q2.putBook hbk _, q3, below_putObj q4 (by simp; omega) _⟩
  case h0 =>
    intro r
    exact ⟨none, 0, none, (hN.alloc _).alloc _, by simpa using Seg.nil _ _ _, (fun _ hg => by cases hg), (hB.alloc (by simp) _).alloc (by simp; omega) _⟩
  case assign =>
    intro l k W K hK
    gi_wp2
    exact hK
  case body =>
    rintro l k W hk ⟨A', c', G', q1, q2, q3, q4⟩ bk1 bk2
    rw [hsz] at bk1 bk2 ⊢
    have hx := take_snoc_map hk
    generalize xs[k]?.getD 0 = x at hx ⊢
    have Hx := Lib.hid hx
    have cN := q1.cell 0
    simp only [List.getElem?_toArray, List.getElem?_cons_zero] at cN
    have hlt2 := bk2.lt
    clear hx hN hB hb1 hs1 c1 hs hb hsz
    gi_wp2_with (gi_at_builtin; refine wpListIn_append_seg _ rfl (.tmp 13) (.tmp 15) _ rfl 2 i0 _ 1 8 Try.underlying72 hi0 hz0 hz1 hz2 rfl (by omega) rfl (q2.alloc _) ⟨W.heap.size, 0, none⟩ 1 1 [.int .i64 x] rfl rfl ?c1 ?c2 (by omega) ?c3 ?c4 ?_)
    case c1 =>
      intro j u hj
      match j, hj with
      | 0, hj => simp at hj; subst hj; exact (CB.new W _ #[.int .i64 x]).cell 0
    case c2 => intro u hu; simp at hu; subst hu; rfl
    case c3 => simp only [maxLen]; omega
    case c4 => omega
    intro A1 c1 G1 w1 hseg hgr hmv
    rw [Hx.out] at hseg
    have hne1 := q2.ne_ q1 (by decide)
    have hb1 : CB w1 w.heap.size 72 #[.slice A' k c'] := (q1.alloc _).same (hgr.block _ (q1.alloc _).lt (fun e => hne1 e.symm))
    have hne2 := hseg.ne_ hb1 (by decide)
    have hk2 : Keep2 (w.heap.size + 1) W w1 := ((Keep2.refl _ W).alloc hlt2 _).grown hgr (by simp; omega) (q2.noBook bk1) (q2.noBook bk2)
    have hB1 : Below w.heap.size w w1 := (q4.alloc q4.size _).grown hgr (by have := q4.size; simp; omega) q3
    have hG1 : ∀ g, G1 = some g → w.heap.size ≤ g := by
      rcases hmv with rfl | ⟨g, rfl, hg⟩
      · exact q3
      · intro g' hg'
        cases hg'
        have := q4.size
        simp at hg
        omega
    have d1 := hb1.cell 0
    have d2 := hb1.frozen 0
    simp only [List.getElem?_toArray, List.getElem?_cons_zero] at d1
    have hend : AllI w xs (k + 1) (w1.setCell ⟨w.heap.size, 0, none⟩ (.slice A1 (k + 1) c1)) :=
      ⟨A1, c1, G1, by simpa using hb1.put 0 (.slice A1 (k + 1) c1), hseg.far (p := ⟨w.heap.size, 0, none⟩) hne2 _, hG1, hB1.setCell (p := ⟨w.heap.size, 0, none⟩) (Nat.le_refl _) _⟩
    have hend2 : Keep2 (w.heap.size + 1) W (w1.setCell ⟨w.heap.size, 0, none⟩ (.slice A1 (k + 1) c1)) := hk2.put (p := ⟨w.heap.size, 0, none⟩) (by simp) (by simp; omega) _
    clear hb1 hseg hgr hmv hne1 hne2 hk2 hB1 hG1 q1 q2 q3 q4 bk1 bk2 hi0 hz0 hz1 hz2 cN
    gi_wp2
    exact ⟨hend2, hend⟩
  case done =>
    rintro W ⟨A', c', G', q1, q2, q3, q4⟩ hK
    rw [hsz] at hK ⊢
    rw [List.take_of_length_le (by simp)] at q2
    have cN := q1.cell 0
    simp only [List.getElem?_toArray, List.getElem?_cons_zero] at cN
    clear hN hB hb1 hs1 c1 hs hb hsz
    gi_wp2
    refine ⟨by simp, .inl ⟨_, _, rfl, run_takeDeferred hK, ?_⟩⟩
    exact ⟨_, results_tmp rfl _ _ _, A', c', G', rfl, q2.putBook (.inr ⟨_, hK⟩) _, q3, below_putObj q4 (by omega) _⟩
  case stop => exact fun _ _ hh => hh.elim

end Go.Proofs.Ytbdejcmlcjljkaa
