/-
  Take of the document's answer of layer 7. Condition: the holds can be read, a hundred thousand at most.
-/
import Derived.Test.YtealcccjnmfkcaaYLqG
import Derived.Deep.CutRange
set_option linter.unusedVariables false
set_option linter.unusedSimpArgs false
namespace Go.Proofs.Ytealcccjnmfkcaa
open Go.RowKit

/-- A call gave holds and a number back. -/
def TRPost (w : World) (L : List Hd) (k : Int) (e : Ending) (w' : World) : Prop :=
  ∃ A n c, e = .returned (.tuple #[.slice A n c, .int .i64 k]) ∧ HR w' A n c L ∧ Below w.heap.size w w'

/-- What the document has made of the first holds. -/
def mid (o : Hd) (d : Bool) (M : List Hd) : List Hd := M.filter (fun p => befB p o) ++ (if d then [o] else []) ++ M.filter (fun p => befB o p)
/-- Was there one that does not stand ahead? -/
def MI (o : Hd) (d : Bool) (M : List Hd) : Prop := if d then ∃ p ∈ M, ¬ bef p o else ∀ p ∈ M, bef p o
theorem MI.zero (o : Hd) : MI o false [] := fun p hp => by simp at hp
theorem mid_zero (o : Hd) : mid o false [] = [] := rfl
theorem mid_len (o : Hd) (d : Bool) (M : List Hd) : (mid o d M).length ≤ M.length + 1 := by
  have := put_len o M
  unfold putT at this
  unfold mid
  cases d <;> simp at this ⊢ <;> omega
section
variable {o x : Hd} {M : List Hd}
theorem fil_no (h : ∀ p ∈ M, bef p o) : M.filter (fun p => befB o p) = [] := by
  rw [List.filter_eq_nil_iff]
  intro p hp
  rw [befB_iff]
  exact bef_asym (h p hp)
/-- Not yet, and the next one stands ahead. -/
theorem mid_a (h : MI o false M) (hx : bef x o) : MI o false (M ++ [x]) ∧ mid o false (M ++ [x]) = mid o false M ++ [x] := by
  have h' : ∀ p ∈ M, bef p o := h
  have a1 : befB x o = true := befB_iff.2 hx
  have a2 : befB o x = false := befB_no.2 (bef_asym hx)
  refine ⟨fun p hp => ?_, ?_⟩
  · rcases List.mem_append.1 hp with hp | hp
    · exact h' p hp
    · simp at hp; subst hp; exact hx
  · unfold mid
    simp [fil_no h', a1, a2]
/-- Not yet, and the next one stands behind. -/
theorem mid_b (h : MI o false M) (hx : bef o x) : MI o true (M ++ [x]) ∧ mid o true (M ++ [x]) = mid o false M ++ [o] ++ [x] := by
  have h' : ∀ p ∈ M, bef p o := h
  have a1 : befB x o = false := befB_no.2 (bef_asym hx)
  have a2 : befB o x = true := befB_iff.2 hx
  refine ⟨⟨x, by simp, bef_asym hx⟩, ?_⟩
  unfold mid
  simp [fil_no h', a1, a2]
/-- Not yet, and the next one is of the same place. -/
theorem mid_c (h : MI o false M) (h1 : ¬ bef x o) (h2 : ¬ bef o x) : MI o true (M ++ [x]) ∧ mid o true (M ++ [x]) = mid o false M ++ [o] := by
  have h' : ∀ p ∈ M, bef p o := h
  have a1 : befB x o = false := befB_no.2 h1
  have a2 : befB o x = false := befB_no.2 h2
  refine ⟨⟨x, by simp, h1⟩, ?_⟩
  unfold mid
  simp [fil_no h', a1, a2]
theorem mid_not (h : MI o true M) (ho : (M ++ [x]).Pairwise bef) : ¬ bef x o := by
  obtain ⟨p, hp, hn⟩ := (show ∃ p ∈ M, ¬ bef p o from h)
  rw [List.pairwise_append] at ho
  exact fun k => hn (bef_trans (ho.2.2 p hp x (by simp)) k)
theorem MI.more (h : MI o true M) : MI o true (M ++ [x]) := by
  obtain ⟨p, hp, hn⟩ := (show ∃ p ∈ M, ¬ bef p o from h)
  exact ⟨p, by simp [hp], hn⟩
/-- Behind it. -/
theorem mid_d (h1 : ¬ bef x o) (hx : bef o x) : mid o true (M ++ [x]) = mid o true M ++ [x] := by
  have a1 : befB x o = false := befB_no.2 h1
  have a2 : befB o x = true := befB_iff.2 hx
  unfold mid
  simp [a1, a2]
theorem mid_e (h1 : ¬ bef x o) (h2 : ¬ bef o x) : mid o true (M ++ [x]) = mid o true M := by
  have a1 : befB x o = false := befB_no.2 h1
  have a2 : befB o x = false := befB_no.2 h2
  unfold mid
  simp [a1, a2]
theorem mid_end_t : mid o true M = putT o M := by simp [mid, putT]
theorem mid_end_f (h : MI o false M) : mid o false M ++ [o] = putT o M := by
  have h' : ∀ p ∈ M, bef p o := h
  unfold mid putT
  simp [fil_no h']
end

set_option maxRecDepth 100000 in
set_option maxHeartbeats 4000000 in
theorem takeR_c (A : Option Addr) (n c : Nat) (tx key : Int) (wb : Bool) (L : List Hd) (w : World) (h : HR w A n c L) (hn : n ≤ 100000) :
    Calls Try.prog 85 #[.slice A n c, .int .i64 tx, .int .u8 key, .bool wb] w (TRPost w (sTake L tx key wb) (eTake L tx key wb)) := by
  have hlen := Lib.hid h.len
  obtain ⟨i0, hi0, hz0, hz1, hz2⟩ := info_parts Try.infoR
  have hri := rightRK_c A n c L w h hn
  go_enter Try.func85, Try.ntmps85
  go_wp2_with fail
  refine hri.mono ?_
  rintro e w1 ⟨rfl, hb1⟩
  clear hri
  cases hr : rightKB L with
  | false =>
    have He := Lib.hid (show eTake L tx key wb = 2 by unfold eTake; rw [if_pos (.inl hr)])
    have Hs := Lib.hid (show sTake L tx key wb = L from sTake_err (by rw [He.out]; omega))
    have H := Lib.hid (show TRPost w (sTake L tx key wb) (eTake L tx key wb) (.returned (.tuple #[.slice A n c, .int .i64 2])) w1 by rw [He.out, Hs.out]; exact ⟨A, n, c, rfl, h.on hb1, hb1⟩)
    clear hb1 h
    go_wp2_with fail
    go_ret2
    exact H.out
  | true =>
    go_wp2_with fail
    refine (may_c key tx wb w1).mono ?_
    rintro e w2 ⟨rfl, hb2⟩
    have hl2 := bel2 hb1 hb2
    clear hb1 hb2
    cases hok : okB ⟨key, tx, wb⟩ with
    | false =>
      have He := Lib.hid (show eTake L tx key wb = 2 by unfold eTake; rw [if_pos (.inr hok)])
      have Hs := Lib.hid (show sTake L tx key wb = L from sTake_err (by rw [He.out]; omega))
      have H := Lib.hid (show TRPost w (sTake L tx key wb) (eTake L tx key wb) (.returned (.tuple #[.slice A n c, .int .i64 2])) w2 by rw [He.out, Hs.out]; exact ⟨A, n, c, rfl, h.on hl2, hl2⟩)
      clear hl2 h
      go_wp2_with fail
      go_ret2
      exact H.out
    | true =>
      have HE0 := Lib.hid (fun (ha : L.any (way tx key wb) = false) => (show eTake L tx key wb = 0 by unfold eTake; rw [if_neg (by rw [hr, hok]; simp), ha]; rfl))
      have HE9 := Lib.hid (fun (ha : L.any (way tx key wb) = true) => (show eTake L tx key wb = 9 by unfold eTake; rw [if_neg (by rw [hr, hok]; simp), ha]; rfl))
      have Hord := Lib.hid ((rightKB_iff.1 hr).2.1)
      clear hr hok
      go_wp2_with fail
      go_loopw [10] (fun i wr => ∃ j : Nat, j ≤ n ∧ i = .int .i64 j ∧ (∀ q ∈ L.take j, way tx key wb q = false) ∧ Below w.heap.size w wr) (fun i _ => n - (intOf i).toNat)
      case atStart => exact ⟨0, by omega, rfl, fun q hq => by simp at hq, hl2⟩
      case round =>
        clear hl2
        obtain ⟨j, hj, rfl, hal, hlow⟩ := hrel
        have Hal := Lib.hid hal
        clear hal
        by_cases hlt : j < n
        · obtain ⟨g, off, rfl, d1, d2, d3⟩ := (h.on hlow).at3 hlt
          have hjl : j < L.length := by rw [hlen.out]; exact hlt
          have htk := Lib.hid (tkK_take (L := L) hjl)
          have Hst := Lib.hid (fun hx : way tx key wb (tkK L j) = true => HE9.out (List.any_eq_true.2 ⟨tkK L j, tkK_mem hjl, hx⟩))
          generalize tkK L j = x at *
          have Hn := Lib.hid (fun hx : way tx key wb x = false => (show ∀ q ∈ L.take (j + 1), way tx key wb q = false by
            rw [htk.out]
            intro q hq
            rcases List.mem_append.1 hq with hq | hq
            · exact Hal.out q hq
            · simp at hq; subst hq; exact hx))
          by_cases hk : x.k = key
          · have hk1 : (x.k == key) = true := by simp [hk]
            by_cases ht : x.t = tx
            · have Hn2 := Lib.hid (Hn.out (by unfold way; simp [ht]))
              have ht1 : (x.t != tx) = false := by simp [ht]
              clear hk ht
              go_wp2_with fail
              go_roundw
              case rel => exact ⟨j + 1, by omega, by go_num, Hn2.out, hlow⟩
              case measure => simp [intOf]; omega
            · have ht1 : (x.t != tx) = true := by simp [ht]
              cases hw : (x.w || wb) with
              | true =>
                have He := Lib.hid (Hst.out (by unfold way; simp [hk, ht]; simpa using hw))
                have Hs := Lib.hid (show sTake L tx key wb = L from sTake_err (by rw [He.out]; omega))
                have H := Lib.hid (show TRPost w (sTake L tx key wb) (eTake L tx key wb) (.returned (.tuple #[.slice (some ⟨g, off, none⟩) n c, .int .i64 9])) wr by rw [He.out, Hs.out]; exact ⟨_, n, c, rfl, h.on hlow, hlow⟩)
                clear hk ht Hn Hst HE0 HE9 htk hlow h
                cases wb with
                | true =>
                  clear hw
                  go_wp2_with fail
                  go_ret2
                  exact H.out
                | false =>
                  have hxw : x.w = true := by simpa using hw
                  rw [hxw] at d3
                  clear hw hxw
                  go_wp2_with fail
                  go_ret2
                  exact H.out
              | false =>
                have Hn2 := Lib.hid (Hn.out (by unfold way; rw [hw]; simp))
                obtain ⟨hxw, hwr⟩ : x.w = false ∧ wb = false := by simpa using hw
                rw [hxw] at d3
                subst hwr
                clear hk ht hw hxw
                go_wp2_with fail
                go_roundw
                case rel => exact ⟨j + 1, by omega, by go_num, Hn2.out, hlow⟩
                case measure => simp [intOf]; omega
          · have Hn2 := Lib.hid (Hn.out (by unfold way; simp [hk]))
            have hk1 : (x.k == key) = false := by simp [hk]
            clear hk
            go_wp2_with fail
            go_roundw
            case rel => exact ⟨j + 1, by omega, by go_num, Hn2.out, hlow⟩
            case measure => simp [intOf]; omega
        · obtain rfl : j = n := by omega
          have He := Lib.hid (HE0.out (by
            have := Hal.out
            rw [List.take_of_length_le (by rw [hlen.out]; exact Nat.le_refl _)] at this
            rw [List.any_eq_false]
            intro q hq
            rw [this q hq]
            simp))
          have Hs := Lib.hid (show sTake L tx key wb = putT (ownH L tx key wb) L from sTake_ok He.out)
          clear HE0 HE9 Hal
          obtain ⟨o, ho⟩ : ∃ o, ownH L tx key wb = o := ⟨_, rfl⟩
          have hok : o.k = key := by rw [← ho]; rfl
          have hot : o.t = tx := by rw [← ho]; rfl
          rw [ho] at Hs
          have H0 := Lib.hid (show wb = true → o.w = true from fun h => by rw [← ho, h]; unfold ownH; simp)
          have H1 := Lib.hid (show wb = false → o.w = (hold L tx key == 2) from fun h => by rw [← ho, h]; unfold ownH; rw [Bool.false_or]; rfl)
          clear ho
          go_upto_region 8 with fail
          go_cut [11] from 58 to 68 (fun s11 wx => ∃ b, s11 = .pointer (some ⟨b, 0, none⟩) ∧ CB wx b 172 #[.int .u8 key, .int .i64 tx, .bool o.w] ∧ w.heap.size ≤ b ∧ Below w.heap.size w wx)
          case first =>
            cases wb with
            | true =>
              have hw1 := Lib.hid (H0.out rfl)
              go_wp2_with fail
              go_meet
              case rel => exact ⟨wr.heap.size, rfl, by rw [hw1.out]; exact CB.new _ _ _, hlow.size, hlow.alloc hlow.size _⟩
            | false =>
              have hw1 := Lib.hid (H1.out rfl)
              have hho := holdsR_c A j c tx key L wr (h.on hlow) hn
              generalize hold L tx key = hh at *
              go_wp2_with fail
              refine hho.mono ?_
              rintro e w4 ⟨rfl, hb4⟩
              have hl4 := bel2 hlow hb4
              clear hho hb4 hlow
              go_wp2_with fail
              go_meet
              case rel => exact ⟨w4.heap.size, rfl, by rw [hw1.out]; exact CB.new _ _ _, hl4.size, hl4.alloc hl4.size _⟩
          case rest =>
            obtain ⟨b, rfl, cb, hbs, hl5⟩ := hcut
            clear hlow H0 H1
            generalize wc = V at *
            go_wp2_with fail
            go_loopw [12, 13, 14] (fun v d i wr => ∃ (q : Nat) (dn : Bool), q ≤ j ∧ i = .int .i64 q ∧ d = .bool dn ∧ MI o dn (L.take q) ∧ OS V 172 3 (rc hc (mid o dn (L.take q))) v wr) (fun _ _ i _ => j - (intOf i).toNat)
            case atStart => exact ⟨0, false, by omega, rfl, rfl, MI.zero o, OS.start V _ _ (Below.refl _ _)⟩
            case round =>
              obtain ⟨q, dn, hq, rfl, rfl, hmi, hos⟩ := hrel
              have Hmi := Lib.hid hmi
              clear hmi
              have hlow := hos.low
              have cb1 := cb.same (hlow.block _ cb.lt)
              have c0 := cb1.cell 0
              have c1 := cb1.cell 1
              have c2 := cb1.cell 2
              simp only [List.getElem?_toArray, List.getElem?_cons_zero, List.getElem?_cons_succ] at c0 c1 c2
              have hml := mid_len o dn (L.take q)
              rw [List.length_take] at hml
              obtain ⟨A0, m, c0', G, rfl, hsg, hG⟩ := hos.out
              rw [rc_len hsg] at hml
              have hm : m ≤ q + 1 := by omega
              have p0 : 0 < 1 := by omega
              have p03 : 0 < 3 := by omega
              obtain ⟨p3, p4⟩ := app3 (n := m) (by omega)
              obtain ⟨p5, p6⟩ := app3 (n := m + 1) (by omega)
              clear hml cb1
              have hco : hc o = [.int .u8 key, .int .i64 tx, .bool o.w] := by unfold hc; rw [hok, hot]
              have Hco := Lib.hid hco
              clear hco
              by_cases hlt2 : q < j
              · obtain ⟨g, off, rfl, d1, d2, d3⟩ := (h.on (bel2 hl5 hlow)).at3 hlt2
                have hql : q < L.length := by rw [hlen.out]; exact hlt2
                have htk := Lib.hid (tkK_take (L := L) hql)
                have Hpw := Lib.hid (show (L.take q ++ [tkK L q]).Pairwise bef by rw [← tkK_take hql]; exact Hord.out.sublist (List.take_sublist _ _))
                obtain ⟨x, hx⟩ : ∃ x, tkK L q = x := ⟨_, rfl⟩
                have Htx := Lib.hid hx
                rw [hx] at d1 d2 d3 htk Hpw
                clear hx
                have Ho1 := Lib.hid hok
                have Ho2 := Lib.hid hot
                clear hok hot
                cases dn with
                | false =>
                  rcases (show x.k < key ∨ (x.k = key ∧ x.t < tx) ∨ key < x.k ∨ (key = x.k ∧ tx < x.t) ∨ (x.k = key ∧ x.t = tx) by omega) with hc1 | ⟨hc1, hc2⟩ | hc1 | ⟨hc1, hc2⟩ | ⟨hc1, hc2⟩
                  · have Hnx := Lib.hid (show MI o false (L.take (q + 1)) ∧ mid o false (L.take (q + 1)) = mid o false (L.take q) ++ [x] by rw [htk.out]; exact mid_a Hmi.out (show bef x o by unfold bef; rw [Ho1.out, Ho2.out]; omega))
                    have e1 : (key == x.k) = false := by simp; omega
                    have e2 : (x.k != key) = true := by simp; omega
                    have e3 : ¬ key < x.k := by omega
                    clear hc1
                    generalize mid o false (L.take q) = M at *
                    have hlowx := Lib.hid (hlow.alloc hlow.size (.cells #[.int .u8 x.k, .int .i64 x.t, .bool x.w] 172))
                    go_wp2_with (at_builtin; refine wpList_append_seg _ rfl (.tmp 124) (.tmp 129) _ rfl 172 i0 _ 3 24 Try.underlying27 hi0 hz0 hz1 hz2 rfl p03 rfl (hsg.alloc _) ⟨wr.heap.size, 0, none⟩ 1 1 (hc x) rfl rfl (cells_at _ _ (hc x) _ rfl) (hc_one x) p0 p3 p4 ?_; intro A1 k1' G1 w1 n1 m1 r1; refine Stay.mk ?_)
                    refine Stay.open_ ?_
                    rw [rc_snoc] at n1
                    have hnext := Lib.hid (OS.app hlowx.out hG n1 m1 r1)
                    clear n1 m1 r1 hlowx
                    clear d1 d2 d3 c0 c1 c2 hsg hos hlow
                    go_wp2_with fail
                    go_roundw
                    case rel => exact ⟨q + 1, false, by omega, by go_num, rfl, Hnx.out.1, by rw [Hnx.out.2]; exact hnext.out⟩
                    case measure => simp [intOf]; omega
                  · have Hnx := Lib.hid (show MI o false (L.take (q + 1)) ∧ mid o false (L.take (q + 1)) = mid o false (L.take q) ++ [x] by rw [htk.out]; exact mid_a Hmi.out (show bef x o by unfold bef; rw [Ho1.out, Ho2.out]; omega))
                    have e1 : (key == x.k) = true := by simp; omega
                    have e2 : (x.k != key) = false := by simp; omega
                    have e3 : ¬ key < x.k := by omega
                    have e4 : ¬ tx ≤ x.t := by omega
                    have e5 : (x.t != tx) = true := by simp; omega
                    clear hc1 hc2
                    generalize mid o false (L.take q) = M at *
                    have hlowx := Lib.hid (hlow.alloc hlow.size (.cells #[.int .u8 x.k, .int .i64 x.t, .bool x.w] 172))
                    go_wp2_with (at_builtin; refine wpList_append_seg _ rfl (.tmp 124) (.tmp 129) _ rfl 172 i0 _ 3 24 Try.underlying27 hi0 hz0 hz1 hz2 rfl p03 rfl (hsg.alloc _) ⟨wr.heap.size, 0, none⟩ 1 1 (hc x) rfl rfl (cells_at _ _ (hc x) _ rfl) (hc_one x) p0 p3 p4 ?_; intro A1 k1' G1 w1 n1 m1 r1; refine Stay.mk ?_)
                    refine Stay.open_ ?_
                    rw [rc_snoc] at n1
                    have hnext := Lib.hid (OS.app hlowx.out hG n1 m1 r1)
                    clear n1 m1 r1 hlowx
                    clear d1 d2 d3 c0 c1 c2 hsg hos hlow
                    go_wp2_with fail
                    go_roundw
                    case rel => exact ⟨q + 1, false, by omega, by go_num, rfl, Hnx.out.1, by rw [Hnx.out.2]; exact hnext.out⟩
                    case measure => simp [intOf]; omega
                  · have Hnx := Lib.hid (show MI o true (L.take (q + 1)) ∧ mid o true (L.take (q + 1)) = mid o false (L.take q) ++ [o] ++ [x] by rw [htk.out]; exact mid_b Hmi.out (show bef o x by unfold bef; rw [Ho1.out, Ho2.out]; omega))
                    have e2 : (x.k != key) = true := by simp; omega
                    have e3 : key < x.k := by omega
                    clear hc1
                    generalize mid o false (L.take q) = M at *
                    have hlowx := Lib.hid (hlow.alloc hlow.size (.cells #[.int .u8 x.k, .int .i64 x.t, .bool x.w] 172))
                    have hlowo := Lib.hid (hlow.alloc hlow.size (.cells [.int .u8 key, .int .i64 tx, .bool o.w].toArray 172))
                    go_wp2_with (at_builtin; refine wpList_append_seg _ rfl (.tmp 104) (.tmp 106) _ rfl 172 i0 _ 3 24 Try.underlying27 hi0 hz0 hz1 hz2 rfl p03 rfl (hsg.alloc _) ⟨wr.heap.size, 0, none⟩ 1 1 (hc o) rfl rfl (by rw [Hco.out]; exact cells_at _ _ [.int .u8 key, .int .i64 tx, .bool o.w] _ rfl) (hc_one o) p0 p3 p4 ?_; intro A2 c2' G2 w2 n2 m2 r2; refine Stay.mk ?_)
                    refine Stay.open_ ?_
                    rw [rc_snoc] at n2
                    have hb2 := hlowo.out.grown m2 hlowo.out.size hG
                    have hG2 := r2.ge (B := V.heap.size) hlowo.out.size hG
                    obtain ⟨g9, off9, hA9, d4, d5, d6⟩ := (h.on (bel2 hl5 hb2)).at3 hlt2
                    cases hA9
                    rw [Htx.out] at d4 d5 d6
                    have hlowx2 := Lib.hid (hb2.alloc hb2.size (.cells #[.int .u8 x.k, .int .i64 x.t, .bool x.w] 172))
                    clear m2 r2 hlowx hlowo
                    clear d1 d2 d3 c0 c1 c2 hsg hos hlow
                    go_wp2_with (at_builtin; refine wpList_append_seg _ rfl (.tmp 124) (.tmp 129) _ rfl 172 i0 _ 3 24 Try.underlying27 hi0 hz0 hz1 hz2 rfl p03 rfl (n2.alloc _) ⟨w2.heap.size, 0, none⟩ 1 1 (hc x) rfl rfl (cells_at _ _ (hc x) _ rfl) (hc_one x) p0 p5 p6 ?_; intro A1 k1' G1 w1 n1 m1 r1; refine Stay.mk ?_)
                    refine Stay.open_ ?_
                    rw [rc_snoc] at n1
                    have hnext := Lib.hid (OS.app hlowx2.out hG2 n1 m1 r1)
                    clear n1 m1 r1 hlowx2 n2 hb2 d4 d5 d6
                    go_wp2_with fail
                    go_roundw
                    case rel => exact ⟨q + 1, true, by omega, by go_num, rfl, Hnx.out.1, by rw [Hnx.out.2]; exact hnext.out⟩
                    case measure => simp [intOf]; omega
                  · have Hnx := Lib.hid (show MI o true (L.take (q + 1)) ∧ mid o true (L.take (q + 1)) = mid o false (L.take q) ++ [o] ++ [x] by rw [htk.out]; exact mid_b Hmi.out (show bef o x by unfold bef; rw [Ho1.out, Ho2.out]; omega))
                    have e1 : (key == x.k) = true := by simp; omega
                    have e2 : (x.k != key) = false := by simp; omega
                    have e3 : ¬ key < x.k := by omega
                    have e4 : tx ≤ x.t := by omega
                    have e5 : (x.t != tx) = true := by simp; omega
                    clear hc1 hc2
                    generalize mid o false (L.take q) = M at *
                    have hlowx := Lib.hid (hlow.alloc hlow.size (.cells #[.int .u8 x.k, .int .i64 x.t, .bool x.w] 172))
                    have hlowo := Lib.hid (hlow.alloc hlow.size (.cells [.int .u8 key, .int .i64 tx, .bool o.w].toArray 172))
                    go_wp2_with (at_builtin; refine wpList_append_seg _ rfl (.tmp 104) (.tmp 106) _ rfl 172 i0 _ 3 24 Try.underlying27 hi0 hz0 hz1 hz2 rfl p03 rfl (hsg.alloc _) ⟨wr.heap.size, 0, none⟩ 1 1 (hc o) rfl rfl (by rw [Hco.out]; exact cells_at _ _ [.int .u8 key, .int .i64 tx, .bool o.w] _ rfl) (hc_one o) p0 p3 p4 ?_; intro A2 c2' G2 w2 n2 m2 r2; refine Stay.mk ?_)
                    refine Stay.open_ ?_
                    rw [rc_snoc] at n2
                    have hb2 := hlowo.out.grown m2 hlowo.out.size hG
                    have hG2 := r2.ge (B := V.heap.size) hlowo.out.size hG
                    obtain ⟨g9, off9, hA9, d4, d5, d6⟩ := (h.on (bel2 hl5 hb2)).at3 hlt2
                    cases hA9
                    rw [Htx.out] at d4 d5 d6
                    have hlowx2 := Lib.hid (hb2.alloc hb2.size (.cells #[.int .u8 x.k, .int .i64 x.t, .bool x.w] 172))
                    clear m2 r2 hlowx hlowo
                    clear d1 d2 d3 c0 c1 c2 hsg hos hlow
                    go_wp2_with (at_builtin; refine wpList_append_seg _ rfl (.tmp 124) (.tmp 129) _ rfl 172 i0 _ 3 24 Try.underlying27 hi0 hz0 hz1 hz2 rfl p03 rfl (n2.alloc _) ⟨w2.heap.size, 0, none⟩ 1 1 (hc x) rfl rfl (cells_at _ _ (hc x) _ rfl) (hc_one x) p0 p5 p6 ?_; intro A1 k1' G1 w1 n1 m1 r1; refine Stay.mk ?_)
                    refine Stay.open_ ?_
                    rw [rc_snoc] at n1
                    have hnext := Lib.hid (OS.app hlowx2.out hG2 n1 m1 r1)
                    clear n1 m1 r1 hlowx2 n2 hb2 d4 d5 d6
                    go_wp2_with fail
                    go_roundw
                    case rel => exact ⟨q + 1, true, by omega, by go_num, rfl, Hnx.out.1, by rw [Hnx.out.2]; exact hnext.out⟩
                    case measure => simp [intOf]; omega
                  · have Hnx := Lib.hid (show MI o true (L.take (q + 1)) ∧ mid o true (L.take (q + 1)) = mid o false (L.take q) ++ [o] by rw [htk.out]; exact mid_c Hmi.out (show ¬ bef x o by unfold bef; rw [Ho1.out, Ho2.out]; omega) (show ¬ bef o x by unfold bef; rw [Ho1.out, Ho2.out]; omega))
                    have e1 : (key == x.k) = true := by simp; omega
                    have e2 : (x.k != key) = false := by simp; omega
                    have e3 : ¬ key < x.k := by omega
                    have e4 : tx ≤ x.t := by omega
                    have e5 : (x.t != tx) = false := by simp; omega
                    clear hc1 hc2
                    generalize mid o false (L.take q) = M at *
                    have hlowx := Lib.hid (hlow.alloc hlow.size (.cells #[.int .u8 x.k, .int .i64 x.t, .bool x.w] 172))
                    have hlowo := Lib.hid (hlow.alloc hlow.size (.cells [.int .u8 key, .int .i64 tx, .bool o.w].toArray 172))
                    go_wp2_with (at_builtin; refine wpList_append_seg _ rfl (.tmp 104) (.tmp 106) _ rfl 172 i0 _ 3 24 Try.underlying27 hi0 hz0 hz1 hz2 rfl p03 rfl (hsg.alloc _) ⟨wr.heap.size, 0, none⟩ 1 1 (hc o) rfl rfl (by rw [Hco.out]; exact cells_at _ _ [.int .u8 key, .int .i64 tx, .bool o.w] _ rfl) (hc_one o) p0 p3 p4 ?_; intro A2 c2' G2 w2 n2 m2 r2; refine Stay.mk ?_)
                    refine Stay.open_ ?_
                    rw [rc_snoc] at n2
                    have hnext := Lib.hid (OS.app hlowo.out hG n2 m2 r2)
                    have hb2 := hlowo.out.grown m2 hlowo.out.size hG
                    obtain ⟨g9, off9, hA9, d4, d5, d6⟩ := (h.on (bel2 hl5 hb2)).at3 hlt2
                    cases hA9
                    rw [Htx.out] at d4 d5 d6
                    clear n2 m2 r2 hlowx hlowo
                    clear d1 d2 d3 c0 c1 c2 hsg hos hlow
                    go_wp2_with fail
                    go_roundw
                    case rel => exact ⟨q + 1, true, by omega, by go_num, rfl, Hnx.out.1, by rw [Hnx.out.2]; exact hnext.out⟩
                    case measure => simp [intOf]; omega
                | true =>
                  have Hnb := Lib.hid (mid_not Hmi.out Hpw.out)
                  rcases (show (x.k < key ∨ (x.k = key ∧ x.t < tx)) ∨ key < x.k ∨ (key = x.k ∧ tx < x.t) ∨ (x.k = key ∧ x.t = tx) by omega) with hc1 | hc1 | ⟨hc1, hc2⟩ | ⟨hc1, hc2⟩
                  · exact absurd (show bef x o by unfold bef; rw [Ho1.out, Ho2.out]; exact hc1) Hnb.out
                  · have Hnx := Lib.hid (show MI o true (L.take (q + 1)) ∧ mid o true (L.take (q + 1)) = mid o true (L.take q) ++ [x] by rw [htk.out]; exact ⟨Hmi.out.more, mid_d Hnb.out (show bef o x by unfold bef; rw [Ho1.out, Ho2.out]; omega)⟩)
                    have e2 : (x.k != key) = true := by simp; omega
                    have e3 : key < x.k := by omega
                    clear hc1
                    generalize mid o true (L.take q) = M at *
                    have hlowx := Lib.hid (hlow.alloc hlow.size (.cells #[.int .u8 x.k, .int .i64 x.t, .bool x.w] 172))
                    go_wp2_with (at_builtin; refine wpList_append_seg _ rfl (.tmp 124) (.tmp 129) _ rfl 172 i0 _ 3 24 Try.underlying27 hi0 hz0 hz1 hz2 rfl p03 rfl (hsg.alloc _) ⟨wr.heap.size, 0, none⟩ 1 1 (hc x) rfl rfl (cells_at _ _ (hc x) _ rfl) (hc_one x) p0 p3 p4 ?_; intro A1 k1' G1 w1 n1 m1 r1; refine Stay.mk ?_)
                    refine Stay.open_ ?_
                    rw [rc_snoc] at n1
                    have hnext := Lib.hid (OS.app hlowx.out hG n1 m1 r1)
                    clear n1 m1 r1 hlowx
                    clear d1 d2 d3 c0 c1 c2 hsg hos hlow
                    go_wp2_with fail
                    go_roundw
                    case rel => exact ⟨q + 1, true, by omega, by go_num, rfl, Hnx.out.1, by rw [Hnx.out.2]; exact hnext.out⟩
                    case measure => simp [intOf]; omega
                  · have Hnx := Lib.hid (show MI o true (L.take (q + 1)) ∧ mid o true (L.take (q + 1)) = mid o true (L.take q) ++ [x] by rw [htk.out]; exact ⟨Hmi.out.more, mid_d Hnb.out (show bef o x by unfold bef; rw [Ho1.out, Ho2.out]; omega)⟩)
                    have e1 : (key == x.k) = true := by simp; omega
                    have e2 : (x.k != key) = false := by simp; omega
                    have e3 : ¬ key < x.k := by omega
                    have e4 : tx ≤ x.t := by omega
                    have e5 : (x.t != tx) = true := by simp; omega
                    clear hc1 hc2
                    generalize mid o true (L.take q) = M at *
                    have hlowx := Lib.hid (hlow.alloc hlow.size (.cells #[.int .u8 x.k, .int .i64 x.t, .bool x.w] 172))
                    go_wp2_with (at_builtin; refine wpList_append_seg _ rfl (.tmp 124) (.tmp 129) _ rfl 172 i0 _ 3 24 Try.underlying27 hi0 hz0 hz1 hz2 rfl p03 rfl (hsg.alloc _) ⟨wr.heap.size, 0, none⟩ 1 1 (hc x) rfl rfl (cells_at _ _ (hc x) _ rfl) (hc_one x) p0 p3 p4 ?_; intro A1 k1' G1 w1 n1 m1 r1; refine Stay.mk ?_)
                    refine Stay.open_ ?_
                    rw [rc_snoc] at n1
                    have hnext := Lib.hid (OS.app hlowx.out hG n1 m1 r1)
                    clear n1 m1 r1 hlowx
                    clear d1 d2 d3 c0 c1 c2 hsg hos hlow
                    go_wp2_with fail
                    go_roundw
                    case rel => exact ⟨q + 1, true, by omega, by go_num, rfl, Hnx.out.1, by rw [Hnx.out.2]; exact hnext.out⟩
                    case measure => simp [intOf]; omega
                  · have Hnx := Lib.hid (show MI o true (L.take (q + 1)) ∧ mid o true (L.take (q + 1)) = mid o true (L.take q) by rw [htk.out]; exact ⟨Hmi.out.more, mid_e Hnb.out (show ¬ bef o x by unfold bef; rw [Ho1.out, Ho2.out]; omega)⟩)
                    have e1 : (key == x.k) = true := by simp; omega
                    have e2 : (x.k != key) = false := by simp; omega
                    have e3 : ¬ key < x.k := by omega
                    have e4 : tx ≤ x.t := by omega
                    have e5 : (x.t != tx) = false := by simp; omega
                    clear hc1 hc2
                    generalize mid o true (L.take q) = M at *
                    have hlowx := Lib.hid (hlow.alloc hlow.size (.cells #[.int .u8 x.k, .int .i64 x.t, .bool x.w] 172))
                    have hnext := Lib.hid hos
                    clear hlowx
                    clear c0 c1 c2 hsg hos hlow
                    go_wp2_with fail
                    go_roundw
                    case rel => exact ⟨q + 1, true, by omega, by go_num, rfl, Hnx.out.1, by rw [Hnx.out.2]; exact hnext.out⟩
                    case measure => simp [intOf]; omega
              · obtain rfl : q = j := by omega
                rw [List.take_of_length_le (by rw [hlen.out]; exact Nat.le_refl _)] at hos hsg Hmi
                cases dn with
                | false =>
                  have Hfin := Lib.hid (mid_end_f Hmi.out)
                  go_wp2_with (at_builtin; refine wpList_append_seg _ rfl (.tmp 133) (.tmp 135) _ rfl 172 i0 _ 3 24 Try.underlying27 hi0 hz0 hz1 hz2 rfl p03 rfl (hsg.alloc _) ⟨wr.heap.size, 0, none⟩ 1 1 (hc o) rfl rfl (by rw [Hco.out]; exact cells_at _ _ [.int .u8 key, .int .i64 tx, .bool o.w] _ rfl) (hc_one o) p0 p3 p4 ?_; intro A1 k1' G1 w1 n1 m1 r1; refine Stay.mk ?_)
                  refine Stay.open_ ?_
                  rw [rc_snoc, Hfin.out, ← Hs.out] at n1
                  have hl6 := (hlow.alloc hlow.size (.cells [.int .u8 key, .int .i64 tx, .bool o.w].toArray 172)).grown m1 (by simp; have := hlow.size; omega) hG
                  have H := Lib.hid (show TRPost w (sTake L tx key wb) (eTake L tx key wb) (.returned (.tuple #[.slice A1 (m + 1) k1', .int .i64 0])) w1 by rw [He.out]; exact ⟨_, _, _, rfl, RR.of_seg n1, bel2 hl5 hl6⟩)
                  clear hsg n1 m1 r1 hlow hl5 hl6 c0 c1 c2 cb h hos
                  go_wp2_with fail
                  go_ret2
                  exact H.out
                | true =>
                  rw [mid_end_t, ← Hs.out] at hsg
                  have H := Lib.hid (show TRPost w (sTake L tx key wb) (eTake L tx key wb) (.returned (.tuple #[.slice A0 m c0', .int .i64 0])) wr by rw [He.out]; exact ⟨_, _, _, rfl, RR.of_seg hsg, bel2 hl5 hlow⟩)
                  clear hsg hlow hl5 c0 c1 c2 cb h hos
                  go_wp2_with fail
                  go_ret2
                  exact H.out
end Go.Proofs.Ytealcccjnmfkcaa
