/-
  keysOf of package chair, the walk. Conditions: the map's keys are below a thousand; the function that is handed in answers by the deal alone.
-/
import Derived.Test.YtjfmahceolhfnaaChG
set_option linter.unusedVariables false
set_option linter.unusedSimpArgs false
set_option linter.unusedSectionVars false
namespace Go.Proofs.Ytjfmahceolhfnaa
open Go.RowKit Go.Maps

theorem Try.infoI : (Try.prog.info? 3).map (fun i => (i.zero, i.size, i.bytes)) = some (some (.int .i64 0), 1, 8) := by kernel_rfl
section
variable {P : Program} {k : TypeId} {R : Value → Option (DataW Value × List MemPlace)} {w w' : World} {b r n : Nat} {D : DataW Value} {left : Lit → Bool} {cnt : Nat}
theorem rg_same (h : w.ranges P k R b r n D left cnt) (hm : w'.heap[b]? = w.heap[b]?) (hr : w'.heap[r]? = w.heap[r]?) : w'.ranges P k R b r n D left cnt := by
  obtain ⟨es, clock, since, seen, c0, hb, F, hs, hD, hi, rest⟩ := h
  exact ⟨es, clock, since, seen, c0, hm.trans hb, F, hs, hD, hr.trans hi, rest⟩
theorem rg_on (h : w.ranges P k R b r n D left cnt) (hb : Below w.heap.size w w') : w'.ranges P k R b r n D left cnt := rg_same h (hb.block _ h.owns.lt) (hb.block _ h.lt)
theorem rg_apart (h : w.ranges P k R b r n D left cnt) {g : Nat} {T : TypeId} {cs : Array Value} (hc : CB w g T cs) : b ≠ g ∧ r ≠ g := by
  obtain ⟨es, clock, since, seen, c0, hb, F, hs, hD, hi, rest⟩ := h
  have h' : w.heap[g]? = some (.cells cs T (0, 0)) := hc
  exact ⟨fun e => (by rw [e, h'] at hb; cases hb), fun e => (by rw [e, h'] at hi; cases hi)⟩
theorem rg_wr (h : w.ranges P k R b r n D left cnt) {g : Nat} (q : Wr w w' g) {T : TypeId} {cs : Array Value} (hc : CB w g T cs) : w'.ranges P k R b r n D left cnt := rg_same h (q.far _ (rg_apart h hc).1) (q.far _ (rg_apart h hc).2)
theorem seg_type {e : TypeId} {size : Nat} {A : Option Addr} {n c : Nat} {xs : List Value} {g : Nat} (h : Seg w e size A n c xs (some g)) : ∃ cs, CB w g e cs := by
  rcases h.2.2.2 with ⟨_, _, h0⟩ | ⟨g', off, cur, _, h3, h4, _⟩
  · cases h0
  · cases h3; exact ⟨cur, h4⟩
theorem rg_seg (h : w.ranges P k R b r n D left cnt) {e : TypeId} {size : Nat} {A : Option Addr} {m c : Nat} {xs : List Value} {G : Option Nat} (hs : Seg w e size A m c xs G) : some b ≠ G ∧ some r ≠ G := by
  cases G with
  | none => exact ⟨by simp, by simp⟩
  | some g =>
    obtain ⟨cs, hc⟩ := seg_type hs
    obtain ⟨h1, h2⟩ := rg_apart h hc
    exact ⟨fun e => h1 (by cases e; rfl), fun e => h2 (by cases e; rfl)⟩
theorem OS.turn {w0 : World} {T : TypeId} {size : Nat} {xs : List Value} {v : Value} (h : OS w0 T size xs v w) (hr : w.ranges P k R b r n D left cnt) (hg : w.grownBy w' (some r)) (h0 : w0.heap.size ≤ r) : OS w0 T size xs v w' := by
  obtain ⟨⟨A, m, c, G, h1, h2, h3⟩, h4⟩ := h
  exact ⟨⟨A, m, c, G, h1, h2.keep fun g e => hg.block g (h2.lt g e) (fun e' => (rg_seg hr h2).2 (by rw [e]; exact e'.symm)), h3⟩, h4.grown hg h4.size (fun j e => by cases e; exact h0)⟩
theorem OS.wr {w0 : World} {T U : TypeId} {size : Nat} {xs : List Value} {v : Value} (h : OS w0 T size xs v w) {g : Nat} (q : Wr w w' g) {cs : Array Value} (hc : CB w g U cs) (hne : T ≠ U) (h0 : w0.heap.size ≤ g) : OS w0 T size xs v w' := by
  obtain ⟨⟨A, m, c, G, h1, h2, h3⟩, h4⟩ := h
  exact ⟨⟨A, m, c, G, h1, h2.keep fun g' e => q.far g' (fun e' => h2.ne_ hc hne (by rw [e, e'])), h3⟩, q.bel _ _ h4 h0⟩
end
/-- A function value answers p of any deal, in any world that has grown out of w. -/
def Tells (w : World) (F : Nat) (caps : Array Value) (p : Dl → Bool) : Prop :=
  ∀ (W : World) (d : Dl), Below w.heap.size w W → Calls Try.prog F (#[.agg (dA d)] ++ caps) W fun e w' => e = .returned (.bool (p d)) ∧ Below W.heap.size W w'

set_option maxRecDepth 100000 in
set_option maxHeartbeats 2000000 in
theorem keysOf_c (m F : Nat) (caps : Array Value) (p : Dl → Bool) (D : DM) (w : World) (h : MD w m D) (hf : Few D) (hE : Enters Try.prog F) (hF : Tells w F caps p) :
    Calls Try.prog 27 #[.map (some m), .func (.func F) #[] caps] w (RPost w 3 zc 1 (keysF D p)) := by
  obtain ⟨i0, hi0, hz0, hz1, hz2⟩ := parts_of Try.infoI
  obtain ⟨Dt, hown, hRd⟩ := h
  go_enter Try.func27, Try.ntmps27
  go_wp2_with (at_range; refine wpList_range_own _ rfl _ 63 rfl 3 44 lawI Try.underlying63 _ m 1000 _ rfl hown ?_; intro w0 hrg0 hg0 hs0; refine Stay.mk ?_)
  refine Stay.open_ ?_
  have k0 : Below w.heap.size w w0 := grown_below hg0 (Nat.le_refl _) (fun g e => by cases e)
  have hC0 := Coll.start (p := p) hRd
  clear hg0 hown
  go_wp2_with fail
  go_loopw [5] (fun lv wr => ∃ (ss : List Nat) (left : Lit → Bool) (cnt : Nat), Hid (Coll D p left ss) ∧ wr.ranges Try.prog 3 RV m w.heap.size 1000 Dt left cnt ∧ OS w 3 1 (rc zc ss) lv wr) (fun _ wr => wr.rangeLeft m w.heap.size)
  case atStart => exact ⟨[], _, _, Lib.hid hC0, hrg0, OS.start _ _ _ k0⟩
  case round =>
    clear hrg0 k0 hC0 hs0
    obtain ⟨ss, left, cnt, HC, hrg, hos⟩ := hrel
    go_wp2_with (at_next; refine wpList_next_ranges _ rfl _ rfl 3 lawI RV (Value.int .i64) (fun v : Value => v) (fun key kl hk => by obtain ⟨x, hx, _⟩ := Maps.keyOf_int_inv Try.underlying3 hk; exact ⟨x, hx⟩) (fun v y hv => ⟨v, rfl⟩) m w.heap.size 1000 _ _ _ rfl hrg ?_ ?_)
    · intro hc0 hl0
      obtain ⟨⟨A, n, c, G, rfl, hsg, hG⟩, hlow⟩ := hos
      have hsort := sortI_c wr A n c G D p ss hsg (HC.out.perm hf hl0)
      have Hlow := Lib.hid hlow
      clear HC hrg hsg hlow hl0 hc0
      go_wp2_with fail
      (with_reducible refine hsort.mono ?_)
      rintro e w1 ⟨rfl, s1, s2⟩
      have H := Lib.hid (show RPost w 3 zc 1 (keysF D p) (.returned (.slice A n c)) w1 from ⟨A, n, c, rfl, ⟨G, s1⟩, Hlow.out.grown s2 Hlow.out.size hG⟩)
      clear s1 s2 Hlow hsort hG
      go_wp2_with fail
      go_ret
      exact H.out
    · intro x c kl yd yp w2 cnt2 hkey hlk hv hat hrg2 hlt hg2 hs2 hen
      obtain ⟨x', ex, rfl, hwx⟩ := Maps.keyOf_int_inv Try.underlying3 hkey
      obtain rfl : x = x' := by cases ex; rfl
      have hex : ∃ (t : Nat) (d : Dl), x = (t : Int) ∧ D t = some d ∧ c = .agg (dA d) := by
        obtain ⟨r1, r2⟩ := hRd x
        have hhas : has Dt (.int .i64 x) = true := has_true_of_atKey hat
        rw [r1] at hhas
        unfold fnV at hhas r2
        by_cases h0 : 0 ≤ x
        · rw [if_pos h0] at hhas r2
          cases hd : D x.toNat with
          | none => rw [hd] at hhas; cases hhas
          | some d =>
            rw [hd] at r2
            have e1 := r2 _ rfl (.held c)
            rw [hat] at e1
            unfold RV at hv
            cases hv
            cases e1
            exact ⟨x.toNat, d, by omega, hd, rfl⟩
        · rw [if_neg h0] at hhas; cases hhas
      obtain ⟨t, d, rfl, hd, rfl⟩ := hex
      have HC2 := Lib.hid (HC.out.step hd hlk)
      have hlen := HC.out.len hf
      have hos2 := hos.turn hrg hg2 (Nat.le_refl _)
      have Hle := Lib.hid hrg.left_eq
      have Hlt := Lib.hid hlt
      clear HC hos hrg hg2 hs2 hkey hlk hv hat ex hwx hd hlt
      go_wp2_with (first | ((with_reducible refine st_alloc 44 (dA zeroD) ?_ ?_); exact zero_dl))
      refine ⟨fun V1 g1 n1 f1 => ?_⟩
      have up1 : w.heap.size ≤ g1 := f1.up hos2.low
      have bl1 := f1.bel
      have hrg3 := rg_on hrg2 bl1
      have hos3 := hos2.on bl1
      clear f1 bl1 hos2 hrg2 hen
      go_wp2_with (first | ((with_reducible refine st_store 44 _ _ g1 (dA d) ?_ ?_ n1 ?_ ?_ ?_ ?_); exact rfl; exact rfl; exact Try.zDl; exact rfl; exact dA_one _))
      refine ⟨fun V2 n2 k2 => ?_⟩
      have hrg4 := rg_wr hrg3 k2 n1
      have hos4 := hos3.wr k2 n1 (by decide) up1
      have hcall := hF V2 d hos4.low
      have hen : ∀ (args : Array Value) (w : World), (callFunc F args).run Try.prog w = .ok (.enter F args) w := hE
      clear hrg3 hos3 k2 n1
      go_wp2_with (first | ((with_reducible refine st_load 44 _ g1 ?_ n2 Try.underlying44 ?_ ?_ ?_); exact rfl; exact rfl; exact Try.zDl))
      refine hcall.mono ?_
      rintro e w5 ⟨rfl, b5⟩
      have hrg5 := rg_on hrg4 b5
      have hos5 := hos4.on b5
      clear hcall b5 hrg4 hos4 n2 hen
      cases hp : p d with
      | false =>
        have HC3 := Lib.hid (show Coll D p _ ss by have := HC2.out; rw [if_neg (by simp [hp])] at this; exact this)
        clear hp HC2
        have Hrg := Lib.hid hrg5
        have Hos := Lib.hid hos5
        clear hrg5 hos5
        go_wp2_with fail
        go_roundw
        case rel => exact ⟨ss, _, cnt2, HC3, Hrg.out, Hos.out⟩
        case measure => rw [Hrg.out.left_eq, Hle.out]; exact Hlt.out
      | true =>
        have HC3 := Lib.hid (show Coll D p _ (ss ++ [t]) by have := HC2.out; rw [if_pos hp] at this; exact this)
        clear hp HC2
        have hlow := hos5.low
        obtain ⟨A0, q, c0, G, rfl, hsg, hG⟩ := hos5.out
        have hm := rc_len hsg
        have p0 : 0 < 1 := by omega
        have p3 : q + 1 ≤ maxLen := by simp only [maxLen]; omega
        have p4 : (q + 1) * 8 ≤ 140737488355328 := by omega
        have hlow2 := Lib.hid (hlow.alloc hlow.size (.cells #[.int .i64 (t : Int)] 3))
        have Hrg := Lib.hid (hrg5.alloc (.cells #[.int .i64 (t : Int)] 3))
        have Hsg := Lib.hid (hsg.alloc (.cells #[.int .i64 (t : Int)] 3))
        clear hlow hos5 hm hrg5
        go_wp2_with (at_builtin; refine wpList_append_seg _ rfl (.tmp 18) (.tmp 20) _ rfl 3 i0 _ 1 8 Try.underlying55 hi0 hz0 hz1 hz2 rfl p0 rfl (hsg.alloc _) ⟨w5.heap.size, 0, none⟩ 1 1 (zc t) rfl rfl (cells_at _ _ (zc t) _ rfl) (zc_one t) p0 p3 p4 ?_; intro A1 c1 G1 w6 q1 q2 q3)
        rw [rc_snoc] at q1
        have hnext := Lib.hid (OS.app hlow2.out hG q1 q2 q3)
        have hrg6 := Lib.hid (Hrg.out.kept q2 (rg_seg Hrg.out Hsg.out).1 (rg_seg Hrg.out Hsg.out).2)
        clear hsg q1 q2 q3 hlow2 Hrg Hsg
        go_wp2_with fail
        go_roundw
        case rel => exact ⟨ss ++ [t], _, cnt2, HC3, hrg6.out, hnext.out⟩
        case measure => rw [hrg6.out.left_eq, Hle.out]; exact Hlt.out
end Go.Proofs.Ytjfmahceolhfnaa
