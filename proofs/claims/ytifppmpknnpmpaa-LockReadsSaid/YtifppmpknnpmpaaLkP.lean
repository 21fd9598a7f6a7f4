/-
  The walk of LockReads: it returns true. Condition: the numbers can be read, and are below 65536; the key below 256.
-/
import Derived.Test.YtifppmpknnpmpaaLkI
import Derived.Test.YtifppmpknnpmpaaLkN
import Derived.Test.YtifppmpknnpmpaaLkO
set_option linter.unusedVariables false
set_option linter.unusedSimpArgs false
namespace Go.Proofs.Ytifppmpknnpmpaa
open Go.RowKit

def ic (x : Int) : List Value := [.int .i64 x]
instance : Nonempty (EncOk ic 1) := ⟨⟨fun _ => rfl, fun x u hu => by
  simp [ic] at hu
  subst hu
  rfl, by omega⟩⟩
theorem Try.infoI : (Try.prog.info? 3).map (fun i => (i.zero, i.size, i.bytes)) = some (some (.int .i64 0), 1, 8) := by kernel_rfl
theorem RR.u16 {w : World} {A : Option Addr} {n c : Nat} {L : List Nat} (h : RR w uc 1 A n c L) {k : Nat} (hk : k < n) : ∃ g off x, L[k]? = some x ∧ A = some ⟨g, off, none⟩ ∧ w.cell? ⟨g, off + k, none⟩ = some (.int .u16 (x : Int)) := by
  obtain ⟨g, off, x, h1, h2, h3⟩ := h.at_ hk
  have := h3 0 _ rfl
  rw [Nat.mul_one] at this
  exact ⟨g, off, x, h1, h2, this⟩
theorem RR.i64 {w : World} {A : Option Addr} {n c : Nat} {L : List Int} (h : RR w ic 1 A n c L) {k : Nat} (hk : k < n) : ∃ g off x, L[k]? = some x ∧ A = some ⟨g, off, none⟩ ∧ w.cell? ⟨g, off + k, none⟩ = some (.int .i64 x) := by
  obtain ⟨g, off, x, h1, h2, h3⟩ := h.at_ hk
  have := h3 0 _ rfl
  rw [Nat.mul_one] at this
  exact ⟨g, off, x, h1, h2, this⟩

theorem RS.grown {α : Type} {c : α → List Value} {s : Nat} {w w1 : World} {T e' : TypeId} {A A' : Option Addr} {n cap n' c' s' : Nat} {L : List α} {xs' : List Value} {G' : Option Nat} (h : RS w T c s A n cap L) (h' : Seg w e' s' A' n' c' xs' G') (hne : T ≠ e') (hg : w.grownBy w1 G') : RS w1 T c s A n cap L := by
  obtain ⟨G, h1⟩ := h
  exact ⟨G, h1.keep fun g hgG => hg.block g (h1.lt g hgG) (h1.apart h' hne g hgG)⟩
theorem had_take {had : List Int} {q : Nat} {x : Int} (hx : had[q]? = some x) : had.take (q + 1) = had.take q ++ [x] := by
  obtain ⟨hq, rfl⟩ := List.getElem?_eq_some_iff.1 hx
  exact List.take_succ_eq_append_getElem hq
/-- Are all of them nought? -/
def zeroB (l : List Int) : Bool := decide (∀ t ∈ l, t = 0)
theorem zero_snoc (l : List Int) (x : Int) : zeroB (l ++ [x]) = (zeroB l && (x == 0)) := by
  unfold zeroB
  rw [Bool.eq_iff_iff]
  simp only [Bool.and_eq_true, decide_eq_true_eq, List.mem_append, List.mem_singleton, beq_iff_eq]
  constructor
  · intro h; exact ⟨fun t ht => h t (.inl ht), h x (.inr rfl)⟩
  · rintro ⟨h1, h2⟩ t (ht | rfl)
    · exact h1 t ht
    · exact h2

/-- While keys are taken: locks and numbers of the walk's own. -/
structure RL (w : World) (key : Int) (j : Nat) (v u : Value) (W : World) : Prop where
  out : ∃ (M : List Hd) (had : List Int) (A : Option Addr) (n c : Nat) (A' : Option Addr) (c' : Nat) (G' : Option Nat), v = .slice A n c ∧ u = .slice A' j c' ∧ RI key M had ∧ HS W 45 A n c M ∧ n ≤ j ∧ Seg W 3 1 A' j c' (rc ic had) G' ∧ ∀ g, G' = some g → w.heap.size ≤ g
  low : Below w.heap.size w W
theorem RL.zero (w : World) (key : Int) : RL w key 0 (.slice none 0 0) (.slice none 0 0) w := ⟨⟨[], [], none, 0, 0, none, 0, none, rfl, rfl, RI.nil key, RS.nil _ _ _ _, by omega, Seg.nil _ _ _, fun g e => by cases e⟩, Below.refl _ _⟩

set_option maxRecDepth 100000 in
set_option maxHeartbeats 4000000 in
theorem reads_walk (A : Option Addr) (n c : Nat) (T : List Nat) (key0 : Int) (w : World) (h : RR w uc 1 A n c T) (hT : ∀ x ∈ T, x < 65536) (hk0 : 0 ≤ key0 ∧ key0 ≤ 255) :
    Calls Try.prog 7 #[.slice A n c, .int .u8 key0] w fun e w' => e = .returned (.bool true) ∧ Below w.heap.size w w' := by
  have hmx : n ≤ maxLen := Nat.le_trans h.cap h.max
  simp only [maxLen] at hmx
  obtain ⟨i0, hi0, hz0, hz1, hz2⟩ := info_parts Try.infoI
  go_enter Try.func7, Try.ntmps7
  go_wp2_with fail
  refine (alive_c w).mono ?_
  rintro e w1 ⟨rfl, hb1⟩
  obtain ⟨key, hkey⟩ : ∃ key : Int, key0 % 64 = key := ⟨_, rfl⟩
  have hk : key < 64 := by omega
  have Hk := Lib.hid hk
  clear hk
  go_wp2_with fail
  try rw [hkey]
  go_loopw [5, 6, 7] (fun v u i wr => ∃ j : Nat, j ≤ n ∧ j ≤ 100 ∧ i = .int .i64 j ∧ RL w1 key j v u wr) (fun _ _ i _ => n - (intOf i).toNat)
  case atStart => exact ⟨0, by omega, by omega, rfl, RL.zero w1 key⟩
  case round =>
    obtain ⟨j, hj, hj2, rfl, hrl⟩ := hrel
    obtain ⟨M, had, Am, nm, cm, Ah, ch, Gh, rfl, rfl, hri, hsM, hnm, hsg, hG⟩ := hrl.out
    have Hri := Lib.hid hri
    have hlow := hrl.low
    clear hri hrl
    by_cases hlt : j < n ∧ j < 100
    · obtain ⟨hlt1, hlt2⟩ := hlt
      obtain ⟨g, off, x, hx, rfl, d1⟩ := (h.on (bel2 hb1 hlow)).u16 hlt1
      have hx6 : x < 65536 := hT x (List.mem_of_getElem? hx)
      obtain ⟨tx, htx⟩ : ∃ tx : Int, (x : Int) % 1000 = tx := ⟨_, rfl⟩
      have ht : 0 ≤ tx ∧ tx < 1000 := by omega
      have tk1 := take_c Am nm cm tx key false M wr hsM.rr (by omega)
      rw [Hri.out.ok Hk.out ht] at tk1
      have Hn := Lib.hid (Hri.out.next Hk.out ht)
      have hj1i : (j : Int) < 100 := by omega
      clear ht hx
      go_wp2_with fail
      try rw [htx]
      refine tk1.mono ?_
      rintro e w2 ⟨A2, n2, c2, rfl, hs2, y1⟩
      have hsg2 := hsg.on y1
      have hl2 := bel2 hlow y1
      have hn2 : n2 ≤ j + 1 := by have := sTake_len M tx key false; rw [hs2.len, hsM.len] at this; omega
      have p0 : 0 < 1 := by omega
      have p3 : j + 1 ≤ maxLen := by simp only [maxLen]; omega
      have p4 : (j + 1) * 8 ≤ 140737488355328 := by omega
      have hla := Lib.hid (hl2.alloc hl2.size (.cells (ic tx).toArray 3))
      clear tk1 y1 hlow hsg d1 hsM hl2
      go_wp2_with (at_builtin; (try rw [htx]); refine wpList_append_seg _ rfl (.tmp 48) (.tmp 50) _ rfl 3 i0 _ 1 8 Try.underlying49 hi0 hz0 hz1 hz2 rfl p0 rfl (hsg2.alloc _) ⟨w2.heap.size, 0, none⟩ 1 1 (ic tx) rfl rfl (cells_at _ _ (ic tx) _ rfl) (encOne (c := ic) 1 tx) p0 p3 p4 ?_; intro A3 c3 G3 w3 n3 m3 r3; refine Stay.mk ?_)
      refine Stay.open_ ?_
      rw [rc_snoc] at n3
      have hs3 := (hs2.on (belA w2 (.cells (ic tx).toArray 3)))
      have hs4 := hs3.grown (hsg2.alloc _) (by decide) m3
      have Hrl := Lib.hid (show RL w1 key (j + 1) (.slice A2 n2 c2) (.slice A3 (j + 1) c3) w3 from ⟨⟨_, _, _, _, _, _, _, G3, rfl, rfl, Hn.out, hs4, hn2, n3, r3.ge (B := w1.heap.size) hla.out.size hG⟩, hla.out.grown m3 hla.out.size hG⟩)
      clear hs2 hsg2 hs3 hs4 n3 m3 r3 hla
      go_wp2_with fail
      go_roundw
      case rel => exact ⟨j + 1, by omega, by omega, by go_num, Hrl.out⟩
      case measure => simp [intOf]; omega
    · have hhl := Lib.hid (rc_len hsg)
      have hhad := RR.of_seg hsg
      have hlw := bel2 hb1 hlow
      clear hsg hG hlow h hb1
      generalize wr = V at *
      rcases (show ¬ (j : Int) < (n : Int) ∨ ((j : Int) < (n : Int) ∧ ¬ (j : Int) < 100) by omega) with hz | ⟨hz, hz'⟩
      · clear hlt
        go_wp2_with fail
        go_loopw [54] (fun i wr => ∃ q : Nat, q ≤ j ∧ i = .int .i64 q ∧ Below V.heap.size V wr) (fun i _ => j - (intOf i).toNat)
        case atStart => exact ⟨0, by omega, rfl, Below.refl _ _⟩
        case round =>
          obtain ⟨q, hq, rfl, hlo⟩ := hrel
          by_cases hqj : q < j
          · obtain ⟨g, off, x, hx, rfl, d1⟩ := (hhad.on hlo).i64 hqj
            have hho := holds_c Am nm cm x key M wr (hsM.on hlo).rr (by omega)
            rw [Hri.out.one (List.mem_of_getElem? hx)] at hho
            clear hx
            go_wp2_with fail
            refine hho.mono ?_
            rintro e w2 ⟨rfl, y1⟩
            have hl2 := Lib.hid (bel2 hlo y1)
            clear hho y1 hlo d1
            go_wp2_with fail
            go_roundw
            case rel => exact ⟨q + 1, by omega, by go_num, hl2.out⟩
            case measure => simp [intOf]; omega
          · obtain rfl : q = j := by omega
            have tk2 := take_c Am nm cm 0 key true M wr (hsM.on hlo).rr (by omega)
            have Hla := Lib.hid (Hri.out.last Hk.out)
            generalize eTake M 0 key true = ee at *
            go_wp2_with fail
            refine tk2.mono ?_
            rintro e w2 ⟨A2, n2, c2, rfl, hs2, y1⟩
            have hl2 := bel2 hlo y1
            have hsM2 := hsM.on hl2
            have hhad2 := hhad.on hl2
            have hlw2 := bel2 hlw hl2
            clear tk2 y1 hlo hs2 hl2 hsM hhad hlw
            go_wp2_with fail
            go_loopw [15, 72] (fun d i wr => ∃ p : Nat, p ≤ q ∧ i = .int .i64 p ∧ d = .bool (zeroB (had.take p)) ∧ Below w2.heap.size w2 wr) (fun _ i _ => q - (intOf i).toNat)
            case atStart => exact ⟨0, by omega, rfl, rfl, Below.refl _ _⟩
            case round =>
              obtain ⟨p, hp, rfl, rfl, hlo⟩ := hrel
              by_cases hpq : p < q
              · obtain ⟨g, off, x, hx, rfl, d1⟩ := (hhad2.on hlo).i64 hpq
                have Hz := Lib.hid (show zeroB (had.take (p + 1)) = (zeroB (had.take p) && (x == 0)) by rw [had_take hx]; exact zero_snoc _ _)
                clear hx
                cases hzb : zeroB (had.take p) with
                | true =>
                  rw [hzb] at Hz
                  have Hlo := Lib.hid hlo
                  clear hzb hlo
                  go_wp2_with fail
                  go_roundw
                  case rel => exact ⟨p + 1, by omega, by go_num, by rw [Hz.out]; rfl, Hlo.out⟩
                  case measure => simp [intOf]; omega
                | false =>
                  rw [hzb] at Hz
                  have Hlo := Lib.hid hlo
                  clear hzb hlo
                  go_wp2_with fail
                  go_roundw
                  case rel => exact ⟨p + 1, by omega, by go_num, by rw [Hz.out]; rfl, Hlo.out⟩
                  case measure => simp [intOf]; omega
              · obtain rfl : p = q := by omega
                have hte : had.take p = had := List.take_of_length_le (by rw [hhl.out]; exact Nat.le_refl _)
                rw [hte]
                have hri := right_c Am nm cm M wr (hsM2.on hlo).rr (by omega)
                rw [rightB_iff.2 Hri.out.right] at hri
                have hlw3 := bel2 hlw2 hlo
                have heq : (ee == 0) = zeroB had := by
                  have := Hla.out
                  rw [Bool.eq_iff_iff]
                  unfold zeroB
                  simp only [beq_iff_eq, decide_eq_true_eq]
                  exact this
                rw [← heq]
                clear hlo hlw2 hsM2 hhad2 hte heq
                have hb : ((ee == 0) == (ee == 0)) = true := by simp
                generalize hee : (ee == 0) = eb at *
                go_wp2_with fail
                refine hri.mono ?_
                rintro e w3 ⟨rfl, y1⟩
                have hl3 := bel2 hlw3 y1
                clear hri y1 hlw3
                go_wp2_with fail
                go_ret
                exact ⟨rfl, hl3⟩
      · clear hlt
        go_wp2_with fail
        go_loopw [54] (fun i wr => ∃ q : Nat, q ≤ j ∧ i = .int .i64 q ∧ Below V.heap.size V wr) (fun i _ => j - (intOf i).toNat)
        case atStart => exact ⟨0, by omega, rfl, Below.refl _ _⟩
        case round =>
          obtain ⟨q, hq, rfl, hlo⟩ := hrel
          by_cases hqj : q < j
          · obtain ⟨g, off, x, hx, rfl, d1⟩ := (hhad.on hlo).i64 hqj
            have hho := holds_c Am nm cm x key M wr (hsM.on hlo).rr (by omega)
            rw [Hri.out.one (List.mem_of_getElem? hx)] at hho
            clear hx
            go_wp2_with fail
            refine hho.mono ?_
            rintro e w2 ⟨rfl, y1⟩
            have hl2 := Lib.hid (bel2 hlo y1)
            clear hho y1 hlo d1
            go_wp2_with fail
            go_roundw
            case rel => exact ⟨q + 1, by omega, by go_num, hl2.out⟩
            case measure => simp [intOf]; omega
          · obtain rfl : q = j := by omega
            have tk2 := take_c Am nm cm 0 key true M wr (hsM.on hlo).rr (by omega)
            have Hla := Lib.hid (Hri.out.last Hk.out)
            generalize eTake M 0 key true = ee at *
            go_wp2_with fail
            refine tk2.mono ?_
            rintro e w2 ⟨A2, n2, c2, rfl, hs2, y1⟩
            have hl2 := bel2 hlo y1
            have hsM2 := hsM.on hl2
            have hhad2 := hhad.on hl2
            have hlw2 := bel2 hlw hl2
            clear tk2 y1 hlo hs2 hl2 hsM hhad hlw
            go_wp2_with fail
            go_loopw [15, 72] (fun d i wr => ∃ p : Nat, p ≤ q ∧ i = .int .i64 p ∧ d = .bool (zeroB (had.take p)) ∧ Below w2.heap.size w2 wr) (fun _ i _ => q - (intOf i).toNat)
            case atStart => exact ⟨0, by omega, rfl, rfl, Below.refl _ _⟩
            case round =>
              obtain ⟨p, hp, rfl, rfl, hlo⟩ := hrel
              by_cases hpq : p < q
              · obtain ⟨g, off, x, hx, rfl, d1⟩ := (hhad2.on hlo).i64 hpq
                have Hz := Lib.hid (show zeroB (had.take (p + 1)) = (zeroB (had.take p) && (x == 0)) by rw [had_take hx]; exact zero_snoc _ _)
                clear hx
                cases hzb : zeroB (had.take p) with
                | true =>
                  rw [hzb] at Hz
                  have Hlo := Lib.hid hlo
                  clear hzb hlo
                  go_wp2_with fail
                  go_roundw
                  case rel => exact ⟨p + 1, by omega, by go_num, by rw [Hz.out]; rfl, Hlo.out⟩
                  case measure => simp [intOf]; omega
                | false =>
                  rw [hzb] at Hz
                  have Hlo := Lib.hid hlo
                  clear hzb hlo
                  go_wp2_with fail
                  go_roundw
                  case rel => exact ⟨p + 1, by omega, by go_num, by rw [Hz.out]; rfl, Hlo.out⟩
                  case measure => simp [intOf]; omega
              · obtain rfl : p = q := by omega
                have hte : had.take p = had := List.take_of_length_le (by rw [hhl.out]; exact Nat.le_refl _)
                rw [hte]
                have hri := right_c Am nm cm M wr (hsM2.on hlo).rr (by omega)
                rw [rightB_iff.2 Hri.out.right] at hri
                have hlw3 := bel2 hlw2 hlo
                have heq : (ee == 0) = zeroB had := by
                  have := Hla.out
                  rw [Bool.eq_iff_iff]
                  unfold zeroB
                  simp only [beq_iff_eq, decide_eq_true_eq]
                  exact this
                rw [← heq]
                clear hlo hlw2 hsM2 hhad2 hte heq
                have hb : ((ee == 0) == (ee == 0)) = true := by simp
                generalize hee : (ee == 0) = eb at *
                go_wp2_with fail
                refine hri.mono ?_
                rintro e w3 ⟨rfl, y1⟩
                have hl3 := bel2 hlw3 y1
                clear hri y1 hlw3
                go_wp2_with fail
                go_ret
                exact ⟨rfl, hl3⟩
end Go.Proofs.Ytifppmpknnpmpaa
