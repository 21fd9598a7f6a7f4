/-
  The walk of the law LeaseForward: it returns true and leaves all memory that was there. Condition: the acts can be read.
-/
import Derived.Test.YtpdjcbigbgoioaaLeD
import Derived.Test.YtpdjcbigbgoioaaLeE
import Derived.Test.YtpdjcbigbgoioaaLeO
import Derived.Test.YtpdjcbigbgoioaaOpn
set_option linter.unusedVariables false
set_option linter.unusedSimpArgs false
namespace Go.Proofs.Ytpdjcbigbgoioaa
open Go.RowKit

/-- A struct of three cells is stored into block d: the world behind it under a name. -/
theorem cb_end3 {W : World} {d : Nat} {T : TypeId} {c0 c1 c2 : Value} (h : CB W d T #[c0, c1, c2]) (x0 x1 x2 : Value) :
    ∃ V, ((W.setCell ⟨d, 0, none⟩ x0).setCell ⟨d, 1, none⟩ x1).setCell ⟨d, 2, none⟩ x2 = V ∧ CB V d T #[x0, x1, x2] ∧ (∀ B w, Below B w W → B ≤ d → Below B w V) ∧ (∀ b T' cs, b ≠ d → CB W b T' cs → CB V b T' cs) := by
  have h0 : CB (W.setCell ⟨d, 0, none⟩ x0) d T #[x0, c1, c2] := CB.put h 0 _
  have h1 : CB ((W.setCell ⟨d, 0, none⟩ x0).setCell ⟨d, 1, none⟩ x1) d T #[x0, x1, c2] := CB.put h0 1 _
  have h2 : CB (((W.setCell ⟨d, 0, none⟩ x0).setCell ⟨d, 1, none⟩ x1).setCell ⟨d, 2, none⟩ x2) d T #[x0, x1, x2] := CB.put h1 2 _
  refine ⟨_, rfl, h2, fun B w hw hB => ?_, fun b T' cs hb hc => ?_⟩
  · exact ((hw.setCell (p := ⟨d, 0, none⟩) hB _).setCell (p := ⟨d, 1, none⟩) hB _).setCell (p := ⟨d, 2, none⟩) hB _
  · exact ((hc.far (p := ⟨d, 0, none⟩) hb _).far (p := ⟨d, 1, none⟩) hb _).far (p := ⟨d, 2, none⟩) hb _

instance : Nonempty (EncOk lac 3) := ⟨⟨fun _ => rfl, fun x u hu => by
  simp [lac] at hu
  rcases hu with rfl | rfl | rfl <;> rfl, by omega⟩⟩
theorem lacts_of {H : Type} {enc : TypeId × Value → H} {w : World} {a : Option Addr} {len cap : Nat} {d : DataW H} {p : List MemPlace}
    (h : DataW.Trod enc Try.prog w 0 (fun _ => true) true 48 (.slice a len cap) d p) :
    ∃ L : List Lac, RR w lac 3 a len cap L ∧ ∀ x ∈ L, inLac x :=
  row_of (c := lac) (s := 3) _ Try.underlying48 Try.lcA lac_trod h
theorem lact_at {w : World} {A : Option Addr} {n cap : Nat} {M : List Lac} (h : RR w lac 3 A n cap M) {k : Nat} (hk : k < n) :
    ∃ g off ag ax at', A = some ⟨g, off, none⟩ ∧ w.cell? ⟨g, off + k * 3, none⟩ = some (.bool ag) ∧ w.cell? ⟨g, off + k * 3 + 1, none⟩ = some (.int .i64 ax) ∧ w.cell? ⟨g, off + k * 3 + 2, none⟩ = some (.int .u8 at') := by
  obtain ⟨g, off, x, _, rfl, hx⟩ := h.at_ hk
  exact ⟨g, off, x.g, x.x, x.t, rfl, hx 0 _ rfl, hx 1 _ rfl, hx 2 _ rfl⟩
/-- What holds between a lease and the last epoch in which its agency was given away. -/
def FwI (l : Ls) (g : Int) : Prop := rightL l = true ∧ 0 ≤ g ∧ g ≤ 1048576 ∧ g ≤ l.ep ∧ (l.st = 1 → g < l.ep)
theorem fw_start {l : Ls} (h : rightL l = true) : FwI l (if l.st = 2 then l.ep else 0) := by
  rcases right_cases h with ⟨a, b, c⟩ | ⟨a, b, c⟩ | ⟨a, b, c⟩
  · rw [if_neg (by omega)]; exact ⟨h, by omega, by omega, by omega, by omega⟩
  · rw [if_neg (by omega)]; exact ⟨h, by omega, by omega, by omega, by omega⟩
  · rw [if_pos a]; exact ⟨h, by omega, by omega, by omega, by omega⟩
structure Step (l n : Ls) (k : Nat) : Prop where
  same : k ≠ 0 → n = l
  up : l.ep ≤ n.ep
  right : rightL n = true
  held : n.st = 1 → n = l ∨ l.ep < n.ep
theorem step_give {l : Ls} (t : Int) (h : rightL l = true) : Step l (sGiveL l t) (eGiveL l t) := by
  refine ⟨fun hk => by unfold sGiveL; rw [if_neg hk], ?_, right_give h, ?_⟩
  · unfold sGiveL; split <;> exact Int.le_refl _
  · unfold sGiveL
    split
    · intro h2; simp at h2
    · intro _; exact .inl rfl
theorem step_take {l : Ls} (x : Int) (h : rightL l = true) : Step l (sTakeL l x) (eTakeL l x) := by
  have key : eTakeL l x = 0 → l.ep < x := by
    intro h0
    unfold eTakeL at h0
    split at h0
    · cases h0
    · split at h0
      · cases h0
      · split at h0
        · cases h0
        · omega
  refine ⟨fun hk => by unfold sTakeL; rw [if_neg hk], ?_, right_take h, ?_⟩
  · unfold sTakeL
    split
    · rename_i h0
      have := key h0
      simp [heldL]; omega
    · exact Int.le_refl _
  · unfold sTakeL
    split
    · rename_i h0
      intro _
      exact .inr (key h0)
    · intro _; exact .inl rfl
theorem fw_next {l n : Ls} {k : Nat} {g : Int} (h : FwI l g) (hs : Step l n k) : FwI n (if n.st = 2 then n.ep else g) := by
  obtain ⟨h0, h1, h2, h3, h4⟩ := h
  obtain ⟨_, s2, s3, s4⟩ := hs
  rcases right_cases s3 with ⟨a, b, c⟩ | ⟨a, b, c⟩ | ⟨a, b, c⟩
  · rw [if_neg (by omega)]; exact ⟨s3, h1, h2, by omega, by omega⟩
  · rw [if_neg (by omega)]
    refine ⟨s3, h1, h2, by omega, fun _ => ?_⟩
    rcases s4 a with e | e
    · subst e; exact h4 a
    · omega
  · rw [if_pos a]; exact ⟨s3, by omega, by omega, by omega, by omega⟩
theorem fw_mute {l : Ls} {g : Int} (h : FwI l g) (j : Int) (hj : j ≤ g) : speaksL l j = false := by
  obtain ⟨h0, h1, h2, h3, h4⟩ := h
  unfold speaksL
  rw [h0]
  by_cases a : l.st = 1
  · have := h4 a
    simp; intro _; omega
  · simp [a]

set_option maxRecDepth 100000 in
set_option maxHeartbeats 4000000 in
theorem forward_walk (ep st to : Int) (A : Option Addr) (n cap : Nat) (M : List Lac) (w : World) (hm : RR w lac 3 A n cap M) : Calls Try.prog 5 #[.agg #[.int .i64 ep, .int .i64 st, .int .u8 to], .slice A n cap] w fun r w' => r = .returned (.bool true) ∧ Below w.heap.size w w' := by
  have hmax : n ≤ 9223372036854775807 := by have h1 := hm.cap; have h2 := hm.max; simp only [maxLen] at h2; omega
  obtain ⟨rt, hrt⟩ : ∃ b, rightL ⟨ep, st, to⟩ = b := ⟨_, rfl⟩
  have R2 := fun W => right_r ep st to W
  simp only [hrt] at R2
  have Hrt := Lib.hid hrt
  clear hrt
  obtain ⟨W1, hW1⟩ : ∃ V, w.alloc (.cells #[.int .i64 ep, .int .i64 st, .int .u8 to] 23) = V := ⟨_, rfl⟩
  have nW1_l : CB W1 (w.heap.size) 23 #[.int .i64 ep, .int .i64 st, .int .u8 to] := by
    rw [← hW1]
    have := (CB.new w 23 #[.int .i64 ep, .int .i64 st, .int .u8 to])
    simpa using this
  have lW1 : Below w.heap.size w W1 := by rw [← hW1]; exact le_al _ _
  have HW1 := Lib.hid hW1
  clear hW1
  go_enter Try.func5, Try.ntmps5
  go_wp2_with fail
  rw [HW1.out]
  refine (alive_c _).mono ?_
  rintro e w2 ⟨rfl, b2⟩
  have r3_l := le_on nW1_l b2
  have l3 := le_tr lW1 b2
  clear nW1_l lW1
  clear b2
  have f3_l0 : w2.cell? ⟨w.heap.size, 0, none⟩ = some (.int .i64 ep) := CB.cell r3_l 0
  have f3_l1 : w2.cell? ⟨w.heap.size, 1, none⟩ = some (.int .i64 st) := CB.cell r3_l 1
  have f3_l2 : w2.cell? ⟨w.heap.size, 2, none⟩ = some (.int .u8 to) := CB.cell r3_l 2
  go_wp2_with fail
  refine (R2 _).mono ?_
  rintro e w4 ⟨rfl, b4⟩
  clear f3_l0 f3_l1 f3_l2
  have r5_l := le_on r3_l b4
  have l5 := le_tr l3 b4
  clear r3_l l3
  clear b4
  cases rt with
  | false =>
    go_wp2_with fail
    go_ret
    exact ⟨rfl, l5⟩
  | true =>
    by_cases hbig : (100 : Int) < (n : Int)
    ·
      go_wp2_with fail
      go_ret
      exact ⟨rfl, l5⟩
    have hn : n ≤ 100 := by omega
    have Hi := Lib.hid (fw_start Hrt.out)
    have hbx0 := (l5).size
    have f5_l0 : w4.cell? ⟨w.heap.size, 0, none⟩ = some (.int .i64 ep) := CB.cell r5_l 0
    have f5_l1 : w4.cell? ⟨w.heap.size, 1, none⟩ = some (.int .i64 st) := CB.cell r5_l 1
    have f5_l2 : w4.cell? ⟨w.heap.size, 2, none⟩ = some (.int .u8 to) := CB.cell r5_l 2
    obtain ⟨W6, hW6⟩ : ∃ V, w4.alloc (.cells #[.int .i64 ep, .int .i64 st, .int .u8 to] 27) = V := ⟨_, rfl⟩
    have zW6 : w4.heap.size = w4.heap.size := by rfl
    have nW6 : CB W6 (w4.heap.size) 27 #[.int .i64 ep, .int .i64 st, .int .u8 to] := by rw [← zW6, ← hW6]; exact CB.new _ _ _
    have bW6 : Below w4.heap.size w4 W6 := by rw [← hW6]; exact le_al _ _
    have neW6_l : w.heap.size ≠ w4.heap.size := by have := CB.lt r5_l; omega
    have HW6 := Lib.hid hW6
    clear hW6 zW6
    have r7_l := le_on r5_l bW6
    have l7 := le_tr l5 bW6
    clear r5_l l5
    clear bW6
    by_cases hst2 : st = 2
    · have s2 : (st == 2) = true := by simp [hst2]
      have HI0 := Lib.hid (show FwI ⟨ep, st, to⟩ ep by have := Hi.out; rwa [if_pos hst2] at this)
      clear hst2 Hi
      have f8_x0 : (w4.alloc (.cells #[.int .i64 ep, .int .i64 st, .int .u8 to] 27)).cell? ⟨w4.heap.size, 0, none⟩ = some (.int .i64 ep) := by rw [HW6.out]; exact CB.cell nW6 0
      have f8_x1 : (w4.alloc (.cells #[.int .i64 ep, .int .i64 st, .int .u8 to] 27)).cell? ⟨w4.heap.size, 1, none⟩ = some (.int .i64 st) := by rw [HW6.out]; exact CB.cell nW6 1
      have f8_x2 : (w4.alloc (.cells #[.int .i64 ep, .int .i64 st, .int .u8 to] 27)).cell? ⟨w4.heap.size, 2, none⟩ = some (.int .u8 to) := by rw [HW6.out]; exact CB.cell nW6 2
      go_wp2_with fail
      rw [HW6.out]
      clear f5_l0 f5_l1 f5_l2 f8_x0 f8_x1 f8_x2
      go_loopw [6, 30] (fun gv iv wr => ∃ (k : Nat) (xe xs xt g : Int), k ≤ n ∧ iv = .int .i64 k ∧ gv = .int .i64 g ∧ CB wr (w4.heap.size) 27 #[.int .i64 xe, .int .i64 xs, .int .u8 xt] ∧ Hid (FwI ⟨xe, xs, xt⟩ g) ∧ Below w.heap.size w wr) (fun _ iv _ => n - (intOf iv).toNat)
      case atStart => exact ⟨0, ep, st, to, ep, Nat.zero_le _, rfl, rfl, nW6, HI0.out, l7⟩
      case round =>
        obtain ⟨k, xe, xs, xt, g, hk, rfl, rfl, hx, HI, hbw⟩ := hrel
        obtain ⟨wz, hwz⟩ : ∃ z, z = wr := ⟨_, rfl⟩
        subst hwz
        have hws := hbw.size
        by_cases hlt : k < n
        · have q1 : (k : Int) < (n : Int) := by omega
          have hg1 : 0 ≤ g := HI.out.2.1
          have hg2 : g ≤ 1048576 := HI.out.2.2.1
          obtain ⟨ga, oa, ag, ax, at', rfl, a0, a1, a2⟩ := lact_at (hm.on hbw) hlt
          obtain ⟨W101, hW101⟩ : ∃ V, wz.alloc (.cells #[.bool ag, .int .i64 ax, .int .u8 at'] 25) = V := ⟨_, rfl⟩
          have zW101 : wz.heap.size = wz.heap.size := by rfl
          have nW101 : CB W101 (wz.heap.size) 25 #[.bool ag, .int .i64 ax, .int .u8 at'] := by rw [← zW101, ← hW101]; exact CB.new _ _ _
          have bW101 : Below wz.heap.size wz W101 := by rw [← hW101]; exact le_al _ _
          have neW101_x : w4.heap.size ≠ wz.heap.size := by have := CB.lt hx; omega
          have HW101 := Lib.hid hW101
          clear hW101 zW101
          have r102_x := le_on hx bW101
          have l102 := le_tr hbw bW101
          clear hx hbw
          clear bW101
          obtain ⟨W103, hW103⟩ : ∃ V, W101.alloc (.cells #[.int .i64 0, .int .i64 0, .int .u8 0] 27) = V := ⟨_, rfl⟩
          have zW103 : W101.heap.size = wz.heap.size + 1 := by rw [← HW101.out]; simp
          have nW103 : CB W103 (wz.heap.size + 1) 27 #[.int .i64 0, .int .i64 0, .int .u8 0] := by rw [← zW103, ← hW103]; exact CB.new _ _ _
          have bW103 : Below W101.heap.size W101 W103 := by rw [← hW103]; exact le_al _ _
          have neW103_x : w4.heap.size ≠ wz.heap.size + 1 := by have := CB.lt r102_x; omega
          have neW103_a : wz.heap.size ≠ wz.heap.size + 1 := by have := CB.lt nW101; omega
          have HW103 := Lib.hid (show (wz.alloc (.cells #[.bool ag, .int .i64 ax, .int .u8 at'] 25)).alloc (.cells #[.int .i64 0, .int .i64 0, .int .u8 0] 27) = W103 by rw [HW101.out]; exact hW103)
          clear hW103 zW103
          have r104_x := le_on r102_x bW103
          have r104_a := le_on nW101 bW103
          have l104 := le_tr l102 bW103
          clear r102_x nW101 l102
          clear bW103
          cases ag with
          | true =>
            obtain ⟨nx, hnx⟩ : ∃ s, sGiveL ⟨xe, xs, xt⟩ at' = s := ⟨_, rfl⟩
            obtain ⟨kx, hkx⟩ : ∃ s, eGiveL ⟨xe, xs, xt⟩ at' = s := ⟨_, rfl⟩
            have hst := step_give at' HI.out.1
            have T1 := fun W => give_c xe xs xt at' W
            simp only [hnx, hkx] at T1
            rw [hnx, hkx] at hst
            obtain ⟨ne, ns, nt⟩ := nx
            simp only at T1
            have HJ := Lib.hid (fw_next HI.out hst)
            simp only at HJ
            have HS := Lib.hid hst
            clear hnx hkx hst
            have R1 := fun W => right_c ne ns nt W
            simp only [HS.out.right] at R1
            have f105_x0 : ((wz.alloc (.cells #[.bool true, .int .i64 ax, .int .u8 at'] 25)).alloc (.cells #[.int .i64 0, .int .i64 0, .int .u8 0] 27)).cell? ⟨w4.heap.size, 0, none⟩ = some (.int .i64 xe) := by rw [HW103.out]; exact CB.cell r104_x 0
            have f105_x1 : ((wz.alloc (.cells #[.bool true, .int .i64 ax, .int .u8 at'] 25)).alloc (.cells #[.int .i64 0, .int .i64 0, .int .u8 0] 27)).cell? ⟨w4.heap.size, 1, none⟩ = some (.int .i64 xs) := by rw [HW103.out]; exact CB.cell r104_x 1
            have f105_x2 : ((wz.alloc (.cells #[.bool true, .int .i64 ax, .int .u8 at'] 25)).alloc (.cells #[.int .i64 0, .int .i64 0, .int .u8 0] 27)).cell? ⟨w4.heap.size, 2, none⟩ = some (.int .u8 xt) := by rw [HW103.out]; exact CB.cell r104_x 2
            have f105_a0 : ((wz.alloc (.cells #[.bool true, .int .i64 ax, .int .u8 at'] 25)).alloc (.cells #[.int .i64 0, .int .i64 0, .int .u8 0] 27)).cell? ⟨wz.heap.size, 0, none⟩ = some (.bool true) := by rw [HW103.out]; exact CB.cell r104_a 0
            have f105_a1 : ((wz.alloc (.cells #[.bool true, .int .i64 ax, .int .u8 at'] 25)).alloc (.cells #[.int .i64 0, .int .i64 0, .int .u8 0] 27)).cell? ⟨wz.heap.size, 1, none⟩ = some (.int .i64 ax) := by rw [HW103.out]; exact CB.cell r104_a 1
            have f105_a2 : ((wz.alloc (.cells #[.bool true, .int .i64 ax, .int .u8 at'] 25)).alloc (.cells #[.int .i64 0, .int .i64 0, .int .u8 0] 27)).cell? ⟨wz.heap.size, 2, none⟩ = some (.int .u8 at') := by rw [HW103.out]; exact CB.cell r104_a 2
            go_wp2_with fail
            rw [HW103.out]
            refine (T1 _).mono ?_
            rintro e w106 ⟨rfl, b106⟩
            clear a0 a1 a2 f105_x0 f105_x1 f105_x2 f105_a0 f105_a1 f105_a2
            have r107_x := le_on r104_x b106
            have r107_a := le_on r104_a b106
            have r107_n := le_on nW103 b106
            have l107 := le_tr l104 b106
            clear r104_x r104_a nW103 l104
            clear b106
            have f107_n0 : w106.cell? ⟨wz.heap.size + 1, 0, none⟩ = some (.int .i64 0) := CB.cell r107_n 0
            have z107_n0 : w106.frozen? ⟨wz.heap.size + 1, 0, none⟩ = false := CB.frozen r107_n 0
            have f107_n1 : w106.cell? ⟨wz.heap.size + 1, 1, none⟩ = some (.int .i64 0) := CB.cell r107_n 1
            have z107_n1 : w106.frozen? ⟨wz.heap.size + 1, 1, none⟩ = false := CB.frozen r107_n 1
            have f107_n2 : w106.cell? ⟨wz.heap.size + 1, 2, none⟩ = some (.int .u8 0) := CB.cell r107_n 2
            have z107_n2 : w106.frozen? ⟨wz.heap.size + 1, 2, none⟩ = false := CB.frozen r107_n 2
            obtain ⟨V108, hV108, nV108, lV108, kV108⟩ := cb_end3 r107_n (.int .i64 ne) (.int .i64 ns) (.int .u8 nt)
            have HV108 := Lib.hid hV108
            have mV108_x := kV108 _ _ _ neW103_x r107_x
            have mV108_a := kV108 _ _ _ neW103_a r107_a
            have oV108 := lV108 _ _ l107 (by omega)
            clear hV108 lV108 kV108
            clear r107_n r107_x r107_a l107
            have hup : ¬ ne < xe := by have : xe ≤ ne := HS.out.up; omega
            have hup' : decide (ne < xe) = false := by simp; have : xe ≤ ne := HS.out.up; omega
            by_cases hkz : kx = 0
            · have z1 : ((kx : Int) != 0) = false := by simp [hkz]
              clear hkz
              have f109_n0 : ((((w106).setCell ⟨wz.heap.size + 1, 0, none⟩ (.int .i64 ne)).setCell ⟨wz.heap.size + 1, 1, none⟩ (.int .i64 ns)).setCell ⟨wz.heap.size + 1, 2, none⟩ (.int .u8 nt)).cell? ⟨wz.heap.size + 1, 0, none⟩ = some (.int .i64 ne) := by rw [HV108.out]; exact CB.cell nV108 0
              have f109_n1 : ((((w106).setCell ⟨wz.heap.size + 1, 0, none⟩ (.int .i64 ne)).setCell ⟨wz.heap.size + 1, 1, none⟩ (.int .i64 ns)).setCell ⟨wz.heap.size + 1, 2, none⟩ (.int .u8 nt)).cell? ⟨wz.heap.size + 1, 1, none⟩ = some (.int .i64 ns) := by rw [HV108.out]; exact CB.cell nV108 1
              have f109_n2 : ((((w106).setCell ⟨wz.heap.size + 1, 0, none⟩ (.int .i64 ne)).setCell ⟨wz.heap.size + 1, 1, none⟩ (.int .i64 ns)).setCell ⟨wz.heap.size + 1, 2, none⟩ (.int .u8 nt)).cell? ⟨wz.heap.size + 1, 2, none⟩ = some (.int .u8 nt) := by rw [HV108.out]; exact CB.cell nV108 2
              have f109_x0 : ((((w106).setCell ⟨wz.heap.size + 1, 0, none⟩ (.int .i64 ne)).setCell ⟨wz.heap.size + 1, 1, none⟩ (.int .i64 ns)).setCell ⟨wz.heap.size + 1, 2, none⟩ (.int .u8 nt)).cell? ⟨w4.heap.size, 0, none⟩ = some (.int .i64 xe) := by rw [HV108.out]; exact CB.cell mV108_x 0
              have f109_x1 : ((((w106).setCell ⟨wz.heap.size + 1, 0, none⟩ (.int .i64 ne)).setCell ⟨wz.heap.size + 1, 1, none⟩ (.int .i64 ns)).setCell ⟨wz.heap.size + 1, 2, none⟩ (.int .u8 nt)).cell? ⟨w4.heap.size, 1, none⟩ = some (.int .i64 xs) := by rw [HV108.out]; exact CB.cell mV108_x 1
              have f109_x2 : ((((w106).setCell ⟨wz.heap.size + 1, 0, none⟩ (.int .i64 ne)).setCell ⟨wz.heap.size + 1, 1, none⟩ (.int .i64 ns)).setCell ⟨wz.heap.size + 1, 2, none⟩ (.int .u8 nt)).cell? ⟨w4.heap.size, 2, none⟩ = some (.int .u8 xt) := by rw [HV108.out]; exact CB.cell mV108_x 2
              go_wp2_with fail
              rw [HV108.out]
              refine (R1 _).mono ?_
              rintro e w110 ⟨rfl, b110⟩
              clear f107_n0 z107_n0 f107_n1 z107_n1 f107_n2 z107_n2 f109_n0 f109_n1 f109_n2 f109_x0 f109_x1 f109_x2
              have r111_x := le_on mV108_x b110
              have r111_a := le_on mV108_a b110
              have r111_n := le_on nV108 b110
              have l111 := le_tr oV108 b110
              clear mV108_x mV108_a nV108 oV108
              clear b110
              by_cases h2 : ns = 2
              · have s1 : (ns == 2) = true := by simp [h2]
                have HK := Lib.hid (show FwI ⟨ne, ns, nt⟩ ne by have := HJ.out; rwa [if_pos h2] at this)
                clear h2 HJ
                have g1 : 0 ≤ ne := HK.out.2.1
                have g2 : ne ≤ 1048576 := HK.out.2.2.1
                by_cases h3 : (0 : Int) < ne - 3
                ·
                  have f113_n0 : w110.cell? ⟨wz.heap.size + 1, 0, none⟩ = some (.int .i64 ne) := CB.cell r111_n 0
                  have f113_n1 : w110.cell? ⟨wz.heap.size + 1, 1, none⟩ = some (.int .i64 ns) := CB.cell r111_n 1
                  have f113_n2 : w110.cell? ⟨wz.heap.size + 1, 2, none⟩ = some (.int .u8 nt) := CB.cell r111_n 2
                  have f113_x0 : w110.cell? ⟨w4.heap.size, 0, none⟩ = some (.int .i64 xe) := CB.cell r111_x 0
                  have f113_x1 : w110.cell? ⟨w4.heap.size, 1, none⟩ = some (.int .i64 xs) := CB.cell r111_x 1
                  have f113_x2 : w110.cell? ⟨w4.heap.size, 2, none⟩ = some (.int .u8 xt) := CB.cell r111_x 2
                  go_wp2_with fail
                  clear f113_n0 f113_n1 f113_n2 f113_x0 f113_x1 f113_x2
                  go_loopw [11] (fun kv wr => ∃ j : Int, kv = .int .i64 j ∧ 0 ≤ j ∧ j ≤ ne + 1 ∧ CB wr (wz.heap.size + 1) 27 #[.int .i64 ne, .int .i64 ns, .int .u8 nt] ∧ CB wr (w4.heap.size) 27 #[.int .i64 xe, .int .i64 xs, .int .u8 xt] ∧ Below w.heap.size w wr) (fun kv _ => (ne + 1 - intOf kv).toNat)
                  case atStart => exact ⟨ne - 3, rfl, by omega, by omega, r111_n, r111_x, l111⟩
                  case round =>
                    obtain ⟨j, rfl, hj0, hj1, hn', hx', hb'⟩ := hrel
                    clear r111_n r111_x r111_a l111
                    by_cases hle : j ≤ ne
                    · have S1 := fun W => speaks_c ne ns nt j W
                      simp only [fw_mute HK.out j hle] at S1
                      by_cases hjp : 0 < j
                      ·
                        have f301_n0 : wr.cell? ⟨wz.heap.size + 1, 0, none⟩ = some (.int .i64 ne) := CB.cell hn' 0
                        have f301_n1 : wr.cell? ⟨wz.heap.size + 1, 1, none⟩ = some (.int .i64 ns) := CB.cell hn' 1
                        have f301_n2 : wr.cell? ⟨wz.heap.size + 1, 2, none⟩ = some (.int .u8 nt) := CB.cell hn' 2
                        go_wp2_with fail
                        refine (S1 _).mono ?_
                        rintro e w302 ⟨rfl, b302⟩
                        clear f301_n0 f301_n1 f301_n2
                        have r303_x := le_on hx' b302
                        have r303_n := le_on hn' b302
                        have l303 := le_tr hb' b302
                        clear hx' hn' hb'
                        clear b302
                        go_wp2_with fail
                        go_roundw
                        case rel => exact ⟨j + 1, by go_num, by omega, by omega, r303_n, r303_x, l303⟩
                        case measure => simp [intOf]; omega
                      ·
                        go_wp2_with fail
                        go_roundw
                        case rel => exact ⟨j + 1, by go_num, by omega, by omega, hn', hx', hb'⟩
                        case measure => simp [intOf]; omega
                    ·
                      have f301_n0 : wr.cell? ⟨wz.heap.size + 1, 0, none⟩ = some (.int .i64 ne) := CB.cell hn' 0
                      have f301_n1 : wr.cell? ⟨wz.heap.size + 1, 1, none⟩ = some (.int .i64 ns) := CB.cell hn' 1
                      have f301_n2 : wr.cell? ⟨wz.heap.size + 1, 2, none⟩ = some (.int .u8 nt) := CB.cell hn' 2
                      have f301_x0 : wr.cell? ⟨w4.heap.size, 0, none⟩ = some (.int .i64 xe) := CB.cell hx' 0
                      have z301_x0 : wr.frozen? ⟨w4.heap.size, 0, none⟩ = false := CB.frozen hx' 0
                      have f301_x1 : wr.cell? ⟨w4.heap.size, 1, none⟩ = some (.int .i64 xs) := CB.cell hx' 1
                      have z301_x1 : wr.frozen? ⟨w4.heap.size, 1, none⟩ = false := CB.frozen hx' 1
                      have f301_x2 : wr.cell? ⟨w4.heap.size, 2, none⟩ = some (.int .u8 xt) := CB.cell hx' 2
                      have z301_x2 : wr.frozen? ⟨w4.heap.size, 2, none⟩ = false := CB.frozen hx' 2
                      obtain ⟨V302, hV302, nV302, lV302, kV302⟩ := cb_end3 hx' (.int .i64 ne) (.int .i64 ns) (.int .u8 nt)
                      have HV302 := Lib.hid hV302
                      have mV302_n := kV302 _ _ _ (Ne.symm neW103_x) hn'
                      have oV302 := lV302 _ _ hb' (by omega)
                      clear hV302 lV302 kV302
                      clear hx' hn' hb'
                      go_wp2_with fail
                      rw [HV302.out]
                      go_roundw
                      case rel => exact ⟨k + 1, ne, ns, nt, ne, by omega, by go_num, rfl, nV302, HK.out, oV302⟩
                      case measure => simp [intOf]; omega
                ·
                  have f113_n0 : w110.cell? ⟨wz.heap.size + 1, 0, none⟩ = some (.int .i64 ne) := CB.cell r111_n 0
                  have f113_n1 : w110.cell? ⟨wz.heap.size + 1, 1, none⟩ = some (.int .i64 ns) := CB.cell r111_n 1
                  have f113_n2 : w110.cell? ⟨wz.heap.size + 1, 2, none⟩ = some (.int .u8 nt) := CB.cell r111_n 2
                  have f113_x0 : w110.cell? ⟨w4.heap.size, 0, none⟩ = some (.int .i64 xe) := CB.cell r111_x 0
                  have f113_x1 : w110.cell? ⟨w4.heap.size, 1, none⟩ = some (.int .i64 xs) := CB.cell r111_x 1
                  have f113_x2 : w110.cell? ⟨w4.heap.size, 2, none⟩ = some (.int .u8 xt) := CB.cell r111_x 2
                  go_wp2_with fail
                  clear f113_n0 f113_n1 f113_n2 f113_x0 f113_x1 f113_x2
                  go_loopw [11] (fun kv wr => ∃ j : Int, kv = .int .i64 j ∧ 0 ≤ j ∧ j ≤ ne + 1 ∧ CB wr (wz.heap.size + 1) 27 #[.int .i64 ne, .int .i64 ns, .int .u8 nt] ∧ CB wr (w4.heap.size) 27 #[.int .i64 xe, .int .i64 xs, .int .u8 xt] ∧ Below w.heap.size w wr) (fun kv _ => (ne + 1 - intOf kv).toNat)
                  case atStart => exact ⟨0, rfl, by omega, by omega, r111_n, r111_x, l111⟩
                  case round =>
                    obtain ⟨j, rfl, hj0, hj1, hn', hx', hb'⟩ := hrel
                    clear r111_n r111_x r111_a l111
                    by_cases hle : j ≤ ne
                    · have S1 := fun W => speaks_c ne ns nt j W
                      simp only [fw_mute HK.out j hle] at S1
                      by_cases hjp : 0 < j
                      ·
                        have f301_n0 : wr.cell? ⟨wz.heap.size + 1, 0, none⟩ = some (.int .i64 ne) := CB.cell hn' 0
                        have f301_n1 : wr.cell? ⟨wz.heap.size + 1, 1, none⟩ = some (.int .i64 ns) := CB.cell hn' 1
                        have f301_n2 : wr.cell? ⟨wz.heap.size + 1, 2, none⟩ = some (.int .u8 nt) := CB.cell hn' 2
                        go_wp2_with fail
                        refine (S1 _).mono ?_
                        rintro e w302 ⟨rfl, b302⟩
                        clear f301_n0 f301_n1 f301_n2
                        have r303_x := le_on hx' b302
                        have r303_n := le_on hn' b302
                        have l303 := le_tr hb' b302
                        clear hx' hn' hb'
                        clear b302
                        go_wp2_with fail
                        go_roundw
                        case rel => exact ⟨j + 1, by go_num, by omega, by omega, r303_n, r303_x, l303⟩
                        case measure => simp [intOf]; omega
                      ·
                        go_wp2_with fail
                        go_roundw
                        case rel => exact ⟨j + 1, by go_num, by omega, by omega, hn', hx', hb'⟩
                        case measure => simp [intOf]; omega
                    ·
                      have f301_n0 : wr.cell? ⟨wz.heap.size + 1, 0, none⟩ = some (.int .i64 ne) := CB.cell hn' 0
                      have f301_n1 : wr.cell? ⟨wz.heap.size + 1, 1, none⟩ = some (.int .i64 ns) := CB.cell hn' 1
                      have f301_n2 : wr.cell? ⟨wz.heap.size + 1, 2, none⟩ = some (.int .u8 nt) := CB.cell hn' 2
                      have f301_x0 : wr.cell? ⟨w4.heap.size, 0, none⟩ = some (.int .i64 xe) := CB.cell hx' 0
                      have z301_x0 : wr.frozen? ⟨w4.heap.size, 0, none⟩ = false := CB.frozen hx' 0
                      have f301_x1 : wr.cell? ⟨w4.heap.size, 1, none⟩ = some (.int .i64 xs) := CB.cell hx' 1
                      have z301_x1 : wr.frozen? ⟨w4.heap.size, 1, none⟩ = false := CB.frozen hx' 1
                      have f301_x2 : wr.cell? ⟨w4.heap.size, 2, none⟩ = some (.int .u8 xt) := CB.cell hx' 2
                      have z301_x2 : wr.frozen? ⟨w4.heap.size, 2, none⟩ = false := CB.frozen hx' 2
                      obtain ⟨V302, hV302, nV302, lV302, kV302⟩ := cb_end3 hx' (.int .i64 ne) (.int .i64 ns) (.int .u8 nt)
                      have HV302 := Lib.hid hV302
                      have mV302_n := kV302 _ _ _ (Ne.symm neW103_x) hn'
                      have oV302 := lV302 _ _ hb' (by omega)
                      clear hV302 lV302 kV302
                      clear hx' hn' hb'
                      go_wp2_with fail
                      rw [HV302.out]
                      go_roundw
                      case rel => exact ⟨k + 1, ne, ns, nt, ne, by omega, by go_num, rfl, nV302, HK.out, oV302⟩
                      case measure => simp [intOf]; omega
              · have s1 : (ns == 2) = false := by simp [h2]
                have HK := Lib.hid (show FwI ⟨ne, ns, nt⟩ g by have := HJ.out; rwa [if_neg h2] at this)
                clear h2 HJ
                have g1 : 0 ≤ g := HK.out.2.1
                have g2 : g ≤ 1048576 := HK.out.2.2.1
                by_cases h3 : (0 : Int) < g - 3
                ·
                  have f113_n0 : w110.cell? ⟨wz.heap.size + 1, 0, none⟩ = some (.int .i64 ne) := CB.cell r111_n 0
                  have f113_n1 : w110.cell? ⟨wz.heap.size + 1, 1, none⟩ = some (.int .i64 ns) := CB.cell r111_n 1
                  have f113_n2 : w110.cell? ⟨wz.heap.size + 1, 2, none⟩ = some (.int .u8 nt) := CB.cell r111_n 2
                  have f113_x0 : w110.cell? ⟨w4.heap.size, 0, none⟩ = some (.int .i64 xe) := CB.cell r111_x 0
                  have f113_x1 : w110.cell? ⟨w4.heap.size, 1, none⟩ = some (.int .i64 xs) := CB.cell r111_x 1
                  have f113_x2 : w110.cell? ⟨w4.heap.size, 2, none⟩ = some (.int .u8 xt) := CB.cell r111_x 2
                  go_wp2_with fail
                  clear f113_n0 f113_n1 f113_n2 f113_x0 f113_x1 f113_x2
                  go_loopw [11] (fun kv wr => ∃ j : Int, kv = .int .i64 j ∧ 0 ≤ j ∧ j ≤ g + 1 ∧ CB wr (wz.heap.size + 1) 27 #[.int .i64 ne, .int .i64 ns, .int .u8 nt] ∧ CB wr (w4.heap.size) 27 #[.int .i64 xe, .int .i64 xs, .int .u8 xt] ∧ Below w.heap.size w wr) (fun kv _ => (g + 1 - intOf kv).toNat)
                  case atStart => exact ⟨g - 3, rfl, by omega, by omega, r111_n, r111_x, l111⟩
                  case round =>
                    obtain ⟨j, rfl, hj0, hj1, hn', hx', hb'⟩ := hrel
                    clear r111_n r111_x r111_a l111
                    by_cases hle : j ≤ g
                    · have S1 := fun W => speaks_c ne ns nt j W
                      simp only [fw_mute HK.out j hle] at S1
                      by_cases hjp : 0 < j
                      ·
                        have f301_n0 : wr.cell? ⟨wz.heap.size + 1, 0, none⟩ = some (.int .i64 ne) := CB.cell hn' 0
                        have f301_n1 : wr.cell? ⟨wz.heap.size + 1, 1, none⟩ = some (.int .i64 ns) := CB.cell hn' 1
                        have f301_n2 : wr.cell? ⟨wz.heap.size + 1, 2, none⟩ = some (.int .u8 nt) := CB.cell hn' 2
                        go_wp2_with fail
                        refine (S1 _).mono ?_
                        rintro e w302 ⟨rfl, b302⟩
                        clear f301_n0 f301_n1 f301_n2
                        have r303_x := le_on hx' b302
                        have r303_n := le_on hn' b302
                        have l303 := le_tr hb' b302
                        clear hx' hn' hb'
                        clear b302
                        go_wp2_with fail
                        go_roundw
                        case rel => exact ⟨j + 1, by go_num, by omega, by omega, r303_n, r303_x, l303⟩
                        case measure => simp [intOf]; omega
                      ·
                        go_wp2_with fail
                        go_roundw
                        case rel => exact ⟨j + 1, by go_num, by omega, by omega, hn', hx', hb'⟩
                        case measure => simp [intOf]; omega
                    ·
                      have f301_n0 : wr.cell? ⟨wz.heap.size + 1, 0, none⟩ = some (.int .i64 ne) := CB.cell hn' 0
                      have f301_n1 : wr.cell? ⟨wz.heap.size + 1, 1, none⟩ = some (.int .i64 ns) := CB.cell hn' 1
                      have f301_n2 : wr.cell? ⟨wz.heap.size + 1, 2, none⟩ = some (.int .u8 nt) := CB.cell hn' 2
                      have f301_x0 : wr.cell? ⟨w4.heap.size, 0, none⟩ = some (.int .i64 xe) := CB.cell hx' 0
                      have z301_x0 : wr.frozen? ⟨w4.heap.size, 0, none⟩ = false := CB.frozen hx' 0
                      have f301_x1 : wr.cell? ⟨w4.heap.size, 1, none⟩ = some (.int .i64 xs) := CB.cell hx' 1
                      have z301_x1 : wr.frozen? ⟨w4.heap.size, 1, none⟩ = false := CB.frozen hx' 1
                      have f301_x2 : wr.cell? ⟨w4.heap.size, 2, none⟩ = some (.int .u8 xt) := CB.cell hx' 2
                      have z301_x2 : wr.frozen? ⟨w4.heap.size, 2, none⟩ = false := CB.frozen hx' 2
                      obtain ⟨V302, hV302, nV302, lV302, kV302⟩ := cb_end3 hx' (.int .i64 ne) (.int .i64 ns) (.int .u8 nt)
                      have HV302 := Lib.hid hV302
                      have mV302_n := kV302 _ _ _ (Ne.symm neW103_x) hn'
                      have oV302 := lV302 _ _ hb' (by omega)
                      clear hV302 lV302 kV302
                      clear hx' hn' hb'
                      go_wp2_with fail
                      rw [HV302.out]
                      go_roundw
                      case rel => exact ⟨k + 1, ne, ns, nt, g, by omega, by go_num, rfl, nV302, HK.out, oV302⟩
                      case measure => simp [intOf]; omega
                ·
                  have f113_n0 : w110.cell? ⟨wz.heap.size + 1, 0, none⟩ = some (.int .i64 ne) := CB.cell r111_n 0
                  have f113_n1 : w110.cell? ⟨wz.heap.size + 1, 1, none⟩ = some (.int .i64 ns) := CB.cell r111_n 1
                  have f113_n2 : w110.cell? ⟨wz.heap.size + 1, 2, none⟩ = some (.int .u8 nt) := CB.cell r111_n 2
                  have f113_x0 : w110.cell? ⟨w4.heap.size, 0, none⟩ = some (.int .i64 xe) := CB.cell r111_x 0
                  have f113_x1 : w110.cell? ⟨w4.heap.size, 1, none⟩ = some (.int .i64 xs) := CB.cell r111_x 1
                  have f113_x2 : w110.cell? ⟨w4.heap.size, 2, none⟩ = some (.int .u8 xt) := CB.cell r111_x 2
                  go_wp2_with fail
                  clear f113_n0 f113_n1 f113_n2 f113_x0 f113_x1 f113_x2
                  go_loopw [11] (fun kv wr => ∃ j : Int, kv = .int .i64 j ∧ 0 ≤ j ∧ j ≤ g + 1 ∧ CB wr (wz.heap.size + 1) 27 #[.int .i64 ne, .int .i64 ns, .int .u8 nt] ∧ CB wr (w4.heap.size) 27 #[.int .i64 xe, .int .i64 xs, .int .u8 xt] ∧ Below w.heap.size w wr) (fun kv _ => (g + 1 - intOf kv).toNat)
                  case atStart => exact ⟨0, rfl, by omega, by omega, r111_n, r111_x, l111⟩
                  case round =>
                    obtain ⟨j, rfl, hj0, hj1, hn', hx', hb'⟩ := hrel
                    clear r111_n r111_x r111_a l111
                    by_cases hle : j ≤ g
                    · have S1 := fun W => speaks_c ne ns nt j W
                      simp only [fw_mute HK.out j hle] at S1
                      by_cases hjp : 0 < j
                      ·
                        have f301_n0 : wr.cell? ⟨wz.heap.size + 1, 0, none⟩ = some (.int .i64 ne) := CB.cell hn' 0
                        have f301_n1 : wr.cell? ⟨wz.heap.size + 1, 1, none⟩ = some (.int .i64 ns) := CB.cell hn' 1
                        have f301_n2 : wr.cell? ⟨wz.heap.size + 1, 2, none⟩ = some (.int .u8 nt) := CB.cell hn' 2
                        go_wp2_with fail
                        refine (S1 _).mono ?_
                        rintro e w302 ⟨rfl, b302⟩
                        clear f301_n0 f301_n1 f301_n2
                        have r303_x := le_on hx' b302
                        have r303_n := le_on hn' b302
                        have l303 := le_tr hb' b302
                        clear hx' hn' hb'
                        clear b302
                        go_wp2_with fail
                        go_roundw
                        case rel => exact ⟨j + 1, by go_num, by omega, by omega, r303_n, r303_x, l303⟩
                        case measure => simp [intOf]; omega
                      ·
                        go_wp2_with fail
                        go_roundw
                        case rel => exact ⟨j + 1, by go_num, by omega, by omega, hn', hx', hb'⟩
                        case measure => simp [intOf]; omega
                    ·
                      have f301_n0 : wr.cell? ⟨wz.heap.size + 1, 0, none⟩ = some (.int .i64 ne) := CB.cell hn' 0
                      have f301_n1 : wr.cell? ⟨wz.heap.size + 1, 1, none⟩ = some (.int .i64 ns) := CB.cell hn' 1
                      have f301_n2 : wr.cell? ⟨wz.heap.size + 1, 2, none⟩ = some (.int .u8 nt) := CB.cell hn' 2
                      have f301_x0 : wr.cell? ⟨w4.heap.size, 0, none⟩ = some (.int .i64 xe) := CB.cell hx' 0
                      have z301_x0 : wr.frozen? ⟨w4.heap.size, 0, none⟩ = false := CB.frozen hx' 0
                      have f301_x1 : wr.cell? ⟨w4.heap.size, 1, none⟩ = some (.int .i64 xs) := CB.cell hx' 1
                      have z301_x1 : wr.frozen? ⟨w4.heap.size, 1, none⟩ = false := CB.frozen hx' 1
                      have f301_x2 : wr.cell? ⟨w4.heap.size, 2, none⟩ = some (.int .u8 xt) := CB.cell hx' 2
                      have z301_x2 : wr.frozen? ⟨w4.heap.size, 2, none⟩ = false := CB.frozen hx' 2
                      obtain ⟨V302, hV302, nV302, lV302, kV302⟩ := cb_end3 hx' (.int .i64 ne) (.int .i64 ns) (.int .u8 nt)
                      have HV302 := Lib.hid hV302
                      have mV302_n := kV302 _ _ _ (Ne.symm neW103_x) hn'
                      have oV302 := lV302 _ _ hb' (by omega)
                      clear hV302 lV302 kV302
                      clear hx' hn' hb'
                      go_wp2_with fail
                      rw [HV302.out]
                      go_roundw
                      case rel => exact ⟨k + 1, ne, ns, nt, g, by omega, by go_num, rfl, nV302, HK.out, oV302⟩
                      case measure => simp [intOf]; omega
            · have z1 : ((kx : Int) != 0) = true := by simp [hkz]
              have hsame := HS.out.same hkz
              simp only [Ls.mk.injEq] at hsame
              obtain ⟨y1, y2, y3⟩ := hsame
              have z2 : (ne != xe) = false := by simp [y1]
              have z3 : (ns != xs) = false := by simp [y2]
              have z4 : (nt != xt) = false := by simp [y3]
              have z5 : (ne == xe) = true := by simp [y1]
              have z6 : (ns == xs) = true := by simp [y2]
              have z7 : (nt == xt) = true := by simp [y3]
              clear y1 y2 y3 hkz
              have f109_n0 : ((((w106).setCell ⟨wz.heap.size + 1, 0, none⟩ (.int .i64 ne)).setCell ⟨wz.heap.size + 1, 1, none⟩ (.int .i64 ns)).setCell ⟨wz.heap.size + 1, 2, none⟩ (.int .u8 nt)).cell? ⟨wz.heap.size + 1, 0, none⟩ = some (.int .i64 ne) := by rw [HV108.out]; exact CB.cell nV108 0
              have f109_n1 : ((((w106).setCell ⟨wz.heap.size + 1, 0, none⟩ (.int .i64 ne)).setCell ⟨wz.heap.size + 1, 1, none⟩ (.int .i64 ns)).setCell ⟨wz.heap.size + 1, 2, none⟩ (.int .u8 nt)).cell? ⟨wz.heap.size + 1, 1, none⟩ = some (.int .i64 ns) := by rw [HV108.out]; exact CB.cell nV108 1
              have f109_n2 : ((((w106).setCell ⟨wz.heap.size + 1, 0, none⟩ (.int .i64 ne)).setCell ⟨wz.heap.size + 1, 1, none⟩ (.int .i64 ns)).setCell ⟨wz.heap.size + 1, 2, none⟩ (.int .u8 nt)).cell? ⟨wz.heap.size + 1, 2, none⟩ = some (.int .u8 nt) := by rw [HV108.out]; exact CB.cell nV108 2
              have f109_x0 : ((((w106).setCell ⟨wz.heap.size + 1, 0, none⟩ (.int .i64 ne)).setCell ⟨wz.heap.size + 1, 1, none⟩ (.int .i64 ns)).setCell ⟨wz.heap.size + 1, 2, none⟩ (.int .u8 nt)).cell? ⟨w4.heap.size, 0, none⟩ = some (.int .i64 xe) := by rw [HV108.out]; exact CB.cell mV108_x 0
              have f109_x1 : ((((w106).setCell ⟨wz.heap.size + 1, 0, none⟩ (.int .i64 ne)).setCell ⟨wz.heap.size + 1, 1, none⟩ (.int .i64 ns)).setCell ⟨wz.heap.size + 1, 2, none⟩ (.int .u8 nt)).cell? ⟨w4.heap.size, 1, none⟩ = some (.int .i64 xs) := by rw [HV108.out]; exact CB.cell mV108_x 1
              have f109_x2 : ((((w106).setCell ⟨wz.heap.size + 1, 0, none⟩ (.int .i64 ne)).setCell ⟨wz.heap.size + 1, 1, none⟩ (.int .i64 ns)).setCell ⟨wz.heap.size + 1, 2, none⟩ (.int .u8 nt)).cell? ⟨w4.heap.size, 2, none⟩ = some (.int .u8 xt) := by rw [HV108.out]; exact CB.cell mV108_x 2
              go_wp2_with fail
              rw [HV108.out]
              refine (R1 _).mono ?_
              rintro e w110 ⟨rfl, b110⟩
              clear f107_n0 z107_n0 f107_n1 z107_n1 f107_n2 z107_n2 f109_n0 f109_n1 f109_n2 f109_x0 f109_x1 f109_x2
              have r111_x := le_on mV108_x b110
              have r111_a := le_on mV108_a b110
              have r111_n := le_on nV108 b110
              have l111 := le_tr oV108 b110
              clear mV108_x mV108_a nV108 oV108
              clear b110
              by_cases h2 : ns = 2
              · have s1 : (ns == 2) = true := by simp [h2]
                have HK := Lib.hid (show FwI ⟨ne, ns, nt⟩ ne by have := HJ.out; rwa [if_pos h2] at this)
                clear h2 HJ
                have g1 : 0 ≤ ne := HK.out.2.1
                have g2 : ne ≤ 1048576 := HK.out.2.2.1
                by_cases h3 : (0 : Int) < ne - 3
                ·
                  have f113_n0 : w110.cell? ⟨wz.heap.size + 1, 0, none⟩ = some (.int .i64 ne) := CB.cell r111_n 0
                  have f113_n1 : w110.cell? ⟨wz.heap.size + 1, 1, none⟩ = some (.int .i64 ns) := CB.cell r111_n 1
                  have f113_n2 : w110.cell? ⟨wz.heap.size + 1, 2, none⟩ = some (.int .u8 nt) := CB.cell r111_n 2
                  have f113_x0 : w110.cell? ⟨w4.heap.size, 0, none⟩ = some (.int .i64 xe) := CB.cell r111_x 0
                  have f113_x1 : w110.cell? ⟨w4.heap.size, 1, none⟩ = some (.int .i64 xs) := CB.cell r111_x 1
                  have f113_x2 : w110.cell? ⟨w4.heap.size, 2, none⟩ = some (.int .u8 xt) := CB.cell r111_x 2
                  go_wp2_with fail
                  clear f113_n0 f113_n1 f113_n2 f113_x0 f113_x1 f113_x2
                  go_loopw [11] (fun kv wr => ∃ j : Int, kv = .int .i64 j ∧ 0 ≤ j ∧ j ≤ ne + 1 ∧ CB wr (wz.heap.size + 1) 27 #[.int .i64 ne, .int .i64 ns, .int .u8 nt] ∧ CB wr (w4.heap.size) 27 #[.int .i64 xe, .int .i64 xs, .int .u8 xt] ∧ Below w.heap.size w wr) (fun kv _ => (ne + 1 - intOf kv).toNat)
                  case atStart => exact ⟨ne - 3, rfl, by omega, by omega, r111_n, r111_x, l111⟩
                  case round =>
                    obtain ⟨j, rfl, hj0, hj1, hn', hx', hb'⟩ := hrel
                    clear r111_n r111_x r111_a l111
                    by_cases hle : j ≤ ne
                    · have S1 := fun W => speaks_c ne ns nt j W
                      simp only [fw_mute HK.out j hle] at S1
                      by_cases hjp : 0 < j
                      ·
                        have f301_n0 : wr.cell? ⟨wz.heap.size + 1, 0, none⟩ = some (.int .i64 ne) := CB.cell hn' 0
                        have f301_n1 : wr.cell? ⟨wz.heap.size + 1, 1, none⟩ = some (.int .i64 ns) := CB.cell hn' 1
                        have f301_n2 : wr.cell? ⟨wz.heap.size + 1, 2, none⟩ = some (.int .u8 nt) := CB.cell hn' 2
                        go_wp2_with fail
                        refine (S1 _).mono ?_
                        rintro e w302 ⟨rfl, b302⟩
                        clear f301_n0 f301_n1 f301_n2
                        have r303_x := le_on hx' b302
                        have r303_n := le_on hn' b302
                        have l303 := le_tr hb' b302
                        clear hx' hn' hb'
                        clear b302
                        go_wp2_with fail
                        go_roundw
                        case rel => exact ⟨j + 1, by go_num, by omega, by omega, r303_n, r303_x, l303⟩
                        case measure => simp [intOf]; omega
                      ·
                        go_wp2_with fail
                        go_roundw
                        case rel => exact ⟨j + 1, by go_num, by omega, by omega, hn', hx', hb'⟩
                        case measure => simp [intOf]; omega
                    ·
                      have f301_n0 : wr.cell? ⟨wz.heap.size + 1, 0, none⟩ = some (.int .i64 ne) := CB.cell hn' 0
                      have f301_n1 : wr.cell? ⟨wz.heap.size + 1, 1, none⟩ = some (.int .i64 ns) := CB.cell hn' 1
                      have f301_n2 : wr.cell? ⟨wz.heap.size + 1, 2, none⟩ = some (.int .u8 nt) := CB.cell hn' 2
                      have f301_x0 : wr.cell? ⟨w4.heap.size, 0, none⟩ = some (.int .i64 xe) := CB.cell hx' 0
                      have z301_x0 : wr.frozen? ⟨w4.heap.size, 0, none⟩ = false := CB.frozen hx' 0
                      have f301_x1 : wr.cell? ⟨w4.heap.size, 1, none⟩ = some (.int .i64 xs) := CB.cell hx' 1
                      have z301_x1 : wr.frozen? ⟨w4.heap.size, 1, none⟩ = false := CB.frozen hx' 1
                      have f301_x2 : wr.cell? ⟨w4.heap.size, 2, none⟩ = some (.int .u8 xt) := CB.cell hx' 2
                      have z301_x2 : wr.frozen? ⟨w4.heap.size, 2, none⟩ = false := CB.frozen hx' 2
                      obtain ⟨V302, hV302, nV302, lV302, kV302⟩ := cb_end3 hx' (.int .i64 ne) (.int .i64 ns) (.int .u8 nt)
                      have HV302 := Lib.hid hV302
                      have mV302_n := kV302 _ _ _ (Ne.symm neW103_x) hn'
                      have oV302 := lV302 _ _ hb' (by omega)
                      clear hV302 lV302 kV302
                      clear hx' hn' hb'
                      go_wp2_with fail
                      rw [HV302.out]
                      go_roundw
                      case rel => exact ⟨k + 1, ne, ns, nt, ne, by omega, by go_num, rfl, nV302, HK.out, oV302⟩
                      case measure => simp [intOf]; omega
                ·
                  have f113_n0 : w110.cell? ⟨wz.heap.size + 1, 0, none⟩ = some (.int .i64 ne) := CB.cell r111_n 0
                  have f113_n1 : w110.cell? ⟨wz.heap.size + 1, 1, none⟩ = some (.int .i64 ns) := CB.cell r111_n 1
                  have f113_n2 : w110.cell? ⟨wz.heap.size + 1, 2, none⟩ = some (.int .u8 nt) := CB.cell r111_n 2
                  have f113_x0 : w110.cell? ⟨w4.heap.size, 0, none⟩ = some (.int .i64 xe) := CB.cell r111_x 0
                  have f113_x1 : w110.cell? ⟨w4.heap.size, 1, none⟩ = some (.int .i64 xs) := CB.cell r111_x 1
                  have f113_x2 : w110.cell? ⟨w4.heap.size, 2, none⟩ = some (.int .u8 xt) := CB.cell r111_x 2
                  go_wp2_with fail
                  clear f113_n0 f113_n1 f113_n2 f113_x0 f113_x1 f113_x2
                  go_loopw [11] (fun kv wr => ∃ j : Int, kv = .int .i64 j ∧ 0 ≤ j ∧ j ≤ ne + 1 ∧ CB wr (wz.heap.size + 1) 27 #[.int .i64 ne, .int .i64 ns, .int .u8 nt] ∧ CB wr (w4.heap.size) 27 #[.int .i64 xe, .int .i64 xs, .int .u8 xt] ∧ Below w.heap.size w wr) (fun kv _ => (ne + 1 - intOf kv).toNat)
                  case atStart => exact ⟨0, rfl, by omega, by omega, r111_n, r111_x, l111⟩
                  case round =>
                    obtain ⟨j, rfl, hj0, hj1, hn', hx', hb'⟩ := hrel
                    clear r111_n r111_x r111_a l111
                    by_cases hle : j ≤ ne
                    · have S1 := fun W => speaks_c ne ns nt j W
                      simp only [fw_mute HK.out j hle] at S1
                      by_cases hjp : 0 < j
                      ·
                        have f301_n0 : wr.cell? ⟨wz.heap.size + 1, 0, none⟩ = some (.int .i64 ne) := CB.cell hn' 0
                        have f301_n1 : wr.cell? ⟨wz.heap.size + 1, 1, none⟩ = some (.int .i64 ns) := CB.cell hn' 1
                        have f301_n2 : wr.cell? ⟨wz.heap.size + 1, 2, none⟩ = some (.int .u8 nt) := CB.cell hn' 2
                        go_wp2_with fail
                        refine (S1 _).mono ?_
                        rintro e w302 ⟨rfl, b302⟩
                        clear f301_n0 f301_n1 f301_n2
                        have r303_x := le_on hx' b302
                        have r303_n := le_on hn' b302
                        have l303 := le_tr hb' b302
                        clear hx' hn' hb'
                        clear b302
                        go_wp2_with fail
                        go_roundw
                        case rel => exact ⟨j + 1, by go_num, by omega, by omega, r303_n, r303_x, l303⟩
                        case measure => simp [intOf]; omega
                      ·
                        go_wp2_with fail
                        go_roundw
                        case rel => exact ⟨j + 1, by go_num, by omega, by omega, hn', hx', hb'⟩
                        case measure => simp [intOf]; omega
                    ·
                      have f301_n0 : wr.cell? ⟨wz.heap.size + 1, 0, none⟩ = some (.int .i64 ne) := CB.cell hn' 0
                      have f301_n1 : wr.cell? ⟨wz.heap.size + 1, 1, none⟩ = some (.int .i64 ns) := CB.cell hn' 1
                      have f301_n2 : wr.cell? ⟨wz.heap.size + 1, 2, none⟩ = some (.int .u8 nt) := CB.cell hn' 2
                      have f301_x0 : wr.cell? ⟨w4.heap.size, 0, none⟩ = some (.int .i64 xe) := CB.cell hx' 0
                      have z301_x0 : wr.frozen? ⟨w4.heap.size, 0, none⟩ = false := CB.frozen hx' 0
                      have f301_x1 : wr.cell? ⟨w4.heap.size, 1, none⟩ = some (.int .i64 xs) := CB.cell hx' 1
                      have z301_x1 : wr.frozen? ⟨w4.heap.size, 1, none⟩ = false := CB.frozen hx' 1
                      have f301_x2 : wr.cell? ⟨w4.heap.size, 2, none⟩ = some (.int .u8 xt) := CB.cell hx' 2
                      have z301_x2 : wr.frozen? ⟨w4.heap.size, 2, none⟩ = false := CB.frozen hx' 2
                      obtain ⟨V302, hV302, nV302, lV302, kV302⟩ := cb_end3 hx' (.int .i64 ne) (.int .i64 ns) (.int .u8 nt)
                      have HV302 := Lib.hid hV302
                      have mV302_n := kV302 _ _ _ (Ne.symm neW103_x) hn'
                      have oV302 := lV302 _ _ hb' (by omega)
                      clear hV302 lV302 kV302
                      clear hx' hn' hb'
                      go_wp2_with fail
                      rw [HV302.out]
                      go_roundw
                      case rel => exact ⟨k + 1, ne, ns, nt, ne, by omega, by go_num, rfl, nV302, HK.out, oV302⟩
                      case measure => simp [intOf]; omega
              · have s1 : (ns == 2) = false := by simp [h2]
                have HK := Lib.hid (show FwI ⟨ne, ns, nt⟩ g by have := HJ.out; rwa [if_neg h2] at this)
                clear h2 HJ
                have g1 : 0 ≤ g := HK.out.2.1
                have g2 : g ≤ 1048576 := HK.out.2.2.1
                by_cases h3 : (0 : Int) < g - 3
                ·
                  have f113_n0 : w110.cell? ⟨wz.heap.size + 1, 0, none⟩ = some (.int .i64 ne) := CB.cell r111_n 0
                  have f113_n1 : w110.cell? ⟨wz.heap.size + 1, 1, none⟩ = some (.int .i64 ns) := CB.cell r111_n 1
                  have f113_n2 : w110.cell? ⟨wz.heap.size + 1, 2, none⟩ = some (.int .u8 nt) := CB.cell r111_n 2
                  have f113_x0 : w110.cell? ⟨w4.heap.size, 0, none⟩ = some (.int .i64 xe) := CB.cell r111_x 0
                  have f113_x1 : w110.cell? ⟨w4.heap.size, 1, none⟩ = some (.int .i64 xs) := CB.cell r111_x 1
                  have f113_x2 : w110.cell? ⟨w4.heap.size, 2, none⟩ = some (.int .u8 xt) := CB.cell r111_x 2
                  go_wp2_with fail
                  clear f113_n0 f113_n1 f113_n2 f113_x0 f113_x1 f113_x2
                  go_loopw [11] (fun kv wr => ∃ j : Int, kv = .int .i64 j ∧ 0 ≤ j ∧ j ≤ g + 1 ∧ CB wr (wz.heap.size + 1) 27 #[.int .i64 ne, .int .i64 ns, .int .u8 nt] ∧ CB wr (w4.heap.size) 27 #[.int .i64 xe, .int .i64 xs, .int .u8 xt] ∧ Below w.heap.size w wr) (fun kv _ => (g + 1 - intOf kv).toNat)
                  case atStart => exact ⟨g - 3, rfl, by omega, by omega, r111_n, r111_x, l111⟩
                  case round =>
                    obtain ⟨j, rfl, hj0, hj1, hn', hx', hb'⟩ := hrel
                    clear r111_n r111_x r111_a l111
                    by_cases hle : j ≤ g
                    · have S1 := fun W => speaks_c ne ns nt j W
                      simp only [fw_mute HK.out j hle] at S1
                      by_cases hjp : 0 < j
                      ·
                        have f301_n0 : wr.cell? ⟨wz.heap.size + 1, 0, none⟩ = some (.int .i64 ne) := CB.cell hn' 0
                        have f301_n1 : wr.cell? ⟨wz.heap.size + 1, 1, none⟩ = some (.int .i64 ns) := CB.cell hn' 1
                        have f301_n2 : wr.cell? ⟨wz.heap.size + 1, 2, none⟩ = some (.int .u8 nt) := CB.cell hn' 2
                        go_wp2_with fail
                        refine (S1 _).mono ?_
                        rintro e w302 ⟨rfl, b302⟩
                        clear f301_n0 f301_n1 f301_n2
                        have r303_x := le_on hx' b302
                        have r303_n := le_on hn' b302
                        have l303 := le_tr hb' b302
                        clear hx' hn' hb'
                        clear b302
                        go_wp2_with fail
                        go_roundw
                        case rel => exact ⟨j + 1, by go_num, by omega, by omega, r303_n, r303_x, l303⟩
                        case measure => simp [intOf]; omega
                      ·
                        go_wp2_with fail
                        go_roundw
                        case rel => exact ⟨j + 1, by go_num, by omega, by omega, hn', hx', hb'⟩
                        case measure => simp [intOf]; omega
                    ·
                      have f301_n0 : wr.cell? ⟨wz.heap.size + 1, 0, none⟩ = some (.int .i64 ne) := CB.cell hn' 0
                      have f301_n1 : wr.cell? ⟨wz.heap.size + 1, 1, none⟩ = some (.int .i64 ns) := CB.cell hn' 1
                      have f301_n2 : wr.cell? ⟨wz.heap.size + 1, 2, none⟩ = some (.int .u8 nt) := CB.cell hn' 2
                      have f301_x0 : wr.cell? ⟨w4.heap.size, 0, none⟩ = some (.int .i64 xe) := CB.cell hx' 0
                      have z301_x0 : wr.frozen? ⟨w4.heap.size, 0, none⟩ = false := CB.frozen hx' 0
                      have f301_x1 : wr.cell? ⟨w4.heap.size, 1, none⟩ = some (.int .i64 xs) := CB.cell hx' 1
                      have z301_x1 : wr.frozen? ⟨w4.heap.size, 1, none⟩ = false := CB.frozen hx' 1
                      have f301_x2 : wr.cell? ⟨w4.heap.size, 2, none⟩ = some (.int .u8 xt) := CB.cell hx' 2
                      have z301_x2 : wr.frozen? ⟨w4.heap.size, 2, none⟩ = false := CB.frozen hx' 2
                      obtain ⟨V302, hV302, nV302, lV302, kV302⟩ := cb_end3 hx' (.int .i64 ne) (.int .i64 ns) (.int .u8 nt)
                      have HV302 := Lib.hid hV302
                      have mV302_n := kV302 _ _ _ (Ne.symm neW103_x) hn'
                      have oV302 := lV302 _ _ hb' (by omega)
                      clear hV302 lV302 kV302
                      clear hx' hn' hb'
                      go_wp2_with fail
                      rw [HV302.out]
                      go_roundw
                      case rel => exact ⟨k + 1, ne, ns, nt, g, by omega, by go_num, rfl, nV302, HK.out, oV302⟩
                      case measure => simp [intOf]; omega
                ·
                  have f113_n0 : w110.cell? ⟨wz.heap.size + 1, 0, none⟩ = some (.int .i64 ne) := CB.cell r111_n 0
                  have f113_n1 : w110.cell? ⟨wz.heap.size + 1, 1, none⟩ = some (.int .i64 ns) := CB.cell r111_n 1
                  have f113_n2 : w110.cell? ⟨wz.heap.size + 1, 2, none⟩ = some (.int .u8 nt) := CB.cell r111_n 2
                  have f113_x0 : w110.cell? ⟨w4.heap.size, 0, none⟩ = some (.int .i64 xe) := CB.cell r111_x 0
                  have f113_x1 : w110.cell? ⟨w4.heap.size, 1, none⟩ = some (.int .i64 xs) := CB.cell r111_x 1
                  have f113_x2 : w110.cell? ⟨w4.heap.size, 2, none⟩ = some (.int .u8 xt) := CB.cell r111_x 2
                  go_wp2_with fail
                  clear f113_n0 f113_n1 f113_n2 f113_x0 f113_x1 f113_x2
                  go_loopw [11] (fun kv wr => ∃ j : Int, kv = .int .i64 j ∧ 0 ≤ j ∧ j ≤ g + 1 ∧ CB wr (wz.heap.size + 1) 27 #[.int .i64 ne, .int .i64 ns, .int .u8 nt] ∧ CB wr (w4.heap.size) 27 #[.int .i64 xe, .int .i64 xs, .int .u8 xt] ∧ Below w.heap.size w wr) (fun kv _ => (g + 1 - intOf kv).toNat)
                  case atStart => exact ⟨0, rfl, by omega, by omega, r111_n, r111_x, l111⟩
                  case round =>
                    obtain ⟨j, rfl, hj0, hj1, hn', hx', hb'⟩ := hrel
                    clear r111_n r111_x r111_a l111
                    by_cases hle : j ≤ g
                    · have S1 := fun W => speaks_c ne ns nt j W
                      simp only [fw_mute HK.out j hle] at S1
                      by_cases hjp : 0 < j
                      ·
                        have f301_n0 : wr.cell? ⟨wz.heap.size + 1, 0, none⟩ = some (.int .i64 ne) := CB.cell hn' 0
                        have f301_n1 : wr.cell? ⟨wz.heap.size + 1, 1, none⟩ = some (.int .i64 ns) := CB.cell hn' 1
                        have f301_n2 : wr.cell? ⟨wz.heap.size + 1, 2, none⟩ = some (.int .u8 nt) := CB.cell hn' 2
                        go_wp2_with fail
                        refine (S1 _).mono ?_
                        rintro e w302 ⟨rfl, b302⟩
                        clear f301_n0 f301_n1 f301_n2
                        have r303_x := le_on hx' b302
                        have r303_n := le_on hn' b302
                        have l303 := le_tr hb' b302
                        clear hx' hn' hb'
                        clear b302
                        go_wp2_with fail
                        go_roundw
                        case rel => exact ⟨j + 1, by go_num, by omega, by omega, r303_n, r303_x, l303⟩
                        case measure => simp [intOf]; omega
                      ·
                        go_wp2_with fail
                        go_roundw
                        case rel => exact ⟨j + 1, by go_num, by omega, by omega, hn', hx', hb'⟩
                        case measure => simp [intOf]; omega
                    ·
                      have f301_n0 : wr.cell? ⟨wz.heap.size + 1, 0, none⟩ = some (.int .i64 ne) := CB.cell hn' 0
                      have f301_n1 : wr.cell? ⟨wz.heap.size + 1, 1, none⟩ = some (.int .i64 ns) := CB.cell hn' 1
                      have f301_n2 : wr.cell? ⟨wz.heap.size + 1, 2, none⟩ = some (.int .u8 nt) := CB.cell hn' 2
                      have f301_x0 : wr.cell? ⟨w4.heap.size, 0, none⟩ = some (.int .i64 xe) := CB.cell hx' 0
                      have z301_x0 : wr.frozen? ⟨w4.heap.size, 0, none⟩ = false := CB.frozen hx' 0
                      have f301_x1 : wr.cell? ⟨w4.heap.size, 1, none⟩ = some (.int .i64 xs) := CB.cell hx' 1
                      have z301_x1 : wr.frozen? ⟨w4.heap.size, 1, none⟩ = false := CB.frozen hx' 1
                      have f301_x2 : wr.cell? ⟨w4.heap.size, 2, none⟩ = some (.int .u8 xt) := CB.cell hx' 2
                      have z301_x2 : wr.frozen? ⟨w4.heap.size, 2, none⟩ = false := CB.frozen hx' 2
                      obtain ⟨V302, hV302, nV302, lV302, kV302⟩ := cb_end3 hx' (.int .i64 ne) (.int .i64 ns) (.int .u8 nt)
                      have HV302 := Lib.hid hV302
                      have mV302_n := kV302 _ _ _ (Ne.symm neW103_x) hn'
                      have oV302 := lV302 _ _ hb' (by omega)
                      clear hV302 lV302 kV302
                      clear hx' hn' hb'
                      go_wp2_with fail
                      rw [HV302.out]
                      go_roundw
                      case rel => exact ⟨k + 1, ne, ns, nt, g, by omega, by go_num, rfl, nV302, HK.out, oV302⟩
                      case measure => simp [intOf]; omega
          | false =>
            obtain ⟨nx, hnx⟩ : ∃ s, sTakeL ⟨xe, xs, xt⟩ ax = s := ⟨_, rfl⟩
            obtain ⟨kx, hkx⟩ : ∃ s, eTakeL ⟨xe, xs, xt⟩ ax = s := ⟨_, rfl⟩
            have hst := step_take ax HI.out.1
            have T1 := fun W => take_c xe xs xt ax W
            simp only [hnx, hkx] at T1
            rw [hnx, hkx] at hst
            obtain ⟨ne, ns, nt⟩ := nx
            simp only at T1
            have HJ := Lib.hid (fw_next HI.out hst)
            simp only at HJ
            have HS := Lib.hid hst
            clear hnx hkx hst
            have R1 := fun W => right_c ne ns nt W
            simp only [HS.out.right] at R1
            have f105_x0 : ((wz.alloc (.cells #[.bool false, .int .i64 ax, .int .u8 at'] 25)).alloc (.cells #[.int .i64 0, .int .i64 0, .int .u8 0] 27)).cell? ⟨w4.heap.size, 0, none⟩ = some (.int .i64 xe) := by rw [HW103.out]; exact CB.cell r104_x 0
            have f105_x1 : ((wz.alloc (.cells #[.bool false, .int .i64 ax, .int .u8 at'] 25)).alloc (.cells #[.int .i64 0, .int .i64 0, .int .u8 0] 27)).cell? ⟨w4.heap.size, 1, none⟩ = some (.int .i64 xs) := by rw [HW103.out]; exact CB.cell r104_x 1
            have f105_x2 : ((wz.alloc (.cells #[.bool false, .int .i64 ax, .int .u8 at'] 25)).alloc (.cells #[.int .i64 0, .int .i64 0, .int .u8 0] 27)).cell? ⟨w4.heap.size, 2, none⟩ = some (.int .u8 xt) := by rw [HW103.out]; exact CB.cell r104_x 2
            have f105_a0 : ((wz.alloc (.cells #[.bool false, .int .i64 ax, .int .u8 at'] 25)).alloc (.cells #[.int .i64 0, .int .i64 0, .int .u8 0] 27)).cell? ⟨wz.heap.size, 0, none⟩ = some (.bool false) := by rw [HW103.out]; exact CB.cell r104_a 0
            have f105_a1 : ((wz.alloc (.cells #[.bool false, .int .i64 ax, .int .u8 at'] 25)).alloc (.cells #[.int .i64 0, .int .i64 0, .int .u8 0] 27)).cell? ⟨wz.heap.size, 1, none⟩ = some (.int .i64 ax) := by rw [HW103.out]; exact CB.cell r104_a 1
            have f105_a2 : ((wz.alloc (.cells #[.bool false, .int .i64 ax, .int .u8 at'] 25)).alloc (.cells #[.int .i64 0, .int .i64 0, .int .u8 0] 27)).cell? ⟨wz.heap.size, 2, none⟩ = some (.int .u8 at') := by rw [HW103.out]; exact CB.cell r104_a 2
            go_wp2_with fail
            rw [HW103.out]
            refine (T1 _).mono ?_
            rintro e w106 ⟨rfl, b106⟩
            clear a0 a1 a2 f105_x0 f105_x1 f105_x2 f105_a0 f105_a1 f105_a2
            have r107_x := le_on r104_x b106
            have r107_a := le_on r104_a b106
            have r107_n := le_on nW103 b106
            have l107 := le_tr l104 b106
            clear r104_x r104_a nW103 l104
            clear b106
            have f107_n0 : w106.cell? ⟨wz.heap.size + 1, 0, none⟩ = some (.int .i64 0) := CB.cell r107_n 0
            have z107_n0 : w106.frozen? ⟨wz.heap.size + 1, 0, none⟩ = false := CB.frozen r107_n 0
            have f107_n1 : w106.cell? ⟨wz.heap.size + 1, 1, none⟩ = some (.int .i64 0) := CB.cell r107_n 1
            have z107_n1 : w106.frozen? ⟨wz.heap.size + 1, 1, none⟩ = false := CB.frozen r107_n 1
            have f107_n2 : w106.cell? ⟨wz.heap.size + 1, 2, none⟩ = some (.int .u8 0) := CB.cell r107_n 2
            have z107_n2 : w106.frozen? ⟨wz.heap.size + 1, 2, none⟩ = false := CB.frozen r107_n 2
            obtain ⟨V108, hV108, nV108, lV108, kV108⟩ := cb_end3 r107_n (.int .i64 ne) (.int .i64 ns) (.int .u8 nt)
            have HV108 := Lib.hid hV108
            have mV108_x := kV108 _ _ _ neW103_x r107_x
            have mV108_a := kV108 _ _ _ neW103_a r107_a
            have oV108 := lV108 _ _ l107 (by omega)
            clear hV108 lV108 kV108
            clear r107_n r107_x r107_a l107
            have hup : ¬ ne < xe := by have : xe ≤ ne := HS.out.up; omega
            have hup' : decide (ne < xe) = false := by simp; have : xe ≤ ne := HS.out.up; omega
            by_cases hkz : kx = 0
            · have z1 : ((kx : Int) != 0) = false := by simp [hkz]
              clear hkz
              have f109_n0 : ((((w106).setCell ⟨wz.heap.size + 1, 0, none⟩ (.int .i64 ne)).setCell ⟨wz.heap.size + 1, 1, none⟩ (.int .i64 ns)).setCell ⟨wz.heap.size + 1, 2, none⟩ (.int .u8 nt)).cell? ⟨wz.heap.size + 1, 0, none⟩ = some (.int .i64 ne) := by rw [HV108.out]; exact CB.cell nV108 0
              have f109_n1 : ((((w106).setCell ⟨wz.heap.size + 1, 0, none⟩ (.int .i64 ne)).setCell ⟨wz.heap.size + 1, 1, none⟩ (.int .i64 ns)).setCell ⟨wz.heap.size + 1, 2, none⟩ (.int .u8 nt)).cell? ⟨wz.heap.size + 1, 1, none⟩ = some (.int .i64 ns) := by rw [HV108.out]; exact CB.cell nV108 1
              have f109_n2 : ((((w106).setCell ⟨wz.heap.size + 1, 0, none⟩ (.int .i64 ne)).setCell ⟨wz.heap.size + 1, 1, none⟩ (.int .i64 ns)).setCell ⟨wz.heap.size + 1, 2, none⟩ (.int .u8 nt)).cell? ⟨wz.heap.size + 1, 2, none⟩ = some (.int .u8 nt) := by rw [HV108.out]; exact CB.cell nV108 2
              have f109_x0 : ((((w106).setCell ⟨wz.heap.size + 1, 0, none⟩ (.int .i64 ne)).setCell ⟨wz.heap.size + 1, 1, none⟩ (.int .i64 ns)).setCell ⟨wz.heap.size + 1, 2, none⟩ (.int .u8 nt)).cell? ⟨w4.heap.size, 0, none⟩ = some (.int .i64 xe) := by rw [HV108.out]; exact CB.cell mV108_x 0
              have f109_x1 : ((((w106).setCell ⟨wz.heap.size + 1, 0, none⟩ (.int .i64 ne)).setCell ⟨wz.heap.size + 1, 1, none⟩ (.int .i64 ns)).setCell ⟨wz.heap.size + 1, 2, none⟩ (.int .u8 nt)).cell? ⟨w4.heap.size, 1, none⟩ = some (.int .i64 xs) := by rw [HV108.out]; exact CB.cell mV108_x 1
              have f109_x2 : ((((w106).setCell ⟨wz.heap.size + 1, 0, none⟩ (.int .i64 ne)).setCell ⟨wz.heap.size + 1, 1, none⟩ (.int .i64 ns)).setCell ⟨wz.heap.size + 1, 2, none⟩ (.int .u8 nt)).cell? ⟨w4.heap.size, 2, none⟩ = some (.int .u8 xt) := by rw [HV108.out]; exact CB.cell mV108_x 2
              go_wp2_with fail
              rw [HV108.out]
              refine (R1 _).mono ?_
              rintro e w110 ⟨rfl, b110⟩
              clear f107_n0 z107_n0 f107_n1 z107_n1 f107_n2 z107_n2 f109_n0 f109_n1 f109_n2 f109_x0 f109_x1 f109_x2
              have r111_x := le_on mV108_x b110
              have r111_a := le_on mV108_a b110
              have r111_n := le_on nV108 b110
              have l111 := le_tr oV108 b110
              clear mV108_x mV108_a nV108 oV108
              clear b110
              by_cases h2 : ns = 2
              · have s1 : (ns == 2) = true := by simp [h2]
                have HK := Lib.hid (show FwI ⟨ne, ns, nt⟩ ne by have := HJ.out; rwa [if_pos h2] at this)
                clear h2 HJ
                have g1 : 0 ≤ ne := HK.out.2.1
                have g2 : ne ≤ 1048576 := HK.out.2.2.1
                by_cases h3 : (0 : Int) < ne - 3
                ·
                  have f113_n0 : w110.cell? ⟨wz.heap.size + 1, 0, none⟩ = some (.int .i64 ne) := CB.cell r111_n 0
                  have f113_n1 : w110.cell? ⟨wz.heap.size + 1, 1, none⟩ = some (.int .i64 ns) := CB.cell r111_n 1
                  have f113_n2 : w110.cell? ⟨wz.heap.size + 1, 2, none⟩ = some (.int .u8 nt) := CB.cell r111_n 2
                  have f113_x0 : w110.cell? ⟨w4.heap.size, 0, none⟩ = some (.int .i64 xe) := CB.cell r111_x 0
                  have f113_x1 : w110.cell? ⟨w4.heap.size, 1, none⟩ = some (.int .i64 xs) := CB.cell r111_x 1
                  have f113_x2 : w110.cell? ⟨w4.heap.size, 2, none⟩ = some (.int .u8 xt) := CB.cell r111_x 2
                  go_wp2_with fail
                  clear f113_n0 f113_n1 f113_n2 f113_x0 f113_x1 f113_x2
                  go_loopw [11] (fun kv wr => ∃ j : Int, kv = .int .i64 j ∧ 0 ≤ j ∧ j ≤ ne + 1 ∧ CB wr (wz.heap.size + 1) 27 #[.int .i64 ne, .int .i64 ns, .int .u8 nt] ∧ CB wr (w4.heap.size) 27 #[.int .i64 xe, .int .i64 xs, .int .u8 xt] ∧ Below w.heap.size w wr) (fun kv _ => (ne + 1 - intOf kv).toNat)
                  case atStart => exact ⟨ne - 3, rfl, by omega, by omega, r111_n, r111_x, l111⟩
                  case round =>
                    obtain ⟨j, rfl, hj0, hj1, hn', hx', hb'⟩ := hrel
                    clear r111_n r111_x r111_a l111
                    by_cases hle : j ≤ ne
                    · have S1 := fun W => speaks_c ne ns nt j W
                      simp only [fw_mute HK.out j hle] at S1
                      by_cases hjp : 0 < j
                      ·
                        have f301_n0 : wr.cell? ⟨wz.heap.size + 1, 0, none⟩ = some (.int .i64 ne) := CB.cell hn' 0
                        have f301_n1 : wr.cell? ⟨wz.heap.size + 1, 1, none⟩ = some (.int .i64 ns) := CB.cell hn' 1
                        have f301_n2 : wr.cell? ⟨wz.heap.size + 1, 2, none⟩ = some (.int .u8 nt) := CB.cell hn' 2
                        go_wp2_with fail
                        refine (S1 _).mono ?_
                        rintro e w302 ⟨rfl, b302⟩
                        clear f301_n0 f301_n1 f301_n2
                        have r303_x := le_on hx' b302
                        have r303_n := le_on hn' b302
                        have l303 := le_tr hb' b302
                        clear hx' hn' hb'
                        clear b302
                        go_wp2_with fail
                        go_roundw
                        case rel => exact ⟨j + 1, by go_num, by omega, by omega, r303_n, r303_x, l303⟩
                        case measure => simp [intOf]; omega
                      ·
                        go_wp2_with fail
                        go_roundw
                        case rel => exact ⟨j + 1, by go_num, by omega, by omega, hn', hx', hb'⟩
                        case measure => simp [intOf]; omega
                    ·
                      have f301_n0 : wr.cell? ⟨wz.heap.size + 1, 0, none⟩ = some (.int .i64 ne) := CB.cell hn' 0
                      have f301_n1 : wr.cell? ⟨wz.heap.size + 1, 1, none⟩ = some (.int .i64 ns) := CB.cell hn' 1
                      have f301_n2 : wr.cell? ⟨wz.heap.size + 1, 2, none⟩ = some (.int .u8 nt) := CB.cell hn' 2
                      have f301_x0 : wr.cell? ⟨w4.heap.size, 0, none⟩ = some (.int .i64 xe) := CB.cell hx' 0
                      have z301_x0 : wr.frozen? ⟨w4.heap.size, 0, none⟩ = false := CB.frozen hx' 0
                      have f301_x1 : wr.cell? ⟨w4.heap.size, 1, none⟩ = some (.int .i64 xs) := CB.cell hx' 1
                      have z301_x1 : wr.frozen? ⟨w4.heap.size, 1, none⟩ = false := CB.frozen hx' 1
                      have f301_x2 : wr.cell? ⟨w4.heap.size, 2, none⟩ = some (.int .u8 xt) := CB.cell hx' 2
                      have z301_x2 : wr.frozen? ⟨w4.heap.size, 2, none⟩ = false := CB.frozen hx' 2
                      obtain ⟨V302, hV302, nV302, lV302, kV302⟩ := cb_end3 hx' (.int .i64 ne) (.int .i64 ns) (.int .u8 nt)
                      have HV302 := Lib.hid hV302
                      have mV302_n := kV302 _ _ _ (Ne.symm neW103_x) hn'
                      have oV302 := lV302 _ _ hb' (by omega)
                      clear hV302 lV302 kV302
                      clear hx' hn' hb'
                      go_wp2_with fail
                      rw [HV302.out]
                      go_roundw
                      case rel => exact ⟨k + 1, ne, ns, nt, ne, by omega, by go_num, rfl, nV302, HK.out, oV302⟩
                      case measure => simp [intOf]; omega
                ·
                  have f113_n0 : w110.cell? ⟨wz.heap.size + 1, 0, none⟩ = some (.int .i64 ne) := CB.cell r111_n 0
                  have f113_n1 : w110.cell? ⟨wz.heap.size + 1, 1, none⟩ = some (.int .i64 ns) := CB.cell r111_n 1
                  have f113_n2 : w110.cell? ⟨wz.heap.size + 1, 2, none⟩ = some (.int .u8 nt) := CB.cell r111_n 2
                  have f113_x0 : w110.cell? ⟨w4.heap.size, 0, none⟩ = some (.int .i64 xe) := CB.cell r111_x 0
                  have f113_x1 : w110.cell? ⟨w4.heap.size, 1, none⟩ = some (.int .i64 xs) := CB.cell r111_x 1
                  have f113_x2 : w110.cell? ⟨w4.heap.size, 2, none⟩ = some (.int .u8 xt) := CB.cell r111_x 2
                  go_wp2_with fail
                  clear f113_n0 f113_n1 f113_n2 f113_x0 f113_x1 f113_x2
                  go_loopw [11] (fun kv wr => ∃ j : Int, kv = .int .i64 j ∧ 0 ≤ j ∧ j ≤ ne + 1 ∧ CB wr (wz.heap.size + 1) 27 #[.int .i64 ne, .int .i64 ns, .int .u8 nt] ∧ CB wr (w4.heap.size) 27 #[.int .i64 xe, .int .i64 xs, .int .u8 xt] ∧ Below w.heap.size w wr) (fun kv _ => (ne + 1 - intOf kv).toNat)
                  case atStart => exact ⟨0, rfl, by omega, by omega, r111_n, r111_x, l111⟩
                  case round =>
                    obtain ⟨j, rfl, hj0, hj1, hn', hx', hb'⟩ := hrel
                    clear r111_n r111_x r111_a l111
                    by_cases hle : j ≤ ne
                    · have S1 := fun W => speaks_c ne ns nt j W
                      simp only [fw_mute HK.out j hle] at S1
                      by_cases hjp : 0 < j
                      ·
                        have f301_n0 : wr.cell? ⟨wz.heap.size + 1, 0, none⟩ = some (.int .i64 ne) := CB.cell hn' 0
                        have f301_n1 : wr.cell? ⟨wz.heap.size + 1, 1, none⟩ = some (.int .i64 ns) := CB.cell hn' 1
                        have f301_n2 : wr.cell? ⟨wz.heap.size + 1, 2, none⟩ = some (.int .u8 nt) := CB.cell hn' 2
                        go_wp2_with fail
                        refine (S1 _).mono ?_
                        rintro e w302 ⟨rfl, b302⟩
                        clear f301_n0 f301_n1 f301_n2
                        have r303_x := le_on hx' b302
                        have r303_n := le_on hn' b302
                        have l303 := le_tr hb' b302
                        clear hx' hn' hb'
                        clear b302
                        go_wp2_with fail
                        go_roundw
                        case rel => exact ⟨j + 1, by go_num, by omega, by omega, r303_n, r303_x, l303⟩
                        case measure => simp [intOf]; omega
                      ·
                        go_wp2_with fail
                        go_roundw
                        case rel => exact ⟨j + 1, by go_num, by omega, by omega, hn', hx', hb'⟩
                        case measure => simp [intOf]; omega
                    ·
                      have f301_n0 : wr.cell? ⟨wz.heap.size + 1, 0, none⟩ = some (.int .i64 ne) := CB.cell hn' 0
                      have f301_n1 : wr.cell? ⟨wz.heap.size + 1, 1, none⟩ = some (.int .i64 ns) := CB.cell hn' 1
                      have f301_n2 : wr.cell? ⟨wz.heap.size + 1, 2, none⟩ = some (.int .u8 nt) := CB.cell hn' 2
                      have f301_x0 : wr.cell? ⟨w4.heap.size, 0, none⟩ = some (.int .i64 xe) := CB.cell hx' 0
                      have z301_x0 : wr.frozen? ⟨w4.heap.size, 0, none⟩ = false := CB.frozen hx' 0
                      have f301_x1 : wr.cell? ⟨w4.heap.size, 1, none⟩ = some (.int .i64 xs) := CB.cell hx' 1
                      have z301_x1 : wr.frozen? ⟨w4.heap.size, 1, none⟩ = false := CB.frozen hx' 1
                      have f301_x2 : wr.cell? ⟨w4.heap.size, 2, none⟩ = some (.int .u8 xt) := CB.cell hx' 2
                      have z301_x2 : wr.frozen? ⟨w4.heap.size, 2, none⟩ = false := CB.frozen hx' 2
                      obtain ⟨V302, hV302, nV302, lV302, kV302⟩ := cb_end3 hx' (.int .i64 ne) (.int .i64 ns) (.int .u8 nt)
                      have HV302 := Lib.hid hV302
                      have mV302_n := kV302 _ _ _ (Ne.symm neW103_x) hn'
                      have oV302 := lV302 _ _ hb' (by omega)
                      clear hV302 lV302 kV302
                      clear hx' hn' hb'
                      go_wp2_with fail
                      rw [HV302.out]
                      go_roundw
                      case rel => exact ⟨k + 1, ne, ns, nt, ne, by omega, by go_num, rfl, nV302, HK.out, oV302⟩
                      case measure => simp [intOf]; omega
              · have s1 : (ns == 2) = false := by simp [h2]
                have HK := Lib.hid (show FwI ⟨ne, ns, nt⟩ g by have := HJ.out; rwa [if_neg h2] at this)
                clear h2 HJ
                have g1 : 0 ≤ g := HK.out.2.1
                have g2 : g ≤ 1048576 := HK.out.2.2.1
                by_cases h3 : (0 : Int) < g - 3
                ·
                  have f113_n0 : w110.cell? ⟨wz.heap.size + 1, 0, none⟩ = some (.int .i64 ne) := CB.cell r111_n 0
                  have f113_n1 : w110.cell? ⟨wz.heap.size + 1, 1, none⟩ = some (.int .i64 ns) := CB.cell r111_n 1
                  have f113_n2 : w110.cell? ⟨wz.heap.size + 1, 2, none⟩ = some (.int .u8 nt) := CB.cell r111_n 2
                  have f113_x0 : w110.cell? ⟨w4.heap.size, 0, none⟩ = some (.int .i64 xe) := CB.cell r111_x 0
                  have f113_x1 : w110.cell? ⟨w4.heap.size, 1, none⟩ = some (.int .i64 xs) := CB.cell r111_x 1
                  have f113_x2 : w110.cell? ⟨w4.heap.size, 2, none⟩ = some (.int .u8 xt) := CB.cell r111_x 2
                  go_wp2_with fail
                  clear f113_n0 f113_n1 f113_n2 f113_x0 f113_x1 f113_x2
                  go_loopw [11] (fun kv wr => ∃ j : Int, kv = .int .i64 j ∧ 0 ≤ j ∧ j ≤ g + 1 ∧ CB wr (wz.heap.size + 1) 27 #[.int .i64 ne, .int .i64 ns, .int .u8 nt] ∧ CB wr (w4.heap.size) 27 #[.int .i64 xe, .int .i64 xs, .int .u8 xt] ∧ Below w.heap.size w wr) (fun kv _ => (g + 1 - intOf kv).toNat)
                  case atStart => exact ⟨g - 3, rfl, by omega, by omega, r111_n, r111_x, l111⟩
                  case round =>
                    obtain ⟨j, rfl, hj0, hj1, hn', hx', hb'⟩ := hrel
                    clear r111_n r111_x r111_a l111
                    by_cases hle : j ≤ g
                    · have S1 := fun W => speaks_c ne ns nt j W
                      simp only [fw_mute HK.out j hle] at S1
                      by_cases hjp : 0 < j
                      ·
                        have f301_n0 : wr.cell? ⟨wz.heap.size + 1, 0, none⟩ = some (.int .i64 ne) := CB.cell hn' 0
                        have f301_n1 : wr.cell? ⟨wz.heap.size + 1, 1, none⟩ = some (.int .i64 ns) := CB.cell hn' 1
                        have f301_n2 : wr.cell? ⟨wz.heap.size + 1, 2, none⟩ = some (.int .u8 nt) := CB.cell hn' 2
                        go_wp2_with fail
                        refine (S1 _).mono ?_
                        rintro e w302 ⟨rfl, b302⟩
                        clear f301_n0 f301_n1 f301_n2
                        have r303_x := le_on hx' b302
                        have r303_n := le_on hn' b302
                        have l303 := le_tr hb' b302
                        clear hx' hn' hb'
                        clear b302
                        go_wp2_with fail
                        go_roundw
                        case rel => exact ⟨j + 1, by go_num, by omega, by omega, r303_n, r303_x, l303⟩
                        case measure => simp [intOf]; omega
                      ·
                        go_wp2_with fail
                        go_roundw
                        case rel => exact ⟨j + 1, by go_num, by omega, by omega, hn', hx', hb'⟩
                        case measure => simp [intOf]; omega
                    ·
                      have f301_n0 : wr.cell? ⟨wz.heap.size + 1, 0, none⟩ = some (.int .i64 ne) := CB.cell hn' 0
                      have f301_n1 : wr.cell? ⟨wz.heap.size + 1, 1, none⟩ = some (.int .i64 ns) := CB.cell hn' 1
                      have f301_n2 : wr.cell? ⟨wz.heap.size + 1, 2, none⟩ = some (.int .u8 nt) := CB.cell hn' 2
                      have f301_x0 : wr.cell? ⟨w4.heap.size, 0, none⟩ = some (.int .i64 xe) := CB.cell hx' 0
                      have z301_x0 : wr.frozen? ⟨w4.heap.size, 0, none⟩ = false := CB.frozen hx' 0
                      have f301_x1 : wr.cell? ⟨w4.heap.size, 1, none⟩ = some (.int .i64 xs) := CB.cell hx' 1
                      have z301_x1 : wr.frozen? ⟨w4.heap.size, 1, none⟩ = false := CB.frozen hx' 1
                      have f301_x2 : wr.cell? ⟨w4.heap.size, 2, none⟩ = some (.int .u8 xt) := CB.cell hx' 2
                      have z301_x2 : wr.frozen? ⟨w4.heap.size, 2, none⟩ = false := CB.frozen hx' 2
                      obtain ⟨V302, hV302, nV302, lV302, kV302⟩ := cb_end3 hx' (.int .i64 ne) (.int .i64 ns) (.int .u8 nt)
                      have HV302 := Lib.hid hV302
                      have mV302_n := kV302 _ _ _ (Ne.symm neW103_x) hn'
                      have oV302 := lV302 _ _ hb' (by omega)
                      clear hV302 lV302 kV302
                      clear hx' hn' hb'
                      go_wp2_with fail
                      rw [HV302.out]
                      go_roundw
                      case rel => exact ⟨k + 1, ne, ns, nt, g, by omega, by go_num, rfl, nV302, HK.out, oV302⟩
                      case measure => simp [intOf]; omega
                ·
                  have f113_n0 : w110.cell? ⟨wz.heap.size + 1, 0, none⟩ = some (.int .i64 ne) := CB.cell r111_n 0
                  have f113_n1 : w110.cell? ⟨wz.heap.size + 1, 1, none⟩ = some (.int .i64 ns) := CB.cell r111_n 1
                  have f113_n2 : w110.cell? ⟨wz.heap.size + 1, 2, none⟩ = some (.int .u8 nt) := CB.cell r111_n 2
                  have f113_x0 : w110.cell? ⟨w4.heap.size, 0, none⟩ = some (.int .i64 xe) := CB.cell r111_x 0
                  have f113_x1 : w110.cell? ⟨w4.heap.size, 1, none⟩ = some (.int .i64 xs) := CB.cell r111_x 1
                  have f113_x2 : w110.cell? ⟨w4.heap.size, 2, none⟩ = some (.int .u8 xt) := CB.cell r111_x 2
                  go_wp2_with fail
                  clear f113_n0 f113_n1 f113_n2 f113_x0 f113_x1 f113_x2
                  go_loopw [11] (fun kv wr => ∃ j : Int, kv = .int .i64 j ∧ 0 ≤ j ∧ j ≤ g + 1 ∧ CB wr (wz.heap.size + 1) 27 #[.int .i64 ne, .int .i64 ns, .int .u8 nt] ∧ CB wr (w4.heap.size) 27 #[.int .i64 xe, .int .i64 xs, .int .u8 xt] ∧ Below w.heap.size w wr) (fun kv _ => (g + 1 - intOf kv).toNat)
                  case atStart => exact ⟨0, rfl, by omega, by omega, r111_n, r111_x, l111⟩
                  case round =>
                    obtain ⟨j, rfl, hj0, hj1, hn', hx', hb'⟩ := hrel
                    clear r111_n r111_x r111_a l111
                    by_cases hle : j ≤ g
                    · have S1 := fun W => speaks_c ne ns nt j W
                      simp only [fw_mute HK.out j hle] at S1
                      by_cases hjp : 0 < j
                      ·
                        have f301_n0 : wr.cell? ⟨wz.heap.size + 1, 0, none⟩ = some (.int .i64 ne) := CB.cell hn' 0
                        have f301_n1 : wr.cell? ⟨wz.heap.size + 1, 1, none⟩ = some (.int .i64 ns) := CB.cell hn' 1
                        have f301_n2 : wr.cell? ⟨wz.heap.size + 1, 2, none⟩ = some (.int .u8 nt) := CB.cell hn' 2
                        go_wp2_with fail
                        refine (S1 _).mono ?_
                        rintro e w302 ⟨rfl, b302⟩
                        clear f301_n0 f301_n1 f301_n2
                        have r303_x := le_on hx' b302
                        have r303_n := le_on hn' b302
                        have l303 := le_tr hb' b302
                        clear hx' hn' hb'
                        clear b302
                        go_wp2_with fail
                        go_roundw
                        case rel => exact ⟨j + 1, by go_num, by omega, by omega, r303_n, r303_x, l303⟩
                        case measure => simp [intOf]; omega
                      ·
                        go_wp2_with fail
                        go_roundw
                        case rel => exact ⟨j + 1, by go_num, by omega, by omega, hn', hx', hb'⟩
                        case measure => simp [intOf]; omega
                    ·
                      have f301_n0 : wr.cell? ⟨wz.heap.size + 1, 0, none⟩ = some (.int .i64 ne) := CB.cell hn' 0
                      have f301_n1 : wr.cell? ⟨wz.heap.size + 1, 1, none⟩ = some (.int .i64 ns) := CB.cell hn' 1
                      have f301_n2 : wr.cell? ⟨wz.heap.size + 1, 2, none⟩ = some (.int .u8 nt) := CB.cell hn' 2
                      have f301_x0 : wr.cell? ⟨w4.heap.size, 0, none⟩ = some (.int .i64 xe) := CB.cell hx' 0
                      have z301_x0 : wr.frozen? ⟨w4.heap.size, 0, none⟩ = false := CB.frozen hx' 0
                      have f301_x1 : wr.cell? ⟨w4.heap.size, 1, none⟩ = some (.int .i64 xs) := CB.cell hx' 1
                      have z301_x1 : wr.frozen? ⟨w4.heap.size, 1, none⟩ = false := CB.frozen hx' 1
                      have f301_x2 : wr.cell? ⟨w4.heap.size, 2, none⟩ = some (.int .u8 xt) := CB.cell hx' 2
                      have z301_x2 : wr.frozen? ⟨w4.heap.size, 2, none⟩ = false := CB.frozen hx' 2
                      obtain ⟨V302, hV302, nV302, lV302, kV302⟩ := cb_end3 hx' (.int .i64 ne) (.int .i64 ns) (.int .u8 nt)
                      have HV302 := Lib.hid hV302
                      have mV302_n := kV302 _ _ _ (Ne.symm neW103_x) hn'
                      have oV302 := lV302 _ _ hb' (by omega)
                      clear hV302 lV302 kV302
                      clear hx' hn' hb'
                      go_wp2_with fail
                      rw [HV302.out]
                      go_roundw
                      case rel => exact ⟨k + 1, ne, ns, nt, g, by omega, by go_num, rfl, nV302, HK.out, oV302⟩
                      case measure => simp [intOf]; omega
            · have z1 : ((kx : Int) != 0) = true := by simp [hkz]
              have hsame := HS.out.same hkz
              simp only [Ls.mk.injEq] at hsame
              obtain ⟨y1, y2, y3⟩ := hsame
              have z2 : (ne != xe) = false := by simp [y1]
              have z3 : (ns != xs) = false := by simp [y2]
              have z4 : (nt != xt) = false := by simp [y3]
              have z5 : (ne == xe) = true := by simp [y1]
              have z6 : (ns == xs) = true := by simp [y2]
              have z7 : (nt == xt) = true := by simp [y3]
              clear y1 y2 y3 hkz
              have f109_n0 : ((((w106).setCell ⟨wz.heap.size + 1, 0, none⟩ (.int .i64 ne)).setCell ⟨wz.heap.size + 1, 1, none⟩ (.int .i64 ns)).setCell ⟨wz.heap.size + 1, 2, none⟩ (.int .u8 nt)).cell? ⟨wz.heap.size + 1, 0, none⟩ = some (.int .i64 ne) := by rw [HV108.out]; exact CB.cell nV108 0
              have f109_n1 : ((((w106).setCell ⟨wz.heap.size + 1, 0, none⟩ (.int .i64 ne)).setCell ⟨wz.heap.size + 1, 1, none⟩ (.int .i64 ns)).setCell ⟨wz.heap.size + 1, 2, none⟩ (.int .u8 nt)).cell? ⟨wz.heap.size + 1, 1, none⟩ = some (.int .i64 ns) := by rw [HV108.out]; exact CB.cell nV108 1
              have f109_n2 : ((((w106).setCell ⟨wz.heap.size + 1, 0, none⟩ (.int .i64 ne)).setCell ⟨wz.heap.size + 1, 1, none⟩ (.int .i64 ns)).setCell ⟨wz.heap.size + 1, 2, none⟩ (.int .u8 nt)).cell? ⟨wz.heap.size + 1, 2, none⟩ = some (.int .u8 nt) := by rw [HV108.out]; exact CB.cell nV108 2
              have f109_x0 : ((((w106).setCell ⟨wz.heap.size + 1, 0, none⟩ (.int .i64 ne)).setCell ⟨wz.heap.size + 1, 1, none⟩ (.int .i64 ns)).setCell ⟨wz.heap.size + 1, 2, none⟩ (.int .u8 nt)).cell? ⟨w4.heap.size, 0, none⟩ = some (.int .i64 xe) := by rw [HV108.out]; exact CB.cell mV108_x 0
              have f109_x1 : ((((w106).setCell ⟨wz.heap.size + 1, 0, none⟩ (.int .i64 ne)).setCell ⟨wz.heap.size + 1, 1, none⟩ (.int .i64 ns)).setCell ⟨wz.heap.size + 1, 2, none⟩ (.int .u8 nt)).cell? ⟨w4.heap.size, 1, none⟩ = some (.int .i64 xs) := by rw [HV108.out]; exact CB.cell mV108_x 1
              have f109_x2 : ((((w106).setCell ⟨wz.heap.size + 1, 0, none⟩ (.int .i64 ne)).setCell ⟨wz.heap.size + 1, 1, none⟩ (.int .i64 ns)).setCell ⟨wz.heap.size + 1, 2, none⟩ (.int .u8 nt)).cell? ⟨w4.heap.size, 2, none⟩ = some (.int .u8 xt) := by rw [HV108.out]; exact CB.cell mV108_x 2
              go_wp2_with fail
              rw [HV108.out]
              refine (R1 _).mono ?_
              rintro e w110 ⟨rfl, b110⟩
              clear f107_n0 z107_n0 f107_n1 z107_n1 f107_n2 z107_n2 f109_n0 f109_n1 f109_n2 f109_x0 f109_x1 f109_x2
              have r111_x := le_on mV108_x b110
              have r111_a := le_on mV108_a b110
              have r111_n := le_on nV108 b110
              have l111 := le_tr oV108 b110
              clear mV108_x mV108_a nV108 oV108
              clear b110
              by_cases h2 : ns = 2
              · have s1 : (ns == 2) = true := by simp [h2]
                have HK := Lib.hid (show FwI ⟨ne, ns, nt⟩ ne by have := HJ.out; rwa [if_pos h2] at this)
                clear h2 HJ
                have g1 : 0 ≤ ne := HK.out.2.1
                have g2 : ne ≤ 1048576 := HK.out.2.2.1
                by_cases h3 : (0 : Int) < ne - 3
                ·
                  have f113_n0 : w110.cell? ⟨wz.heap.size + 1, 0, none⟩ = some (.int .i64 ne) := CB.cell r111_n 0
                  have f113_n1 : w110.cell? ⟨wz.heap.size + 1, 1, none⟩ = some (.int .i64 ns) := CB.cell r111_n 1
                  have f113_n2 : w110.cell? ⟨wz.heap.size + 1, 2, none⟩ = some (.int .u8 nt) := CB.cell r111_n 2
                  have f113_x0 : w110.cell? ⟨w4.heap.size, 0, none⟩ = some (.int .i64 xe) := CB.cell r111_x 0
                  have f113_x1 : w110.cell? ⟨w4.heap.size, 1, none⟩ = some (.int .i64 xs) := CB.cell r111_x 1
                  have f113_x2 : w110.cell? ⟨w4.heap.size, 2, none⟩ = some (.int .u8 xt) := CB.cell r111_x 2
                  go_wp2_with fail
                  clear f113_n0 f113_n1 f113_n2 f113_x0 f113_x1 f113_x2
                  go_loopw [11] (fun kv wr => ∃ j : Int, kv = .int .i64 j ∧ 0 ≤ j ∧ j ≤ ne + 1 ∧ CB wr (wz.heap.size + 1) 27 #[.int .i64 ne, .int .i64 ns, .int .u8 nt] ∧ CB wr (w4.heap.size) 27 #[.int .i64 xe, .int .i64 xs, .int .u8 xt] ∧ Below w.heap.size w wr) (fun kv _ => (ne + 1 - intOf kv).toNat)
                  case atStart => exact ⟨ne - 3, rfl, by omega, by omega, r111_n, r111_x, l111⟩
                  case round =>
                    obtain ⟨j, rfl, hj0, hj1, hn', hx', hb'⟩ := hrel
                    clear r111_n r111_x r111_a l111
                    by_cases hle : j ≤ ne
                    · have S1 := fun W => speaks_c ne ns nt j W
                      simp only [fw_mute HK.out j hle] at S1
                      by_cases hjp : 0 < j
                      ·
                        have f301_n0 : wr.cell? ⟨wz.heap.size + 1, 0, none⟩ = some (.int .i64 ne) := CB.cell hn' 0
                        have f301_n1 : wr.cell? ⟨wz.heap.size + 1, 1, none⟩ = some (.int .i64 ns) := CB.cell hn' 1
                        have f301_n2 : wr.cell? ⟨wz.heap.size + 1, 2, none⟩ = some (.int .u8 nt) := CB.cell hn' 2
                        go_wp2_with fail
                        refine (S1 _).mono ?_
                        rintro e w302 ⟨rfl, b302⟩
                        clear f301_n0 f301_n1 f301_n2
                        have r303_x := le_on hx' b302
                        have r303_n := le_on hn' b302
                        have l303 := le_tr hb' b302
                        clear hx' hn' hb'
                        clear b302
                        go_wp2_with fail
                        go_roundw
                        case rel => exact ⟨j + 1, by go_num, by omega, by omega, r303_n, r303_x, l303⟩
                        case measure => simp [intOf]; omega
                      ·
                        go_wp2_with fail
                        go_roundw
                        case rel => exact ⟨j + 1, by go_num, by omega, by omega, hn', hx', hb'⟩
                        case measure => simp [intOf]; omega
                    ·
                      have f301_n0 : wr.cell? ⟨wz.heap.size + 1, 0, none⟩ = some (.int .i64 ne) := CB.cell hn' 0
                      have f301_n1 : wr.cell? ⟨wz.heap.size + 1, 1, none⟩ = some (.int .i64 ns) := CB.cell hn' 1
                      have f301_n2 : wr.cell? ⟨wz.heap.size + 1, 2, none⟩ = some (.int .u8 nt) := CB.cell hn' 2
                      have f301_x0 : wr.cell? ⟨w4.heap.size, 0, none⟩ = some (.int .i64 xe) := CB.cell hx' 0
                      have z301_x0 : wr.frozen? ⟨w4.heap.size, 0, none⟩ = false := CB.frozen hx' 0
                      have f301_x1 : wr.cell? ⟨w4.heap.size, 1, none⟩ = some (.int .i64 xs) := CB.cell hx' 1
                      have z301_x1 : wr.frozen? ⟨w4.heap.size, 1, none⟩ = false := CB.frozen hx' 1
                      have f301_x2 : wr.cell? ⟨w4.heap.size, 2, none⟩ = some (.int .u8 xt) := CB.cell hx' 2
                      have z301_x2 : wr.frozen? ⟨w4.heap.size, 2, none⟩ = false := CB.frozen hx' 2
                      obtain ⟨V302, hV302, nV302, lV302, kV302⟩ := cb_end3 hx' (.int .i64 ne) (.int .i64 ns) (.int .u8 nt)
                      have HV302 := Lib.hid hV302
                      have mV302_n := kV302 _ _ _ (Ne.symm neW103_x) hn'
                      have oV302 := lV302 _ _ hb' (by omega)
                      clear hV302 lV302 kV302
                      clear hx' hn' hb'
                      go_wp2_with fail
                      rw [HV302.out]
                      go_roundw
                      case rel => exact ⟨k + 1, ne, ns, nt, ne, by omega, by go_num, rfl, nV302, HK.out, oV302⟩
                      case measure => simp [intOf]; omega
                ·
                  have f113_n0 : w110.cell? ⟨wz.heap.size + 1, 0, none⟩ = some (.int .i64 ne) := CB.cell r111_n 0
                  have f113_n1 : w110.cell? ⟨wz.heap.size + 1, 1, none⟩ = some (.int .i64 ns) := CB.cell r111_n 1
                  have f113_n2 : w110.cell? ⟨wz.heap.size + 1, 2, none⟩ = some (.int .u8 nt) := CB.cell r111_n 2
                  have f113_x0 : w110.cell? ⟨w4.heap.size, 0, none⟩ = some (.int .i64 xe) := CB.cell r111_x 0
                  have f113_x1 : w110.cell? ⟨w4.heap.size, 1, none⟩ = some (.int .i64 xs) := CB.cell r111_x 1
                  have f113_x2 : w110.cell? ⟨w4.heap.size, 2, none⟩ = some (.int .u8 xt) := CB.cell r111_x 2
                  go_wp2_with fail
                  clear f113_n0 f113_n1 f113_n2 f113_x0 f113_x1 f113_x2
                  go_loopw [11] (fun kv wr => ∃ j : Int, kv = .int .i64 j ∧ 0 ≤ j ∧ j ≤ ne + 1 ∧ CB wr (wz.heap.size + 1) 27 #[.int .i64 ne, .int .i64 ns, .int .u8 nt] ∧ CB wr (w4.heap.size) 27 #[.int .i64 xe, .int .i64 xs, .int .u8 xt] ∧ Below w.heap.size w wr) (fun kv _ => (ne + 1 - intOf kv).toNat)
                  case atStart => exact ⟨0, rfl, by omega, by omega, r111_n, r111_x, l111⟩
                  case round =>
                    obtain ⟨j, rfl, hj0, hj1, hn', hx', hb'⟩ := hrel
                    clear r111_n r111_x r111_a l111
                    by_cases hle : j ≤ ne
                    · have S1 := fun W => speaks_c ne ns nt j W
                      simp only [fw_mute HK.out j hle] at S1
                      by_cases hjp : 0 < j
                      ·
                        have f301_n0 : wr.cell? ⟨wz.heap.size + 1, 0, none⟩ = some (.int .i64 ne) := CB.cell hn' 0
                        have f301_n1 : wr.cell? ⟨wz.heap.size + 1, 1, none⟩ = some (.int .i64 ns) := CB.cell hn' 1
                        have f301_n2 : wr.cell? ⟨wz.heap.size + 1, 2, none⟩ = some (.int .u8 nt) := CB.cell hn' 2
                        go_wp2_with fail
                        refine (S1 _).mono ?_
                        rintro e w302 ⟨rfl, b302⟩
                        clear f301_n0 f301_n1 f301_n2
                        have r303_x := le_on hx' b302
                        have r303_n := le_on hn' b302
                        have l303 := le_tr hb' b302
                        clear hx' hn' hb'
                        clear b302
                        go_wp2_with fail
                        go_roundw
                        case rel => exact ⟨j + 1, by go_num, by omega, by omega, r303_n, r303_x, l303⟩
                        case measure => simp [intOf]; omega
                      ·
                        go_wp2_with fail
                        go_roundw
                        case rel => exact ⟨j + 1, by go_num, by omega, by omega, hn', hx', hb'⟩
                        case measure => simp [intOf]; omega
                    ·
                      have f301_n0 : wr.cell? ⟨wz.heap.size + 1, 0, none⟩ = some (.int .i64 ne) := CB.cell hn' 0
                      have f301_n1 : wr.cell? ⟨wz.heap.size + 1, 1, none⟩ = some (.int .i64 ns) := CB.cell hn' 1
                      have f301_n2 : wr.cell? ⟨wz.heap.size + 1, 2, none⟩ = some (.int .u8 nt) := CB.cell hn' 2
                      have f301_x0 : wr.cell? ⟨w4.heap.size, 0, none⟩ = some (.int .i64 xe) := CB.cell hx' 0
                      have z301_x0 : wr.frozen? ⟨w4.heap.size, 0, none⟩ = false := CB.frozen hx' 0
                      have f301_x1 : wr.cell? ⟨w4.heap.size, 1, none⟩ = some (.int .i64 xs) := CB.cell hx' 1
                      have z301_x1 : wr.frozen? ⟨w4.heap.size, 1, none⟩ = false := CB.frozen hx' 1
                      have f301_x2 : wr.cell? ⟨w4.heap.size, 2, none⟩ = some (.int .u8 xt) := CB.cell hx' 2
                      have z301_x2 : wr.frozen? ⟨w4.heap.size, 2, none⟩ = false := CB.frozen hx' 2
                      obtain ⟨V302, hV302, nV302, lV302, kV302⟩ := cb_end3 hx' (.int .i64 ne) (.int .i64 ns) (.int .u8 nt)
                      have HV302 := Lib.hid hV302
                      have mV302_n := kV302 _ _ _ (Ne.symm neW103_x) hn'
                      have oV302 := lV302 _ _ hb' (by omega)
                      clear hV302 lV302 kV302
                      clear hx' hn' hb'
                      go_wp2_with fail
                      rw [HV302.out]
                      go_roundw
                      case rel => exact ⟨k + 1, ne, ns, nt, ne, by omega, by go_num, rfl, nV302, HK.out, oV302⟩
                      case measure => simp [intOf]; omega
              · have s1 : (ns == 2) = false := by simp [h2]
                have HK := Lib.hid (show FwI ⟨ne, ns, nt⟩ g by have := HJ.out; rwa [if_neg h2] at this)
                clear h2 HJ
                have g1 : 0 ≤ g := HK.out.2.1
                have g2 : g ≤ 1048576 := HK.out.2.2.1
                by_cases h3 : (0 : Int) < g - 3
                ·
                  have f113_n0 : w110.cell? ⟨wz.heap.size + 1, 0, none⟩ = some (.int .i64 ne) := CB.cell r111_n 0
                  have f113_n1 : w110.cell? ⟨wz.heap.size + 1, 1, none⟩ = some (.int .i64 ns) := CB.cell r111_n 1
                  have f113_n2 : w110.cell? ⟨wz.heap.size + 1, 2, none⟩ = some (.int .u8 nt) := CB.cell r111_n 2
                  have f113_x0 : w110.cell? ⟨w4.heap.size, 0, none⟩ = some (.int .i64 xe) := CB.cell r111_x 0
                  have f113_x1 : w110.cell? ⟨w4.heap.size, 1, none⟩ = some (.int .i64 xs) := CB.cell r111_x 1
                  have f113_x2 : w110.cell? ⟨w4.heap.size, 2, none⟩ = some (.int .u8 xt) := CB.cell r111_x 2
                  go_wp2_with fail
                  clear f113_n0 f113_n1 f113_n2 f113_x0 f113_x1 f113_x2
                  go_loopw [11] (fun kv wr => ∃ j : Int, kv = .int .i64 j ∧ 0 ≤ j ∧ j ≤ g + 1 ∧ CB wr (wz.heap.size + 1) 27 #[.int .i64 ne, .int .i64 ns, .int .u8 nt] ∧ CB wr (w4.heap.size) 27 #[.int .i64 xe, .int .i64 xs, .int .u8 xt] ∧ Below w.heap.size w wr) (fun kv _ => (g + 1 - intOf kv).toNat)
                  case atStart => exact ⟨g - 3, rfl, by omega, by omega, r111_n, r111_x, l111⟩
                  case round =>
                    obtain ⟨j, rfl, hj0, hj1, hn', hx', hb'⟩ := hrel
                    clear r111_n r111_x r111_a l111
                    by_cases hle : j ≤ g
                    · have S1 := fun W => speaks_c ne ns nt j W
                      simp only [fw_mute HK.out j hle] at S1
                      by_cases hjp : 0 < j
                      ·
                        have f301_n0 : wr.cell? ⟨wz.heap.size + 1, 0, none⟩ = some (.int .i64 ne) := CB.cell hn' 0
                        have f301_n1 : wr.cell? ⟨wz.heap.size + 1, 1, none⟩ = some (.int .i64 ns) := CB.cell hn' 1
                        have f301_n2 : wr.cell? ⟨wz.heap.size + 1, 2, none⟩ = some (.int .u8 nt) := CB.cell hn' 2
                        go_wp2_with fail
                        refine (S1 _).mono ?_
                        rintro e w302 ⟨rfl, b302⟩
                        clear f301_n0 f301_n1 f301_n2
                        have r303_x := le_on hx' b302
                        have r303_n := le_on hn' b302
                        have l303 := le_tr hb' b302
                        clear hx' hn' hb'
                        clear b302
                        go_wp2_with fail
                        go_roundw
                        case rel => exact ⟨j + 1, by go_num, by omega, by omega, r303_n, r303_x, l303⟩
                        case measure => simp [intOf]; omega
                      ·
                        go_wp2_with fail
                        go_roundw
                        case rel => exact ⟨j + 1, by go_num, by omega, by omega, hn', hx', hb'⟩
                        case measure => simp [intOf]; omega
                    ·
                      have f301_n0 : wr.cell? ⟨wz.heap.size + 1, 0, none⟩ = some (.int .i64 ne) := CB.cell hn' 0
                      have f301_n1 : wr.cell? ⟨wz.heap.size + 1, 1, none⟩ = some (.int .i64 ns) := CB.cell hn' 1
                      have f301_n2 : wr.cell? ⟨wz.heap.size + 1, 2, none⟩ = some (.int .u8 nt) := CB.cell hn' 2
                      have f301_x0 : wr.cell? ⟨w4.heap.size, 0, none⟩ = some (.int .i64 xe) := CB.cell hx' 0
                      have z301_x0 : wr.frozen? ⟨w4.heap.size, 0, none⟩ = false := CB.frozen hx' 0
                      have f301_x1 : wr.cell? ⟨w4.heap.size, 1, none⟩ = some (.int .i64 xs) := CB.cell hx' 1
                      have z301_x1 : wr.frozen? ⟨w4.heap.size, 1, none⟩ = false := CB.frozen hx' 1
                      have f301_x2 : wr.cell? ⟨w4.heap.size, 2, none⟩ = some (.int .u8 xt) := CB.cell hx' 2
                      have z301_x2 : wr.frozen? ⟨w4.heap.size, 2, none⟩ = false := CB.frozen hx' 2
                      obtain ⟨V302, hV302, nV302, lV302, kV302⟩ := cb_end3 hx' (.int .i64 ne) (.int .i64 ns) (.int .u8 nt)
                      have HV302 := Lib.hid hV302
                      have mV302_n := kV302 _ _ _ (Ne.symm neW103_x) hn'
                      have oV302 := lV302 _ _ hb' (by omega)
                      clear hV302 lV302 kV302
                      clear hx' hn' hb'
                      go_wp2_with fail
                      rw [HV302.out]
                      go_roundw
                      case rel => exact ⟨k + 1, ne, ns, nt, g, by omega, by go_num, rfl, nV302, HK.out, oV302⟩
                      case measure => simp [intOf]; omega
                ·
                  have f113_n0 : w110.cell? ⟨wz.heap.size + 1, 0, none⟩ = some (.int .i64 ne) := CB.cell r111_n 0
                  have f113_n1 : w110.cell? ⟨wz.heap.size + 1, 1, none⟩ = some (.int .i64 ns) := CB.cell r111_n 1
                  have f113_n2 : w110.cell? ⟨wz.heap.size + 1, 2, none⟩ = some (.int .u8 nt) := CB.cell r111_n 2
                  have f113_x0 : w110.cell? ⟨w4.heap.size, 0, none⟩ = some (.int .i64 xe) := CB.cell r111_x 0
                  have f113_x1 : w110.cell? ⟨w4.heap.size, 1, none⟩ = some (.int .i64 xs) := CB.cell r111_x 1
                  have f113_x2 : w110.cell? ⟨w4.heap.size, 2, none⟩ = some (.int .u8 xt) := CB.cell r111_x 2
                  go_wp2_with fail
                  clear f113_n0 f113_n1 f113_n2 f113_x0 f113_x1 f113_x2
                  go_loopw [11] (fun kv wr => ∃ j : Int, kv = .int .i64 j ∧ 0 ≤ j ∧ j ≤ g + 1 ∧ CB wr (wz.heap.size + 1) 27 #[.int .i64 ne, .int .i64 ns, .int .u8 nt] ∧ CB wr (w4.heap.size) 27 #[.int .i64 xe, .int .i64 xs, .int .u8 xt] ∧ Below w.heap.size w wr) (fun kv _ => (g + 1 - intOf kv).toNat)
                  case atStart => exact ⟨0, rfl, by omega, by omega, r111_n, r111_x, l111⟩
                  case round =>
                    obtain ⟨j, rfl, hj0, hj1, hn', hx', hb'⟩ := hrel
                    clear r111_n r111_x r111_a l111
                    by_cases hle : j ≤ g
                    · have S1 := fun W => speaks_c ne ns nt j W
                      simp only [fw_mute HK.out j hle] at S1
                      by_cases hjp : 0 < j
                      ·
                        have f301_n0 : wr.cell? ⟨wz.heap.size + 1, 0, none⟩ = some (.int .i64 ne) := CB.cell hn' 0
                        have f301_n1 : wr.cell? ⟨wz.heap.size + 1, 1, none⟩ = some (.int .i64 ns) := CB.cell hn' 1
                        have f301_n2 : wr.cell? ⟨wz.heap.size + 1, 2, none⟩ = some (.int .u8 nt) := CB.cell hn' 2
                        go_wp2_with fail
                        refine (S1 _).mono ?_
                        rintro e w302 ⟨rfl, b302⟩
                        clear f301_n0 f301_n1 f301_n2
                        have r303_x := le_on hx' b302
                        have r303_n := le_on hn' b302
                        have l303 := le_tr hb' b302
                        clear hx' hn' hb'
                        clear b302
                        go_wp2_with fail
                        go_roundw
                        case rel => exact ⟨j + 1, by go_num, by omega, by omega, r303_n, r303_x, l303⟩
                        case measure => simp [intOf]; omega
                      ·
                        go_wp2_with fail
                        go_roundw
                        case rel => exact ⟨j + 1, by go_num, by omega, by omega, hn', hx', hb'⟩
                        case measure => simp [intOf]; omega
                    ·
                      have f301_n0 : wr.cell? ⟨wz.heap.size + 1, 0, none⟩ = some (.int .i64 ne) := CB.cell hn' 0
                      have f301_n1 : wr.cell? ⟨wz.heap.size + 1, 1, none⟩ = some (.int .i64 ns) := CB.cell hn' 1
                      have f301_n2 : wr.cell? ⟨wz.heap.size + 1, 2, none⟩ = some (.int .u8 nt) := CB.cell hn' 2
                      have f301_x0 : wr.cell? ⟨w4.heap.size, 0, none⟩ = some (.int .i64 xe) := CB.cell hx' 0
                      have z301_x0 : wr.frozen? ⟨w4.heap.size, 0, none⟩ = false := CB.frozen hx' 0
                      have f301_x1 : wr.cell? ⟨w4.heap.size, 1, none⟩ = some (.int .i64 xs) := CB.cell hx' 1
                      have z301_x1 : wr.frozen? ⟨w4.heap.size, 1, none⟩ = false := CB.frozen hx' 1
                      have f301_x2 : wr.cell? ⟨w4.heap.size, 2, none⟩ = some (.int .u8 xt) := CB.cell hx' 2
                      have z301_x2 : wr.frozen? ⟨w4.heap.size, 2, none⟩ = false := CB.frozen hx' 2
                      obtain ⟨V302, hV302, nV302, lV302, kV302⟩ := cb_end3 hx' (.int .i64 ne) (.int .i64 ns) (.int .u8 nt)
                      have HV302 := Lib.hid hV302
                      have mV302_n := kV302 _ _ _ (Ne.symm neW103_x) hn'
                      have oV302 := lV302 _ _ hb' (by omega)
                      clear hV302 lV302 kV302
                      clear hx' hn' hb'
                      go_wp2_with fail
                      rw [HV302.out]
                      go_roundw
                      case rel => exact ⟨k + 1, ne, ns, nt, g, by omega, by go_num, rfl, nV302, HK.out, oV302⟩
                      case measure => simp [intOf]; omega
        · obtain rfl : k = n := by omega
          go_wp2_with fail
          go_ret
          exact ⟨rfl, hbw⟩
    · have s2 : (st == 2) = false := by simp [hst2]
      have HI0 := Lib.hid (show FwI ⟨ep, st, to⟩ 0 by have := Hi.out; rwa [if_neg hst2] at this)
      clear hst2 Hi
      have f8_x0 : (w4.alloc (.cells #[.int .i64 ep, .int .i64 st, .int .u8 to] 27)).cell? ⟨w4.heap.size, 0, none⟩ = some (.int .i64 ep) := by rw [HW6.out]; exact CB.cell nW6 0
      have f8_x1 : (w4.alloc (.cells #[.int .i64 ep, .int .i64 st, .int .u8 to] 27)).cell? ⟨w4.heap.size, 1, none⟩ = some (.int .i64 st) := by rw [HW6.out]; exact CB.cell nW6 1
      have f8_x2 : (w4.alloc (.cells #[.int .i64 ep, .int .i64 st, .int .u8 to] 27)).cell? ⟨w4.heap.size, 2, none⟩ = some (.int .u8 to) := by rw [HW6.out]; exact CB.cell nW6 2
      go_wp2_with fail
      rw [HW6.out]
      clear f5_l0 f5_l1 f5_l2 f8_x0 f8_x1 f8_x2
      go_loopw [6, 30] (fun gv iv wr => ∃ (k : Nat) (xe xs xt g : Int), k ≤ n ∧ iv = .int .i64 k ∧ gv = .int .i64 g ∧ CB wr (w4.heap.size) 27 #[.int .i64 xe, .int .i64 xs, .int .u8 xt] ∧ Hid (FwI ⟨xe, xs, xt⟩ g) ∧ Below w.heap.size w wr) (fun _ iv _ => n - (intOf iv).toNat)
      case atStart => exact ⟨0, ep, st, to, 0, Nat.zero_le _, rfl, rfl, nW6, HI0.out, l7⟩
      case round =>
        obtain ⟨k, xe, xs, xt, g, hk, rfl, rfl, hx, HI, hbw⟩ := hrel
        obtain ⟨wz, hwz⟩ : ∃ z, z = wr := ⟨_, rfl⟩
        subst hwz
        have hws := hbw.size
        by_cases hlt : k < n
        · have q1 : (k : Int) < (n : Int) := by omega
          have hg1 : 0 ≤ g := HI.out.2.1
          have hg2 : g ≤ 1048576 := HI.out.2.2.1
          obtain ⟨ga, oa, ag, ax, at', rfl, a0, a1, a2⟩ := lact_at (hm.on hbw) hlt
          obtain ⟨W101, hW101⟩ : ∃ V, wz.alloc (.cells #[.bool ag, .int .i64 ax, .int .u8 at'] 25) = V := ⟨_, rfl⟩
          have zW101 : wz.heap.size = wz.heap.size := by rfl
          have nW101 : CB W101 (wz.heap.size) 25 #[.bool ag, .int .i64 ax, .int .u8 at'] := by rw [← zW101, ← hW101]; exact CB.new _ _ _
          have bW101 : Below wz.heap.size wz W101 := by rw [← hW101]; exact le_al _ _
          have neW101_x : w4.heap.size ≠ wz.heap.size := by have := CB.lt hx; omega
          have HW101 := Lib.hid hW101
          clear hW101 zW101
          have r102_x := le_on hx bW101
          have l102 := le_tr hbw bW101
          clear hx hbw
          clear bW101
          obtain ⟨W103, hW103⟩ : ∃ V, W101.alloc (.cells #[.int .i64 0, .int .i64 0, .int .u8 0] 27) = V := ⟨_, rfl⟩
          have zW103 : W101.heap.size = wz.heap.size + 1 := by rw [← HW101.out]; simp
          have nW103 : CB W103 (wz.heap.size + 1) 27 #[.int .i64 0, .int .i64 0, .int .u8 0] := by rw [← zW103, ← hW103]; exact CB.new _ _ _
          have bW103 : Below W101.heap.size W101 W103 := by rw [← hW103]; exact le_al _ _
          have neW103_x : w4.heap.size ≠ wz.heap.size + 1 := by have := CB.lt r102_x; omega
          have neW103_a : wz.heap.size ≠ wz.heap.size + 1 := by have := CB.lt nW101; omega
          have HW103 := Lib.hid (show (wz.alloc (.cells #[.bool ag, .int .i64 ax, .int .u8 at'] 25)).alloc (.cells #[.int .i64 0, .int .i64 0, .int .u8 0] 27) = W103 by rw [HW101.out]; exact hW103)
          clear hW103 zW103
          have r104_x := le_on r102_x bW103
          have r104_a := le_on nW101 bW103
          have l104 := le_tr l102 bW103
          clear r102_x nW101 l102
          clear bW103
          cases ag with
          | true =>
            obtain ⟨nx, hnx⟩ : ∃ s, sGiveL ⟨xe, xs, xt⟩ at' = s := ⟨_, rfl⟩
            obtain ⟨kx, hkx⟩ : ∃ s, eGiveL ⟨xe, xs, xt⟩ at' = s := ⟨_, rfl⟩
            have hst := step_give at' HI.out.1
            have T1 := fun W => give_c xe xs xt at' W
            simp only [hnx, hkx] at T1
            rw [hnx, hkx] at hst
            obtain ⟨ne, ns, nt⟩ := nx
            simp only at T1
            have HJ := Lib.hid (fw_next HI.out hst)
            simp only at HJ
            have HS := Lib.hid hst
            clear hnx hkx hst
            have R1 := fun W => right_c ne ns nt W
            simp only [HS.out.right] at R1
            have f105_x0 : ((wz.alloc (.cells #[.bool true, .int .i64 ax, .int .u8 at'] 25)).alloc (.cells #[.int .i64 0, .int .i64 0, .int .u8 0] 27)).cell? ⟨w4.heap.size, 0, none⟩ = some (.int .i64 xe) := by rw [HW103.out]; exact CB.cell r104_x 0
            have f105_x1 : ((wz.alloc (.cells #[.bool true, .int .i64 ax, .int .u8 at'] 25)).alloc (.cells #[.int .i64 0, .int .i64 0, .int .u8 0] 27)).cell? ⟨w4.heap.size, 1, none⟩ = some (.int .i64 xs) := by rw [HW103.out]; exact CB.cell r104_x 1
            have f105_x2 : ((wz.alloc (.cells #[.bool true, .int .i64 ax, .int .u8 at'] 25)).alloc (.cells #[.int .i64 0, .int .i64 0, .int .u8 0] 27)).cell? ⟨w4.heap.size, 2, none⟩ = some (.int .u8 xt) := by rw [HW103.out]; exact CB.cell r104_x 2
            have f105_a0 : ((wz.alloc (.cells #[.bool true, .int .i64 ax, .int .u8 at'] 25)).alloc (.cells #[.int .i64 0, .int .i64 0, .int .u8 0] 27)).cell? ⟨wz.heap.size, 0, none⟩ = some (.bool true) := by rw [HW103.out]; exact CB.cell r104_a 0
            have f105_a1 : ((wz.alloc (.cells #[.bool true, .int .i64 ax, .int .u8 at'] 25)).alloc (.cells #[.int .i64 0, .int .i64 0, .int .u8 0] 27)).cell? ⟨wz.heap.size, 1, none⟩ = some (.int .i64 ax) := by rw [HW103.out]; exact CB.cell r104_a 1
            have f105_a2 : ((wz.alloc (.cells #[.bool true, .int .i64 ax, .int .u8 at'] 25)).alloc (.cells #[.int .i64 0, .int .i64 0, .int .u8 0] 27)).cell? ⟨wz.heap.size, 2, none⟩ = some (.int .u8 at') := by rw [HW103.out]; exact CB.cell r104_a 2
            go_wp2_with fail
            rw [HW103.out]
            refine (T1 _).mono ?_
            rintro e w106 ⟨rfl, b106⟩
            clear a0 a1 a2 f105_x0 f105_x1 f105_x2 f105_a0 f105_a1 f105_a2
            have r107_x := le_on r104_x b106
            have r107_a := le_on r104_a b106
            have r107_n := le_on nW103 b106
            have l107 := le_tr l104 b106
            clear r104_x r104_a nW103 l104
            clear b106
            have f107_n0 : w106.cell? ⟨wz.heap.size + 1, 0, none⟩ = some (.int .i64 0) := CB.cell r107_n 0
            have z107_n0 : w106.frozen? ⟨wz.heap.size + 1, 0, none⟩ = false := CB.frozen r107_n 0
            have f107_n1 : w106.cell? ⟨wz.heap.size + 1, 1, none⟩ = some (.int .i64 0) := CB.cell r107_n 1
            have z107_n1 : w106.frozen? ⟨wz.heap.size + 1, 1, none⟩ = false := CB.frozen r107_n 1
            have f107_n2 : w106.cell? ⟨wz.heap.size + 1, 2, none⟩ = some (.int .u8 0) := CB.cell r107_n 2
            have z107_n2 : w106.frozen? ⟨wz.heap.size + 1, 2, none⟩ = false := CB.frozen r107_n 2
            obtain ⟨V108, hV108, nV108, lV108, kV108⟩ := cb_end3 r107_n (.int .i64 ne) (.int .i64 ns) (.int .u8 nt)
            have HV108 := Lib.hid hV108
            have mV108_x := kV108 _ _ _ neW103_x r107_x
            have mV108_a := kV108 _ _ _ neW103_a r107_a
            have oV108 := lV108 _ _ l107 (by omega)
            clear hV108 lV108 kV108
            clear r107_n r107_x r107_a l107
            have hup : ¬ ne < xe := by have : xe ≤ ne := HS.out.up; omega
            have hup' : decide (ne < xe) = false := by simp; have : xe ≤ ne := HS.out.up; omega
            by_cases hkz : kx = 0
            · have z1 : ((kx : Int) != 0) = false := by simp [hkz]
              clear hkz
              have f109_n0 : ((((w106).setCell ⟨wz.heap.size + 1, 0, none⟩ (.int .i64 ne)).setCell ⟨wz.heap.size + 1, 1, none⟩ (.int .i64 ns)).setCell ⟨wz.heap.size + 1, 2, none⟩ (.int .u8 nt)).cell? ⟨wz.heap.size + 1, 0, none⟩ = some (.int .i64 ne) := by rw [HV108.out]; exact CB.cell nV108 0
              have f109_n1 : ((((w106).setCell ⟨wz.heap.size + 1, 0, none⟩ (.int .i64 ne)).setCell ⟨wz.heap.size + 1, 1, none⟩ (.int .i64 ns)).setCell ⟨wz.heap.size + 1, 2, none⟩ (.int .u8 nt)).cell? ⟨wz.heap.size + 1, 1, none⟩ = some (.int .i64 ns) := by rw [HV108.out]; exact CB.cell nV108 1
              have f109_n2 : ((((w106).setCell ⟨wz.heap.size + 1, 0, none⟩ (.int .i64 ne)).setCell ⟨wz.heap.size + 1, 1, none⟩ (.int .i64 ns)).setCell ⟨wz.heap.size + 1, 2, none⟩ (.int .u8 nt)).cell? ⟨wz.heap.size + 1, 2, none⟩ = some (.int .u8 nt) := by rw [HV108.out]; exact CB.cell nV108 2
              have f109_x0 : ((((w106).setCell ⟨wz.heap.size + 1, 0, none⟩ (.int .i64 ne)).setCell ⟨wz.heap.size + 1, 1, none⟩ (.int .i64 ns)).setCell ⟨wz.heap.size + 1, 2, none⟩ (.int .u8 nt)).cell? ⟨w4.heap.size, 0, none⟩ = some (.int .i64 xe) := by rw [HV108.out]; exact CB.cell mV108_x 0
              have f109_x1 : ((((w106).setCell ⟨wz.heap.size + 1, 0, none⟩ (.int .i64 ne)).setCell ⟨wz.heap.size + 1, 1, none⟩ (.int .i64 ns)).setCell ⟨wz.heap.size + 1, 2, none⟩ (.int .u8 nt)).cell? ⟨w4.heap.size, 1, none⟩ = some (.int .i64 xs) := by rw [HV108.out]; exact CB.cell mV108_x 1
              have f109_x2 : ((((w106).setCell ⟨wz.heap.size + 1, 0, none⟩ (.int .i64 ne)).setCell ⟨wz.heap.size + 1, 1, none⟩ (.int .i64 ns)).setCell ⟨wz.heap.size + 1, 2, none⟩ (.int .u8 nt)).cell? ⟨w4.heap.size, 2, none⟩ = some (.int .u8 xt) := by rw [HV108.out]; exact CB.cell mV108_x 2
              go_wp2_with fail
              rw [HV108.out]
              refine (R1 _).mono ?_
              rintro e w110 ⟨rfl, b110⟩
              clear f107_n0 z107_n0 f107_n1 z107_n1 f107_n2 z107_n2 f109_n0 f109_n1 f109_n2 f109_x0 f109_x1 f109_x2
              have r111_x := le_on mV108_x b110
              have r111_a := le_on mV108_a b110
              have r111_n := le_on nV108 b110
              have l111 := le_tr oV108 b110
              clear mV108_x mV108_a nV108 oV108
              clear b110
              by_cases h2 : ns = 2
              · have s1 : (ns == 2) = true := by simp [h2]
                have HK := Lib.hid (show FwI ⟨ne, ns, nt⟩ ne by have := HJ.out; rwa [if_pos h2] at this)
                clear h2 HJ
                have g1 : 0 ≤ ne := HK.out.2.1
                have g2 : ne ≤ 1048576 := HK.out.2.2.1
                by_cases h3 : (0 : Int) < ne - 3
                ·
                  have f113_n0 : w110.cell? ⟨wz.heap.size + 1, 0, none⟩ = some (.int .i64 ne) := CB.cell r111_n 0
                  have f113_n1 : w110.cell? ⟨wz.heap.size + 1, 1, none⟩ = some (.int .i64 ns) := CB.cell r111_n 1
                  have f113_n2 : w110.cell? ⟨wz.heap.size + 1, 2, none⟩ = some (.int .u8 nt) := CB.cell r111_n 2
                  have f113_x0 : w110.cell? ⟨w4.heap.size, 0, none⟩ = some (.int .i64 xe) := CB.cell r111_x 0
                  have f113_x1 : w110.cell? ⟨w4.heap.size, 1, none⟩ = some (.int .i64 xs) := CB.cell r111_x 1
                  have f113_x2 : w110.cell? ⟨w4.heap.size, 2, none⟩ = some (.int .u8 xt) := CB.cell r111_x 2
                  go_wp2_with fail
                  clear f113_n0 f113_n1 f113_n2 f113_x0 f113_x1 f113_x2
                  go_loopw [11] (fun kv wr => ∃ j : Int, kv = .int .i64 j ∧ 0 ≤ j ∧ j ≤ ne + 1 ∧ CB wr (wz.heap.size + 1) 27 #[.int .i64 ne, .int .i64 ns, .int .u8 nt] ∧ CB wr (w4.heap.size) 27 #[.int .i64 xe, .int .i64 xs, .int .u8 xt] ∧ Below w.heap.size w wr) (fun kv _ => (ne + 1 - intOf kv).toNat)
                  case atStart => exact ⟨ne - 3, rfl, by omega, by omega, r111_n, r111_x, l111⟩
                  case round =>
                    obtain ⟨j, rfl, hj0, hj1, hn', hx', hb'⟩ := hrel
                    clear r111_n r111_x r111_a l111
                    by_cases hle : j ≤ ne
                    · have S1 := fun W => speaks_c ne ns nt j W
                      simp only [fw_mute HK.out j hle] at S1
                      by_cases hjp : 0 < j
                      ·
                        have f301_n0 : wr.cell? ⟨wz.heap.size + 1, 0, none⟩ = some (.int .i64 ne) := CB.cell hn' 0
                        have f301_n1 : wr.cell? ⟨wz.heap.size + 1, 1, none⟩ = some (.int .i64 ns) := CB.cell hn' 1
                        have f301_n2 : wr.cell? ⟨wz.heap.size + 1, 2, none⟩ = some (.int .u8 nt) := CB.cell hn' 2
                        go_wp2_with fail
                        refine (S1 _).mono ?_
                        rintro e w302 ⟨rfl, b302⟩
                        clear f301_n0 f301_n1 f301_n2
                        have r303_x := le_on hx' b302
                        have r303_n := le_on hn' b302
                        have l303 := le_tr hb' b302
                        clear hx' hn' hb'
                        clear b302
                        go_wp2_with fail
                        go_roundw
                        case rel => exact ⟨j + 1, by go_num, by omega, by omega, r303_n, r303_x, l303⟩
                        case measure => simp [intOf]; omega
                      ·
                        go_wp2_with fail
                        go_roundw
                        case rel => exact ⟨j + 1, by go_num, by omega, by omega, hn', hx', hb'⟩
                        case measure => simp [intOf]; omega
                    ·
                      have f301_n0 : wr.cell? ⟨wz.heap.size + 1, 0, none⟩ = some (.int .i64 ne) := CB.cell hn' 0
                      have f301_n1 : wr.cell? ⟨wz.heap.size + 1, 1, none⟩ = some (.int .i64 ns) := CB.cell hn' 1
                      have f301_n2 : wr.cell? ⟨wz.heap.size + 1, 2, none⟩ = some (.int .u8 nt) := CB.cell hn' 2
                      have f301_x0 : wr.cell? ⟨w4.heap.size, 0, none⟩ = some (.int .i64 xe) := CB.cell hx' 0
                      have z301_x0 : wr.frozen? ⟨w4.heap.size, 0, none⟩ = false := CB.frozen hx' 0
                      have f301_x1 : wr.cell? ⟨w4.heap.size, 1, none⟩ = some (.int .i64 xs) := CB.cell hx' 1
                      have z301_x1 : wr.frozen? ⟨w4.heap.size, 1, none⟩ = false := CB.frozen hx' 1
                      have f301_x2 : wr.cell? ⟨w4.heap.size, 2, none⟩ = some (.int .u8 xt) := CB.cell hx' 2
                      have z301_x2 : wr.frozen? ⟨w4.heap.size, 2, none⟩ = false := CB.frozen hx' 2
                      obtain ⟨V302, hV302, nV302, lV302, kV302⟩ := cb_end3 hx' (.int .i64 ne) (.int .i64 ns) (.int .u8 nt)
                      have HV302 := Lib.hid hV302
                      have mV302_n := kV302 _ _ _ (Ne.symm neW103_x) hn'
                      have oV302 := lV302 _ _ hb' (by omega)
                      clear hV302 lV302 kV302
                      clear hx' hn' hb'
                      go_wp2_with fail
                      rw [HV302.out]
                      go_roundw
                      case rel => exact ⟨k + 1, ne, ns, nt, ne, by omega, by go_num, rfl, nV302, HK.out, oV302⟩
                      case measure => simp [intOf]; omega
                ·
                  have f113_n0 : w110.cell? ⟨wz.heap.size + 1, 0, none⟩ = some (.int .i64 ne) := CB.cell r111_n 0
                  have f113_n1 : w110.cell? ⟨wz.heap.size + 1, 1, none⟩ = some (.int .i64 ns) := CB.cell r111_n 1
                  have f113_n2 : w110.cell? ⟨wz.heap.size + 1, 2, none⟩ = some (.int .u8 nt) := CB.cell r111_n 2
                  have f113_x0 : w110.cell? ⟨w4.heap.size, 0, none⟩ = some (.int .i64 xe) := CB.cell r111_x 0
                  have f113_x1 : w110.cell? ⟨w4.heap.size, 1, none⟩ = some (.int .i64 xs) := CB.cell r111_x 1
                  have f113_x2 : w110.cell? ⟨w4.heap.size, 2, none⟩ = some (.int .u8 xt) := CB.cell r111_x 2
                  go_wp2_with fail
                  clear f113_n0 f113_n1 f113_n2 f113_x0 f113_x1 f113_x2
                  go_loopw [11] (fun kv wr => ∃ j : Int, kv = .int .i64 j ∧ 0 ≤ j ∧ j ≤ ne + 1 ∧ CB wr (wz.heap.size + 1) 27 #[.int .i64 ne, .int .i64 ns, .int .u8 nt] ∧ CB wr (w4.heap.size) 27 #[.int .i64 xe, .int .i64 xs, .int .u8 xt] ∧ Below w.heap.size w wr) (fun kv _ => (ne + 1 - intOf kv).toNat)
                  case atStart => exact ⟨0, rfl, by omega, by omega, r111_n, r111_x, l111⟩
                  case round =>
                    obtain ⟨j, rfl, hj0, hj1, hn', hx', hb'⟩ := hrel
                    clear r111_n r111_x r111_a l111
                    by_cases hle : j ≤ ne
                    · have S1 := fun W => speaks_c ne ns nt j W
                      simp only [fw_mute HK.out j hle] at S1
                      by_cases hjp : 0 < j
                      ·
                        have f301_n0 : wr.cell? ⟨wz.heap.size + 1, 0, none⟩ = some (.int .i64 ne) := CB.cell hn' 0
                        have f301_n1 : wr.cell? ⟨wz.heap.size + 1, 1, none⟩ = some (.int .i64 ns) := CB.cell hn' 1
                        have f301_n2 : wr.cell? ⟨wz.heap.size + 1, 2, none⟩ = some (.int .u8 nt) := CB.cell hn' 2
                        go_wp2_with fail
                        refine (S1 _).mono ?_
                        rintro e w302 ⟨rfl, b302⟩
                        clear f301_n0 f301_n1 f301_n2
                        have r303_x := le_on hx' b302
                        have r303_n := le_on hn' b302
                        have l303 := le_tr hb' b302
                        clear hx' hn' hb'
                        clear b302
                        go_wp2_with fail
                        go_roundw
                        case rel => exact ⟨j + 1, by go_num, by omega, by omega, r303_n, r303_x, l303⟩
                        case measure => simp [intOf]; omega
                      ·
                        go_wp2_with fail
                        go_roundw
                        case rel => exact ⟨j + 1, by go_num, by omega, by omega, hn', hx', hb'⟩
                        case measure => simp [intOf]; omega
                    ·
                      have f301_n0 : wr.cell? ⟨wz.heap.size + 1, 0, none⟩ = some (.int .i64 ne) := CB.cell hn' 0
                      have f301_n1 : wr.cell? ⟨wz.heap.size + 1, 1, none⟩ = some (.int .i64 ns) := CB.cell hn' 1
                      have f301_n2 : wr.cell? ⟨wz.heap.size + 1, 2, none⟩ = some (.int .u8 nt) := CB.cell hn' 2
                      have f301_x0 : wr.cell? ⟨w4.heap.size, 0, none⟩ = some (.int .i64 xe) := CB.cell hx' 0
                      have z301_x0 : wr.frozen? ⟨w4.heap.size, 0, none⟩ = false := CB.frozen hx' 0
                      have f301_x1 : wr.cell? ⟨w4.heap.size, 1, none⟩ = some (.int .i64 xs) := CB.cell hx' 1
                      have z301_x1 : wr.frozen? ⟨w4.heap.size, 1, none⟩ = false := CB.frozen hx' 1
                      have f301_x2 : wr.cell? ⟨w4.heap.size, 2, none⟩ = some (.int .u8 xt) := CB.cell hx' 2
                      have z301_x2 : wr.frozen? ⟨w4.heap.size, 2, none⟩ = false := CB.frozen hx' 2
                      obtain ⟨V302, hV302, nV302, lV302, kV302⟩ := cb_end3 hx' (.int .i64 ne) (.int .i64 ns) (.int .u8 nt)
                      have HV302 := Lib.hid hV302
                      have mV302_n := kV302 _ _ _ (Ne.symm neW103_x) hn'
                      have oV302 := lV302 _ _ hb' (by omega)
                      clear hV302 lV302 kV302
                      clear hx' hn' hb'
                      go_wp2_with fail
                      rw [HV302.out]
                      go_roundw
                      case rel => exact ⟨k + 1, ne, ns, nt, ne, by omega, by go_num, rfl, nV302, HK.out, oV302⟩
                      case measure => simp [intOf]; omega
              · have s1 : (ns == 2) = false := by simp [h2]
                have HK := Lib.hid (show FwI ⟨ne, ns, nt⟩ g by have := HJ.out; rwa [if_neg h2] at this)
                clear h2 HJ
                have g1 : 0 ≤ g := HK.out.2.1
                have g2 : g ≤ 1048576 := HK.out.2.2.1
                by_cases h3 : (0 : Int) < g - 3
                ·
                  have f113_n0 : w110.cell? ⟨wz.heap.size + 1, 0, none⟩ = some (.int .i64 ne) := CB.cell r111_n 0
                  have f113_n1 : w110.cell? ⟨wz.heap.size + 1, 1, none⟩ = some (.int .i64 ns) := CB.cell r111_n 1
                  have f113_n2 : w110.cell? ⟨wz.heap.size + 1, 2, none⟩ = some (.int .u8 nt) := CB.cell r111_n 2
                  have f113_x0 : w110.cell? ⟨w4.heap.size, 0, none⟩ = some (.int .i64 xe) := CB.cell r111_x 0
                  have f113_x1 : w110.cell? ⟨w4.heap.size, 1, none⟩ = some (.int .i64 xs) := CB.cell r111_x 1
                  have f113_x2 : w110.cell? ⟨w4.heap.size, 2, none⟩ = some (.int .u8 xt) := CB.cell r111_x 2
                  go_wp2_with fail
                  clear f113_n0 f113_n1 f113_n2 f113_x0 f113_x1 f113_x2
                  go_loopw [11] (fun kv wr => ∃ j : Int, kv = .int .i64 j ∧ 0 ≤ j ∧ j ≤ g + 1 ∧ CB wr (wz.heap.size + 1) 27 #[.int .i64 ne, .int .i64 ns, .int .u8 nt] ∧ CB wr (w4.heap.size) 27 #[.int .i64 xe, .int .i64 xs, .int .u8 xt] ∧ Below w.heap.size w wr) (fun kv _ => (g + 1 - intOf kv).toNat)
                  case atStart => exact ⟨g - 3, rfl, by omega, by omega, r111_n, r111_x, l111⟩
                  case round =>
                    obtain ⟨j, rfl, hj0, hj1, hn', hx', hb'⟩ := hrel
                    clear r111_n r111_x r111_a l111
                    by_cases hle : j ≤ g
                    · have S1 := fun W => speaks_c ne ns nt j W
                      simp only [fw_mute HK.out j hle] at S1
                      by_cases hjp : 0 < j
                      ·
                        have f301_n0 : wr.cell? ⟨wz.heap.size + 1, 0, none⟩ = some (.int .i64 ne) := CB.cell hn' 0
                        have f301_n1 : wr.cell? ⟨wz.heap.size + 1, 1, none⟩ = some (.int .i64 ns) := CB.cell hn' 1
                        have f301_n2 : wr.cell? ⟨wz.heap.size + 1, 2, none⟩ = some (.int .u8 nt) := CB.cell hn' 2
                        go_wp2_with fail
                        refine (S1 _).mono ?_
                        rintro e w302 ⟨rfl, b302⟩
                        clear f301_n0 f301_n1 f301_n2
                        have r303_x := le_on hx' b302
                        have r303_n := le_on hn' b302
                        have l303 := le_tr hb' b302
                        clear hx' hn' hb'
                        clear b302
                        go_wp2_with fail
                        go_roundw
                        case rel => exact ⟨j + 1, by go_num, by omega, by omega, r303_n, r303_x, l303⟩
                        case measure => simp [intOf]; omega
                      ·
                        go_wp2_with fail
                        go_roundw
                        case rel => exact ⟨j + 1, by go_num, by omega, by omega, hn', hx', hb'⟩
                        case measure => simp [intOf]; omega
                    ·
                      have f301_n0 : wr.cell? ⟨wz.heap.size + 1, 0, none⟩ = some (.int .i64 ne) := CB.cell hn' 0
                      have f301_n1 : wr.cell? ⟨wz.heap.size + 1, 1, none⟩ = some (.int .i64 ns) := CB.cell hn' 1
                      have f301_n2 : wr.cell? ⟨wz.heap.size + 1, 2, none⟩ = some (.int .u8 nt) := CB.cell hn' 2
                      have f301_x0 : wr.cell? ⟨w4.heap.size, 0, none⟩ = some (.int .i64 xe) := CB.cell hx' 0
                      have z301_x0 : wr.frozen? ⟨w4.heap.size, 0, none⟩ = false := CB.frozen hx' 0
                      have f301_x1 : wr.cell? ⟨w4.heap.size, 1, none⟩ = some (.int .i64 xs) := CB.cell hx' 1
                      have z301_x1 : wr.frozen? ⟨w4.heap.size, 1, none⟩ = false := CB.frozen hx' 1
                      have f301_x2 : wr.cell? ⟨w4.heap.size, 2, none⟩ = some (.int .u8 xt) := CB.cell hx' 2
                      have z301_x2 : wr.frozen? ⟨w4.heap.size, 2, none⟩ = false := CB.frozen hx' 2
                      obtain ⟨V302, hV302, nV302, lV302, kV302⟩ := cb_end3 hx' (.int .i64 ne) (.int .i64 ns) (.int .u8 nt)
                      have HV302 := Lib.hid hV302
                      have mV302_n := kV302 _ _ _ (Ne.symm neW103_x) hn'
                      have oV302 := lV302 _ _ hb' (by omega)
                      clear hV302 lV302 kV302
                      clear hx' hn' hb'
                      go_wp2_with fail
                      rw [HV302.out]
                      go_roundw
                      case rel => exact ⟨k + 1, ne, ns, nt, g, by omega, by go_num, rfl, nV302, HK.out, oV302⟩
                      case measure => simp [intOf]; omega
                ·
                  have f113_n0 : w110.cell? ⟨wz.heap.size + 1, 0, none⟩ = some (.int .i64 ne) := CB.cell r111_n 0
                  have f113_n1 : w110.cell? ⟨wz.heap.size + 1, 1, none⟩ = some (.int .i64 ns) := CB.cell r111_n 1
                  have f113_n2 : w110.cell? ⟨wz.heap.size + 1, 2, none⟩ = some (.int .u8 nt) := CB.cell r111_n 2
                  have f113_x0 : w110.cell? ⟨w4.heap.size, 0, none⟩ = some (.int .i64 xe) := CB.cell r111_x 0
                  have f113_x1 : w110.cell? ⟨w4.heap.size, 1, none⟩ = some (.int .i64 xs) := CB.cell r111_x 1
                  have f113_x2 : w110.cell? ⟨w4.heap.size, 2, none⟩ = some (.int .u8 xt) := CB.cell r111_x 2
                  go_wp2_with fail
                  clear f113_n0 f113_n1 f113_n2 f113_x0 f113_x1 f113_x2
                  go_loopw [11] (fun kv wr => ∃ j : Int, kv = .int .i64 j ∧ 0 ≤ j ∧ j ≤ g + 1 ∧ CB wr (wz.heap.size + 1) 27 #[.int .i64 ne, .int .i64 ns, .int .u8 nt] ∧ CB wr (w4.heap.size) 27 #[.int .i64 xe, .int .i64 xs, .int .u8 xt] ∧ Below w.heap.size w wr) (fun kv _ => (g + 1 - intOf kv).toNat)
                  case atStart => exact ⟨0, rfl, by omega, by omega, r111_n, r111_x, l111⟩
                  case round =>
                    obtain ⟨j, rfl, hj0, hj1, hn', hx', hb'⟩ := hrel
                    clear r111_n r111_x r111_a l111
                    by_cases hle : j ≤ g
                    · have S1 := fun W => speaks_c ne ns nt j W
                      simp only [fw_mute HK.out j hle] at S1
                      by_cases hjp : 0 < j
                      ·
                        have f301_n0 : wr.cell? ⟨wz.heap.size + 1, 0, none⟩ = some (.int .i64 ne) := CB.cell hn' 0
                        have f301_n1 : wr.cell? ⟨wz.heap.size + 1, 1, none⟩ = some (.int .i64 ns) := CB.cell hn' 1
                        have f301_n2 : wr.cell? ⟨wz.heap.size + 1, 2, none⟩ = some (.int .u8 nt) := CB.cell hn' 2
                        go_wp2_with fail
                        refine (S1 _).mono ?_
                        rintro e w302 ⟨rfl, b302⟩
                        clear f301_n0 f301_n1 f301_n2
                        have r303_x := le_on hx' b302
                        have r303_n := le_on hn' b302
                        have l303 := le_tr hb' b302
                        clear hx' hn' hb'
                        clear b302
                        go_wp2_with fail
                        go_roundw
                        case rel => exact ⟨j + 1, by go_num, by omega, by omega, r303_n, r303_x, l303⟩
                        case measure => simp [intOf]; omega
                      ·
                        go_wp2_with fail
                        go_roundw
                        case rel => exact ⟨j + 1, by go_num, by omega, by omega, hn', hx', hb'⟩
                        case measure => simp [intOf]; omega
                    ·
                      have f301_n0 : wr.cell? ⟨wz.heap.size + 1, 0, none⟩ = some (.int .i64 ne) := CB.cell hn' 0
                      have f301_n1 : wr.cell? ⟨wz.heap.size + 1, 1, none⟩ = some (.int .i64 ns) := CB.cell hn' 1
                      have f301_n2 : wr.cell? ⟨wz.heap.size + 1, 2, none⟩ = some (.int .u8 nt) := CB.cell hn' 2
                      have f301_x0 : wr.cell? ⟨w4.heap.size, 0, none⟩ = some (.int .i64 xe) := CB.cell hx' 0
                      have z301_x0 : wr.frozen? ⟨w4.heap.size, 0, none⟩ = false := CB.frozen hx' 0
                      have f301_x1 : wr.cell? ⟨w4.heap.size, 1, none⟩ = some (.int .i64 xs) := CB.cell hx' 1
                      have z301_x1 : wr.frozen? ⟨w4.heap.size, 1, none⟩ = false := CB.frozen hx' 1
                      have f301_x2 : wr.cell? ⟨w4.heap.size, 2, none⟩ = some (.int .u8 xt) := CB.cell hx' 2
                      have z301_x2 : wr.frozen? ⟨w4.heap.size, 2, none⟩ = false := CB.frozen hx' 2
                      obtain ⟨V302, hV302, nV302, lV302, kV302⟩ := cb_end3 hx' (.int .i64 ne) (.int .i64 ns) (.int .u8 nt)
                      have HV302 := Lib.hid hV302
                      have mV302_n := kV302 _ _ _ (Ne.symm neW103_x) hn'
                      have oV302 := lV302 _ _ hb' (by omega)
                      clear hV302 lV302 kV302
                      clear hx' hn' hb'
                      go_wp2_with fail
                      rw [HV302.out]
                      go_roundw
                      case rel => exact ⟨k + 1, ne, ns, nt, g, by omega, by go_num, rfl, nV302, HK.out, oV302⟩
                      case measure => simp [intOf]; omega
            · have z1 : ((kx : Int) != 0) = true := by simp [hkz]
              have hsame := HS.out.same hkz
              simp only [Ls.mk.injEq] at hsame
              obtain ⟨y1, y2, y3⟩ := hsame
              have z2 : (ne != xe) = false := by simp [y1]
              have z3 : (ns != xs) = false := by simp [y2]
              have z4 : (nt != xt) = false := by simp [y3]
              have z5 : (ne == xe) = true := by simp [y1]
              have z6 : (ns == xs) = true := by simp [y2]
              have z7 : (nt == xt) = true := by simp [y3]
              clear y1 y2 y3 hkz
              have f109_n0 : ((((w106).setCell ⟨wz.heap.size + 1, 0, none⟩ (.int .i64 ne)).setCell ⟨wz.heap.size + 1, 1, none⟩ (.int .i64 ns)).setCell ⟨wz.heap.size + 1, 2, none⟩ (.int .u8 nt)).cell? ⟨wz.heap.size + 1, 0, none⟩ = some (.int .i64 ne) := by rw [HV108.out]; exact CB.cell nV108 0
              have f109_n1 : ((((w106).setCell ⟨wz.heap.size + 1, 0, none⟩ (.int .i64 ne)).setCell ⟨wz.heap.size + 1, 1, none⟩ (.int .i64 ns)).setCell ⟨wz.heap.size + 1, 2, none⟩ (.int .u8 nt)).cell? ⟨wz.heap.size + 1, 1, none⟩ = some (.int .i64 ns) := by rw [HV108.out]; exact CB.cell nV108 1
              have f109_n2 : ((((w106).setCell ⟨wz.heap.size + 1, 0, none⟩ (.int .i64 ne)).setCell ⟨wz.heap.size + 1, 1, none⟩ (.int .i64 ns)).setCell ⟨wz.heap.size + 1, 2, none⟩ (.int .u8 nt)).cell? ⟨wz.heap.size + 1, 2, none⟩ = some (.int .u8 nt) := by rw [HV108.out]; exact CB.cell nV108 2
              have f109_x0 : ((((w106).setCell ⟨wz.heap.size + 1, 0, none⟩ (.int .i64 ne)).setCell ⟨wz.heap.size + 1, 1, none⟩ (.int .i64 ns)).setCell ⟨wz.heap.size + 1, 2, none⟩ (.int .u8 nt)).cell? ⟨w4.heap.size, 0, none⟩ = some (.int .i64 xe) := by rw [HV108.out]; exact CB.cell mV108_x 0
              have f109_x1 : ((((w106).setCell ⟨wz.heap.size + 1, 0, none⟩ (.int .i64 ne)).setCell ⟨wz.heap.size + 1, 1, none⟩ (.int .i64 ns)).setCell ⟨wz.heap.size + 1, 2, none⟩ (.int .u8 nt)).cell? ⟨w4.heap.size, 1, none⟩ = some (.int .i64 xs) := by rw [HV108.out]; exact CB.cell mV108_x 1
              have f109_x2 : ((((w106).setCell ⟨wz.heap.size + 1, 0, none⟩ (.int .i64 ne)).setCell ⟨wz.heap.size + 1, 1, none⟩ (.int .i64 ns)).setCell ⟨wz.heap.size + 1, 2, none⟩ (.int .u8 nt)).cell? ⟨w4.heap.size, 2, none⟩ = some (.int .u8 xt) := by rw [HV108.out]; exact CB.cell mV108_x 2
              go_wp2_with fail
              rw [HV108.out]
              refine (R1 _).mono ?_
              rintro e w110 ⟨rfl, b110⟩
              clear f107_n0 z107_n0 f107_n1 z107_n1 f107_n2 z107_n2 f109_n0 f109_n1 f109_n2 f109_x0 f109_x1 f109_x2
              have r111_x := le_on mV108_x b110
              have r111_a := le_on mV108_a b110
              have r111_n := le_on nV108 b110
              have l111 := le_tr oV108 b110
              clear mV108_x mV108_a nV108 oV108
              clear b110
              by_cases h2 : ns = 2
              · have s1 : (ns == 2) = true := by simp [h2]
                have HK := Lib.hid (show FwI ⟨ne, ns, nt⟩ ne by have := HJ.out; rwa [if_pos h2] at this)
                clear h2 HJ
                have g1 : 0 ≤ ne := HK.out.2.1
                have g2 : ne ≤ 1048576 := HK.out.2.2.1
                by_cases h3 : (0 : Int) < ne - 3
                ·
                  have f113_n0 : w110.cell? ⟨wz.heap.size + 1, 0, none⟩ = some (.int .i64 ne) := CB.cell r111_n 0
                  have f113_n1 : w110.cell? ⟨wz.heap.size + 1, 1, none⟩ = some (.int .i64 ns) := CB.cell r111_n 1
                  have f113_n2 : w110.cell? ⟨wz.heap.size + 1, 2, none⟩ = some (.int .u8 nt) := CB.cell r111_n 2
                  have f113_x0 : w110.cell? ⟨w4.heap.size, 0, none⟩ = some (.int .i64 xe) := CB.cell r111_x 0
                  have f113_x1 : w110.cell? ⟨w4.heap.size, 1, none⟩ = some (.int .i64 xs) := CB.cell r111_x 1
                  have f113_x2 : w110.cell? ⟨w4.heap.size, 2, none⟩ = some (.int .u8 xt) := CB.cell r111_x 2
                  go_wp2_with fail
                  clear f113_n0 f113_n1 f113_n2 f113_x0 f113_x1 f113_x2
                  go_loopw [11] (fun kv wr => ∃ j : Int, kv = .int .i64 j ∧ 0 ≤ j ∧ j ≤ ne + 1 ∧ CB wr (wz.heap.size + 1) 27 #[.int .i64 ne, .int .i64 ns, .int .u8 nt] ∧ CB wr (w4.heap.size) 27 #[.int .i64 xe, .int .i64 xs, .int .u8 xt] ∧ Below w.heap.size w wr) (fun kv _ => (ne + 1 - intOf kv).toNat)
                  case atStart => exact ⟨ne - 3, rfl, by omega, by omega, r111_n, r111_x, l111⟩
                  case round =>
                    obtain ⟨j, rfl, hj0, hj1, hn', hx', hb'⟩ := hrel
                    clear r111_n r111_x r111_a l111
                    by_cases hle : j ≤ ne
                    · have S1 := fun W => speaks_c ne ns nt j W
                      simp only [fw_mute HK.out j hle] at S1
                      by_cases hjp : 0 < j
                      ·
                        have f301_n0 : wr.cell? ⟨wz.heap.size + 1, 0, none⟩ = some (.int .i64 ne) := CB.cell hn' 0
                        have f301_n1 : wr.cell? ⟨wz.heap.size + 1, 1, none⟩ = some (.int .i64 ns) := CB.cell hn' 1
                        have f301_n2 : wr.cell? ⟨wz.heap.size + 1, 2, none⟩ = some (.int .u8 nt) := CB.cell hn' 2
                        go_wp2_with fail
                        refine (S1 _).mono ?_
                        rintro e w302 ⟨rfl, b302⟩
                        clear f301_n0 f301_n1 f301_n2
                        have r303_x := le_on hx' b302
                        have r303_n := le_on hn' b302
                        have l303 := le_tr hb' b302
                        clear hx' hn' hb'
                        clear b302
                        go_wp2_with fail
                        go_roundw
                        case rel => exact ⟨j + 1, by go_num, by omega, by omega, r303_n, r303_x, l303⟩
                        case measure => simp [intOf]; omega
                      ·
                        go_wp2_with fail
                        go_roundw
                        case rel => exact ⟨j + 1, by go_num, by omega, by omega, hn', hx', hb'⟩
                        case measure => simp [intOf]; omega
                    ·
                      have f301_n0 : wr.cell? ⟨wz.heap.size + 1, 0, none⟩ = some (.int .i64 ne) := CB.cell hn' 0
                      have f301_n1 : wr.cell? ⟨wz.heap.size + 1, 1, none⟩ = some (.int .i64 ns) := CB.cell hn' 1
                      have f301_n2 : wr.cell? ⟨wz.heap.size + 1, 2, none⟩ = some (.int .u8 nt) := CB.cell hn' 2
                      have f301_x0 : wr.cell? ⟨w4.heap.size, 0, none⟩ = some (.int .i64 xe) := CB.cell hx' 0
                      have z301_x0 : wr.frozen? ⟨w4.heap.size, 0, none⟩ = false := CB.frozen hx' 0
                      have f301_x1 : wr.cell? ⟨w4.heap.size, 1, none⟩ = some (.int .i64 xs) := CB.cell hx' 1
                      have z301_x1 : wr.frozen? ⟨w4.heap.size, 1, none⟩ = false := CB.frozen hx' 1
                      have f301_x2 : wr.cell? ⟨w4.heap.size, 2, none⟩ = some (.int .u8 xt) := CB.cell hx' 2
                      have z301_x2 : wr.frozen? ⟨w4.heap.size, 2, none⟩ = false := CB.frozen hx' 2
                      obtain ⟨V302, hV302, nV302, lV302, kV302⟩ := cb_end3 hx' (.int .i64 ne) (.int .i64 ns) (.int .u8 nt)
                      have HV302 := Lib.hid hV302
                      have mV302_n := kV302 _ _ _ (Ne.symm neW103_x) hn'
                      have oV302 := lV302 _ _ hb' (by omega)
                      clear hV302 lV302 kV302
                      clear hx' hn' hb'
                      go_wp2_with fail
                      rw [HV302.out]
                      go_roundw
                      case rel => exact ⟨k + 1, ne, ns, nt, ne, by omega, by go_num, rfl, nV302, HK.out, oV302⟩
                      case measure => simp [intOf]; omega
                ·
                  have f113_n0 : w110.cell? ⟨wz.heap.size + 1, 0, none⟩ = some (.int .i64 ne) := CB.cell r111_n 0
                  have f113_n1 : w110.cell? ⟨wz.heap.size + 1, 1, none⟩ = some (.int .i64 ns) := CB.cell r111_n 1
                  have f113_n2 : w110.cell? ⟨wz.heap.size + 1, 2, none⟩ = some (.int .u8 nt) := CB.cell r111_n 2
                  have f113_x0 : w110.cell? ⟨w4.heap.size, 0, none⟩ = some (.int .i64 xe) := CB.cell r111_x 0
                  have f113_x1 : w110.cell? ⟨w4.heap.size, 1, none⟩ = some (.int .i64 xs) := CB.cell r111_x 1
                  have f113_x2 : w110.cell? ⟨w4.heap.size, 2, none⟩ = some (.int .u8 xt) := CB.cell r111_x 2
                  go_wp2_with fail
                  clear f113_n0 f113_n1 f113_n2 f113_x0 f113_x1 f113_x2
                  go_loopw [11] (fun kv wr => ∃ j : Int, kv = .int .i64 j ∧ 0 ≤ j ∧ j ≤ ne + 1 ∧ CB wr (wz.heap.size + 1) 27 #[.int .i64 ne, .int .i64 ns, .int .u8 nt] ∧ CB wr (w4.heap.size) 27 #[.int .i64 xe, .int .i64 xs, .int .u8 xt] ∧ Below w.heap.size w wr) (fun kv _ => (ne + 1 - intOf kv).toNat)
                  case atStart => exact ⟨0, rfl, by omega, by omega, r111_n, r111_x, l111⟩
                  case round =>
                    obtain ⟨j, rfl, hj0, hj1, hn', hx', hb'⟩ := hrel
                    clear r111_n r111_x r111_a l111
                    by_cases hle : j ≤ ne
                    · have S1 := fun W => speaks_c ne ns nt j W
                      simp only [fw_mute HK.out j hle] at S1
                      by_cases hjp : 0 < j
                      ·
                        have f301_n0 : wr.cell? ⟨wz.heap.size + 1, 0, none⟩ = some (.int .i64 ne) := CB.cell hn' 0
                        have f301_n1 : wr.cell? ⟨wz.heap.size + 1, 1, none⟩ = some (.int .i64 ns) := CB.cell hn' 1
                        have f301_n2 : wr.cell? ⟨wz.heap.size + 1, 2, none⟩ = some (.int .u8 nt) := CB.cell hn' 2
                        go_wp2_with fail
                        refine (S1 _).mono ?_
                        rintro e w302 ⟨rfl, b302⟩
                        clear f301_n0 f301_n1 f301_n2
                        have r303_x := le_on hx' b302
                        have r303_n := le_on hn' b302
                        have l303 := le_tr hb' b302
                        clear hx' hn' hb'
                        clear b302
                        go_wp2_with fail
                        go_roundw
                        case rel => exact ⟨j + 1, by go_num, by omega, by omega, r303_n, r303_x, l303⟩
                        case measure => simp [intOf]; omega
                      ·
                        go_wp2_with fail
                        go_roundw
                        case rel => exact ⟨j + 1, by go_num, by omega, by omega, hn', hx', hb'⟩
                        case measure => simp [intOf]; omega
                    ·
                      have f301_n0 : wr.cell? ⟨wz.heap.size + 1, 0, none⟩ = some (.int .i64 ne) := CB.cell hn' 0
                      have f301_n1 : wr.cell? ⟨wz.heap.size + 1, 1, none⟩ = some (.int .i64 ns) := CB.cell hn' 1
                      have f301_n2 : wr.cell? ⟨wz.heap.size + 1, 2, none⟩ = some (.int .u8 nt) := CB.cell hn' 2
                      have f301_x0 : wr.cell? ⟨w4.heap.size, 0, none⟩ = some (.int .i64 xe) := CB.cell hx' 0
                      have z301_x0 : wr.frozen? ⟨w4.heap.size, 0, none⟩ = false := CB.frozen hx' 0
                      have f301_x1 : wr.cell? ⟨w4.heap.size, 1, none⟩ = some (.int .i64 xs) := CB.cell hx' 1
                      have z301_x1 : wr.frozen? ⟨w4.heap.size, 1, none⟩ = false := CB.frozen hx' 1
                      have f301_x2 : wr.cell? ⟨w4.heap.size, 2, none⟩ = some (.int .u8 xt) := CB.cell hx' 2
                      have z301_x2 : wr.frozen? ⟨w4.heap.size, 2, none⟩ = false := CB.frozen hx' 2
                      obtain ⟨V302, hV302, nV302, lV302, kV302⟩ := cb_end3 hx' (.int .i64 ne) (.int .i64 ns) (.int .u8 nt)
                      have HV302 := Lib.hid hV302
                      have mV302_n := kV302 _ _ _ (Ne.symm neW103_x) hn'
                      have oV302 := lV302 _ _ hb' (by omega)
                      clear hV302 lV302 kV302
                      clear hx' hn' hb'
                      go_wp2_with fail
                      rw [HV302.out]
                      go_roundw
                      case rel => exact ⟨k + 1, ne, ns, nt, ne, by omega, by go_num, rfl, nV302, HK.out, oV302⟩
                      case measure => simp [intOf]; omega
              · have s1 : (ns == 2) = false := by simp [h2]
                have HK := Lib.hid (show FwI ⟨ne, ns, nt⟩ g by have := HJ.out; rwa [if_neg h2] at this)
                clear h2 HJ
                have g1 : 0 ≤ g := HK.out.2.1
                have g2 : g ≤ 1048576 := HK.out.2.2.1
                by_cases h3 : (0 : Int) < g - 3
                ·
                  have f113_n0 : w110.cell? ⟨wz.heap.size + 1, 0, none⟩ = some (.int .i64 ne) := CB.cell r111_n 0
                  have f113_n1 : w110.cell? ⟨wz.heap.size + 1, 1, none⟩ = some (.int .i64 ns) := CB.cell r111_n 1
                  have f113_n2 : w110.cell? ⟨wz.heap.size + 1, 2, none⟩ = some (.int .u8 nt) := CB.cell r111_n 2
                  have f113_x0 : w110.cell? ⟨w4.heap.size, 0, none⟩ = some (.int .i64 xe) := CB.cell r111_x 0
                  have f113_x1 : w110.cell? ⟨w4.heap.size, 1, none⟩ = some (.int .i64 xs) := CB.cell r111_x 1
                  have f113_x2 : w110.cell? ⟨w4.heap.size, 2, none⟩ = some (.int .u8 xt) := CB.cell r111_x 2
                  go_wp2_with fail
                  clear f113_n0 f113_n1 f113_n2 f113_x0 f113_x1 f113_x2
                  go_loopw [11] (fun kv wr => ∃ j : Int, kv = .int .i64 j ∧ 0 ≤ j ∧ j ≤ g + 1 ∧ CB wr (wz.heap.size + 1) 27 #[.int .i64 ne, .int .i64 ns, .int .u8 nt] ∧ CB wr (w4.heap.size) 27 #[.int .i64 xe, .int .i64 xs, .int .u8 xt] ∧ Below w.heap.size w wr) (fun kv _ => (g + 1 - intOf kv).toNat)
                  case atStart => exact ⟨g - 3, rfl, by omega, by omega, r111_n, r111_x, l111⟩
                  case round =>
                    obtain ⟨j, rfl, hj0, hj1, hn', hx', hb'⟩ := hrel
                    clear r111_n r111_x r111_a l111
                    by_cases hle : j ≤ g
                    · have S1 := fun W => speaks_c ne ns nt j W
                      simp only [fw_mute HK.out j hle] at S1
                      by_cases hjp : 0 < j
                      ·
                        have f301_n0 : wr.cell? ⟨wz.heap.size + 1, 0, none⟩ = some (.int .i64 ne) := CB.cell hn' 0
                        have f301_n1 : wr.cell? ⟨wz.heap.size + 1, 1, none⟩ = some (.int .i64 ns) := CB.cell hn' 1
                        have f301_n2 : wr.cell? ⟨wz.heap.size + 1, 2, none⟩ = some (.int .u8 nt) := CB.cell hn' 2
                        go_wp2_with fail
                        refine (S1 _).mono ?_
                        rintro e w302 ⟨rfl, b302⟩
                        clear f301_n0 f301_n1 f301_n2
                        have r303_x := le_on hx' b302
                        have r303_n := le_on hn' b302
                        have l303 := le_tr hb' b302
                        clear hx' hn' hb'
                        clear b302
                        go_wp2_with fail
                        go_roundw
                        case rel => exact ⟨j + 1, by go_num, by omega, by omega, r303_n, r303_x, l303⟩
                        case measure => simp [intOf]; omega
                      ·
                        go_wp2_with fail
                        go_roundw
                        case rel => exact ⟨j + 1, by go_num, by omega, by omega, hn', hx', hb'⟩
                        case measure => simp [intOf]; omega
                    ·
                      have f301_n0 : wr.cell? ⟨wz.heap.size + 1, 0, none⟩ = some (.int .i64 ne) := CB.cell hn' 0
                      have f301_n1 : wr.cell? ⟨wz.heap.size + 1, 1, none⟩ = some (.int .i64 ns) := CB.cell hn' 1
                      have f301_n2 : wr.cell? ⟨wz.heap.size + 1, 2, none⟩ = some (.int .u8 nt) := CB.cell hn' 2
                      have f301_x0 : wr.cell? ⟨w4.heap.size, 0, none⟩ = some (.int .i64 xe) := CB.cell hx' 0
                      have z301_x0 : wr.frozen? ⟨w4.heap.size, 0, none⟩ = false := CB.frozen hx' 0
                      have f301_x1 : wr.cell? ⟨w4.heap.size, 1, none⟩ = some (.int .i64 xs) := CB.cell hx' 1
                      have z301_x1 : wr.frozen? ⟨w4.heap.size, 1, none⟩ = false := CB.frozen hx' 1
                      have f301_x2 : wr.cell? ⟨w4.heap.size, 2, none⟩ = some (.int .u8 xt) := CB.cell hx' 2
                      have z301_x2 : wr.frozen? ⟨w4.heap.size, 2, none⟩ = false := CB.frozen hx' 2
                      obtain ⟨V302, hV302, nV302, lV302, kV302⟩ := cb_end3 hx' (.int .i64 ne) (.int .i64 ns) (.int .u8 nt)
                      have HV302 := Lib.hid hV302
                      have mV302_n := kV302 _ _ _ (Ne.symm neW103_x) hn'
                      have oV302 := lV302 _ _ hb' (by omega)
                      clear hV302 lV302 kV302
                      clear hx' hn' hb'
                      go_wp2_with fail
                      rw [HV302.out]
                      go_roundw
                      case rel => exact ⟨k + 1, ne, ns, nt, g, by omega, by go_num, rfl, nV302, HK.out, oV302⟩
                      case measure => simp [intOf]; omega
                ·
                  have f113_n0 : w110.cell? ⟨wz.heap.size + 1, 0, none⟩ = some (.int .i64 ne) := CB.cell r111_n 0
                  have f113_n1 : w110.cell? ⟨wz.heap.size + 1, 1, none⟩ = some (.int .i64 ns) := CB.cell r111_n 1
                  have f113_n2 : w110.cell? ⟨wz.heap.size + 1, 2, none⟩ = some (.int .u8 nt) := CB.cell r111_n 2
                  have f113_x0 : w110.cell? ⟨w4.heap.size, 0, none⟩ = some (.int .i64 xe) := CB.cell r111_x 0
                  have f113_x1 : w110.cell? ⟨w4.heap.size, 1, none⟩ = some (.int .i64 xs) := CB.cell r111_x 1
                  have f113_x2 : w110.cell? ⟨w4.heap.size, 2, none⟩ = some (.int .u8 xt) := CB.cell r111_x 2
                  go_wp2_with fail
                  clear f113_n0 f113_n1 f113_n2 f113_x0 f113_x1 f113_x2
                  go_loopw [11] (fun kv wr => ∃ j : Int, kv = .int .i64 j ∧ 0 ≤ j ∧ j ≤ g + 1 ∧ CB wr (wz.heap.size + 1) 27 #[.int .i64 ne, .int .i64 ns, .int .u8 nt] ∧ CB wr (w4.heap.size) 27 #[.int .i64 xe, .int .i64 xs, .int .u8 xt] ∧ Below w.heap.size w wr) (fun kv _ => (g + 1 - intOf kv).toNat)
                  case atStart => exact ⟨0, rfl, by omega, by omega, r111_n, r111_x, l111⟩
                  case round =>
                    obtain ⟨j, rfl, hj0, hj1, hn', hx', hb'⟩ := hrel
                    clear r111_n r111_x r111_a l111
                    by_cases hle : j ≤ g
                    · have S1 := fun W => speaks_c ne ns nt j W
                      simp only [fw_mute HK.out j hle] at S1
                      by_cases hjp : 0 < j
                      ·
                        have f301_n0 : wr.cell? ⟨wz.heap.size + 1, 0, none⟩ = some (.int .i64 ne) := CB.cell hn' 0
                        have f301_n1 : wr.cell? ⟨wz.heap.size + 1, 1, none⟩ = some (.int .i64 ns) := CB.cell hn' 1
                        have f301_n2 : wr.cell? ⟨wz.heap.size + 1, 2, none⟩ = some (.int .u8 nt) := CB.cell hn' 2
                        go_wp2_with fail
                        refine (S1 _).mono ?_
                        rintro e w302 ⟨rfl, b302⟩
                        clear f301_n0 f301_n1 f301_n2
                        have r303_x := le_on hx' b302
                        have r303_n := le_on hn' b302
                        have l303 := le_tr hb' b302
                        clear hx' hn' hb'
                        clear b302
                        go_wp2_with fail
                        go_roundw
                        case rel => exact ⟨j + 1, by go_num, by omega, by omega, r303_n, r303_x, l303⟩
                        case measure => simp [intOf]; omega
                      ·
                        go_wp2_with fail
                        go_roundw
                        case rel => exact ⟨j + 1, by go_num, by omega, by omega, hn', hx', hb'⟩
                        case measure => simp [intOf]; omega
                    ·
                      have f301_n0 : wr.cell? ⟨wz.heap.size + 1, 0, none⟩ = some (.int .i64 ne) := CB.cell hn' 0
                      have f301_n1 : wr.cell? ⟨wz.heap.size + 1, 1, none⟩ = some (.int .i64 ns) := CB.cell hn' 1
                      have f301_n2 : wr.cell? ⟨wz.heap.size + 1, 2, none⟩ = some (.int .u8 nt) := CB.cell hn' 2
                      have f301_x0 : wr.cell? ⟨w4.heap.size, 0, none⟩ = some (.int .i64 xe) := CB.cell hx' 0
                      have z301_x0 : wr.frozen? ⟨w4.heap.size, 0, none⟩ = false := CB.frozen hx' 0
                      have f301_x1 : wr.cell? ⟨w4.heap.size, 1, none⟩ = some (.int .i64 xs) := CB.cell hx' 1
                      have z301_x1 : wr.frozen? ⟨w4.heap.size, 1, none⟩ = false := CB.frozen hx' 1
                      have f301_x2 : wr.cell? ⟨w4.heap.size, 2, none⟩ = some (.int .u8 xt) := CB.cell hx' 2
                      have z301_x2 : wr.frozen? ⟨w4.heap.size, 2, none⟩ = false := CB.frozen hx' 2
                      obtain ⟨V302, hV302, nV302, lV302, kV302⟩ := cb_end3 hx' (.int .i64 ne) (.int .i64 ns) (.int .u8 nt)
                      have HV302 := Lib.hid hV302
                      have mV302_n := kV302 _ _ _ (Ne.symm neW103_x) hn'
                      have oV302 := lV302 _ _ hb' (by omega)
                      clear hV302 lV302 kV302
                      clear hx' hn' hb'
                      go_wp2_with fail
                      rw [HV302.out]
                      go_roundw
                      case rel => exact ⟨k + 1, ne, ns, nt, g, by omega, by go_num, rfl, nV302, HK.out, oV302⟩
                      case measure => simp [intOf]; omega
          | false =>
            obtain ⟨nx, hnx⟩ : ∃ s, sTakeL ⟨xe, xs, xt⟩ ax = s := ⟨_, rfl⟩
            obtain ⟨kx, hkx⟩ : ∃ s, eTakeL ⟨xe, xs, xt⟩ ax = s := ⟨_, rfl⟩
            have hst := step_take ax HI.out.1
            have T1 := fun W => take_c xe xs xt ax W
            simp only [hnx, hkx] at T1
            rw [hnx, hkx] at hst
            obtain ⟨ne, ns, nt⟩ := nx
            simp only at T1
            have HJ := Lib.hid (fw_next HI.out hst)
            simp only at HJ
            have HS := Lib.hid hst
            clear hnx hkx hst
            have R1 := fun W => right_c ne ns nt W
            simp only [HS.out.right] at R1
            have f105_x0 : ((wz.alloc (.cells #[.bool false, .int .i64 ax, .int .u8 at'] 25)).alloc (.cells #[.int .i64 0, .int .i64 0, .int .u8 0] 27)).cell? ⟨w4.heap.size, 0, none⟩ = some (.int .i64 xe) := by rw [HW103.out]; exact CB.cell r104_x 0
            have f105_x1 : ((wz.alloc (.cells #[.bool false, .int .i64 ax, .int .u8 at'] 25)).alloc (.cells #[.int .i64 0, .int .i64 0, .int .u8 0] 27)).cell? ⟨w4.heap.size, 1, none⟩ = some (.int .i64 xs) := by rw [HW103.out]; exact CB.cell r104_x 1
            have f105_x2 : ((wz.alloc (.cells #[.bool false, .int .i64 ax, .int .u8 at'] 25)).alloc (.cells #[.int .i64 0, .int .i64 0, .int .u8 0] 27)).cell? ⟨w4.heap.size, 2, none⟩ = some (.int .u8 xt) := by rw [HW103.out]; exact CB.cell r104_x 2
            have f105_a0 : ((wz.alloc (.cells #[.bool false, .int .i64 ax, .int .u8 at'] 25)).alloc (.cells #[.int .i64 0, .int .i64 0, .int .u8 0] 27)).cell? ⟨wz.heap.size, 0, none⟩ = some (.bool false) := by rw [HW103.out]; exact CB.cell r104_a 0
            have f105_a1 : ((wz.alloc (.cells #[.bool false, .int .i64 ax, .int .u8 at'] 25)).alloc (.cells #[.int .i64 0, .int .i64 0, .int .u8 0] 27)).cell? ⟨wz.heap.size, 1, none⟩ = some (.int .i64 ax) := by rw [HW103.out]; exact CB.cell r104_a 1
            have f105_a2 : ((wz.alloc (.cells #[.bool false, .int .i64 ax, .int .u8 at'] 25)).alloc (.cells #[.int .i64 0, .int .i64 0, .int .u8 0] 27)).cell? ⟨wz.heap.size, 2, none⟩ = some (.int .u8 at') := by rw [HW103.out]; exact CB.cell r104_a 2
            go_wp2_with fail
            rw [HW103.out]
            refine (T1 _).mono ?_
            rintro e w106 ⟨rfl, b106⟩
            clear a0 a1 a2 f105_x0 f105_x1 f105_x2 f105_a0 f105_a1 f105_a2
            have r107_x := le_on r104_x b106
            have r107_a := le_on r104_a b106
            have r107_n := le_on nW103 b106
            have l107 := le_tr l104 b106
            clear r104_x r104_a nW103 l104
            clear b106
            have f107_n0 : w106.cell? ⟨wz.heap.size + 1, 0, none⟩ = some (.int .i64 0) := CB.cell r107_n 0
            have z107_n0 : w106.frozen? ⟨wz.heap.size + 1, 0, none⟩ = false := CB.frozen r107_n 0
            have f107_n1 : w106.cell? ⟨wz.heap.size + 1, 1, none⟩ = some (.int .i64 0) := CB.cell r107_n 1
            have z107_n1 : w106.frozen? ⟨wz.heap.size + 1, 1, none⟩ = false := CB.frozen r107_n 1
            have f107_n2 : w106.cell? ⟨wz.heap.size + 1, 2, none⟩ = some (.int .u8 0) := CB.cell r107_n 2
            have z107_n2 : w106.frozen? ⟨wz.heap.size + 1, 2, none⟩ = false := CB.frozen r107_n 2
            obtain ⟨V108, hV108, nV108, lV108, kV108⟩ := cb_end3 r107_n (.int .i64 ne) (.int .i64 ns) (.int .u8 nt)
            have HV108 := Lib.hid hV108
            have mV108_x := kV108 _ _ _ neW103_x r107_x
            have mV108_a := kV108 _ _ _ neW103_a r107_a
            have oV108 := lV108 _ _ l107 (by omega)
            clear hV108 lV108 kV108
            clear r107_n r107_x r107_a l107
            have hup : ¬ ne < xe := by have : xe ≤ ne := HS.out.up; omega
            have hup' : decide (ne < xe) = false := by simp; have : xe ≤ ne := HS.out.up; omega
            by_cases hkz : kx = 0
            · have z1 : ((kx : Int) != 0) = false := by simp [hkz]
              clear hkz
              have f109_n0 : ((((w106).setCell ⟨wz.heap.size + 1, 0, none⟩ (.int .i64 ne)).setCell ⟨wz.heap.size + 1, 1, none⟩ (.int .i64 ns)).setCell ⟨wz.heap.size + 1, 2, none⟩ (.int .u8 nt)).cell? ⟨wz.heap.size + 1, 0, none⟩ = some (.int .i64 ne) := by rw [HV108.out]; exact CB.cell nV108 0
              have f109_n1 : ((((w106).setCell ⟨wz.heap.size + 1, 0, none⟩ (.int .i64 ne)).setCell ⟨wz.heap.size + 1, 1, none⟩ (.int .i64 ns)).setCell ⟨wz.heap.size + 1, 2, none⟩ (.int .u8 nt)).cell? ⟨wz.heap.size + 1, 1, none⟩ = some (.int .i64 ns) := by rw [HV108.out]; exact CB.cell nV108 1
              have f109_n2 : ((((w106).setCell ⟨wz.heap.size + 1, 0, none⟩ (.int .i64 ne)).setCell ⟨wz.heap.size + 1, 1, none⟩ (.int .i64 ns)).setCell ⟨wz.heap.size + 1, 2, none⟩ (.int .u8 nt)).cell? ⟨wz.heap.size + 1, 2, none⟩ = some (.int .u8 nt) := by rw [HV108.out]; exact CB.cell nV108 2
              have f109_x0 : ((((w106).setCell ⟨wz.heap.size + 1, 0, none⟩ (.int .i64 ne)).setCell ⟨wz.heap.size + 1, 1, none⟩ (.int .i64 ns)).setCell ⟨wz.heap.size + 1, 2, none⟩ (.int .u8 nt)).cell? ⟨w4.heap.size, 0, none⟩ = some (.int .i64 xe) := by rw [HV108.out]; exact CB.cell mV108_x 0
              have f109_x1 : ((((w106).setCell ⟨wz.heap.size + 1, 0, none⟩ (.int .i64 ne)).setCell ⟨wz.heap.size + 1, 1, none⟩ (.int .i64 ns)).setCell ⟨wz.heap.size + 1, 2, none⟩ (.int .u8 nt)).cell? ⟨w4.heap.size, 1, none⟩ = some (.int .i64 xs) := by rw [HV108.out]; exact CB.cell mV108_x 1
              have f109_x2 : ((((w106).setCell ⟨wz.heap.size + 1, 0, none⟩ (.int .i64 ne)).setCell ⟨wz.heap.size + 1, 1, none⟩ (.int .i64 ns)).setCell ⟨wz.heap.size + 1, 2, none⟩ (.int .u8 nt)).cell? ⟨w4.heap.size, 2, none⟩ = some (.int .u8 xt) := by rw [HV108.out]; exact CB.cell mV108_x 2
              go_wp2_with fail
              rw [HV108.out]
              refine (R1 _).mono ?_
              rintro e w110 ⟨rfl, b110⟩
              clear f107_n0 z107_n0 f107_n1 z107_n1 f107_n2 z107_n2 f109_n0 f109_n1 f109_n2 f109_x0 f109_x1 f109_x2
              have r111_x := le_on mV108_x b110
              have r111_a := le_on mV108_a b110
              have r111_n := le_on nV108 b110
              have l111 := le_tr oV108 b110
              clear mV108_x mV108_a nV108 oV108
              clear b110
              by_cases h2 : ns = 2
              · have s1 : (ns == 2) = true := by simp [h2]
                have HK := Lib.hid (show FwI ⟨ne, ns, nt⟩ ne by have := HJ.out; rwa [if_pos h2] at this)
                clear h2 HJ
                have g1 : 0 ≤ ne := HK.out.2.1
                have g2 : ne ≤ 1048576 := HK.out.2.2.1
                by_cases h3 : (0 : Int) < ne - 3
                ·
                  have f113_n0 : w110.cell? ⟨wz.heap.size + 1, 0, none⟩ = some (.int .i64 ne) := CB.cell r111_n 0
                  have f113_n1 : w110.cell? ⟨wz.heap.size + 1, 1, none⟩ = some (.int .i64 ns) := CB.cell r111_n 1
                  have f113_n2 : w110.cell? ⟨wz.heap.size + 1, 2, none⟩ = some (.int .u8 nt) := CB.cell r111_n 2
                  have f113_x0 : w110.cell? ⟨w4.heap.size, 0, none⟩ = some (.int .i64 xe) := CB.cell r111_x 0
                  have f113_x1 : w110.cell? ⟨w4.heap.size, 1, none⟩ = some (.int .i64 xs) := CB.cell r111_x 1
                  have f113_x2 : w110.cell? ⟨w4.heap.size, 2, none⟩ = some (.int .u8 xt) := CB.cell r111_x 2
                  go_wp2_with fail
                  clear f113_n0 f113_n1 f113_n2 f113_x0 f113_x1 f113_x2
                  go_loopw [11] (fun kv wr => ∃ j : Int, kv = .int .i64 j ∧ 0 ≤ j ∧ j ≤ ne + 1 ∧ CB wr (wz.heap.size + 1) 27 #[.int .i64 ne, .int .i64 ns, .int .u8 nt] ∧ CB wr (w4.heap.size) 27 #[.int .i64 xe, .int .i64 xs, .int .u8 xt] ∧ Below w.heap.size w wr) (fun kv _ => (ne + 1 - intOf kv).toNat)
                  case atStart => exact ⟨ne - 3, rfl, by omega, by omega, r111_n, r111_x, l111⟩
                  case round =>
                    obtain ⟨j, rfl, hj0, hj1, hn', hx', hb'⟩ := hrel
                    clear r111_n r111_x r111_a l111
                    by_cases hle : j ≤ ne
                    · have S1 := fun W => speaks_c ne ns nt j W
                      simp only [fw_mute HK.out j hle] at S1
                      by_cases hjp : 0 < j
                      ·
                        have f301_n0 : wr.cell? ⟨wz.heap.size + 1, 0, none⟩ = some (.int .i64 ne) := CB.cell hn' 0
                        have f301_n1 : wr.cell? ⟨wz.heap.size + 1, 1, none⟩ = some (.int .i64 ns) := CB.cell hn' 1
                        have f301_n2 : wr.cell? ⟨wz.heap.size + 1, 2, none⟩ = some (.int .u8 nt) := CB.cell hn' 2
                        go_wp2_with fail
                        refine (S1 _).mono ?_
                        rintro e w302 ⟨rfl, b302⟩
                        clear f301_n0 f301_n1 f301_n2
                        have r303_x := le_on hx' b302
                        have r303_n := le_on hn' b302
                        have l303 := le_tr hb' b302
                        clear hx' hn' hb'
                        clear b302
                        go_wp2_with fail
                        go_roundw
                        case rel => exact ⟨j + 1, by go_num, by omega, by omega, r303_n, r303_x, l303⟩
                        case measure => simp [intOf]; omega
                      ·
                        go_wp2_with fail
                        go_roundw
                        case rel => exact ⟨j + 1, by go_num, by omega, by omega, hn', hx', hb'⟩
                        case measure => simp [intOf]; omega
                    ·
                      have f301_n0 : wr.cell? ⟨wz.heap.size + 1, 0, none⟩ = some (.int .i64 ne) := CB.cell hn' 0
                      have f301_n1 : wr.cell? ⟨wz.heap.size + 1, 1, none⟩ = some (.int .i64 ns) := CB.cell hn' 1
                      have f301_n2 : wr.cell? ⟨wz.heap.size + 1, 2, none⟩ = some (.int .u8 nt) := CB.cell hn' 2
                      have f301_x0 : wr.cell? ⟨w4.heap.size, 0, none⟩ = some (.int .i64 xe) := CB.cell hx' 0
                      have z301_x0 : wr.frozen? ⟨w4.heap.size, 0, none⟩ = false := CB.frozen hx' 0
                      have f301_x1 : wr.cell? ⟨w4.heap.size, 1, none⟩ = some (.int .i64 xs) := CB.cell hx' 1
                      have z301_x1 : wr.frozen? ⟨w4.heap.size, 1, none⟩ = false := CB.frozen hx' 1
                      have f301_x2 : wr.cell? ⟨w4.heap.size, 2, none⟩ = some (.int .u8 xt) := CB.cell hx' 2
                      have z301_x2 : wr.frozen? ⟨w4.heap.size, 2, none⟩ = false := CB.frozen hx' 2
                      obtain ⟨V302, hV302, nV302, lV302, kV302⟩ := cb_end3 hx' (.int .i64 ne) (.int .i64 ns) (.int .u8 nt)
                      have HV302 := Lib.hid hV302
                      have mV302_n := kV302 _ _ _ (Ne.symm neW103_x) hn'
                      have oV302 := lV302 _ _ hb' (by omega)
                      clear hV302 lV302 kV302
                      clear hx' hn' hb'
                      go_wp2_with fail
                      rw [HV302.out]
                      go_roundw
                      case rel => exact ⟨k + 1, ne, ns, nt, ne, by omega, by go_num, rfl, nV302, HK.out, oV302⟩
                      case measure => simp [intOf]; omega
                ·
                  have f113_n0 : w110.cell? ⟨wz.heap.size + 1, 0, none⟩ = some (.int .i64 ne) := CB.cell r111_n 0
                  have f113_n1 : w110.cell? ⟨wz.heap.size + 1, 1, none⟩ = some (.int .i64 ns) := CB.cell r111_n 1
                  have f113_n2 : w110.cell? ⟨wz.heap.size + 1, 2, none⟩ = some (.int .u8 nt) := CB.cell r111_n 2
                  have f113_x0 : w110.cell? ⟨w4.heap.size, 0, none⟩ = some (.int .i64 xe) := CB.cell r111_x 0
                  have f113_x1 : w110.cell? ⟨w4.heap.size, 1, none⟩ = some (.int .i64 xs) := CB.cell r111_x 1
                  have f113_x2 : w110.cell? ⟨w4.heap.size, 2, none⟩ = some (.int .u8 xt) := CB.cell r111_x 2
                  go_wp2_with fail
                  clear f113_n0 f113_n1 f113_n2 f113_x0 f113_x1 f113_x2
                  go_loopw [11] (fun kv wr => ∃ j : Int, kv = .int .i64 j ∧ 0 ≤ j ∧ j ≤ ne + 1 ∧ CB wr (wz.heap.size + 1) 27 #[.int .i64 ne, .int .i64 ns, .int .u8 nt] ∧ CB wr (w4.heap.size) 27 #[.int .i64 xe, .int .i64 xs, .int .u8 xt] ∧ Below w.heap.size w wr) (fun kv _ => (ne + 1 - intOf kv).toNat)
                  case atStart => exact ⟨0, rfl, by omega, by omega, r111_n, r111_x, l111⟩
                  case round =>
                    obtain ⟨j, rfl, hj0, hj1, hn', hx', hb'⟩ := hrel
                    clear r111_n r111_x r111_a l111
                    by_cases hle : j ≤ ne
                    · have S1 := fun W => speaks_c ne ns nt j W
                      simp only [fw_mute HK.out j hle] at S1
                      by_cases hjp : 0 < j
                      ·
                        have f301_n0 : wr.cell? ⟨wz.heap.size + 1, 0, none⟩ = some (.int .i64 ne) := CB.cell hn' 0
                        have f301_n1 : wr.cell? ⟨wz.heap.size + 1, 1, none⟩ = some (.int .i64 ns) := CB.cell hn' 1
                        have f301_n2 : wr.cell? ⟨wz.heap.size + 1, 2, none⟩ = some (.int .u8 nt) := CB.cell hn' 2
                        go_wp2_with fail
                        refine (S1 _).mono ?_
                        rintro e w302 ⟨rfl, b302⟩
                        clear f301_n0 f301_n1 f301_n2
                        have r303_x := le_on hx' b302
                        have r303_n := le_on hn' b302
                        have l303 := le_tr hb' b302
                        clear hx' hn' hb'
                        clear b302
                        go_wp2_with fail
                        go_roundw
                        case rel => exact ⟨j + 1, by go_num, by omega, by omega, r303_n, r303_x, l303⟩
                        case measure => simp [intOf]; omega
                      ·
                        go_wp2_with fail
                        go_roundw
                        case rel => exact ⟨j + 1, by go_num, by omega, by omega, hn', hx', hb'⟩
                        case measure => simp [intOf]; omega
                    ·
                      have f301_n0 : wr.cell? ⟨wz.heap.size + 1, 0, none⟩ = some (.int .i64 ne) := CB.cell hn' 0
                      have f301_n1 : wr.cell? ⟨wz.heap.size + 1, 1, none⟩ = some (.int .i64 ns) := CB.cell hn' 1
                      have f301_n2 : wr.cell? ⟨wz.heap.size + 1, 2, none⟩ = some (.int .u8 nt) := CB.cell hn' 2
                      have f301_x0 : wr.cell? ⟨w4.heap.size, 0, none⟩ = some (.int .i64 xe) := CB.cell hx' 0
                      have z301_x0 : wr.frozen? ⟨w4.heap.size, 0, none⟩ = false := CB.frozen hx' 0
                      have f301_x1 : wr.cell? ⟨w4.heap.size, 1, none⟩ = some (.int .i64 xs) := CB.cell hx' 1
                      have z301_x1 : wr.frozen? ⟨w4.heap.size, 1, none⟩ = false := CB.frozen hx' 1
                      have f301_x2 : wr.cell? ⟨w4.heap.size, 2, none⟩ = some (.int .u8 xt) := CB.cell hx' 2
                      have z301_x2 : wr.frozen? ⟨w4.heap.size, 2, none⟩ = false := CB.frozen hx' 2
                      obtain ⟨V302, hV302, nV302, lV302, kV302⟩ := cb_end3 hx' (.int .i64 ne) (.int .i64 ns) (.int .u8 nt)
                      have HV302 := Lib.hid hV302
                      have mV302_n := kV302 _ _ _ (Ne.symm neW103_x) hn'
                      have oV302 := lV302 _ _ hb' (by omega)
                      clear hV302 lV302 kV302
                      clear hx' hn' hb'
                      go_wp2_with fail
                      rw [HV302.out]
                      go_roundw
                      case rel => exact ⟨k + 1, ne, ns, nt, ne, by omega, by go_num, rfl, nV302, HK.out, oV302⟩
                      case measure => simp [intOf]; omega
              · have s1 : (ns == 2) = false := by simp [h2]
                have HK := Lib.hid (show FwI ⟨ne, ns, nt⟩ g by have := HJ.out; rwa [if_neg h2] at this)
                clear h2 HJ
                have g1 : 0 ≤ g := HK.out.2.1
                have g2 : g ≤ 1048576 := HK.out.2.2.1
                by_cases h3 : (0 : Int) < g - 3
                ·
                  have f113_n0 : w110.cell? ⟨wz.heap.size + 1, 0, none⟩ = some (.int .i64 ne) := CB.cell r111_n 0
                  have f113_n1 : w110.cell? ⟨wz.heap.size + 1, 1, none⟩ = some (.int .i64 ns) := CB.cell r111_n 1
                  have f113_n2 : w110.cell? ⟨wz.heap.size + 1, 2, none⟩ = some (.int .u8 nt) := CB.cell r111_n 2
                  have f113_x0 : w110.cell? ⟨w4.heap.size, 0, none⟩ = some (.int .i64 xe) := CB.cell r111_x 0
                  have f113_x1 : w110.cell? ⟨w4.heap.size, 1, none⟩ = some (.int .i64 xs) := CB.cell r111_x 1
                  have f113_x2 : w110.cell? ⟨w4.heap.size, 2, none⟩ = some (.int .u8 xt) := CB.cell r111_x 2
                  go_wp2_with fail
                  clear f113_n0 f113_n1 f113_n2 f113_x0 f113_x1 f113_x2
                  go_loopw [11] (fun kv wr => ∃ j : Int, kv = .int .i64 j ∧ 0 ≤ j ∧ j ≤ g + 1 ∧ CB wr (wz.heap.size + 1) 27 #[.int .i64 ne, .int .i64 ns, .int .u8 nt] ∧ CB wr (w4.heap.size) 27 #[.int .i64 xe, .int .i64 xs, .int .u8 xt] ∧ Below w.heap.size w wr) (fun kv _ => (g + 1 - intOf kv).toNat)
                  case atStart => exact ⟨g - 3, rfl, by omega, by omega, r111_n, r111_x, l111⟩
                  case round =>
                    obtain ⟨j, rfl, hj0, hj1, hn', hx', hb'⟩ := hrel
                    clear r111_n r111_x r111_a l111
                    by_cases hle : j ≤ g
                    · have S1 := fun W => speaks_c ne ns nt j W
                      simp only [fw_mute HK.out j hle] at S1
                      by_cases hjp : 0 < j
                      ·
                        have f301_n0 : wr.cell? ⟨wz.heap.size + 1, 0, none⟩ = some (.int .i64 ne) := CB.cell hn' 0
                        have f301_n1 : wr.cell? ⟨wz.heap.size + 1, 1, none⟩ = some (.int .i64 ns) := CB.cell hn' 1
                        have f301_n2 : wr.cell? ⟨wz.heap.size + 1, 2, none⟩ = some (.int .u8 nt) := CB.cell hn' 2
                        go_wp2_with fail
                        refine (S1 _).mono ?_
                        rintro e w302 ⟨rfl, b302⟩
                        clear f301_n0 f301_n1 f301_n2
                        have r303_x := le_on hx' b302
                        have r303_n := le_on hn' b302
                        have l303 := le_tr hb' b302
                        clear hx' hn' hb'
                        clear b302
                        go_wp2_with fail
                        go_roundw
                        case rel => exact ⟨j + 1, by go_num, by omega, by omega, r303_n, r303_x, l303⟩
                        case measure => simp [intOf]; omega
                      ·
                        go_wp2_with fail
                        go_roundw
                        case rel => exact ⟨j + 1, by go_num, by omega, by omega, hn', hx', hb'⟩
                        case measure => simp [intOf]; omega
                    ·
                      have f301_n0 : wr.cell? ⟨wz.heap.size + 1, 0, none⟩ = some (.int .i64 ne) := CB.cell hn' 0
                      have f301_n1 : wr.cell? ⟨wz.heap.size + 1, 1, none⟩ = some (.int .i64 ns) := CB.cell hn' 1
                      have f301_n2 : wr.cell? ⟨wz.heap.size + 1, 2, none⟩ = some (.int .u8 nt) := CB.cell hn' 2
                      have f301_x0 : wr.cell? ⟨w4.heap.size, 0, none⟩ = some (.int .i64 xe) := CB.cell hx' 0
                      have z301_x0 : wr.frozen? ⟨w4.heap.size, 0, none⟩ = false := CB.frozen hx' 0
                      have f301_x1 : wr.cell? ⟨w4.heap.size, 1, none⟩ = some (.int .i64 xs) := CB.cell hx' 1
                      have z301_x1 : wr.frozen? ⟨w4.heap.size, 1, none⟩ = false := CB.frozen hx' 1
                      have f301_x2 : wr.cell? ⟨w4.heap.size, 2, none⟩ = some (.int .u8 xt) := CB.cell hx' 2
                      have z301_x2 : wr.frozen? ⟨w4.heap.size, 2, none⟩ = false := CB.frozen hx' 2
                      obtain ⟨V302, hV302, nV302, lV302, kV302⟩ := cb_end3 hx' (.int .i64 ne) (.int .i64 ns) (.int .u8 nt)
                      have HV302 := Lib.hid hV302
                      have mV302_n := kV302 _ _ _ (Ne.symm neW103_x) hn'
                      have oV302 := lV302 _ _ hb' (by omega)
                      clear hV302 lV302 kV302
                      clear hx' hn' hb'
                      go_wp2_with fail
                      rw [HV302.out]
                      go_roundw
                      case rel => exact ⟨k + 1, ne, ns, nt, g, by omega, by go_num, rfl, nV302, HK.out, oV302⟩
                      case measure => simp [intOf]; omega
                ·
                  have f113_n0 : w110.cell? ⟨wz.heap.size + 1, 0, none⟩ = some (.int .i64 ne) := CB.cell r111_n 0
                  have f113_n1 : w110.cell? ⟨wz.heap.size + 1, 1, none⟩ = some (.int .i64 ns) := CB.cell r111_n 1
                  have f113_n2 : w110.cell? ⟨wz.heap.size + 1, 2, none⟩ = some (.int .u8 nt) := CB.cell r111_n 2
                  have f113_x0 : w110.cell? ⟨w4.heap.size, 0, none⟩ = some (.int .i64 xe) := CB.cell r111_x 0
                  have f113_x1 : w110.cell? ⟨w4.heap.size, 1, none⟩ = some (.int .i64 xs) := CB.cell r111_x 1
                  have f113_x2 : w110.cell? ⟨w4.heap.size, 2, none⟩ = some (.int .u8 xt) := CB.cell r111_x 2
                  go_wp2_with fail
                  clear f113_n0 f113_n1 f113_n2 f113_x0 f113_x1 f113_x2
                  go_loopw [11] (fun kv wr => ∃ j : Int, kv = .int .i64 j ∧ 0 ≤ j ∧ j ≤ g + 1 ∧ CB wr (wz.heap.size + 1) 27 #[.int .i64 ne, .int .i64 ns, .int .u8 nt] ∧ CB wr (w4.heap.size) 27 #[.int .i64 xe, .int .i64 xs, .int .u8 xt] ∧ Below w.heap.size w wr) (fun kv _ => (g + 1 - intOf kv).toNat)
                  case atStart => exact ⟨0, rfl, by omega, by omega, r111_n, r111_x, l111⟩
                  case round =>
                    obtain ⟨j, rfl, hj0, hj1, hn', hx', hb'⟩ := hrel
                    clear r111_n r111_x r111_a l111
                    by_cases hle : j ≤ g
                    · have S1 := fun W => speaks_c ne ns nt j W
                      simp only [fw_mute HK.out j hle] at S1
                      by_cases hjp : 0 < j
                      ·
                        have f301_n0 : wr.cell? ⟨wz.heap.size + 1, 0, none⟩ = some (.int .i64 ne) := CB.cell hn' 0
                        have f301_n1 : wr.cell? ⟨wz.heap.size + 1, 1, none⟩ = some (.int .i64 ns) := CB.cell hn' 1
                        have f301_n2 : wr.cell? ⟨wz.heap.size + 1, 2, none⟩ = some (.int .u8 nt) := CB.cell hn' 2
                        go_wp2_with fail
                        refine (S1 _).mono ?_
                        rintro e w302 ⟨rfl, b302⟩
                        clear f301_n0 f301_n1 f301_n2
                        have r303_x := le_on hx' b302
                        have r303_n := le_on hn' b302
                        have l303 := le_tr hb' b302
                        clear hx' hn' hb'
                        clear b302
                        go_wp2_with fail
                        go_roundw
                        case rel => exact ⟨j + 1, by go_num, by omega, by omega, r303_n, r303_x, l303⟩
                        case measure => simp [intOf]; omega
                      ·
                        go_wp2_with fail
                        go_roundw
                        case rel => exact ⟨j + 1, by go_num, by omega, by omega, hn', hx', hb'⟩
                        case measure => simp [intOf]; omega
                    ·
                      have f301_n0 : wr.cell? ⟨wz.heap.size + 1, 0, none⟩ = some (.int .i64 ne) := CB.cell hn' 0
                      have f301_n1 : wr.cell? ⟨wz.heap.size + 1, 1, none⟩ = some (.int .i64 ns) := CB.cell hn' 1
                      have f301_n2 : wr.cell? ⟨wz.heap.size + 1, 2, none⟩ = some (.int .u8 nt) := CB.cell hn' 2
                      have f301_x0 : wr.cell? ⟨w4.heap.size, 0, none⟩ = some (.int .i64 xe) := CB.cell hx' 0
                      have z301_x0 : wr.frozen? ⟨w4.heap.size, 0, none⟩ = false := CB.frozen hx' 0
                      have f301_x1 : wr.cell? ⟨w4.heap.size, 1, none⟩ = some (.int .i64 xs) := CB.cell hx' 1
                      have z301_x1 : wr.frozen? ⟨w4.heap.size, 1, none⟩ = false := CB.frozen hx' 1
                      have f301_x2 : wr.cell? ⟨w4.heap.size, 2, none⟩ = some (.int .u8 xt) := CB.cell hx' 2
                      have z301_x2 : wr.frozen? ⟨w4.heap.size, 2, none⟩ = false := CB.frozen hx' 2
                      obtain ⟨V302, hV302, nV302, lV302, kV302⟩ := cb_end3 hx' (.int .i64 ne) (.int .i64 ns) (.int .u8 nt)
                      have HV302 := Lib.hid hV302
                      have mV302_n := kV302 _ _ _ (Ne.symm neW103_x) hn'
                      have oV302 := lV302 _ _ hb' (by omega)
                      clear hV302 lV302 kV302
                      clear hx' hn' hb'
                      go_wp2_with fail
                      rw [HV302.out]
                      go_roundw
                      case rel => exact ⟨k + 1, ne, ns, nt, g, by omega, by go_num, rfl, nV302, HK.out, oV302⟩
                      case measure => simp [intOf]; omega
            · have z1 : ((kx : Int) != 0) = true := by simp [hkz]
              have hsame := HS.out.same hkz
              simp only [Ls.mk.injEq] at hsame
              obtain ⟨y1, y2, y3⟩ := hsame
              have z2 : (ne != xe) = false := by simp [y1]
              have z3 : (ns != xs) = false := by simp [y2]
              have z4 : (nt != xt) = false := by simp [y3]
              have z5 : (ne == xe) = true := by simp [y1]
              have z6 : (ns == xs) = true := by simp [y2]
              have z7 : (nt == xt) = true := by simp [y3]
              clear y1 y2 y3 hkz
              have f109_n0 : ((((w106).setCell ⟨wz.heap.size + 1, 0, none⟩ (.int .i64 ne)).setCell ⟨wz.heap.size + 1, 1, none⟩ (.int .i64 ns)).setCell ⟨wz.heap.size + 1, 2, none⟩ (.int .u8 nt)).cell? ⟨wz.heap.size + 1, 0, none⟩ = some (.int .i64 ne) := by rw [HV108.out]; exact CB.cell nV108 0
              have f109_n1 : ((((w106).setCell ⟨wz.heap.size + 1, 0, none⟩ (.int .i64 ne)).setCell ⟨wz.heap.size + 1, 1, none⟩ (.int .i64 ns)).setCell ⟨wz.heap.size + 1, 2, none⟩ (.int .u8 nt)).cell? ⟨wz.heap.size + 1, 1, none⟩ = some (.int .i64 ns) := by rw [HV108.out]; exact CB.cell nV108 1
              have f109_n2 : ((((w106).setCell ⟨wz.heap.size + 1, 0, none⟩ (.int .i64 ne)).setCell ⟨wz.heap.size + 1, 1, none⟩ (.int .i64 ns)).setCell ⟨wz.heap.size + 1, 2, none⟩ (.int .u8 nt)).cell? ⟨wz.heap.size + 1, 2, none⟩ = some (.int .u8 nt) := by rw [HV108.out]; exact CB.cell nV108 2
              have f109_x0 : ((((w106).setCell ⟨wz.heap.size + 1, 0, none⟩ (.int .i64 ne)).setCell ⟨wz.heap.size + 1, 1, none⟩ (.int .i64 ns)).setCell ⟨wz.heap.size + 1, 2, none⟩ (.int .u8 nt)).cell? ⟨w4.heap.size, 0, none⟩ = some (.int .i64 xe) := by rw [HV108.out]; exact CB.cell mV108_x 0
              have f109_x1 : ((((w106).setCell ⟨wz.heap.size + 1, 0, none⟩ (.int .i64 ne)).setCell ⟨wz.heap.size + 1, 1, none⟩ (.int .i64 ns)).setCell ⟨wz.heap.size + 1, 2, none⟩ (.int .u8 nt)).cell? ⟨w4.heap.size, 1, none⟩ = some (.int .i64 xs) := by rw [HV108.out]; exact CB.cell mV108_x 1
              have f109_x2 : ((((w106).setCell ⟨wz.heap.size + 1, 0, none⟩ (.int .i64 ne)).setCell ⟨wz.heap.size + 1, 1, none⟩ (.int .i64 ns)).setCell ⟨wz.heap.size + 1, 2, none⟩ (.int .u8 nt)).cell? ⟨w4.heap.size, 2, none⟩ = some (.int .u8 xt) := by rw [HV108.out]; exact CB.cell mV108_x 2
              go_wp2_with fail
              rw [HV108.out]
              refine (R1 _).mono ?_
              rintro e w110 ⟨rfl, b110⟩
              clear f107_n0 z107_n0 f107_n1 z107_n1 f107_n2 z107_n2 f109_n0 f109_n1 f109_n2 f109_x0 f109_x1 f109_x2
              have r111_x := le_on mV108_x b110
              have r111_a := le_on mV108_a b110
              have r111_n := le_on nV108 b110
              have l111 := le_tr oV108 b110
              clear mV108_x mV108_a nV108 oV108
              clear b110
              by_cases h2 : ns = 2
              · have s1 : (ns == 2) = true := by simp [h2]
                have HK := Lib.hid (show FwI ⟨ne, ns, nt⟩ ne by have := HJ.out; rwa [if_pos h2] at this)
                clear h2 HJ
                have g1 : 0 ≤ ne := HK.out.2.1
                have g2 : ne ≤ 1048576 := HK.out.2.2.1
                by_cases h3 : (0 : Int) < ne - 3
                ·
                  have f113_n0 : w110.cell? ⟨wz.heap.size + 1, 0, none⟩ = some (.int .i64 ne) := CB.cell r111_n 0
                  have f113_n1 : w110.cell? ⟨wz.heap.size + 1, 1, none⟩ = some (.int .i64 ns) := CB.cell r111_n 1
                  have f113_n2 : w110.cell? ⟨wz.heap.size + 1, 2, none⟩ = some (.int .u8 nt) := CB.cell r111_n 2
                  have f113_x0 : w110.cell? ⟨w4.heap.size, 0, none⟩ = some (.int .i64 xe) := CB.cell r111_x 0
                  have f113_x1 : w110.cell? ⟨w4.heap.size, 1, none⟩ = some (.int .i64 xs) := CB.cell r111_x 1
                  have f113_x2 : w110.cell? ⟨w4.heap.size, 2, none⟩ = some (.int .u8 xt) := CB.cell r111_x 2
                  go_wp2_with fail
                  clear f113_n0 f113_n1 f113_n2 f113_x0 f113_x1 f113_x2
                  go_loopw [11] (fun kv wr => ∃ j : Int, kv = .int .i64 j ∧ 0 ≤ j ∧ j ≤ ne + 1 ∧ CB wr (wz.heap.size + 1) 27 #[.int .i64 ne, .int .i64 ns, .int .u8 nt] ∧ CB wr (w4.heap.size) 27 #[.int .i64 xe, .int .i64 xs, .int .u8 xt] ∧ Below w.heap.size w wr) (fun kv _ => (ne + 1 - intOf kv).toNat)
                  case atStart => exact ⟨ne - 3, rfl, by omega, by omega, r111_n, r111_x, l111⟩
                  case round =>
                    obtain ⟨j, rfl, hj0, hj1, hn', hx', hb'⟩ := hrel
                    clear r111_n r111_x r111_a l111
                    by_cases hle : j ≤ ne
                    · have S1 := fun W => speaks_c ne ns nt j W
                      simp only [fw_mute HK.out j hle] at S1
                      by_cases hjp : 0 < j
                      ·
                        have f301_n0 : wr.cell? ⟨wz.heap.size + 1, 0, none⟩ = some (.int .i64 ne) := CB.cell hn' 0
                        have f301_n1 : wr.cell? ⟨wz.heap.size + 1, 1, none⟩ = some (.int .i64 ns) := CB.cell hn' 1
                        have f301_n2 : wr.cell? ⟨wz.heap.size + 1, 2, none⟩ = some (.int .u8 nt) := CB.cell hn' 2
                        go_wp2_with fail
                        refine (S1 _).mono ?_
                        rintro e w302 ⟨rfl, b302⟩
                        clear f301_n0 f301_n1 f301_n2
                        have r303_x := le_on hx' b302
                        have r303_n := le_on hn' b302
                        have l303 := le_tr hb' b302
                        clear hx' hn' hb'
                        clear b302
                        go_wp2_with fail
                        go_roundw
                        case rel => exact ⟨j + 1, by go_num, by omega, by omega, r303_n, r303_x, l303⟩
                        case measure => simp [intOf]; omega
                      ·
                        go_wp2_with fail
                        go_roundw
                        case rel => exact ⟨j + 1, by go_num, by omega, by omega, hn', hx', hb'⟩
                        case measure => simp [intOf]; omega
                    ·
                      have f301_n0 : wr.cell? ⟨wz.heap.size + 1, 0, none⟩ = some (.int .i64 ne) := CB.cell hn' 0
                      have f301_n1 : wr.cell? ⟨wz.heap.size + 1, 1, none⟩ = some (.int .i64 ns) := CB.cell hn' 1
                      have f301_n2 : wr.cell? ⟨wz.heap.size + 1, 2, none⟩ = some (.int .u8 nt) := CB.cell hn' 2
                      have f301_x0 : wr.cell? ⟨w4.heap.size, 0, none⟩ = some (.int .i64 xe) := CB.cell hx' 0
                      have z301_x0 : wr.frozen? ⟨w4.heap.size, 0, none⟩ = false := CB.frozen hx' 0
                      have f301_x1 : wr.cell? ⟨w4.heap.size, 1, none⟩ = some (.int .i64 xs) := CB.cell hx' 1
                      have z301_x1 : wr.frozen? ⟨w4.heap.size, 1, none⟩ = false := CB.frozen hx' 1
                      have f301_x2 : wr.cell? ⟨w4.heap.size, 2, none⟩ = some (.int .u8 xt) := CB.cell hx' 2
                      have z301_x2 : wr.frozen? ⟨w4.heap.size, 2, none⟩ = false := CB.frozen hx' 2
                      obtain ⟨V302, hV302, nV302, lV302, kV302⟩ := cb_end3 hx' (.int .i64 ne) (.int .i64 ns) (.int .u8 nt)
                      have HV302 := Lib.hid hV302
                      have mV302_n := kV302 _ _ _ (Ne.symm neW103_x) hn'
                      have oV302 := lV302 _ _ hb' (by omega)
                      clear hV302 lV302 kV302
                      clear hx' hn' hb'
                      go_wp2_with fail
                      rw [HV302.out]
                      go_roundw
                      case rel => exact ⟨k + 1, ne, ns, nt, ne, by omega, by go_num, rfl, nV302, HK.out, oV302⟩
                      case measure => simp [intOf]; omega
                ·
                  have f113_n0 : w110.cell? ⟨wz.heap.size + 1, 0, none⟩ = some (.int .i64 ne) := CB.cell r111_n 0
                  have f113_n1 : w110.cell? ⟨wz.heap.size + 1, 1, none⟩ = some (.int .i64 ns) := CB.cell r111_n 1
                  have f113_n2 : w110.cell? ⟨wz.heap.size + 1, 2, none⟩ = some (.int .u8 nt) := CB.cell r111_n 2
                  have f113_x0 : w110.cell? ⟨w4.heap.size, 0, none⟩ = some (.int .i64 xe) := CB.cell r111_x 0
                  have f113_x1 : w110.cell? ⟨w4.heap.size, 1, none⟩ = some (.int .i64 xs) := CB.cell r111_x 1
                  have f113_x2 : w110.cell? ⟨w4.heap.size, 2, none⟩ = some (.int .u8 xt) := CB.cell r111_x 2
                  go_wp2_with fail
                  clear f113_n0 f113_n1 f113_n2 f113_x0 f113_x1 f113_x2
                  go_loopw [11] (fun kv wr => ∃ j : Int, kv = .int .i64 j ∧ 0 ≤ j ∧ j ≤ ne + 1 ∧ CB wr (wz.heap.size + 1) 27 #[.int .i64 ne, .int .i64 ns, .int .u8 nt] ∧ CB wr (w4.heap.size) 27 #[.int .i64 xe, .int .i64 xs, .int .u8 xt] ∧ Below w.heap.size w wr) (fun kv _ => (ne + 1 - intOf kv).toNat)
                  case atStart => exact ⟨0, rfl, by omega, by omega, r111_n, r111_x, l111⟩
                  case round =>
                    obtain ⟨j, rfl, hj0, hj1, hn', hx', hb'⟩ := hrel
                    clear r111_n r111_x r111_a l111
                    by_cases hle : j ≤ ne
                    · have S1 := fun W => speaks_c ne ns nt j W
                      simp only [fw_mute HK.out j hle] at S1
                      by_cases hjp : 0 < j
                      ·
                        have f301_n0 : wr.cell? ⟨wz.heap.size + 1, 0, none⟩ = some (.int .i64 ne) := CB.cell hn' 0
                        have f301_n1 : wr.cell? ⟨wz.heap.size + 1, 1, none⟩ = some (.int .i64 ns) := CB.cell hn' 1
                        have f301_n2 : wr.cell? ⟨wz.heap.size + 1, 2, none⟩ = some (.int .u8 nt) := CB.cell hn' 2
                        go_wp2_with fail
                        refine (S1 _).mono ?_
                        rintro e w302 ⟨rfl, b302⟩
                        clear f301_n0 f301_n1 f301_n2
                        have r303_x := le_on hx' b302
                        have r303_n := le_on hn' b302
                        have l303 := le_tr hb' b302
                        clear hx' hn' hb'
                        clear b302
                        go_wp2_with fail
                        go_roundw
                        case rel => exact ⟨j + 1, by go_num, by omega, by omega, r303_n, r303_x, l303⟩
                        case measure => simp [intOf]; omega
                      ·
                        go_wp2_with fail
                        go_roundw
                        case rel => exact ⟨j + 1, by go_num, by omega, by omega, hn', hx', hb'⟩
                        case measure => simp [intOf]; omega
                    ·
                      have f301_n0 : wr.cell? ⟨wz.heap.size + 1, 0, none⟩ = some (.int .i64 ne) := CB.cell hn' 0
                      have f301_n1 : wr.cell? ⟨wz.heap.size + 1, 1, none⟩ = some (.int .i64 ns) := CB.cell hn' 1
                      have f301_n2 : wr.cell? ⟨wz.heap.size + 1, 2, none⟩ = some (.int .u8 nt) := CB.cell hn' 2
                      have f301_x0 : wr.cell? ⟨w4.heap.size, 0, none⟩ = some (.int .i64 xe) := CB.cell hx' 0
                      have z301_x0 : wr.frozen? ⟨w4.heap.size, 0, none⟩ = false := CB.frozen hx' 0
                      have f301_x1 : wr.cell? ⟨w4.heap.size, 1, none⟩ = some (.int .i64 xs) := CB.cell hx' 1
                      have z301_x1 : wr.frozen? ⟨w4.heap.size, 1, none⟩ = false := CB.frozen hx' 1
                      have f301_x2 : wr.cell? ⟨w4.heap.size, 2, none⟩ = some (.int .u8 xt) := CB.cell hx' 2
                      have z301_x2 : wr.frozen? ⟨w4.heap.size, 2, none⟩ = false := CB.frozen hx' 2
                      obtain ⟨V302, hV302, nV302, lV302, kV302⟩ := cb_end3 hx' (.int .i64 ne) (.int .i64 ns) (.int .u8 nt)
                      have HV302 := Lib.hid hV302
                      have mV302_n := kV302 _ _ _ (Ne.symm neW103_x) hn'
                      have oV302 := lV302 _ _ hb' (by omega)
                      clear hV302 lV302 kV302
                      clear hx' hn' hb'
                      go_wp2_with fail
                      rw [HV302.out]
                      go_roundw
                      case rel => exact ⟨k + 1, ne, ns, nt, ne, by omega, by go_num, rfl, nV302, HK.out, oV302⟩
                      case measure => simp [intOf]; omega
              · have s1 : (ns == 2) = false := by simp [h2]
                have HK := Lib.hid (show FwI ⟨ne, ns, nt⟩ g by have := HJ.out; rwa [if_neg h2] at this)
                clear h2 HJ
                have g1 : 0 ≤ g := HK.out.2.1
                have g2 : g ≤ 1048576 := HK.out.2.2.1
                by_cases h3 : (0 : Int) < g - 3
                ·
                  have f113_n0 : w110.cell? ⟨wz.heap.size + 1, 0, none⟩ = some (.int .i64 ne) := CB.cell r111_n 0
                  have f113_n1 : w110.cell? ⟨wz.heap.size + 1, 1, none⟩ = some (.int .i64 ns) := CB.cell r111_n 1
                  have f113_n2 : w110.cell? ⟨wz.heap.size + 1, 2, none⟩ = some (.int .u8 nt) := CB.cell r111_n 2
                  have f113_x0 : w110.cell? ⟨w4.heap.size, 0, none⟩ = some (.int .i64 xe) := CB.cell r111_x 0
                  have f113_x1 : w110.cell? ⟨w4.heap.size, 1, none⟩ = some (.int .i64 xs) := CB.cell r111_x 1
                  have f113_x2 : w110.cell? ⟨w4.heap.size, 2, none⟩ = some (.int .u8 xt) := CB.cell r111_x 2
                  go_wp2_with fail
                  clear f113_n0 f113_n1 f113_n2 f113_x0 f113_x1 f113_x2
                  go_loopw [11] (fun kv wr => ∃ j : Int, kv = .int .i64 j ∧ 0 ≤ j ∧ j ≤ g + 1 ∧ CB wr (wz.heap.size + 1) 27 #[.int .i64 ne, .int .i64 ns, .int .u8 nt] ∧ CB wr (w4.heap.size) 27 #[.int .i64 xe, .int .i64 xs, .int .u8 xt] ∧ Below w.heap.size w wr) (fun kv _ => (g + 1 - intOf kv).toNat)
                  case atStart => exact ⟨g - 3, rfl, by omega, by omega, r111_n, r111_x, l111⟩
                  case round =>
                    obtain ⟨j, rfl, hj0, hj1, hn', hx', hb'⟩ := hrel
                    clear r111_n r111_x r111_a l111
                    by_cases hle : j ≤ g
                    · have S1 := fun W => speaks_c ne ns nt j W
                      simp only [fw_mute HK.out j hle] at S1
                      by_cases hjp : 0 < j
                      ·
                        have f301_n0 : wr.cell? ⟨wz.heap.size + 1, 0, none⟩ = some (.int .i64 ne) := CB.cell hn' 0
                        have f301_n1 : wr.cell? ⟨wz.heap.size + 1, 1, none⟩ = some (.int .i64 ns) := CB.cell hn' 1
                        have f301_n2 : wr.cell? ⟨wz.heap.size + 1, 2, none⟩ = some (.int .u8 nt) := CB.cell hn' 2
                        go_wp2_with fail
                        refine (S1 _).mono ?_
                        rintro e w302 ⟨rfl, b302⟩
                        clear f301_n0 f301_n1 f301_n2
                        have r303_x := le_on hx' b302
                        have r303_n := le_on hn' b302
                        have l303 := le_tr hb' b302
                        clear hx' hn' hb'
                        clear b302
                        go_wp2_with fail
                        go_roundw
                        case rel => exact ⟨j + 1, by go_num, by omega, by omega, r303_n, r303_x, l303⟩
                        case measure => simp [intOf]; omega
                      ·
                        go_wp2_with fail
                        go_roundw
                        case rel => exact ⟨j + 1, by go_num, by omega, by omega, hn', hx', hb'⟩
                        case measure => simp [intOf]; omega
                    ·
                      have f301_n0 : wr.cell? ⟨wz.heap.size + 1, 0, none⟩ = some (.int .i64 ne) := CB.cell hn' 0
                      have f301_n1 : wr.cell? ⟨wz.heap.size + 1, 1, none⟩ = some (.int .i64 ns) := CB.cell hn' 1
                      have f301_n2 : wr.cell? ⟨wz.heap.size + 1, 2, none⟩ = some (.int .u8 nt) := CB.cell hn' 2
                      have f301_x0 : wr.cell? ⟨w4.heap.size, 0, none⟩ = some (.int .i64 xe) := CB.cell hx' 0
                      have z301_x0 : wr.frozen? ⟨w4.heap.size, 0, none⟩ = false := CB.frozen hx' 0
                      have f301_x1 : wr.cell? ⟨w4.heap.size, 1, none⟩ = some (.int .i64 xs) := CB.cell hx' 1
                      have z301_x1 : wr.frozen? ⟨w4.heap.size, 1, none⟩ = false := CB.frozen hx' 1
                      have f301_x2 : wr.cell? ⟨w4.heap.size, 2, none⟩ = some (.int .u8 xt) := CB.cell hx' 2
                      have z301_x2 : wr.frozen? ⟨w4.heap.size, 2, none⟩ = false := CB.frozen hx' 2
                      obtain ⟨V302, hV302, nV302, lV302, kV302⟩ := cb_end3 hx' (.int .i64 ne) (.int .i64 ns) (.int .u8 nt)
                      have HV302 := Lib.hid hV302
                      have mV302_n := kV302 _ _ _ (Ne.symm neW103_x) hn'
                      have oV302 := lV302 _ _ hb' (by omega)
                      clear hV302 lV302 kV302
                      clear hx' hn' hb'
                      go_wp2_with fail
                      rw [HV302.out]
                      go_roundw
                      case rel => exact ⟨k + 1, ne, ns, nt, g, by omega, by go_num, rfl, nV302, HK.out, oV302⟩
                      case measure => simp [intOf]; omega
                ·
                  have f113_n0 : w110.cell? ⟨wz.heap.size + 1, 0, none⟩ = some (.int .i64 ne) := CB.cell r111_n 0
                  have f113_n1 : w110.cell? ⟨wz.heap.size + 1, 1, none⟩ = some (.int .i64 ns) := CB.cell r111_n 1
                  have f113_n2 : w110.cell? ⟨wz.heap.size + 1, 2, none⟩ = some (.int .u8 nt) := CB.cell r111_n 2
                  have f113_x0 : w110.cell? ⟨w4.heap.size, 0, none⟩ = some (.int .i64 xe) := CB.cell r111_x 0
                  have f113_x1 : w110.cell? ⟨w4.heap.size, 1, none⟩ = some (.int .i64 xs) := CB.cell r111_x 1
                  have f113_x2 : w110.cell? ⟨w4.heap.size, 2, none⟩ = some (.int .u8 xt) := CB.cell r111_x 2
                  go_wp2_with fail
                  clear f113_n0 f113_n1 f113_n2 f113_x0 f113_x1 f113_x2
                  go_loopw [11] (fun kv wr => ∃ j : Int, kv = .int .i64 j ∧ 0 ≤ j ∧ j ≤ g + 1 ∧ CB wr (wz.heap.size + 1) 27 #[.int .i64 ne, .int .i64 ns, .int .u8 nt] ∧ CB wr (w4.heap.size) 27 #[.int .i64 xe, .int .i64 xs, .int .u8 xt] ∧ Below w.heap.size w wr) (fun kv _ => (g + 1 - intOf kv).toNat)
                  case atStart => exact ⟨0, rfl, by omega, by omega, r111_n, r111_x, l111⟩
                  case round =>
                    obtain ⟨j, rfl, hj0, hj1, hn', hx', hb'⟩ := hrel
                    clear r111_n r111_x r111_a l111
                    by_cases hle : j ≤ g
                    · have S1 := fun W => speaks_c ne ns nt j W
                      simp only [fw_mute HK.out j hle] at S1
                      by_cases hjp : 0 < j
                      ·
                        have f301_n0 : wr.cell? ⟨wz.heap.size + 1, 0, none⟩ = some (.int .i64 ne) := CB.cell hn' 0
                        have f301_n1 : wr.cell? ⟨wz.heap.size + 1, 1, none⟩ = some (.int .i64 ns) := CB.cell hn' 1
                        have f301_n2 : wr.cell? ⟨wz.heap.size + 1, 2, none⟩ = some (.int .u8 nt) := CB.cell hn' 2
                        go_wp2_with fail
                        refine (S1 _).mono ?_
                        rintro e w302 ⟨rfl, b302⟩
                        clear f301_n0 f301_n1 f301_n2
                        have r303_x := le_on hx' b302
                        have r303_n := le_on hn' b302
                        have l303 := le_tr hb' b302
                        clear hx' hn' hb'
                        clear b302
                        go_wp2_with fail
                        go_roundw
                        case rel => exact ⟨j + 1, by go_num, by omega, by omega, r303_n, r303_x, l303⟩
                        case measure => simp [intOf]; omega
                      ·
                        go_wp2_with fail
                        go_roundw
                        case rel => exact ⟨j + 1, by go_num, by omega, by omega, hn', hx', hb'⟩
                        case measure => simp [intOf]; omega
                    ·
                      have f301_n0 : wr.cell? ⟨wz.heap.size + 1, 0, none⟩ = some (.int .i64 ne) := CB.cell hn' 0
                      have f301_n1 : wr.cell? ⟨wz.heap.size + 1, 1, none⟩ = some (.int .i64 ns) := CB.cell hn' 1
                      have f301_n2 : wr.cell? ⟨wz.heap.size + 1, 2, none⟩ = some (.int .u8 nt) := CB.cell hn' 2
                      have f301_x0 : wr.cell? ⟨w4.heap.size, 0, none⟩ = some (.int .i64 xe) := CB.cell hx' 0
                      have z301_x0 : wr.frozen? ⟨w4.heap.size, 0, none⟩ = false := CB.frozen hx' 0
                      have f301_x1 : wr.cell? ⟨w4.heap.size, 1, none⟩ = some (.int .i64 xs) := CB.cell hx' 1
                      have z301_x1 : wr.frozen? ⟨w4.heap.size, 1, none⟩ = false := CB.frozen hx' 1
                      have f301_x2 : wr.cell? ⟨w4.heap.size, 2, none⟩ = some (.int .u8 xt) := CB.cell hx' 2
                      have z301_x2 : wr.frozen? ⟨w4.heap.size, 2, none⟩ = false := CB.frozen hx' 2
                      obtain ⟨V302, hV302, nV302, lV302, kV302⟩ := cb_end3 hx' (.int .i64 ne) (.int .i64 ns) (.int .u8 nt)
                      have HV302 := Lib.hid hV302
                      have mV302_n := kV302 _ _ _ (Ne.symm neW103_x) hn'
                      have oV302 := lV302 _ _ hb' (by omega)
                      clear hV302 lV302 kV302
                      clear hx' hn' hb'
                      go_wp2_with fail
                      rw [HV302.out]
                      go_roundw
                      case rel => exact ⟨k + 1, ne, ns, nt, g, by omega, by go_num, rfl, nV302, HK.out, oV302⟩
                      case measure => simp [intOf]; omega
        · obtain rfl : k = n := by omega
          go_wp2_with fail
          go_ret
          exact ⟨rfl, hbw⟩
end Go.Proofs.Ytpdjcbigbgoioaa
