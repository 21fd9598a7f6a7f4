/-
  A play's round where what comes is answered once, and that answer no more. Conditions: these.
-/
import Derived.Test.YtmghckddofefkaaHaV
set_option linter.unusedVariables false
set_option linter.unusedSimpArgs false
namespace Go.Proofs.Ytmghckddofefkaa
open Go.RowKit


theorem seg_one {w : World} {T : TypeId} {g : Nat} {kd fr t e : Int} {mg : ByteArray} (h : CB w g T #[.int .i64 kd, .int .u8 fr, .int .u8 t, .int .i64 e, .string mg]) : Seg w T 5 (some ⟨g, 0, none⟩) 1 1 (rc mc [⟨kd, fr, t, e, mg⟩]) (some g) := by
  refine ⟨by simp [rc, mc], Nat.le_refl _, by decide, .inr ⟨g, 0, _, rfl, rfl, h, by simp, fun j u hu => ?_⟩⟩
  simp only [rc, List.flatMap_cons, List.flatMap_nil, List.append_nil, mc] at hu
  simpa using hu

theorem todo_end {w wz D V4 : World} {B P m' q' n q bm : Nat} {S : Nat → Sd} {A A' : Option Addr} {xs ys : List Value} {G G' : Option Nat} {c : ByteArray} {M : List (Int × Int)} (hw : Below B wz D) (hBz : B ≤ wz.heap.size) (hp : PM D P S (.slice A n q) c bm) (hs : Seg D 37 5 A n q xs G) (hm : MH D bm M)
    (ht : Seg D 37 5 A' m' q' ys G') (g4 : D.grownBy V4 G') (hGl : ∀ g, G = some g → g < w.heap.size) (hbl : bm < w.heap.size) (hG' : ∀ g, G' = some g → w.heap.size ≤ g) (hBw : B ≤ w.heap.size) :
    PM V4 P S (.slice A n q) c bm ∧ Seg V4 37 5 A n q xs G ∧ MH V4 bm M ∧ Below B wz V4 := by
  have hbP : G' ≠ some P := Seg.offPlay ht hp
  refine ⟨AN.same hp (g4.block P (PM.lt hp) (fun e => hbP e.symm)), hs.keep fun g hg => g4.block g (hs.lt g hg) (fun e => by have h1 := hGl g hg; have h2 := hG' g e.symm; omega), hm.same (g4.block bm hm.lt (fun e => by have h2 := hG' bm e.symm; omega)), hw.trans (grown_below g4 (Nat.le_trans hBz hw.size) (fun g e => Nat.le_trans hBw (hG' g e)))⟩
/-- A message comes to k0, its answer to k1, and that is answered no more. -/
structure Rd (S : Nat → Sd) (m0 m1 : Mg) (k0 k1 : Nat) : Prop where
  t0 : m0.to = k0
  l0 : k0 < 4
  t1 : m1.to = k1
  l1 : k1 < 4
  r0 : (hearM (S k0) m0).r = [m1]
  r1 : (hearM (updS S k0 (hearM (S k0) m0).s k1) m1).r = []
def rdS (S : Nat → Sd) (m0 m1 : Mg) (k0 k1 : Nat) : Nat → (Nat → Sd)
  | 0 => S
  | 1 => updS S k0 (hearM (S k0) m0).s
  | _ => updS (updS S k0 (hearM (S k0) m0).s) k1 (hearM (updS S k0 (hearM (S k0) m0).s k1) m1).s
def rdT (m0 m1 : Mg) : Nat → List Mg
  | 0 => [m0]
  | _ => [m0, m1]
theorem Rd.at_ {S : Nat → Sd} {m0 m1 : Mg} {k0 k1 : Nat} (h : Rd S m0 m1 k0 k1) {u : Nat} (hu : u < 2) : ∃ (k : Nat) (kd fr e : Int) (mg : ByteArray), k < 4 ∧ (rdT m0 m1 u)[u]? = some ⟨kd, fr, (k : Int), e, mg⟩ ∧ rdS S m0 m1 k0 k1 (u + 1) = updS (rdS S m0 m1 k0 k1 u) k (hearM (rdS S m0 m1 k0 k1 u k) ⟨kd, fr, (k : Int), e, mg⟩).s ∧ rdT m0 m1 (u + 1) = rdT m0 m1 u ++ (hearM (rdS S m0 m1 k0 k1 u k) ⟨kd, fr, (k : Int), e, mg⟩).r ∧ (rdT m0 m1 u).length = u + 1 := by
  obtain ⟨t0, l0, t1, l1, r0, r1⟩ := h
  have e0 : m0 = ⟨m0.kd, m0.fr, (k0 : Int), m0.ep, m0.cg⟩ := by rw [← t0]
  have e1 : m1 = ⟨m1.kd, m1.fr, (k1 : Int), m1.ep, m1.cg⟩ := by rw [← t1]
  match u, hu with
  | 0, _ =>
    refine ⟨k0, m0.kd, m0.fr, m0.ep, m0.cg, l0, ?_, ?_, ?_, rfl⟩
    · rw [← e0]; rfl
    · rw [← e0]; rfl
    · rw [← e0]; show [m0, m1] = [m0] ++ (hearM (S k0) m0).r; rw [r0]; rfl
  | 1, _ =>
    refine ⟨k1, m1.kd, m1.fr, m1.ep, m1.cg, l1, ?_, ?_, ?_, rfl⟩
    · rw [← e1]; rfl
    · rw [← e1]; rfl
    · rw [← e1]; show [m0, m1] = [m0, m1] ++ (hearM (updS S k0 (hearM (S k0) m0).s k1) m1).r; rw [r1]; rfl
set_option maxRecDepth 100000 in
set_option maxHeartbeats 8000000 in
theorem round_c (B P : Nat) (S : Nat → Sd) (L : List Mg) (c : ByteArray) (M : List (Int × Int)) (m0 m1 : Mg) (k0 k1 : Nat) (w : World) (h : PL B w P S L c M) (hB : B ≤ w.heap.size) (hr : Rd S m0 m1 k0 k1) : Calls Try.prog 25 #[.pointer (some ⟨P, 0, none⟩), .agg #[.int .i64 m0.kd, .int .u8 m0.fr, .int .u8 m0.to, .int .i64 m0.ep, .string m0.cg]] w (PPost B w P (rdS S m0 m1 k0 k1 2) L c M) := by
  obtain ⟨⟨A, n, q, G, bm, hp, hs, hG, hm, hbm⟩, hP⟩ := h
  have hPw := hp.lt
  have HR := Lib.hid hr
  clear hr
  obtain ⟨i0, hi0, hz0, hz1, hz2⟩ := info_parts Try.infoMsg
  have Hi := Lib.hid hi0
  have Hz := Lib.hid hz0
  have Hz1 := Lib.hid hz1
  have Hz2 := Lib.hid hz2
  have p4 : (Value.agg #[.int .i64 0, .int .u8 0, .int .u8 0, .int .i64 0, .string ⟨#[]⟩]).cells.size = 5 := by rfl
  clear hi0 hz0 hz1 hz2
  obtain ⟨W1, hW1⟩ : ∃ V, (w.alloc (.cells #[.int .i64 m0.kd, .int .u8 m0.fr, .int .u8 m0.to, .int .i64 m0.ep, .string m0.cg] 37)).alloc (.cells #[.int .i64 m0.kd, .int .u8 m0.fr, .int .u8 m0.to, .int .i64 m0.ep, .string m0.cg] 37) = V := ⟨_, rfl⟩
  have nW1_m : CB W1 (w.heap.size) 37 #[.int .i64 m0.kd, .int .u8 m0.fr, .int .u8 m0.to, .int .i64 m0.ep, .string m0.cg] := by
    rw [← hW1]
    have := ((CB.new w 37 #[.int .i64 m0.kd, .int .u8 m0.fr, .int .u8 m0.to, .int .i64 m0.ep, .string m0.cg]).alloc (.cells #[.int .i64 m0.kd, .int .u8 m0.fr, .int .u8 m0.to, .int .i64 m0.ep, .string m0.cg] 37))
    simpa using this
  have nW1_z : CB W1 (w.heap.size + 1) 37 #[.int .i64 m0.kd, .int .u8 m0.fr, .int .u8 m0.to, .int .i64 m0.ep, .string m0.cg] := by
    rw [← hW1]
    have := (CB.new (w.alloc (.cells #[.int .i64 m0.kd, .int .u8 m0.fr, .int .u8 m0.to, .int .i64 m0.ep, .string m0.cg] 37)) 37 #[.int .i64 m0.kd, .int .u8 m0.fr, .int .u8 m0.to, .int .i64 m0.ep, .string m0.cg])
    simpa using this
  have neW1_01 : w.heap.size ≠ w.heap.size + 1 := by omega
  have lW1 : Below w.heap.size w W1 := by rw [← hW1]; exact le_tr (le_al _ _) (le_al _ _)
  have HW1 := Lib.hid hW1
  clear hW1
  have hz0 : RS W1 37 mc 5 (some ⟨w.heap.size + 1, 0, none⟩) 1 1 [m0] := RS.of_cb nW1_z
  have hzg : Seg W1 37 5 (some ⟨w.heap.size + 1, 0, none⟩) 1 1 (rc mc [m0]) (some (w.heap.size + 1)) := seg_one nW1_z
  go_enter Try.func25, Try.ntmps25
  go_wp2_with fail
  rw [HW1.out]
  have hp1 := PM.on hp lW1
  have hs1 := Seg.on hs lW1
  have hm1 := MH.on hm lW1
  have b1 := Below.mono lW1 hB
  go_loopw [4, 5] (fun tv iv wr => ∃ (u : Nat) (A' : Option Addr) (m' q' : Nat) (G' : Option Nat), u ≤ 2 ∧ iv = .int .i64 u ∧ tv = .slice A' m' q' ∧ Seg wr 37 5 A' m' q' (rc mc (rdT m0 m1 u)) G' ∧ (∀ g, G' = some g → w.heap.size ≤ g) ∧ PM wr P (rdS S m0 m1 k0 k1 u) (.slice A n q) c bm ∧ Seg wr 37 5 A n q (rc mc L) G ∧ MH wr bm M ∧ Below B w wr) (fun _ iv _ => 2 - (intOf iv).toNat)
  case atStart => exact ⟨0, _, _, _, _, by omega, rfl, rfl, hzg, (fun g e => by cases e; omega), hp1, hs1, hm1, b1⟩
  case round =>
    clear hp1 hs1 hm1 b1 hz0 hzg
    obtain ⟨u, A', m', q', G', hu, rfl, rfl, htd, hG', hpr, hsr, hmr, hbr⟩ := hrel
    obtain ⟨wz, hwz⟩ : ∃ z, z = wr := ⟨_, rfl⟩
    subst hwz
    have hwz := hbr.size
    have hGl : ∀ g, G = some g → g < w.heap.size := fun g e => hs.lt g e
    have hbl : bm < w.heap.size := hm.lt
    clear hp hs hm
    have hB9 := Lib.hid hB
    clear hB
    have hB : B ≤ wz.heap.size := Nat.le_trans hB9.out hwz
    have hp := hpr
    have hs := hsr
    have hm := hmr
    clear hpr hsr hmr
    have hlen := rc_len htd
    by_cases hlt : u < 2
    · obtain ⟨k, kd, fr, e, mg, hk, x1, x2, x3, x4⟩ := HR.out.at_ hlt
      obtain ⟨Su, hSu⟩ : ∃ s, rdS S m0 m1 k0 k1 u = s := ⟨_, rfl⟩
      rw [hSu] at hp x2 x3
      obtain ⟨Tu, hTu⟩ : ∃ s, rdT m0 m1 u = s := ⟨_, rfl⟩
      rw [hTu] at htd x1 x3 x4 hlen
      have HM' := Lib.hid (show m' = u + 1 by omega)
      clear x4 hlen
      obtain ⟨⟨sme, ⟨sep, sst, sto⟩, scg, skp⟩, hS⟩ : ∃ s, Su k = s := ⟨_, rfl⟩
      have k1' : decide ((3 : Int) < (k : Int)) = false := by simp; omega
      have k2 : (k : Int) < 4 := by omega
      have k3 : (0 : Int) ≤ (k : Int) := by omega
      have hum : u < m' := by have := HM'.out; omega
      have t1 : decide ((u : Int) < (m' : Int)) = true := by simp; omega
      have t2 : decide ((u : Int) < 20) = true := by simp; omega
      have humi : (u : Int) < (m' : Int) := by omega
      obtain ⟨gg, off, ykd, yfr, yt, ye, ymg, rfl, y1, d0, d1, d2, d3, d4⟩ := msg_at (RR.of_seg htd) hum
      rw [x1] at y1
      cases y1
      have hzz : Below wz.heap.size wz wz := Below.refl _ _
      obtain ⟨⟨⟨zme, ⟨zep, zst, zto⟩, zcg, zkp⟩, zr, ze⟩, hd⟩ : ∃ d, hearM (Su k) ⟨kd, fr, (k : Int), e, mg⟩ = d := ⟨_, rfl⟩
      have H1 : ∀ W, Calls Try.prog 11 #[.agg #[.int .u8 sme, .int .i64 sep, .int .i64 sst, .int .u8 sto, .string scg, .bool skp], .agg #[.int .i64 kd, .int .u8 fr, .int .u8 (k : Int), .int .i64 e, .string mg]] W (fun r w' => ∃ A n q, r = .returned (.tuple #[.agg #[.int .u8 zme, .int .i64 zep, .int .i64 zst, .int .u8 zto, .string zcg, .bool zkp], .slice A n q, .int .i64 (ze : Int)]) ∧ RS w' 37 mc 5 A n q zr ∧ Below W.heap.size W w') := fun W => (by
        have := hear_c sme sep sst sto scg skp kd fr (k : Int) e mg W
        rw [← hS, hd] at this
        exact this)
      rw [hd] at x2 x3
      have HRl := Lib.hid (show zr.length ≤ 1 from by have := hear_len (Su k) ⟨kd, fr, (k : Int), e, mg⟩; rw [hd] at this; exact this)
      simp only at x2 x3
      have X2 := Lib.hid x2
      have X3 := Lib.hid x3
      clear hd x1 x2 x3 hSu hTu
      have av0 := Nat.le_refl wz.heap.size
      obtain ⟨W31, hW31⟩ : ∃ V, wz.alloc (.cells #[.int .i64 kd, .int .u8 fr, .int .u8 (k : Int), .int .i64 e, .string mg] 37) = V := ⟨_, rfl⟩
      have zW31 : wz.heap.size = wz.heap.size := by rfl
      have nW31 : CB W31 (wz.heap.size) 37 #[.int .i64 kd, .int .u8 fr, .int .u8 (k : Int), .int .i64 e, .string mg] := by rw [← zW31, ← hW31]; exact CB.new _ _ _
      have bW31 : Below wz.heap.size wz W31 := by rw [← hW31]; exact le_al _ _
      have HW31 := Lib.hid hW31
      clear hW31 zW31
      have l32 := le_tr hzz bW31
      clear bW31
      go_wp2_with fail
      go_wp2_with fail
      rw [HW31.out]
      clear d0 d1 d2 d3 d4
      have y33 := Lib.hid (show (fun V : World => V.cell? ⟨wz.heap.size, 0, none⟩ = some (.int .i64 kd) ∧ V.cell? ⟨wz.heap.size, 1, none⟩ = some (.int .u8 fr) ∧ V.cell? ⟨wz.heap.size, 2, none⟩ = some (.int .u8 (k : Int)) ∧ V.cell? ⟨wz.heap.size, 3, none⟩ = some (.int .i64 e) ∧ V.cell? ⟨wz.heap.size, 4, none⟩ = some (.string mg) ∧ V.cell? ⟨P, k * 6, none⟩ = some (.int .u8 sme) ∧ V.cell? ⟨P, k * 6 + 1, none⟩ = some (.int .i64 sep) ∧ V.cell? ⟨P, k * 6 + 2, none⟩ = some (.int .i64 sst) ∧ V.cell? ⟨P, k * 6 + 3, none⟩ = some (.int .u8 sto) ∧ V.cell? ⟨P, k * 6 + 4, none⟩ = some (.string scg) ∧ V.cell? ⟨P, k * 6 + 5, none⟩ = some (.bool skp)) W31 from ⟨CB.cell nW31 0, CB.cell nW31 1, CB.cell nW31 2, CB.cell nW31 3, CB.cell nW31 4, (PM.at_ (PM.on hp l32) hk hS).1, (PM.at_ (PM.on hp l32) hk hS).2.1, (PM.at_ (PM.on hp l32) hk hS).2.2.1, (PM.at_ (PM.on hp l32) hk hS).2.2.2.1, (PM.at_ (PM.on hp l32) hk hS).2.2.2.2.1, (PM.at_ (PM.on hp l32) hk hS).2.2.2.2.2⟩)
      refine wp_region_held_drew (S := (fun V : World => V.cell? ⟨wz.heap.size, 0, none⟩ = some (.int .i64 kd) ∧ V.cell? ⟨wz.heap.size, 1, none⟩ = some (.int .u8 fr) ∧ V.cell? ⟨wz.heap.size, 2, none⟩ = some (.int .u8 (k : Int)) ∧ V.cell? ⟨wz.heap.size, 3, none⟩ = some (.int .i64 e) ∧ V.cell? ⟨wz.heap.size, 4, none⟩ = some (.string mg) ∧ V.cell? ⟨P, k * 6, none⟩ = some (.int .u8 sme) ∧ V.cell? ⟨P, k * 6 + 1, none⟩ = some (.int .i64 sep) ∧ V.cell? ⟨P, k * 6 + 2, none⟩ = some (.int .i64 sst) ∧ V.cell? ⟨P, k * 6 + 3, none⟩ = some (.int .u8 sto) ∧ V.cell? ⟨P, k * 6 + 4, none⟩ = some (.string scg) ∧ V.cell? ⟨P, k * 6 + 5, none⟩ = some (.bool skp))) (by kernel_rfl) y33.out (fun hHeld => ?_)
      obtain ⟨D33, hD33⟩ : ∃ V, W31.drew = V := ⟨_, rfl⟩
      have b33 : Below W31.heap.size W31 D33 := by rw [← hD33]; exact le_dr (Below.refl _ _)
      rw [hD33] at hHeld ⊢
      clear hD33
      have r34_y := le_on nW31 b33
      have l34 := le_tr l32 b33
      clear nW31 l32
      clear b33
      refine wpAnyH_takeL (i := 0) (d := some 30) (v := .pointer (some ⟨P, 0, none⟩)) rfl rfl (by kernel_rfl) (by kernel_rfl) (by kernel_rfl) (fun _ _ _ h => h) (Or.inl ⟨by rfl, ?_⟩) hHeld ?_
      · intro w hSw; (try dsimp only at hSw); go_simp
      try simp only [Act.put, List.setIfInBounds_toArray, List.set_cons_zero, List.set_cons_succ]
      refine wpAnyH_takeL (i := 1) (d := some 31) (v := .pointer (some ⟨wz.heap.size, 2, none⟩)) rfl rfl (by kernel_rfl) (by kernel_rfl) (by kernel_rfl) (fun _ _ _ h => h) (Or.inl ⟨by rfl, ?_⟩) hHeld ?_
      · intro w hSw; (try dsimp only at hSw); go_simp
      try simp only [Act.put, List.setIfInBounds_toArray, List.set_cons_zero, List.set_cons_succ]
      refine wpAnyH_takeL (i := 2) (d := some 32) (v := .int .u8 (k : Int)) rfl rfl (by kernel_rfl) (by kernel_rfl) (by kernel_rfl) (fun _ _ _ h => h) (Or.inl ⟨by rfl, ?_⟩) hHeld ?_
      · intro w hSw; (try dsimp only at hSw); go_simp
      try simp only [Act.put, List.setIfInBounds_toArray, List.set_cons_zero, List.set_cons_succ]
      refine wpAnyH_takeL (i := 3) (d := some 33) (v := .pointer (some ⟨P, 0, none⟩)) rfl rfl (by kernel_rfl) (by kernel_rfl) (by kernel_rfl) (fun _ _ _ h => h) (Or.inl ⟨by rfl, ?_⟩) hHeld ?_
      · intro w hSw; (try dsimp only at hSw); go_simp
      try simp only [Act.put, List.setIfInBounds_toArray, List.set_cons_zero, List.set_cons_succ]
      refine wpAnyH_takeL (i := 4) (d := some 34) (v := .pointer (some ⟨P, 0, none⟩)) rfl rfl (by kernel_rfl) (by kernel_rfl) (by kernel_rfl) (fun _ _ _ h => h) (Or.inl ⟨by rfl, ?_⟩) hHeld ?_
      · intro w hSw; (try dsimp only at hSw); go_simp
      try simp only [Act.put, List.setIfInBounds_toArray, List.set_cons_zero, List.set_cons_succ]
      refine wpAnyH_takeL (i := 5) (d := some 35) (v := .pointer (some ⟨P, k * 6, none⟩)) rfl rfl (by kernel_rfl) (by kernel_rfl) (by kernel_rfl) (fun _ _ _ h => h) (Or.inl ⟨by rfl, ?_⟩) hHeld ?_
      · intro w hSw; (try dsimp only at hSw); go_simp
      try simp only [Act.put, List.setIfInBounds_toArray, List.set_cons_zero, List.set_cons_succ]
      refine wpAnyH_takeL (i := 6) (d := some 36) (v := .agg #[.int .u8 sme, .int .i64 sep, .int .i64 sst, .int .u8 sto, .string scg, .bool skp]) rfl rfl (by kernel_rfl) (by kernel_rfl) (by kernel_rfl) (fun _ _ _ h => h) (Or.inl ⟨by rfl, ?_⟩) hHeld ?_
      · intro w hSw; (try dsimp only at hSw); go_simp
      try simp only [Act.put, List.setIfInBounds_toArray, List.set_cons_zero, List.set_cons_succ]
      refine wpAnyH_takeL (i := 7) (d := some 37) (v := .agg #[.int .i64 kd, .int .u8 fr, .int .u8 (k : Int), .int .i64 e, .string mg]) rfl rfl (by kernel_rfl) (by kernel_rfl) (by kernel_rfl) (fun _ _ _ h => h) (Or.inl ⟨by rfl, ?_⟩) hHeld ?_
      · intro w hSw; (try dsimp only at hSw); go_simp
      try simp only [Act.put, List.setIfInBounds_toArray, List.set_cons_zero, List.set_cons_succ]
      refine wpAnyH_ready (rs := [8, 13]) (by kernel_rfl) (by simp) ?_
      refine AllReadyH.cons rfl (fun K hK => ?_) (AllReadyH.cons rfl (fun K hK => ?_) AllReadyH.nil)
      · skip
        go_simp
        refine (H1 _).mono ?_
        rintro e u35 ⟨A2, n2, q2, rfl, hr, b35⟩
        have r36_y := le_on r34_y b35
        have l36 := le_tr l34 b35
        clear r34_y l34
        clear b35
        go_wp2_with fail
        have y37 := Lib.hid (show (fun V : World => V.cell? ⟨wz.heap.size, 0, none⟩ = some (.int .i64 kd) ∧ V.cell? ⟨wz.heap.size, 1, none⟩ = some (.int .u8 fr) ∧ V.cell? ⟨wz.heap.size, 2, none⟩ = some (.int .u8 (k : Int)) ∧ V.cell? ⟨wz.heap.size, 3, none⟩ = some (.int .i64 e) ∧ V.cell? ⟨wz.heap.size, 4, none⟩ = some (.string mg) ∧ V.cell? ⟨P, k * 6, none⟩ = some (.int .u8 sme) ∧ V.cell? ⟨P, k * 6 + 1, none⟩ = some (.int .i64 sep) ∧ V.cell? ⟨P, k * 6 + 2, none⟩ = some (.int .i64 sst) ∧ V.cell? ⟨P, k * 6 + 3, none⟩ = some (.int .u8 sto) ∧ V.cell? ⟨P, k * 6 + 4, none⟩ = some (.string scg) ∧ V.cell? ⟨P, k * 6 + 5, none⟩ = some (.bool skp)) u35 from ⟨CB.cell r36_y 0, CB.cell r36_y 1, CB.cell r36_y 2, CB.cell r36_y 3, CB.cell r36_y 4, (PM.at_ (PM.on hp l36) hk hS).1, (PM.at_ (PM.on hp l36) hk hS).2.1, (PM.at_ (PM.on hp l36) hk hS).2.2.1, (PM.at_ (PM.on hp l36) hk hS).2.2.2.1, (PM.at_ (PM.on hp l36) hk hS).2.2.2.2.1, (PM.at_ (PM.on hp l36) hk hS).2.2.2.2.2⟩)
        refine hK.out _ _ y37.out (fun hHeld => ?_)
        clear hK K y37
        try simp only [Act.put, List.setIfInBounds_toArray, List.set_cons_zero, List.set_cons_succ]
        refine wpAnyH_takeL (i := 9) (d := some 29) (v := .tuple #[.agg #[.int .u8 zme, .int .i64 zep, .int .i64 zst, .int .u8 zto, .string zcg, .bool zkp], .slice A2 n2 q2, .int .i64 (ze : Int)]) rfl rfl (by kernel_rfl) (by kernel_rfl) (by kernel_rfl) (fun _ _ _ h => h) (Or.inl ⟨by rfl, ?_⟩) hHeld ?_
        · intro w hSw; (try dsimp only at hSw); go_simp
        try simp only [Act.put, List.setIfInBounds_toArray, List.set_cons_zero, List.set_cons_succ]
        refine wpAnyH_takeL (i := 10) (d := some 39) (v := .agg #[.int .u8 zme, .int .i64 zep, .int .i64 zst, .int .u8 zto, .string zcg, .bool zkp]) rfl rfl (by kernel_rfl) (by kernel_rfl) (by kernel_rfl) (fun _ _ _ h => h) (Or.inl ⟨by rfl, ?_⟩) hHeld ?_
        · intro w hSw; (try dsimp only at hSw); go_simp
        try simp only [Act.put, List.setIfInBounds_toArray, List.set_cons_zero, List.set_cons_succ]
        refine wpAnyH_takeL (i := 11) (d := some 40) (v := .slice A2 n2 q2) rfl rfl (by kernel_rfl) (by kernel_rfl) (by kernel_rfl) (fun _ _ _ h => h) (Or.inl ⟨by rfl, ?_⟩) hHeld ?_
        · intro w hSw; (try dsimp only at hSw); go_simp
        try simp only [Act.put, List.setIfInBounds_toArray, List.set_cons_zero, List.set_cons_succ]
        refine wpAnyH_takeL (i := 12) (d := some 41) (v := .int .i64 (ze : Int)) rfl rfl (by kernel_rfl) (by kernel_rfl) (by kernel_rfl) (fun _ _ _ h => h) (Or.inl ⟨by rfl, ?_⟩) hHeld ?_
        · intro w hSw; (try dsimp only at hSw); go_simp
        try simp only [Act.put, List.setIfInBounds_toArray, List.set_cons_zero, List.set_cons_succ]
        refine wpAnyH_ready (rs := [13]) (by kernel_rfl) (by simp) ?_
        refine AllReadyH.cons rfl (fun K hK => ?_) AllReadyH.nil
        go_simp
        go_wp2_with fail
        have av_x : wz.heap.size ≤ u35.heap.size := by have := l36.size; omega
        obtain ⟨W38, hW38⟩ : ∃ V, u35.alloc (.cells #[.int .u8 0, .int .i64 0, .int .i64 0, .int .u8 0, .string ⟨#[]⟩, .bool false] 31) = V := ⟨_, rfl⟩
        have zW38 : u35.heap.size = u35.heap.size := by rfl
        have nW38 : CB W38 (u35.heap.size) 31 #[.int .u8 0, .int .i64 0, .int .i64 0, .int .u8 0, .string ⟨#[]⟩, .bool false] := by rw [← zW38, ← hW38]; exact CB.new _ _ _
        have bW38 : Below u35.heap.size u35 W38 := by rw [← hW38]; exact le_al _ _
        have neW38_y : wz.heap.size ≠ u35.heap.size := by have := CB.lt r36_y; omega
        have HW38 := Lib.hid hW38
        clear hW38 zW38
        have q39_z := RS.on hr bW38
        have r39_y := le_on r36_y bW38
        have l39 := le_tr l36 bW38
        clear r36_y l36
        clear hr
        clear bW38
        rw [HW38.out]
        have y40 := Lib.hid (show (fun V : World => V.cell? ⟨wz.heap.size, 0, none⟩ = some (.int .i64 kd) ∧ V.cell? ⟨wz.heap.size, 1, none⟩ = some (.int .u8 fr) ∧ V.cell? ⟨wz.heap.size, 2, none⟩ = some (.int .u8 (k : Int)) ∧ V.cell? ⟨wz.heap.size, 3, none⟩ = some (.int .i64 e) ∧ V.cell? ⟨wz.heap.size, 4, none⟩ = some (.string mg) ∧ V.cell? ⟨P, k * 6, none⟩ = some (.int .u8 sme) ∧ V.cell? ⟨P, k * 6 + 1, none⟩ = some (.int .i64 sep) ∧ V.cell? ⟨P, k * 6 + 2, none⟩ = some (.int .i64 sst) ∧ V.cell? ⟨P, k * 6 + 3, none⟩ = some (.int .u8 sto) ∧ V.cell? ⟨P, k * 6 + 4, none⟩ = some (.string scg) ∧ V.cell? ⟨P, k * 6 + 5, none⟩ = some (.bool skp)) W38 from ⟨CB.cell r39_y 0, CB.cell r39_y 1, CB.cell r39_y 2, CB.cell r39_y 3, CB.cell r39_y 4, (PM.at_ (PM.on hp l39) hk hS).1, (PM.at_ (PM.on hp l39) hk hS).2.1, (PM.at_ (PM.on hp l39) hk hS).2.2.1, (PM.at_ (PM.on hp l39) hk hS).2.2.2.1, (PM.at_ (PM.on hp l39) hk hS).2.2.2.2.1, (PM.at_ (PM.on hp l39) hk hS).2.2.2.2.2⟩)
        refine hK.out _ _ y40.out (fun hHeld => ?_)
        clear hK K y40
        try simp only [Act.put, List.setIfInBounds_toArray, List.set_cons_zero, List.set_cons_succ]
        refine wpAnyH_ready (rs := [14]) (by kernel_rfl) (by simp) ?_
        refine AllReadyH.cons rfl (fun K hK => ?_) AllReadyH.nil
        have f40_x0 : W38.cell? ⟨u35.heap.size, 0, none⟩ = some (.int .u8 0) := CB.cell nW38 0
        have z40_x0 : W38.frozen? ⟨u35.heap.size, 0, none⟩ = false := CB.frozen nW38 0
        have f40_x1 : W38.cell? ⟨u35.heap.size, 1, none⟩ = some (.int .i64 0) := CB.cell nW38 1
        have z40_x1 : W38.frozen? ⟨u35.heap.size, 1, none⟩ = false := CB.frozen nW38 1
        have f40_x2 : W38.cell? ⟨u35.heap.size, 2, none⟩ = some (.int .i64 0) := CB.cell nW38 2
        have z40_x2 : W38.frozen? ⟨u35.heap.size, 2, none⟩ = false := CB.frozen nW38 2
        have f40_x3 : W38.cell? ⟨u35.heap.size, 3, none⟩ = some (.int .u8 0) := CB.cell nW38 3
        have z40_x3 : W38.frozen? ⟨u35.heap.size, 3, none⟩ = false := CB.frozen nW38 3
        have f40_x4 : W38.cell? ⟨u35.heap.size, 4, none⟩ = some (.string ⟨#[]⟩) := CB.cell nW38 4
        have z40_x4 : W38.frozen? ⟨u35.heap.size, 4, none⟩ = false := CB.frozen nW38 4
        have f40_x5 : W38.cell? ⟨u35.heap.size, 5, none⟩ = some (.bool false) := CB.cell nW38 5
        have z40_x5 : W38.frozen? ⟨u35.heap.size, 5, none⟩ = false := CB.frozen nW38 5
        go_simp
        go_wp2_with fail
        have g41_z := (RS.far (RS.far (RS.far (RS.far (RS.far (RS.far q39_z nW38 (by decide) 0 (.int .u8 zme)) (CB.put nW38 0 (.int .u8 zme)) (by decide) 1 (.int .i64 zep)) (CB.put (CB.put nW38 0 (.int .u8 zme)) 1 (.int .i64 zep)) (by decide) 2 (.int .i64 zst)) (CB.put (CB.put (CB.put nW38 0 (.int .u8 zme)) 1 (.int .i64 zep)) 2 (.int .i64 zst)) (by decide) 3 (.int .u8 zto)) (CB.put (CB.put (CB.put (CB.put nW38 0 (.int .u8 zme)) 1 (.int .i64 zep)) 2 (.int .i64 zst)) 3 (.int .u8 zto)) (by decide) 4 (.string zcg)) (CB.put (CB.put (CB.put (CB.put (CB.put nW38 0 (.int .u8 zme)) 1 (.int .i64 zep)) 2 (.int .i64 zst)) 3 (.int .u8 zto)) 4 (.string zcg)) (by decide) 5 (.bool zkp))
        have f40_x0 : W38.cell? ⟨u35.heap.size, 0, none⟩ = some (.int .u8 0) := CB.cell nW38 0
        have z40_x0 : W38.frozen? ⟨u35.heap.size, 0, none⟩ = false := CB.frozen nW38 0
        have f40_x1 : W38.cell? ⟨u35.heap.size, 1, none⟩ = some (.int .i64 0) := CB.cell nW38 1
        have z40_x1 : W38.frozen? ⟨u35.heap.size, 1, none⟩ = false := CB.frozen nW38 1
        have f40_x2 : W38.cell? ⟨u35.heap.size, 2, none⟩ = some (.int .i64 0) := CB.cell nW38 2
        have z40_x2 : W38.frozen? ⟨u35.heap.size, 2, none⟩ = false := CB.frozen nW38 2
        have f40_x3 : W38.cell? ⟨u35.heap.size, 3, none⟩ = some (.int .u8 0) := CB.cell nW38 3
        have z40_x3 : W38.frozen? ⟨u35.heap.size, 3, none⟩ = false := CB.frozen nW38 3
        have f40_x4 : W38.cell? ⟨u35.heap.size, 4, none⟩ = some (.string ⟨#[]⟩) := CB.cell nW38 4
        have z40_x4 : W38.frozen? ⟨u35.heap.size, 4, none⟩ = false := CB.frozen nW38 4
        have f40_x5 : W38.cell? ⟨u35.heap.size, 5, none⟩ = some (.bool false) := CB.cell nW38 5
        have z40_x5 : W38.frozen? ⟨u35.heap.size, 5, none⟩ = false := CB.frozen nW38 5
        obtain ⟨V41, hV41⟩ : ∃ V, (((((W38.setCell ⟨u35.heap.size, 0, none⟩ (.int .u8 zme)).setCell ⟨u35.heap.size, 1, none⟩ (.int .i64 zep)).setCell ⟨u35.heap.size, 2, none⟩ (.int .i64 zst)).setCell ⟨u35.heap.size, 3, none⟩ (.int .u8 zto)).setCell ⟨u35.heap.size, 4, none⟩ (.string zcg)).setCell ⟨u35.heap.size, 5, none⟩ (.bool zkp) = V := ⟨_, rfl⟩
        have nV41 : CB V41 (u35.heap.size) 31 #[.int .u8 zme, .int .i64 zep, .int .i64 zst, .int .u8 zto, .string zcg, .bool zkp] := by rw [← hV41]; exact cb_cast (CB.put (CB.put (CB.put (CB.put (CB.put (CB.put nW38 0 (.int .u8 zme)) 1 (.int .i64 zep)) 2 (.int .i64 zst)) 3 (.int .u8 zto)) 4 (.string zcg)) 5 (.bool zkp)) (by kernel_rfl)
        have mV41_y : CB V41 (wz.heap.size) 37 #[.int .i64 kd, .int .u8 fr, .int .u8 (k : Int), .int .i64 e, .string mg] := by rw [← hV41]; exact (CB.far (CB.far (CB.far (CB.far (CB.far (CB.far r39_y (p := ⟨u35.heap.size, 0, none⟩) neW38_y (.int .u8 zme)) (p := ⟨u35.heap.size, 1, none⟩) neW38_y (.int .i64 zep)) (p := ⟨u35.heap.size, 2, none⟩) neW38_y (.int .i64 zst)) (p := ⟨u35.heap.size, 3, none⟩) neW38_y (.int .u8 zto)) (p := ⟨u35.heap.size, 4, none⟩) neW38_y (.string zcg)) (p := ⟨u35.heap.size, 5, none⟩) neW38_y (.bool zkp))
        have oV41 := (Below.setCell (Below.setCell (Below.setCell (Below.setCell (Below.setCell (Below.setCell l39 (p := ⟨u35.heap.size, 0, none⟩) (by have := av_x; dsimp only; omega) (.int .u8 zme)) (p := ⟨u35.heap.size, 1, none⟩) (by have := av_x; dsimp only; omega) (.int .i64 zep)) (p := ⟨u35.heap.size, 2, none⟩) (by have := av_x; dsimp only; omega) (.int .i64 zst)) (p := ⟨u35.heap.size, 3, none⟩) (by have := av_x; dsimp only; omega) (.int .u8 zto)) (p := ⟨u35.heap.size, 4, none⟩) (by have := av_x; dsimp only; omega) (.string zcg)) (p := ⟨u35.heap.size, 5, none⟩) (by have := av_x; dsimp only; omega) (.bool zkp))
        rw [hV41] at oV41
        have HV41 := Lib.hid hV41
        have V41_eq := hV41
        clear hV41
        clear nW38 r39_y l39
        have q41_z : RS V41 37 mc 5 A2 n2 q2 zr := by rw [← V41_eq]; exact g41_z
        clear g41_z q39_z
        clear V41_eq
        rw [HV41.out]
        clear f40_x0 z40_x0 f40_x1 z40_x1 f40_x2 z40_x2 f40_x3 z40_x3 f40_x4 z40_x4 f40_x5 z40_x5
        have y42 := Lib.hid (show (fun V : World => V.cell? ⟨wz.heap.size, 0, none⟩ = some (.int .i64 kd) ∧ V.cell? ⟨wz.heap.size, 1, none⟩ = some (.int .u8 fr) ∧ V.cell? ⟨wz.heap.size, 2, none⟩ = some (.int .u8 (k : Int)) ∧ V.cell? ⟨wz.heap.size, 3, none⟩ = some (.int .i64 e) ∧ V.cell? ⟨wz.heap.size, 4, none⟩ = some (.string mg) ∧ V.cell? ⟨P, k * 6, none⟩ = some (.int .u8 sme) ∧ V.cell? ⟨P, k * 6 + 1, none⟩ = some (.int .i64 sep) ∧ V.cell? ⟨P, k * 6 + 2, none⟩ = some (.int .i64 sst) ∧ V.cell? ⟨P, k * 6 + 3, none⟩ = some (.int .u8 sto) ∧ V.cell? ⟨P, k * 6 + 4, none⟩ = some (.string scg) ∧ V.cell? ⟨P, k * 6 + 5, none⟩ = some (.bool skp)) V41 from ⟨CB.cell mV41_y 0, CB.cell mV41_y 1, CB.cell mV41_y 2, CB.cell mV41_y 3, CB.cell mV41_y 4, (PM.at_ (PM.on hp oV41) hk hS).1, (PM.at_ (PM.on hp oV41) hk hS).2.1, (PM.at_ (PM.on hp oV41) hk hS).2.2.1, (PM.at_ (PM.on hp oV41) hk hS).2.2.2.1, (PM.at_ (PM.on hp oV41) hk hS).2.2.2.2.1, (PM.at_ (PM.on hp oV41) hk hS).2.2.2.2.2⟩)
        refine hK.out _ _ y42.out (fun hHeld => ?_)
        clear hK K y42
        try simp only [Act.put, List.setIfInBounds_toArray, List.set_cons_zero, List.set_cons_succ]
        refine wpAnyH_takeL (i := 15) (d := some 8) (v := .slice A2 n2 q2) rfl rfl (by kernel_rfl) (by kernel_rfl) (by kernel_rfl) (fun _ _ _ h => h) (Or.inl ⟨by rfl, ?_⟩) hHeld ?_
        · intro w hSw; (try dsimp only at hSw); go_simp
        try simp only [Act.put, List.setIfInBounds_toArray, List.set_cons_zero, List.set_cons_succ]
        refine wpAnyH_takeL (i := 16) (d := some 9) (v := .int .i64 (ze : Int)) rfl rfl (by kernel_rfl) (by kernel_rfl) (by kernel_rfl) (fun _ _ _ h => h) (Or.inl ⟨by rfl, ?_⟩) hHeld ?_
        · intro w hSw; (try dsimp only at hSw); go_simp
        try simp only [Act.put, List.setIfInBounds_toArray, List.set_cons_zero, List.set_cons_succ]
        refine wpAnyH_done (by kernel_rfl) ?_ _
        have f42_y0 : V41.cell? ⟨wz.heap.size, 0, none⟩ = some (.int .i64 kd) := CB.cell mV41_y 0
        have f42_y1 : V41.cell? ⟨wz.heap.size, 1, none⟩ = some (.int .u8 fr) := CB.cell mV41_y 1
        have f42_y2 : V41.cell? ⟨wz.heap.size, 2, none⟩ = some (.int .u8 (k : Int)) := CB.cell mV41_y 2
        have f42_y3 : V41.cell? ⟨wz.heap.size, 3, none⟩ = some (.int .i64 e) := CB.cell mV41_y 3
        have f42_y4 : V41.cell? ⟨wz.heap.size, 4, none⟩ = some (.string mg) := CB.cell mV41_y 4
        have f42_x0 : V41.cell? ⟨u35.heap.size, 0, none⟩ = some (.int .u8 zme) := CB.cell nV41 0
        have f42_x1 : V41.cell? ⟨u35.heap.size, 1, none⟩ = some (.int .i64 zep) := CB.cell nV41 1
        have f42_x2 : V41.cell? ⟨u35.heap.size, 2, none⟩ = some (.int .i64 zst) := CB.cell nV41 2
        have f42_x3 : V41.cell? ⟨u35.heap.size, 3, none⟩ = some (.int .u8 zto) := CB.cell nV41 3
        have f42_x4 : V41.cell? ⟨u35.heap.size, 4, none⟩ = some (.string zcg) := CB.cell nV41 4
        have f42_x5 : V41.cell? ⟨u35.heap.size, 5, none⟩ = some (.bool zkp) := CB.cell nV41 5
        go_wp2_with fail
        clear f42_y0 f42_y1 f42_y2 f42_y3 f42_y4 f42_x0 f42_x1 f42_x2 f42_x3 f42_x4 f42_x5
        go_wp2_with fail
        have y43 := Lib.hid (show (fun V : World => V.cell? ⟨wz.heap.size, 0, none⟩ = some (.int .i64 kd) ∧ V.cell? ⟨wz.heap.size, 1, none⟩ = some (.int .u8 fr) ∧ V.cell? ⟨wz.heap.size, 2, none⟩ = some (.int .u8 (k : Int)) ∧ V.cell? ⟨wz.heap.size, 3, none⟩ = some (.int .i64 e) ∧ V.cell? ⟨wz.heap.size, 4, none⟩ = some (.string mg) ∧ V.cell? ⟨u35.heap.size, 0, none⟩ = some (.int .u8 zme) ∧ V.cell? ⟨u35.heap.size, 1, none⟩ = some (.int .i64 zep) ∧ V.cell? ⟨u35.heap.size, 2, none⟩ = some (.int .i64 zst) ∧ V.cell? ⟨u35.heap.size, 3, none⟩ = some (.int .u8 zto) ∧ V.cell? ⟨u35.heap.size, 4, none⟩ = some (.string zcg) ∧ V.cell? ⟨u35.heap.size, 5, none⟩ = some (.bool zkp)) V41 from ⟨CB.cell mV41_y 0, CB.cell mV41_y 1, CB.cell mV41_y 2, CB.cell mV41_y 3, CB.cell mV41_y 4, CB.cell nV41 0, CB.cell nV41 1, CB.cell nV41 2, CB.cell nV41 3, CB.cell nV41 4, CB.cell nV41 5⟩)
        refine wp_region_held_drew (S := (fun V : World => V.cell? ⟨wz.heap.size, 0, none⟩ = some (.int .i64 kd) ∧ V.cell? ⟨wz.heap.size, 1, none⟩ = some (.int .u8 fr) ∧ V.cell? ⟨wz.heap.size, 2, none⟩ = some (.int .u8 (k : Int)) ∧ V.cell? ⟨wz.heap.size, 3, none⟩ = some (.int .i64 e) ∧ V.cell? ⟨wz.heap.size, 4, none⟩ = some (.string mg) ∧ V.cell? ⟨u35.heap.size, 0, none⟩ = some (.int .u8 zme) ∧ V.cell? ⟨u35.heap.size, 1, none⟩ = some (.int .i64 zep) ∧ V.cell? ⟨u35.heap.size, 2, none⟩ = some (.int .i64 zst) ∧ V.cell? ⟨u35.heap.size, 3, none⟩ = some (.int .u8 zto) ∧ V.cell? ⟨u35.heap.size, 4, none⟩ = some (.string zcg) ∧ V.cell? ⟨u35.heap.size, 5, none⟩ = some (.bool zkp))) (by kernel_rfl) y43.out (fun hHeld => ?_)
        obtain ⟨D43, hD43⟩ : ∃ V, V41.drew = V := ⟨_, rfl⟩
        have b43 : Below V41.heap.size V41 D43 := by rw [← hD43]; exact le_dr (Below.refl _ _)
        rw [hD43] at hHeld ⊢
        clear hD43
        have q44_z := RS.on q41_z b43
        have r44_y := le_on mV41_y b43
        have r44_x := le_on nV41 b43
        have l44 := le_tr oV41 b43
        clear mV41_y nV41 oV41
        clear q41_z
        clear b43
        refine wpAnyH_takeL (i := 0) (d := some 42) (v := .pointer (some ⟨P, 0, none⟩)) rfl rfl (by kernel_rfl) (by kernel_rfl) (by kernel_rfl) (fun _ _ _ h => h) (Or.inl ⟨by rfl, ?_⟩) hHeld ?_
        · intro w hSw; (try dsimp only at hSw); go_simp
        try simp only [Act.put, List.setIfInBounds_toArray, List.set_cons_zero, List.set_cons_succ]
        refine wpAnyH_takeL (i := 1) (d := some 43) (v := .pointer (some ⟨wz.heap.size, 2, none⟩)) rfl rfl (by kernel_rfl) (by kernel_rfl) (by kernel_rfl) (fun _ _ _ h => h) (Or.inl ⟨by rfl, ?_⟩) hHeld ?_
        · intro w hSw; (try dsimp only at hSw); go_simp
        try simp only [Act.put, List.setIfInBounds_toArray, List.set_cons_zero, List.set_cons_succ]
        refine wpAnyH_takeL (i := 2) (d := some 44) (v := .int .u8 (k : Int)) rfl rfl (by kernel_rfl) (by kernel_rfl) (by kernel_rfl) (fun _ _ _ h => h) (Or.inl ⟨by rfl, ?_⟩) hHeld ?_
        · intro w hSw; (try dsimp only at hSw); go_simp
        try simp only [Act.put, List.setIfInBounds_toArray, List.set_cons_zero, List.set_cons_succ]
        refine wpAnyH_takeL (i := 3) (d := some 45) (v := .agg #[.int .u8 zme, .int .i64 zep, .int .i64 zst, .int .u8 zto, .string zcg, .bool zkp]) rfl rfl (by kernel_rfl) (by kernel_rfl) (by kernel_rfl) (fun _ _ _ h => h) (Or.inl ⟨by rfl, ?_⟩) hHeld ?_
        · intro w hSw; (try dsimp only at hSw); go_simp
        try simp only [Act.put, List.setIfInBounds_toArray, List.set_cons_zero, List.set_cons_succ]
        refine wpAnyH_takeL (i := 4) (d := some 46) (v := .pointer (some ⟨P, 0, none⟩)) rfl rfl (by kernel_rfl) (by kernel_rfl) (by kernel_rfl) (fun _ _ _ h => h) (Or.inl ⟨by rfl, ?_⟩) hHeld ?_
        · intro w hSw; (try dsimp only at hSw); go_simp
        try simp only [Act.put, List.setIfInBounds_toArray, List.set_cons_zero, List.set_cons_succ]
        refine wpAnyH_takeL (i := 5) (d := some 47) (v := .pointer (some ⟨P, 0, none⟩)) rfl rfl (by kernel_rfl) (by kernel_rfl) (by kernel_rfl) (fun _ _ _ h => h) (Or.inl ⟨by rfl, ?_⟩) hHeld ?_
        · intro w hSw; (try dsimp only at hSw); go_simp
        try simp only [Act.put, List.setIfInBounds_toArray, List.set_cons_zero, List.set_cons_succ]
        refine wpAnyH_takeL (i := 6) (d := some 48) (v := .pointer (some ⟨P, k * 6, none⟩)) rfl rfl (by kernel_rfl) (by kernel_rfl) (by kernel_rfl) (fun _ _ _ h => h) (Or.inl ⟨by rfl, ?_⟩) hHeld ?_
        · intro w hSw; (try dsimp only at hSw); go_simp
        try simp only [Act.put, List.setIfInBounds_toArray, List.set_cons_zero, List.set_cons_succ]
        refine wpAnyH_ready (rs := [7]) (by kernel_rfl) (by simp) ?_
        refine AllReadyH.cons rfl (fun K hK => ?_) AllReadyH.nil
        have f44_ps0 : D43.cell? ⟨P, k * 6, none⟩ = some (.int .u8 sme) := (PM.at_ (PM.on hp l44) hk hS).1
        have f44_ps1 : D43.cell? ⟨P, k * 6 + 1, none⟩ = some (.int .i64 sep) := (PM.at_ (PM.on hp l44) hk hS).2.1
        have f44_ps2 : D43.cell? ⟨P, k * 6 + 2, none⟩ = some (.int .i64 sst) := (PM.at_ (PM.on hp l44) hk hS).2.2.1
        have f44_ps3 : D43.cell? ⟨P, k * 6 + 3, none⟩ = some (.int .u8 sto) := (PM.at_ (PM.on hp l44) hk hS).2.2.2.1
        have f44_ps4 : D43.cell? ⟨P, k * 6 + 4, none⟩ = some (.string scg) := (PM.at_ (PM.on hp l44) hk hS).2.2.2.2.1
        have f44_ps5 : D43.cell? ⟨P, k * 6 + 5, none⟩ = some (.bool skp) := (PM.at_ (PM.on hp l44) hk hS).2.2.2.2.2
        have z44_ps0 : D43.frozen? ⟨P, k * 6, none⟩ = false := PM.froz (PM.on hp l44) _
        have z44_ps1 : D43.frozen? ⟨P, k * 6 + 1, none⟩ = false := PM.froz (PM.on hp l44) _
        have z44_ps2 : D43.frozen? ⟨P, k * 6 + 2, none⟩ = false := PM.froz (PM.on hp l44) _
        have z44_ps3 : D43.frozen? ⟨P, k * 6 + 3, none⟩ = false := PM.froz (PM.on hp l44) _
        have z44_ps4 : D43.frozen? ⟨P, k * 6 + 4, none⟩ = false := PM.froz (PM.on hp l44) _
        have z44_ps5 : D43.frozen? ⟨P, k * 6 + 5, none⟩ = false := PM.froz (PM.on hp l44) _
        go_simp
        go_wp2_with fail
        obtain ⟨V9, hV9, hp9, hs9, hm9, hl9, hk9, hr9, hq9⟩ := PM.put6 (PM.on hp l44) (Seg.on hs l44) (MH.on hm l44) hk zme zep zst zto zcg zkp
        have j9_y := hk9 _ _ _ (PM.ne (PM.on hp l44) r44_y (by decide)) r44_y
        have j9_x := hk9 _ _ _ (PM.ne (PM.on hp l44) r44_x (by decide)) r44_x
        have j9_z := hr9 _ _ _ _ q44_z
        have ht9 := hq9 _ _ _ _ _ (Seg.on htd l44)
        have l9 := hl9 _ _ (Below.mono l44 hB) hP
        rw [hV9]
        clear hV9 hk9 hl9 hr9 hq9
        have y45 := Lib.hid (show (fun V : World => V.cell? ⟨wz.heap.size, 0, none⟩ = some (.int .i64 kd) ∧ V.cell? ⟨wz.heap.size, 1, none⟩ = some (.int .u8 fr) ∧ V.cell? ⟨wz.heap.size, 2, none⟩ = some (.int .u8 (k : Int)) ∧ V.cell? ⟨wz.heap.size, 3, none⟩ = some (.int .i64 e) ∧ V.cell? ⟨wz.heap.size, 4, none⟩ = some (.string mg) ∧ V.cell? ⟨u35.heap.size, 0, none⟩ = some (.int .u8 zme) ∧ V.cell? ⟨u35.heap.size, 1, none⟩ = some (.int .i64 zep) ∧ V.cell? ⟨u35.heap.size, 2, none⟩ = some (.int .i64 zst) ∧ V.cell? ⟨u35.heap.size, 3, none⟩ = some (.int .u8 zto) ∧ V.cell? ⟨u35.heap.size, 4, none⟩ = some (.string zcg) ∧ V.cell? ⟨u35.heap.size, 5, none⟩ = some (.bool zkp)) V9 from ⟨CB.cell j9_y 0, CB.cell j9_y 1, CB.cell j9_y 2, CB.cell j9_y 3, CB.cell j9_y 4, CB.cell j9_x 0, CB.cell j9_x 1, CB.cell j9_x 2, CB.cell j9_x 3, CB.cell j9_x 4, CB.cell j9_x 5⟩)
        refine hK.out _ _ y45.out (fun hHeld => ?_)
        clear hK K y45
        try simp only [Act.put, List.setIfInBounds_toArray, List.set_cons_zero, List.set_cons_succ]
        refine wpAnyH_done (by kernel_rfl) ?_ _
        have HL2 := Lib.hid (show m' + n2 ≤ maxLen ∧ (m' + n2) * 40 ≤ 140737488355328 by have h1 := RS.len j9_z; have h2 := HRl.out; have h3 := HM'.out; simp only [maxLen]; omega)
        have sr := RS.srcm j9_z
        obtain ⟨N, hN⟩ : ∃ N, m' + n2 = N := ⟨_, rfl⟩
        obtain ⟨p1, p2⟩ := HL2.out
        go_wp2_with (at_builtin; refine wpList_append_src _ rfl (.tmp 49) (.tmp 50) _ rfl 37 i0 _ 5 40 Try.underlying32 Hi.out Hz.out Hz1.out Hz2.out p4 (by decide) rfl ht9 rfl sr (rc_one 5 _) p1 p2 N hN ?_; intro A4 q4 G4 V4 s4 g4 m4; obtain ⟨hp4, hs4, hm4, b4⟩ := todo_end l9 hB hp9 hs9 hm9 ht9 g4 hGl hbl hG' hB9.out)
        go_roundw
        case rel => exact ⟨u + 1, A4, N, q4, G4, by omega, by go_num, rfl, by rw [X3.out, rc_append]; exact s4, (fun g e => m4.ge (B := w.heap.size) (Nat.le_trans hwz l9.size) hG' g e), by rw [X2.out]; exact hp4, hs4, hm4, hbr.trans b4⟩
        case measure => simp [intOf]; omega
      · skip
        go_simp
        go_wp2_with fail
        have av_x : wz.heap.size ≤ D33.heap.size := by have := l34.size; omega
        obtain ⟨W35, hW35⟩ : ∃ V, D33.alloc (.cells #[.int .u8 0, .int .i64 0, .int .i64 0, .int .u8 0, .string ⟨#[]⟩, .bool false] 31) = V := ⟨_, rfl⟩
        have zW35 : D33.heap.size = D33.heap.size := by rfl
        have nW35 : CB W35 (D33.heap.size) 31 #[.int .u8 0, .int .i64 0, .int .i64 0, .int .u8 0, .string ⟨#[]⟩, .bool false] := by rw [← zW35, ← hW35]; exact CB.new _ _ _
        have bW35 : Below D33.heap.size D33 W35 := by rw [← hW35]; exact le_al _ _
        have neW35_y : wz.heap.size ≠ D33.heap.size := by have := CB.lt r34_y; omega
        have HW35 := Lib.hid hW35
        clear hW35 zW35
        have r36_y := le_on r34_y bW35
        have l36 := le_tr l34 bW35
        clear r34_y l34
        clear bW35
        rw [HW35.out]
        have y37 := Lib.hid (show (fun V : World => V.cell? ⟨wz.heap.size, 0, none⟩ = some (.int .i64 kd) ∧ V.cell? ⟨wz.heap.size, 1, none⟩ = some (.int .u8 fr) ∧ V.cell? ⟨wz.heap.size, 2, none⟩ = some (.int .u8 (k : Int)) ∧ V.cell? ⟨wz.heap.size, 3, none⟩ = some (.int .i64 e) ∧ V.cell? ⟨wz.heap.size, 4, none⟩ = some (.string mg) ∧ V.cell? ⟨P, k * 6, none⟩ = some (.int .u8 sme) ∧ V.cell? ⟨P, k * 6 + 1, none⟩ = some (.int .i64 sep) ∧ V.cell? ⟨P, k * 6 + 2, none⟩ = some (.int .i64 sst) ∧ V.cell? ⟨P, k * 6 + 3, none⟩ = some (.int .u8 sto) ∧ V.cell? ⟨P, k * 6 + 4, none⟩ = some (.string scg) ∧ V.cell? ⟨P, k * 6 + 5, none⟩ = some (.bool skp)) W35 from ⟨CB.cell r36_y 0, CB.cell r36_y 1, CB.cell r36_y 2, CB.cell r36_y 3, CB.cell r36_y 4, (PM.at_ (PM.on hp l36) hk hS).1, (PM.at_ (PM.on hp l36) hk hS).2.1, (PM.at_ (PM.on hp l36) hk hS).2.2.1, (PM.at_ (PM.on hp l36) hk hS).2.2.2.1, (PM.at_ (PM.on hp l36) hk hS).2.2.2.2.1, (PM.at_ (PM.on hp l36) hk hS).2.2.2.2.2⟩)
        refine hK.out _ _ y37.out (fun hHeld => ?_)
        clear hK K y37
        try simp only [Act.put, List.setIfInBounds_toArray, List.set_cons_zero, List.set_cons_succ]
        refine wpAnyH_ready (rs := [8]) (by kernel_rfl) (by simp) ?_
        refine AllReadyH.cons rfl (fun K hK => ?_) AllReadyH.nil
        go_simp
        refine (H1 _).mono ?_
        rintro e u38 ⟨A2, n2, q2, rfl, hr, b38⟩
        have r39_y := le_on r36_y b38
        have r39_x := le_on nW35 b38
        have l39 := le_tr l36 b38
        clear r36_y nW35 l36
        clear b38
        go_wp2_with fail
        have y40 := Lib.hid (show (fun V : World => V.cell? ⟨wz.heap.size, 0, none⟩ = some (.int .i64 kd) ∧ V.cell? ⟨wz.heap.size, 1, none⟩ = some (.int .u8 fr) ∧ V.cell? ⟨wz.heap.size, 2, none⟩ = some (.int .u8 (k : Int)) ∧ V.cell? ⟨wz.heap.size, 3, none⟩ = some (.int .i64 e) ∧ V.cell? ⟨wz.heap.size, 4, none⟩ = some (.string mg) ∧ V.cell? ⟨P, k * 6, none⟩ = some (.int .u8 sme) ∧ V.cell? ⟨P, k * 6 + 1, none⟩ = some (.int .i64 sep) ∧ V.cell? ⟨P, k * 6 + 2, none⟩ = some (.int .i64 sst) ∧ V.cell? ⟨P, k * 6 + 3, none⟩ = some (.int .u8 sto) ∧ V.cell? ⟨P, k * 6 + 4, none⟩ = some (.string scg) ∧ V.cell? ⟨P, k * 6 + 5, none⟩ = some (.bool skp)) u38 from ⟨CB.cell r39_y 0, CB.cell r39_y 1, CB.cell r39_y 2, CB.cell r39_y 3, CB.cell r39_y 4, (PM.at_ (PM.on hp l39) hk hS).1, (PM.at_ (PM.on hp l39) hk hS).2.1, (PM.at_ (PM.on hp l39) hk hS).2.2.1, (PM.at_ (PM.on hp l39) hk hS).2.2.2.1, (PM.at_ (PM.on hp l39) hk hS).2.2.2.2.1, (PM.at_ (PM.on hp l39) hk hS).2.2.2.2.2⟩)
        refine hK.out _ _ y40.out (fun hHeld => ?_)
        clear hK K y40
        try simp only [Act.put, List.setIfInBounds_toArray, List.set_cons_zero, List.set_cons_succ]
        refine wpAnyH_takeL (i := 9) (d := some 29) (v := .tuple #[.agg #[.int .u8 zme, .int .i64 zep, .int .i64 zst, .int .u8 zto, .string zcg, .bool zkp], .slice A2 n2 q2, .int .i64 (ze : Int)]) rfl rfl (by kernel_rfl) (by kernel_rfl) (by kernel_rfl) (fun _ _ _ h => h) (Or.inl ⟨by rfl, ?_⟩) hHeld ?_
        · intro w hSw; (try dsimp only at hSw); go_simp
        try simp only [Act.put, List.setIfInBounds_toArray, List.set_cons_zero, List.set_cons_succ]
        refine wpAnyH_takeL (i := 10) (d := some 39) (v := .agg #[.int .u8 zme, .int .i64 zep, .int .i64 zst, .int .u8 zto, .string zcg, .bool zkp]) rfl rfl (by kernel_rfl) (by kernel_rfl) (by kernel_rfl) (fun _ _ _ h => h) (Or.inl ⟨by rfl, ?_⟩) hHeld ?_
        · intro w hSw; (try dsimp only at hSw); go_simp
        try simp only [Act.put, List.setIfInBounds_toArray, List.set_cons_zero, List.set_cons_succ]
        refine wpAnyH_takeL (i := 11) (d := some 40) (v := .slice A2 n2 q2) rfl rfl (by kernel_rfl) (by kernel_rfl) (by kernel_rfl) (fun _ _ _ h => h) (Or.inl ⟨by rfl, ?_⟩) hHeld ?_
        · intro w hSw; (try dsimp only at hSw); go_simp
        try simp only [Act.put, List.setIfInBounds_toArray, List.set_cons_zero, List.set_cons_succ]
        refine wpAnyH_takeL (i := 12) (d := some 41) (v := .int .i64 (ze : Int)) rfl rfl (by kernel_rfl) (by kernel_rfl) (by kernel_rfl) (fun _ _ _ h => h) (Or.inl ⟨by rfl, ?_⟩) hHeld ?_
        · intro w hSw; (try dsimp only at hSw); go_simp
        try simp only [Act.put, List.setIfInBounds_toArray, List.set_cons_zero, List.set_cons_succ]
        refine wpAnyH_ready (rs := [14]) (by kernel_rfl) (by simp) ?_
        refine AllReadyH.cons rfl (fun K hK => ?_) AllReadyH.nil
        have f40_x0 : u38.cell? ⟨D33.heap.size, 0, none⟩ = some (.int .u8 0) := CB.cell r39_x 0
        have z40_x0 : u38.frozen? ⟨D33.heap.size, 0, none⟩ = false := CB.frozen r39_x 0
        have f40_x1 : u38.cell? ⟨D33.heap.size, 1, none⟩ = some (.int .i64 0) := CB.cell r39_x 1
        have z40_x1 : u38.frozen? ⟨D33.heap.size, 1, none⟩ = false := CB.frozen r39_x 1
        have f40_x2 : u38.cell? ⟨D33.heap.size, 2, none⟩ = some (.int .i64 0) := CB.cell r39_x 2
        have z40_x2 : u38.frozen? ⟨D33.heap.size, 2, none⟩ = false := CB.frozen r39_x 2
        have f40_x3 : u38.cell? ⟨D33.heap.size, 3, none⟩ = some (.int .u8 0) := CB.cell r39_x 3
        have z40_x3 : u38.frozen? ⟨D33.heap.size, 3, none⟩ = false := CB.frozen r39_x 3
        have f40_x4 : u38.cell? ⟨D33.heap.size, 4, none⟩ = some (.string ⟨#[]⟩) := CB.cell r39_x 4
        have z40_x4 : u38.frozen? ⟨D33.heap.size, 4, none⟩ = false := CB.frozen r39_x 4
        have f40_x5 : u38.cell? ⟨D33.heap.size, 5, none⟩ = some (.bool false) := CB.cell r39_x 5
        have z40_x5 : u38.frozen? ⟨D33.heap.size, 5, none⟩ = false := CB.frozen r39_x 5
        go_simp
        go_wp2_with fail
        have g41_z := (RS.far (RS.far (RS.far (RS.far (RS.far (RS.far hr r39_x (by decide) 0 (.int .u8 zme)) (CB.put r39_x 0 (.int .u8 zme)) (by decide) 1 (.int .i64 zep)) (CB.put (CB.put r39_x 0 (.int .u8 zme)) 1 (.int .i64 zep)) (by decide) 2 (.int .i64 zst)) (CB.put (CB.put (CB.put r39_x 0 (.int .u8 zme)) 1 (.int .i64 zep)) 2 (.int .i64 zst)) (by decide) 3 (.int .u8 zto)) (CB.put (CB.put (CB.put (CB.put r39_x 0 (.int .u8 zme)) 1 (.int .i64 zep)) 2 (.int .i64 zst)) 3 (.int .u8 zto)) (by decide) 4 (.string zcg)) (CB.put (CB.put (CB.put (CB.put (CB.put r39_x 0 (.int .u8 zme)) 1 (.int .i64 zep)) 2 (.int .i64 zst)) 3 (.int .u8 zto)) 4 (.string zcg)) (by decide) 5 (.bool zkp))
        have f40_x0 : u38.cell? ⟨D33.heap.size, 0, none⟩ = some (.int .u8 0) := CB.cell r39_x 0
        have z40_x0 : u38.frozen? ⟨D33.heap.size, 0, none⟩ = false := CB.frozen r39_x 0
        have f40_x1 : u38.cell? ⟨D33.heap.size, 1, none⟩ = some (.int .i64 0) := CB.cell r39_x 1
        have z40_x1 : u38.frozen? ⟨D33.heap.size, 1, none⟩ = false := CB.frozen r39_x 1
        have f40_x2 : u38.cell? ⟨D33.heap.size, 2, none⟩ = some (.int .i64 0) := CB.cell r39_x 2
        have z40_x2 : u38.frozen? ⟨D33.heap.size, 2, none⟩ = false := CB.frozen r39_x 2
        have f40_x3 : u38.cell? ⟨D33.heap.size, 3, none⟩ = some (.int .u8 0) := CB.cell r39_x 3
        have z40_x3 : u38.frozen? ⟨D33.heap.size, 3, none⟩ = false := CB.frozen r39_x 3
        have f40_x4 : u38.cell? ⟨D33.heap.size, 4, none⟩ = some (.string ⟨#[]⟩) := CB.cell r39_x 4
        have z40_x4 : u38.frozen? ⟨D33.heap.size, 4, none⟩ = false := CB.frozen r39_x 4
        have f40_x5 : u38.cell? ⟨D33.heap.size, 5, none⟩ = some (.bool false) := CB.cell r39_x 5
        have z40_x5 : u38.frozen? ⟨D33.heap.size, 5, none⟩ = false := CB.frozen r39_x 5
        obtain ⟨V41, hV41⟩ : ∃ V, (((((u38.setCell ⟨D33.heap.size, 0, none⟩ (.int .u8 zme)).setCell ⟨D33.heap.size, 1, none⟩ (.int .i64 zep)).setCell ⟨D33.heap.size, 2, none⟩ (.int .i64 zst)).setCell ⟨D33.heap.size, 3, none⟩ (.int .u8 zto)).setCell ⟨D33.heap.size, 4, none⟩ (.string zcg)).setCell ⟨D33.heap.size, 5, none⟩ (.bool zkp) = V := ⟨_, rfl⟩
        have nV41 : CB V41 (D33.heap.size) 31 #[.int .u8 zme, .int .i64 zep, .int .i64 zst, .int .u8 zto, .string zcg, .bool zkp] := by rw [← hV41]; exact cb_cast (CB.put (CB.put (CB.put (CB.put (CB.put (CB.put r39_x 0 (.int .u8 zme)) 1 (.int .i64 zep)) 2 (.int .i64 zst)) 3 (.int .u8 zto)) 4 (.string zcg)) 5 (.bool zkp)) (by kernel_rfl)
        have mV41_y : CB V41 (wz.heap.size) 37 #[.int .i64 kd, .int .u8 fr, .int .u8 (k : Int), .int .i64 e, .string mg] := by rw [← hV41]; exact (CB.far (CB.far (CB.far (CB.far (CB.far (CB.far r39_y (p := ⟨D33.heap.size, 0, none⟩) neW35_y (.int .u8 zme)) (p := ⟨D33.heap.size, 1, none⟩) neW35_y (.int .i64 zep)) (p := ⟨D33.heap.size, 2, none⟩) neW35_y (.int .i64 zst)) (p := ⟨D33.heap.size, 3, none⟩) neW35_y (.int .u8 zto)) (p := ⟨D33.heap.size, 4, none⟩) neW35_y (.string zcg)) (p := ⟨D33.heap.size, 5, none⟩) neW35_y (.bool zkp))
        have oV41 := (Below.setCell (Below.setCell (Below.setCell (Below.setCell (Below.setCell (Below.setCell l39 (p := ⟨D33.heap.size, 0, none⟩) (by have := av_x; dsimp only; omega) (.int .u8 zme)) (p := ⟨D33.heap.size, 1, none⟩) (by have := av_x; dsimp only; omega) (.int .i64 zep)) (p := ⟨D33.heap.size, 2, none⟩) (by have := av_x; dsimp only; omega) (.int .i64 zst)) (p := ⟨D33.heap.size, 3, none⟩) (by have := av_x; dsimp only; omega) (.int .u8 zto)) (p := ⟨D33.heap.size, 4, none⟩) (by have := av_x; dsimp only; omega) (.string zcg)) (p := ⟨D33.heap.size, 5, none⟩) (by have := av_x; dsimp only; omega) (.bool zkp))
        rw [hV41] at oV41
        have HV41 := Lib.hid hV41
        have V41_eq := hV41
        clear hV41
        clear r39_x r39_y l39
        have q41_z : RS V41 37 mc 5 A2 n2 q2 zr := by rw [← V41_eq]; exact g41_z
        clear g41_z hr
        clear V41_eq
        rw [HV41.out]
        clear f40_x0 z40_x0 f40_x1 z40_x1 f40_x2 z40_x2 f40_x3 z40_x3 f40_x4 z40_x4 f40_x5 z40_x5
        have y42 := Lib.hid (show (fun V : World => V.cell? ⟨wz.heap.size, 0, none⟩ = some (.int .i64 kd) ∧ V.cell? ⟨wz.heap.size, 1, none⟩ = some (.int .u8 fr) ∧ V.cell? ⟨wz.heap.size, 2, none⟩ = some (.int .u8 (k : Int)) ∧ V.cell? ⟨wz.heap.size, 3, none⟩ = some (.int .i64 e) ∧ V.cell? ⟨wz.heap.size, 4, none⟩ = some (.string mg) ∧ V.cell? ⟨P, k * 6, none⟩ = some (.int .u8 sme) ∧ V.cell? ⟨P, k * 6 + 1, none⟩ = some (.int .i64 sep) ∧ V.cell? ⟨P, k * 6 + 2, none⟩ = some (.int .i64 sst) ∧ V.cell? ⟨P, k * 6 + 3, none⟩ = some (.int .u8 sto) ∧ V.cell? ⟨P, k * 6 + 4, none⟩ = some (.string scg) ∧ V.cell? ⟨P, k * 6 + 5, none⟩ = some (.bool skp)) V41 from ⟨CB.cell mV41_y 0, CB.cell mV41_y 1, CB.cell mV41_y 2, CB.cell mV41_y 3, CB.cell mV41_y 4, (PM.at_ (PM.on hp oV41) hk hS).1, (PM.at_ (PM.on hp oV41) hk hS).2.1, (PM.at_ (PM.on hp oV41) hk hS).2.2.1, (PM.at_ (PM.on hp oV41) hk hS).2.2.2.1, (PM.at_ (PM.on hp oV41) hk hS).2.2.2.2.1, (PM.at_ (PM.on hp oV41) hk hS).2.2.2.2.2⟩)
        refine hK.out _ _ y42.out (fun hHeld => ?_)
        clear hK K y42
        try simp only [Act.put, List.setIfInBounds_toArray, List.set_cons_zero, List.set_cons_succ]
        refine wpAnyH_takeL (i := 15) (d := some 8) (v := .slice A2 n2 q2) rfl rfl (by kernel_rfl) (by kernel_rfl) (by kernel_rfl) (fun _ _ _ h => h) (Or.inl ⟨by rfl, ?_⟩) hHeld ?_
        · intro w hSw; (try dsimp only at hSw); go_simp
        try simp only [Act.put, List.setIfInBounds_toArray, List.set_cons_zero, List.set_cons_succ]
        refine wpAnyH_takeL (i := 16) (d := some 9) (v := .int .i64 (ze : Int)) rfl rfl (by kernel_rfl) (by kernel_rfl) (by kernel_rfl) (fun _ _ _ h => h) (Or.inl ⟨by rfl, ?_⟩) hHeld ?_
        · intro w hSw; (try dsimp only at hSw); go_simp
        try simp only [Act.put, List.setIfInBounds_toArray, List.set_cons_zero, List.set_cons_succ]
        refine wpAnyH_done (by kernel_rfl) ?_ _
        have f42_y0 : V41.cell? ⟨wz.heap.size, 0, none⟩ = some (.int .i64 kd) := CB.cell mV41_y 0
        have f42_y1 : V41.cell? ⟨wz.heap.size, 1, none⟩ = some (.int .u8 fr) := CB.cell mV41_y 1
        have f42_y2 : V41.cell? ⟨wz.heap.size, 2, none⟩ = some (.int .u8 (k : Int)) := CB.cell mV41_y 2
        have f42_y3 : V41.cell? ⟨wz.heap.size, 3, none⟩ = some (.int .i64 e) := CB.cell mV41_y 3
        have f42_y4 : V41.cell? ⟨wz.heap.size, 4, none⟩ = some (.string mg) := CB.cell mV41_y 4
        have f42_x0 : V41.cell? ⟨D33.heap.size, 0, none⟩ = some (.int .u8 zme) := CB.cell nV41 0
        have f42_x1 : V41.cell? ⟨D33.heap.size, 1, none⟩ = some (.int .i64 zep) := CB.cell nV41 1
        have f42_x2 : V41.cell? ⟨D33.heap.size, 2, none⟩ = some (.int .i64 zst) := CB.cell nV41 2
        have f42_x3 : V41.cell? ⟨D33.heap.size, 3, none⟩ = some (.int .u8 zto) := CB.cell nV41 3
        have f42_x4 : V41.cell? ⟨D33.heap.size, 4, none⟩ = some (.string zcg) := CB.cell nV41 4
        have f42_x5 : V41.cell? ⟨D33.heap.size, 5, none⟩ = some (.bool zkp) := CB.cell nV41 5
        go_wp2_with fail
        clear f42_y0 f42_y1 f42_y2 f42_y3 f42_y4 f42_x0 f42_x1 f42_x2 f42_x3 f42_x4 f42_x5
        go_wp2_with fail
        have y43 := Lib.hid (show (fun V : World => V.cell? ⟨wz.heap.size, 0, none⟩ = some (.int .i64 kd) ∧ V.cell? ⟨wz.heap.size, 1, none⟩ = some (.int .u8 fr) ∧ V.cell? ⟨wz.heap.size, 2, none⟩ = some (.int .u8 (k : Int)) ∧ V.cell? ⟨wz.heap.size, 3, none⟩ = some (.int .i64 e) ∧ V.cell? ⟨wz.heap.size, 4, none⟩ = some (.string mg) ∧ V.cell? ⟨D33.heap.size, 0, none⟩ = some (.int .u8 zme) ∧ V.cell? ⟨D33.heap.size, 1, none⟩ = some (.int .i64 zep) ∧ V.cell? ⟨D33.heap.size, 2, none⟩ = some (.int .i64 zst) ∧ V.cell? ⟨D33.heap.size, 3, none⟩ = some (.int .u8 zto) ∧ V.cell? ⟨D33.heap.size, 4, none⟩ = some (.string zcg) ∧ V.cell? ⟨D33.heap.size, 5, none⟩ = some (.bool zkp)) V41 from ⟨CB.cell mV41_y 0, CB.cell mV41_y 1, CB.cell mV41_y 2, CB.cell mV41_y 3, CB.cell mV41_y 4, CB.cell nV41 0, CB.cell nV41 1, CB.cell nV41 2, CB.cell nV41 3, CB.cell nV41 4, CB.cell nV41 5⟩)
        refine wp_region_held_drew (S := (fun V : World => V.cell? ⟨wz.heap.size, 0, none⟩ = some (.int .i64 kd) ∧ V.cell? ⟨wz.heap.size, 1, none⟩ = some (.int .u8 fr) ∧ V.cell? ⟨wz.heap.size, 2, none⟩ = some (.int .u8 (k : Int)) ∧ V.cell? ⟨wz.heap.size, 3, none⟩ = some (.int .i64 e) ∧ V.cell? ⟨wz.heap.size, 4, none⟩ = some (.string mg) ∧ V.cell? ⟨D33.heap.size, 0, none⟩ = some (.int .u8 zme) ∧ V.cell? ⟨D33.heap.size, 1, none⟩ = some (.int .i64 zep) ∧ V.cell? ⟨D33.heap.size, 2, none⟩ = some (.int .i64 zst) ∧ V.cell? ⟨D33.heap.size, 3, none⟩ = some (.int .u8 zto) ∧ V.cell? ⟨D33.heap.size, 4, none⟩ = some (.string zcg) ∧ V.cell? ⟨D33.heap.size, 5, none⟩ = some (.bool zkp))) (by kernel_rfl) y43.out (fun hHeld => ?_)
        obtain ⟨D43, hD43⟩ : ∃ V, V41.drew = V := ⟨_, rfl⟩
        have b43 : Below V41.heap.size V41 D43 := by rw [← hD43]; exact le_dr (Below.refl _ _)
        rw [hD43] at hHeld ⊢
        clear hD43
        have q44_z := RS.on q41_z b43
        have r44_y := le_on mV41_y b43
        have r44_x := le_on nV41 b43
        have l44 := le_tr oV41 b43
        clear mV41_y nV41 oV41
        clear q41_z
        clear b43
        refine wpAnyH_takeL (i := 0) (d := some 42) (v := .pointer (some ⟨P, 0, none⟩)) rfl rfl (by kernel_rfl) (by kernel_rfl) (by kernel_rfl) (fun _ _ _ h => h) (Or.inl ⟨by rfl, ?_⟩) hHeld ?_
        · intro w hSw; (try dsimp only at hSw); go_simp
        try simp only [Act.put, List.setIfInBounds_toArray, List.set_cons_zero, List.set_cons_succ]
        refine wpAnyH_takeL (i := 1) (d := some 43) (v := .pointer (some ⟨wz.heap.size, 2, none⟩)) rfl rfl (by kernel_rfl) (by kernel_rfl) (by kernel_rfl) (fun _ _ _ h => h) (Or.inl ⟨by rfl, ?_⟩) hHeld ?_
        · intro w hSw; (try dsimp only at hSw); go_simp
        try simp only [Act.put, List.setIfInBounds_toArray, List.set_cons_zero, List.set_cons_succ]
        refine wpAnyH_takeL (i := 2) (d := some 44) (v := .int .u8 (k : Int)) rfl rfl (by kernel_rfl) (by kernel_rfl) (by kernel_rfl) (fun _ _ _ h => h) (Or.inl ⟨by rfl, ?_⟩) hHeld ?_
        · intro w hSw; (try dsimp only at hSw); go_simp
        try simp only [Act.put, List.setIfInBounds_toArray, List.set_cons_zero, List.set_cons_succ]
        refine wpAnyH_takeL (i := 3) (d := some 45) (v := .agg #[.int .u8 zme, .int .i64 zep, .int .i64 zst, .int .u8 zto, .string zcg, .bool zkp]) rfl rfl (by kernel_rfl) (by kernel_rfl) (by kernel_rfl) (fun _ _ _ h => h) (Or.inl ⟨by rfl, ?_⟩) hHeld ?_
        · intro w hSw; (try dsimp only at hSw); go_simp
        try simp only [Act.put, List.setIfInBounds_toArray, List.set_cons_zero, List.set_cons_succ]
        refine wpAnyH_takeL (i := 4) (d := some 46) (v := .pointer (some ⟨P, 0, none⟩)) rfl rfl (by kernel_rfl) (by kernel_rfl) (by kernel_rfl) (fun _ _ _ h => h) (Or.inl ⟨by rfl, ?_⟩) hHeld ?_
        · intro w hSw; (try dsimp only at hSw); go_simp
        try simp only [Act.put, List.setIfInBounds_toArray, List.set_cons_zero, List.set_cons_succ]
        refine wpAnyH_takeL (i := 5) (d := some 47) (v := .pointer (some ⟨P, 0, none⟩)) rfl rfl (by kernel_rfl) (by kernel_rfl) (by kernel_rfl) (fun _ _ _ h => h) (Or.inl ⟨by rfl, ?_⟩) hHeld ?_
        · intro w hSw; (try dsimp only at hSw); go_simp
        try simp only [Act.put, List.setIfInBounds_toArray, List.set_cons_zero, List.set_cons_succ]
        refine wpAnyH_takeL (i := 6) (d := some 48) (v := .pointer (some ⟨P, k * 6, none⟩)) rfl rfl (by kernel_rfl) (by kernel_rfl) (by kernel_rfl) (fun _ _ _ h => h) (Or.inl ⟨by rfl, ?_⟩) hHeld ?_
        · intro w hSw; (try dsimp only at hSw); go_simp
        try simp only [Act.put, List.setIfInBounds_toArray, List.set_cons_zero, List.set_cons_succ]
        refine wpAnyH_ready (rs := [7]) (by kernel_rfl) (by simp) ?_
        refine AllReadyH.cons rfl (fun K hK => ?_) AllReadyH.nil
        have f44_ps0 : D43.cell? ⟨P, k * 6, none⟩ = some (.int .u8 sme) := (PM.at_ (PM.on hp l44) hk hS).1
        have f44_ps1 : D43.cell? ⟨P, k * 6 + 1, none⟩ = some (.int .i64 sep) := (PM.at_ (PM.on hp l44) hk hS).2.1
        have f44_ps2 : D43.cell? ⟨P, k * 6 + 2, none⟩ = some (.int .i64 sst) := (PM.at_ (PM.on hp l44) hk hS).2.2.1
        have f44_ps3 : D43.cell? ⟨P, k * 6 + 3, none⟩ = some (.int .u8 sto) := (PM.at_ (PM.on hp l44) hk hS).2.2.2.1
        have f44_ps4 : D43.cell? ⟨P, k * 6 + 4, none⟩ = some (.string scg) := (PM.at_ (PM.on hp l44) hk hS).2.2.2.2.1
        have f44_ps5 : D43.cell? ⟨P, k * 6 + 5, none⟩ = some (.bool skp) := (PM.at_ (PM.on hp l44) hk hS).2.2.2.2.2
        have z44_ps0 : D43.frozen? ⟨P, k * 6, none⟩ = false := PM.froz (PM.on hp l44) _
        have z44_ps1 : D43.frozen? ⟨P, k * 6 + 1, none⟩ = false := PM.froz (PM.on hp l44) _
        have z44_ps2 : D43.frozen? ⟨P, k * 6 + 2, none⟩ = false := PM.froz (PM.on hp l44) _
        have z44_ps3 : D43.frozen? ⟨P, k * 6 + 3, none⟩ = false := PM.froz (PM.on hp l44) _
        have z44_ps4 : D43.frozen? ⟨P, k * 6 + 4, none⟩ = false := PM.froz (PM.on hp l44) _
        have z44_ps5 : D43.frozen? ⟨P, k * 6 + 5, none⟩ = false := PM.froz (PM.on hp l44) _
        go_simp
        go_wp2_with fail
        obtain ⟨V9, hV9, hp9, hs9, hm9, hl9, hk9, hr9, hq9⟩ := PM.put6 (PM.on hp l44) (Seg.on hs l44) (MH.on hm l44) hk zme zep zst zto zcg zkp
        have j9_y := hk9 _ _ _ (PM.ne (PM.on hp l44) r44_y (by decide)) r44_y
        have j9_x := hk9 _ _ _ (PM.ne (PM.on hp l44) r44_x (by decide)) r44_x
        have j9_z := hr9 _ _ _ _ q44_z
        have ht9 := hq9 _ _ _ _ _ (Seg.on htd l44)
        have l9 := hl9 _ _ (Below.mono l44 hB) hP
        rw [hV9]
        clear hV9 hk9 hl9 hr9 hq9
        have y45 := Lib.hid (show (fun V : World => V.cell? ⟨wz.heap.size, 0, none⟩ = some (.int .i64 kd) ∧ V.cell? ⟨wz.heap.size, 1, none⟩ = some (.int .u8 fr) ∧ V.cell? ⟨wz.heap.size, 2, none⟩ = some (.int .u8 (k : Int)) ∧ V.cell? ⟨wz.heap.size, 3, none⟩ = some (.int .i64 e) ∧ V.cell? ⟨wz.heap.size, 4, none⟩ = some (.string mg) ∧ V.cell? ⟨D33.heap.size, 0, none⟩ = some (.int .u8 zme) ∧ V.cell? ⟨D33.heap.size, 1, none⟩ = some (.int .i64 zep) ∧ V.cell? ⟨D33.heap.size, 2, none⟩ = some (.int .i64 zst) ∧ V.cell? ⟨D33.heap.size, 3, none⟩ = some (.int .u8 zto) ∧ V.cell? ⟨D33.heap.size, 4, none⟩ = some (.string zcg) ∧ V.cell? ⟨D33.heap.size, 5, none⟩ = some (.bool zkp)) V9 from ⟨CB.cell j9_y 0, CB.cell j9_y 1, CB.cell j9_y 2, CB.cell j9_y 3, CB.cell j9_y 4, CB.cell j9_x 0, CB.cell j9_x 1, CB.cell j9_x 2, CB.cell j9_x 3, CB.cell j9_x 4, CB.cell j9_x 5⟩)
        refine hK.out _ _ y45.out (fun hHeld => ?_)
        clear hK K y45
        try simp only [Act.put, List.setIfInBounds_toArray, List.set_cons_zero, List.set_cons_succ]
        refine wpAnyH_done (by kernel_rfl) ?_ _
        have HL2 := Lib.hid (show m' + n2 ≤ maxLen ∧ (m' + n2) * 40 ≤ 140737488355328 by have h1 := RS.len j9_z; have h2 := HRl.out; have h3 := HM'.out; simp only [maxLen]; omega)
        have sr := RS.srcm j9_z
        obtain ⟨N, hN⟩ : ∃ N, m' + n2 = N := ⟨_, rfl⟩
        obtain ⟨p1, p2⟩ := HL2.out
        go_wp2_with (at_builtin; refine wpList_append_src _ rfl (.tmp 49) (.tmp 50) _ rfl 37 i0 _ 5 40 Try.underlying32 Hi.out Hz.out Hz1.out Hz2.out p4 (by decide) rfl ht9 rfl sr (rc_one 5 _) p1 p2 N hN ?_; intro A4 q4 G4 V4 s4 g4 m4; obtain ⟨hp4, hs4, hm4, b4⟩ := todo_end l9 hB hp9 hs9 hm9 ht9 g4 hGl hbl hG' hB9.out)
        go_roundw
        case rel => exact ⟨u + 1, A4, N, q4, G4, by omega, by go_num, rfl, by rw [X3.out, rc_append]; exact s4, (fun g e => m4.ge (B := w.heap.size) (Nat.le_trans hwz l9.size) hG' g e), by rw [X2.out]; exact hp4, hs4, hm4, hbr.trans b4⟩
        case measure => simp [intOf]; omega
    · obtain rfl : u = 2 := by omega
      have hm' : m' = 2 := by rw [← hlen]; rfl
      subst hm'
      have t1 : decide (((2 : Nat) : Int) < ((2 : Nat) : Int)) = false := by decide
      go_wp2_with fail
      exact bodyPost_ret (v := .tuple #[]) (by simp [results, Try.results25, go_sem]) rfl ⟨⟨_, rfl⟩, ⟨⟨A, n, q, G, bm, hp, hs, hG, hm, hbm⟩, hP⟩, hbr⟩
end Go.Proofs.Ytmghckddofefkaa
