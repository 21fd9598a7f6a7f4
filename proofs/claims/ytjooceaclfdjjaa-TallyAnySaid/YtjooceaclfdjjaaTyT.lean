/-
  The law TallyAny, walked. Condition: the lists can be read.
-/
import Derived.Test.YtjooceaclfdjjaaTyL
set_option linter.unusedVariables false
set_option linter.unusedSimpArgs false
namespace Go.Proofs.Ytjooceaclfdjjaa
open Go.RowKit

section
variable {P : Program} {ops : Array Oper} {o : Oper} {a : Act} {w : World} {K : Act → World → Prop} {Q : Exit → Act → World → Prop}
theorem rd_store (hgd : o.guard = none) (T : TypeId) (x y : Operand) (ho : o.op = .store T x y) (d : Option Tmp) (hd : o.dst = d) (g : Nat) (cs : Array Value) (hx : a.eval x = .pointer (some ⟨g, 0, none⟩)) (hy : a.eval y = .agg cs) {U : TypeId} {old : Array Value} (h : CB w g U old)
    (hi : (P.info? T).map (·.size) = some cs.size) (hold : old.size = cs.size) (h1 : cs.all (·.oneCell') = true)
    (k : Sh (∀ V, CB V g U cs → Wr w V g → K (a.put d undef) V)) : if Region.wanted o (yielded ops a.tmps) = true then Oper.wp P o a w K Q else K (a.put o.dst undef) w := by
  subst hd
  rw [if_pos (by simp [Region.wanted, hgd])]
  exact wp_store_row T x y ho g cs hx hy U old h hi hold h1 (k.out _ (CB.row h cs) (Wr.row h cs))
theorem rd_alloc (hgd : o.guard = none) (T : TypeId) (ho : o.op = .alloc T) (d : Option Tmp) (hd : o.dst = d) (cs : Array Value) (hz : ∀ V : World, (zeroValue T).run P V = .ok (.agg cs) V)
    (k : Sh (∀ V g, CB V g T cs → Fr w V g → K (a.put d (.pointer (some ⟨g, 0, none⟩))) V)) : if Region.wanted o (yielded ops a.tmps) = true then Oper.wp P o a w K Q else K (a.put o.dst undef) w := by
  subst hd
  rw [if_pos (by simp [Region.wanted, hgd])]
  unfold Oper.wp execOp
  simp only [ho, Instr.alloc, hz, Sem.run_bind, newVar, newRow, run_newObj_alloc, Sem.run_pure, Result.andThen_ok]
  exact k.out _ _ (CB.new w T cs) ⟨rfl, le_al _ _⟩
end
theorem RS.wr {w V : World} {T T' : TypeId} {A : Option Addr} {n c : Nat} {L : List Nat} {g : Nat} {cs : Array Value} (h : RS w T uc 1 A n c L) (k : Wr w V g) (hb : CB w g T' cs) (hne : T ≠ T') : RS V T uc 1 A n c L := by
  obtain ⟨G, hs⟩ := h
  exact ⟨G, hs.keep fun g' hg' => k.far g' fun e => hs.ne_ hb hne (by rw [hg', e])⟩
theorem Try.infoB : (Try.prog.info? 5).map (fun i => (i.zero, i.size, i.bytes)) = some (some (.int .u8 0), 1, 1) := by kernel_rfl
set_option maxHeartbeats 1000000 in
theorem vote_c (g x : Nat) (f : Nat → Bool) (w : World) (h : CB w g 22 (bA f)) (hx : x < 8) : Calls Try.prog 22 #[.int .u8 (x : Int), .pointer (some ⟨g, 0, none⟩)] w fun r w' => r = .returned (.int .i64 (vB f x)) ∧ Below w.heap.size w w' := by
  have j1 : (x : Int) < 8 := by omega
  have j2 : (0 : Int) ≤ (x : Int) := by omega
  have htm : (x : Int).tmod 8 = (x : Int) := by rw [Int.tmod_eq_emod_of_nonneg j2]; omega
  have cx := (CB.cell h x).trans (bA_get f hx)
  cases hf : f x with
  | true =>
    rw [hf] at cx
    have H := Lib.hid (show vB f x = 1 by unfold vB; rw [hf]; rfl)
    clear hf
    go_enter Try.func22, Try.ntmps22
    go_wp2_with fail
    go_ret
    exact ⟨by rw [H.out]; rfl, Below.refl _ _⟩
  | false =>
    rw [hf] at cx
    have H := Lib.hid (show vB f x = 2 by unfold vB; rw [hf]; rfl)
    clear hf
    go_enter Try.func22, Try.ntmps22
    go_wp2_with fail
    go_ret
    exact ⟨by rw [H.out]; rfl, Below.refl _ _⟩
theorem tmod_nat (q k : Nat) : (q : Int).tmod (k : Int) = ((q % k : Nat) : Int) := by rw [Int.tmod_eq_emod_of_nonneg (Int.natCast_nonneg q)]; rfl
theorem any_take {L : List Nat} {f : Nat → Bool} {P : List Nat} {k x : Nat} (h : okL L) (hP : ∀ j ∈ P, j ∈ L) (hx : P[k]? = some x) :
    ePut (anyT L f (memF (P.take k))) x 5 (vB f x) = 0 ∧ sPut (anyT L f (memF (P.take k))) x 5 (vB f x) = anyT L f (memF (P.take (k + 1))) := by
  rw [memF_next hx]
  exact any_put h (fun j hj => hP j (mem_take hj)) (hP x (List.mem_of_getElem? hx))
set_option maxRecDepth 100000 in
set_option maxHeartbeats 4000000 in
theorem any_walk (A : Option Addr) (n c : Nat) (L : List Nat) (f : Nat → Bool) (B : Option Addr) (m d : Nat) (O : List Nat) (w : World) (h : RR w uc 1 A n c L) (h2 : RR w uc 1 B m d O) (hO : ∀ q ∈ O, q < 256) : Calls Try.prog 5 #[.slice A n c, .agg (bA f), .slice B m d] w fun r w' => r = .returned (.bool true) ∧ Below w.heap.size w w' := by
  have hl := h.len
  have hl2 := h2.len
  have hmx : n ≤ maxLen := Nat.le_trans h.cap h.max
  have hmx2 : m ≤ maxLen := Nat.le_trans h2.cap h2.max
  simp only [maxLen] at hmx hmx2
  have ru := RU.start h
  have rv := RU.start h2
  clear h h2
  have N1 := fun W h => new_c A n c L W h
  by_cases h1 : 100 < n
  · have q1 : decide (100 < n) = true := by simp; omega
    have q1i : decide ((100 : Int) < (n : Int)) = true := by simp; omega
    go_enter Try.func5, Try.ntmps5
    go_wp2_with (first | ((with_reducible refine st_box 22 _ (bA f) ?_ ?_); exact rfl))
    refine ⟨fun V1 g1 n1 f1 => ?_⟩
    have up1 : w.heap.size ≤ g1 := Nat.le_of_eq f1.at_
    have bl1 := f1.bel
    clear f1
    have r2_ru := (ru).on bl1
    have r2_rv := (rv).on bl1
    have l2 := le_tr (Below.refl _ _) bl1
    clear ru rv
    clear bl1
    go_wp2_with fail
    refine (alive_c _).mono ?_
    rintro e w3 ⟨rfl, b3⟩
    have r4_v := le_on n1 b3
    have r4_ru := (r2_ru).on b3
    have r4_rv := (r2_rv).on b3
    have l4 := le_tr l2 b3
    clear n1 r2_ru r2_rv l2
    clear b3
    go_wp2_with fail
    go_ret
    exact ⟨rfl, l4⟩
  have q1 : decide (100 < n) = false := by simp; omega
  have q1i : decide ((100 : Int) < (n : Int)) = false := by simp; omega
  by_cases h2 : 100 < m
  · have q2 : decide (100 < m) = true := by simp; omega
    have q2i : decide ((100 : Int) < (m : Int)) = true := by simp; omega
    go_enter Try.func5, Try.ntmps5
    go_wp2_with (first | ((with_reducible refine st_box 22 _ (bA f) ?_ ?_); exact rfl))
    refine ⟨fun V1 g1 n1 f1 => ?_⟩
    have up1 : w.heap.size ≤ g1 := Nat.le_of_eq f1.at_
    have bl1 := f1.bel
    clear f1
    have r2_ru := (ru).on bl1
    have r2_rv := (rv).on bl1
    have l2 := le_tr (Below.refl _ _) bl1
    clear ru rv
    clear bl1
    go_wp2_with fail
    refine (alive_c _).mono ?_
    rintro e w3 ⟨rfl, b3⟩
    have r4_v := le_on n1 b3
    have r4_ru := (r2_ru).on b3
    have r4_rv := (r2_rv).on b3
    have l4 := le_tr l2 b3
    clear n1 r2_ru r2_rv l2
    clear b3
    go_wp2_with fail
    go_ret
    exact ⟨rfl, l4⟩
  have q2 : decide (100 < m) = false := by simp; omega
  have q2i : decide ((100 : Int) < (m : Int)) = false := by simp; omega
  by_cases ho : okL L
  · rw [sNew_0 ho, eNew_0 ho] at N1
    have hn8 := okL_len ho
    have hn0 : n ≠ 0 := by rintro rfl; exact ho.1 (List.eq_nil_of_length_eq_zero hl)
    have hn8' : n ≤ 8 := by omega
    clear hn8
    go_enter Try.func5, Try.ntmps5
    go_wp2_with (first | ((with_reducible refine st_box 22 _ (bA f) ?_ ?_); exact rfl))
    refine ⟨fun V1 g1 n1 f1 => ?_⟩
    have up1 : w.heap.size ≤ g1 := Nat.le_of_eq f1.at_
    have bl1 := f1.bel
    clear f1
    have r2_ru := (ru).on bl1
    have r2_rv := (rv).on bl1
    have l2 := le_tr (Below.refl _ _) bl1
    clear ru rv
    clear bl1
    go_wp2_with fail
    refine (alive_c _).mono ?_
    rintro e w3 ⟨rfl, b3⟩
    have r4_v := le_on n1 b3
    have r4_ru := (r2_ru).on b3
    have r4_rv := (r2_rv).on b3
    have l4 := le_tr l2 b3
    clear n1 r2_ru r2_rv l2
    clear b3
    go_wp2_with fail
    refine (N1 _ (r4_ru).rr).mono ?_
    rintro e w5 ⟨rfl, b5⟩
    have r6_v := le_on r4_v b5
    have r6_ru := (r4_ru).on b5
    have r6_rv := (r4_rv).on b5
    have l6 := le_tr l4 b5
    clear r4_v r4_ru r4_rv l4
    clear b5
    go_wp2_with (first | ((with_reducible refine st_alloc 30 (tA zeroY) ?_ ?_); exact zero_c))
    refine ⟨fun V7 g7 n7 f7 => ?_⟩
    have ne7_v := f7.ne r6_v
    have up7 : w.heap.size ≤ g7 := f7.up l6
    have bl7 := f7.bel
    clear f7
    have r8_v := le_on r6_v bl7
    have r8_ru := (r6_ru).on bl7
    have r8_rv := (r6_rv).on bl7
    have l8 := le_tr l6 bl7
    clear r6_v r6_ru r6_rv l6
    clear bl7
    go_wp2_with (first | ((with_reducible refine st_store 30 _ _ g7 (tA (Ty.mk (memF L) (fun _ => 0) (fun _ => 0))) ?_ ?_ n7 ?_ ?_ ?_ ?_); exact rfl; exact rfl; exact Try.zTc; exact rfl; exact tA_one _))
    refine ⟨fun V9 n9 k9 => ?_⟩
    have m9_v := k9.on r8_v ne7_v
    have m9_ru := (r8_ru).wr k9 up7
    have m9_rv := (r8_rv).wr k9 up7
    have o9 := k9.bel _ _ l8 up7
    clear k9
    clear n7 r8_v r8_ru r8_rv l8
    go_wp2_with fail
    refine (N1 _ (m9_ru).rr).mono ?_
    rintro e w10 ⟨rfl, b10⟩
    have r11_v := le_on m9_v b10
    have r11_a := le_on n9 b10
    have r11_ru := (m9_ru).on b10
    have r11_rv := (m9_rv).on b10
    have l11 := le_tr o9 b10
    clear m9_v n9 m9_ru m9_rv o9
    clear b10
    go_wp2_with (first | ((with_reducible refine st_alloc 30 (tA zeroY) ?_ ?_); exact zero_c))
    refine ⟨fun V12 g12 n12 f12 => ?_⟩
    have ne12_v := f12.ne r11_v
    have ne12_a := f12.ne r11_a
    have up12 : w.heap.size ≤ g12 := f12.up l11
    have bl12 := f12.bel
    clear f12
    have r13_v := le_on r11_v bl12
    have r13_a := le_on r11_a bl12
    have r13_ru := (r11_ru).on bl12
    have r13_rv := (r11_rv).on bl12
    have l13 := le_tr l11 bl12
    clear r11_v r11_a r11_ru r11_rv l11
    clear bl12
    go_wp2_with (first | ((with_reducible refine st_store 30 _ _ g12 (tA (Ty.mk (memF L) (fun _ => 0) (fun _ => 0))) ?_ ?_ n12 ?_ ?_ ?_ ?_); exact rfl; exact rfl; exact Try.zTc; exact rfl; exact tA_one _))
    refine ⟨fun V14 n14 k14 => ?_⟩
    have m14_v := k14.on r13_v ne12_v
    have m14_a := k14.on r13_a ne12_a
    have m14_ru := (r13_ru).wr k14 up12
    have m14_rv := (r13_rv).wr k14 up12
    have o14 := k14.bel _ _ l13 up12
    clear k14
    clear n12 r13_v r13_a r13_ru r13_rv l13
    go_wp2_with fail
    have z0 : tA (Ty.mk (memF L) (fun _ => 0) (fun _ => 0)) = tA (anyT L f (memF (L.take 0))) := by rw [memF_zero, any_start]
    have za := cb_cast m14_a z0
    have zb := cb_cast n14 z0
    clear m14_a n14 z0 N1
    go_loopw [57] (fun iv wr => ∃ k : Nat, k ≤ n ∧ iv = .int .i64 k ∧ CB wr g7 30 (tA (anyT L f (memF (L.take k)))) ∧ CB wr g12 30 (tA (anyT L f (memF (L.take 0)))) ∧ CB wr g1 22 (bA f) ∧ RU w wr A n c L ∧ RU w wr B m d O ∧ Below w.heap.size w wr) (fun iv _ => n - (intOf iv).toNat)
    case atStart => exact ⟨0, by omega, rfl, za, zb, m14_v, m14_ru, m14_rv, o14⟩
    case round =>
      clear za zb m14_v m14_ru m14_rv o14
      obtain ⟨k, hk, rfl, ha, hbb, hvv, hu, hv, hb⟩ := hrel
      by_cases hlt : k < n
      · have l1 : (k : Int) < n := by omega
        have l2 : (0 : Int) ≤ (k : Int) := by omega
        obtain ⟨gs, ofs, x, hx, hA, cx⟩ := hu.rr.u8 hlt
        have h8 : x < 8 := ho.2.1 x (List.mem_of_getElem? hx)
        have hp := any_take (f := f) ho (fun j hj => hj) hx
        have P1 := fun W => put_c (anyT L f (memF (L.take k))) x 5 (vB f x) W
        rw [hp.1, hp.2] at P1
        clear hp hx
        subst hA
        go_wp2_with fail
        have y101 := Lib.hid (show (fun V : World => CB V g7 30 (tA (anyT L f (memF (L.take k)))) ∧ CB V g1 22 (bA f)) wr from ⟨ha, hvv⟩)
        refine wp_region_held_drew (S := (fun V : World => CB V g7 30 (tA (anyT L f (memF (L.take k)))) ∧ CB V g1 22 (bA f))) (by kernel_rfl) y101.out (fun hHeld => ?_)
        obtain ⟨D101, hD101⟩ : ∃ V, wr.drew = V := ⟨_, rfl⟩
        have b101 : Below wr.heap.size wr D101 := by rw [← hD101]; exact le_dr (Below.refl _ _)
        rw [hD101] at hHeld ⊢
        clear hD101
        have r102_a := le_on ha b101
        have r102_b := le_on hbb b101
        have r102_v := le_on hvv b101
        have r102_ru := (hu).on b101
        have r102_rv := (hv).on b101
        have l102 := le_tr hb b101
        clear ha hbb hvv hu hv hb
        clear b101
        refine wpAnyH_takeL (i := 0) (d := some 62) (v := .agg (tA (anyT L f (memF (L.take k))))) rfl rfl (by kernel_rfl) (by kernel_rfl) (by kernel_rfl) (fun _ _ _ h => h) (Or.inl ⟨by rfl, ?_⟩) hHeld ?_
        · intro w hSw; exact yl_whole 30 _ g7 rfl hSw.1 Try.underlying30 rfl Try.zTc
        try simp only [Act.put, List.setIfInBounds_toArray, List.set_cons_zero, List.set_cons_succ]
        refine wpAnyH_takeL (i := 1) (d := some 63) (v := .int .u8 (x : Int)) rfl rfl (by kernel_rfl) (by kernel_rfl) (by kernel_rfl) (fun _ _ _ h => h) (Or.inl ⟨by rfl, ?_⟩) hHeld ?_
        · intro w hSw; (try dsimp only at hSw); go_simp
        try simp only [Act.put, List.setIfInBounds_toArray, List.set_cons_zero, List.set_cons_succ]
        refine wpAnyH_takeL (i := 2) (d := some 64) (v := .func (.func 22) #[] #[.pointer (some ⟨g1, 0, none⟩)]) rfl rfl (by kernel_rfl) (by kernel_rfl) (by kernel_rfl) (fun _ _ _ h => h) (Or.inl ⟨by rfl, ?_⟩) hHeld ?_
        · intro w hSw; (try dsimp only at hSw); go_simp
        try simp only [Act.put, List.setIfInBounds_toArray, List.set_cons_zero, List.set_cons_succ]
        refine wpAnyH_takeL (i := 3) (d := some 65) (v := .int .u8 (x : Int)) rfl rfl (by kernel_rfl) (by kernel_rfl) (by kernel_rfl) (fun _ _ _ h => h) (Or.inl ⟨by rfl, ?_⟩) hHeld ?_
        · intro w hSw; (try dsimp only at hSw); go_simp
        try simp only [Act.put, List.setIfInBounds_toArray, List.set_cons_zero, List.set_cons_succ]
        refine wpAnyH_ready (rs := [4, 9]) (by kernel_rfl) (by simp) ?_
        refine AllReadyH.cons rfl (fun K hK => ?_) (AllReadyH.cons rfl (fun K hK => ?_) AllReadyH.nil)
        · skip
          go_simp
          refine (vote_c _ x f _ r102_v h8).mono ?_
          rintro e u103 ⟨rfl, b103⟩
          have r104_a := le_on r102_a b103
          have r104_b := le_on r102_b b103
          have r104_v := le_on r102_v b103
          have r104_ru := (r102_ru).on b103
          have r104_rv := (r102_rv).on b103
          have l104 := le_tr l102 b103
          clear r102_a r102_b r102_v r102_ru r102_rv l102
          clear b103
          go_wp2_with fail
          have y105 := Lib.hid (show (fun V : World => CB V g7 30 (tA (anyT L f (memF (L.take k)))) ∧ CB V g1 22 (bA f)) u103 from ⟨r104_a, r104_v⟩)
          refine hK.out _ _ y105.out (fun hHeld => ?_)
          clear hK K y105
          try simp only [Act.put, List.setIfInBounds_toArray, List.set_cons_zero, List.set_cons_succ]
          refine wpAnyH_ready (rs := [5, 9]) (by kernel_rfl) (by simp) ?_
          refine AllReadyH.cons rfl (fun K hK => ?_) (AllReadyH.cons rfl (fun K hK => ?_) AllReadyH.nil)
          · skip
            go_simp
            refine (P1 _).mono ?_
            rintro e u106 ⟨rfl, b106⟩
            have r107_a := le_on r104_a b106
            have r107_b := le_on r104_b b106
            have r107_v := le_on r104_v b106
            have r107_ru := (r104_ru).on b106
            have r107_rv := (r104_rv).on b106
            have l107 := le_tr l104 b106
            clear r104_a r104_b r104_v r104_ru r104_rv l104
            clear b106
            go_wp2_with fail
            have y108 := Lib.hid (show (fun V : World => CB V g7 30 (tA (anyT L f (memF (L.take k)))) ∧ CB V g1 22 (bA f)) u106 from ⟨r107_a, r107_v⟩)
            refine hK.out _ _ y108.out (fun hHeld => ?_)
            clear hK K y108
            try simp only [Act.put, List.setIfInBounds_toArray, List.set_cons_zero, List.set_cons_succ]
            refine wpAnyH_takeL (i := 6) (d := some 61) (v := .tuple #[.agg (tA (anyT L f (memF (L.take (k + 1))))), .int .i64 0]) rfl rfl (by kernel_rfl) (by kernel_rfl) (by kernel_rfl) (fun _ _ _ h => h) (Or.inl ⟨by rfl, ?_⟩) hHeld ?_
            · intro w hSw; (try dsimp only at hSw); go_simp
            try simp only [Act.put, List.setIfInBounds_toArray, List.set_cons_zero, List.set_cons_succ]
            refine wpAnyH_takeL (i := 7) (d := some 68) (v := .agg (tA (anyT L f (memF (L.take (k + 1)))))) rfl rfl (by kernel_rfl) (by kernel_rfl) (by kernel_rfl) (fun _ _ _ h => h) (Or.inl ⟨by rfl, ?_⟩) hHeld ?_
            · intro w hSw; (try dsimp only at hSw); go_simp
            try simp only [Act.put, List.setIfInBounds_toArray, List.set_cons_zero, List.set_cons_succ]
            refine wpAnyH_takeL (i := 8) (d := some 69) (v := .int .i64 0) rfl rfl (by kernel_rfl) (by kernel_rfl) (by kernel_rfl) (fun _ _ _ h => h) (Or.inl ⟨by rfl, ?_⟩) hHeld ?_
            · intro w hSw; (try dsimp only at hSw); go_simp
            try simp only [Act.put, List.setIfInBounds_toArray, List.set_cons_zero, List.set_cons_succ]
            refine wpAnyH_ready (rs := [9]) (by kernel_rfl) (by simp) ?_
            refine AllReadyH.cons rfl (fun K hK => ?_) AllReadyH.nil
            refine rd_alloc rfl 30 rfl (some 14) rfl (tA zeroY) zero_c ?_
            refine ⟨fun V109 g109 n109 f109 => ?_⟩
            have ne109_a := f109.ne r107_a
            have ne109_b := f109.ne r107_b
            have ne109_v := f109.ne r107_v
            have up109 : w.heap.size ≤ g109 := f109.up l107
            have bl109 := f109.bel
            clear f109
            have r110_a := le_on r107_a bl109
            have r110_b := le_on r107_b bl109
            have r110_v := le_on r107_v bl109
            have r110_ru := (r107_ru).on bl109
            have r110_rv := (r107_rv).on bl109
            have l110 := le_tr l107 bl109
            clear r107_a r107_b r107_v r107_ru r107_rv l107
            clear bl109
            have y111 := Lib.hid (show (fun V : World => CB V g7 30 (tA (anyT L f (memF (L.take k)))) ∧ CB V g1 22 (bA f)) V109 from ⟨r110_a, r110_v⟩)
            refine hK.out _ _ y111.out (fun hHeld => ?_)
            clear hK K y111
            try simp only [Act.put, List.setIfInBounds_toArray, List.set_cons_zero, List.set_cons_succ]
            refine wpAnyH_ready (rs := [10]) (by kernel_rfl) (by simp) ?_
            refine AllReadyH.cons rfl (fun K hK => ?_) AllReadyH.nil
            refine rd_store rfl 30 _ _ rfl none rfl g109 (tA (anyT L f (memF (L.take (k + 1))))) rfl rfl n109 Try.zTc rfl (tA_one _) ?_
            refine ⟨fun V112 n112 k112 => ?_⟩
            have m112_a := k112.on r110_a ne109_a
            have m112_b := k112.on r110_b ne109_b
            have m112_v := k112.on r110_v ne109_v
            have m112_ru := (r110_ru).wr k112 up109
            have m112_rv := (r110_rv).wr k112 up109
            have o112 := k112.bel _ _ l110 up109
            clear k112
            clear n109 r110_a r110_b r110_v r110_ru r110_rv l110
            have y113 := Lib.hid (show (fun V : World => CB V g7 30 (tA (anyT L f (memF (L.take k)))) ∧ CB V g1 22 (bA f)) V112 from ⟨m112_a, m112_v⟩)
            refine hK.out _ _ y113.out (fun hHeld => ?_)
            clear hK K y113
            try simp only [Act.put, List.setIfInBounds_toArray, List.set_cons_zero, List.set_cons_succ]
            refine wpAnyH_takeL (i := 11) (d := some 15) (v := .int .i64 0) rfl rfl (by kernel_rfl) (by kernel_rfl) (by kernel_rfl) (fun _ _ _ h => h) (Or.inl ⟨by rfl, ?_⟩) hHeld ?_
            · intro w hSw; (try dsimp only at hSw); go_simp
            try simp only [Act.put, List.setIfInBounds_toArray, List.set_cons_zero, List.set_cons_succ]
            refine wpAnyH_done (by kernel_rfl) ?_ _
            go_wp2_with (first | (first | ((with_reducible refine st_load 30 _ g109 ?_ n112 Try.underlying30 ?_ ?_ ?_); exact rfl; exact rfl; exact Try.zTc) | ((with_reducible refine st_loadG 30 _ g109 ?_ n112 Try.underlying30 ?_ ?_ ?_ ?_); exact rfl; exact rfl; exact Try.zTc; exact rfl)) | ((with_reducible refine st_store 30 _ _ g7 (tA (anyT L f (memF (L.take (k + 1))))) ?_ ?_ m112_a ?_ ?_ ?_ ?_); exact rfl; exact rfl; exact Try.zTc; exact rfl; exact tA_one _))
            refine ⟨fun V114 n114 k114 => ?_⟩
            have m114_b := k114.on m112_b (Ne.symm ne12_a)
            have m114_v := k114.on m112_v ne7_v
            have m114_x := k114.on n112 (Ne.symm ne109_a)
            have m114_ru := (m112_ru).wr k114 up7
            have m114_rv := (m112_rv).wr k114 up7
            have o114 := k114.bel _ _ o112 up7
            clear k114
            clear m112_a m112_b m112_v n112 m112_ru m112_rv o112
            go_wp2_with fail
            go_roundw
            case rel => exact ⟨k + 1, by omega, by go_num, n114, m114_b, m114_v, m114_ru, m114_rv, o114⟩
            case measure => simp [intOf]; omega
          · skip
            refine rd_alloc rfl 30 rfl (some 14) rfl (tA zeroY) zero_c ?_
            refine ⟨fun V106 g106 n106 f106 => ?_⟩
            have ne106_a := f106.ne r104_a
            have ne106_b := f106.ne r104_b
            have ne106_v := f106.ne r104_v
            have up106 : w.heap.size ≤ g106 := f106.up l104
            have bl106 := f106.bel
            clear f106
            have r107_a := le_on r104_a bl106
            have r107_b := le_on r104_b bl106
            have r107_v := le_on r104_v bl106
            have r107_ru := (r104_ru).on bl106
            have r107_rv := (r104_rv).on bl106
            have l107 := le_tr l104 bl106
            clear r104_a r104_b r104_v r104_ru r104_rv l104
            clear bl106
            have y108 := Lib.hid (show (fun V : World => CB V g7 30 (tA (anyT L f (memF (L.take k)))) ∧ CB V g1 22 (bA f)) V106 from ⟨r107_a, r107_v⟩)
            refine hK.out _ _ y108.out (fun hHeld => ?_)
            clear hK K y108
            try simp only [Act.put, List.setIfInBounds_toArray, List.set_cons_zero, List.set_cons_succ]
            refine wpAnyH_ready (rs := [5]) (by kernel_rfl) (by simp) ?_
            refine AllReadyH.cons rfl (fun K hK => ?_) AllReadyH.nil
            go_simp
            refine (P1 _).mono ?_
            rintro e u109 ⟨rfl, b109⟩
            have r110_a := le_on r107_a b109
            have r110_b := le_on r107_b b109
            have r110_v := le_on r107_v b109
            have r110_x := le_on n106 b109
            have r110_ru := (r107_ru).on b109
            have r110_rv := (r107_rv).on b109
            have l110 := le_tr l107 b109
            clear r107_a r107_b r107_v n106 r107_ru r107_rv l107
            clear b109
            go_wp2_with fail
            have y111 := Lib.hid (show (fun V : World => CB V g7 30 (tA (anyT L f (memF (L.take k)))) ∧ CB V g1 22 (bA f)) u109 from ⟨r110_a, r110_v⟩)
            refine hK.out _ _ y111.out (fun hHeld => ?_)
            clear hK K y111
            try simp only [Act.put, List.setIfInBounds_toArray, List.set_cons_zero, List.set_cons_succ]
            refine wpAnyH_takeL (i := 6) (d := some 61) (v := .tuple #[.agg (tA (anyT L f (memF (L.take (k + 1))))), .int .i64 0]) rfl rfl (by kernel_rfl) (by kernel_rfl) (by kernel_rfl) (fun _ _ _ h => h) (Or.inl ⟨by rfl, ?_⟩) hHeld ?_
            · intro w hSw; (try dsimp only at hSw); go_simp
            try simp only [Act.put, List.setIfInBounds_toArray, List.set_cons_zero, List.set_cons_succ]
            refine wpAnyH_takeL (i := 7) (d := some 68) (v := .agg (tA (anyT L f (memF (L.take (k + 1)))))) rfl rfl (by kernel_rfl) (by kernel_rfl) (by kernel_rfl) (fun _ _ _ h => h) (Or.inl ⟨by rfl, ?_⟩) hHeld ?_
            · intro w hSw; (try dsimp only at hSw); go_simp
            try simp only [Act.put, List.setIfInBounds_toArray, List.set_cons_zero, List.set_cons_succ]
            refine wpAnyH_takeL (i := 8) (d := some 69) (v := .int .i64 0) rfl rfl (by kernel_rfl) (by kernel_rfl) (by kernel_rfl) (fun _ _ _ h => h) (Or.inl ⟨by rfl, ?_⟩) hHeld ?_
            · intro w hSw; (try dsimp only at hSw); go_simp
            try simp only [Act.put, List.setIfInBounds_toArray, List.set_cons_zero, List.set_cons_succ]
            refine wpAnyH_ready (rs := [10]) (by kernel_rfl) (by simp) ?_
            refine AllReadyH.cons rfl (fun K hK => ?_) AllReadyH.nil
            refine rd_store rfl 30 _ _ rfl none rfl g106 (tA (anyT L f (memF (L.take (k + 1))))) rfl rfl r110_x Try.zTc rfl (tA_one _) ?_
            refine ⟨fun V112 n112 k112 => ?_⟩
            have m112_a := k112.on r110_a ne106_a
            have m112_b := k112.on r110_b ne106_b
            have m112_v := k112.on r110_v ne106_v
            have m112_ru := (r110_ru).wr k112 up106
            have m112_rv := (r110_rv).wr k112 up106
            have o112 := k112.bel _ _ l110 up106
            clear k112
            clear r110_x r110_a r110_b r110_v r110_ru r110_rv l110
            have y113 := Lib.hid (show (fun V : World => CB V g7 30 (tA (anyT L f (memF (L.take k)))) ∧ CB V g1 22 (bA f)) V112 from ⟨m112_a, m112_v⟩)
            refine hK.out _ _ y113.out (fun hHeld => ?_)
            clear hK K y113
            try simp only [Act.put, List.setIfInBounds_toArray, List.set_cons_zero, List.set_cons_succ]
            refine wpAnyH_takeL (i := 11) (d := some 15) (v := .int .i64 0) rfl rfl (by kernel_rfl) (by kernel_rfl) (by kernel_rfl) (fun _ _ _ h => h) (Or.inl ⟨by rfl, ?_⟩) hHeld ?_
            · intro w hSw; (try dsimp only at hSw); go_simp
            try simp only [Act.put, List.setIfInBounds_toArray, List.set_cons_zero, List.set_cons_succ]
            refine wpAnyH_done (by kernel_rfl) ?_ _
            go_wp2_with (first | (first | ((with_reducible refine st_load 30 _ g106 ?_ n112 Try.underlying30 ?_ ?_ ?_); exact rfl; exact rfl; exact Try.zTc) | ((with_reducible refine st_loadG 30 _ g106 ?_ n112 Try.underlying30 ?_ ?_ ?_ ?_); exact rfl; exact rfl; exact Try.zTc; exact rfl)) | ((with_reducible refine st_store 30 _ _ g7 (tA (anyT L f (memF (L.take (k + 1))))) ?_ ?_ m112_a ?_ ?_ ?_ ?_); exact rfl; exact rfl; exact Try.zTc; exact rfl; exact tA_one _))
            refine ⟨fun V114 n114 k114 => ?_⟩
            have m114_b := k114.on m112_b (Ne.symm ne12_a)
            have m114_v := k114.on m112_v ne7_v
            have m114_x := k114.on n112 (Ne.symm ne106_a)
            have m114_ru := (m112_ru).wr k114 up7
            have m114_rv := (m112_rv).wr k114 up7
            have o114 := k114.bel _ _ o112 up7
            clear k114
            clear m112_a m112_b m112_v n112 m112_ru m112_rv o112
            go_wp2_with fail
            go_roundw
            case rel => exact ⟨k + 1, by omega, by go_num, n114, m114_b, m114_v, m114_ru, m114_rv, o114⟩
            case measure => simp [intOf]; omega
        · skip
          refine rd_alloc rfl 30 rfl (some 14) rfl (tA zeroY) zero_c ?_
          refine ⟨fun V103 g103 n103 f103 => ?_⟩
          have ne103_a := f103.ne r102_a
          have ne103_b := f103.ne r102_b
          have ne103_v := f103.ne r102_v
          have up103 : w.heap.size ≤ g103 := f103.up l102
          have bl103 := f103.bel
          clear f103
          have r104_a := le_on r102_a bl103
          have r104_b := le_on r102_b bl103
          have r104_v := le_on r102_v bl103
          have r104_ru := (r102_ru).on bl103
          have r104_rv := (r102_rv).on bl103
          have l104 := le_tr l102 bl103
          clear r102_a r102_b r102_v r102_ru r102_rv l102
          clear bl103
          have y105 := Lib.hid (show (fun V : World => CB V g7 30 (tA (anyT L f (memF (L.take k)))) ∧ CB V g1 22 (bA f)) V103 from ⟨r104_a, r104_v⟩)
          refine hK.out _ _ y105.out (fun hHeld => ?_)
          clear hK K y105
          try simp only [Act.put, List.setIfInBounds_toArray, List.set_cons_zero, List.set_cons_succ]
          refine wpAnyH_ready (rs := [4]) (by kernel_rfl) (by simp) ?_
          refine AllReadyH.cons rfl (fun K hK => ?_) AllReadyH.nil
          go_simp
          refine (vote_c _ x f _ r104_v h8).mono ?_
          rintro e u106 ⟨rfl, b106⟩
          have r107_a := le_on r104_a b106
          have r107_b := le_on r104_b b106
          have r107_v := le_on r104_v b106
          have r107_x := le_on n103 b106
          have r107_ru := (r104_ru).on b106
          have r107_rv := (r104_rv).on b106
          have l107 := le_tr l104 b106
          clear r104_a r104_b r104_v n103 r104_ru r104_rv l104
          clear b106
          go_wp2_with fail
          have y108 := Lib.hid (show (fun V : World => CB V g7 30 (tA (anyT L f (memF (L.take k)))) ∧ CB V g1 22 (bA f)) u106 from ⟨r107_a, r107_v⟩)
          refine hK.out _ _ y108.out (fun hHeld => ?_)
          clear hK K y108
          try simp only [Act.put, List.setIfInBounds_toArray, List.set_cons_zero, List.set_cons_succ]
          refine wpAnyH_ready (rs := [5]) (by kernel_rfl) (by simp) ?_
          refine AllReadyH.cons rfl (fun K hK => ?_) AllReadyH.nil
          go_simp
          refine (P1 _).mono ?_
          rintro e u109 ⟨rfl, b109⟩
          have r110_a := le_on r107_a b109
          have r110_b := le_on r107_b b109
          have r110_v := le_on r107_v b109
          have r110_x := le_on r107_x b109
          have r110_ru := (r107_ru).on b109
          have r110_rv := (r107_rv).on b109
          have l110 := le_tr l107 b109
          clear r107_a r107_b r107_v r107_x r107_ru r107_rv l107
          clear b109
          go_wp2_with fail
          have y111 := Lib.hid (show (fun V : World => CB V g7 30 (tA (anyT L f (memF (L.take k)))) ∧ CB V g1 22 (bA f)) u109 from ⟨r110_a, r110_v⟩)
          refine hK.out _ _ y111.out (fun hHeld => ?_)
          clear hK K y111
          try simp only [Act.put, List.setIfInBounds_toArray, List.set_cons_zero, List.set_cons_succ]
          refine wpAnyH_takeL (i := 6) (d := some 61) (v := .tuple #[.agg (tA (anyT L f (memF (L.take (k + 1))))), .int .i64 0]) rfl rfl (by kernel_rfl) (by kernel_rfl) (by kernel_rfl) (fun _ _ _ h => h) (Or.inl ⟨by rfl, ?_⟩) hHeld ?_
          · intro w hSw; (try dsimp only at hSw); go_simp
          try simp only [Act.put, List.setIfInBounds_toArray, List.set_cons_zero, List.set_cons_succ]
          refine wpAnyH_takeL (i := 7) (d := some 68) (v := .agg (tA (anyT L f (memF (L.take (k + 1)))))) rfl rfl (by kernel_rfl) (by kernel_rfl) (by kernel_rfl) (fun _ _ _ h => h) (Or.inl ⟨by rfl, ?_⟩) hHeld ?_
          · intro w hSw; (try dsimp only at hSw); go_simp
          try simp only [Act.put, List.setIfInBounds_toArray, List.set_cons_zero, List.set_cons_succ]
          refine wpAnyH_takeL (i := 8) (d := some 69) (v := .int .i64 0) rfl rfl (by kernel_rfl) (by kernel_rfl) (by kernel_rfl) (fun _ _ _ h => h) (Or.inl ⟨by rfl, ?_⟩) hHeld ?_
          · intro w hSw; (try dsimp only at hSw); go_simp
          try simp only [Act.put, List.setIfInBounds_toArray, List.set_cons_zero, List.set_cons_succ]
          refine wpAnyH_ready (rs := [10]) (by kernel_rfl) (by simp) ?_
          refine AllReadyH.cons rfl (fun K hK => ?_) AllReadyH.nil
          refine rd_store rfl 30 _ _ rfl none rfl g103 (tA (anyT L f (memF (L.take (k + 1))))) rfl rfl r110_x Try.zTc rfl (tA_one _) ?_
          refine ⟨fun V112 n112 k112 => ?_⟩
          have m112_a := k112.on r110_a ne103_a
          have m112_b := k112.on r110_b ne103_b
          have m112_v := k112.on r110_v ne103_v
          have m112_ru := (r110_ru).wr k112 up103
          have m112_rv := (r110_rv).wr k112 up103
          have o112 := k112.bel _ _ l110 up103
          clear k112
          clear r110_x r110_a r110_b r110_v r110_ru r110_rv l110
          have y113 := Lib.hid (show (fun V : World => CB V g7 30 (tA (anyT L f (memF (L.take k)))) ∧ CB V g1 22 (bA f)) V112 from ⟨m112_a, m112_v⟩)
          refine hK.out _ _ y113.out (fun hHeld => ?_)
          clear hK K y113
          try simp only [Act.put, List.setIfInBounds_toArray, List.set_cons_zero, List.set_cons_succ]
          refine wpAnyH_takeL (i := 11) (d := some 15) (v := .int .i64 0) rfl rfl (by kernel_rfl) (by kernel_rfl) (by kernel_rfl) (fun _ _ _ h => h) (Or.inl ⟨by rfl, ?_⟩) hHeld ?_
          · intro w hSw; (try dsimp only at hSw); go_simp
          try simp only [Act.put, List.setIfInBounds_toArray, List.set_cons_zero, List.set_cons_succ]
          refine wpAnyH_done (by kernel_rfl) ?_ _
          go_wp2_with (first | (first | ((with_reducible refine st_load 30 _ g103 ?_ n112 Try.underlying30 ?_ ?_ ?_); exact rfl; exact rfl; exact Try.zTc) | ((with_reducible refine st_loadG 30 _ g103 ?_ n112 Try.underlying30 ?_ ?_ ?_ ?_); exact rfl; exact rfl; exact Try.zTc; exact rfl)) | ((with_reducible refine st_store 30 _ _ g7 (tA (anyT L f (memF (L.take (k + 1))))) ?_ ?_ m112_a ?_ ?_ ?_ ?_); exact rfl; exact rfl; exact Try.zTc; exact rfl; exact tA_one _))
          refine ⟨fun V114 n114 k114 => ?_⟩
          have m114_b := k114.on m112_b (Ne.symm ne12_a)
          have m114_v := k114.on m112_v ne7_v
          have m114_x := k114.on n112 (Ne.symm ne103_a)
          have m114_ru := (m112_ru).wr k114 up7
          have m114_rv := (m112_rv).wr k114 up7
          have o114 := k114.bel _ _ o112 up7
          clear k114
          clear m112_a m112_b m112_v n112 m112_ru m112_rv o112
          go_wp2_with fail
          go_roundw
          case rel => exact ⟨k + 1, by omega, by go_num, n114, m114_b, m114_v, m114_ru, m114_rv, o114⟩
          case measure => simp [intOf]; omega
      obtain rfl : k = n := by omega
      have HM := Lib.hid (memF_end hl)
      rw [HM.out] at ha
      obtain ⟨i0, hi0, hz0, hz1, hz2⟩ := info_parts Try.infoB
      have Hi := Lib.hid hi0
      have Hz := Lib.hid hz0
      have Hz1 := Lib.hid hz1
      have Hz2 := Lib.hid hz2
      clear hi0 hz0 hz1 hz2 HM
      have p4 : 0 < 1 := by decide
      have e1 : 0 + m ≤ maxLen := by simp only [maxLen]; omega
      have e2 : (0 + m) * 1 ≤ 140737488355328 := by omega
      have e3 : m + 8 ≤ maxLen := by simp only [maxLen]; omega
      have e4 : (m + 8) * 1 ≤ 140737488355328 := by omega
      have hsrc := hv.rr.src
      go_wp2_with (at_builtin; go_loud (refine wpList_append_src _ rfl (.const (.slice none 0 0)) (.tmp 74) _ rfl 5 i0 _ 1 1 Try.underlying28 Hi.out Hz.out Hz1.out Hz2.out rfl p4 rfl (Seg.nil _ _ _) rfl hsrc (rc_one 1 _) e1 e2 m (Nat.zero_add m) ?_))
      intro A1 c1 G1 w1 hs1 hg1 hm1
      have b1 : Below wr.heap.size wr w1 := grown_below hg1 (Nat.le_refl _) (by intro g hg; cases hg)
      have src2 : Src (w1.alloc (.cells #[.int .u8 0, .int .u8 1, .int .u8 2, .int .u8 3, .int .u8 4, .int .u8 5, .int .u8 6, .int .u8 7] 5)) 1 (some ⟨w1.heap.size, 0, none⟩) 8 (rc uc [0, 1, 2, 3, 4, 5, 6, 7]) := Src.lit w1 5 [.int .u8 0, .int .u8 1, .int .u8 2, .int .u8 3, .int .u8 4, .int .u8 5, .int .u8 6, .int .u8 7] 1 8 _ rfl rfl
      have hs1a := hs1.alloc (.cells #[.int .u8 0, .int .u8 1, .int .u8 2, .int .u8 3, .int .u8 4, .int .u8 5, .int .u8 6, .int .u8 7] 5)
      obtain ⟨M, hM⟩ : ∃ M, m + 8 = M := ⟨_, rfl⟩
      have HMM := Lib.hid hM
      clear hM hsrc hs1
      go_wp2_with (at_builtin; refine wpList_append_src _ rfl (.tmp 75) (.tmp 76) _ rfl 5 i0 _ 1 1 Try.underlying28 Hi.out Hz.out Hz1.out Hz2.out rfl p4 rfl hs1a rfl src2 (rc_one 1 _) e3 e4 M HMM.out ?_)
      intro A2 c2 G2 w2 hs2 hg2 hm2
      have b2 : Below wr.heap.size wr w2 := (b1.alloc b1.size _).trans (grown_below hg2 (by have := b1.size; simp; omega) (hm1.ge (Nat.le_refl _) (by intro g hg; cases hg)))
      have rn : RS w2 5 uc 1 A2 M c2 (O ++ [0, 1, 2, 3, 4, 5, 6, 7]) := ⟨G2, by rw [rc_append]; simpa using hs2⟩
      clear hs1a src2 hg1 hm1 hg2 hm2 hs2 b1 Hi Hz Hz1 Hz2 e1 e2 e3 e4 p4
      have r201_a := le_on ha b2
      have r201_b := le_on hbb b2
      have r201_v := le_on hvv b2
      have r201_ru := (hu).on b2
      have r201_rv := (hv).on b2
      have l201 := le_tr hb b2
      clear ha hbb hvv hu hv hb
      clear b2
      skip
      have hM := HMM.out
      have hol : (O ++ [0, 1, 2, 3, 4, 5, 6, 7]).length = M := by simp; omega
      obtain ⟨O', hO'⟩ : ∃ l : List Nat, O ++ [0, 1, 2, 3, 4, 5, 6, 7] = l := ⟨_, rfl⟩
      have hall : ∀ q, q < 8 → q ∈ O' := fun q hq => by subst hO'; simp; omega
      have hO2 : ∀ q ∈ O', q < 256 := fun q hq => by
        subst hO'
        rcases List.mem_append.1 hq with h | h
        · exact hO q h
        · simp at h; omega
      rw [hO'] at rn hol
      clear hO' HMM
      have hMm : M ≤ 108 := by omega
      have HP := Lib.hid (picks_all (O := O') ho hall)
      have hpl : (picks L O').length = M := by simp [picks, hol]
      have zb : CB w2 g12 30 (tA (anyT L f (memF ((picks L O').take 0)))) := cb_cast r201_b (by rw [memF_zero, memF_zero])
      go_wp2_with fail
      go_loopw [79] (fun iv wr => ∃ j : Nat, j ≤ M ∧ iv = .int .i64 j ∧ CB wr g7 30 (tA (anyT L f (memF L))) ∧ CB wr g12 30 (tA (anyT L f (memF ((picks L O').take j)))) ∧ CB wr g1 22 (bA f) ∧ RU w wr A k c L ∧ RS wr 5 uc 1 A2 M c2 O' ∧ Below w.heap.size w wr) (fun iv _ => M - (intOf iv).toNat)
      case atStart => exact ⟨0, by omega, rfl, r201_a, zb, r201_v, r201_ru, rn, l201⟩
      case round =>
        clear zb r201_a r201_v r201_ru rn l201
        obtain ⟨j, hj, rfl, ha2, hb2, hv2, hu2, rn2, hbel⟩ := hrel
        by_cases hjl : j < M
        · have l1 : (j : Int) < M := by omega
          have l2 : (0 : Int) ≤ (j : Int) := by omega
          obtain ⟨gs, ofs, q, hq, hA2, cq⟩ := rn2.rr.u8 hjl
          have hqp := picks_at (L := L) hq
          have hq256 := hO2 q (List.mem_of_getElem? hq)
          have hqw : wrap64 (q : Int) = (q : Int) := IntWalk.wrap64_in _ (by omega)
          rw [hl] at hqp
          have hzl : q % k < k := Nat.mod_lt _ (by omega)
          obtain ⟨z, hz⟩ : ∃ z, q % k = z := ⟨_, rfl⟩
          rw [hz] at hqp hzl
          obtain ⟨gt, oft, x, hx, hA, cx⟩ := hu2.rr.u8 hzl
          have hxx : L.getD z 0 = x := by simp [List.getD, hx]
          rw [hxx] at hqp
          have h8 : x < 8 := ho.2.1 x (List.mem_of_getElem? hx)
          have hp := any_take (f := f) ho (picks_in (O := O') ho) hqp
          have P1 := fun W => put_c (anyT L f (memF ((picks L O').take j))) x 5 (vB f x) W
          rw [hp.1, hp.2] at P1
          have htq : (q : Int).tmod (k : Int) = (z : Int) := by rw [← hz]; exact tmod_nat q k
          have hk0 : ((k : Int) == 0) = false := by simp; omega
          have hk0' : ¬ (k : Int) = 0 := by omega
          have lz : (z : Int) < k := by omega
          have lz2 : (0 : Int) ≤ (z : Int) := by omega
          clear hp hqp hxx hx hz hq
          subst hA hA2
          go_wp2_with fail
          have y301 := Lib.hid (show (fun V : World => CB V g12 30 (tA (anyT L f (memF ((picks L O').take j)))) ∧ CB V g1 22 (bA f)) wr from ⟨hb2, hv2⟩)
          refine wp_region_held_drew (S := (fun V : World => CB V g12 30 (tA (anyT L f (memF ((picks L O').take j)))) ∧ CB V g1 22 (bA f))) (by kernel_rfl) y301.out (fun hHeld => ?_)
          obtain ⟨D301, hD301⟩ : ∃ V, wr.drew = V := ⟨_, rfl⟩
          have b301 : Below wr.heap.size wr D301 := by rw [← hD301]; exact le_dr (Below.refl _ _)
          rw [hD301] at hHeld ⊢
          clear hD301
          have r302_a := le_on ha2 b301
          have r302_b := le_on hb2 b301
          have r302_v := le_on hv2 b301
          have r302_ru := (hu2).on b301
          have r302_rn := (rn2).on b301
          have l302 := le_tr hbel b301
          clear ha2 hb2 hv2 hu2 rn2 hbel
          clear b301
          refine wpAnyH_takeL (i := 0) (d := some 92) (v := .agg (tA (anyT L f (memF ((picks L O').take j))))) rfl rfl (by kernel_rfl) (by kernel_rfl) (by kernel_rfl) (fun _ _ _ h => h) (Or.inl ⟨by rfl, ?_⟩) hHeld ?_
          · intro w hSw; exact yl_whole 30 _ g12 rfl hSw.1 Try.underlying30 rfl Try.zTc
          try simp only [Act.put, List.setIfInBounds_toArray, List.set_cons_zero, List.set_cons_succ]
          refine wpAnyH_takeL (i := 1) (d := some 93) (v := .int .u8 (x : Int)) rfl rfl (by kernel_rfl) (by kernel_rfl) (by kernel_rfl) (fun _ _ _ h => h) (Or.inl ⟨by rfl, ?_⟩) hHeld ?_
          · intro w hSw; (try dsimp only at hSw); go_simp
          try simp only [Act.put, List.setIfInBounds_toArray, List.set_cons_zero, List.set_cons_succ]
          refine wpAnyH_takeL (i := 2) (d := some 94) (v := .func (.func 22) #[] #[.pointer (some ⟨g1, 0, none⟩)]) rfl rfl (by kernel_rfl) (by kernel_rfl) (by kernel_rfl) (fun _ _ _ h => h) (Or.inl ⟨by rfl, ?_⟩) hHeld ?_
          · intro w hSw; (try dsimp only at hSw); go_simp
          try simp only [Act.put, List.setIfInBounds_toArray, List.set_cons_zero, List.set_cons_succ]
          refine wpAnyH_takeL (i := 3) (d := some 95) (v := .int .u8 (x : Int)) rfl rfl (by kernel_rfl) (by kernel_rfl) (by kernel_rfl) (fun _ _ _ h => h) (Or.inl ⟨by rfl, ?_⟩) hHeld ?_
          · intro w hSw; (try dsimp only at hSw); go_simp
          try simp only [Act.put, List.setIfInBounds_toArray, List.set_cons_zero, List.set_cons_succ]
          refine wpAnyH_ready (rs := [4, 9]) (by kernel_rfl) (by simp) ?_
          refine AllReadyH.cons rfl (fun K hK => ?_) (AllReadyH.cons rfl (fun K hK => ?_) AllReadyH.nil)
          · skip
            go_simp
            refine (vote_c _ x f _ r302_v h8).mono ?_
            rintro e u303 ⟨rfl, b303⟩
            have r304_a := le_on r302_a b303
            have r304_b := le_on r302_b b303
            have r304_v := le_on r302_v b303
            have r304_ru := (r302_ru).on b303
            have r304_rn := (r302_rn).on b303
            have l304 := le_tr l302 b303
            clear r302_a r302_b r302_v r302_ru r302_rn l302
            clear b303
            go_wp2_with fail
            have y305 := Lib.hid (show (fun V : World => CB V g12 30 (tA (anyT L f (memF ((picks L O').take j)))) ∧ CB V g1 22 (bA f)) u303 from ⟨r304_b, r304_v⟩)
            refine hK.out _ _ y305.out (fun hHeld => ?_)
            clear hK K y305
            try simp only [Act.put, List.setIfInBounds_toArray, List.set_cons_zero, List.set_cons_succ]
            refine wpAnyH_ready (rs := [5, 9]) (by kernel_rfl) (by simp) ?_
            refine AllReadyH.cons rfl (fun K hK => ?_) (AllReadyH.cons rfl (fun K hK => ?_) AllReadyH.nil)
            · skip
              go_simp
              refine (P1 _).mono ?_
              rintro e u306 ⟨rfl, b306⟩
              have r307_a := le_on r304_a b306
              have r307_b := le_on r304_b b306
              have r307_v := le_on r304_v b306
              have r307_ru := (r304_ru).on b306
              have r307_rn := (r304_rn).on b306
              have l307 := le_tr l304 b306
              clear r304_a r304_b r304_v r304_ru r304_rn l304
              clear b306
              go_wp2_with fail
              have y308 := Lib.hid (show (fun V : World => CB V g12 30 (tA (anyT L f (memF ((picks L O').take j)))) ∧ CB V g1 22 (bA f)) u306 from ⟨r307_b, r307_v⟩)
              refine hK.out _ _ y308.out (fun hHeld => ?_)
              clear hK K y308
              try simp only [Act.put, List.setIfInBounds_toArray, List.set_cons_zero, List.set_cons_succ]
              refine wpAnyH_takeL (i := 6) (d := some 91) (v := .tuple #[.agg (tA (anyT L f (memF ((picks L O').take (j + 1))))), .int .i64 0]) rfl rfl (by kernel_rfl) (by kernel_rfl) (by kernel_rfl) (fun _ _ _ h => h) (Or.inl ⟨by rfl, ?_⟩) hHeld ?_
              · intro w hSw; (try dsimp only at hSw); go_simp
              try simp only [Act.put, List.setIfInBounds_toArray, List.set_cons_zero, List.set_cons_succ]
              refine wpAnyH_takeL (i := 7) (d := some 98) (v := .agg (tA (anyT L f (memF ((picks L O').take (j + 1)))))) rfl rfl (by kernel_rfl) (by kernel_rfl) (by kernel_rfl) (fun _ _ _ h => h) (Or.inl ⟨by rfl, ?_⟩) hHeld ?_
              · intro w hSw; (try dsimp only at hSw); go_simp
              try simp only [Act.put, List.setIfInBounds_toArray, List.set_cons_zero, List.set_cons_succ]
              refine wpAnyH_takeL (i := 8) (d := some 99) (v := .int .i64 0) rfl rfl (by kernel_rfl) (by kernel_rfl) (by kernel_rfl) (fun _ _ _ h => h) (Or.inl ⟨by rfl, ?_⟩) hHeld ?_
              · intro w hSw; (try dsimp only at hSw); go_simp
              try simp only [Act.put, List.setIfInBounds_toArray, List.set_cons_zero, List.set_cons_succ]
              refine wpAnyH_ready (rs := [9]) (by kernel_rfl) (by simp) ?_
              refine AllReadyH.cons rfl (fun K hK => ?_) AllReadyH.nil
              refine rd_alloc rfl 30 rfl (some 19) rfl (tA zeroY) zero_c ?_
              refine ⟨fun V309 g309 n309 f309 => ?_⟩
              have ne309_a := f309.ne r307_a
              have ne309_b := f309.ne r307_b
              have ne309_v := f309.ne r307_v
              have up309 : w.heap.size ≤ g309 := f309.up l307
              have bl309 := f309.bel
              clear f309
              have r310_a := le_on r307_a bl309
              have r310_b := le_on r307_b bl309
              have r310_v := le_on r307_v bl309
              have r310_ru := (r307_ru).on bl309
              have r310_rn := (r307_rn).on bl309
              have l310 := le_tr l307 bl309
              clear r307_a r307_b r307_v r307_ru r307_rn l307
              clear bl309
              have y311 := Lib.hid (show (fun V : World => CB V g12 30 (tA (anyT L f (memF ((picks L O').take j)))) ∧ CB V g1 22 (bA f)) V309 from ⟨r310_b, r310_v⟩)
              refine hK.out _ _ y311.out (fun hHeld => ?_)
              clear hK K y311
              try simp only [Act.put, List.setIfInBounds_toArray, List.set_cons_zero, List.set_cons_succ]
              refine wpAnyH_ready (rs := [10]) (by kernel_rfl) (by simp) ?_
              refine AllReadyH.cons rfl (fun K hK => ?_) AllReadyH.nil
              refine rd_store rfl 30 _ _ rfl none rfl g309 (tA (anyT L f (memF ((picks L O').take (j + 1))))) rfl rfl n309 Try.zTc rfl (tA_one _) ?_
              refine ⟨fun V312 n312 k312 => ?_⟩
              have m312_a := k312.on r310_a ne309_a
              have m312_b := k312.on r310_b ne309_b
              have m312_v := k312.on r310_v ne309_v
              have m312_ru := (r310_ru).wr k312 up309
              have m312_rn := RS.wr r310_rn k312 n309 (by decide)
              have o312 := k312.bel _ _ l310 up309
              clear k312
              clear n309 r310_a r310_b r310_v r310_ru r310_rn l310
              have y313 := Lib.hid (show (fun V : World => CB V g12 30 (tA (anyT L f (memF ((picks L O').take j)))) ∧ CB V g1 22 (bA f)) V312 from ⟨m312_b, m312_v⟩)
              refine hK.out _ _ y313.out (fun hHeld => ?_)
              clear hK K y313
              try simp only [Act.put, List.setIfInBounds_toArray, List.set_cons_zero, List.set_cons_succ]
              refine wpAnyH_takeL (i := 11) (d := some 20) (v := .int .i64 0) rfl rfl (by kernel_rfl) (by kernel_rfl) (by kernel_rfl) (fun _ _ _ h => h) (Or.inl ⟨by rfl, ?_⟩) hHeld ?_
              · intro w hSw; (try dsimp only at hSw); go_simp
              try simp only [Act.put, List.setIfInBounds_toArray, List.set_cons_zero, List.set_cons_succ]
              refine wpAnyH_done (by kernel_rfl) ?_ _
              go_wp2_with (first | (first | ((with_reducible refine st_load 30 _ g309 ?_ n312 Try.underlying30 ?_ ?_ ?_); exact rfl; exact rfl; exact Try.zTc) | ((with_reducible refine st_loadG 30 _ g309 ?_ n312 Try.underlying30 ?_ ?_ ?_ ?_); exact rfl; exact rfl; exact Try.zTc; exact rfl)) | ((with_reducible refine st_store 30 _ _ g12 (tA (anyT L f (memF ((picks L O').take (j + 1))))) ?_ ?_ m312_b ?_ ?_ ?_ ?_); exact rfl; exact rfl; exact Try.zTc; exact rfl; exact tA_one _))
              refine ⟨fun V314 n314 k314 => ?_⟩
              have m314_a := k314.on m312_a ne12_a
              have m314_v := k314.on m312_v ne12_v
              have m314_x := k314.on n312 (Ne.symm ne309_b)
              have m314_ru := (m312_ru).wr k314 up12
              have m314_rn := RS.wr m312_rn k314 m312_b (by decide)
              have o314 := k314.bel _ _ o312 up12
              clear k314
              clear m312_b m312_a m312_v n312 m312_ru m312_rn o312
              go_wp2_with fail
              go_roundw
              case rel => exact ⟨j + 1, by omega, by go_num, m314_a, n314, m314_v, m314_ru, m314_rn, o314⟩
              case measure => simp [intOf]; omega
            · skip
              refine rd_alloc rfl 30 rfl (some 19) rfl (tA zeroY) zero_c ?_
              refine ⟨fun V306 g306 n306 f306 => ?_⟩
              have ne306_a := f306.ne r304_a
              have ne306_b := f306.ne r304_b
              have ne306_v := f306.ne r304_v
              have up306 : w.heap.size ≤ g306 := f306.up l304
              have bl306 := f306.bel
              clear f306
              have r307_a := le_on r304_a bl306
              have r307_b := le_on r304_b bl306
              have r307_v := le_on r304_v bl306
              have r307_ru := (r304_ru).on bl306
              have r307_rn := (r304_rn).on bl306
              have l307 := le_tr l304 bl306
              clear r304_a r304_b r304_v r304_ru r304_rn l304
              clear bl306
              have y308 := Lib.hid (show (fun V : World => CB V g12 30 (tA (anyT L f (memF ((picks L O').take j)))) ∧ CB V g1 22 (bA f)) V306 from ⟨r307_b, r307_v⟩)
              refine hK.out _ _ y308.out (fun hHeld => ?_)
              clear hK K y308
              try simp only [Act.put, List.setIfInBounds_toArray, List.set_cons_zero, List.set_cons_succ]
              refine wpAnyH_ready (rs := [5]) (by kernel_rfl) (by simp) ?_
              refine AllReadyH.cons rfl (fun K hK => ?_) AllReadyH.nil
              go_simp
              refine (P1 _).mono ?_
              rintro e u309 ⟨rfl, b309⟩
              have r310_a := le_on r307_a b309
              have r310_b := le_on r307_b b309
              have r310_v := le_on r307_v b309
              have r310_x := le_on n306 b309
              have r310_ru := (r307_ru).on b309
              have r310_rn := (r307_rn).on b309
              have l310 := le_tr l307 b309
              clear r307_a r307_b r307_v n306 r307_ru r307_rn l307
              clear b309
              go_wp2_with fail
              have y311 := Lib.hid (show (fun V : World => CB V g12 30 (tA (anyT L f (memF ((picks L O').take j)))) ∧ CB V g1 22 (bA f)) u309 from ⟨r310_b, r310_v⟩)
              refine hK.out _ _ y311.out (fun hHeld => ?_)
              clear hK K y311
              try simp only [Act.put, List.setIfInBounds_toArray, List.set_cons_zero, List.set_cons_succ]
              refine wpAnyH_takeL (i := 6) (d := some 91) (v := .tuple #[.agg (tA (anyT L f (memF ((picks L O').take (j + 1))))), .int .i64 0]) rfl rfl (by kernel_rfl) (by kernel_rfl) (by kernel_rfl) (fun _ _ _ h => h) (Or.inl ⟨by rfl, ?_⟩) hHeld ?_
              · intro w hSw; (try dsimp only at hSw); go_simp
              try simp only [Act.put, List.setIfInBounds_toArray, List.set_cons_zero, List.set_cons_succ]
              refine wpAnyH_takeL (i := 7) (d := some 98) (v := .agg (tA (anyT L f (memF ((picks L O').take (j + 1)))))) rfl rfl (by kernel_rfl) (by kernel_rfl) (by kernel_rfl) (fun _ _ _ h => h) (Or.inl ⟨by rfl, ?_⟩) hHeld ?_
              · intro w hSw; (try dsimp only at hSw); go_simp
              try simp only [Act.put, List.setIfInBounds_toArray, List.set_cons_zero, List.set_cons_succ]
              refine wpAnyH_takeL (i := 8) (d := some 99) (v := .int .i64 0) rfl rfl (by kernel_rfl) (by kernel_rfl) (by kernel_rfl) (fun _ _ _ h => h) (Or.inl ⟨by rfl, ?_⟩) hHeld ?_
              · intro w hSw; (try dsimp only at hSw); go_simp
              try simp only [Act.put, List.setIfInBounds_toArray, List.set_cons_zero, List.set_cons_succ]
              refine wpAnyH_ready (rs := [10]) (by kernel_rfl) (by simp) ?_
              refine AllReadyH.cons rfl (fun K hK => ?_) AllReadyH.nil
              refine rd_store rfl 30 _ _ rfl none rfl g306 (tA (anyT L f (memF ((picks L O').take (j + 1))))) rfl rfl r310_x Try.zTc rfl (tA_one _) ?_
              refine ⟨fun V312 n312 k312 => ?_⟩
              have m312_a := k312.on r310_a ne306_a
              have m312_b := k312.on r310_b ne306_b
              have m312_v := k312.on r310_v ne306_v
              have m312_ru := (r310_ru).wr k312 up306
              have m312_rn := RS.wr r310_rn k312 r310_x (by decide)
              have o312 := k312.bel _ _ l310 up306
              clear k312
              clear r310_x r310_a r310_b r310_v r310_ru r310_rn l310
              have y313 := Lib.hid (show (fun V : World => CB V g12 30 (tA (anyT L f (memF ((picks L O').take j)))) ∧ CB V g1 22 (bA f)) V312 from ⟨m312_b, m312_v⟩)
              refine hK.out _ _ y313.out (fun hHeld => ?_)
              clear hK K y313
              try simp only [Act.put, List.setIfInBounds_toArray, List.set_cons_zero, List.set_cons_succ]
              refine wpAnyH_takeL (i := 11) (d := some 20) (v := .int .i64 0) rfl rfl (by kernel_rfl) (by kernel_rfl) (by kernel_rfl) (fun _ _ _ h => h) (Or.inl ⟨by rfl, ?_⟩) hHeld ?_
              · intro w hSw; (try dsimp only at hSw); go_simp
              try simp only [Act.put, List.setIfInBounds_toArray, List.set_cons_zero, List.set_cons_succ]
              refine wpAnyH_done (by kernel_rfl) ?_ _
              go_wp2_with (first | (first | ((with_reducible refine st_load 30 _ g306 ?_ n312 Try.underlying30 ?_ ?_ ?_); exact rfl; exact rfl; exact Try.zTc) | ((with_reducible refine st_loadG 30 _ g306 ?_ n312 Try.underlying30 ?_ ?_ ?_ ?_); exact rfl; exact rfl; exact Try.zTc; exact rfl)) | ((with_reducible refine st_store 30 _ _ g12 (tA (anyT L f (memF ((picks L O').take (j + 1))))) ?_ ?_ m312_b ?_ ?_ ?_ ?_); exact rfl; exact rfl; exact Try.zTc; exact rfl; exact tA_one _))
              refine ⟨fun V314 n314 k314 => ?_⟩
              have m314_a := k314.on m312_a ne12_a
              have m314_v := k314.on m312_v ne12_v
              have m314_x := k314.on n312 (Ne.symm ne306_b)
              have m314_ru := (m312_ru).wr k314 up12
              have m314_rn := RS.wr m312_rn k314 m312_b (by decide)
              have o314 := k314.bel _ _ o312 up12
              clear k314
              clear m312_b m312_a m312_v n312 m312_ru m312_rn o312
              go_wp2_with fail
              go_roundw
              case rel => exact ⟨j + 1, by omega, by go_num, m314_a, n314, m314_v, m314_ru, m314_rn, o314⟩
              case measure => simp [intOf]; omega
          · skip
            refine rd_alloc rfl 30 rfl (some 19) rfl (tA zeroY) zero_c ?_
            refine ⟨fun V303 g303 n303 f303 => ?_⟩
            have ne303_a := f303.ne r302_a
            have ne303_b := f303.ne r302_b
            have ne303_v := f303.ne r302_v
            have up303 : w.heap.size ≤ g303 := f303.up l302
            have bl303 := f303.bel
            clear f303
            have r304_a := le_on r302_a bl303
            have r304_b := le_on r302_b bl303
            have r304_v := le_on r302_v bl303
            have r304_ru := (r302_ru).on bl303
            have r304_rn := (r302_rn).on bl303
            have l304 := le_tr l302 bl303
            clear r302_a r302_b r302_v r302_ru r302_rn l302
            clear bl303
            have y305 := Lib.hid (show (fun V : World => CB V g12 30 (tA (anyT L f (memF ((picks L O').take j)))) ∧ CB V g1 22 (bA f)) V303 from ⟨r304_b, r304_v⟩)
            refine hK.out _ _ y305.out (fun hHeld => ?_)
            clear hK K y305
            try simp only [Act.put, List.setIfInBounds_toArray, List.set_cons_zero, List.set_cons_succ]
            refine wpAnyH_ready (rs := [4]) (by kernel_rfl) (by simp) ?_
            refine AllReadyH.cons rfl (fun K hK => ?_) AllReadyH.nil
            go_simp
            refine (vote_c _ x f _ r304_v h8).mono ?_
            rintro e u306 ⟨rfl, b306⟩
            have r307_a := le_on r304_a b306
            have r307_b := le_on r304_b b306
            have r307_v := le_on r304_v b306
            have r307_x := le_on n303 b306
            have r307_ru := (r304_ru).on b306
            have r307_rn := (r304_rn).on b306
            have l307 := le_tr l304 b306
            clear r304_a r304_b r304_v n303 r304_ru r304_rn l304
            clear b306
            go_wp2_with fail
            have y308 := Lib.hid (show (fun V : World => CB V g12 30 (tA (anyT L f (memF ((picks L O').take j)))) ∧ CB V g1 22 (bA f)) u306 from ⟨r307_b, r307_v⟩)
            refine hK.out _ _ y308.out (fun hHeld => ?_)
            clear hK K y308
            try simp only [Act.put, List.setIfInBounds_toArray, List.set_cons_zero, List.set_cons_succ]
            refine wpAnyH_ready (rs := [5]) (by kernel_rfl) (by simp) ?_
            refine AllReadyH.cons rfl (fun K hK => ?_) AllReadyH.nil
            go_simp
            refine (P1 _).mono ?_
            rintro e u309 ⟨rfl, b309⟩
            have r310_a := le_on r307_a b309
            have r310_b := le_on r307_b b309
            have r310_v := le_on r307_v b309
            have r310_x := le_on r307_x b309
            have r310_ru := (r307_ru).on b309
            have r310_rn := (r307_rn).on b309
            have l310 := le_tr l307 b309
            clear r307_a r307_b r307_v r307_x r307_ru r307_rn l307
            clear b309
            go_wp2_with fail
            have y311 := Lib.hid (show (fun V : World => CB V g12 30 (tA (anyT L f (memF ((picks L O').take j)))) ∧ CB V g1 22 (bA f)) u309 from ⟨r310_b, r310_v⟩)
            refine hK.out _ _ y311.out (fun hHeld => ?_)
            clear hK K y311
            try simp only [Act.put, List.setIfInBounds_toArray, List.set_cons_zero, List.set_cons_succ]
            refine wpAnyH_takeL (i := 6) (d := some 91) (v := .tuple #[.agg (tA (anyT L f (memF ((picks L O').take (j + 1))))), .int .i64 0]) rfl rfl (by kernel_rfl) (by kernel_rfl) (by kernel_rfl) (fun _ _ _ h => h) (Or.inl ⟨by rfl, ?_⟩) hHeld ?_
            · intro w hSw; (try dsimp only at hSw); go_simp
            try simp only [Act.put, List.setIfInBounds_toArray, List.set_cons_zero, List.set_cons_succ]
            refine wpAnyH_takeL (i := 7) (d := some 98) (v := .agg (tA (anyT L f (memF ((picks L O').take (j + 1)))))) rfl rfl (by kernel_rfl) (by kernel_rfl) (by kernel_rfl) (fun _ _ _ h => h) (Or.inl ⟨by rfl, ?_⟩) hHeld ?_
            · intro w hSw; (try dsimp only at hSw); go_simp
            try simp only [Act.put, List.setIfInBounds_toArray, List.set_cons_zero, List.set_cons_succ]
            refine wpAnyH_takeL (i := 8) (d := some 99) (v := .int .i64 0) rfl rfl (by kernel_rfl) (by kernel_rfl) (by kernel_rfl) (fun _ _ _ h => h) (Or.inl ⟨by rfl, ?_⟩) hHeld ?_
            · intro w hSw; (try dsimp only at hSw); go_simp
            try simp only [Act.put, List.setIfInBounds_toArray, List.set_cons_zero, List.set_cons_succ]
            refine wpAnyH_ready (rs := [10]) (by kernel_rfl) (by simp) ?_
            refine AllReadyH.cons rfl (fun K hK => ?_) AllReadyH.nil
            refine rd_store rfl 30 _ _ rfl none rfl g303 (tA (anyT L f (memF ((picks L O').take (j + 1))))) rfl rfl r310_x Try.zTc rfl (tA_one _) ?_
            refine ⟨fun V312 n312 k312 => ?_⟩
            have m312_a := k312.on r310_a ne303_a
            have m312_b := k312.on r310_b ne303_b
            have m312_v := k312.on r310_v ne303_v
            have m312_ru := (r310_ru).wr k312 up303
            have m312_rn := RS.wr r310_rn k312 r310_x (by decide)
            have o312 := k312.bel _ _ l310 up303
            clear k312
            clear r310_x r310_a r310_b r310_v r310_ru r310_rn l310
            have y313 := Lib.hid (show (fun V : World => CB V g12 30 (tA (anyT L f (memF ((picks L O').take j)))) ∧ CB V g1 22 (bA f)) V312 from ⟨m312_b, m312_v⟩)
            refine hK.out _ _ y313.out (fun hHeld => ?_)
            clear hK K y313
            try simp only [Act.put, List.setIfInBounds_toArray, List.set_cons_zero, List.set_cons_succ]
            refine wpAnyH_takeL (i := 11) (d := some 20) (v := .int .i64 0) rfl rfl (by kernel_rfl) (by kernel_rfl) (by kernel_rfl) (fun _ _ _ h => h) (Or.inl ⟨by rfl, ?_⟩) hHeld ?_
            · intro w hSw; (try dsimp only at hSw); go_simp
            try simp only [Act.put, List.setIfInBounds_toArray, List.set_cons_zero, List.set_cons_succ]
            refine wpAnyH_done (by kernel_rfl) ?_ _
            go_wp2_with (first | (first | ((with_reducible refine st_load 30 _ g303 ?_ n312 Try.underlying30 ?_ ?_ ?_); exact rfl; exact rfl; exact Try.zTc) | ((with_reducible refine st_loadG 30 _ g303 ?_ n312 Try.underlying30 ?_ ?_ ?_ ?_); exact rfl; exact rfl; exact Try.zTc; exact rfl)) | ((with_reducible refine st_store 30 _ _ g12 (tA (anyT L f (memF ((picks L O').take (j + 1))))) ?_ ?_ m312_b ?_ ?_ ?_ ?_); exact rfl; exact rfl; exact Try.zTc; exact rfl; exact tA_one _))
            refine ⟨fun V314 n314 k314 => ?_⟩
            have m314_a := k314.on m312_a ne12_a
            have m314_v := k314.on m312_v ne12_v
            have m314_x := k314.on n312 (Ne.symm ne303_b)
            have m314_ru := (m312_ru).wr k314 up12
            have m314_rn := RS.wr m312_rn k314 m312_b (by decide)
            have o314 := k314.bel _ _ o312 up12
            clear k314
            clear m312_b m312_a m312_v n312 m312_ru m312_rn o312
            go_wp2_with fail
            go_roundw
            case rel => exact ⟨j + 1, by omega, by go_num, m314_a, n314, m314_v, m314_ru, m314_rn, o314⟩
            case measure => simp [intOf]; omega
        obtain rfl : j = M := by omega
        have HM := Lib.hid (memF_end hpl)
        rw [HM.out, HP.out] at hb2
        clear HM HP rn2
        have O1 := fun W => out_c (anyT L f (memF L)) W
        rw [any_out ho hl] at O1
        have hE : ∀ U V, (Op.equalIn 10000 30 (.agg (tA U)) (.agg (tA U))).run Try.prog V = .ok true V := fun U V => by have := eq_tc U U V; rw [eqY_refl] at this; exact this
        obtain ⟨U, hU⟩ : ∃ U, anyT L f (memF L) = U := ⟨_, rfl⟩
        rw [hU] at O1 ha2 hb2
        clear hU
        go_wp2_with fail
        go_loopw [21, 106] (fun yv iv wr => ∃ i : Nat, i ≤ k ∧ iv = .int .i64 i ∧ yv = .bool (yesL L f i) ∧ CB wr g7 30 (tA U) ∧ CB wr g12 30 (tA U) ∧ CB wr g1 22 (bA f) ∧ RU w wr A k c L ∧ Below w.heap.size w wr) (fun _ iv _ => k - (intOf iv).toNat)
        case atStart => exact ⟨0, by omega, rfl, by simp [yesL], ha2, hb2, hv2, hu2, hbel⟩
        case round =>
          clear ha2 hb2 hv2 hu2 hbel
          obtain ⟨i, hi, rfl, rfl, ha3, hb3, hv3, hu3, hbel3⟩ := hrel
          by_cases hil : i < k
          · have l1 : (i : Int) < k := by omega
            have l2 : (0 : Int) ≤ (i : Int) := by omega
            obtain ⟨gt, oft, x, hx, hA, cx⟩ := hu3.rr.u8 hil
            have h8 : x < 8 := ho.2.1 x (List.mem_of_getElem? hx)
            have hy := yesL_next (f := f) hx
            have j1 : (x : Int) < 8 := by omega
            have j2 : (0 : Int) ≤ (x : Int) := by omega
            have htm : (x : Int).tmod 8 = (x : Int) := by rw [Int.tmod_eq_emod_of_nonneg j2]; omega
            have cf := (CB.cell hv3 x).trans (bA_get f h8)
            obtain ⟨e, he⟩ : ∃ e, f x = e := ⟨_, rfl⟩
            obtain ⟨y, hyy⟩ : ∃ y, yesL L f i = y := ⟨_, rfl⟩
            rw [he] at cf hy
            rw [hyy] at hy ⊢
            have HY := Lib.hid hy
            clear hx he hyy hy O1
            subst hA
            cases y with
            | false =>
              go_wp2_with fail
              go_roundw
              case rel => exact ⟨i + 1, by omega, by go_num, by rw [HY.out]; rfl, ha3, hb3, hv3, hu3, hbel3⟩
              case measure => simp [intOf]; omega
            | true =>
              cases e with
              | false =>
                go_wp2_with fail
                go_roundw
                case rel => exact ⟨i + 1, by omega, by go_num, by rw [HY.out]; rfl, ha3, hb3, hv3, hu3, hbel3⟩
                case measure => simp [intOf]; omega
              | true =>
                go_wp2_with fail
                go_roundw
                case rel => exact ⟨i + 1, by omega, by go_num, by rw [HY.out]; rfl, ha3, hb3, hv3, hu3, hbel3⟩
                case measure => simp [intOf]; omega
          obtain rfl : i = k := by omega
          obtain ⟨y, hyy⟩ : ∃ y, yesL L f i = y := ⟨_, rfl⟩
          rw [hyy] at O1 ⊢
          clear hyy
          cases y with
          | false =>
            have O2 : ∀ W, Calls Try.prog 19 #[.agg (tA U)] W fun r w' => r = .returned (.int .i64 2) ∧ Below W.heap.size W w' := O1
            clear O1
            go_wp2_with (first | (first | ((with_reducible refine st_load 30 _ g7 ?_ ha3 Try.underlying30 ?_ ?_ ?_); exact rfl; exact rfl; exact Try.zTc) | ((with_reducible refine st_loadG 30 _ g7 ?_ ha3 Try.underlying30 ?_ ?_ ?_ ?_); exact rfl; exact rfl; exact Try.zTc; exact rfl)) | (first | ((with_reducible refine st_load 30 _ g12 ?_ hb3 Try.underlying30 ?_ ?_ ?_); exact rfl; exact rfl; exact Try.zTc) | ((with_reducible refine st_loadG 30 _ g12 ?_ hb3 Try.underlying30 ?_ ?_ ?_ ?_); exact rfl; exact rfl; exact Try.zTc; exact rfl)))
            refine (O2 _).mono ?_
            rintro e w401 ⟨rfl, b401⟩
            have r402_a := le_on ha3 b401
            have r402_b := le_on hb3 b401
            have r402_v := le_on hv3 b401
            have r402_ru := (hu3).on b401
            have l402 := le_tr hbel3 b401
            clear ha3 hb3 hv3 hu3 hbel3
            clear b401
            go_wp2_with fail
            go_ret
            exact ⟨rfl, l402⟩
          | true =>
            have O2 : ∀ W, Calls Try.prog 19 #[.agg (tA U)] W fun r w' => r = .returned (.int .i64 1) ∧ Below W.heap.size W w' := O1
            clear O1
            go_wp2_with (first | (first | ((with_reducible refine st_load 30 _ g7 ?_ ha3 Try.underlying30 ?_ ?_ ?_); exact rfl; exact rfl; exact Try.zTc) | ((with_reducible refine st_loadG 30 _ g7 ?_ ha3 Try.underlying30 ?_ ?_ ?_ ?_); exact rfl; exact rfl; exact Try.zTc; exact rfl)) | (first | ((with_reducible refine st_load 30 _ g12 ?_ hb3 Try.underlying30 ?_ ?_ ?_); exact rfl; exact rfl; exact Try.zTc) | ((with_reducible refine st_loadG 30 _ g12 ?_ hb3 Try.underlying30 ?_ ?_ ?_ ?_); exact rfl; exact rfl; exact Try.zTc; exact rfl)))
            refine (O2 _).mono ?_
            rintro e w401 ⟨rfl, b401⟩
            have r402_a := le_on ha3 b401
            have r402_b := le_on hb3 b401
            have r402_v := le_on hv3 b401
            have r402_ru := (hu3).on b401
            have l402 := le_tr hbel3 b401
            clear ha3 hb3 hv3 hu3 hbel3
            clear b401
            go_wp2_with fail
            go_ret
            exact ⟨rfl, l402⟩
  rw [sNew_2 ho, eNew_2 ho] at N1
  clear ho
  go_enter Try.func5, Try.ntmps5
  go_wp2_with (first | ((with_reducible refine st_box 22 _ (bA f) ?_ ?_); exact rfl))
  refine ⟨fun V1 g1 n1 f1 => ?_⟩
  have up1 : w.heap.size ≤ g1 := Nat.le_of_eq f1.at_
  have bl1 := f1.bel
  clear f1
  have r2_ru := (ru).on bl1
  have r2_rv := (rv).on bl1
  have l2 := le_tr (Below.refl _ _) bl1
  clear ru rv
  clear bl1
  go_wp2_with fail
  refine (alive_c _).mono ?_
  rintro e w3 ⟨rfl, b3⟩
  have r4_v := le_on n1 b3
  have r4_ru := (r2_ru).on b3
  have r4_rv := (r2_rv).on b3
  have l4 := le_tr l2 b3
  clear n1 r2_ru r2_rv l2
  clear b3
  go_wp2_with fail
  refine (N1 _ (r4_ru).rr).mono ?_
  rintro e w5 ⟨rfl, b5⟩
  have r6_v := le_on r4_v b5
  have r6_ru := (r4_ru).on b5
  have r6_rv := (r4_rv).on b5
  have l6 := le_tr l4 b5
  clear r4_v r4_ru r4_rv l4
  clear b5
  go_wp2_with (first | ((with_reducible refine st_alloc 30 (tA zeroY) ?_ ?_); exact zero_c))
  refine ⟨fun V7 g7 n7 f7 => ?_⟩
  have ne7_v := f7.ne r6_v
  have up7 : w.heap.size ≤ g7 := f7.up l6
  have bl7 := f7.bel
  clear f7
  have r8_v := le_on r6_v bl7
  have r8_ru := (r6_ru).on bl7
  have r8_rv := (r6_rv).on bl7
  have l8 := le_tr l6 bl7
  clear r6_v r6_ru r6_rv l6
  clear bl7
  go_wp2_with (first | ((with_reducible refine st_store 30 _ _ g7 (tA zeroY) ?_ ?_ n7 ?_ ?_ ?_ ?_); exact rfl; exact rfl; exact Try.zTc; exact rfl; exact tA_one _))
  refine ⟨fun V9 n9 k9 => ?_⟩
  have m9_v := k9.on r8_v ne7_v
  have m9_ru := (r8_ru).wr k9 up7
  have m9_rv := (r8_rv).wr k9 up7
  have o9 := k9.bel _ _ l8 up7
  clear k9
  clear n7 r8_v r8_ru r8_rv l8
  go_wp2_with fail
  refine (N1 _ (m9_ru).rr).mono ?_
  rintro e w10 ⟨rfl, b10⟩
  have r11_v := le_on m9_v b10
  have r11_a := le_on n9 b10
  have r11_ru := (m9_ru).on b10
  have r11_rv := (m9_rv).on b10
  have l11 := le_tr o9 b10
  clear m9_v n9 m9_ru m9_rv o9
  clear b10
  go_wp2_with (first | ((with_reducible refine st_alloc 30 (tA zeroY) ?_ ?_); exact zero_c))
  refine ⟨fun V12 g12 n12 f12 => ?_⟩
  have ne12_v := f12.ne r11_v
  have ne12_a := f12.ne r11_a
  have up12 : w.heap.size ≤ g12 := f12.up l11
  have bl12 := f12.bel
  clear f12
  have r13_v := le_on r11_v bl12
  have r13_a := le_on r11_a bl12
  have r13_ru := (r11_ru).on bl12
  have r13_rv := (r11_rv).on bl12
  have l13 := le_tr l11 bl12
  clear r11_v r11_a r11_ru r11_rv l11
  clear bl12
  go_wp2_with (first | ((with_reducible refine st_store 30 _ _ g12 (tA zeroY) ?_ ?_ n12 ?_ ?_ ?_ ?_); exact rfl; exact rfl; exact Try.zTc; exact rfl; exact tA_one _))
  refine ⟨fun V14 n14 k14 => ?_⟩
  have m14_v := k14.on r13_v ne12_v
  have m14_a := k14.on r13_a ne12_a
  have m14_ru := (r13_ru).wr k14 up12
  have m14_rv := (r13_rv).wr k14 up12
  have o14 := k14.bel _ _ l13 up12
  clear k14
  clear n12 r13_v r13_a r13_ru r13_rv l13
  go_wp2_with fail
  go_ret
  exact ⟨rfl, o14⟩
end Go.Proofs.Ytjooceaclfdjjaa
