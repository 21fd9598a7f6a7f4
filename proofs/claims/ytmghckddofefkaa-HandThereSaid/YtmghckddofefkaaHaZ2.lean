/-
  The walk of the law HandThere: it returns true and leaves all memory that was there. Condition: the steps can be read.
-/
import Derived.Test.YtmghckddofefkaaHaX
import Derived.Test.YtmghckddofefkaaHaY
set_option linter.unusedVariables false
set_option linter.unusedSimpArgs false
namespace Go.Proofs.Ytmghckddofefkaa
open Go.RowKit


theorem MI.first {S : Nat → Sd} {L : List Mg} {c : ByteArray} {E : Int} {o : Nat} {t : Bool} (h : PI 4 S L c E o t) : MI [(1, 0)] E o := by
  intro p hp
  simp at hp
  subst hp
  exact ⟨h.e1, fun e => by rw [h.fst e.symm]; rfl⟩
/-- Where a side keeps a cargo, that is said, and the answer, and no more. -/
theorem PI.rd {S : Nat → Sd} {c : ByteArray} {E : Int} {o : Nat} {t : Bool} (h : PI 4 S [] c E o t) {a : Nat} (ha : a < 4) (hkp : (S a).kp = true) (hE : pot E t ≤ 1000000) :
    ∃ (m1 : Mg) (j : Nat), Rd S (gvM (S a)) m1 j a ∧ ∃ E' o' t', PI 4 (rdS S (gvM (S a)) m1 j a 2) [] c E' o' t' ∧ pot E' t' ≤ pot E t ∧ ∀ k, k < 4 → (rdS S (gvM (S a)) m1 j a 2 k).kp = true → (S k).kp = true ∧ ¬ k = a := by
  obtain ⟨j, h1, h2, h3, h4, h5, E', o', t', h6, h7, h8⟩ := h.round ha hkp hE
  exact ⟨⟨4, j, a, (S a).l.ep + 1, ⟨#[]⟩⟩, j, ⟨h3, h1, rfl, ha, h4, h5⟩, E', o', t', h6, h7, h8⟩
/-- What holds of the sides while those that keep a cargo say it again. -/
structure Qi (S : Nat → Sd) (c : ByteArray) (a : Nat) (all : Bool) (E : Int) (o : Nat) (t : Bool) : Prop where
  pi : PI 4 S [] c E o t
  pot_ : pot E t ≤ 151
  none_ : ∀ k, k < 4 → (all = true ∨ k < a) → (S k).kp = false
set_option maxRecDepth 100000 in
set_option maxHeartbeats 16000000 in
theorem there_walk (A : Option Addr) (n q : Nat) (K : List Stp) (w : World) (h : RR w stc 5 A n q K) (hK : ∀ s ∈ K, inStp s) : Calls Try.prog 6 #[.slice A n q] w fun r w' => r = .returned (.bool true) ∧ Below w.heap.size w w' := by
  have hmax : n ≤ 9223372036854775807 := by have h1 := h.cap; have h2 := h.max; simp only [maxLen] at h2; omega
  have HK := Lib.hid hK
  clear hK
  go_enter Try.func6, Try.ntmps6
  go_wp2_with fail
  refine (alive_c _).mono ?_
  rintro e w1 ⟨rfl, b1⟩
  go_wp2_with fail
  refine (begun_c _).mono ?_
  rintro e w2 ⟨P, rfl, hpl, b2⟩
  obtain ⟨B, hB⟩ : ∃ B, w1.heap.size = B := ⟨_, rfl⟩
  rw [hB] at hpl b2
  have hwB : w.heap.size ≤ B := by rw [← hB]; exact b1.size
  have b0 : Below w.heap.size w w2 := b1.trans (b2.mono hwB)
  have hB2 : B ≤ w2.heap.size := by rw [← hB]; exact b2.size
  clear b1 b2 hB
  go_wp2_with fail
  go_loopw [4] (fun iv wr => ∃ (k : Nat) (S : Nat → Sd) (L : List Mg) (c : ByteArray) (E : Int) (o : Nat) (t : Bool), k ≤ n ∧ k ≤ 150 ∧ iv = .int .i64 k ∧ PL B wr P S L c [(1, 0)] ∧ Hid (PI 4 S L c E o t) ∧ L.length ≤ k ∧ pot E t ≤ k + 1 ∧ Below w.heap.size w wr ∧ B ≤ wr.heap.size) (fun iv _ => n - (intOf iv).toNat)
  case atStart => exact ⟨0, _, _, _, 1, 0, false, by omega, by omega, rfl, hpl, PI.start (by omega) (by omega) _ (by decide), by simp, by simp [pot], b0, hB2⟩
  case round =>
    clear hpl b0 hB2
    obtain ⟨k, S, L, c, E, o, t, hk, hk2, rfl, hpr, HI, hL, hpo, hbr, hBr⟩ := hrel
    obtain ⟨wz, hwz⟩ : ∃ z, z = wr := ⟨_, rfl⟩
    subst hwz
    by_cases hlt : k < n ∧ k < 150
    · obtain ⟨l1, l2⟩ := hlt
      have t1 : decide ((k : Int) < (n : Int)) = true := by simp; omega
      have t2 : decide ((k : Int) < 150) = true := by simp; omega
      obtain ⟨g, off, s, hs, rfl, d0, d1, d2, d3, d4⟩ := step_at (h.on hbr) HK.out l1
      obtain ⟨s1, s2, s3, s4⟩ := hs
      have st := fun W hp hB => step_c B P S L c [(1, 0)] E o t s.kd s.x s.a s.b s.cg W hp hB HI.out (by omega) s2 s1 s3 s4
      clear s2 s1 s3 s4
      obtain ⟨skd, sx, sa, sb, scg⟩ := s
      simp only at d0 d1 d2 d3 d4 st
      go_wp2_with fail
      refine (st _ hpr hBr).mono ?_
      rintro e w5 ⟨S', L', c', E', o', t', ⟨v5, rfl⟩, hp5, hI5, hL5, _, hpo5, b5⟩
      have HI5 := Lib.hid hI5
      clear hI5 d0 d1 d2 d3 d4 st
      go_wp2_with fail
      go_roundw
      case rel => exact ⟨k + 1, S', L', c', E', o', t', by omega, by omega, by go_num, hp5, HI5, by omega, by omega, hbr.trans (b5.mono hwB), Nat.le_trans hBr b5.size⟩
      case measure => simp [intOf]; omega
    · have HQ0 := Lib.hid (show Qi S c 0 false E o t from ⟨HI.out.sub (by simp), by omega, fun k _ h => by rcases h with h | h; cases h; omega⟩)
      rcases (show (k < n ∧ ¬ k < 150 ∧ decide ((k : Int) < (n : Int)) = true ∧ decide ((k : Int) < 150) = false) ∨ (¬ k < n ∧ decide ((k : Int) < (n : Int)) = false) by
        by_cases l1 : k < n
        · exact .inl ⟨l1, by omega, by simp; omega, by simp; omega⟩
        · exact .inr ⟨l1, by simp; omega⟩) with ⟨l1, l2, t1, t2⟩ | ⟨l1, t1⟩
      all_goals (
        clear hlt hpo hL HI
        go_wp2_with fail
        go_loopw [30] (fun iv wr => ∃ (r : Nat) (S : Nat → Sd) (E : Int) (o : Nat) (t : Bool), r ≤ 6 ∧ iv = .int .i64 r ∧ PL B wr P S L c [(1, 0)] ∧ Hid (Qi S c 0 (decide (1 ≤ r)) E o t) ∧ Below w.heap.size w wr ∧ B ≤ wr.heap.size) (fun iv _ => 6 - (intOf iv).toNat)
        case atStart => exact ⟨0, S, E, o, t, by omega, rfl, hpr, HQ0, hbr, hBr⟩
        case round =>
          clear hpr HQ0 hbr hBr
          obtain ⟨r, S1, E1, o1, t1', hr, rfl, hpr, HQ, hbr, hBr⟩ := hrel
          obtain ⟨wy, hwy⟩ : ∃ z, z = wr := ⟨_, rfl⟩
          subst hwy
          by_cases hlr : r < 6
          · have r1 : decide ((r : Int) < 6) = true := by simp; omega
            go_wp2_with fail
            go_loopw [32] (fun iv wr => ∃ (a : Nat) (S : Nat → Sd) (E : Int) (o : Nat) (t : Bool), a ≤ 4 ∧ iv = .int .i64 a ∧ PL B wr P S L c [(1, 0)] ∧ Hid (Qi S c a (decide (1 ≤ r)) E o t) ∧ Below w.heap.size w wr ∧ B ≤ wr.heap.size) (fun iv _ => 4 - (intOf iv).toNat)
            case atStart => exact ⟨0, S1, E1, o1, t1', by omega, rfl, hpr, HQ, hbr, hBr⟩
            case round =>
              clear hpr HQ hbr hBr
              obtain ⟨a, S2, E2, o2, t2', ha, rfl, hpr, HQ, hbr, hBr⟩ := hrel
              obtain ⟨wx, hwx⟩ : ∃ z, z = wr := ⟨_, rfl⟩
              subst hwx
              by_cases hla : a < 4
              · have a1 : decide ((a : Int) < 4) = true := by simp; omega
                have a2 : (a : Int) < 4 := by omega
                have a3 : (0 : Int) ≤ (a : Int) := by omega
                obtain ⟨⟨sme, ⟨sep, sst, sto⟩, scg, skp⟩, hS⟩ : ∃ s, S2 a = s := ⟨_, rfl⟩
                have G1 := fun W => again_c sme sep sst sto scg skp W
                rw [← hS] at G1
                obtain ⟨R, hR⟩ : ∃ R, againM (S2 a) = R := ⟨_, rfl⟩
                have HR := Lib.hid hR
                rw [hR] at G1
                have HS := Lib.hid hS
                obtain ⟨Ap, np, qp, Gp, bmp, hpm, _⟩ := hpr.all
                obtain ⟨d0, d1, d2, d3, d4, d5⟩ := hpm.at_ hla hS
                clear hR hS hpm
                go_wp2_with fail
                refine (G1 _).mono ?_
                rintro e wu ⟨A2, n2, q2, rfl, hrs, bu⟩
                have hn2 := hrs.len
                have hp2 := hpr.on bu
                have b2 : Below w.heap.size w wu := le_tr hbr bu
                have hB2 := Nat.le_trans hBr bu.size
                clear d0 d1 d2 d3 d4 d5 G1 bu
                have hR1 : R.length ≤ 1 := by rw [← HR.out]; unfold againM; split <;> simp
                go_wp2_with fail
                go_loopw [43] (fun iv wr => ∃ (u : Nat) (S : Nat → Sd) (E : Int) (o : Nat) (t : Bool), u ≤ n2 ∧ iv = .int .i64 u ∧ PL B wr P S L c [(1, 0)] ∧ Hid (PI 4 S [] c E o t ∧ pot E t ≤ 151 ∧ (u = 0 → S = S2 ∧ RS wr 37 mc 5 A2 n2 q2 R) ∧ (0 < u → ∀ k, k < 4 → (S k).kp = true → (S2 k).kp = true ∧ ¬ k = a)) ∧ Below w.heap.size w wr ∧ B ≤ wr.heap.size) (fun iv _ => n2 - (intOf iv).toNat)
                case atStart => exact ⟨0, S2, E2, o2, t2', by omega, rfl, hp2, ⟨HQ.out.pi, HQ.out.pot_, fun _ => ⟨rfl, hrs⟩, fun h => by omega⟩, b2, hB2⟩
                case round =>
                  clear hpr hbr hBr hp2 b2 hB2 hrs
                  obtain ⟨u, S3, E3, o3, t3', hu, rfl, hpr, HU, hbr, hBr⟩ := hrel
                  obtain ⟨wv, hwv⟩ : ∃ z, z = wr := ⟨_, rfl⟩
                  subst hwv
                  by_cases hlu : u < n2
                  · obtain rfl : u = 0 := by omega
                    obtain ⟨hI3, hpo3, hst, _⟩ := HU.out
                    obtain ⟨rfl, hrs⟩ := hst rfl
                    have hkp : (S3 a).kp = true ∧ R = [gvM (S3 a)] := by
                      rw [← HR.out] at hn2 ⊢
                      unfold againM at hn2 ⊢
                      split
                      · rename_i hc; exact ⟨hc.2, rfl⟩
                      · rename_i hc; rw [if_neg hc] at hn2; simp at hn2; omega
                    obtain ⟨m1, j, hrd, E4, o4, t4, hI4, hpo4, hk4⟩ := hI3.rd hla hkp.1 (by omega)
                    rw [hkp.2] at hrs
                    have hRC := fun W hp hB => round_c B P S3 L c [(1, 0)] (gvM (S3 a)) m1 j a W hp hB hrd
                    obtain ⟨n1, gg, off, hA⟩ := RS.one hrs
                    subst n1
                    subst hA
                    rw [HS.out] at hrs hRC
                    simp only [gvM] at hrs hRC
                    obtain ⟨c0, c1, c2, c3, c4⟩ := RS.at0 hrs
                    have u1 : decide (((0 : Nat) : Int) < ((1 : Nat) : Int)) = true := by decide
                    have H4 := Lib.hid (show PI 4 (rdS S3 (gvM (S3 a)) m1 j a 2) [] c E4 o4 t4 ∧ pot E4 t4 ≤ 151 ∧ (0 + 1 = 0 → (rdS S3 (gvM (S3 a)) m1 j a 2) = S3 ∧ RS wv 37 mc 5 (some ⟨gg, off, none⟩) 1 q2 R) ∧ (0 < 0 + 1 → ∀ k, k < 4 → (rdS S3 (gvM (S3 a)) m1 j a 2 k).kp = true → (S3 k).kp = true ∧ ¬ k = a) from ⟨hI4, by omega, fun h => by omega, fun _ => hk4⟩)
                    rw [HS.out] at H4
                    simp only [gvM] at H4
                    generalize rdS S3 ⟨3, sme, sto, sep + 1, scg⟩ m1 j a 2 = S4 at *
                    clear hI3 hst hkp hrd hI4 hk4 hrs
                    obtain ⟨W5, hW5⟩ : ∃ V, wv.alloc (.cells #[.int .i64 3, .int .u8 sme, .int .u8 sto, .int .i64 (sep + 1), .string scg] 37) = V := ⟨_, rfl⟩
                    have b5 : Below wv.heap.size wv W5 := by rw [← hW5]; exact le_al _ _
                    have HW5 := Lib.hid hW5
                    clear hW5
                    go_wp2_with fail
                    rw [HW5.out]
                    refine (hRC _ (hpr.on b5) (Nat.le_trans hBr b5.size)).mono ?_
                    rintro e w6 ⟨⟨v6, rfl⟩, hp6, b6⟩
                    clear c0 c1 c2 c3 c4 hRC
                    go_wp2_with fail
                    go_roundw
                    case rel => exact ⟨_, .int .i64 ((0 + 1 : Nat) : Int), _, _, _, _, _, _, _, ⟨0 + 1, S4, E4, o4, t4, by omega, rfl, hp6, ⟨H4.out.1, H4.out.2.1, fun h => by omega, H4.out.2.2.2⟩, (le_tr hbr b5).trans (b6.mono hwB), Nat.le_trans (Nat.le_trans hBr b5.size) b6.size⟩, rfl⟩
                    case measure => simp [intOf]
                  · obtain rfl : u = n2 := by omega
                    have u1 : decide ((u : Int) < (u : Int)) = false := by simp
                    have HN := Lib.hid (show Qi S3 c (a + 1) (decide (1 ≤ r)) E3 o3 t3' from by
                      obtain ⟨q1, q2, q3, q4⟩ := HU.out
                      refine ⟨q1, q2, fun k hk hh => ?_⟩
                      have old : (decide (1 ≤ r) = true ∨ k < a) → (S2 k).kp = false := HQ.out.none_ k hk
                      cases hkp : (S3 k).kp with
                      | false => rfl
                      | true =>
                        exfalso
                        by_cases hu0 : u = 0
                        · obtain ⟨e1, _⟩ := q3 hu0
                          rw [e1] at hkp
                          by_cases hka : k = a
                          · subst hka
                            have hv := (q1.val k hk).1
                            rw [e1] at hv
                            have : (againM (S2 k)).length = 1 := by unfold againM; rw [if_pos ⟨hv, hkp⟩]; rfl
                            rw [HR.out] at this
                            omega
                          · have := old (by rcases hh with hh | hh; exact .inl hh; exact .inr (by omega))
                            rw [this] at hkp
                            cases hkp
                        · obtain ⟨e1, e2⟩ := q4 (by omega) k hk hkp
                          have := old (by rcases hh with hh | hh; exact .inl hh; exact .inr (by omega))
                          rw [this] at e1
                          cases e1)
                    clear HU HQ HR HS
                    go_wp2_with fail
                    go_roundw
                    case rel => exact ⟨a + 1, S3, E3, o3, t3', by omega, by go_num, hpr, HN, hbr, hBr⟩
                    case measure => simp [intOf]; omega
              · obtain rfl : a = 4 := by omega
                have HN := Lib.hid (show Qi S2 c 0 (decide (1 ≤ r + 1)) E2 o2 t2' from ⟨HQ.out.pi, HQ.out.pot_, fun k hk _ => HQ.out.none_ k hk (.inr hk)⟩)
                clear HQ
                go_wp2_with fail
                go_roundw
                case rel => exact ⟨r + 1, S2, E2, o2, t2', by omega, by go_num, hpr, HN, hbr, hBr⟩
                case measure => simp [intOf]; omega
          · obtain rfl : r = 6 := by omega
            have r1 : decide (((6 : Nat) : Int) < 6) = false := by decide
            have hkpf : ∀ k, k < 4 → (S1 k).kp = false := fun k hk => HQ.out.none_ k hk (.inl (by decide))
            obtain ⟨ht0, hst0, hcn⟩ := HQ.out.pi.there hkpf
            have HC := Lib.hid hcn
            have HF := Lib.hid hkpf
            have ho4 : o1 < 4 := HQ.out.pi.lt
            clear hkpf hst0 hcn ht0
            obtain ⟨Ap, np, qp, Gp, bmp, hpm, _⟩ := hpr.all
            have hinf : (Try.prog.info? 62).map (·.size) = some (sidesA S1).size := by rw [sidesA_size]; kernel_rfl
            have hpc := hpm.sides
            have hix := fun (k : Nat) (hk : k < 4) (me ep st to : Int) (cg : ByteArray) (kp : Bool) (hS : S1 k = ⟨me, ⟨ep, st, to⟩, cg, kp⟩) (V : World) => index_side S1 hk hS V
            obtain ⟨cs, hcs⟩ : ∃ cs, sidesA S1 = cs := ⟨_, rfl⟩
            rw [hcs] at hinf hpc
            simp only [hcs] at hix
            have HX := Lib.hid hix
            clear hcs hix hpm
            go_wp2_with (refine wpList_load_part rfl 62 _ rfl P rfl cs _ hpc Try.underlying62 rfl hinf ?_)
            clear hpc hinf
            go_loopw [8, 57] (fun nv iv wr => ∃ k : Nat, k ≤ 4 ∧ iv = .int .i64 k ∧ nv = .int .i64 (cnt false o1 k : Nat) ∧ Below wy.heap.size wy wr) (fun _ iv _ => 4 - (intOf iv).toNat)
            case atStart => exact ⟨0, by omega, rfl, by simp [cnt], Below.refl _ _⟩
            case round =>
              obtain ⟨k, hk, rfl, rfl, hbz⟩ := hrel
              obtain ⟨wx, hwx⟩ : ∃ z, z = wr := ⟨_, rfl⟩
              subst hwx
              by_cases hlt : k < 4
              · obtain ⟨⟨sme, ⟨sep, sst, sto⟩, scg, skp⟩, hS⟩ : ∃ s, S1 k = s := ⟨_, rfl⟩
                have hix := fun V => HX.out k hlt _ _ _ _ _ _ hS V
                have hkf := HF.out k hlt
                have hcc := HC.out k hlt
                rw [hS] at hkf hcc
                simp only at hkf hcc
                subst hkf
                have k1 : decide ((k : Int) < 4) = true := by simp; omega
                obtain ⟨W5, hW5⟩ : ∃ V, wx.alloc (.cells #[.int .u8 sme, .int .i64 sep, .int .i64 sst, .int .u8 sto, .string scg, .bool false] 31) = V := ⟨_, rfl⟩
                have b5 : Below wx.heap.size wx W5 := by rw [← hW5]; exact le_al _ _
                have HW5 := Lib.hid hW5
                clear hW5 hS
                by_cases hko : k = o1
                · have s1 : (sst == 1) = true := by simp [hcc.2 hko]
                  have c0 : cnt false o1 k = 0 := by unfold cnt; rw [if_neg (by omega)]
                  have C1 := Lib.hid (show cnt false o1 (k + 1) = 1 by unfold cnt; rw [if_pos ⟨rfl, by omega⟩])
                  rw [c0]
                  clear c0 hcc hko
                  go_wp2_with fail
                  rw [HW5.out]
                  go_roundw
                  case rel => exact ⟨k + 1, by omega, by go_num, by rw [C1.out]; rfl, le_tr hbz b5⟩
                  case measure => simp [intOf]; omega
                · have s1 : (sst == 1) = false := by simp; exact fun e => hko (hcc.1 e)
                  have C1 := Lib.hid (show cnt false o1 (k + 1) = cnt false o1 k by
                    unfold cnt
                    by_cases h2 : o1 < k
                    · rw [if_pos (show false = false ∧ o1 < k + 1 from ⟨rfl, by omega⟩), if_pos (show false = false ∧ o1 < k from ⟨rfl, h2⟩)]
                    · rw [if_neg (show ¬ (false = false ∧ o1 < k + 1) from fun h => by have := h.2; omega), if_neg (show ¬ (false = false ∧ o1 < k) from fun h => h2 h.2)])
                  obtain ⟨c9, hc9⟩ : ∃ x, cnt false o1 k = x := ⟨_, rfl⟩
                  rw [hc9] at C1 ⊢
                  clear hc9 hcc hko
                  go_wp2_with fail
                  rw [HW5.out]
                  go_roundw
                  case rel => exact ⟨k + 1, by omega, by go_num, by rw [C1.out], le_tr hbz b5⟩
                  case measure => simp [intOf]; omega
              · obtain rfl : k = 4 := by omega
                have c4 : cnt false o1 4 = 1 := by unfold cnt; rw [if_pos ⟨rfl, ho4⟩]
                rw [c4]
                have k1 : decide (((4 : Nat) : Int) < 4) = false := by decide
                have HP := Lib.hid HQ.out.pi
                clear HQ HC HF HX
                have hp7 := hpr.on hbz
                have hB7 := Nat.le_trans hBr hbz.size
                have b7 := le_tr hbr hbz
                go_wp2_with fail
                refine (one_c B P S1 L c [(1, 0)] E1 o1 t1' _ hp7 hB7 HP.out (MI.first HP.out) (by simp)).mono ?_
                rintro e w8 ⟨rfl, _, b8⟩
                go_wp2_with fail
                go_ret
                exact ⟨rfl, b7.trans (b8.mono hwB)⟩)
end Go.Proofs.Ytmghckddofefkaa
