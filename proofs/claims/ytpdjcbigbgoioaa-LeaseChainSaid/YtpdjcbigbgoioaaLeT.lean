/-
  The walk of the law LeaseChain: it returns true and leaves all memory that was there. Condition: the bytes can be read.
-/
import Derived.Test.YtpdjcbigbgoioaaLeD
import Derived.Test.YtpdjcbigbgoioaaLeE
import Derived.Test.YtpdjcbigbgoioaaOpn
import Derived.Test.YtpdjcbigbgoioaaRow2
set_option linter.unusedVariables false
set_option linter.unusedSimpArgs false
namespace Go.Proofs.Ytpdjcbigbgoioaa
open Go.RowKit

def c8 (x : Nat) : List Value := [.int .u8 (x : Int)]
instance : Nonempty (EncOk c8 1) := ⟨⟨fun _ => rfl, fun x u hu => by
  simp [c8] at hu
  subst hu
  rfl, by omega⟩⟩
theorem u8_trod {H : Type} {enc : TypeId × Value → H} {w : World} (m : Nat) (cs : List Value) (y : DataW H × List MemPlace) (hl : cs.length = 1) (hf : DataW.trod enc Try.prog w 0 (fun _ => true) true m 5 cs = some y) :
    ∃ x : Nat, x ≤ 255 ∧ cs = c8 x := by
  obtain ⟨n0, e0, _, z0⟩ := DataW.trod_int (x := y) Try.underlying5 hf
  have hb : 0 ≤ n0 ∧ n0 ≤ 255 := by
    simp [Lit.wf, IntKind.min, IntKind.max, IntKind.bits, IntKind.signed] at z0
    omega
  refine ⟨n0.toNat, by omega, ?_⟩
  rw [e0]
  unfold c8
  rw [show ((n0.toNat : Nat) : Int) = n0 by omega]
theorem Try.c8c : Try.prog.cellsOf 5 = 1 := by kernel_rfl
theorem u8s_of {H : Type} {enc : TypeId × Value → H} {w : World} {a : Option Addr} {len cap : Nat} {d : DataW H} {p : List MemPlace}
    (h : DataW.Trod enc Try.prog w 0 (fun _ => true) true 40 (.slice a len cap) d p) :
    ∃ L : List Nat, RR w c8 1 a len cap L ∧ ∀ x ∈ L, x ≤ 255 :=
  row_of (c := c8) (s := 1) _ Try.underlying40 Try.c8c u8_trod h
theorem u8_at {w : World} {A : Option Addr} {n cap : Nat} {M : List Nat} (h : RR w c8 1 A n cap M) (h8 : ∀ x ∈ M, x ≤ 255) {k : Nat} (hk : k < n) :
    ∃ g off x, A = some ⟨g, off, none⟩ ∧ x ≤ 255 ∧ w.cell? ⟨g, off + k, none⟩ = some (.int .u8 ((x : Nat) : Int)) := by
  obtain ⟨g, off, x, hx, rfl, hc⟩ := h.at_ hk
  refine ⟨g, off, x, rfl, h8 x (List.mem_of_getElem? hx), ?_⟩
  have := hc 0 _ rfl
  simpa using this

/-- An array of eight leases, as a function. -/
def lfc (F : Nat → Ls) (i : Nat) : Value := if i % 3 = 0 then .int .i64 (F (i / 3)).ep else if i % 3 = 1 then .int .i64 (F (i / 3)).st else .int .u8 (F (i / 3)).to
def LA (w : World) (b : Nat) (F : Nat → Ls) : Prop := AN w b 51 24 (lfc F)
theorem LA.new (w : World) : LA (w.alloc (.cells #[.int .i64 0, .int .i64 0, .int .u8 0, .int .i64 0, .int .i64 0, .int .u8 0, .int .i64 0, .int .i64 0, .int .u8 0, .int .i64 0, .int .i64 0, .int .u8 0, .int .i64 0, .int .i64 0, .int .u8 0, .int .i64 0, .int .i64 0, .int .u8 0, .int .i64 0, .int .i64 0, .int .u8 0, .int .i64 0, .int .i64 0, .int .u8 0] 51)) w.heap.size (fun _ => ⟨0, 0, 0⟩) :=
  ⟨_, CB.new w _ _, rfl, fun i hi => by
    match i, hi with
    | 0, _ => rfl
    | 1, _ => rfl
    | 2, _ => rfl
    | 3, _ => rfl
    | 4, _ => rfl
    | 5, _ => rfl
    | 6, _ => rfl
    | 7, _ => rfl
    | 8, _ => rfl
    | 9, _ => rfl
    | 10, _ => rfl
    | 11, _ => rfl
    | 12, _ => rfl
    | 13, _ => rfl
    | 14, _ => rfl
    | 15, _ => rfl
    | 16, _ => rfl
    | 17, _ => rfl
    | 18, _ => rfl
    | 19, _ => rfl
    | 20, _ => rfl
    | 21, _ => rfl
    | 22, _ => rfl
    | 23, _ => rfl
    | k + 24, h => omega⟩
section
variable {w w' : World} {b : Nat} {F : Nat → Ls}
theorem LA.on (h : LA w b F) (hb : Below w.heap.size w w') : LA w' b F := AN.same h (hb.block _ (AN.lt h))
theorem LA.lt (h : LA w b F) : b < w.heap.size := AN.lt h
theorem LA.ne (h : LA w b F) {g : Nat} {T : TypeId} {cs : Array Value} (hc : CB w g T cs) (hT : 51 ≠ T) : g ≠ b := by
  obtain ⟨cs', h1, _⟩ := h
  exact fun e => CB.ne_ h1 hc hT e.symm
theorem LA.drew (h : LA w b F) : LA w.drew b F := h
theorem LA.cells (h : LA w b F) {k : Nat} (hk : k < 8) : w.cell? ⟨b, k * 3, none⟩ = some (.int .i64 (F k).ep) ∧ w.cell? ⟨b, k * 3 + 1, none⟩ = some (.int .i64 (F k).st) ∧ w.cell? ⟨b, k * 3 + 2, none⟩ = some (.int .u8 (F k).to) := by
  have h0 := AN.cell h (i := k * 3) (by omega)
  have h1 := AN.cell h (i := k * 3 + 1) (by omega)
  have h2 := AN.cell h (i := k * 3 + 2) (by omega)
  rw [h0, h1, h2]
  unfold lfc
  rw [if_pos (by omega), if_neg (by omega), if_pos (by omega), if_neg (by omega), if_neg (by omega), show k * 3 / 3 = k by omega, show (k * 3 + 1) / 3 = k by omega, show (k * 3 + 2) / 3 = k by omega]
  exact ⟨rfl, rfl, rfl⟩
theorem LA.froz (h : LA w b F) (i : Nat) : w.frozen? ⟨b, i, none⟩ = false := AN.frozen h i
theorem AN.congr {w : World} {g : Nat} {t : TypeId} {N : Nat} {f f' : Nat → Value} (h : AN w g t N f) (e : ∀ j, j < N → f j = f' j) : AN w g t N f' := by
  obtain ⟨cs, h1, h2, h3⟩ := h
  exact ⟨cs, h1, h2, fun i hi => by rw [h3 i hi, e i hi]⟩
def putF (F : Nat → Ls) (k : Nat) (l : Ls) : Nat → Ls := fun j => if j = k then l else F j
theorem putF_same (F : Nat → Ls) (k : Nat) (l : Ls) : putF F k l k = l := if_pos rfl
theorem putF_other (F : Nat → Ls) {k j : Nat} (l : Ls) (h : j ≠ k) : putF F k l j = F j := if_neg h
theorem LA.put (h : LA w b F) {k : Nat} (hk : k < 8) (ep st to : Int) :
    ∃ V, ((w.setCell ⟨b, k * 3, none⟩ (.int .i64 ep)).setCell ⟨b, k * 3 + 1, none⟩ (.int .i64 st)).setCell ⟨b, k * 3 + 2, none⟩ (.int .u8 to) = V ∧ LA V b (putF F k ⟨ep, st, to⟩) ∧ (∀ B w0, Below B w0 w → B ≤ b → Below B w0 V) ∧ (∀ b' T' cs, b' ≠ b → CB w b' T' cs → CB V b' T' cs) := by
  have h0 := AN.put h (i := k * 3) (by omega) (.int .i64 ep) (f' := fun j => if j = k * 3 then .int .i64 ep else lfc F j) (fun _ _ => rfl)
  have h1 := AN.put h0 (i := k * 3 + 1) (by omega) (.int .i64 st) (f' := fun j => if j = k * 3 + 1 then .int .i64 st else if j = k * 3 then .int .i64 ep else lfc F j) (fun _ _ => rfl)
  have h2 := AN.put h1 (i := k * 3 + 2) (by omega) (.int .u8 to) (f' := fun j => if j = k * 3 + 2 then .int .u8 to else if j = k * 3 + 1 then .int .i64 st else if j = k * 3 then .int .i64 ep else lfc F j) (fun _ _ => rfl)
  refine ⟨_, rfl, AN.congr h2 fun j hj => ?_, fun B w0 hw hB => ?_, fun b' T' cs hb hc => ?_⟩
  · unfold lfc putF
    by_cases e : j / 3 = k
    · simp only [if_pos e]
      by_cases e0 : j % 3 = 0
      · rw [if_neg (by omega), if_neg (by omega), if_pos (by omega), if_pos e0]
      · by_cases e1 : j % 3 = 1
        · rw [if_neg (by omega), if_pos (by omega), if_neg e0, if_pos e1]
        · rw [if_pos (by omega), if_neg e0, if_neg e1]
    · simp only [if_neg e]
      rw [if_neg (by omega), if_neg (by omega), if_neg (by omega)]
  · exact ((hw.setCell (p := ⟨b, k * 3, none⟩) hB _).setCell (p := ⟨b, k * 3 + 1, none⟩) hB _).setCell (p := ⟨b, k * 3 + 2, none⟩) hB _
  · exact ((hc.far (p := ⟨b, k * 3, none⟩) hb _).far (p := ⟨b, k * 3 + 1, none⟩) hb _).far (p := ⟨b, k * 3 + 2, none⟩) hb _
end
/-- The station a holds the agency in epoch E, and no other one does, nor knows of a later epoch. -/
structure ChI (F : Nat → Ls) (a E : Nat) : Prop where
  at_ : F a = ⟨E, 1, 0⟩
  lo : 1 ≤ E
  oth : ∀ j, j < 8 → j ≠ a → rightL (F j) = true ∧ (F j).st ≠ 1 ∧ (F j).ep ≤ E
theorem ch_start : ChI (putF (fun _ => ⟨0, 0, 0⟩) 0 ⟨1, 1, 0⟩) 0 1 :=
  ⟨putF_same _ _ _, Nat.le_refl _, fun j _ hj => by rw [putF_other _ _ hj]; exact ⟨by decide, by decide, by decide⟩⟩
theorem ch_next {F : Nat → Ls} {a E q : Nat} (h : ChI F a E) (hE : E ≤ 1000) (ha : a < 8) (hq : q < 8) (hne : ¬ q = a) :
    (eGiveL ⟨E, 1, 0⟩ q = 0 ∧ sGiveL ⟨E, 1, 0⟩ q = ⟨E, 2, q⟩) ∧ (eTakeL (F q) ((E : Int) + 1) = 0 ∧ sTakeL (F q) ((E : Int) + 1) = ⟨(E : Int) + 1, 1, 0⟩) ∧ ChI (putF (putF F a ⟨E, 2, q⟩) q ⟨(E : Int) + 1, 1, 0⟩) q (E + 1) := by
  have hlo := h.lo
  obtain ⟨o1, o2, o3⟩ := h.oth q hq hne
  have g0 : eGiveL ⟨E, 1, 0⟩ q = 0 := by
    unfold eGiveL
    rw [right_held (by omega) (by omega), if_neg (by simp; omega), if_neg (by simp), if_neg (by simp; omega)]
  have hi : inEp ((E : Int) + 1) = true := by unfold inEp; simp; omega
  have t0 : eTakeL (F q) ((E : Int) + 1) = 0 := by
    unfold eTakeL
    rw [o1, hi, if_neg (by simp), if_neg (fun h => o2 h.1), if_neg (by omega)]
  refine ⟨⟨g0, by unfold sGiveL; rw [if_pos g0]⟩, ⟨t0, by unfold sTakeL; rw [if_pos t0]; rfl⟩, putF_same _ _ _, by omega, fun j hj hjq => ?_⟩
  rw [putF_other _ _ hjq]
  by_cases hja : j = a
  · subst hja
    rw [putF_same]
    exact ⟨right_gone (by omega) (by omega) (by omega), by simp, by simp; omega⟩
  · rw [putF_other _ _ hja]
    obtain ⟨p1, p2, p3⟩ := h.oth j hj hja
    exact ⟨p1, p2, by omega⟩
theorem ch_speaks {F : Nat → Ls} {a E : Nat} (h : ChI F a E) (hE : E ≤ 1100) {j : Nat} (hj : j < 8) : (j = a → (F j).st = 1 ∧ speaksL (F j) E = true) ∧ (j ≠ a → (F j).st ≠ 1 ∧ speaksL (F j) E = false) := by
  have hlo := h.lo
  refine ⟨fun e => ?_, fun e => ?_⟩
  · subst e
    rw [h.at_]
    refine ⟨rfl, ?_⟩
    unfold speaksL
    rw [right_held (by omega) (by omega)]
    simp
  · obtain ⟨p1, p2, _⟩ := h.oth j hj e
    refine ⟨p2, ?_⟩
    unfold speaksL
    simp [p2]
set_option maxRecDepth 100000 in
set_option maxHeartbeats 4000000 in
theorem chain_walk (A : Option Addr) (n cap : Nat) (M : List Nat) (w : World) (hm : RR w c8 1 A n cap M) (h8 : ∀ x ∈ M, x ≤ 255) : Calls Try.prog 7 #[.slice A n cap] w fun r w' => r = .returned (.bool true) ∧ Below w.heap.size w w' := by
  have hmax : n ≤ 9223372036854775807 := by have h1 := hm.cap; have h2 := hm.max; simp only [maxLen] at h2; omega
  go_enter Try.func7, Try.ntmps7
  go_wp2_with fail
  refine (alive_c _).mono ?_
  rintro e w1 ⟨rfl, b1⟩
  have l2 := b1
  clear b1
  obtain ⟨W0, hW0⟩ : ∃ V, w1.alloc (.cells #[.int .i64 0, .int .i64 0, .int .u8 0, .int .i64 0, .int .i64 0, .int .u8 0, .int .i64 0, .int .i64 0, .int .u8 0, .int .i64 0, .int .i64 0, .int .u8 0, .int .i64 0, .int .i64 0, .int .u8 0, .int .i64 0, .int .i64 0, .int .u8 0, .int .i64 0, .int .i64 0, .int .u8 0, .int .i64 0, .int .i64 0, .int .u8 0] 51) = V := ⟨_, rfl⟩
  have hA : LA W0 w1.heap.size (fun _ => ⟨0, 0, 0⟩) := by rw [← hW0]; exact LA.new _
  have hl0 : Below w.heap.size w W0 := by rw [← hW0]; exact le_tr l2 (le_al _ _)
  have hbb := (l2).size
  have HW0 := Lib.hid hW0
  clear hW0
  go_wp2_with fail
  rw [HW0.out]
  refine (take_c 0 0 0 1 _).mono ?_
  rintro e w3 ⟨h1, b3⟩
  have r4_arr := (hA).on b3
  have l4 := le_tr hl0 b3
  clear hA hl0
  clear b3
  simp only [show sTakeL ⟨0, 0, 0⟩ 1 = ⟨1, 1, 0⟩ from rfl, show eTakeL ⟨0, 0, 0⟩ 1 = 0 from rfl] at h1
  subst h1
  obtain ⟨W5, hW5⟩ : ∃ V, w3.alloc (.cells #[.int .i64 1, .int .i64 1, .int .u8 0] 27) = V := ⟨_, rfl⟩
  have zW5 : w3.heap.size = w3.heap.size := by rfl
  have nW5 : CB W5 (w3.heap.size) 27 #[.int .i64 1, .int .i64 1, .int .u8 0] := by rw [← zW5, ← hW5]; exact CB.new _ _ _
  have bW5 : Below w3.heap.size w3 W5 := by rw [← hW5]; exact le_al _ _
  have HW5 := Lib.hid hW5
  clear hW5 zW5
  have r6_arr := (r4_arr).on bW5
  have l6 := le_tr l4 bW5
  clear r4_arr l4
  clear bW5
  obtain ⟨U, hU, hAU, hlU, hkU⟩ := LA.put r6_arr (k := 0) (by omega) 1 1 0
  simp only [Nat.zero_mul, Nat.zero_add] at hU
  have hz := LA.cells r6_arr (k := 0) (by omega)
  have hf := LA.froz r6_arr
  simp only [Nat.zero_mul, Nat.zero_add] at hz
  have za0 : (w3.alloc (.cells #[.int .i64 1, .int .i64 1, .int .u8 0] 27)).cell? ⟨w1.heap.size, 0, none⟩ = some (.int .i64 0) := by rw [HW5.out]; exact hz.1
  have fa0 : (w3.alloc (.cells #[.int .i64 1, .int .i64 1, .int .u8 0] 27)).frozen? ⟨w1.heap.size, 0, none⟩ = false := by rw [HW5.out]; exact hf 0
  have za1 : (w3.alloc (.cells #[.int .i64 1, .int .i64 1, .int .u8 0] 27)).cell? ⟨w1.heap.size, 1, none⟩ = some (.int .i64 0) := by rw [HW5.out]; exact hz.2.1
  have fa1 : (w3.alloc (.cells #[.int .i64 1, .int .i64 1, .int .u8 0] 27)).frozen? ⟨w1.heap.size, 1, none⟩ = false := by rw [HW5.out]; exact hf 1
  have za2 : (w3.alloc (.cells #[.int .i64 1, .int .i64 1, .int .u8 0] 27)).cell? ⟨w1.heap.size, 2, none⟩ = some (.int .u8 0) := by rw [HW5.out]; exact hz.2.2
  have fa2 : (w3.alloc (.cells #[.int .i64 1, .int .i64 1, .int .u8 0] 27)).frozen? ⟨w1.heap.size, 2, none⟩ = false := by rw [HW5.out]; exact hf 2
  have HU := Lib.hid (show ((((w3.alloc (.cells #[.int .i64 1, .int .i64 1, .int .u8 0] 27)).setCell ⟨w1.heap.size, 0, none⟩ (.int .i64 1)).setCell ⟨w1.heap.size, 1, none⟩ (.int .i64 1)).setCell ⟨w1.heap.size, 2, none⟩ (.int .u8 0)) = U by rw [HW5.out]; exact hU)
  have lU := hlU _ _ l6 (by omega)
  clear hU hlU hkU hz hf
  go_wp2_with fail
  rw [HU.out]
  clear za0 fa0 za1 fa1 za2 fa2
  clear r6_arr nW5 l6
  go_loopw [6, 7, 8] (fun av ev iv wr => ∃ (k a E : Nat) (F : Nat → Ls), k ≤ n ∧ k ≤ 100 ∧ iv = .int .i64 k ∧ av = .int .u8 a ∧ ev = .int .i64 E ∧ a < 8 ∧ E ≤ k + 1 ∧ LA wr w1.heap.size F ∧ Hid (ChI F a E) ∧ Below w.heap.size w wr) (fun _ _ iv _ => n - (intOf iv).toNat)
  case atStart => exact ⟨0, 0, 1, _, Nat.zero_le _, Nat.zero_le _, rfl, rfl, rfl, by omega, by omega, hAU, ch_start, lU⟩
  case round =>
    clear hAU lU HU
    obtain ⟨k, a, E, F, hk, hk1, rfl, rfl, rfl, ha, hE, hF, HC, hbw⟩ := hrel
    obtain ⟨wz, hwz⟩ : ∃ z, z = wr := ⟨_, rfl⟩
    subst hwz
    have hws := hbw.size
    by_cases hlt : k < n ∧ k < 100
    · obtain ⟨hl1, hl2⟩ := hlt
      have q1 : decide ((k : Int) < (n : Int)) = true := by simp; omega
      have q2 : decide ((k : Int) < 100) = true := by simp; omega
      have q3 : (k : Int) < (n : Int) := by omega
      obtain ⟨ga, oa, x, rfl, hx8, a0⟩ := u8_at (hm.on hbw) h8 hl1
      obtain ⟨q, hq⟩ : ∃ q, x % 8 = q := ⟨_, rfl⟩
      have hq8 : q < 8 := by omega
      have hqi : (x : Int) % 8 = (q : Int) := by omega
      have hqt : (x : Int).tmod 8 = (q : Int) := by rw [Int.tmod_eq_emod_of_nonneg (by omega)]; exact hqi
      clear hq
      by_cases hqa : q = a
      · have e1 : ((q : Int) == (a : Int)) = true := by simp [hqa]
        go_wp2_with fail
        go_roundw
        case rel => exact ⟨k + 1, a, E, F, by omega, by omega, by go_num, rfl, rfl, ha, by omega, hF, HC, hbw⟩
        case measure => simp [intOf]; omega
      · have e1 : ((q : Int) == (a : Int)) = false := by simp; omega
        obtain ⟨⟨g0, g1⟩, ⟨t0, t1⟩, hn⟩ := ch_next HC.out (by omega) ha hq8 hqa
        have HN := Lib.hid hn
        clear hn
        have G1 := fun W => give_c E 1 0 q W
        simp only [g0, g1] at G1
        obtain ⟨⟨fe, fs, ft⟩, hFq⟩ : ∃ s, F q = s := ⟨_, rfl⟩
        rw [hFq] at t0 t1
        have T1 := fun W => take_c fe fs ft ((E : Int) + 1) W
        simp only [t0, t1] at T1
        clear g0 g1 t0 t1
        have i1 : (a : Int) < 8 := by omega
        have i2 : (q : Int) < 8 := by omega
        have i3 : (0 : Int) ≤ (a : Int) := by omega
        have i4 : (0 : Int) ≤ (q : Int) := by omega
        have hFa := HC.out.at_
        have hzp := LA.cells hF (k := a) (by omega)
        rw [hFa] at hzp
        simp only at hzp
        have cp0 : wz.cell? ⟨w1.heap.size, a * 3, none⟩ = some (.int .i64 (E : Int)) := hzp.1
        have cp1 : wz.cell? ⟨w1.heap.size, a * 3 + 1, none⟩ = some (.int .i64 1) := hzp.2.1
        have cp2 : wz.cell? ⟨w1.heap.size, a * 3 + 2, none⟩ = some (.int .u8 0) := hzp.2.2
        go_wp2_with fail
        refine (G1 _).mono ?_
        rintro e w102 ⟨rfl, b102⟩
        clear a0 cp0 cp1 cp2 hzp
        have r103_arr := (hF).on b102
        have l103 := le_tr hbw b102
        clear hF hbw
        clear b102
        obtain ⟨W104, hW104⟩ : ∃ V, w102.alloc (.cells #[.int .i64 (E : Int), .int .i64 2, .int .u8 (q : Int)] 27) = V := ⟨_, rfl⟩
        have zW104 : w102.heap.size = w102.heap.size := by rfl
        have nW104 : CB W104 (w102.heap.size) 27 #[.int .i64 (E : Int), .int .i64 2, .int .u8 (q : Int)] := by rw [← zW104, ← hW104]; exact CB.new _ _ _
        have bW104 : Below w102.heap.size w102 W104 := by rw [← hW104]; exact le_al _ _
        have HW104 := Lib.hid hW104
        clear hW104 zW104
        have r105_arr := (r103_arr).on bW104
        have l105 := le_tr l103 bW104
        clear r103_arr l103
        clear bW104
        have hzr := LA.cells r105_arr (k := q) (by omega)
        rw [hFq] at hzr
        simp only at hzr
        have cr0 : (w102.alloc (.cells #[.int .i64 (E : Int), .int .i64 2, .int .u8 (q : Int)] 27)).cell? ⟨w1.heap.size, q * 3, none⟩ = some (.int .i64 fe) := by rw [HW104.out]; exact hzr.1
        have cr1 : (w102.alloc (.cells #[.int .i64 (E : Int), .int .i64 2, .int .u8 (q : Int)] 27)).cell? ⟨w1.heap.size, q * 3 + 1, none⟩ = some (.int .i64 fs) := by rw [HW104.out]; exact hzr.2.1
        have cr2 : (w102.alloc (.cells #[.int .i64 (E : Int), .int .i64 2, .int .u8 (q : Int)] 27)).cell? ⟨w1.heap.size, q * 3 + 2, none⟩ = some (.int .u8 ft) := by rw [HW104.out]; exact hzr.2.2
        go_wp2_with fail
        rw [HW104.out]
        refine (T1 _).mono ?_
        rintro e w106 ⟨rfl, b106⟩
        clear cr0 cr1 cr2 hzr
        have r107_g := le_on nW104 b106
        have r107_arr := (r105_arr).on b106
        have l107 := le_tr l105 b106
        clear nW104 r105_arr l105
        clear b106
        obtain ⟨W108, hW108⟩ : ∃ V, w106.alloc (.cells #[.int .i64 ((E : Int) + 1), .int .i64 1, .int .u8 0] 27) = V := ⟨_, rfl⟩
        have zW108 : w106.heap.size = w106.heap.size := by rfl
        have nW108 : CB W108 (w106.heap.size) 27 #[.int .i64 ((E : Int) + 1), .int .i64 1, .int .u8 0] := by rw [← zW108, ← hW108]; exact CB.new _ _ _
        have bW108 : Below w106.heap.size w106 W108 := by rw [← hW108]; exact le_al _ _
        have neW108_g : w102.heap.size ≠ w106.heap.size := by have := CB.lt r107_g; omega
        have HW108 := Lib.hid hW108
        clear hW108 zW108
        have r109_g := le_on r107_g bW108
        have r109_arr := (r107_arr).on bW108
        have l109 := le_tr l107 bW108
        clear r107_g r107_arr l107
        clear bW108
        go_wp2_with fail
        rw [HW108.out]
        obtain ⟨Ua, hUa, hAa, hla, hka⟩ := LA.put r109_arr ha (E : Int) 2 (q : Int)
        obtain ⟨Uc, hUc, hAc, hlc, hkc⟩ := LA.put hAa hq8 ((E : Int) + 1) 1 0
        have f109_g0 : W108.cell? ⟨w102.heap.size, 0, none⟩ = some (.int .i64 (E : Int)) := CB.cell r109_g 0
        have f109_g1 : W108.cell? ⟨w102.heap.size, 1, none⟩ = some (.int .i64 2) := CB.cell r109_g 1
        have f109_g2 : W108.cell? ⟨w102.heap.size, 2, none⟩ = some (.int .u8 (q : Int)) := CB.cell r109_g 2
        have f109_t0 : W108.cell? ⟨w106.heap.size, 0, none⟩ = some (.int .i64 ((E : Int) + 1)) := CB.cell nW108 0
        have f109_t1 : W108.cell? ⟨w106.heap.size, 1, none⟩ = some (.int .i64 1) := CB.cell nW108 1
        have f109_t2 : W108.cell? ⟨w106.heap.size, 2, none⟩ = some (.int .u8 0) := CB.cell nW108 2
        have na_g := hka _ _ _ (LA.ne r109_arr r109_g (by decide)) r109_g
        have ug0 : Ua.cell? ⟨w102.heap.size, 0, none⟩ = some (.int .i64 (E : Int)) := CB.cell na_g 0
        have ug1 : Ua.cell? ⟨w102.heap.size, 1, none⟩ = some (.int .i64 2) := CB.cell na_g 1
        have ug2 : Ua.cell? ⟨w102.heap.size, 2, none⟩ = some (.int .u8 (q : Int)) := CB.cell na_g 2
        have na_t := hka _ _ _ (LA.ne r109_arr nW108 (by decide)) nW108
        have ut0 : Ua.cell? ⟨w106.heap.size, 0, none⟩ = some (.int .i64 ((E : Int) + 1)) := CB.cell na_t 0
        have ut1 : Ua.cell? ⟨w106.heap.size, 1, none⟩ = some (.int .i64 1) := CB.cell na_t 1
        have ut2 : Ua.cell? ⟨w106.heap.size, 2, none⟩ = some (.int .u8 0) := CB.cell na_t 2
        obtain ⟨m0, m1, m2⟩ := LA.cells r109_arr ha
        rw [hFa] at m0 m1 m2
        simp only at m0 m1 m2
        have mf0 := LA.froz r109_arr (a * 3)
        have mf1 := LA.froz r109_arr (a * 3 + 1)
        have mf2 := LA.froz r109_arr (a * 3 + 2)
        obtain ⟨o0, o1, o2⟩ := LA.cells hAa hq8
        rw [putF_other _ _ hqa, hFq] at o0 o1 o2
        simp only at o0 o1 o2
        have of0 := LA.froz hAa (q * 3)
        have of1 := LA.froz hAa (q * 3 + 1)
        have of2 := LA.froz hAa (q * 3 + 2)
        have lc := hlc _ _ (hla _ _ l109 (by omega)) (by omega)
        clear hla hka hlc hkc
        go_region
        clear m0 m1 m2 mf0 mf1 mf2 o0 o1 o2 of0 of1 of2 hUa hUc hAa ug0 ug1 ug2 ut0 ut1 ut2 na_g na_t
        clear f109_g0 f109_g1 f109_g2 f109_t0 f109_t1 f109_t2
        clear hFa r109_arr r109_g nW108 l109
        obtain ⟨F2, hF2⟩ : ∃ G, putF (putF F a ⟨(E : Int), 2, (q : Int)⟩) q ⟨(E : Int) + 1, 1, 0⟩ = G := ⟨_, rfl⟩
        rw [hF2] at HN hAc
        clear hF2
        obtain ⟨Ux, hUx⟩ : ∃ U, Uc.drew = U := ⟨_, rfl⟩
        have hA2 : LA Ux w1.heap.size F2 := by rw [← hUx]; exact hAc.drew
        have l2' : Below w.heap.size w Ux := by rw [← hUx]; exact le_dN (k := 1) lc
        rw [hUx]
        clear hUx hAc lc
        have hE1 : ((E + 1 : Nat) : Int) = (E : Int) + 1 := by omega
        go_wp2_with fail
        go_loopw [74] (fun jv wr => ∃ j : Nat, j ≤ 8 ∧ jv = .int .i64 j ∧ LA wr w1.heap.size F2 ∧ Below w.heap.size w wr) (fun jv _ => 8 - (intOf jv).toNat)
        case atStart => exact ⟨0, Nat.zero_le _, rfl, hA2, l2'⟩
        case round =>
          clear hA2 l2'
          obtain ⟨j, hj8, rfl, hA', hb'⟩ := hrel
          by_cases hjl : j < 8
          · have j1 : (j : Int) < 8 := by omega
            have j2 : (0 : Int) ≤ (j : Int) := by omega
            obtain ⟨s1, s2⟩ := ch_speaks HN.out (by omega) hjl
            obtain ⟨⟨ge, gs, gt⟩, hFj⟩ : ∃ s, F2 j = s := ⟨_, rfl⟩
            have hz := LA.cells hA' hjl
            rw [hFj] at s1 s2 hz
            rw [hE1] at s1 s2
            obtain ⟨z0, z1, z2⟩ := hz
            simp only at z0 z1 z2
            clear hFj
            have S1 := fun W => speaks_c ge gs gt ((E : Int) + 1) W
            by_cases hjq : j = q
            · obtain ⟨t1, t2⟩ := s1 hjq
              have e2 : (gs == 1) = true := by simpa using t1
              have e3 : ((j : Int) == (q : Int)) = true := by simp; omega
              simp only [t2] at S1
              clear s1 s2 t1 t2 hjq
              go_wp2_with fail
              refine (S1 _).mono ?_
              rintro e w501 ⟨rfl, b501⟩
              clear z0 z1 z2
              have r502_arr := (hA').on b501
              have l502 := le_tr hb' b501
              clear hA' hb'
              clear b501
              go_wp2_with fail
              go_roundw
              case rel => exact ⟨j + 1, by omega, by go_num, r502_arr, l502⟩
              case measure => simp [intOf]; omega
            · obtain ⟨t1, t2⟩ := s2 hjq
              have e2 : (gs == 1) = false := by simpa using t1
              have e3 : ((j : Int) == (q : Int)) = false := by simp; omega
              simp only [t2] at S1
              clear s1 s2 t1 t2 hjq
              go_wp2_with fail
              refine (S1 _).mono ?_
              rintro e w501 ⟨rfl, b501⟩
              clear z0 z1 z2
              have r502_arr := (hA').on b501
              have l502 := le_tr hb' b501
              clear hA' hb'
              clear b501
              go_wp2_with fail
              go_roundw
              case rel => exact ⟨j + 1, by omega, by go_num, r502_arr, l502⟩
              case measure => simp [intOf]; omega
          · go_wp2_with fail
            go_roundw
            case rel => exact ⟨k + 1, q, E + 1, F2, by omega, by omega, by go_num, rfl, by go_num, hq8, by omega, hA', HN.out, hb'⟩
            case measure => simp [intOf]; omega
    have hq0 : ¬ k < n ∨ ¬ k < 100 := by omega
    by_cases h1 : k < n
    · have q1 : decide ((k : Int) < (n : Int)) = true := by simp; omega
      have q2 : decide ((k : Int) < 100) = false := by simp; omega
      go_wp2_with fail
      go_ret
      exact ⟨rfl, hbw⟩
    · have q1 : decide ((k : Int) < (n : Int)) = false := by simp; omega
      go_wp2_with fail
      go_ret
      exact ⟨rfl, hbw⟩
end Go.Proofs.Ytpdjcbigbgoioaa
