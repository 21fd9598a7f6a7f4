/-
  Plain mathematics of layer 17 (note): which notes may be, their bytes, and the notes of bytes. It speaks of no program. No condition.
-/
import Derived.Test.YtcfdfimkgehdfaaNCodeM
import Derived.Test.YtcfdfimkgehdfaaNSumM
set_option linter.unusedVariables false
set_option linter.unusedSimpArgs false
namespace Go.Proofs.Ytcfdfimkgehdfaa.Dk
set_option maxRecDepth 100000

/-- A note; the last five are its message. -/
structure Nt where
  kd : Int
  mb : Int
  tx : Int
  ep : Int
  vl : Int
  mq : Int
  mf : Int
  mt : Int
  me : Int
  cg : ByteArray
theorem Nt.ext_ {n m : Nt} (h0 : n.kd = m.kd) (h1 : n.mb = m.mb) (h2 : n.tx = m.tx) (h3 : n.ep = m.ep) (h4 : n.vl = m.vl) (h5 : n.mq = m.mq) (h6 : n.mf = m.mf) (h7 : n.mt = m.mt) (h8 : n.me = m.me) (h9 : n.cg = m.cg) : n = m := by
  cases n; cases m; simp_all
/-- The bytes are in their type's range. -/
def InN (n : Nt) : Prop := (0 ≤ n.mb ∧ n.mb < 256) ∧ (0 ≤ n.mf ∧ n.mf < 256) ∧ (0 ≤ n.mt ∧ n.mt < 256)
def EpN (e : Int) : Prop := 1 ≤ e ∧ e ≤ 1048576
def MsgN (n : Nt) : Prop := (1 ≤ n.mq ∧ n.mq ≤ 4) ∧ n.mf < 8 ∧ n.mt < 8 ∧ EpN n.me ∧ n.cg.size ≤ 500
def NoMsg (n : Nt) : Prop := n.mq = 0 ∧ n.mf = 0 ∧ n.mt = 0 ∧ n.me = 0 ∧ n.cg.size = 0
def KindN (n : Nt) : Prop := (n.kd = 2 ∧ EpN n.ep ∧ (n.vl = 1 ∨ n.vl = 2)) ∨ (n.kd = 3 ∧ EpN n.ep ∧ n.vl = 0) ∨ (n.kd = 4 ∧ n.ep = 0 ∧ n.vl = 0) ∨ (n.kd = 5 ∧ n.ep = 0 ∧ 0 ≤ n.vl ∧ n.vl ≤ 2)
/-- Which notes may be. -/
def RightN (n : Nt) : Prop := n.mb < 8 ∧ ((n.kd = 1 ∧ n.tx = 0 ∧ n.ep = 0 ∧ n.vl = 0 ∧ MsgN n) ∨ (NoMsg n ∧ (0 ≤ n.tx ∧ n.tx < 1000) ∧ KindN n))
instance (e : Int) : Decidable (EpN e) := by unfold EpN; infer_instance
instance (n : Nt) : Decidable (MsgN n) := by unfold MsgN; infer_instance
instance (n : Nt) : Decidable (NoMsg n) := by unfold NoMsg; infer_instance
instance (n : Nt) : Decidable (KindN n) := by unfold KindN; infer_instance
instance (n : Nt) : Decidable (RightN n) := by unfold RightN; infer_instance
/-- What every note that may be keeps to. -/
structure BoundN (n : Nt) : Prop where
  kd : 1 ≤ n.kd ∧ n.kd ≤ 5
  mb : 0 ≤ n.mb ∧ n.mb < 8
  tx : 0 ≤ n.tx ∧ n.tx < 1000
  ep : 0 ≤ n.ep ∧ n.ep ≤ 1048576
  vl : 0 ≤ n.vl ∧ n.vl ≤ 2
  mq : 0 ≤ n.mq ∧ n.mq ≤ 4
  mf : 0 ≤ n.mf ∧ n.mf < 8
  mt : 0 ≤ n.mt ∧ n.mt < 8
  me : 0 ≤ n.me ∧ n.me ≤ 1048576
  cg : n.cg.size ≤ 500
theorem bound_n {n : Nt} (hi : InN n) (h : RightN n) : BoundN n := by
  obtain ⟨⟨i1, _⟩, ⟨i2, _⟩, ⟨i3, _⟩⟩ := hi
  obtain ⟨hm, h⟩ := h
  rcases h with ⟨a, b, c, d, ⟨e1, e2⟩, e3, e4, e5, e6⟩ | ⟨⟨a, b, c, d, e⟩, f, g⟩
  · obtain ⟨e7, e8⟩ := e5
    exact ⟨by omega, by omega, by omega, by omega, by omega, by omega, by omega, by omega, by omega, e6⟩
  · unfold KindN EpN at g
    exact ⟨by omega, by omega, by omega, by omega, by omega, by omega, by omega, by omega, by omega, by omega⟩
/-- The shape "aabcaaaact", the values of a note, its bytes. -/
def shN : List UInt8 := [97, 97, 98, 99, 97, 97, 97, 97, 99, 116]
def cn (k : Int) : CV := ⟨k.toNat, ⟨#[]⟩⟩
def cvN (n : Nt) : List CV := [cn n.kd, cn n.mb, cn n.tx, cn n.ep, cn n.vl, cn n.mq, cn n.mf, cn n.mt, cn n.me, ⟨0, n.cg⟩]
def encN (n : Nt) : List UInt8 := enc shN (cvN n)
def byN (n : Nt) : List UInt8 := frameB (encN n)
theorem fitN1 {k : Int} (h : k < 256) : fitB 97 (cn k) = true := by simp [fitB, wd, cn, ByteArray.size]; omega
theorem fitN2 {k : Int} (h : k < 65536) : fitB 98 (cn k) = true := by simp [fitB, wd, cn, ByteArray.size]; omega
theorem fitN4 {k : Int} (h : k < 4294967296) : fitB 99 (cn k) = true := by simp [fitB, wd, cn, ByteArray.size]; omega
theorem fitNt {t : ByteArray} (h : t.size ≤ 2000) : fitB 116 ⟨0, t⟩ = true := by simp [fitB, h]
theorem fits_n {n : Nt} (h : BoundN n) : fitsB shN (cvN n) = true := by
  have := h.kd; have := h.mb; have := h.tx; have := h.ep; have := h.vl; have := h.mq; have := h.mf; have := h.mt; have := h.me; have := h.cg
  simp [shN, cvN, fitsB, fitN1 (k := n.kd) (by omega), fitN1 (k := n.mb) (by omega), fitN2 (k := n.tx) (by omega), fitN4 (k := n.ep) (by omega), fitN1 (k := n.vl) (by omega), fitN1 (k := n.mq) (by omega), fitN1 (k := n.mf) (by omega), fitN1 (k := n.mt) (by omega), fitN4 (k := n.me) (by omega), fitNt (t := n.cg) (by omega)]
theorem encN_length (n : Nt) : (encN n).length = 18 + n.cg.size := by
  have h1 : ∀ k : Int, (encV 97 (cn k)).length = 1 := fun k => by simp [encV, num_length, wd]
  have h2 : ∀ k : Int, (encV 98 (cn k)).length = 2 := fun k => by simp [encV, num_length, wd]
  have h4 : ∀ k : Int, (encV 99 (cn k)).length = 4 := fun k => by simp [encV, num_length, wd]
  have ht : (encV 116 ⟨0, n.cg⟩).length = 2 + n.cg.size := by simp [encV, num_length, bl_length]
  simp only [encN, shN, cvN, enc, List.length_append, h1, h2, h4, ht, List.length_nil]
  omega
theorem byN_length (n : Nt) : (byN n).length = 25 + n.cg.size := by rw [byN, frameB_length, encN_length]; omega
theorem eE_n {n : Nt} (h : BoundN n) : eE shN (cvN n) = 0 ∧ bE shN (cvN n) = encN n := by
  have e : eE shN (cvN n) = 0 := eE_zero.2 ⟨by decide, rfl, fits_n h, by have := encN_length n; have := h.cg; unfold encN at *; omega⟩
  exact ⟨e, by unfold bE; rw [if_pos e]; rfl⟩
/-- The note of ten values. -/
def ofN (l : List CV) : Nt :=
  let g := fun i => ((l.getD i ⟨0, ⟨#[]⟩⟩).n : Int)
  ⟨g 0, g 1, g 2, g 3, g 4, g 5, g 6, g 7, g 8, (l.getD 9 ⟨0, ⟨#[]⟩⟩).s⟩
theorem ofN_cvN {n : Nt} (h : BoundN n) : ofN (cvN n) = n := by
  have := h.kd; have := h.mb; have := h.tx; have := h.ep; have := h.vl; have := h.mq; have := h.mf; have := h.mt; have := h.me
  apply Nt.ext_ <;> simp [ofN, cvN, cn] <;> omega
theorem fit_n {c : UInt8} (hc : ¬ c = 116) {v : CV} (h : fitB c v = true) : v = cn (v.n : Int) ∧ v.n < 256 ^ wd c := by
  unfold fitB at h
  rw [if_neg hc] at h
  simp at h
  obtain ⟨n, s⟩ := v
  obtain ⟨h1, h2⟩ := h
  refine ⟨CV.ext_ (by simp [cn]) ?_, h2⟩
  have h3 : s = ByteArray.empty := by simpa using h1
  rw [h3]
  rfl
theorem fit_t {v : CV} (h : fitB 116 v = true) : v.n = 0 ∧ v.s.size ≤ 2000 := by simpa [fitB] using h
theorem cvN_ofN {l : List CV} (hl : l.length = shN.length) (h : fitsB shN l = true) : cvN (ofN l) = l ∧ InN (ofN l) ∧ 0 ≤ (ofN l).kd := by
  match l, hl with
  | [v0, v1, v2, v3, v4, v5, v6, v7, v8, v9], _ =>
    simp only [shN, fitsB, Bool.and_eq_true] at h
    obtain ⟨h0, h1, h2, h3, h4, h5, h6, h7, h8, h9, _⟩ := h
    have e0 := fit_n (by decide) h0
    have e1 := fit_n (by decide) h1
    have e2 := fit_n (by decide) h2
    have e3 := fit_n (by decide) h3
    have e4 := fit_n (by decide) h4
    have e5 := fit_n (by decide) h5
    have e6 := fit_n (by decide) h6
    have e7 := fit_n (by decide) h7
    have e8 := fit_n (by decide) h8
    have e9 := fit_t h9
    have w1 : 256 ^ wd 97 = 256 := by decide
    rw [w1] at e1 e6 e7
    have a9 : (⟨0, v9.s⟩ : CV) = v9 := CV.ext_ e9.1.symm rfl
    refine ⟨?_, ⟨⟨?_, ?_⟩, ⟨?_, ?_⟩, ⟨?_, ?_⟩⟩, ?_⟩
    · simp only [cvN, ofN, List.getD_cons_zero, List.getD_cons_succ]
      rw [← e0.1, ← e1.1, ← e2.1, ← e3.1, ← e4.1, ← e5.1, ← e6.1, ← e7.1, ← e8.1, a9]
    all_goals simp only [ofN, List.getD_cons_zero, List.getD_cons_succ]
    all_goals omega
/-- Encode. -/
def eNt (n : Nt) : Nat := if RightN n then 0 else 2
def bNt (n : Nt) : List UInt8 := if RightN n then byN n else []
/-- Decode: the note of bytes, if there is one. -/
def dNt (b : List UInt8) : Option Nt :=
  if fE b = 0 ∧ fK b = b.length then
    match okD shN (fC b) with
    | some l => if RightN (ofN l) then some (ofN l) else none
    | none => none
  else none
theorem dNt_some {b : List UInt8} {n : Nt} : dNt b = some n ↔ InN n ∧ RightN n ∧ b = byN n := by
  constructor
  · intro h
    unfold dNt at h
    split at h
    · rename_i h1
      cases ho : okD shN (fC b) with
      | none => rw [ho] at h; cases h
      | some l =>
        rw [ho] at h
        simp only at h
        split at h
        · rename_i hr
          cases h
          obtain ⟨o1, o2, o3, _⟩ := okD_some.1 ho
          obtain ⟨c1, c2, _⟩ := cvN_ofN o1 o2
          refine ⟨c2, hr, ?_⟩
          obtain ⟨f1, f2⟩ := first_frame h1.1
          have f3 := fK_ok h1.1
          unfold byN encN
          rw [c1, o3, ← f1, ← f3, h1.2, List.take_length]
        · cases h
    · cases h
  · rintro ⟨hi, hr, rfl⟩
    have hb := bound_n hi hr
    have hl : (encN n).length ≤ 4000 := by have := encN_length n; have := hb.cg; omega
    obtain ⟨f1, f2, f3⟩ := frame_first (encN n) [] hl
    rw [List.append_nil] at f1 f2 f3
    have ho : okD shN (encN n) = some (cvN n) := okD_some.2 ⟨rfl, fits_n hb, rfl, hl⟩
    unfold dNt byN
    rw [if_pos ⟨f1, by rw [f3, frameB_length]⟩, f2, ho]
    simp only
    rw [ofN_cvN hb, if_pos hr]
/-- Unlike notes have unlike bytes. -/
theorem byN_inj {n m : Nt} (hn : InN n) (hm : InN m) (rn : RightN n) (rm : RightN m) (h : byN n = byN m) : n = m := by
  have a := dNt_some.2 ⟨hn, rn, rfl⟩
  have b := dNt_some.2 ⟨hm, rm, rfl⟩
  rw [h, b] at a
  cases a
  rfl
/-- Of a beginning of a note's bytes there is none. -/
theorem dNt_short {n : Nt} (hi : InN n) (hr : RightN n) {j : Nat} (hj : j < (byN n).length) : dNt ((byN n).take j) = none := by
  have hb := bound_n hi hr
  have hl : (encN n).length ≤ 4000 := by have := encN_length n; have := hb.cg; omega
  have := first_short (encN n) [] hl j (by rw [byN, frameB_length] at hj; exact hj)
  rw [List.append_nil] at this
  unfold dNt
  rw [if_neg (fun h => this h.1)]
/-- .. nor of them with one turned, but for those of the size. -/
theorem dNt_turned {n : Nt} (hi : InN n) (hr : RightN n) {j : Nat} {x y : UInt8} (hx : (byN n)[j]? = some x) (hne : ¬ x = y) (hj : j = 0 ∨ 3 ≤ j) : dNt ((byN n).set j y) = none := by
  have hb := bound_n hi hr
  have hl : (encN n).length ≤ 4000 := by have := encN_length n; have := hb.cg; omega
  have hz : ¬ fE ((byN n).set j y) = 0 := by
    rcases hj with rfl | hj
    · intro h
      have h1 := (fE_zero h).2.1
      have hlen : 0 < (byN n).length := by rw [byN_length]; omega
      rw [List.getElem?_set_self hlen] at h1
      have h2 : (byN n)[0]? = some 1 := by unfold byN frameB headB; rfl
      rw [h2] at hx
      cases hx
      cases h1
      exact hne rfl
    · obtain ⟨i, rfl⟩ : ∃ i, j = i + 3 := ⟨j - 3, by omega⟩
      exact frame_turned (encN n) hl i x y hx hne
  unfold dNt
  rw [if_neg (fun h => hz h.1)]
end Go.Proofs.Ytcfdfimkgehdfaa.Dk
