/-
  The bytes of a lease: plain mathematics; Encode and Decode of package lease, upon the bytes and values in their own namespace. Condition: the numbers are in the range of their types.
-/
import Derived.Test.YtmghckddofefkaaZDeco
import Derived.Test.YtmghckddofefkaaLeB
set_option linter.unusedVariables false
set_option linter.unusedSimpArgs false
namespace Go.Proofs.Ytmghckddofefkaa.Dk
set_option maxRecDepth 100000
open Go.RowKit


def shL : List UInt8 := [97, 99, 97]
def cv3 (a b c : Nat) : List CV := [⟨a, ⟨#[]⟩⟩, ⟨b, ⟨#[]⟩⟩, ⟨c, ⟨#[]⟩⟩]
def cvL (l : Ls) : List CV := cv3 l.st.toNat l.ep.toNat l.to.toNat
def bLe (l : Ls) : List UInt8 := if rightL l = true then enc shL (cvL l) else []
def kLe (l : Ls) : Nat := if rightL l = true then 0 else 2
theorem fit1 {n : Nat} (h : n < 256) : fitB 97 ⟨n, ⟨#[]⟩⟩ = true := by simp [fitB, wd, h, ByteArray.size]
theorem fit4 {n : Nat} (h : n < 4294967296) : fitB 99 ⟨n, ⟨#[]⟩⟩ = true := by simp [fitB, wd, h, ByteArray.size]
theorem cv3_eE {a b c : Nat} (ha : a < 256) (hb : b < 4294967296) (hc : c < 256) : eE shL (cv3 a b c) = 0 ∧ bE shL (cv3 a b c) = enc shL (cv3 a b c) := by
  have h : eE shL (cv3 a b c) = 0 := eE_zero.2 ⟨by decide, rfl, by simp [shL, cv3, fitsB, fit1 ha, fit4 hb, fit1 hc], by
    have e1 := encV_length (fit1 ha)
    have e2 := encV_length (fit4 hb)
    have e3 := encV_length (fit1 hc)
    simp [shL, cv3, enc, e1, e2, e3, wd, ByteArray.size]⟩
  exact ⟨h, by unfold bE; rw [if_pos h]⟩
theorem cv3_eE0 {l : Ls} (hl : inL l) (hr : rightL l = true) : l.st.toNat < 256 ∧ l.ep.toNat < 4294967296 ∧ l.to.toNat < 256 ∧ (l.st.toNat : Int) = l.st ∧ (l.ep.toNat : Int) = l.ep ∧ (l.to.toNat : Int) = l.to := by
  obtain ⟨h1, h2, h3⟩ := hl
  rcases right_cases hr with ⟨a, b, c⟩ | ⟨a, b, c⟩ | ⟨a, b, c⟩ <;> omega

theorem VR.lit3 (w : World) (T : TypeId) (a b c : Nat) (ha : a < 18446744073709551616) (hb : b < 18446744073709551616) (hc : c < 18446744073709551616) :
    VR (w.alloc (.cells #[.int .u64 a, .string ⟨#[]⟩, .int .u64 b, .string ⟨#[]⟩, .int .u64 c, .string ⟨#[]⟩] T)) (some ⟨w.heap.size, 0, none⟩) (cv3 a b c) := by
  have h := CB.new w T #[.int .u64 a, .string ⟨#[]⟩, .int .u64 b, .string ⟨#[]⟩, .int .u64 c, .string ⟨#[]⟩]
  intro i v hv
  match i, hv with
  | 0, hv => simp [cv3] at hv; subst hv; exact ⟨ha, by simp [ByteArray.size, maxLen], w.heap.size, 0, rfl, h.lt, CB.cell h 0, CB.cell h 1⟩
  | 1, hv => simp [cv3] at hv; subst hv; exact ⟨hb, by simp [ByteArray.size, maxLen], w.heap.size, 0, rfl, h.lt, CB.cell h 2, CB.cell h 3⟩
  | 2, hv => simp [cv3] at hv; subst hv; exact ⟨hc, by simp [ByteArray.size, maxLen], w.heap.size, 0, rfl, h.lt, CB.cell h 4, CB.cell h 5⟩
  | k + 3, hv => simp [cv3] at hv
theorem VR.drew {w : World} {A : Option Addr} {l : List CV} (h : VR w A l) : VR w.drew A l := h

theorem enc3_c (A : Option Addr) (cap a b c : Nat) (w : World) (hv : VR w A (cv3 a b c)) : Calls Try.prog 61 #[.string ⟨#[97, 99, 97]⟩, .slice A 3 cap] w (EPostC w (bE shL (cv3 a b c)) (eE shL (cv3 a b c))) :=
  encode_c ⟨#[97, 99, 97]⟩ A cap (cv3 a b c) w (by simp [ByteArray.size, maxLen]) hv
set_option maxRecDepth 100000 in
set_option maxHeartbeats 1000000 in
theorem encL_c (ep st to : Int) (w : World) (hl : inL ⟨ep, st, to⟩) : Calls Try.prog 33 #[.agg #[.int .i64 ep, .int .i64 st, .int .u8 to]] w (EPostC w (bLe ⟨ep, st, to⟩) (kLe ⟨ep, st, to⟩)) := by
  cases hrt : rightL ⟨ep, st, to⟩ with
  | false =>
    have Hrt := Lib.hid hrt
    obtain ⟨W, hW⟩ : ∃ W, w.alloc (.cells #[.int .i64 ep, .int .i64 st, .int .u8 to] 29) = W := ⟨_, rfl⟩
    have hb : Below w.heap.size w W := by rw [← hW]; exact le_al _ _
    have HW := Lib.hid hW
    have Hk := Lib.hid (show bLe ⟨ep, st, to⟩ = [] ∧ kLe ⟨ep, st, to⟩ = 2 by unfold bLe kLe; rw [hrt]; simp)
    clear hW hrt
    go_enter Try.func33, Try.ntmps33
    go_wp2_with fail
    rw [HW.out]
    refine (right_c ep st to _).mono ?_
    rintro e w2 ⟨rfl, hb2⟩
    rw [Hrt.out]
    go_wp2_with fail
    go_ret2
    rw [Hk.out.1, Hk.out.2]
    exact ⟨none, 0, 0, none, rfl, by simpa [bc] using Seg.nil _ _ _, le_tr hb hb2⟩
  | true =>
    obtain ⟨n1, n2, n3, m1, m2, m3⟩ := cv3_eE0 hl hrt
    obtain ⟨k1, k2⟩ := cv3_eE n1 n2 n3
    have Hk := Lib.hid (show bLe ⟨ep, st, to⟩ = bE shL (cv3 st.toNat ep.toNat to.toNat) ∧ kLe ⟨ep, st, to⟩ = eE shL (cv3 st.toNat ep.toNat to.toNat) by
      unfold bLe kLe
      rw [hrt, k1, k2]
      exact ⟨rfl, rfl⟩)
    simp only at n1 n2 n3 m1 m2 m3
    have Hrt := Lib.hid hrt
    clear k1 k2 hrt hl
    rw [Hk.out.1, Hk.out.2]
    clear Hk
    generalize st.toNat = a at *
    generalize ep.toNat = b at *
    generalize to.toNat = c at *
    subst m1 m2 m3
    obtain ⟨W, hW⟩ : ∃ W, w.alloc (.cells #[.int .i64 b, .int .i64 a, .int .u8 c] 29) = W := ⟨_, rfl⟩
    have hp : LB W w.heap.size 29 ⟨b, a, c⟩ := by rw [← hW]; exact LB.new w _ ⟨b, a, c⟩
    have hb : Below w.heap.size w W := by rw [← hW]; exact le_al _ _
    have HW := Lib.hid hW
    clear hW
    go_enter Try.func33, Try.ntmps33
    go_wp2_with fail
    rw [HW.out]
    refine (right_c b a c _).mono ?_
    rintro e w2 ⟨rfl, hb2⟩
    rw [Hrt.out]
    obtain ⟨c0, c1, c2⟩ := (hp.on hb2).cells
    simp only at c0 c1 c2
    have hb3 := le_tr hb hb2
    have hv := VR.lit3 w2 120 a b c (by omega) (by omega) (by omega)
    have hb4 := le_tr hb3 (le_al w2 (.cells #[.int .u64 a, .string ⟨#[]⟩, .int .u64 b, .string ⟨#[]⟩, .int .u64 c, .string ⟨#[]⟩] 120))
    go_wp2_with fail
    refine (enc3_c _ _ a b c _ hv).mono ?_
    rintro e w3 ⟨A3, n3, c3, G3, rfl, hs3, hb5⟩
    go_wp2_with fail
    go_ret2
    exact ⟨A3, n3, c3, G3, rfl, hs3, le_tr hb4 hb5⟩



def lsOf : List CV → Ls
  | [a, b, c] => ⟨b.n, a.n, c.n⟩
  | _ => ⟨0, 0, 0⟩
def kDL (bs : List UInt8) : Nat := if eD shL bs = 0 ∧ rightL (lsOf (lD shL bs)) = true then 0 else 4
def sDL (bs : List UInt8) : Ls := if kDL bs = 0 then lsOf (lD shL bs) else ⟨0, 0, 0⟩
theorem proper_shL : properB shL = true := by decide
theorem fit_s {c : UInt8} {v : CV} (hc : ¬ c = 116) (h : fitB c v = true) : v = ⟨v.n, ⟨#[]⟩⟩ ∧ v.n < 256 ^ wd c := by
  unfold fitB at h
  rw [if_neg hc] at h
  simp only [Bool.and_eq_true, beq_iff_eq, decide_eq_true_eq] at h
  exact ⟨CV.ext_ rfl (empty_of_size h.1), h.2⟩
/-- What the bytes of that shape tell. -/
theorem dec3 (bs : List UInt8) : (eD shL bs = 4 ∧ lD shL bs = []) ∨ ∃ a b c : Nat, eD shL bs = 0 ∧ lD shL bs = cv3 a b c ∧ a < 256 ∧ b < 4294967296 ∧ c < 256 ∧ enc shL (cv3 a b c) = bs := by
  cases ho : okD shL bs with
  | none => exact .inl (eD_no proper_shL ho)
  | some l =>
    obtain ⟨h1, h2⟩ := eD_yes proper_shL ho
    obtain ⟨k1, k2, k3, k4⟩ := okD_some.1 ho
    match l, k1 with
    | [u, v, t], _ =>
      simp only [shL, fitsB, Bool.and_eq_true] at k2
      obtain ⟨f1, f2, f3, _⟩ := k2
      obtain ⟨e1, l1⟩ := fit_s (by decide) f1
      obtain ⟨e2, l2⟩ := fit_s (by decide) f2
      obtain ⟨e3, l3⟩ := fit_s (by decide) f3
      simp [wd] at l1 l2 l3
      have e : [u, v, t] = cv3 u.n v.n t.n := by unfold cv3; rw [← e1, ← e2, ← e3]
      rw [e] at h2 k3
      exact .inr ⟨u.n, v.n, t.n, h1, h2, l1, l2, l3, k3⟩
theorem kD_no {bs : List UInt8} (h : eD shL bs = 4) : kDL bs = 4 ∧ sDL bs = ⟨0, 0, 0⟩ := by
  have h1 : kDL bs = 4 := by unfold kDL; rw [if_neg (by omega)]
  exact ⟨h1, by unfold sDL; rw [h1]; rfl⟩
theorem kD_yes {bs : List UInt8} {a b c : Nat} (h : eD shL bs = 0) (h2 : lD shL bs = cv3 a b c) (hr : rightL ⟨b, a, c⟩ = true) : kDL bs = 0 ∧ sDL bs = ⟨b, a, c⟩ := by
  have h1 : kDL bs = 0 := by unfold kDL; rw [if_pos ⟨h, by rw [h2]; exact hr⟩]
  exact ⟨h1, by unfold sDL; rw [h1, h2]; rfl⟩
theorem kD_bad {bs : List UInt8} {a b c : Nat} (h2 : lD shL bs = cv3 a b c) (hr : rightL ⟨b, a, c⟩ = false) : kDL bs = 4 ∧ sDL bs = ⟨0, 0, 0⟩ := by
  have h1 : kDL bs = 4 := by unfold kDL; rw [if_neg (fun h => by rw [h2] at h; have := h.2; change rightL ⟨b, a, c⟩ = true at this; rw [hr] at this; cases this)]
  exact ⟨h1, by unfold sDL; rw [h1]; rfl⟩
/-- What Encode made comes back. -/
theorem kD_back {l : Ls} (hl : inL l) (hr : rightL l = true) : kDL (bLe l) = 0 ∧ sDL (bLe l) = l := by
  obtain ⟨n1, n2, n3, m1, m2, m3⟩ := cv3_eE0 hl hr
  obtain ⟨k1, k2⟩ := cv3_eE n1 n2 n3
  obtain ⟨j1, j2, j3, j4⟩ := eE_zero.1 k1
  have hb : bLe l = enc shL (cv3 l.st.toNat l.ep.toNat l.to.toNat) := by unfold bLe; rw [if_pos hr]; rfl
  have ho : okD shL (bLe l) = some (cv3 l.st.toNat l.ep.toNat l.to.toNat) := okD_some.2 ⟨j2, j3, hb.symm, by rw [hb]; exact j4⟩
  obtain ⟨h1, h2⟩ := eD_yes proper_shL ho
  have e : (⟨(l.ep.toNat : Int), (l.st.toNat : Int), (l.to.toNat : Int)⟩ : Ls) = l := by rw [m1, m2, m3]
  have := kD_yes h1 h2 (by rw [e]; exact hr)
  rw [e] at this
  exact this
theorem VR.cells3 {w : World} {A : Option Addr} {a b c : Nat} (h : VR w A (cv3 a b c)) : ∃ g off, A = some ⟨g, off, none⟩ ∧ g < w.heap.size ∧ w.cell? ⟨g, off, none⟩ = some (.int .u64 a) ∧ w.cell? ⟨g, off + 2, none⟩ = some (.int .u64 b) ∧ w.cell? ⟨g, off + 4, none⟩ = some (.int .u64 c) := by
  obtain ⟨_, _, g, off, rfl, hg, e0, _⟩ := h 0 ⟨a, ⟨#[]⟩⟩ rfl
  obtain ⟨_, _, g1, off1, e, _, e1, _⟩ := h 1 ⟨b, ⟨#[]⟩⟩ rfl
  obtain ⟨_, _, g2, off2, e', _, e2, _⟩ := h 2 ⟨c, ⟨#[]⟩⟩ rfl
  cases e
  cases e'
  exact ⟨g, off, rfl, hg, by simpa using e0, by simpa using e1, by simpa using e2⟩
theorem dec3_c (A : Option Addr) (n cap : Nat) (bs : List UInt8) (w : World) (hb : BR w w.heap.size A n cap bs) : Calls Try.prog 62 #[.string ⟨#[97, 99, 97]⟩, .slice A n cap] w (DPostC w (lD shL bs) (eD shL bs)) :=
  decode_c ⟨#[97, 99, 97]⟩ A n cap bs w (by simp [ByteArray.size, maxLen]) hb
set_option maxRecDepth 100000 in
set_option maxHeartbeats 1000000 in
theorem decL_c (A : Option Addr) (n cap : Nat) (bs : List UInt8) (w : World) (hb : BR w w.heap.size A n cap bs) :
    Calls Try.prog 34 #[.slice A n cap] w fun r w' => r = .returned (.tuple #[.agg #[.int .i64 (sDL bs).ep, .int .i64 (sDL bs).st, .int .u8 (sDL bs).to], .int .i64 ((kDL bs : Nat) : Int)]) ∧ Below w.heap.size w w' := by
  obtain ⟨W, hW⟩ : ∃ W, w.alloc (.cells #[.int .i64 0, .int .i64 0, .int .u8 0] 29) = W := ⟨_, rfl⟩
  have hr : LB W w.heap.size 29 ⟨0, 0, 0⟩ := by rw [← hW]; exact LB.new w _ ⟨0, 0, 0⟩
  have hb0 : Below w.heap.size w W := by rw [← hW]; exact le_al _ _
  have HW := Lib.hid hW
  clear hW
  have hbr := (hb.below hb0 (Nat.le_refl _)).more hb0.size
  rcases dec3 bs with ⟨h1, h2⟩ | ⟨a, b, c, h1, h2, l1, l2, l3, _⟩
  · have Hk := Lib.hid (kD_no h1)
    have H1 := Lib.hid h1
    have H2 := Lib.hid h2
    clear h1 h2
    go_enter Try.func34, Try.ntmps34
    go_wp2_with fail
    rw [HW.out]
    refine (dec3_c A n cap bs _ hbr).mono ?_
    rintro e w2 ⟨A2, c2, rfl, hv2, ho2, hb2⟩
    have hr2 := hr.on hb2
    have hb3 := le_tr hb0 hb2
    rw [H1.out, H2.out] at *
    obtain ⟨f0, f1, f2⟩ := (hr2).froz
    obtain ⟨r0, r1, r2⟩ := (hr2).cells
    simp only at r0 r1 r2
    obtain ⟨V, hV, hrV, hlV, _⟩ := ls_end (hr2) (0) (0) (0)
    obtain ⟨v0, v1, v2⟩ := hrV.cells
    have HV := Lib.hid hV
    have hbV := hlV _ _ (hb3) (Nat.le_refl _)
    clear hV hlV hrV
    go_wp2_with fail
    rw [HV.out]
    exact bodyPost_ret (v := .tuple #[.agg #[.int .i64 (0), .int .i64 (0), .int .u8 (0)], .int .i64 4]) (by simp [results, Try.results34, go_sem, v0, v1, v2]) rfl ⟨by rw [Hk.out.1, Hk.out.2]; rfl, hbV⟩
  · have Hk : Hid (kDL bs = (if rightL ⟨b, a, c⟩ = true then 0 else 4) ∧ sDL bs = (if rightL ⟨b, a, c⟩ = true then ⟨b, a, c⟩ else ⟨0, 0, 0⟩)) := by
      cases hr : rightL ⟨b, a, c⟩
      · exact kD_bad h2 hr
      · exact kD_yes h1 h2 hr
    have H1 := Lib.hid h1
    have H2 := Lib.hid h2
    clear h1 h2
    go_enter Try.func34, Try.ntmps34
    go_wp2_with fail
    rw [HW.out]
    refine (dec3_c A n cap bs _ hbr).mono ?_
    rintro e w2 ⟨A2, c2, rfl, hv2, ho2, hb2⟩
    have hr2 := hr.on hb2
    have hb3 := le_tr hb0 hb2
    rw [H1.out, H2.out] at *
    obtain ⟨g, off, rfl, hg, c0, c1, c3⟩ := hv2.cells3
    have hl3 : (cv3 a b c).length = 3 := rfl
    rw [hl3] at *
    have Hd := Lib.hid (And.intro c0 (And.intro c1 c3))
    have p0 : a < 9223372036854775808 := by omega
    have p1 : b < 9223372036854775808 := by omega
    have p2 : (c : Int) < 256 := by omega
    go_wp2_with fail
    go_region
    obtain ⟨W3, hW3⟩ : ∃ W3, (w2.alloc (.cells #[.int .i64 (b : Int), .int .i64 (a : Int), .int .u8 (c : Int)] 29)).drew = W3 := ⟨_, rfl⟩
    have hq : LB W3 w2.heap.size 29 ⟨b, a, c⟩ := by rw [← hW3]; exact (LB.new w2 _ ⟨b, a, c⟩).drew
    have hr3 : LB W3 w.heap.size 29 ⟨0, 0, 0⟩ := by rw [← hW3]; exact (hr2.alloc _).drew
    have hb4 : Below w.heap.size w W3 := by rw [← hW3]; exact le_dN (k := 1) (le_tr hb3 (le_al _ _))
    rw [hW3]
    obtain ⟨q0, q1, q2⟩ := hq.cells
    simp only at q0 q1 q2
    clear hW3 c0 c1 c3
    go_wp2_with fail
    refine (right_c b a c _).mono ?_
    rintro e w4 ⟨rfl, hb5⟩
    have hr4 := hr3.on hb5
    have hb6 := le_tr hb4 hb5
    have hq4 := hq.on hb5
    obtain ⟨t0, t1, t2⟩ := hq4.cells
    simp only at t0 t1 t2
    clear q0 q1 q2 hv2 hr2 hr3 hq
    cases hrt : rightL ⟨b, a, c⟩ with
    | false =>
      rw [hrt] at Hk
      have HK := Lib.hid (show kDL bs = 4 ∧ sDL bs = ⟨0, 0, 0⟩ by simpa using Hk.out)
      clear Hk hrt
      obtain ⟨f0, f1, f2⟩ := (hr4).froz
      obtain ⟨r0, r1, r2⟩ := (hr4).cells
      simp only at r0 r1 r2
      obtain ⟨V, hV, hrV, hlV, _⟩ := ls_end (hr4) (0) (0) (0)
      obtain ⟨v0, v1, v2⟩ := hrV.cells
      have HV := Lib.hid hV
      have hbV := hlV _ _ (hb6) (Nat.le_refl _)
      clear hV hlV hrV
      go_wp2_with fail
      rw [HV.out]
      exact bodyPost_ret (v := .tuple #[.agg #[.int .i64 (0), .int .i64 (0), .int .u8 (0)], .int .i64 4]) (by simp [results, Try.results34, go_sem, v0, v1, v2]) rfl ⟨by rw [HK.out.1, HK.out.2]; rfl, hbV⟩
    | true =>
      rw [hrt] at Hk
      have HK := Lib.hid (show kDL bs = 0 ∧ sDL bs = ⟨b, a, c⟩ by simpa using Hk.out)
      clear Hk hrt
      obtain ⟨f0, f1, f2⟩ := (hr4).froz
      obtain ⟨r0, r1, r2⟩ := (hr4).cells
      simp only at r0 r1 r2
      obtain ⟨V, hV, hrV, hlV, _⟩ := ls_end (hr4) (b) (a) (c)
      obtain ⟨v0, v1, v2⟩ := hrV.cells
      have HV := Lib.hid hV
      have hbV := hlV _ _ (hb6) (Nat.le_refl _)
      clear hV hlV hrV
      go_wp2_with fail
      rw [HV.out]
      exact bodyPost_ret (v := .tuple #[.agg #[.int .i64 (b), .int .i64 (a), .int .u8 (c)], .int .i64 0]) (by simp [results, Try.results34, go_sem, v0, v1, v2]) rfl ⟨by rw [HK.out.1, HK.out.2]; rfl, hbV⟩

end Go.Proofs.Ytmghckddofefkaa.Dk
