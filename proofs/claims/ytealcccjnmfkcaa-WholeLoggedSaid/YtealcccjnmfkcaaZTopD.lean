/-
  The walk of WholeLogged: it returns true. Condition: the calls can be read, their numbers such as their types hold.
-/
import Derived.Test.YtealcccjnmfkcaaZTopB
import Derived.Test.YtealcccjnmfkcaaZTopC
import Derived.Test.YtealcccjnmfkcaaYSiT
set_option linter.unusedVariables false
set_option linter.unusedSimpArgs false
namespace Go.Proofs.Ytealcccjnmfkcaa
open Go.RowKit

/-- A call by bytes. -/
structure Cl where
  kd : Int
  tx : Int
  ky : Int
  nn : Int
  sy : Bool
def cc (x : Cl) : List Value := [.int .u8 x.kd, .int .u8 x.tx, .int .u8 x.ky, .int .i64 x.nn, .bool x.sy]
instance : Nonempty (EncOk cc 5) := ⟨⟨fun _ => rfl, fun x u hu => by
  simp [cc] at hu
  rcases hu with rfl | rfl | rfl | rfl | rfl <;> rfl, by omega⟩⟩
structure ClOk (x : Cl) : Prop where
  kd : 0 ≤ x.kd ∧ x.kd ≤ 255
  tx : 0 ≤ x.tx ∧ x.tx ≤ 255
  ky : 0 ≤ x.ky ∧ x.ky ≤ 255
  nn : -9223372036854775808 ≤ x.nn ∧ x.nn ≤ 9223372036854775807
abbrev CLR (w : World) (A : Option Addr) (n c : Nat) (L : List Cl) : Prop := RR0 w cc 5 A n c L
def tkC (L : List Cl) (j : Nat) : Cl := (L[j]?).getD ⟨0, 0, 0, 0, false⟩
theorem RR0.at5 {w : World} {A : Option Addr} {n c : Nat} {L : List Cl} (h : CLR w A n c L) {k : Nat} (hk : k < n) : ∃ g off, A = some ⟨g, off, none⟩ ∧ w.cell? ⟨g, off + k * 5, none⟩ = some (.int .u8 (tkC L k).kd) ∧ w.cell? ⟨g, off + k * 5 + 1, none⟩ = some (.int .u8 (tkC L k).tx) ∧ w.cell? ⟨g, off + k * 5 + 2, none⟩ = some (.int .u8 (tkC L k).ky) ∧ w.cell? ⟨g, off + k * 5 + 3, none⟩ = some (.int .i64 (tkC L k).nn) ∧ w.cell? ⟨g, off + k * 5 + 4, none⟩ = some (.bool (tkC L k).sy) := by
  obtain ⟨g, off, x, h1, h2, h3⟩ := h.at_ hk
  have e : tkC L k = x := by unfold tkC; rw [h1]; rfl
  rw [e]
  exact ⟨g, off, h2, h3 0 _ rfl, h3 1 _ rfl, h3 2 _ rfl, h3 3 _ rfl, h3 4 _ rfl⟩
theorem tkC_mem {L : List Cl} {j : Nat} (h : j < L.length) : tkC L j ∈ L := by
  unfold tkC
  rw [List.getElem?_eq_getElem h]
  exact List.getElem_mem h
/-- A record's bytes. -/
def eb (r : Rc) : List UInt8 := Dk.encR r.kd r.tx r.ky r.nn
def FitR (r : Rc) : Prop := Dk.Fit r.kd r.tx r.ky r.nn
theorem eb_len (r : Rc) : (eb r).length = 12 := Dk.encR_len _ _ _ _
theorem ebs_len (K : List Rc) : (Dk.frs (K.map eb)).length = 19 * K.length := by
  induction K with
  | nil => rfl
  | cons a r ih => rw [List.map_cons, Dk.frs_cons, List.length_append, ih, Dk.frameB_length, eb_len, List.length_cons]; omega
abbrev dks (A : Option Addr) (n c : Nat) (s : Int) : Array Value := #[.slice A n c, .int .i64 s, .int .i64 1048576]
/-- A disk is stored into block d. -/
theorem disk_all {W : World} {T : TypeId} {d : Nat} {a0 a1 a2 : Value} (hd : CB W d T #[a0, a1, a2]) (x0 x1 x2 : Value) :
    ∃ V, ((W.setCell ⟨d, 0, none⟩ x0).setCell ⟨d, 1, none⟩ x1).setCell ⟨d, 2, none⟩ x2 = V ∧ CB V d T #[x0, x1, x2] ∧ Just d W V := by
  have hj := ((Just.set W d 0 x0).trans (Just.set _ d 1 x1)).trans (Just.set _ d 2 x2)
  have hx := ((hd.put 0 x0).put 1 x1).put 2 x2
  rw [show (((#[a0, a1, a2] : Array Value).setIfInBounds 0 x0).setIfInBounds 1 x1).setIfInBounds 2 x2 = #[x0, x1, x2] by simp] at hx
  exact ⟨_, rfl, hx, hj⟩
/-- The loop's state: the site, the disk, what is known of them. -/
structure LG (B : Nat) (w W : World) (dd b m : Nat) (G : Option Nat) (S : Si) (K : List Rc) (A : Option Addr) (n c sy : Nat) : Prop where
  st : ST B w W (fun x => x = dd ∨ ∃ off, A = some ⟨x, off, none⟩) b m G S K
  dk : CB W dd 73 (dks A n c ((Dk.frs ((K.map eb).take sy)).length : Int))
  br : Dk.BR W W.heap.size A n c (Dk.frs (K.map eb))
  sy : sy ≤ K.length
  fit : ∀ r ∈ K, FitR r
  ok : allOk si0 K
  pl : plays si0 K = S
/-- Bytes that can be read go on being so where their block is as it was. -/
theorem br_at {w w' : World} {B B' : Nat} {A : Option Addr} {n c : Nat} {bs : List UInt8} (h : Dk.BR w B A n c bs) (hk : ∀ g off, A = some ⟨g, off, none⟩ → w'.heap[g]? = w.heap[g]?) (hB : B ≤ B') : Dk.BR w' B' A n c bs := by
  refine ⟨h.1, h.2.1, h.2.2.1, fun hn => ?_⟩
  obtain ⟨g, off, h1, h2, h3⟩ := h.2.2.2 hn
  exact ⟨g, off, h1, by omega, fun i b hb => (World.cell?_of_block (a := ⟨g, off + i, none⟩) (hk g off h1)).trans (h3 i b hb)⟩
/-- A store into a block of another type that is apart leaves the site. -/
theorem ST.justT {B : Nat} {w W V : World} {Rs : Nat → Prop} {b m : Nat} {G : Option Nat} {s : Si} {log : List Rc} (h : ST B w W Rs b m G s log) {d : Nat} {T : TypeId} {cs : Array Value} (hc : CB W d T cs) (h1 : 102 ≠ T) (h2 : 166 ≠ T) (hj : Just d W V) (hd : Rs d) (hB : B ≤ d) : ST B w V Rs b m G s log := by
  obtain ⟨⟨B1, k1, d1, B2, k2, d2, B3, k3, d3, f, g1, g2, g3, g4, g5, g6⟩, hg⟩ := h.sr
  obtain ⟨_, o2, o3, o4⟩ := h.out d hd
  have keep : ∀ (T' : TypeId), T' ≠ T → ∀ (g : Nat) (cs : Array Value), CB W g T' cs → V.heap[g]? = W.heap[g]? := fun T' t1 g cs' hc' => hj.block g (hc'.ne_ hc t1)
  exact ⟨⟨⟨B1, k1, d1, B2, k2, d2, B3, k3, d3, f, hj.cb g1 (fun e => o2 e.symm), g2.keep2 (keep _ h1), g3.keep2 (keep _ h2), g4.same (hj.block m (fun e => o3 e.symm)), g5.keep fun g e => hj.block g (o4 g e), g6.keep (keep _ h1)⟩, hg⟩, h.hi, hj.low h.low hB, fun R hR => ⟨by rw [hj.size]; exact (h.out R hR).1, (h.out R hR).2⟩⟩
theorem neDL : 102 ≠ 73 := by decide
theorem neHL : 166 ≠ 73 := by decide
theorem neDR0 : 102 ≠ 35 := by decide
theorem neHR0 : 166 ≠ 35 := by decide
theorem size_R : ∀ w, (sizeOf 35).run Try.prog w = .ok 4 w := fun w => by kernel_rfl
theorem and3 (n : Int) : bits .and .i64 n 3 = n % 4 := by
  have h3 : (BitVec.ofInt 64 3).toNat = 2 ^ 2 - 1 := by decide
  have key : (BitVec.ofInt 64 n &&& BitVec.ofInt 64 3).toNat = (n % ((2 ^ 64 : Nat) : Int)).toNat % 2 ^ 2 := by
    rw [BitVec.toNat_and, BitVec.toNat_ofInt, h3, Nat.and_two_pow_sub_one_eq_mod]
  show IntKind.i64.wrap ((BitVec.ofInt 64 n &&& BitVec.ofInt 64 3).toNat : Nat) = n % 4
  rw [key, IntKind.wrap_i64]
  omega

set_option maxRecDepth 100000 in
set_option maxHeartbeats 4000000 in
theorem logged_walk (A : Option Addr) (n c : Nat) (L : List Cl) (kp : Nat) (w : World) (h : CLR w A n c L) (hr : ∀ r ∈ L, ClOk r) (hkp : kp < 65536) :
    Calls Try.prog 12 #[.slice A n c, .int .u16 kp] w fun e w' => e = .returned (.bool true) ∧ Below w.heap.size w w' := by
  have hlen := Lib.hid h.len
  have hmx : n ≤ maxLen := Nat.le_trans h.cap h.max
  simp only [maxLen] at hmx
  have Hkp := Lib.hid hkp
  clear hkp
  go_enter Try.func12, Try.ntmps12
  by_cases h60 : 60 < n
  · have h61 : (60 : Int) < (n : Int) := by omega
    go_wp2_with fail
    (with_reducible refine (works_c w).mono ?_)
    rintro e w1 ⟨rfl, b1⟩
    have H := Lib.hid b1
    clear b1
    go_wp2_with fail
    go_ret
    exact ⟨rfl, H.out⟩
  have h61 : ¬ (60 : Int) < (n : Int) := by omega
  go_wp2_with fail
  (with_reducible refine (works_c w).mono ?_)
  rintro e w1 ⟨rfl, b1⟩
  have hw1 := h.on b1
  have HB1 := Lib.hid b1
  clear h b1
  go_wp2_with fail
  (with_reducible refine (new_c w1).mono ?_)
  rintro e w2 ⟨b, m, rfl, h1, h2, h3⟩
  have hst : ST w1.heap.size w1 w2 (fun _ => False) b m none si0 [] := ⟨h1, h3, h2, fun R hR => hR.elim⟩
  have hB0 : w1.heap.size ≤ w2.heap.size := h2.size
  obtain ⟨V, hV⟩ : ∃ V, w2.alloc (.cells (dks none 0 0 0) 73) = V := ⟨_, rfl⟩
  have cV : CB V w2.heap.size 73 (dks none 0 0 0) := by rw [← hV]; exact CB.new _ _ _
  have bV : Below w2.heap.size w2 V := by rw [← hV]; exact belA _ _
  have sV := (hst.add (R := w2.heap.size) bV (Nat.le_refl _) cV.lt).less (Rs' := fun x => x = w2.heap.size ∨ ∃ off, (none : Option Addr) = some ⟨x, off, none⟩) (fun x e => by rcases e with e | ⟨_, e⟩; exact .inr e; cases e)
  have hLG : LG w1.heap.size w1 V w2.heap.size b m none si0 [] none 0 0 0 := ⟨sV, cV, Dk.BR.nil _ _, Nat.le_refl _, fun r hr => (by cases hr), trivial, rfl⟩
  have HV := Lib.hid hV
  clear hV bV hst h1 h2 h3 sV cV
  go_upto_region 5 with fail
  rw [HV.out]
  obtain ⟨dd, hdd⟩ : ∃ q, w2.heap.size = q := ⟨_, rfl⟩
  rw [hdd] at hLG hB0 ⊢
  clear hdd HV
  go_wp2_with fail
  go_loopw [7, 8, 44] (fun nv sv i wr => ∃ (j : Nat) (G : Option Nat) (S : Si) (K : List Rc) (A8 : Option Addr) (n8 c8 sy : Nat), j ≤ n ∧ i = .int .i64 j ∧ nv = .int .i64 K.length ∧ sv = .int .i64 sy ∧ K.length ≤ j ∧ LG w1.heap.size w1 wr dd b m G S K A8 n8 c8 sy) (fun _ _ i _ => n - (intOf i).toNat)
  case atStart => exact ⟨0, none, si0, [], none, 0, 0, 0, by omega, rfl, rfl, rfl, by simp, hLG⟩
  case round =>
    clear hLG
    obtain ⟨j, G, S, K, A8, n8, c8, sy, hj, rfl, rfl, rfl, hK, hLG⟩ := hrel
    by_cases hlt : j < n
    · have hlt1 : (j : Int) < (n : Int) := by omega
      have hjl : j < L.length := by rw [hlen.out]; exact hlt
      have hok := hr _ (tkC_mem hjl)
      obtain ⟨g, off, rfl, d0, d1, d2, d3, d4⟩ := (hw1.on hLG.st.low).at5 hlt
      generalize tkC L j = x at *
      obtain ⟨R, hR⟩ : ∃ V, wr.alloc (.cells #[.int .u8 x.kd, .int .u8 x.tx, .int .u8 x.ky, .int .i64 x.nn, .bool x.sy] 75) = V := ⟨_, rfl⟩
      have bR : Below wr.heap.size wr R := by rw [← hR]; exact belA _ _
      have rR : CB R wr.heap.size 75 #[.int .u8 x.kd, .int .u8 x.tx, .int .u8 x.ky, .int .i64 x.nn, .bool x.sy] := by rw [← hR]; exact CB.new _ _ _
      have HR := Lib.hid hR
      clear hR
      obtain ⟨r0, r1, r2, r3, r4⟩ : R.cell? ⟨wr.heap.size, 0, none⟩ = some (.int .u8 x.kd) ∧ R.cell? ⟨wr.heap.size, 1, none⟩ = some (.int .u8 x.tx) ∧ R.cell? ⟨wr.heap.size, 2, none⟩ = some (.int .u8 x.ky) ∧ R.cell? ⟨wr.heap.size, 3, none⟩ = some (.int .i64 x.nn) ∧ R.cell? ⟨wr.heap.size, 4, none⟩ = some (.bool x.sy) := ⟨rR.cell 0, rR.cell 1, rR.cell 2, rR.cell 3, rR.cell 4⟩
      obtain ⟨a0, ha0⟩ : ∃ a, x.kd.tmod 8 = a := ⟨_, rfl⟩
      obtain ⟨a1, ha1⟩ : ∃ a, x.tx.tmod 4 = a := ⟨_, rfl⟩
      obtain ⟨a2, ha2⟩ : ∃ a, x.ky.tmod 4 = a := ⟨_, rfl⟩
      have y0 : 0 ≤ a0 ∧ a0 ≤ 7 := by rw [← ha0, Int.tmod_eq_emod_of_nonneg hok.kd.1]; omega
      have y1 : 0 ≤ a1 ∧ a1 ≤ 3 := by rw [← ha1, Int.tmod_eq_emod_of_nonneg hok.tx.1]; omega
      have y2 : 0 ≤ a2 ∧ a2 ≤ 3 := by rw [← ha2, Int.tmod_eq_emod_of_nonneg hok.ky.1]; omega
      have z0 : wrap64 a0 = a0 := IntWalk.wrap64_in _ (by omega)
      have z1 : wrap64 a1 = a1 := IntWalk.wrap64_in _ (by omega)
      obtain ⟨Q, hQ⟩ : ∃ V, R.alloc (.cells #[.int .i64 a0, .int .i64 a1, .int .u8 a2, .int .i64 x.nn] 35) = V := ⟨_, rfl⟩
      have bQ : Below R.heap.size R Q := by rw [← hQ]; exact belA _ _
      have rQ := rR.on bQ
      have cQ : CB Q R.heap.size 35 #[.int .i64 a0, .int .i64 a1, .int .u8 a2, .int .i64 x.nn] := by rw [← hQ]; exact CB.new _ _ _
      have HQ := Lib.hid hQ
      clear hQ
      go_upto_region 9 with fail
      rw [HR.out]
      clear d0 d1 d2 d3 d4
      go_upto_region 10 with fail
      rw [HQ.out]
      clear r0 r1 r2 r3 r4
      obtain ⟨r0, r1, r2, r3, r4⟩ : Q.cell? ⟨wr.heap.size, 0, none⟩ = some (.int .u8 x.kd) ∧ Q.cell? ⟨wr.heap.size, 1, none⟩ = some (.int .u8 x.tx) ∧ Q.cell? ⟨wr.heap.size, 2, none⟩ = some (.int .u8 x.ky) ∧ Q.cell? ⟨wr.heap.size, 3, none⟩ = some (.int .i64 x.nn) ∧ Q.cell? ⟨wr.heap.size, 4, none⟩ = some (.bool x.sy) := ⟨rQ.cell 0, rQ.cell 1, rQ.cell 2, rQ.cell 3, rQ.cell 4⟩
      obtain ⟨q0, q1, q2, q3⟩ : Q.cell? ⟨R.heap.size, 0, none⟩ = some (.int .i64 a0) ∧ Q.cell? ⟨R.heap.size, 1, none⟩ = some (.int .i64 a1) ∧ Q.cell? ⟨R.heap.size, 2, none⟩ = some (.int .u8 a2) ∧ Q.cell? ⟨R.heap.size, 3, none⟩ = some (.int .i64 x.nn) := ⟨cQ.cell 0, cQ.cell 1, cQ.cell 2, cQ.cell 3⟩
      have st1 := hLG.st.add (R := wr.heap.size) bR (Nat.le_refl _) rR.lt
      have st2 := st1.add (R := R.heap.size) bQ (Nat.le_refl _) cQ.lt
      have hAlt := Lib.hid (fun g off (e : A8 = some ⟨g, off, none⟩) => show g < R.heap.size from Nat.lt_of_lt_of_le (hLG.st.out g (.inr ⟨off, e⟩)).1 bR.size)
      have lQ := bel2 bR bQ
      have dkQ := hLG.dk.on lQ
      have brQ := Dk.BR.on hLG.br lQ
      have Hsy := Lib.hid hLG.sy
      have Hfit := Lib.hid hLG.fit
      have Hok := Lib.hid hLG.ok
      have Hpl := Lib.hid hLG.pl
      have hRR := Lib.hid (show wr.heap.size < R.heap.size from rR.lt)
      have hR0 := Lib.hid (show w1.heap.size ≤ wr.heap.size from hLG.st.low.size)
      have hdl := Lib.hid hLG.dk.lt
      clear hLG st1 bR bQ rR
      by_cases h4 : a0 = 4
      · have h41 : (a0 == 4) = true := by simp [h4]
        clear h4
        obtain ⟨a3, ha3⟩ : ∃ a, bits BinOp.and IntKind.i64 x.nn 3 = a := ⟨_, rfl⟩
        have y3 : -9223372036854775808 ≤ a3 ∧ a3 ≤ 9223372036854775807 := by rw [← ha3, and3]; omega
        obtain ⟨P, hP⟩ : ∃ V, Q.setCell ⟨R.heap.size, 3, none⟩ (.int .i64 a3) = V := ⟨_, rfl⟩
        have jP : Just R.heap.size Q P := by rw [← hP]; exact Just.set _ _ _ _
        have cP : CB P R.heap.size 35 #[.int .i64 a0, .int .i64 a1, .int .u8 a2, .int .i64 a3] := by rw [← hP]; exact cQ.put 3 _
        have rP := jP.cb rQ (by have := hRR.out; omega)
        have dkP := jP.cb dkQ (by have := hRR.out; have := hdl.out; omega)
        have brP : Dk.BR P P.heap.size A8 n8 c8 (Dk.frs (K.map eb)) := br_at brQ (fun g off e => jP.block g (fun e' => by have := hAlt.out g off e; omega)) (by rw [jP.size]; exact Nat.le_refl _)
        have sP := st2.justT cQ neDR0 neHR0 jP (.inr rfl) (by have := hRR.out; have := hR0.out; omega)
        have f3 := cQ.frozen 3
        have HP0 := Lib.hid hP
        clear hP jP st2 dkQ brQ rQ cQ lQ
        go_upto_region 12 with fail
        rw [HP0.out]
        clear f3 q0 q1 q2 q3 r0 r1 r2 r3 r4
        obtain ⟨q0, q1, q2, q3⟩ : P.cell? ⟨R.heap.size, 0, none⟩ = some (.int .i64 a0) ∧ P.cell? ⟨R.heap.size, 1, none⟩ = some (.int .i64 a1) ∧ P.cell? ⟨R.heap.size, 2, none⟩ = some (.int .u8 a2) ∧ P.cell? ⟨R.heap.size, 3, none⟩ = some (.int .i64 a3) := ⟨cP.cell 0, cP.cell 1, cP.cell 2, cP.cell 3⟩
        have hro : RcOk ⟨a0, a1, a2, a3⟩ := ⟨by show -9223372036854775808 ≤ a0 ∧ a0 ≤ 9223372036854775807; omega, by show -9223372036854775808 ≤ a1 ∧ a1 ≤ 9223372036854775807; omega, by show 0 ≤ a2 ∧ a2 ≤ 255; omega, y3⟩
        have hfi : Dk.Fit a0 a1 a2 a3 := ⟨by omega, by omega, by omega, y3⟩
        have hdo := do_c b m G S K ⟨a0, a1, a2, a3⟩ P sP.sr hro (by omega)
        obtain ⟨ρ, hρ⟩ : ∃ r : Rc, (⟨a0, a1, a2, a3⟩ : Rc) = r := ⟨_, rfl⟩
        rw [hρ] at hdo
        have ek : ρ.kd = a0 ∧ ρ.tx = a1 ∧ ρ.ky = a2 ∧ ρ.nn = a3 := by rw [← hρ]; exact ⟨rfl, rfl, rfl, rfl⟩
        have hdo' : Calls Try.prog 15 #[.pointer (some ⟨b, 0, none⟩), .agg #[.int .i64 a0, .int .i64 a1, .int .u8 a2, .int .i64 a3]] P (DoPost P b m G S K ρ) := by
          have := hdo
          simp only [kv, ek.1, ek.2.1, ek.2.2.1, ek.2.2.2] at this
          exact this
        have ebr : Dk.encR a0 a1 a2 a3 = eb ρ := by unfold eb; rw [ek.1, ek.2.1, ek.2.2.1, ek.2.2.2]
        have hfr : FitR ρ := by unfold FitR; rw [ek.1, ek.2.1, ek.2.2.1, ek.2.2.2]; exact hfi
        have Hsp := Lib.hid sP
        have Hfr := Lib.hid hfr
        have Hebr := Lib.hid ebr
        clear hdo hro ek hρ sP hfr ebr
        go_wp2_with fail
        (with_reducible refine hdo'.mono ?_)
        intro e w5 hp
        obtain ⟨rfl, G5, s5, hk, _, hsz⟩ := Hsp.out.done hp (Nat.le_refl _)
        have dk5 := dkP.same (hk dd (.inl (.inl (.inl rfl))))
        have br5 : Dk.BR w5 w5.heap.size A8 n8 c8 (Dk.frs (K.map eb)) := br_at brP (fun g off e => hk g (.inl (.inl (.inr ⟨off, e⟩)))) hsz
        have rb5 := rP.same (hk wr.heap.size (.inl (.inr rfl)))
        have cb5 := cP.same (hk R.heap.size (.inr rfl))
        clear hp hk hdo' dkP brP rP cP q0 q1 q2 q3
        by_cases he : eDo S ρ = 0
        rotate_left
        · have he1 : (eDo S ρ != 0) = true := by simp [he]
          rw [if_neg he, sDo_err he] at s5
          have Hlg := Lib.hid (show LG w1.heap.size w1 w5 dd b m G5 S K A8 n8 c8 sy from ⟨s5.less (fun x hx => .inl (.inl hx)), dk5, br5, Hsy.out, Hfit.out, Hok.out, Hpl.out⟩)
          clear s5 dk5 br5 rb5 cb5 he
          go_wp2_with fail
          go_roundw
          case rel => exact ⟨j + 1, G5, S, K, A8, n8, c8, sy, by omega, by go_num, rfl, rfl, by omega, Hlg.out⟩
          case measure => simp [intOf]; omega
        · have he1 : (eDo S ρ != 0) = false := by simp [he]
          have HA := Lib.hid (show allOk si0 (K ++ [ρ]) from (allOk_snoc si0 K ρ).mpr ⟨Hok.out, by rw [Hpl.out]; exact he⟩)
          have HP := Lib.hid (show plays si0 (K ++ [ρ]) = sDo S ρ from by rw [plays_snoc, Hpl.out])
          rw [if_pos he] at s5
          clear he
          obtain ⟨q0, q1, q2, q3⟩ : w5.cell? ⟨R.heap.size, 0, none⟩ = some (.int .i64 a0) ∧ w5.cell? ⟨R.heap.size, 1, none⟩ = some (.int .i64 a1) ∧ w5.cell? ⟨R.heap.size, 2, none⟩ = some (.int .u8 a2) ∧ w5.cell? ⟨R.heap.size, 3, none⟩ = some (.int .i64 a3) := ⟨cb5.cell 0, cb5.cell 1, cb5.cell 2, cb5.cell 3⟩
          have hby := Dk.bytes_c a0 a1 a2 a3 w5 hfi
          rw [Hebr.out] at hby
          clear cb5
          go_wp2_with fail
          (with_reducible refine hby.mono ?_)
          rintro e w6 ⟨A9, n9, c9, G9, rfl, hsg, b6⟩
          have hb9 := Dk.BR.of_seg hsg
          have s6 := s5.onw b6
          have dk6 := dk5.on b6
          have br6 := Dk.BR.on br5 b6
          have rb6 := rb5.on b6
          clear hby hsg q0 q1 q2 q3 s5 dk5 br5 rb5 b6
          have hn8 : n8 + 19 ≤ 2000 := by have := br6.1.symm.trans (ebs_len K); omega
          have e0 : Dk.eA n8 1048576 (eb ρ) = 0 := Dk.eA_ok (by rw [eb_len]; omega) (by rw [eb_len]; omega)
          have e1 : Dk.bA 1048576 (Dk.frs (K.map eb)) (eb ρ) = Dk.frs ((K ++ [ρ]).map eb) := by
            rw [Dk.bA_ok (by rw [br6.1]; exact e0), List.map_append, List.map_cons, List.map_nil, Dk.frs_snoc]
          have hse : (Dk.frs (((K ++ [ρ]).map eb).take sy)).length = (Dk.frs ((K.map eb).take sy)).length := by
            rw [List.map_append, List.take_append_of_le_length (by rw [List.length_map]; exact Hsy.out)]
          obtain ⟨s8, hs8⟩ : ∃ s : Nat, (Dk.frs ((K.map eb).take sy)).length = s := ⟨_, rfl⟩
          rw [hs8] at dk6 hse
          have hap : Calls Try.prog 29 #[.agg #[.slice A8 n8 c8, .int .i64 s8, .int .i64 1048576], .slice A9 n9 c9] w6 (Dk.TPostF w6 s8 1048576 (Dk.frs ((K ++ [ρ]).map eb)) 0) := by
            have h := Dk.append_f A8 n8 c8 1048576 (s8 : Int) _ A9 n9 c9 (eb ρ) w6 br6 hb9 (by omega) (by omega)
            rw [e0, e1] at h
            exact h
          obtain ⟨q0, q1, q2⟩ : w6.cell? ⟨dd, 0, none⟩ = some (.slice A8 n8 c8) ∧ w6.cell? ⟨dd, 1, none⟩ = some (.int .i64 s8) ∧ w6.cell? ⟨dd, 2, none⟩ = some (.int .i64 1048576) := ⟨dk6.cell 0, dk6.cell 1, dk6.cell 2⟩
          have Hse := Lib.hid hse
          have Hd6 := Lib.hid dk6.lt
          clear e0 e1 hse hs8 hb9 br6
          go_wp2_with fail
          (with_reducible refine hap.mono ?_)
          rintro e w7 ⟨A10, n10, c10, rfl, hb10, b7, hfr⟩
          have hn10 : 0 < n10 ∧ n10 ≤ 2000 := by have := hb10.1; rw [ebs_len] at this; simp at this; omega
          obtain ⟨g10, o10, hA10, hl10, _⟩ := hb10.2.2.2 (by omega)
          have hg10 : w6.heap.size ≤ g10 := hfr _ hA10
          have s7 := (s6.add (R := g10) b7 hg10 hl10).less (Rs' := fun x => x = dd ∨ ∃ off, A10 = some ⟨x, off, none⟩) (fun x e => by
            rcases e with e | ⟨off, e⟩
            · exact .inl (.inl (.inl (.inl e)))
            · rw [hA10] at e; cases e; exact .inr rfl)
          obtain ⟨X, hX⟩ : ∃ V, w7.alloc (.cells (dks A10 n10 c10 s8) 73) = V := ⟨_, rfl⟩
          have cX : CB X w7.heap.size 73 (dks A10 n10 c10 s8) := by rw [← hX]; exact CB.new _ _ _
          have bX : Below w7.heap.size w7 X := by rw [← hX]; exact belA _ _
          have sX := s7.onw bX
          have dkX := (dk6.on b7).on bX
          have rbX := (rb6.on b7).on bX
          have brX := Dk.BR.on hb10 bX
          obtain ⟨V, hV, oV, jV⟩ := disk_all dkX (.slice A10 n10 c10) (.int .i64 s8) (.int .i64 1048576)
          have sV := sX.justT dkX neDL neHL jV (.inl rfl) hB0
          have rbV := jV.cb rbX (by have := hdl.out; omega)
          have brV : Dk.BR V V.heap.size A10 n10 c10 (Dk.frs ((K ++ [ρ]).map eb)) := br_at brX (fun g off e => jV.block g (by rw [hA10] at e; cases e; have := Hd6.out; omega)) (by rw [jV.size]; exact Nat.le_refl _)
          obtain ⟨p0, p1, p2⟩ : X.cell? ⟨dd, 0, none⟩ = some (.slice A8 n8 c8) ∧ X.cell? ⟨dd, 1, none⟩ = some (.int .i64 s8) ∧ X.cell? ⟨dd, 2, none⟩ = some (.int .i64 1048576) := ⟨dkX.cell 0, dkX.cell 1, dkX.cell 2⟩
          obtain ⟨f0, f1, f2⟩ : X.frozen? ⟨dd, 0, none⟩ = false ∧ X.frozen? ⟨dd, 1, none⟩ = false ∧ X.frozen? ⟨dd, 2, none⟩ = false := ⟨dkX.frozen 0, dkX.frozen 1, dkX.frozen 2⟩
          obtain ⟨v0, v1, v2⟩ : X.cell? ⟨w7.heap.size, 0, none⟩ = some (.slice A10 n10 c10) ∧ X.cell? ⟨w7.heap.size, 1, none⟩ = some (.int .i64 s8) ∧ X.cell? ⟨w7.heap.size, 2, none⟩ = some (.int .i64 1048576) := ⟨cX.cell 0, cX.cell 1, cX.cell 2⟩
          have HX := Lib.hid hX
          have HV := Lib.hid hV
          have hfK : ∀ r ∈ K ++ [ρ], FitR r := fun r hr => by
            rcases List.mem_append.1 hr with hr | hr
            · exact Hfit.out r hr
            · simp at hr; subst hr; exact Hfr.out
          have HfK := Lib.hid hfK
          have hn1 : wrap64 ((K.length : Int) + 1) = ((K ++ [ρ]).length : Int) := by
            rw [IntWalk.wrap64_in _ (by omega)]
            simp
          have Hnl := Lib.hid (show Value.int .i64 ((K.length : Int) + 1) = Value.int .i64 ((K ++ [ρ]).length : Int) by simp)
          have Hsk := Lib.hid (show sy ≤ (K ++ [ρ]).length by have := Hsy.out; simp; omega)
          have Hkl := Lib.hid (show (K ++ [ρ]).length ≤ j + 1 by simp; exact hK)
          clear hA10 hap hfK hX hV bX s7 sX dkX rbX brX jV cX q0 q1 q2 s6 dk6 rb6 b7 hfr hb10
          go_upto_region 16 with fail
          rw [HX.out]
          go_upto_region 19 with fail
          rw [HV.out]
          clear p0 p1 p2 f0 f1 f2 v0 v1 v2
          have x4 : V.cell? ⟨wr.heap.size, 4, none⟩ = some (.bool x.sy) := rbV.cell 4
          obtain ⟨bsy, hbsy⟩ : ∃ q, x.sy = q := ⟨_, rfl⟩
          rw [hbsy] at x4
          clear hbsy rbV
          cases bsy with
          | false =>
            have Hlg := Lib.hid (show LG w1.heap.size w1 V dd b m G5 (sDo S ρ) (K ++ [ρ]) A10 n10 c10 sy from ⟨sV, by rw [Hse.out]; exact oV, brV, Hsk.out, HfK.out, HA.out, HP.out⟩)
            clear sV oV brV
            go_wp2_with fail
            go_roundw
            case rel => exact ⟨j + 1, G5, sDo S ρ, K ++ [ρ], A10, n10, c10, sy, by omega, by go_num, Hnl.out, rfl, Hkl.out, Hlg.out⟩
            case measure => simp [intOf]; omega
          | true =>
            have hsy : Calls Try.prog 30 #[.agg #[.slice A10 n10 c10, .int .i64 s8, .int .i64 1048576]] V (Dk.DPostF V n10 n10 1048576 (Dk.frs ((K ++ [ρ]).map eb))) := Dk.sync_f A10 n10 c10 s8 1048576 _ V brV (by omega)
            obtain ⟨q0, q1, q2⟩ : V.cell? ⟨dd, 0, none⟩ = some (.slice A10 n10 c10) ∧ V.cell? ⟨dd, 1, none⟩ = some (.int .i64 s8) ∧ V.cell? ⟨dd, 2, none⟩ = some (.int .i64 1048576) := ⟨oV.cell 0, oV.cell 1, oV.cell 2⟩
            have Hd7 := Lib.hid oV.lt
            go_wp2_with fail
            (with_reducible refine hsy.mono ?_)
            rintro e w8 ⟨A11, c11, rfl, hb11, b8, hfr⟩
            obtain ⟨g11, o11, hA11, hl11, _⟩ := hb11.2.2.2 (by omega)
            have hg11 : V.heap.size ≤ g11 := hfr _ hA11
            have s8' := (sV.add (R := g11) b8 hg11 hl11).less (Rs' := fun x => x = dd ∨ ∃ off, A11 = some ⟨x, off, none⟩) (fun x e => by
              rcases e with e | ⟨off, e⟩
              · exact .inl (.inl e)
              · rw [hA11] at e; cases e; exact .inr rfl)
            have dk8 := oV.on b8
            obtain ⟨U, hU, oU, jU⟩ := disk_all dk8 (.slice A11 n10 c11) (.int .i64 n10) (.int .i64 1048576)
            have sU := s8'.justT dk8 neDL neHL jU (.inl rfl) hB0
            have brU : Dk.BR U U.heap.size A11 n10 c11 (Dk.frs ((K ++ [ρ]).map eb)) := br_at hb11 (fun g off e => jU.block g (by rw [hA11] at e; cases e; have := Hd7.out; omega)) (by rw [jU.size]; exact Nat.le_refl _)
            obtain ⟨p0, p1, p2⟩ : w8.cell? ⟨dd, 0, none⟩ = some (.slice A10 n10 c10) ∧ w8.cell? ⟨dd, 1, none⟩ = some (.int .i64 s8) ∧ w8.cell? ⟨dd, 2, none⟩ = some (.int .i64 1048576) := ⟨dk8.cell 0, dk8.cell 1, dk8.cell 2⟩
            obtain ⟨f0, f1, f2⟩ : w8.frozen? ⟨dd, 0, none⟩ = false ∧ w8.frozen? ⟨dd, 1, none⟩ = false ∧ w8.frozen? ⟨dd, 2, none⟩ = false := ⟨dk8.frozen 0, dk8.frozen 1, dk8.frozen 2⟩
            have htk : (Dk.frs (((K ++ [ρ]).map eb).take (K ++ [ρ]).length)).length = n10 := by
              rw [List.take_of_length_le (by rw [List.length_map]; exact Nat.le_refl _)]
              exact hb11.1
            have Hlg := Lib.hid (show LG w1.heap.size w1 U dd b m G5 (sDo S ρ) (K ++ [ρ]) A11 n10 c11 (K ++ [ρ]).length from ⟨sU, by rw [htk]; exact oU, brU, Nat.le_refl _, HfK.out, HA.out, HP.out⟩)
            have HU := Lib.hid hU
            clear hA11 hU sU oU brU jU sV oV brV s8' dk8 hsy b8 hfr hb11 q0 q1 q2 htk x4
            go_upto_region 22 with fail
            rw [HU.out]
            clear p0 p1 p2 f0 f1 f2
            go_wp2_with fail
            go_roundw
            case rel => exact ⟨j + 1, G5, sDo S ρ, K ++ [ρ], A11, n10, c11, (K ++ [ρ]).length, by omega, by go_num, Hnl.out, Hnl.out, Hkl.out, Hlg.out⟩
            case measure => simp [intOf]; omega
      have h41 : (a0 == 4) = false := by simp [h4]
      by_cases h6 : a0 = 6
      · have h61' : (a0 == 6) = true := by simp [h6]
        clear h6 h4
        obtain ⟨a3, ha3⟩ : ∃ a, bits BinOp.and IntKind.i64 x.nn 3 = a := ⟨_, rfl⟩
        have y3 : -9223372036854775808 ≤ a3 ∧ a3 ≤ 9223372036854775807 := by rw [← ha3, and3]; omega
        obtain ⟨P, hP⟩ : ∃ V, Q.setCell ⟨R.heap.size, 3, none⟩ (.int .i64 a3) = V := ⟨_, rfl⟩
        have jP : Just R.heap.size Q P := by rw [← hP]; exact Just.set _ _ _ _
        have cP : CB P R.heap.size 35 #[.int .i64 a0, .int .i64 a1, .int .u8 a2, .int .i64 a3] := by rw [← hP]; exact cQ.put 3 _
        have rP := jP.cb rQ (by have := hRR.out; omega)
        have dkP := jP.cb dkQ (by have := hRR.out; have := hdl.out; omega)
        have brP : Dk.BR P P.heap.size A8 n8 c8 (Dk.frs (K.map eb)) := br_at brQ (fun g off e => jP.block g (fun e' => by have := hAlt.out g off e; omega)) (by rw [jP.size]; exact Nat.le_refl _)
        have sP := st2.justT cQ neDR0 neHR0 jP (.inr rfl) (by have := hRR.out; have := hR0.out; omega)
        have f3 := cQ.frozen 3
        have HP0 := Lib.hid hP
        clear hP jP st2 dkQ brQ rQ cQ lQ
        go_upto_region 12 with fail
        rw [HP0.out]
        clear f3 q0 q1 q2 q3 r0 r1 r2 r3 r4
        obtain ⟨q0, q1, q2, q3⟩ : P.cell? ⟨R.heap.size, 0, none⟩ = some (.int .i64 a0) ∧ P.cell? ⟨R.heap.size, 1, none⟩ = some (.int .i64 a1) ∧ P.cell? ⟨R.heap.size, 2, none⟩ = some (.int .u8 a2) ∧ P.cell? ⟨R.heap.size, 3, none⟩ = some (.int .i64 a3) := ⟨cP.cell 0, cP.cell 1, cP.cell 2, cP.cell 3⟩
        have hro : RcOk ⟨a0, a1, a2, a3⟩ := ⟨by show -9223372036854775808 ≤ a0 ∧ a0 ≤ 9223372036854775807; omega, by show -9223372036854775808 ≤ a1 ∧ a1 ≤ 9223372036854775807; omega, by show 0 ≤ a2 ∧ a2 ≤ 255; omega, y3⟩
        have hfi : Dk.Fit a0 a1 a2 a3 := ⟨by omega, by omega, by omega, y3⟩
        have hdo := do_c b m G S K ⟨a0, a1, a2, a3⟩ P sP.sr hro (by omega)
        obtain ⟨ρ, hρ⟩ : ∃ r : Rc, (⟨a0, a1, a2, a3⟩ : Rc) = r := ⟨_, rfl⟩
        rw [hρ] at hdo
        have ek : ρ.kd = a0 ∧ ρ.tx = a1 ∧ ρ.ky = a2 ∧ ρ.nn = a3 := by rw [← hρ]; exact ⟨rfl, rfl, rfl, rfl⟩
        have hdo' : Calls Try.prog 15 #[.pointer (some ⟨b, 0, none⟩), .agg #[.int .i64 a0, .int .i64 a1, .int .u8 a2, .int .i64 a3]] P (DoPost P b m G S K ρ) := by
          have := hdo
          simp only [kv, ek.1, ek.2.1, ek.2.2.1, ek.2.2.2] at this
          exact this
        have ebr : Dk.encR a0 a1 a2 a3 = eb ρ := by unfold eb; rw [ek.1, ek.2.1, ek.2.2.1, ek.2.2.2]
        have hfr : FitR ρ := by unfold FitR; rw [ek.1, ek.2.1, ek.2.2.1, ek.2.2.2]; exact hfi
        have Hsp := Lib.hid sP
        have Hfr := Lib.hid hfr
        have Hebr := Lib.hid ebr
        clear hdo hro ek hρ sP hfr ebr
        go_wp2_with fail
        (with_reducible refine hdo'.mono ?_)
        intro e w5 hp
        obtain ⟨rfl, G5, s5, hk, _, hsz⟩ := Hsp.out.done hp (Nat.le_refl _)
        have dk5 := dkP.same (hk dd (.inl (.inl (.inl rfl))))
        have br5 : Dk.BR w5 w5.heap.size A8 n8 c8 (Dk.frs (K.map eb)) := br_at brP (fun g off e => hk g (.inl (.inl (.inr ⟨off, e⟩)))) hsz
        have rb5 := rP.same (hk wr.heap.size (.inl (.inr rfl)))
        have cb5 := cP.same (hk R.heap.size (.inr rfl))
        clear hp hk hdo' dkP brP rP cP q0 q1 q2 q3
        by_cases he : eDo S ρ = 0
        rotate_left
        · have he1 : (eDo S ρ != 0) = true := by simp [he]
          rw [if_neg he, sDo_err he] at s5
          have Hlg := Lib.hid (show LG w1.heap.size w1 w5 dd b m G5 S K A8 n8 c8 sy from ⟨s5.less (fun x hx => .inl (.inl hx)), dk5, br5, Hsy.out, Hfit.out, Hok.out, Hpl.out⟩)
          clear s5 dk5 br5 rb5 cb5 he
          go_wp2_with fail
          go_roundw
          case rel => exact ⟨j + 1, G5, S, K, A8, n8, c8, sy, by omega, by go_num, rfl, rfl, by omega, Hlg.out⟩
          case measure => simp [intOf]; omega
        · have he1 : (eDo S ρ != 0) = false := by simp [he]
          have HA := Lib.hid (show allOk si0 (K ++ [ρ]) from (allOk_snoc si0 K ρ).mpr ⟨Hok.out, by rw [Hpl.out]; exact he⟩)
          have HP := Lib.hid (show plays si0 (K ++ [ρ]) = sDo S ρ from by rw [plays_snoc, Hpl.out])
          rw [if_pos he] at s5
          clear he
          obtain ⟨q0, q1, q2, q3⟩ : w5.cell? ⟨R.heap.size, 0, none⟩ = some (.int .i64 a0) ∧ w5.cell? ⟨R.heap.size, 1, none⟩ = some (.int .i64 a1) ∧ w5.cell? ⟨R.heap.size, 2, none⟩ = some (.int .u8 a2) ∧ w5.cell? ⟨R.heap.size, 3, none⟩ = some (.int .i64 a3) := ⟨cb5.cell 0, cb5.cell 1, cb5.cell 2, cb5.cell 3⟩
          have hby := Dk.bytes_c a0 a1 a2 a3 w5 hfi
          rw [Hebr.out] at hby
          clear cb5
          go_wp2_with fail
          (with_reducible refine hby.mono ?_)
          rintro e w6 ⟨A9, n9, c9, G9, rfl, hsg, b6⟩
          have hb9 := Dk.BR.of_seg hsg
          have s6 := s5.onw b6
          have dk6 := dk5.on b6
          have br6 := Dk.BR.on br5 b6
          have rb6 := rb5.on b6
          clear hby hsg q0 q1 q2 q3 s5 dk5 br5 rb5 b6
          have hn8 : n8 + 19 ≤ 2000 := by have := br6.1.symm.trans (ebs_len K); omega
          have e0 : Dk.eA n8 1048576 (eb ρ) = 0 := Dk.eA_ok (by rw [eb_len]; omega) (by rw [eb_len]; omega)
          have e1 : Dk.bA 1048576 (Dk.frs (K.map eb)) (eb ρ) = Dk.frs ((K ++ [ρ]).map eb) := by
            rw [Dk.bA_ok (by rw [br6.1]; exact e0), List.map_append, List.map_cons, List.map_nil, Dk.frs_snoc]
          have hse : (Dk.frs (((K ++ [ρ]).map eb).take sy)).length = (Dk.frs ((K.map eb).take sy)).length := by
            rw [List.map_append, List.take_append_of_le_length (by rw [List.length_map]; exact Hsy.out)]
          obtain ⟨s8, hs8⟩ : ∃ s : Nat, (Dk.frs ((K.map eb).take sy)).length = s := ⟨_, rfl⟩
          rw [hs8] at dk6 hse
          have hap : Calls Try.prog 29 #[.agg #[.slice A8 n8 c8, .int .i64 s8, .int .i64 1048576], .slice A9 n9 c9] w6 (Dk.TPostF w6 s8 1048576 (Dk.frs ((K ++ [ρ]).map eb)) 0) := by
            have h := Dk.append_f A8 n8 c8 1048576 (s8 : Int) _ A9 n9 c9 (eb ρ) w6 br6 hb9 (by omega) (by omega)
            rw [e0, e1] at h
            exact h
          obtain ⟨q0, q1, q2⟩ : w6.cell? ⟨dd, 0, none⟩ = some (.slice A8 n8 c8) ∧ w6.cell? ⟨dd, 1, none⟩ = some (.int .i64 s8) ∧ w6.cell? ⟨dd, 2, none⟩ = some (.int .i64 1048576) := ⟨dk6.cell 0, dk6.cell 1, dk6.cell 2⟩
          have Hse := Lib.hid hse
          have Hd6 := Lib.hid dk6.lt
          clear e0 e1 hse hs8 hb9 br6
          go_wp2_with fail
          (with_reducible refine hap.mono ?_)
          rintro e w7 ⟨A10, n10, c10, rfl, hb10, b7, hfr⟩
          have hn10 : 0 < n10 ∧ n10 ≤ 2000 := by have := hb10.1; rw [ebs_len] at this; simp at this; omega
          obtain ⟨g10, o10, hA10, hl10, _⟩ := hb10.2.2.2 (by omega)
          have hg10 : w6.heap.size ≤ g10 := hfr _ hA10
          have s7 := (s6.add (R := g10) b7 hg10 hl10).less (Rs' := fun x => x = dd ∨ ∃ off, A10 = some ⟨x, off, none⟩) (fun x e => by
            rcases e with e | ⟨off, e⟩
            · exact .inl (.inl (.inl (.inl e)))
            · rw [hA10] at e; cases e; exact .inr rfl)
          obtain ⟨X, hX⟩ : ∃ V, w7.alloc (.cells (dks A10 n10 c10 s8) 73) = V := ⟨_, rfl⟩
          have cX : CB X w7.heap.size 73 (dks A10 n10 c10 s8) := by rw [← hX]; exact CB.new _ _ _
          have bX : Below w7.heap.size w7 X := by rw [← hX]; exact belA _ _
          have sX := s7.onw bX
          have dkX := (dk6.on b7).on bX
          have rbX := (rb6.on b7).on bX
          have brX := Dk.BR.on hb10 bX
          obtain ⟨V, hV, oV, jV⟩ := disk_all dkX (.slice A10 n10 c10) (.int .i64 s8) (.int .i64 1048576)
          have sV := sX.justT dkX neDL neHL jV (.inl rfl) hB0
          have rbV := jV.cb rbX (by have := hdl.out; omega)
          have brV : Dk.BR V V.heap.size A10 n10 c10 (Dk.frs ((K ++ [ρ]).map eb)) := br_at brX (fun g off e => jV.block g (by rw [hA10] at e; cases e; have := Hd6.out; omega)) (by rw [jV.size]; exact Nat.le_refl _)
          obtain ⟨p0, p1, p2⟩ : X.cell? ⟨dd, 0, none⟩ = some (.slice A8 n8 c8) ∧ X.cell? ⟨dd, 1, none⟩ = some (.int .i64 s8) ∧ X.cell? ⟨dd, 2, none⟩ = some (.int .i64 1048576) := ⟨dkX.cell 0, dkX.cell 1, dkX.cell 2⟩
          obtain ⟨f0, f1, f2⟩ : X.frozen? ⟨dd, 0, none⟩ = false ∧ X.frozen? ⟨dd, 1, none⟩ = false ∧ X.frozen? ⟨dd, 2, none⟩ = false := ⟨dkX.frozen 0, dkX.frozen 1, dkX.frozen 2⟩
          obtain ⟨v0, v1, v2⟩ : X.cell? ⟨w7.heap.size, 0, none⟩ = some (.slice A10 n10 c10) ∧ X.cell? ⟨w7.heap.size, 1, none⟩ = some (.int .i64 s8) ∧ X.cell? ⟨w7.heap.size, 2, none⟩ = some (.int .i64 1048576) := ⟨cX.cell 0, cX.cell 1, cX.cell 2⟩
          have HX := Lib.hid hX
          have HV := Lib.hid hV
          have hfK : ∀ r ∈ K ++ [ρ], FitR r := fun r hr => by
            rcases List.mem_append.1 hr with hr | hr
            · exact Hfit.out r hr
            · simp at hr; subst hr; exact Hfr.out
          have HfK := Lib.hid hfK
          have hn1 : wrap64 ((K.length : Int) + 1) = ((K ++ [ρ]).length : Int) := by
            rw [IntWalk.wrap64_in _ (by omega)]
            simp
          have Hnl := Lib.hid (show Value.int .i64 ((K.length : Int) + 1) = Value.int .i64 ((K ++ [ρ]).length : Int) by simp)
          have Hsk := Lib.hid (show sy ≤ (K ++ [ρ]).length by have := Hsy.out; simp; omega)
          have Hkl := Lib.hid (show (K ++ [ρ]).length ≤ j + 1 by simp; exact hK)
          clear hA10 hap hfK hX hV bX s7 sX dkX rbX brX jV cX q0 q1 q2 s6 dk6 rb6 b7 hfr hb10
          go_upto_region 16 with fail
          rw [HX.out]
          go_upto_region 19 with fail
          rw [HV.out]
          clear p0 p1 p2 f0 f1 f2 v0 v1 v2
          have x4 : V.cell? ⟨wr.heap.size, 4, none⟩ = some (.bool x.sy) := rbV.cell 4
          obtain ⟨bsy, hbsy⟩ : ∃ q, x.sy = q := ⟨_, rfl⟩
          rw [hbsy] at x4
          clear hbsy rbV
          cases bsy with
          | false =>
            have Hlg := Lib.hid (show LG w1.heap.size w1 V dd b m G5 (sDo S ρ) (K ++ [ρ]) A10 n10 c10 sy from ⟨sV, by rw [Hse.out]; exact oV, brV, Hsk.out, HfK.out, HA.out, HP.out⟩)
            clear sV oV brV
            go_wp2_with fail
            go_roundw
            case rel => exact ⟨j + 1, G5, sDo S ρ, K ++ [ρ], A10, n10, c10, sy, by omega, by go_num, Hnl.out, rfl, Hkl.out, Hlg.out⟩
            case measure => simp [intOf]; omega
          | true =>
            have hsy : Calls Try.prog 30 #[.agg #[.slice A10 n10 c10, .int .i64 s8, .int .i64 1048576]] V (Dk.DPostF V n10 n10 1048576 (Dk.frs ((K ++ [ρ]).map eb))) := Dk.sync_f A10 n10 c10 s8 1048576 _ V brV (by omega)
            obtain ⟨q0, q1, q2⟩ : V.cell? ⟨dd, 0, none⟩ = some (.slice A10 n10 c10) ∧ V.cell? ⟨dd, 1, none⟩ = some (.int .i64 s8) ∧ V.cell? ⟨dd, 2, none⟩ = some (.int .i64 1048576) := ⟨oV.cell 0, oV.cell 1, oV.cell 2⟩
            have Hd7 := Lib.hid oV.lt
            go_wp2_with fail
            (with_reducible refine hsy.mono ?_)
            rintro e w8 ⟨A11, c11, rfl, hb11, b8, hfr⟩
            obtain ⟨g11, o11, hA11, hl11, _⟩ := hb11.2.2.2 (by omega)
            have hg11 : V.heap.size ≤ g11 := hfr _ hA11
            have s8' := (sV.add (R := g11) b8 hg11 hl11).less (Rs' := fun x => x = dd ∨ ∃ off, A11 = some ⟨x, off, none⟩) (fun x e => by
              rcases e with e | ⟨off, e⟩
              · exact .inl (.inl e)
              · rw [hA11] at e; cases e; exact .inr rfl)
            have dk8 := oV.on b8
            obtain ⟨U, hU, oU, jU⟩ := disk_all dk8 (.slice A11 n10 c11) (.int .i64 n10) (.int .i64 1048576)
            have sU := s8'.justT dk8 neDL neHL jU (.inl rfl) hB0
            have brU : Dk.BR U U.heap.size A11 n10 c11 (Dk.frs ((K ++ [ρ]).map eb)) := br_at hb11 (fun g off e => jU.block g (by rw [hA11] at e; cases e; have := Hd7.out; omega)) (by rw [jU.size]; exact Nat.le_refl _)
            obtain ⟨p0, p1, p2⟩ : w8.cell? ⟨dd, 0, none⟩ = some (.slice A10 n10 c10) ∧ w8.cell? ⟨dd, 1, none⟩ = some (.int .i64 s8) ∧ w8.cell? ⟨dd, 2, none⟩ = some (.int .i64 1048576) := ⟨dk8.cell 0, dk8.cell 1, dk8.cell 2⟩
            obtain ⟨f0, f1, f2⟩ : w8.frozen? ⟨dd, 0, none⟩ = false ∧ w8.frozen? ⟨dd, 1, none⟩ = false ∧ w8.frozen? ⟨dd, 2, none⟩ = false := ⟨dk8.frozen 0, dk8.frozen 1, dk8.frozen 2⟩
            have htk : (Dk.frs (((K ++ [ρ]).map eb).take (K ++ [ρ]).length)).length = n10 := by
              rw [List.take_of_length_le (by rw [List.length_map]; exact Nat.le_refl _)]
              exact hb11.1
            have Hlg := Lib.hid (show LG w1.heap.size w1 U dd b m G5 (sDo S ρ) (K ++ [ρ]) A11 n10 c11 (K ++ [ρ]).length from ⟨sU, by rw [htk]; exact oU, brU, Nat.le_refl _, HfK.out, HA.out, HP.out⟩)
            have HU := Lib.hid hU
            clear hA11 hU sU oU brU jU sV oV brV s8' dk8 hsy b8 hfr hb11 q0 q1 q2 htk x4
            go_upto_region 22 with fail
            rw [HU.out]
            clear p0 p1 p2 f0 f1 f2
            go_wp2_with fail
            go_roundw
            case rel => exact ⟨j + 1, G5, sDo S ρ, K ++ [ρ], A11, n10, c11, (K ++ [ρ]).length, by omega, by go_num, Hnl.out, Hnl.out, Hkl.out, Hlg.out⟩
            case measure => simp [intOf]; omega
      have h61' : (a0 == 6) = false := by simp [h6]
      clear h4 h6
      obtain ⟨a3, ha3⟩ : ∃ a, x.nn = a := ⟨_, rfl⟩
      have y3 : -9223372036854775808 ≤ a3 ∧ a3 ≤ 9223372036854775807 := by rw [← ha3]; exact hok.nn
      rw [ha3] at cQ q3
      obtain ⟨P, hP⟩ : ∃ V, Q = V := ⟨_, rfl⟩
      rw [hP] at st2 dkQ brQ cQ rQ q0 q1 q2 q3 ⊢
      clear r0 r1 r2 r3 r4
      have sP := st2
      have dkP := dkQ
      have brP := brQ
      have rP := rQ
      have cP := cQ
      clear st2 dkQ brQ cQ rQ hP lQ
      have hro : RcOk ⟨a0, a1, a2, a3⟩ := ⟨by show -9223372036854775808 ≤ a0 ∧ a0 ≤ 9223372036854775807; omega, by show -9223372036854775808 ≤ a1 ∧ a1 ≤ 9223372036854775807; omega, by show 0 ≤ a2 ∧ a2 ≤ 255; omega, y3⟩
      have hfi : Dk.Fit a0 a1 a2 a3 := ⟨by omega, by omega, by omega, y3⟩
      have hdo := do_c b m G S K ⟨a0, a1, a2, a3⟩ P sP.sr hro (by omega)
      obtain ⟨ρ, hρ⟩ : ∃ r : Rc, (⟨a0, a1, a2, a3⟩ : Rc) = r := ⟨_, rfl⟩
      rw [hρ] at hdo
      have ek : ρ.kd = a0 ∧ ρ.tx = a1 ∧ ρ.ky = a2 ∧ ρ.nn = a3 := by rw [← hρ]; exact ⟨rfl, rfl, rfl, rfl⟩
      have hdo' : Calls Try.prog 15 #[.pointer (some ⟨b, 0, none⟩), .agg #[.int .i64 a0, .int .i64 a1, .int .u8 a2, .int .i64 a3]] P (DoPost P b m G S K ρ) := by
        have := hdo
        simp only [kv, ek.1, ek.2.1, ek.2.2.1, ek.2.2.2] at this
        exact this
      have ebr : Dk.encR a0 a1 a2 a3 = eb ρ := by unfold eb; rw [ek.1, ek.2.1, ek.2.2.1, ek.2.2.2]
      have hfr : FitR ρ := by unfold FitR; rw [ek.1, ek.2.1, ek.2.2.1, ek.2.2.2]; exact hfi
      have Hsp := Lib.hid sP
      have Hfr := Lib.hid hfr
      have Hebr := Lib.hid ebr
      clear hdo hro ek hρ sP hfr ebr
      go_wp2_with fail
      (with_reducible refine hdo'.mono ?_)
      intro e w5 hp
      obtain ⟨rfl, G5, s5, hk, _, hsz⟩ := Hsp.out.done hp (Nat.le_refl _)
      have dk5 := dkP.same (hk dd (.inl (.inl (.inl rfl))))
      have br5 : Dk.BR w5 w5.heap.size A8 n8 c8 (Dk.frs (K.map eb)) := br_at brP (fun g off e => hk g (.inl (.inl (.inr ⟨off, e⟩)))) hsz
      have rb5 := rP.same (hk wr.heap.size (.inl (.inr rfl)))
      have cb5 := cP.same (hk R.heap.size (.inr rfl))
      clear hp hk hdo' dkP brP rP cP q0 q1 q2 q3
      by_cases he : eDo S ρ = 0
      rotate_left
      · have he1 : (eDo S ρ != 0) = true := by simp [he]
        rw [if_neg he, sDo_err he] at s5
        have Hlg := Lib.hid (show LG w1.heap.size w1 w5 dd b m G5 S K A8 n8 c8 sy from ⟨s5.less (fun x hx => .inl (.inl hx)), dk5, br5, Hsy.out, Hfit.out, Hok.out, Hpl.out⟩)
        clear s5 dk5 br5 rb5 cb5 he
        go_wp2_with fail
        go_roundw
        case rel => exact ⟨j + 1, G5, S, K, A8, n8, c8, sy, by omega, by go_num, rfl, rfl, by omega, Hlg.out⟩
        case measure => simp [intOf]; omega
      · have he1 : (eDo S ρ != 0) = false := by simp [he]
        have HA := Lib.hid (show allOk si0 (K ++ [ρ]) from (allOk_snoc si0 K ρ).mpr ⟨Hok.out, by rw [Hpl.out]; exact he⟩)
        have HP := Lib.hid (show plays si0 (K ++ [ρ]) = sDo S ρ from by rw [plays_snoc, Hpl.out])
        rw [if_pos he] at s5
        clear he
        obtain ⟨q0, q1, q2, q3⟩ : w5.cell? ⟨R.heap.size, 0, none⟩ = some (.int .i64 a0) ∧ w5.cell? ⟨R.heap.size, 1, none⟩ = some (.int .i64 a1) ∧ w5.cell? ⟨R.heap.size, 2, none⟩ = some (.int .u8 a2) ∧ w5.cell? ⟨R.heap.size, 3, none⟩ = some (.int .i64 a3) := ⟨cb5.cell 0, cb5.cell 1, cb5.cell 2, cb5.cell 3⟩
        have hby := Dk.bytes_c a0 a1 a2 a3 w5 hfi
        rw [Hebr.out] at hby
        clear cb5
        go_wp2_with fail
        (with_reducible refine hby.mono ?_)
        rintro e w6 ⟨A9, n9, c9, G9, rfl, hsg, b6⟩
        have hb9 := Dk.BR.of_seg hsg
        have s6 := s5.onw b6
        have dk6 := dk5.on b6
        have br6 := Dk.BR.on br5 b6
        have rb6 := rb5.on b6
        clear hby hsg q0 q1 q2 q3 s5 dk5 br5 rb5 b6
        have hn8 : n8 + 19 ≤ 2000 := by have := br6.1.symm.trans (ebs_len K); omega
        have e0 : Dk.eA n8 1048576 (eb ρ) = 0 := Dk.eA_ok (by rw [eb_len]; omega) (by rw [eb_len]; omega)
        have e1 : Dk.bA 1048576 (Dk.frs (K.map eb)) (eb ρ) = Dk.frs ((K ++ [ρ]).map eb) := by
          rw [Dk.bA_ok (by rw [br6.1]; exact e0), List.map_append, List.map_cons, List.map_nil, Dk.frs_snoc]
        have hse : (Dk.frs (((K ++ [ρ]).map eb).take sy)).length = (Dk.frs ((K.map eb).take sy)).length := by
          rw [List.map_append, List.take_append_of_le_length (by rw [List.length_map]; exact Hsy.out)]
        obtain ⟨s8, hs8⟩ : ∃ s : Nat, (Dk.frs ((K.map eb).take sy)).length = s := ⟨_, rfl⟩
        rw [hs8] at dk6 hse
        have hap : Calls Try.prog 29 #[.agg #[.slice A8 n8 c8, .int .i64 s8, .int .i64 1048576], .slice A9 n9 c9] w6 (Dk.TPostF w6 s8 1048576 (Dk.frs ((K ++ [ρ]).map eb)) 0) := by
          have h := Dk.append_f A8 n8 c8 1048576 (s8 : Int) _ A9 n9 c9 (eb ρ) w6 br6 hb9 (by omega) (by omega)
          rw [e0, e1] at h
          exact h
        obtain ⟨q0, q1, q2⟩ : w6.cell? ⟨dd, 0, none⟩ = some (.slice A8 n8 c8) ∧ w6.cell? ⟨dd, 1, none⟩ = some (.int .i64 s8) ∧ w6.cell? ⟨dd, 2, none⟩ = some (.int .i64 1048576) := ⟨dk6.cell 0, dk6.cell 1, dk6.cell 2⟩
        have Hse := Lib.hid hse
        have Hd6 := Lib.hid dk6.lt
        clear e0 e1 hse hs8 hb9 br6
        go_wp2_with fail
        (with_reducible refine hap.mono ?_)
        rintro e w7 ⟨A10, n10, c10, rfl, hb10, b7, hfr⟩
        have hn10 : 0 < n10 ∧ n10 ≤ 2000 := by have := hb10.1; rw [ebs_len] at this; simp at this; omega
        obtain ⟨g10, o10, hA10, hl10, _⟩ := hb10.2.2.2 (by omega)
        have hg10 : w6.heap.size ≤ g10 := hfr _ hA10
        have s7 := (s6.add (R := g10) b7 hg10 hl10).less (Rs' := fun x => x = dd ∨ ∃ off, A10 = some ⟨x, off, none⟩) (fun x e => by
          rcases e with e | ⟨off, e⟩
          · exact .inl (.inl (.inl (.inl e)))
          · rw [hA10] at e; cases e; exact .inr rfl)
        obtain ⟨X, hX⟩ : ∃ V, w7.alloc (.cells (dks A10 n10 c10 s8) 73) = V := ⟨_, rfl⟩
        have cX : CB X w7.heap.size 73 (dks A10 n10 c10 s8) := by rw [← hX]; exact CB.new _ _ _
        have bX : Below w7.heap.size w7 X := by rw [← hX]; exact belA _ _
        have sX := s7.onw bX
        have dkX := (dk6.on b7).on bX
        have rbX := (rb6.on b7).on bX
        have brX := Dk.BR.on hb10 bX
        obtain ⟨V, hV, oV, jV⟩ := disk_all dkX (.slice A10 n10 c10) (.int .i64 s8) (.int .i64 1048576)
        have sV := sX.justT dkX neDL neHL jV (.inl rfl) hB0
        have rbV := jV.cb rbX (by have := hdl.out; omega)
        have brV : Dk.BR V V.heap.size A10 n10 c10 (Dk.frs ((K ++ [ρ]).map eb)) := br_at brX (fun g off e => jV.block g (by rw [hA10] at e; cases e; have := Hd6.out; omega)) (by rw [jV.size]; exact Nat.le_refl _)
        obtain ⟨p0, p1, p2⟩ : X.cell? ⟨dd, 0, none⟩ = some (.slice A8 n8 c8) ∧ X.cell? ⟨dd, 1, none⟩ = some (.int .i64 s8) ∧ X.cell? ⟨dd, 2, none⟩ = some (.int .i64 1048576) := ⟨dkX.cell 0, dkX.cell 1, dkX.cell 2⟩
        obtain ⟨f0, f1, f2⟩ : X.frozen? ⟨dd, 0, none⟩ = false ∧ X.frozen? ⟨dd, 1, none⟩ = false ∧ X.frozen? ⟨dd, 2, none⟩ = false := ⟨dkX.frozen 0, dkX.frozen 1, dkX.frozen 2⟩
        obtain ⟨v0, v1, v2⟩ : X.cell? ⟨w7.heap.size, 0, none⟩ = some (.slice A10 n10 c10) ∧ X.cell? ⟨w7.heap.size, 1, none⟩ = some (.int .i64 s8) ∧ X.cell? ⟨w7.heap.size, 2, none⟩ = some (.int .i64 1048576) := ⟨cX.cell 0, cX.cell 1, cX.cell 2⟩
        have HX := Lib.hid hX
        have HV := Lib.hid hV
        have hfK : ∀ r ∈ K ++ [ρ], FitR r := fun r hr => by
          rcases List.mem_append.1 hr with hr | hr
          · exact Hfit.out r hr
          · simp at hr; subst hr; exact Hfr.out
        have HfK := Lib.hid hfK
        have hn1 : wrap64 ((K.length : Int) + 1) = ((K ++ [ρ]).length : Int) := by
          rw [IntWalk.wrap64_in _ (by omega)]
          simp
        have Hnl := Lib.hid (show Value.int .i64 ((K.length : Int) + 1) = Value.int .i64 ((K ++ [ρ]).length : Int) by simp)
        have Hsk := Lib.hid (show sy ≤ (K ++ [ρ]).length by have := Hsy.out; simp; omega)
        have Hkl := Lib.hid (show (K ++ [ρ]).length ≤ j + 1 by simp; exact hK)
        clear hA10 hap hfK hX hV bX s7 sX dkX rbX brX jV cX q0 q1 q2 s6 dk6 rb6 b7 hfr hb10
        go_upto_region 16 with fail
        rw [HX.out]
        go_upto_region 19 with fail
        rw [HV.out]
        clear p0 p1 p2 f0 f1 f2 v0 v1 v2
        have x4 : V.cell? ⟨wr.heap.size, 4, none⟩ = some (.bool x.sy) := rbV.cell 4
        obtain ⟨bsy, hbsy⟩ : ∃ q, x.sy = q := ⟨_, rfl⟩
        rw [hbsy] at x4
        clear hbsy rbV
        cases bsy with
        | false =>
          have Hlg := Lib.hid (show LG w1.heap.size w1 V dd b m G5 (sDo S ρ) (K ++ [ρ]) A10 n10 c10 sy from ⟨sV, by rw [Hse.out]; exact oV, brV, Hsk.out, HfK.out, HA.out, HP.out⟩)
          clear sV oV brV
          go_wp2_with fail
          go_roundw
          case rel => exact ⟨j + 1, G5, sDo S ρ, K ++ [ρ], A10, n10, c10, sy, by omega, by go_num, Hnl.out, rfl, Hkl.out, Hlg.out⟩
          case measure => simp [intOf]; omega
        | true =>
          have hsy : Calls Try.prog 30 #[.agg #[.slice A10 n10 c10, .int .i64 s8, .int .i64 1048576]] V (Dk.DPostF V n10 n10 1048576 (Dk.frs ((K ++ [ρ]).map eb))) := Dk.sync_f A10 n10 c10 s8 1048576 _ V brV (by omega)
          obtain ⟨q0, q1, q2⟩ : V.cell? ⟨dd, 0, none⟩ = some (.slice A10 n10 c10) ∧ V.cell? ⟨dd, 1, none⟩ = some (.int .i64 s8) ∧ V.cell? ⟨dd, 2, none⟩ = some (.int .i64 1048576) := ⟨oV.cell 0, oV.cell 1, oV.cell 2⟩
          have Hd7 := Lib.hid oV.lt
          go_wp2_with fail
          (with_reducible refine hsy.mono ?_)
          rintro e w8 ⟨A11, c11, rfl, hb11, b8, hfr⟩
          obtain ⟨g11, o11, hA11, hl11, _⟩ := hb11.2.2.2 (by omega)
          have hg11 : V.heap.size ≤ g11 := hfr _ hA11
          have s8' := (sV.add (R := g11) b8 hg11 hl11).less (Rs' := fun x => x = dd ∨ ∃ off, A11 = some ⟨x, off, none⟩) (fun x e => by
            rcases e with e | ⟨off, e⟩
            · exact .inl (.inl e)
            · rw [hA11] at e; cases e; exact .inr rfl)
          have dk8 := oV.on b8
          obtain ⟨U, hU, oU, jU⟩ := disk_all dk8 (.slice A11 n10 c11) (.int .i64 n10) (.int .i64 1048576)
          have sU := s8'.justT dk8 neDL neHL jU (.inl rfl) hB0
          have brU : Dk.BR U U.heap.size A11 n10 c11 (Dk.frs ((K ++ [ρ]).map eb)) := br_at hb11 (fun g off e => jU.block g (by rw [hA11] at e; cases e; have := Hd7.out; omega)) (by rw [jU.size]; exact Nat.le_refl _)
          obtain ⟨p0, p1, p2⟩ : w8.cell? ⟨dd, 0, none⟩ = some (.slice A10 n10 c10) ∧ w8.cell? ⟨dd, 1, none⟩ = some (.int .i64 s8) ∧ w8.cell? ⟨dd, 2, none⟩ = some (.int .i64 1048576) := ⟨dk8.cell 0, dk8.cell 1, dk8.cell 2⟩
          obtain ⟨f0, f1, f2⟩ : w8.frozen? ⟨dd, 0, none⟩ = false ∧ w8.frozen? ⟨dd, 1, none⟩ = false ∧ w8.frozen? ⟨dd, 2, none⟩ = false := ⟨dk8.frozen 0, dk8.frozen 1, dk8.frozen 2⟩
          have htk : (Dk.frs (((K ++ [ρ]).map eb).take (K ++ [ρ]).length)).length = n10 := by
            rw [List.take_of_length_le (by rw [List.length_map]; exact Nat.le_refl _)]
            exact hb11.1
          have Hlg := Lib.hid (show LG w1.heap.size w1 U dd b m G5 (sDo S ρ) (K ++ [ρ]) A11 n10 c11 (K ++ [ρ]).length from ⟨sU, by rw [htk]; exact oU, brU, Nat.le_refl _, HfK.out, HA.out, HP.out⟩)
          have HU := Lib.hid hU
          clear hA11 hU sU oU brU jU sV oV brV s8' dk8 hsy b8 hfr hb11 q0 q1 q2 htk x4
          go_upto_region 22 with fail
          rw [HU.out]
          clear p0 p1 p2 f0 f1 f2
          go_wp2_with fail
          go_roundw
          case rel => exact ⟨j + 1, G5, sDo S ρ, K ++ [ρ], A11, n10, c11, (K ++ [ρ]).length, by omega, by go_num, Hnl.out, Hnl.out, Hkl.out, Hlg.out⟩
          case measure => simp [intOf]; omega
    · obtain rfl : j = n := by omega
      have hlt1 : ¬ (j : Int) < (j : Int) := by omega
      have hfit := Lib.hid hLG.fit
      have hok := Lib.hid hLG.ok
      have hpl := Lib.hid hLG.pl
      have hsy := hLG.sy
      have hst := hLG.st
      have hro := Lib.hid hst.sr.good.ok
      have hbr := hLG.br
      have hdk := hLG.dk
      clear hLG
      have hn8 : n8 ≤ 2000 := by have := hbr.1.symm.trans (ebs_len K); omega
      have hsn := Dk.frs_take_le (K.map eb) sy
      rw [hbr.1] at hsn
      have hwi := Dk.wh_iff (K.map eb)
      have hwl := Dk.wh_le (K.map eb)
      have hac := fun k => (Dk.aC_cut (K.map eb) k (by
        intro l hl
        obtain ⟨r, _, rfl⟩ := List.mem_map.1 hl
        rw [eb_len]; omega)).1
      obtain ⟨s8, hs8⟩ : ∃ s : Nat, (Dk.frs ((K.map eb).take sy)).length = s := ⟨_, rfl⟩
      rw [hs8] at hdk hsn
      obtain ⟨k9, hk9⟩ : ∃ k, Dk.kC n8 s8 kp = k := ⟨_, rfl⟩
      have hsk : s8 ≤ k9 := by rw [← hk9]; unfold Dk.kC; omega
      have hcr : Calls Try.prog 32 #[.agg #[.slice A8 n8 c8, .int .i64 s8, .int .i64 1048576], .int .u16 kp] wr (Dk.DPost wr k9 k9 1048576 ((Dk.frs (K.map eb)).take k9)) := by
        have h := Dk.crash_d A8 n8 c8 s8 kp 1048576 (Dk.frs (K.map eb)) wr hbr (by omega) hsn Hkp.out
        rw [hk9] at h
        exact h
      have hm1 := (hwi k9 sy (by rw [List.length_map]; exact hsy)).mp (by rw [hs8]; exact hsk)
      have hm2 : Dk.wh k9 (K.map eb) ≤ K.length := by have := hwl k9; rwa [List.length_map] at this
      have ha := hac k9
      obtain ⟨q0, q1, q2⟩ : wr.cell? ⟨dd, 0, none⟩ = some (.slice A8 n8 c8) ∧ wr.cell? ⟨dd, 1, none⟩ = some (.int .i64 s8) ∧ wr.cell? ⟨dd, 2, none⟩ = some (.int .i64 1048576) := ⟨hdk.cell 0, hdk.cell 1, hdk.cell 2⟩
      obtain ⟨mm, hmm⟩ : ∃ q, Dk.wh k9 (K.map eb) = q := ⟨_, rfl⟩
      rw [hmm] at hm1 hm2 ha
      have Ha := Lib.hid ha
      clear hwi hwl hac hs8 hk9 hmm ha hbr hdk hsk
      go_wp2_with fail
      (with_reducible refine hcr.mono ?_)
      rintro e w9 ⟨A9, c9, rfl, hb9, b9⟩
      have hk9 : k9 ≤ 2000 := by have := hb9.1; have h2 := ebs_len K; simp at this; omega
      have hrc := (Dk.records_d A9 k9 c9 k9 1048576 ((Dk.frs (K.map eb)).take k9) w9 hb9 (by omega)).mono (fun _ _ h => h.toA)
      have s9 := hst.onw b9
      clear hcr q0 q1 q2 hb9 b9 hst
      go_wp2_with fail
      (with_reducible refine hrc.mono ?_)
      rintro e w10 ⟨A10, n10, c10, rfl, hl10, b10⟩
      rw [Ha.out, ← List.map_take] at hl10
      have hM : (K.take mm).length = mm := by rw [List.length_take]; omega
      obtain rfl : n10 = mm := by have := hl10.1; rw [List.length_map, hM] at this; exact this.symm
      have hMK : ∀ r ∈ K.take n10, r ∈ K := fun r hr => List.mem_of_mem_take hr
      have HfM := Lib.hid (fun r (hr : r ∈ K.take n10) => hfit.out r (hMK r hr))
      have HrM := Lib.hid (fun r (hr : r ∈ K.take n10) => hro.out r (hMK r hr))
      have HoM := Lib.hid (show allOk si0 (K.take n10) from allOk_pre si0 (K.take n10) (K.drop n10) (by rw [List.take_append_drop]; exact hok.out))
      have HpM := Lib.hid (fun (e : n10 = K.length) => show plays si0 (K.take n10) = S from by rw [e, List.take_length]; exact hpl.out)
      have HMg := Lib.hid (fun t (h : t < n10) => show tkR (K.take n10) t = tkR K t from by unfold tkR; rw [List.getElem?_take, if_pos h])
      have HMe := Lib.hid (show K.take n10 = K.take n10 from rfl)
      have s10 := s9.onw b10
      have Hl := Lib.hid hl10
      have hMl := Lib.hid hM
      obtain ⟨M, hMM⟩ : ∃ q, K.take n10 = q := ⟨_, rfl⟩
      have HKM := Lib.hid hMM
      rw [hMM] at Hl HfM HrM HoM HpM HMg hMl
      obtain ⟨i0, hi0, hz0, hz1, hz2⟩ := info_parts Try.infoK
      have Hi := Lib.hid hi0
      have Hz := Lib.hid hz0
      have Hz1 := Lib.hid hz1
      have Hz2 := Lib.hid hz2
      have p03 : 0 < 4 := by omega
      have hcap := hl10.2.1
      have hcmx := hl10.2.2.1
      simp only [maxLen] at hcmx
      clear hi0 hz0 hz1 hz2 hMM hl10 s9 b10 hrc hM hMK HMe Ha
      go_wp2_with fail
      go_loopw [20, 117] (fun bv i wq => ∃ (t : Nat) (A11 : Option Addr) (c11 : Nat) (G11 : Option Nat), t ≤ n10 ∧ i = .int .i64 t ∧ bv = .slice A11 t c11 ∧ Seg wq 35 4 A11 t c11 (rc kc (M.take t)) G11 ∧ (∀ g, G11 = some g → w10.heap.size ≤ g) ∧ Below w10.heap.size w10 wq) (fun _ i _ => n10 - (intOf i).toNat)
      case atStart => exact ⟨0, none, 0, none, by omega, rfl, rfl, Seg.nil _ _ _, fun g e => (by cases e), Below.refl _ _⟩
      case round =>
        obtain ⟨t, A11, c11, G11, ht, rfl, rfl, hsg, hg11, hbl⟩ := hrel
        obtain ⟨wz, hwz⟩ : ∃ z, z = wr := ⟨_, rfl⟩
        subst hwz
        by_cases hlt2 : t < n10
        · have hlt3 : (t : Int) < (n10 : Int) := by omega
          have htM : t < M.length := by rw [hMl.out]; exact hlt2
          obtain ⟨g, off, A', n', c', l, rfl, hl, v0, hbr⟩ := (Hl.out.below hbl (Nat.le_refl _)).at_ hlt2
          have hl2 : l = eb (tkR M t) := by
            have := hl.out
            rw [List.getElem?_map, tkR_get htM] at this
            simp at this
            exact this.symm
          have htk := Lib.hid (tkR_take htM)
          have hf := HfM.out _ (tkR_mem htM)
          generalize tkR M t = x at *
          subst hl2
          have hre := Dk.record_c A' n' c' x.kd x.tx x.ky x.nn wz hf (hbr.more hbl.size)
          clear hl hbr hf
          have hcur : ∀ (g : Nat), G11 = some g → w10.heap.size ≤ g := hg11
          go_wp2_with fail
          (with_reducible refine hre.mono ?_)
          rintro e w12 ⟨rfl, b12⟩
          obtain ⟨Y, hY⟩ : ∃ V, w12.alloc (.cells #[.int .i64 x.kd, .int .i64 x.tx, .int .u8 x.ky, .int .i64 x.nn] 35) = V := ⟨_, rfl⟩
          have cY : CB Y w12.heap.size 35 #[.int .i64 x.kd, .int .i64 x.tx, .int .u8 x.ky, .int .i64 x.nn] := by rw [← hY]; exact CB.new _ _ _
          have bY : Below w12.heap.size w12 Y := by rw [← hY]; exact belA _ _
          have lY := bel2 b12 bY
          have gY := hsg.on lY
          have lw := bel2B hbl hbl.size lY
          obtain ⟨q0, q1, q2, q3⟩ : Y.cell? ⟨w12.heap.size, 0, none⟩ = some (.int .i64 x.kd) ∧ Y.cell? ⟨w12.heap.size, 1, none⟩ = some (.int .i64 x.tx) ∧ Y.cell? ⟨w12.heap.size, 2, none⟩ = some (.int .u8 x.ky) ∧ Y.cell? ⟨w12.heap.size, 3, none⟩ = some (.int .i64 x.nn) := ⟨cY.cell 0, cY.cell 1, cY.cell 2, cY.cell 3⟩
          have HY := Lib.hid hY
          clear hY hre b12 bY lY hsg hbl cY v0
          go_upto_region 30 with fail
          rw [HY.out]
          have hsr : Src (Y.alloc (.cells #[.int .i64 x.kd, .int .i64 x.tx, .int .u8 x.ky, .int .i64 x.nn] 35)) 4 (some ⟨Y.heap.size, 0, none⟩) 1 [.int .i64 x.kd, .int .i64 x.tx, .int .u8 x.ky, .int .i64 x.nn] := Src.lit Y 35 [.int .i64 x.kd, .int .i64 x.tx, .int .u8 x.ky, .int .i64 x.nn] 4 1 Y.heap.size rfl rfl
          obtain ⟨p5, p6⟩ := app4 (n := t) (by omega)
          have ho : ∀ u ∈ ([.int .i64 x.kd, .int .i64 x.tx, .int .u8 x.ky, .int .i64 x.nn] : List Value), u.oneCell' = true := kc_one x
          obtain ⟨N, hN⟩ : ∃ N, t + 1 = N := ⟨_, rfl⟩
          have HlX := Lib.hid (show Below w10.heap.size w10 (Y.alloc (.cells #[.int .i64 x.kd, .int .i64 x.tx, .int .u8 x.ky, .int .i64 x.nn] 35)) from bel2B lw lw.size (belA _ _))
          have HN := Lib.hid hN
          have Hg := Lib.hid hg11
          clear lw hg11 hcur hN
          go_wp2_with (at_builtin; refine wpList_append_src _ rfl (.tmp 128) (.tmp 130) _ rfl 35 i0 _ 4 32 Try.underlying49 Hi.out Hz.out Hz1.out Hz2.out rfl p03 rfl (gY.alloc _) rfl hsr ho p5 p6 N HN.out ?_; intro A12 c12 G12 w13 hs13 hg13 hm13; refine Stay.mk ?_)
          refine Stay.open_ ?_
          rw [show rc kc (M.take t) ++ [.int .i64 x.kd, .int .i64 x.tx, .int .u8 x.ky, .int .i64 x.nn] = rc kc (M.take t ++ [x]) from rc_snoc _ x, ← htk.out] at hs13
          have H13 := Lib.hid (show Seg w13 35 4 A12 (t + 1) c12 (rc kc (M.take (t + 1))) G12 from by have k := hs13; rw [← HN.out] at k; exact k)
          have L13 := Lib.hid (HlX.out.grown hg13 HlX.out.size Hg.out)
          have G13 := Lib.hid (hm13.ge HlX.out.size Hg.out)
          have HN' := Lib.hid (show Value.slice A12 N c12 = Value.slice A12 (t + 1) c12 by rw [HN.out])
          clear hsr gY hs13 hg13 hm13 HlX q0 q1 q2 q3
          go_wp2_with fail
          go_roundw
          case rel => exact ⟨t + 1, A12, c12, G12, by omega, by go_num, HN'.out, H13.out, G13.out, L13.out⟩
          case measure => simp [intOf]; omega
        · obtain rfl : t = n10 := by omega
          have hlt3 : ¬ (t : Int) < (t : Int) := by omega
          rw [take_allR hMl.out] at hsg
          have hrp := replay_c A11 t c11 M wz (RR0.of_seg hsg) HrM.out (by omega)
          have s11 := s10.onw hbl
          have hlw := Lib.hid s11.low
          clear hsg hg11 hbl s10
          go_wp2_with fail
          (with_reducible refine hrp.mono ?_)
          rintro e w13 (⟨_, b', m', G', rfl, hs2⟩ | ⟨hno, _⟩)
          rotate_left
          · exact absurd HoM.out hno
          have s13 := s11.onw hs2.low
          have t13 := hs2.sr
          have hlo := slog_c b m G S K w13 s13.sr (by omega)
          clear hrp hs2 s11
          go_wp2_with fail
          (with_reducible refine hlo.mono ?_)
          rintro e w14 ⟨A12, n12, c12, rfl, k12, b14⟩
          have e12 : n12 = K.length := k12.len.symm
          have r12 := k12.rr0
          have hcap2 : n12 ≤ c12 := r12.cap
          have hmx2 : c12 ≤ maxLen := r12.max
          simp only [maxLen] at hmx2
          have s14 := s13.onw b14
          have t14 := t13.on b14
          have hcut : ∀ W, (Instr.slice 49 (.slice A12 n12 c12) none (some (.int .i64 (t : Int))) none).run Try.prog W = .ok (.slice A12 t c12) W := fun W => run_cut_upto _ _ Try.underlying49 4 size_R A12 n12 c12 t (by omega) W
          have hrp2 := replay_c A12 t c12 M w14 (by rw [← HKM.out]; exact r12.upto (by omega)) HrM.out (by omega)
          have g1 : ¬ (t : Int) < (sy : Int) := by omega
          have g2 : ¬ (n12 : Int) < (t : Int) := by omega
          have E12 := Lib.hid e12
          have R12 := Lib.hid r12
          clear hlo k12 b14 s13 t13 e12 r12
          go_wp2_with fail
          (with_reducible refine hrp2.mono ?_)
          rintro e w15 (⟨_, b'', m'', G'', rfl, hs3⟩ | ⟨hno, _⟩)
          rotate_left
          · exact absurd HoM.out hno
          have s15 := s14.onw hs3.low
          have t15 := t14.on hs3.low
          have u15 := hs3.sr
          have r15 := R12.out.on hs3.low
          have hl15 := Lib.hid s15.low
          clear hrp2 hs3 s14 t14 hcut
          obtain ⟨S', hS'⟩ : ∃ q, plays si0 M = q := ⟨_, rfl⟩
          rw [hS'] at t15 u15 HpM
          clear hS'
          have Hr15 := Lib.hid r15
          have Ht15 := Lib.hid t15
          clear r15 t15
          by_cases hfull : t = n12
          · have hfe : ((t : Int) == (n12 : Int)) = true := by simp [hfull]
            have hSS : S' = S := HpM.out (by have := E12.out; omega)
            subst hSS
            go_wp2_with fail
            go_loopw [173] (fun i wq => ∃ q : Nat, q ≤ 8 ∧ i = .int .u8 q ∧ Below w15.heap.size w15 wq) (fun i _ => 8 - (intOf i).toNat)
            case atStart => exact ⟨0, by omega, rfl, Below.refl _ _⟩
            case round =>
              obtain ⟨q, hq, rfl, hbl⟩ := hrel
              obtain ⟨wy, hwy⟩ : ∃ z, z = wr := ⟨_, rfl⟩
              subst hwy
              by_cases hq2 : q < 8
              · have hq3 : (q : Int) < 8 := by omega
                go_wp2_with fail
                (with_reducible refine (sget_c b' m' G' S' M (q : Int) wy (Ht15.out.on hbl)).mono ?_)
                rintro e x1 ⟨rfl, b1⟩
                have k1 := bel2 hbl b1
                clear b1
                go_wp2_with fail
                (with_reducible refine (sget_c b'' m'' G'' S' M (q : Int) x1 (u15.on k1)).mono ?_)
                rintro e x2 ⟨rfl, b2⟩
                have k2 := bel2 k1 b2
                clear b2 k1
                go_wp2_with fail
                (with_reducible refine (sget_c b' m' G' S' M (q : Int) x2 (Ht15.out.on k2)).mono ?_)
                rintro e x3 ⟨rfl, b3⟩
                have k3 := bel2 k2 b3
                clear b3
                go_wp2_with fail
                (with_reducible refine (sget_c b m G S' K (q : Int) x3 (s15.sr.on k3)).mono ?_)
                rintro e x4 ⟨rfl, b4⟩
                have k4 := bel2 k3 b4
                clear b4 k3
                go_wp2_with fail
                go_roundw
                case rel => exact ⟨q + 1, by omega, by go_num, k4⟩
                case measure => simp [intOf]; omega
              · obtain rfl : q = 8 := by omega
                have hq3 : ¬ ((8 : Nat) : Int) < 8 := by omega
                have hl2 := slog_c b' m' G' S' M wy (Ht15.out.on hbl) (by have := hMl.out; omega)
                have hlw4 := Lib.hid (bel2B hl15.out hl15.out.size hbl)
                have r16 := Hr15.out.on hbl
                clear hbl
                go_wp2_with fail
                (with_reducible refine hl2.mono ?_)
                rintro e w16 ⟨A13, n13, c13, rfl, k13, b13⟩
                have e13 : n13 = t := k13.len.symm.trans hMl.out
                subst e13
                have k16 := k13.rr0
                have r17 := r16.on b13
                have hlw5 := Lib.hid (bel2B hlw4.out hlw4.out.size b13)
                clear hl2 k13 b13 r16
                go_wp2_with fail
                go_loopw [203] (fun i wq => ∃ q : Nat, q ≤ n13 ∧ i = .int .i64 q ∧ Below w16.heap.size w16 wq) (fun i _ => n13 - (intOf i).toNat)
                case atStart => exact ⟨0, by omega, rfl, Below.refl _ _⟩
                case round =>
                  obtain ⟨q, hq, rfl, hbl⟩ := hrel
                  obtain ⟨wx, hwx⟩ : ∃ z, z = wr := ⟨_, rfl⟩
                  subst hwx
                  by_cases hq4 : q < n13
                  · have hq5 : (q : Int) < (n13 : Int) := by omega
                    have hq6 : (q : Int) < (n12 : Int) := by have := E12.out; omega
                    have hq7 : q < n12 := by have := E12.out; omega
                    obtain ⟨g, off, rfl, d0, d1, d2, d3⟩ := (k16.on hbl).at4 hq4
                    obtain ⟨g', off', rfl, d4, d5, d6, d7⟩ := (r17.on hbl).at4 hq7
                    have hmg := HMg.out q hq4
                    rw [hmg] at d0 d1 d2 d3
                    generalize tkR K q = x at *
                    obtain ⟨Y, hY⟩ : ∃ V, wx.alloc (.cells #[.int .i64 x.kd, .int .i64 x.tx, .int .u8 x.ky, .int .i64 x.nn] 35) = V := ⟨_, rfl⟩
                    have cY : CB Y wx.heap.size 35 #[.int .i64 x.kd, .int .i64 x.tx, .int .u8 x.ky, .int .i64 x.nn] := by rw [← hY]; exact CB.new _ _ _
                    have bY : Below wx.heap.size wx Y := by rw [← hY]; exact belA _ _
                    have lY := Lib.hid (bel2 hbl bY)
                    have e4 := cell_on bY d4
                    have e5 := cell_on bY d5
                    have e6 := cell_on bY d6
                    have e7 := cell_on bY d7
                    obtain ⟨q0, q1, q2, q3⟩ : Y.cell? ⟨wx.heap.size, 0, none⟩ = some (.int .i64 x.kd) ∧ Y.cell? ⟨wx.heap.size, 1, none⟩ = some (.int .i64 x.tx) ∧ Y.cell? ⟨wx.heap.size, 2, none⟩ = some (.int .u8 x.ky) ∧ Y.cell? ⟨wx.heap.size, 3, none⟩ = some (.int .i64 x.nn) := ⟨cY.cell 0, cY.cell 1, cY.cell 2, cY.cell 3⟩
                    have HY := Lib.hid hY
                    clear hY bY cY d4 d5 d6 d7 hmg
                    go_upto_region 50 with fail
                    rw [HY.out]
                    clear d0 d1 d2 d3
                    go_quiet (fail)
                    go_wp2_with fail
                    go_roundw
                    case rel => exact ⟨q + 1, by omega, by go_num, belowN lY.out _⟩
                    case measure => simp [intOf]; omega
                  · obtain rfl : q = n13 := by omega
                    have hq5 : ¬ (q : Int) < (q : Int) := by omega
                    have hfin := Lib.hid (bel2 HB1.out (bel2B hlw5.out hlw5.out.size hbl))
                    clear hbl
                    go_wp2_with fail
                    go_ret
                    exact ⟨rfl, hfin.out⟩
          · have hfe : ((t : Int) == (n12 : Int)) = false := by simp; omega
            go_wp2_with fail
            go_loopw [173] (fun i wq => ∃ q : Nat, q ≤ 8 ∧ i = .int .u8 q ∧ Below w15.heap.size w15 wq) (fun i _ => 8 - (intOf i).toNat)
            case atStart => exact ⟨0, by omega, rfl, Below.refl _ _⟩
            case round =>
              obtain ⟨q, hq, rfl, hbl⟩ := hrel
              obtain ⟨wy, hwy⟩ : ∃ z, z = wr := ⟨_, rfl⟩
              subst hwy
              by_cases hq2 : q < 8
              · have hq3 : (q : Int) < 8 := by omega
                go_wp2_with fail
                (with_reducible refine (sget_c b' m' G' S' M (q : Int) wy (Ht15.out.on hbl)).mono ?_)
                rintro e x1 ⟨rfl, b1⟩
                have k1 := bel2 hbl b1
                clear b1
                go_wp2_with fail
                (with_reducible refine (sget_c b'' m'' G'' S' M (q : Int) x1 (u15.on k1)).mono ?_)
                rintro e x2 ⟨rfl, b2⟩
                have k2 := bel2 k1 b2
                clear b2 k1
                have k4 := k2
                go_wp2_with fail
                go_roundw
                case rel => exact ⟨q + 1, by omega, by go_num, k4⟩
                case measure => simp [intOf]; omega
              · obtain rfl : q = 8 := by omega
                have hq3 : ¬ ((8 : Nat) : Int) < 8 := by omega
                have hl2 := slog_c b' m' G' S' M wy (Ht15.out.on hbl) (by have := hMl.out; omega)
                have hlw4 := Lib.hid (bel2B hl15.out hl15.out.size hbl)
                have r16 := Hr15.out.on hbl
                clear hbl
                go_wp2_with fail
                (with_reducible refine hl2.mono ?_)
                rintro e w16 ⟨A13, n13, c13, rfl, k13, b13⟩
                have e13 : n13 = t := k13.len.symm.trans hMl.out
                subst e13
                have k16 := k13.rr0
                have r17 := r16.on b13
                have hlw5 := Lib.hid (bel2B hlw4.out hlw4.out.size b13)
                clear hl2 k13 b13 r16
                go_wp2_with fail
                go_loopw [203] (fun i wq => ∃ q : Nat, q ≤ n13 ∧ i = .int .i64 q ∧ Below w16.heap.size w16 wq) (fun i _ => n13 - (intOf i).toNat)
                case atStart => exact ⟨0, by omega, rfl, Below.refl _ _⟩
                case round =>
                  obtain ⟨q, hq, rfl, hbl⟩ := hrel
                  obtain ⟨wx, hwx⟩ : ∃ z, z = wr := ⟨_, rfl⟩
                  subst hwx
                  by_cases hq4 : q < n13
                  · have hq5 : (q : Int) < (n13 : Int) := by omega
                    have hq6 : (q : Int) < (n12 : Int) := by have := E12.out; omega
                    have hq7 : q < n12 := by have := E12.out; omega
                    obtain ⟨g, off, rfl, d0, d1, d2, d3⟩ := (k16.on hbl).at4 hq4
                    obtain ⟨g', off', rfl, d4, d5, d6, d7⟩ := (r17.on hbl).at4 hq7
                    have hmg := HMg.out q hq4
                    rw [hmg] at d0 d1 d2 d3
                    generalize tkR K q = x at *
                    obtain ⟨Y, hY⟩ : ∃ V, wx.alloc (.cells #[.int .i64 x.kd, .int .i64 x.tx, .int .u8 x.ky, .int .i64 x.nn] 35) = V := ⟨_, rfl⟩
                    have cY : CB Y wx.heap.size 35 #[.int .i64 x.kd, .int .i64 x.tx, .int .u8 x.ky, .int .i64 x.nn] := by rw [← hY]; exact CB.new _ _ _
                    have bY : Below wx.heap.size wx Y := by rw [← hY]; exact belA _ _
                    have lY := Lib.hid (bel2 hbl bY)
                    have e4 := cell_on bY d4
                    have e5 := cell_on bY d5
                    have e6 := cell_on bY d6
                    have e7 := cell_on bY d7
                    obtain ⟨q0, q1, q2, q3⟩ : Y.cell? ⟨wx.heap.size, 0, none⟩ = some (.int .i64 x.kd) ∧ Y.cell? ⟨wx.heap.size, 1, none⟩ = some (.int .i64 x.tx) ∧ Y.cell? ⟨wx.heap.size, 2, none⟩ = some (.int .u8 x.ky) ∧ Y.cell? ⟨wx.heap.size, 3, none⟩ = some (.int .i64 x.nn) := ⟨cY.cell 0, cY.cell 1, cY.cell 2, cY.cell 3⟩
                    have HY := Lib.hid hY
                    clear hY bY cY d4 d5 d6 d7 hmg
                    go_upto_region 50 with fail
                    rw [HY.out]
                    clear d0 d1 d2 d3
                    go_quiet (fail)
                    go_wp2_with fail
                    go_roundw
                    case rel => exact ⟨q + 1, by omega, by go_num, belowN lY.out _⟩
                    case measure => simp [intOf]; omega
                  · obtain rfl : q = n13 := by omega
                    have hq5 : ¬ (q : Int) < (q : Int) := by omega
                    have hfin := Lib.hid (bel2 HB1.out (bel2B hlw5.out hlw5.out.size hbl))
                    clear hbl
                    go_wp2_with fail
                    go_ret
                    exact ⟨rfl, hfin.out⟩
end Go.Proofs.Ytealcccjnmfkcaa
