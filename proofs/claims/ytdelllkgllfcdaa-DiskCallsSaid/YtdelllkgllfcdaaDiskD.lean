/-
  Append of package disk. Conditions: the bytes can be read, there are a million of them at most.
-/
import Derived.Test.YtdelllkgllfcdaaDiskC
import Derived.Test.YtdelllkgllfcdaaDiskM
namespace Go.Proofs.Ytdelllkgllfcdaa
open Go.RowKit

/-- A call gave a disk with bytes of its own, and an error, back. -/
def TPost (w : World) (s r : Int) (bs : List UInt8) (k : Nat) (e : Ending) (w' : World) : Prop :=
  ∃ A n c, e = .returned (.tuple #[.agg #[.slice A n c, .int .i64 s, .int .i64 r], .int .i64 (k : Int)]) ∧ BR w' w'.heap.size A n c bs ∧ Below w.heap.size w w'

/-- The same, in a new block. -/
def TPostF (w : World) (s r : Int) (bs : List UInt8) (k : Nat) (e : Ending) (w' : World) : Prop :=
  ∃ A n c, e = .returned (.tuple #[.agg #[.slice A n c, .int .i64 s, .int .i64 r], .int .i64 (k : Int)]) ∧ BR w' w'.heap.size A n c bs ∧ Below w.heap.size w w' ∧ Fresh w A
theorem TPostF.toT {w : World} {s r : Int} {bs : List UInt8} {k : Nat} {e : Ending} {w' : World} (h : TPostF w s r bs k e w') : TPost w s r bs k e w' := by
  obtain ⟨A, n, c, h1, h2, h3, _⟩ := h
  exact ⟨A, n, c, h1, h2, h3⟩

/-- Two slices of bytes in a row that the walk has just made. -/
theorem lr_two {W : World} {A A' : Option Addr} {n c n' c' : Nat} {bs fs : List UInt8} (h1 : BR W W.heap.size A n c bs) (h2 : BR W W.heap.size A' n' c' fs) (T : TypeId) : LR (W.alloc (.cells #[.slice A n c, .slice A' n' c'] T)) (W.alloc (.cells #[.slice A n c, .slice A' n' c'] T)).heap.size (some ⟨W.heap.size, 0, none⟩) 2 2 [bs, fs] := by
  have hbl : Below W.heap.size W (W.alloc (.cells #[.slice A n c, .slice A' n' c'] T)) := (Below.refl _ _).alloc (Nat.le_refl _) _
  have hcb := CB.new W T #[.slice A n c, .slice A' n' c']
  refine ⟨rfl, Nat.le_refl _, by simp [maxLen], fun i l hl => ?_⟩
  match i, hl with
  | 0, hl =>
    simp at hl
    subst hl
    exact ⟨W.heap.size, 0, A, n, c, rfl, hcb.lt, by rw [hcb.cell]; rfl, h1.on hbl⟩
  | 1, hl =>
    simp at hl
    subst hl
    exact ⟨W.heap.size, 0, A', n', c', rfl, hcb.lt, by rw [hcb.cell]; rfl, h2.on hbl⟩
/-- One slice of bytes in a row that the walk has just made. -/
theorem lr_one {W : World} {A : Option Addr} {n c : Nat} {bs : List UInt8} (h1 : BR W W.heap.size A n c bs) (T : TypeId) : LR (W.alloc (.cells #[.slice A n c] T)) (W.alloc (.cells #[.slice A n c] T)).heap.size (some ⟨W.heap.size, 0, none⟩) 1 1 [bs] := by
  have hbl : Below W.heap.size W (W.alloc (.cells #[.slice A n c] T)) := (Below.refl _ _).alloc (Nat.le_refl _) _
  have hcb := CB.new W T #[.slice A n c]
  refine ⟨rfl, Nat.le_refl _, by simp [maxLen], fun i l hl => ?_⟩
  match i, hl with
  | 0, hl =>
    simp at hl
    subst hl
    exact ⟨W.heap.size, 0, A, n, c, rfl, hcb.lt, by rw [hcb.cell]; rfl, h1.on hbl⟩

set_option maxRecDepth 100000 in
set_option maxHeartbeats 2000000 in
theorem append_f (A : Option Addr) (n c r : Nat) (s : Int) (bs : List UInt8) (Ar : Option Addr) (nr cr : Nat) (rs : List UInt8) (w : World) (hb : BR w w.heap.size A n c bs) (hr : BR w w.heap.size Ar nr cr rs) (hn : n ≤ 1000000) (hrm : r ≤ 2000000) :
    Calls Try.prog 11 #[.agg #[.slice A n c, .int .i64 s, .int .i64 r], .slice Ar nr cr] w (TPostF w s r (bA r bs rs) (eA n r rs)) := by
  obtain ⟨W, hW, ha, hbox, hbl, hS⟩ := two_boxes w 28 28 A n c s r
  have hrW := hr.on hbl
  have hnl := hb.1
  have hrl := hr.1
  have hrx := hr.max
  go_enter Try.func11, Try.ntmps11
  go_wp2_with fail
  rw [← hW]
  clear hW
  refine (frame_c Ar nr cr rs W hrW).mono ?_
  rintro e w1 ⟨A1, n1, c1, G1, rfl, hs1, hb1, _⟩
  have hf1 := BR.of_seg hs1
  have ha1 := ha.on hb1 ha.lt
  have hbox1 := hbox.on hb1 hbox.lt
  have hbl1 := hbl.trans (hb1.mono hbl.size)
  have hb1' := hb.on hbl1
  clear hs1 hrW ha hbox hbl hb1
  obtain ⟨d0, d1, d2⟩ := ha1.cells
  by_cases hbig : 4000 < rs.length
  · obtain ⟨e1, e2⟩ := eF_big hbig
    have HE := Lib.hid (eA_big (n := n) (r := r) hbig)
    have HB := Lib.hid (bA_bad (r := r) (bs := bs) (rec := rs) (by rw [eA_big hbig]; omega))
    rw [e1]
    clear e1 e2 hbig hf1
    go_wp2_with fail
    refine (clone_f A n c s r bs w1 hb1' hn).mono ?_
    rintro e w2 ⟨A2, c2, rfl, hx2, hb2, hf2⟩
    have y2 := hbox1.on hb2 hbox1.lt
    obtain ⟨z0, z1, z2⟩ := y2.cells
    obtain ⟨f0, f1, f2⟩ := y2.froz
    obtain ⟨w3, hw3, ⟨v0, v1, v2⟩, hx3, hb3⟩ := dpost_end y2 (hbl1.trans (hb2.mono hbl1.size)) (by omega) hx2 s r
    have Hw3 := Lib.hid hw3
    clear hw3 hb2 hx2 y2 d0 d1 d2 hnl hrl
    go_wp2_with fail
    rw [Hw3.out]
    exact bodyPost_ret (v := .tuple #[.agg #[.slice A2 n c2, .int .i64 s, .int .i64 r], .int .i64 3]) (by simp [results, Try.results11, go_sem, v0, v1, v2]) rfl ⟨A2, n, c2, by rw [HE.out]; rfl, by rw [HB.out]; exact hx3, hb3, hf2.mono hbl1.size⟩
  obtain ⟨e1, e2⟩ := eF_ok hbig
  rw [e2] at hf1
  obtain rfl : n1 = nr + 7 := by have h5 := hf1.1; rw [frameB_length] at h5; omega
  rw [e1]
  by_cases hfull : r < n + (nr + 7)
  · have HE := Lib.hid (eA_full (n := n) (r := r) hbig (by rw [hrl]; exact hfull))
    have HB := Lib.hid (bA_bad (r := r) (bs := bs) (rec := rs) (by rw [hnl, HE.out]; omega))
    have hfi : (r : Int) < (n : Int) + ((nr : Int) + 7) := by omega
    have hbg : nr ≤ 4000 := by omega
    clear e1 e2 hbig hf1
    go_wp2_with fail
    refine (clone_f A n c s r bs w1 hb1' hn).mono ?_
    rintro e w2 ⟨A2, c2, rfl, hx2, hb2, hf2⟩
    have y2 := hbox1.on hb2 hbox1.lt
    obtain ⟨z0, z1, z2⟩ := y2.cells
    obtain ⟨f0, f1, f2⟩ := y2.froz
    obtain ⟨w3, hw3, ⟨v0, v1, v2⟩, hx3, hb3⟩ := dpost_end y2 (hbl1.trans (hb2.mono hbl1.size)) (by omega) hx2 s r
    have Hw3 := Lib.hid hw3
    clear hw3 hb2 hx2 y2 d0 d1 d2 hnl hrl
    go_wp2_with fail
    rw [Hw3.out]
    exact bodyPost_ret (v := .tuple #[.agg #[.slice A2 n c2, .int .i64 s, .int .i64 r], .int .i64 6]) (by simp [results, Try.results11, go_sem, v0, v1, v2]) rfl ⟨A2, n, c2, by rw [HE.out]; rfl, by rw [HB.out]; exact hx3, hb3, hf2.mono hbl1.size⟩
  · have HE := Lib.hid (eA_ok (n := n) (r := r) hbig (by rw [hrl]; exact hfull))
    have HB := Lib.hid (bA_ok (r := r) (bs := bs) (rec := rs) (by rw [hnl, HE.out]))
    have hfi : ¬ (r : Int) < (n : Int) + ((nr : Int) + 7) := by omega
    have hbg : nr ≤ 4000 := by omega
    have Hlen := Lib.hid (show [bs, frameB rs].flatten.length = n + (nr + 7) by simp [frameB_length, hnl, hrl])
    have HFl := Lib.hid (show [bs, frameB rs].flatten = bs ++ frameB rs by simp)
    clear e1 e2 hbig hnl hrl
    generalize frameB rs = fs at *
    have hL := (lr_two hb1' hf1 22).drewS
    have haL := (ha1.alloc (.cells #[.slice A n c, .slice A1 (nr + 7) c1] 22)).drew
    have hbL := (hbox1.alloc (.cells #[.slice A n c, .slice A1 (nr + 7) c1] 22)).drew
    have hblL : Below w.heap.size w (w1.alloc (.cells #[.slice A n c, .slice A1 (nr + 7) c1] 22)).drew := (hbl1.alloc hbl1.size _).drew
    go_wp2_with fail
    go_region_held3 (fun W' => W'.cell? ⟨w.heap.size, 0, none⟩ = some (.slice A n c) ∧ W'.cell? ⟨w.heap.size, 1, none⟩ = some (.int .i64 s) ∧ W'.cell? ⟨w.heap.size, 2, none⟩ = some (.int .i64 r)) (first | exact ha1.cells | exact haL.cells | exact y1.cells | exact (y1.far3 (by omega) _ _ _).cells) (first
      | (go_at_call 28; (with_reducible refine (concat_f _ 2 2 [bs, fs] _ hL (n + (nr + 7)) Hlen.out (by omega) (by omega)).mono ?_); rw [HFl.out]; rintro e w2 ⟨A2, c2, rfl, hx2, hb2, hf2⟩; have y1 := haL.on hb2 haL.lt; have y2 := hbL.on hb2 hbL.lt; obtain ⟨z0, z1, z2⟩ := y2.cells; obtain ⟨f0, f1, f2⟩ := y2.froz))
    obtain ⟨w3, hw3, ⟨v0, v1, v2⟩, hx3, hb3⟩ := dpost_end y2 (hblL.trans (hb2.mono hblL.size)) (by omega) hx2 s r
    rw [hw3]
    clear hw3
    go_wp2_with fail
    exact bodyPost_ret (v := .tuple #[.agg #[.slice A2 (n + (nr + 7)) c2, .int .i64 s, .int .i64 r], .int .i64 0]) (by simp [results, Try.results11, go_sem, v0, v1, v2]) rfl ⟨A2, _, c2, by rw [HE.out]; rfl, by rw [HB.out]; exact hx3, hb3, hf2.mono hblL.size⟩
theorem append_d (A : Option Addr) (n c r : Nat) (s : Int) (bs : List UInt8) (Ar : Option Addr) (nr cr : Nat) (rs : List UInt8) (w : World) (hb : BR w w.heap.size A n c bs) (hr : BR w w.heap.size Ar nr cr rs) (hn : n ≤ 1000000) (hrm : r ≤ 2000000) :
    Calls Try.prog 11 #[.agg #[.slice A n c, .int .i64 s, .int .i64 r], .slice Ar nr cr] w (TPost w s r (bA r bs rs) (eA n r rs)) := (append_f A n c r s bs Ar nr cr rs w hb hr hn hrm).mono fun _ _ h => h.toT
end Go.Proofs.Ytdelllkgllfcdaa
