/-
  The law's own words for cells: alive answers true. A slice of acts, as the walks want it. No condition.
-/
import Derived.Test.YtopgnjnnijhpkaaCellE1
namespace Go.Proofs.Ytopgnjnnijhpkaa
open Go.RowKit Go.Maps UI

/-- An act: its kind, its key, its value. -/
structure ActV where
  kind : Int
  k : Int
  v : Int

def ActV.ok (a : ActV) : Prop := (Lit.int .u8 a.kind).wf = true ∧ (Lit.int .u8 a.k).wf = true ∧ (Lit.int .i64 a.v).wf = true

/-- A slice of acts that came in: each element's three cells. -/
def CameA (w : World) (a : Option Addr) (acts : List ActV) : Prop :=
  ∀ (j : Nat) (v : ActV), acts[j]? = some v → v.ok ∧ ∃ b off, a = some ⟨b, off, none⟩ ∧ b < w.heap.size ∧
    w.cell? ⟨b, off + j * 3, none⟩ = some (.int .u8 v.kind) ∧ w.cell? ⟨b, off + j * 3 + 1, none⟩ = some (.int .u8 v.k) ∧ w.cell? ⟨b, off + j * 3 + 2, none⟩ = some (.int .i64 v.v)

theorem CameA.at_ {w wr : World} {a : Option Addr} {acts : List ActV} (h : CameA w a acts) (hb : Below w.heap.size w wr) {j : Nat} {v : ActV} (hj : acts[j]? = some v) :
    v.ok ∧ ∃ b off, a = some ⟨b, off, none⟩ ∧ wr.cell? ⟨b, off + j * 3, none⟩ = some (.int .u8 v.kind) ∧ wr.cell? ⟨b, off + j * 3 + 1, none⟩ = some (.int .u8 v.k) ∧ wr.cell? ⟨b, off + j * 3 + 2, none⟩ = some (.int .i64 v.v) := by
  obtain ⟨h0, b, off, h1, h2, h3, h4, h5⟩ := h j v hj
  exact ⟨h0, b, off, h1, (hb.cell (p := ⟨b, _, none⟩) h2).trans h3, (hb.cell (p := ⟨b, _, none⟩) h2).trans h4, (hb.cell (p := ⟨b, _, none⟩) h2).trans h5⟩

/-- The error that Get answers. -/
def gE (L : List (Int × Int)) (k : Int) : Int := match getL L k with
  | some _ => 0
  | none => 7

theorem get_any (B c : Nat) (room : Int) (L S : List (Int × Int)) (w : World) (h : CE B w c room L S) (k : Int) (hk : (Lit.int .u8 k).wf = true) :
    Calls Try.prog 11 #[.pointer (some ⟨c, 0, none⟩), .int .u8 k] w fun e w' => e = .returned (.tuple #[.int .i64 ((getL L k).getD 0), .int .i64 (gE L k)]) ∧ w = w' := by
  cases hg : getL L k with
  | none => simpa [gE, hg] using get_no B c room L S w h k hk hg
  | some v => simpa [gE, hg] using get_yes B c room L S w h k v hk hg

theorem drop_any (B c : Nat) (room : Int) (L S : List (Int × Int)) (w : World) (h : CE B w c room L S) (k : Int) (hk : (Lit.int .u8 k).wf = true) :
    Calls Try.prog 14 #[.pointer (some ⟨c, 0, none⟩), .int .u8 k] w fun e w' => e = .returned (.int .i64 (gE L k)) ∧ CE B w' c room (delL L k) S ∧ CF B w w' c := by
  cases hg : getL L k with
  | none =>
    refine (drop_no B c room L S w h k hk hg).mono ?_
    rintro e w' ⟨rfl, rfl⟩
    rw [delL_none hg]
    exact ⟨by simp [gE, hg], h, CF.refl _ _ _⟩
  | some v =>
    have := drop_yes B c room L S w h k v hk hg
    simpa [gE, hg] using this

set_option maxRecDepth 100000 in
set_option maxHeartbeats 1000000 in
theorem alive_c (w : World) : Calls Try.prog 9 #[] w fun e w' => e = .returned (.bool true) ∧ Below w.heap.size w w' := by
  go_enter Try.func9, Try.ntmps9
  go_wp2_with fail
  refine (new_ok 2 _ (by omega) (by omega)).mono ?_
  rintro e w1 ⟨c, rfl, h1, b1⟩
  go_wp2_with fail
  refine (set_ok _ c 2 _ _ _ h1 3 5 (by decide) (by decide) (.inr (by decide))).mono ?_
  rintro e w2 ⟨rfl, h2, f2⟩
  have e2 : putL ([] : List (Int × Int)) 3 5 = [(3, 5)] := by decide
  rw [e2] at h2
  clear e2 h1
  have b2 := b1.trans f2.low
  clear b1 f2
  go_wp2_with fail
  refine (sync_c _ c 2 _ _ _ h2).mono ?_
  rintro e w3 ⟨rfl, h3, f3⟩
  have b3 := b2.trans f3.low
  clear h2 b2 f3
  go_wp2_with fail
  refine (set_ok _ c 2 _ _ _ h3 3 6 (by decide) (by decide) (.inl (by decide))).mono ?_
  rintro e w4 ⟨rfl, h4, f4⟩
  have e4 : putL ([(3, 5)] : List (Int × Int)) 3 6 = [(3, 6)] := by decide
  rw [e4] at h4
  have b4 := b3.trans f4.low
  clear e4 h3 b3 f4
  go_wp2_with fail
  refine (set_ok _ c 2 _ _ _ h4 1 1 (by decide) (by decide) (.inr (by decide))).mono ?_
  rintro e w5 ⟨rfl, h5, f5⟩
  have e5 : putL ([(3, 6)] : List (Int × Int)) 1 1 = [(1, 1), (3, 6)] := by decide
  rw [e5] at h5
  have b5 := b4.trans f5.low
  clear e5 h4 b4 f5
  go_wp2_with fail
  refine (set_full _ c 2 _ _ _ h5 2 2 (by decide) (by decide) (by decide)).mono ?_
  rintro e w6 ⟨rfl, n6, hw6⟩
  have h6 : CE w.heap.size w6 c 2 [(1, 1), (3, 6)] [(3, 5)] := by rw [hw6]; exact h5.drewN _
  have b6 : Below w.heap.size w w6 := by rw [hw6]; exact ⟨b5.os, b5.tape, b5.output, b5.size, b5.block⟩
  clear hw6 h5 b5
  go_wp2_with fail
  refine (crash_c _ c 2 _ _ _ h6).mono ?_
  rintro e w7 ⟨rfl, h7, f7⟩
  have b7 := b6.trans f7.low
  clear h6 b6 f7
  go_wp2_with fail
  refine (get_yes _ c 2 _ _ _ h7 3 5 (by decide) (by decide)).mono ?_
  rintro e w8 ⟨rfl, rfl⟩
  go_wp2_with fail
  refine (len_c _ c 2 _ _ _ h7).mono ?_
  rintro e w9 ⟨rfl, rfl⟩
  go_wp2
  go_ret
  exact ⟨rfl, b7⟩
end Go.Proofs.Ytopgnjnnijhpkaa
