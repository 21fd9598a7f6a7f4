/-
  Where the loop of the law DiskRows stands. No condition but those that each theorem names.
-/
import Derived.Test.YtdelllkgllfcdaaDiskP
namespace Go.Proofs.Ytdelllkgllfcdaa
open Go.RowKit

theorem LC.far3 {W : World} {B : Nat} {cells : List Value} {ls : List (List UInt8)} (h : LC W B cells ls) {d : Nat} {T : TypeId} {A' : Option Addr} {n' c' : Nat} {s' r' : Int} (hd : Box W d T A' n' c' s' r') (x0 x1 x2 : Value) : LC (set3 W d x0 x1 x2) B cells ls :=
  ⟨h.1, fun i l hl => by obtain ⟨A, n, c, h1, h2⟩ := h.2 i l hl; exact ⟨A, n, c, h1, h2.far3 hd x0 x1 x2⟩⟩
theorem Seg.far3 {W : World} {e : TypeId} {size : Nat} {A : Option Addr} {n c : Nat} {xs : List Value} {G : Option Nat} (h : Seg W e size A n c xs G) {d : Nat} {T : TypeId} {A' : Option Addr} {n' c' : Nat} {s' r' : Int} (hd : Box W d T A' n' c' s' r') (hne : e ≠ T) (x0 x1 x2 : Value) : Seg (set3 W d x0 x1 x2) e size A n c xs G := by
  have h1 := h.ne_ hd hne
  exact ((h.far (p := ⟨d, 0, none⟩) h1 x0).far (p := ⟨d, 1, none⟩) h1 x1).far (p := ⟨d, 2, none⟩) h1 x2
theorem sl_ne_disk : 22 ≠ 28 := by decide
theorem sl_ne_rdisk : 22 ≠ 24 := by decide

/-- Bytes stay where only block G, and new ones, change, if they lie elsewhere. -/
theorem BR.apart {W W' : World} {A : Option Addr} {n c : Nat} {bs : List UInt8} (h : BR W W.heap.size A n c bs) {G : Option Nat} (hg : W.grownBy W' G) (hap : ∀ g ad, G = some g → A = some ad → 0 < n → ad.block ≠ g) : BR W' W'.heap.size A n c bs := by
  refine ⟨h.1, h.2.1, h.2.2.1, fun hn => ?_⟩
  obtain ⟨g, off, e1, e2, e3⟩ := h.2.2.2 hn
  refine ⟨g, off, e1, Nat.lt_of_lt_of_le e2 hg.size, fun j b hb => ?_⟩
  rw [← e3 j b hb]
  exact World.cell?_of_block (a := ⟨g, off + j, none⟩) (hg.block g e2 fun eG => hap g _ eG.symm e1 hn rfl)

/-- Where the loop of DiskRows stands: the disk x has the frames of ls, had is the records hs. -/
structure RI (w : World) (x : Nat) (A : Option Addr) (n c : Nat) (s r : Int) (s3 : Int) (r' i : Nat) (ls hs : List (List UInt8)) (A' : Option Addr) (n' c' : Nat) (A7 : Option Addr) (m7 c7 : Nat) (G : Option Nat) (wr : World) : Prop where
  bd : Box wr w.heap.size 24 A n c s r
  bx : Box wr x 28 A' n' c' s3 r'
  br : BR wr wr.heap.size A' n' c' (frs ls)
  ex : ∃ cells B, Seg wr 22 1 A7 m7 c7 cells G ∧ LC wr B cells hs ∧ (∀ g, G = some g → B ≤ g) ∧ w.heap.size ≤ B ∧ B ≤ wr.heap.size
  ap : ∀ g ad, G = some g → A' = some ad → 0 < n' → ad.block ≠ g
  few : ∀ l ∈ ls, l.length ≤ 4000
  bl : Below w.heap.size w wr
  xw : w.heap.size < x
  nb : n' ≤ 9000 + 4007 * i
  nr : n' ≤ r'
  mb : m7 ≤ 9000 + i
section
variable {w : World} {x : Nat} {A : Option Addr} {n c : Nat} {s r : Int} {s3 : Int} {r' i : Nat} {ls hs : List (List UInt8)} {A' : Option Addr} {n' c' : Nat} {A7 : Option Addr} {m7 c7 : Nat} {G : Option Nat} {wr : World}
theorem RI.on (h : RI w x A n c s r s3 r' i ls hs A' n' c' A7 m7 c7 G wr) {w' : World} (hb : Below wr.heap.size wr w') : RI w x A n c s r s3 r' i ls hs A' n' c' A7 m7 c7 G w' := by
  obtain ⟨cells, B, h1, h2, h3, h4, h5⟩ := h.ex
  exact ⟨h.bd.on hb h.bd.lt, h.bx.on hb h.bx.lt, h.br.on hb, ⟨cells, B, h1.below hb (Nat.le_refl _), h2.keep (fun g hg => hb.block g (by omega)), h3, h4, Nat.le_trans h5 hb.size⟩, h.ap, h.few, h.bl.trans (hb.mono h.bl.size), h.xw, h.nb, h.nr, h.mb⟩
theorem RI.up (h : RI w x A n c s r s3 r' i ls hs A' n' c' A7 m7 c7 G wr) : RI w x A n c s r s3 r' (i + 1) ls hs A' n' c' A7 m7 c7 G wr :=
  ⟨h.bd, h.bx, h.br, h.ex, h.ap, h.few, h.bl, h.xw, by have := h.nb; omega, h.nr, by have := h.mb; omega⟩
theorem RI.app (h : RI w x A n c s r s3 r' i ls hs A' n' c' A7 m7 c7 G wr) {cells : List Value} {B : Nat} (h1 : Seg wr 22 1 A7 m7 c7 cells G) (h2 : LC wr B cells hs) (h3 : ∀ g, G = some g → B ≤ g) (h4 : w.heap.size ≤ B) (h5 : B ≤ wr.heap.size)
    {Ai : Option Addr} {ni ci : Nat} {l : List UInt8} (hl : BR wr w.heap.size Ai ni ci l) {o : Obj} {w4 : World} {A8 : Option Addr} {c8 : Nat} {G8 : Option Nat} (hs4 : Seg w4 22 1 A8 (m7 + 1) c8 (cells ++ [.slice Ai ni ci]) G8) (hg : (wr.alloc o).grownBy w4 G) (hm : Moved (wr.alloc o) G G8) :
    RI w x A n c s r s3 r' (i + 1) ls (hs ++ [l]) A' n' c' A8 (m7 + 1) c8 G8 w4 := by
  have hgr : wr.grownBy w4 G := ⟨hg.os, hg.tape, hg.output, Nat.le_trans (by simp) hg.size, fun k hk hne => (hg.block k (by simp; omega) hne).trans (Below.heap_alloc wr o k hk)⟩
  have hne1 := h1.ne_ h.bx sl_ne_disk
  have hne2 := h1.ne_ h.bd sl_ne_rdisk
  have hkB : ∀ g, g < B → w4.heap[g]? = wr.heap[g]? := fun g hgB => hgr.block g (by omega) (fun e => by have := h3 g e.symm; omega)
  have hBs : B ≤ w4.heap.size := Nat.le_trans h5 hgr.size
  have hbr : BR w4 w4.heap.size A' n' c' (frs ls) := by
    have h0 := h.br
    refine ⟨h0.1, h0.2.1, h0.2.2.1, fun hn => ?_⟩
    obtain ⟨g, off, e1, e2, e3⟩ := h0.2.2.2 hn
    refine ⟨g, off, e1, Nat.lt_of_lt_of_le e2 hgr.size, fun j b hb => ?_⟩
    rw [← e3 j b hb]
    exact World.cell?_of_block (a := ⟨g, off + j, none⟩) (hgr.block g e2 fun eG => h.ap g _ eG.symm e1 hn rfl)
  refine ⟨CB.grown h.bd hgr (Ne.symm hne2), CB.grown h.bx hgr (Ne.symm hne1), hbr, ⟨_, B, hs4, (h2.keep hkB).snoc ((hl.keep fun g hg' => hkB g (by omega)).more h4), hm.ge (by simp; omega) h3, h4, hBs⟩, fun g ad eG eA hn => ?_, h.few, h.bl.trans (grown_below hgr h.bl.size (fun g e => Nat.le_trans h4 (h3 g e))), h.xw, by have := h.nb; omega, h.nr, by have := h.mb; omega⟩
  rcases hm with hm | ⟨g8, hm, hg8⟩
  · rw [hm] at eG
    exact h.ap g ad eG eA hn
  · rw [hm] at eG
    cases eG
    obtain ⟨g', off, e1, e2, _⟩ := h.br.2.2.2 hn
    rw [e1] at eA
    cases eA
    simp at hg8
    show g' ≠ g
    omega
theorem RI.put (h : RI w x A n c s r s3 r' i ls hs A' n' c' A7 m7 c7 G wr) {A2 : Option Addr} {n2 c2 : Nat} {ls2 : List (List UInt8)} (hx : BR wr wr.heap.size A2 n2 c2 (frs ls2)) (hap : ∀ g ad, G = some g → A2 = some ad → 0 < n2 → ad.block ≠ g) (hf : ∀ l ∈ ls2, l.length ≤ 4000) (hnb : n2 ≤ 9000 + 4007 * i) (hnr : n2 ≤ r') :
    ∃ w5, ((wr.setCell ⟨x, 0, none⟩ (.slice A2 n2 c2)).setCell ⟨x, 1, none⟩ (.int .i64 s3)).setCell ⟨x, 2, none⟩ (.int .i64 r') = w5 ∧ RI w x A n c s r s3 r' i ls2 hs A2 n2 c2 A7 m7 c7 G w5 := by
  obtain ⟨cells, B, h1, h2, h3, h4, h5⟩ := h.ex
  have hxw := h.xw
  have hsz : (((wr.setCell ⟨x, 0, none⟩ (.slice A2 n2 c2)).setCell ⟨x, 1, none⟩ (.int .i64 s3)).setCell ⟨x, 2, none⟩ (.int .i64 r')).heap.size = wr.heap.size := set3_size wr x _ _ _
  refine ⟨_, rfl, h.bd.far3 (by omega) _ _ _, h.bx.put3 _ _ _ _ _, by rw [hsz]; exact hx.far3 h.bx _ _ _, ⟨cells, B, h1.far3 h.bx sl_ne_disk _ _ _, h2.far3 h.bx _ _ _, h3, h4, by rw [hsz]; exact h5⟩, hap, hf, below_set3 h.bl (by omega) _ _ _, h.xw, hnb, hnr, h.mb⟩
end
end Go.Proofs.Ytdelllkgllfcdaa
