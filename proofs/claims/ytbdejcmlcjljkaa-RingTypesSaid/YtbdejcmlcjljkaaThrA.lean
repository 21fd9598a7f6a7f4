/-
  What the loop of the law RingThrough keeps between its rounds, and what each of its steps does to that. Conditions: as each theorem names them.
-/
import Derived.Test.YtbdejcmlcjljkaaRingD
import Derived.Test.YtbdejcmlcjljkaaMemC
namespace Go.Proofs.Ytbdejcmlcjljkaa
open Go.RowKit

/-- No block is both. -/
def Dj (X Y : Option Nat) : Prop := ∀ g, X = some g → Y ≠ some g

theorem Dj.moved {w : World} {X G G' : Option Nat} (h : Dj X G) (hX : ∀ g, X = some g → g < w.heap.size) (hm : Moved w G G') : Dj X G' := fun g hg => by
  rcases hm with e | ⟨g', e, hg'⟩
  · rw [e]
    exact h g hg
  · rw [e]
    intro e2
    cases e2
    have := hX _ hg
    omega
theorem Dj.symm {X Y : Option Nat} (h : Dj X Y) : Dj Y X := fun g hg e => h g e hg

/-- Between two rounds, k numbers having been seen. -/
structure Th (w : World) (s rb sb b : Nat) (a A : Option Addr) (cap c : Nat) (xs : List Int) (stop : Int) (Gn : Option Nat) (k : Nat) (W : World) : Prop where
  cl : CB W s 27 #[.slice a xs.length cap]
  cs : CB W (s + 1) 5 #[.int .u8 stop]
  cr : CB W (s + 1 + 1) 4 #[.bool false]
  cp : CB W rb 24 #[.pointer (some ⟨b, 0, none⟩)]
  now : Seg W 2 1 A xs.length c (xs.map (.int .i64)) Gn
  low : Below s w W
  rest : ∃ (A2 : Option Addr) (c2 : Nat) (G2 G : Option Nat) (ys : List Int), CB W sb 27 #[.slice A2 k c2] ∧ Seg W 2 1 A2 k c2 ((xs.map (.int .i64)).take k) G2 ∧ RG W b 10000 G ys ∧ ys.length = xs.length ∧
    Dj Gn G ∧ Dj Gn G2 ∧ Dj G2 G ∧ (∀ g, G = some g → s ≤ g) ∧ ∀ g, G2 = some g → s ≤ g

/-- The queue's blocks, apart from all else. -/
theorem RG.ne {w : World} {b : Nat} {room : Int} {G : Option Nat} {ys : List Int} (h : RG w b room G ys) {g : Nat} {t : TypeId} {cs : Array Value} (hc : CB w g t cs) (h1 : t ≠ 2) : some g ≠ G := by
  obtain ⟨A, n, c, q1, q2⟩ := h
  exact fun e => q2.ne_ hc (Ne.symm h1) e.symm
theorem RG.neb {w : World} {b : Nat} {room : Int} {G : Option Nat} {ys : List Int} (h : RG w b room G ys) {g : Nat} {t : TypeId} {cs : Array Value} (hc : CB w g t cs) (h1 : t ≠ 74) : g ≠ b := by
  obtain ⟨A, n, c, q1, q2⟩ := h
  exact hc.ne_ q1 h1
theorem RG.segb {w : World} {b : Nat} {room : Int} {G : Option Nat} {ys : List Int} (h : RG w b room G ys) {A : Option Addr} {n c : Nat} {xs : List Value} {X : Option Nat} (hs : Seg w 2 1 A n c xs X) : X ≠ some b := by
  obtain ⟨A', n', c', q1, q2⟩ := h
  exact hs.ne_ q1 (by decide)
theorem RG.noBook {w : World} {b : Nat} {room : Int} {G : Option Nat} {ys : List Int} (h : RG w b room G ys) {L : Nat} (hl : Book w L) : b ≠ L ∧ G ≠ some L := by
  obtain ⟨A, n, c, q1, q2⟩ := h
  exact ⟨q1.noBook hl, q2.noBook hl⟩
theorem RG.alloc {w : World} {b : Nat} {room : Int} {G : Option Nat} {ys : List Int} (h : RG w b room G ys) (o : Obj) : RG (w.alloc o) b room G ys := h.below ((Below.refl _ _).alloc (Nat.le_refl _) _) h.lt.1 h.lt.2
theorem RG.far {w : World} {b : Nat} {room : Int} {G : Option Nat} {ys : List Int} (h : RG w b room G ys) {p : Addr} (h1 : b ≠ p.block) (h2 : G ≠ some p.block) (u : Value) : RG (w.setCell p u) b room G ys := by
  obtain ⟨A, n, c, q1, q2⟩ := h
  exact ⟨A, n, c, q1.far h1 u, q2.far h2 u⟩
theorem RG.putBook {w : World} {b : Nat} {room : Int} {G : Option Nat} {ys : List Int} (h : RG w b room G ys) {L : Nat} (hl : Book w L) (o : Obj) : RG (w.putObj L o) b room G ys := by
  obtain ⟨A, n, c, q1, q2⟩ := h
  exact ⟨A, n, c, q1.putBook hl o, q2.putBook hl o⟩
theorem RG.grown {w w' : World} {b : Nat} {room : Int} {G X : Option Nat} {ys : List Int} (h : RG w b room G ys) (hg : w.grownBy w' X) (h1 : X ≠ some b) (h2 : Dj G X) : RG w' b room G ys := by
  obtain ⟨A, n, c, q1, q2⟩ := h
  exact ⟨A, n, c, q1.same (hg.block b q1.lt (fun e => h1 e.symm)), q2.keep fun g hg' => hg.block g (q2.lt g hg') (fun e => h2 g hg' e.symm)⟩

theorem Book.keep {B : Nat} {W W' : World} (h1 : Book W B) (h2 : Book W (B + 1)) (hk : Keep2 B W W') : Book W' B ∧ Book W' (B + 1) := by
  constructor
  · rcases h1 with ⟨r, h1⟩ | ⟨d, h1⟩
    · exact .inl ⟨r, hk.1.trans h1⟩
    · exact .inr ⟨d, hk.1.trans h1⟩
  · rcases h2 with ⟨r, h2⟩ | ⟨d, h2⟩
    · exact .inl ⟨r, hk.2.trans h2⟩
    · exact .inr ⟨d, hk.2.trans h2⟩

section
variable {w : World} {s rb sb b : Nat} {a A : Option Addr} {cap c : Nat} {xs : List Int} {stop : Int} {Gn : Option Nat} {k : Nat} {W : World}
theorem Th.putBook (h : Th w s rb sb b a A cap c xs stop Gn k W) {L : Nat} (hl : Book W L) (hs : s ≤ L) (o : Obj) : Th w s rb sb b a A cap c xs stop Gn k (W.putObj L o) := by
  obtain ⟨h1, h2, h3, h4, h5, h6, A2, c2, G2, G, ys, r1, r2, r3, r4⟩ := h
  exact ⟨h1.putBook hl o, h2.putBook hl o, h3.putBook hl o, h4.putBook hl o, h5.putBook hl o, below_putObj h6 hs o, A2, c2, G2, G, ys, r1.putBook hl o, r2.putBook hl o, r3.putBook hl o, r4⟩
theorem Th.alloc (h : Th w s rb sb b a A cap c xs stop Gn k W) (hs : s ≤ W.heap.size) (o : Obj) : Th w s rb sb b a A cap c xs stop Gn k (W.alloc o) := by
  obtain ⟨h1, h2, h3, h4, h5, h6, A2, c2, G2, G, ys, r1, r2, r3, r4⟩ := h
  exact ⟨h1.alloc o, h2.alloc o, h3.alloc o, h4.alloc o, h5.alloc o, h6.alloc hs o, A2, c2, G2, G, ys, r1.alloc o, r2.alloc o, r3.alloc o, r4⟩

/-- The number is put behind those that have been seen. -/
theorem Th.seen (h : Th w s rb sb b a A cap c xs stop Gn k W) (hs : s ≤ W.heap.size) (hsb : s ≤ sb) {x : Int} (hx : (xs.map (Value.int .i64)).take k ++ [.int .i64 x] = (xs.map (Value.int .i64)).take (k + 1))
    {A2 : Option Addr} {c2 : Nat} {G2 G : Option Nat} {ys : List Int} (r1 : CB W sb 27 #[.slice A2 k c2]) (r2 : Seg W 2 1 A2 k c2 ((xs.map (.int .i64)).take k) G2) (r3 : RG W b 10000 G ys) (r4 : ys.length = xs.length)
    (d1 : Dj Gn G) (d2 : Dj Gn G2) (d3 : Dj G2 G) (e1 : ∀ g, G = some g → s ≤ g) (e2 : ∀ g, G2 = some g → s ≤ g)
    {A3 : Option Addr} {c3 : Nat} {G3 : Option Nat} {W1 : World} (n1 : Seg W1 2 1 A3 (k + 1) c3 ((xs.map (.int .i64)).take k ++ [.int .i64 x]) G3) (n2 : (W.alloc (.cells #[.int .i64 x] 2)).grownBy W1 G2) (n3 : Moved (W.alloc (.cells #[.int .i64 x] 2)) G2 G3)
    {B : Nat} (hB : Book W B) (hB1 : Book W (B + 1)) (hsl : sb ≠ s) :
    (∀ (g : Nat) (t : TypeId) (cs : Array Value), CB W g t cs → t ≠ 2 → CB W1 g t cs) ∧ Th w s rb sb b a A cap c xs stop Gn (k + 1) (W1.setCell ⟨sb, 0, none⟩ (.slice A3 (k + 1) c3)) ∧ Keep2 B W (W1.setCell ⟨sb, 0, none⟩ (.slice A3 (k + 1) c3)) := by
  rw [hx] at n1
  obtain ⟨h1, h2, h3, h4, h5, h6, _⟩ := h
  have keep : ∀ {g : Nat} {t : TypeId} {cs : Array Value}, CB W g t cs → t ≠ 2 → CB W1 g t cs := fun {g} {t} {cs} hc ht => (hc.alloc _).same (n2.block g (hc.alloc _).lt (fun e => r2.ne_ hc (Ne.symm ht) e.symm))
  have z1 := keep r1 (by decide)
  have hk : Keep2 B W W1 := ((Keep2.refl B W).alloc hB1.lt _).grown n2 (by have := hB1.lt; simp; omega) (r2.noBook hB) (r2.noBook hB1)
  have hlt3 : ∀ g, G3 = some g → s ≤ g := by
    intro g hg
    rcases n3 with e | ⟨g', e, hg'⟩
    · exact e2 g (by rw [← e]; exact hg)
    · rw [e] at hg
      cases hg
      simp at hg'
      omega
  have hmv : ∀ {X : Option Nat}, Dj X G2 → (∀ g, X = some g → g < W.heap.size) → Dj X G3 := fun hd hX => hd.moved (w := W.alloc (.cells #[.int .i64 x] 2)) (fun g hg => by have := hX g hg; simp; omega) n3
  have q1 : RG W1 b 10000 G ys := (r3.alloc _).grown n2 (r3.segb r2) d3.symm
  have q2 : Seg W1 2 1 A xs.length c (xs.map (.int .i64)) Gn := (h5.alloc _).keep fun g hg => n2.block g ((h5.alloc _).lt g hg) (fun e => d2 g hg e.symm)
  have q6 : Below s w W1 := (h6.alloc hs _).grown n2 (by simp; omega) e2
  refine ⟨fun g t cs hc ht => keep hc ht, ⟨(keep h1 (by decide)).far (by simp; omega) _, (keep h2 (by decide)).far ?_ _, (keep h3 (by decide)).far ?_ _, (keep h4 (by decide)).far ?_ _, q2.far (q2.ne_ z1 (by decide)) _, q6.setCell (p := ⟨sb, 0, none⟩) hsb _,
    A3, c3, G3, G, ys, by simpa using z1.put 0 (.slice A3 (k + 1) c3), n1.far (n1.ne_ z1 (by decide)) _, q1.far (fun e => q1.neb z1 (by decide) e.symm) (fun e => q1.ne z1 (by decide) e.symm) _, r4, d1, hmv d2 h5.lt, (hmv d3.symm r3.lt.2).symm, e1, hlt3⟩,
    hk.put (p := ⟨sb, 0, none⟩) ?_ ?_ _⟩
  · exact (keep h2 (by decide)).ne_ z1 (by decide)
  · exact (keep h3 (by decide)).ne_ z1 (by decide)
  · exact (keep h4 (by decide)).ne_ z1 (by decide)
  · exact r1.noBook hB
  · exact r1.noBook hB1

/-- A step on the queue alone. -/
theorem Th.ring {W' : World} (h1 : CB W s 27 #[.slice a xs.length cap]) (h2 : CB W (s + 1) 5 #[.int .u8 stop]) (h3 : CB W (s + 1 + 1) 4 #[.bool false]) (h4 : CB W rb 24 #[.pointer (some ⟨b, 0, none⟩)])
    (h5 : Seg W 2 1 A xs.length c (xs.map (.int .i64)) Gn) (h6 : Below s w W) (hs : s ≤ W.heap.size) (hsb : s ≤ b)
    {A2 : Option Addr} {c2 : Nat} {G2 G G' : Option Nat} {ys : List Int} (r1 : CB W sb 27 #[.slice A2 k c2]) (r2 : Seg W 2 1 A2 k c2 ((xs.map (.int .i64)).take k) G2) (r3 : RG W b 10000 G ys)
    (d1 : Dj Gn G) (d3 : Dj G2 G) (e1 : ∀ g, G = some g → s ≤ g)
    (k2 : Only W W' b G) (k3 : Moved W G G') {B : Nat} (hB : Book W B) (hB1 : Book W (B + 1)) :
    CB W' s 27 #[.slice a xs.length cap] ∧ CB W' (s + 1) 5 #[.int .u8 stop] ∧ CB W' (s + 1 + 1) 4 #[.bool false] ∧ CB W' rb 24 #[.pointer (some ⟨b, 0, none⟩)] ∧
    Seg W' 2 1 A xs.length c (xs.map (.int .i64)) Gn ∧ Below s w W' ∧ CB W' sb 27 #[.slice A2 k c2] ∧ Seg W' 2 1 A2 k c2 ((xs.map (.int .i64)).take k) G2 ∧ Dj Gn G' ∧ Dj G2 G' ∧ (∀ g, G' = some g → s ≤ g) ∧ Keep2 B W W' := by
  have keep : ∀ {g : Nat} {t : TypeId} {cs : Array Value}, CB W g t cs → t ≠ 2 → t ≠ 74 → CB W' g t cs := fun hc ht ht2 => k2.cb hc (r3.neb hc ht2) (r3.ne hc ht)
  have seg : ∀ {X : Option Addr} {n c : Nat} {us : List Value} {Y : Option Nat}, Seg W 2 1 X n c us Y → Dj Y G → Seg W' 2 1 X n c us Y := fun hs hd =>
    hs.keep fun g hg => k2.block g (hs.lt g hg) (fun e => r3.segb hs (by rw [hg, e])) (fun e => hd g hg e.symm)
  obtain ⟨nb1, nb2⟩ := r3.noBook hB
  obtain ⟨nb3, nb4⟩ := r3.noBook hB1
  refine ⟨keep h1 (by decide) (by decide), keep h2 (by decide) (by decide), keep h3 (by decide) (by decide), keep h4 (by decide) (by decide), seg h5 d1, h6.trans (k2.below hs hsb e1), keep r1 (by decide) (by decide), seg r2 d3,
    d1.moved h5.lt k3, d3.moved r2.lt k3, ?_, (Keep2.refl B W).only k2 hB1.lt nb2 nb4 nb1 nb3⟩
  intro g hg
  rcases k3 with e | ⟨g', e, hg'⟩
  · exact e1 g (by rw [← e]; exact hg)
  · rw [e] at hg
    cases hg
    omega
end
end Go.Proofs.Ytbdejcmlcjljkaa
