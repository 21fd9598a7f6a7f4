/-
  Layer 16 in memory: packets, who says, who hears, two that talk, as cells; slices of packets and of texts. No condition.
-/
import Derived.Test.YtemhfaodgofcpaaRows
import Derived.Test.YtemhfaodgofcpaaStp
import Derived.Test.YtemhfaodgofcpaaPaM
set_option linter.unusedVariables false
set_option linter.unusedSimpArgs false
set_option linter.unusedSectionVars false
namespace Go.Proofs.Ytemhfaodgofcpaa
open Go.RowKit

/-- A packet, who says, who hears, two that talk, a step, as cells. -/
def pA (p : Pk) : Array Value := #[.int .i64 p.seq, .string p.tx]
structure Ow where
  nx : Int
  a : Option Addr
  n : Nat
  c : Nat
  rm : Int
def oA (o : Ow) : Array Value := #[.int .i64 o.nx, .slice o.a o.n o.c, .int .i64 o.rm]
def hA (h : Int) : Array Value := #[.int .i64 h]
structure Ks where
  o : Ow
  h : Int
  a1 : Option Addr
  n1 : Nat
  c1 : Nat
  a2 : Option Addr
  n2 : Nat
  c2 : Nat
  a3 : Option Addr
  n3 : Nat
  c3 : Nat
def kA (k : Ks) : Array Value := #[.int .i64 k.o.nx, .slice k.o.a k.o.n k.o.c, .int .i64 k.o.rm, .int .i64 k.h, .slice k.a1 k.n1 k.c1, .slice k.a2 k.n2 k.c2, .slice k.a3 k.n3 k.c3]
structure Sp where
  kd : Nat
  tx : ByteArray
  at_ : Nat
def sA (s : Sp) : Array Value := #[.int .u8 (s.kd : Int), .string s.tx, .int .u16 (s.at_ : Int)]
def zeroP : Pk := ⟨0, ByteArray.empty⟩
def zeroO : Ow := ⟨0, none, 0, 0, 0⟩
theorem pA_one (p : Pk) : (pA p).all (·.oneCell') = true := by simp [pA, Value.oneCell']
theorem oA_one (o : Ow) : (oA o).all (·.oneCell') = true := by simp [oA, Value.oneCell']
theorem hA_one (h : Int) : (hA h).all (·.oneCell') = true := by simp [hA, Value.oneCell']
theorem kA_one (k : Ks) : (kA k).all (·.oneCell') = true := by simp [kA, Value.oneCell']
theorem sA_one (s : Sp) : (sA s).all (·.oneCell') = true := by simp [sA, Value.oneCell']
theorem pA_size (p : Pk) : (pA p).size = 2 := rfl
theorem oA_size (o : Ow) : (oA o).size = 3 := rfl
theorem hA_size (h : Int) : (hA h).size = 1 := rfl
theorem kA_size (k : Ks) : (kA k).size = 7 := rfl
theorem sA_size (s : Sp) : (sA s).size = 3 := rfl
theorem Try.zPk : (Try.prog.info? 30).map (·.size) = some 2 := by kernel_rfl
theorem Try.zOu : (Try.prog.info? 39).map (·.size) = some 3 := by kernel_rfl
theorem Try.zIn : (Try.prog.info? 26).map (·.size) = some 1 := by kernel_rfl
theorem Try.zTk : (Try.prog.info? 42).map (·.size) = some 7 := by kernel_rfl
theorem Try.zSp : (Try.prog.info? 45).map (·.size) = some 3 := by kernel_rfl
theorem Try.zPr : (Try.prog.info? 23).map (·.size) = some 2 := by kernel_rfl
theorem Try.zIr : (Try.prog.info? 31).map (·.size) = some 1 := by kernel_rfl
theorem one_i : (Try.prog.info? 3).map (·.size) = some 1 := by kernel_rfl
theorem one_pp : (Try.prog.info? 37).map (·.size) = some 1 := by kernel_rfl
theorem one_ss : (Try.prog.info? 40).map (·.size) = some 1 := by kernel_rfl
theorem zero_pk (V : World) : (zeroValue 30).run Try.prog V = .ok (.agg (pA zeroP)) V := Try.zeroValue30 V
theorem zero_ou (V : World) : (zeroValue 39).run Try.prog V = .ok (.agg (oA zeroO)) V := Try.zeroValue39 V
theorem zero_in (V : World) : (zeroValue 26).run Try.prog V = .ok (.agg (hA 0)) V := Try.zeroValue26 V
theorem zero_ir (V : World) : (zeroValue 31).run Try.prog V = .ok (.agg (hA 0)) V := Try.zeroValue31 V
theorem Try.infoP : (Try.prog.info? 30).map (fun i => (i.zero, i.size, i.bytes)) = some (some (.agg (pA zeroP)), 2, 24) := by kernel_rfl
theorem Try.infoP2 : (Try.prog.info? 30).map (fun i => (i.zero, i.size)) = some (some (.agg (pA zeroP)), 2) := by kernel_rfl
theorem Try.infoS : (Try.prog.info? 9).map (fun i => (i.zero, i.size, i.bytes)) = some (some (.string ByteArray.empty), 1, 16) := by kernel_rfl
theorem Try.infoS2 : (Try.prog.info? 9).map (fun i => (i.zero, i.size)) = some (some (.string ByteArray.empty), 1) := by kernel_rfl
/-- Structs that are built. -/
theorem built_p (k : Int) (t : ByteArray) : Try.prog.built 30 [(0, .int .i64 k), (1, .string t)] = some (pA ⟨k, t⟩) := by kernel_rfl
theorem built_p0 : Try.prog.built 30 [] = some (pA zeroP) := by kernel_rfl
theorem built_o0 : Try.prog.built 39 [] = some (oA zeroO) := by kernel_rfl
theorem built_or (r : Int) : Try.prog.built 39 [(2, .int .i64 r)] = some (oA ⟨0, none, 0, 0, r⟩) := by kernel_rfl
theorem built_o (k : Int) (a : Option Addr) (n c : Nat) (r : Int) : Try.prog.built 39 [(0, .int .i64 k), (1, .slice a n c), (2, .int .i64 r)] = some (oA ⟨k, a, n, c, r⟩) := by kernel_rfl
theorem built_i (h : Int) : Try.prog.built 26 [(0, .int .i64 h)] = some (hA h) := by kernel_rfl
theorem built_i0 : Try.prog.built 26 [] = some (hA 0) := by kernel_rfl
theorem built_ir (h : Int) : Try.prog.built 31 [(0, .int .i64 h)] = some (hA h) := by kernel_rfl
theorem built_k (o : Ow) : Try.prog.built 42 [(0, .agg (oA o))] = some (kA ⟨o, 0, none, 0, 0, none, 0, 0, none, 0, 0⟩) := by kernel_rfl
theorem built_s (k : Nat) : Try.prog.built 45 [(0, .int .u8 (k : Int))] = some (sA ⟨k, ByteArray.empty, 0⟩) := by kernel_rfl
theorem st_built2 {P : Program} {ops : Array Oper} {rest : List Oper} {dst : Option Tmp} {ty : TypeId} {pos : String} {aft : Array Edge} {a : Act} {w : World} {Q : Exit → Act → World → Prop} (T : TypeId) (x0 x1 : Operand) (v0 v1 : Value) (cs : Array Value) (h0 : a.eval x0 = v0) (h1 : a.eval x1 = v1) (hb : P.built T [(0, v0), (1, v1)] = some cs)
    (k : wpList P ops Q rest (a.put dst (.agg cs)) w) : wpList P ops Q (⟨dst, .build T #[(0, x0), (1, x1)], ty, pos, aft, none⟩ :: rest) a w := by
  have h : P.built T ((#[(0, x0), (1, x1)] : Array (Nat × Operand)).map fun (i, x) => (i, a.eval x)).toList = some cs := by simpa [h0, h1] using hb
  exact wpList_build rfl T #[(0, x0), (1, x1)] rfl (by rw [h]; rfl) (by rw [h]; exact k)
theorem st_builtn {P : Program} {ops : Array Oper} {rest : List Oper} {dst : Option Tmp} {ty : TypeId} {pos : String} {aft : Array Edge} {a : Act} {w : World} {Q : Exit → Act → World → Prop} (T : TypeId) (i : Nat) (x : Operand) (v : Value) (cs : Array Value) (hx : a.eval x = v) (hb : P.built T [(i, v)] = some cs)
    (k : wpList P ops Q rest (a.put dst (.agg cs)) w) : wpList P ops Q (⟨dst, .build T #[(i, x)], ty, pos, aft, none⟩ :: rest) a w := by
  have h : P.built T ((#[(i, x)] : Array (Nat × Operand)).map fun (i, x) => (i, a.eval x)).toList = some cs := by simpa [hx] using hb
  exact wpList_build rfl T #[(i, x)] rfl (by rw [h]; rfl) (by rw [h]; exact k)
/-- Parts. -/
theorem kA_po (k : Ks) : (kA k).extract 0 (0 + (oA k.o).size) = oA k.o := by simp [kA, oA]
theorem kA_pi (k : Ks) : (kA k).extract 3 (3 + (hA k.h).size) = hA k.h := by simp [kA, hA]
theorem kA_o (k : Ks) (o : Ow) : (kA k).extract 0 0 ++ oA o ++ (kA k).extract (0 + (oA o).size) (kA k).size = kA { k with o := o } := by simp [kA, oA]
theorem kA_i (k : Ks) (h : Int) : (kA k).extract 0 3 ++ hA h ++ (kA k).extract (3 + (hA h).size) (kA k).size = kA { k with h := h } := by simp [kA, hA]
theorem kA_1 (k : Ks) (a : Option Addr) (n c : Nat) : (kA k).setIfInBounds 4 (.slice a n c) = kA { k with a1 := a, n1 := n, c1 := c } := rfl
theorem kA_2 (k : Ks) (a : Option Addr) (n c : Nat) : (kA k).setIfInBounds 5 (.slice a n c) = kA { k with a2 := a, n2 := n, c2 := c } := rfl
theorem kA_3 (k : Ks) (a : Option Addr) (n c : Nat) : (kA k).setIfInBounds 6 (.slice a n c) = kA { k with a3 := a, n3 := n, c3 := c } := rfl
theorem oA_n (o : Ow) (x : Int) : (oA o).setIfInBounds 0 (.int .i64 x) = oA { o with nx := x } := rfl
theorem oA_w (o : Ow) (a : Option Addr) (n c : Nat) : (oA o).setIfInBounds 1 (.slice a n c) = oA { o with a := a, n := n, c := c } := rfl
/-! ### slices of packets, of texts, of steps -/
def pcl (p : Pk) : List Value := (pA p).toList
def scl (t : ByteArray) : List Value := [.string t]
def zcl (s : Sp) : List Value := (sA s).toList
instance : Nonempty (EncOk pcl 2) := ⟨⟨fun _ => rfl, fun x => all_list (pA_one x), by omega⟩⟩
instance : Nonempty (EncOk scl 1) := ⟨⟨fun _ => rfl, fun x u hu => by simp [scl] at hu; subst hu; rfl, by omega⟩⟩
instance : Nonempty (EncOk zcl 3) := ⟨⟨fun _ => rfl, fun x => all_list (sA_one x), by omega⟩⟩
/-- A byte as a cell. -/
def ucl (x : Nat) : List Value := [.int .u8 (x : Int)]
instance : Nonempty (EncOk ucl 1) := ⟨⟨fun _ => rfl, fun x u hu => by simp [ucl] at hu; subst hu; rfl, by omega⟩⟩
theorem RR.ub {w : World} {A : Option Addr} {n c : Nat} {L : List Nat} (h : RR w ucl 1 A n c L) {k : Nat} (hk : k < n) : ∃ g off x, L[k]? = some x ∧ A = some ⟨g, off, none⟩ ∧ w.cell? ⟨g, off + k, none⟩ = some (.int .u8 (x : Int)) := by
  obtain ⟨g, off, x, h1, h2, h3⟩ := h.at_ hk
  have := h3 0 _ rfl
  rw [Nat.mul_one] at this
  exact ⟨g, off, x, h1, h2, this⟩
theorem RR.st {w : World} {A : Option Addr} {n c : Nat} {L : List ByteArray} (h : RR w scl 1 A n c L) {k : Nat} (hk : k < n) : ∃ g off x, L[k]? = some x ∧ A = some ⟨g, off, none⟩ ∧ w.cell? ⟨g, off + k, none⟩ = some (.string x) := by
  obtain ⟨g, off, x, h1, h2, h3⟩ := h.at_ hk
  have := h3 0 _ rfl
  rw [Nat.mul_one] at this
  exact ⟨g, off, x, h1, h2, this⟩
/-- A slice that lies below world w's blocks. -/
structure RL {α : Type} (w W : World) (c : α → List Value) (s : Nat) (A : Option Addr) (n q : Nat) (L : List α) : Prop where
  rr : RR W c s A n q L
  lo : ∀ b off, A = some ⟨b, off, none⟩ → 0 < n → b < w.heap.size
section
variable {α : Type} {c : α → List Value} {s : Nat} [Nonempty (EncOk c s)] {w W V : World} {A : Option Addr} {n q : Nat} {L : List α}
theorem RL.start (h : RR w c s A n q L) : RL w w c s A n q L := ⟨h, fun _ _ hA hn => h.lt hA hn⟩
theorem RL.on (h : RL w W c s A n q L) (hb : Below W.heap.size W V) : RL w V c s A n q L := ⟨h.rr.on hb, h.lo⟩
theorem RL.wr {g : Nat} (h : RL w W c s A n q L) (k : Wr W V g) (hg : w.heap.size ≤ g) : RL w V c s A n q L := ⟨h.rr.keep fun b off hA hn _ => k.far b (by have := h.lo b off hA hn; omega), h.lo⟩
theorem RL.drew (h : RL w W c s A n q L) : RL w W.drew c s A n q L := ⟨h.rr.drew, h.lo⟩
theorem RL.grow {G : Option Nat} (h : RL w W c s A n q L) (hg : W.grownBy V G) (hG : ∀ g, G = some g → w.heap.size ≤ g) : RL w V c s A n q L := ⟨h.rr.keep fun b off hA hn hlt => hg.block b hlt (fun e => by have := h.lo b off hA hn; have := hG b e.symm; omega), h.lo⟩
theorem RL.low (h : RL w W c s A n q L) (hb : Below w.heap.size w V) (h0 : RR w c s A n q L) : RL w V c s A n q L := ⟨h0.on hb, h.lo⟩
theorem RL.len (h : RL w W c s A n q L) : L.length = n := h.rr.len
theorem RL.max (h : RL w W c s A n q L) : n ≤ 9223372036854775807 := by
  have h1 := h.rr.cap
  have h2 := h.rr.max
  simp only [maxLen] at h2
  omega
end
/-- A slice of a call's own: it lies at or above N. -/
structure SO {α : Type} (N : Nat) (W : World) (T : TypeId) (c : α → List Value) (s : Nat) (A : Option Addr) (n q : Nat) (L : List α) (G : Option Nat) : Prop where
  seg : Seg W T s A n q (rc c L) G
  hi : ∀ g, G = some g → N ≤ g
section
variable {α : Type} {c : α → List Value} {s : Nat} [Nonempty (EncOk c s)] {W V : World} {N : Nat} {T : TypeId} {A : Option Addr} {n q : Nat} {L : List α} {G : Option Nat}
theorem SO.rr (h : SO N W T c s A n q L G) : RR W c s A n q L := RR.of_seg h.seg
theorem SO.on (h : SO N W T c s A n q L G) (hb : Below W.heap.size W V) : SO N V T c s A n q L G := ⟨h.seg.on hb, h.hi⟩
theorem SO.mono {M : Nat} (h : SO N W T c s A n q L G) (hm : M ≤ N) : SO M W T c s A n q L G := ⟨h.seg, fun g e => Nat.le_trans hm (h.hi g e)⟩
theorem SO.drew (h : SO N W T c s A n q L G) : SO N W.drew T c s A n q L G := ⟨h.seg, h.hi⟩
theorem SO.len (h : SO N W T c s A n q L G) : L.length = n := h.rr.len
theorem SO.max (h : SO N W T c s A n q L G) : n ≤ 9223372036854775807 := by
  have h1 := h.rr.cap
  have h2 := h.rr.max
  simp only [maxLen] at h2
  omega
/-- A box that is new is none of the slice's. -/
theorem SO.fresh (h : SO N W T c s A n q L G) {g : Nat} (hg : W.heap.size ≤ g) : ∀ b, G = some b → b ≠ g := fun b e => by have := h.seg.lt b e; omega
theorem SO.above (h : SO N W T c s A n q L G) {g : Nat} (hg : g < N) : ∀ b, G = some b → b ≠ g := fun b e => by have := h.hi b e; omega
theorem SO.wr {g : Nat} (h : SO N W T c s A n q L G) (k : Wr W V g) (hg : ∀ b, G = some b → b ≠ g) : SO N V T c s A n q L G := ⟨h.seg.keep fun b e => k.far b (hg b e), h.hi⟩
theorem SO.grow {H : Option Nat} (h : SO N W T c s A n q L G) (hg : W.grownBy V H) (hne : ∀ b, G = some b → some b ≠ H) : SO N V T c s A n q L G := ⟨h.seg.keep fun b e => hg.block b (h.seg.lt b e) (hne b e), h.hi⟩
theorem SO.nil (N : Nat) (W : World) (T : TypeId) (c : α → List Value) (s : Nat) : SO N W T c s none 0 0 [] none := ⟨Seg.nil _ _ _, fun _ e => by cases e⟩
end
theorem moved_ne {w : World} {G G' : Option Nat} (h : Moved w G G') {g : Nat} (hg : g < w.heap.size) (hG : ∀ b, G = some b → b ≠ g) : ∀ b, G' = some b → b ≠ g := by
  rcases h with rfl | ⟨g', rfl, hg'⟩
  · exact hG
  · intro b e; cases e; omega
/-- Two that hear the same are the same. -/
theorem eq_in (x y : Int) (w : World) : (Op.equalIn 10000 26 (.agg (hA x)) (.agg (hA y))).run Try.prog w = .ok (x == y) w := by
  have u := Try.underlying3
  have a := Try.isAgg3
  have z := Try.sizeOf3
  have hS : Try.prog.underlying 26 = some (.struct (Try.prog.fieldsOf 26)) := by kernel_rfl
  have hp : Try.prog.stoodInHeld 26 = false := by kernel_rfl
  have e : ∀ (x y : Int) (V : World), (Op.equalIn 9999 3 (.int .i64 x) (.int .i64 y)).run Try.prog V = .ok (x == y) V := fun x y V => run_equalIn_int V 9998 _ _ _ x y u
  rw [show (10000 : Nat) = 9999 + 1 from rfl, run_equalIn_agg w 9999 26 _ _ hS hp]
  simp only [Program.fieldsOf, Try.underlying26]
  simp [Op.eqFields, Sem.run_bind, e, Sem.run_ite, part, a, z, hA]
  (repeat' split) <;> simp_all
theorem eq_ir (x y : Int) (w : World) : (Op.equalIn 10000 31 (.agg (hA x)) (.agg (hA y))).run Try.prog w = .ok (x == y) w := by
  have u := Try.underlying3
  have a := Try.isAgg3
  have z := Try.sizeOf3
  have hS : Try.prog.underlying 31 = some (.struct (Try.prog.fieldsOf 31)) := by kernel_rfl
  have hp : Try.prog.stoodInHeld 31 = false := by kernel_rfl
  have e : ∀ (x y : Int) (V : World), (Op.equalIn 9999 3 (.int .i64 x) (.int .i64 y)).run Try.prog V = .ok (x == y) V := fun x y V => run_equalIn_int V 9998 _ _ _ x y u
  rw [show (10000 : Nat) = 9999 + 1 from rfl, run_equalIn_agg w 9999 31 _ _ hS hp]
  simp only [Program.fieldsOf, Try.underlying31]
  simp [Op.eqFields, Sem.run_bind, e, Sem.run_ite, part, a, z, hA]
  (repeat' split) <;> simp_all
end Go.Proofs.Ytemhfaodgofcpaa
