/-
  Layer 16 in memory: packets, who says, who hears, two that talk, as cells; slices of packets and of texts. No condition.
-/
import Derived.Test.YtcfdfimkgehdfaaStq
import Derived.Test.YtcfdfimkgehdfaaStp
import Derived.Test.YtcfdfimkgehdfaaOuts
import Derived.Test.YtcfdfimkgehdfaaRows
import Derived.Test.YtcfdfimkgehdfaaStp
import Derived.Test.YtcfdfimkgehdfaaPaM
set_option linter.unusedVariables false
set_option linter.unusedSimpArgs false
set_option linter.unusedSectionVars false
namespace Go.Proofs.Ytcfdfimkgehdfaa
open Go.RowKit

/-- A packet, who says, who hears, two that talk, a step, as cells. -/
def pA (p : Pk) : Array Value := #[.int .i64 p.seq, .string p.tx]
structure Ow where
  nx : Int
  a : Option Addr
  n : Nat
  c : Nat
  rm : Int
def oA (o : Ow) : Array Value := #[.int .i64 o.nx, .slice o.a o.n o.c, .int .i64 o.rm]
def hA (h : Int) : Array Value := #[.int .i64 h]
structure Ks where
  o : Ow
  h : Int
  a1 : Option Addr
  n1 : Nat
  c1 : Nat
  a2 : Option Addr
  n2 : Nat
  c2 : Nat
  a3 : Option Addr
  n3 : Nat
  c3 : Nat
def kA (k : Ks) : Array Value := #[.int .i64 k.o.nx, .slice k.o.a k.o.n k.o.c, .int .i64 k.o.rm, .int .i64 k.h, .slice k.a1 k.n1 k.c1, .slice k.a2 k.n2 k.c2, .slice k.a3 k.n3 k.c3]
structure Sp where
  kd : Nat
  tx : ByteArray
  at_ : Nat
def sA (s : Sp) : Array Value := #[.int .u8 (s.kd : Int), .string s.tx, .int .u16 (s.at_ : Int)]
def zeroP : Pk := ⟨0, ByteArray.empty⟩
def zeroO : Ow := ⟨0, none, 0, 0, 0⟩
theorem pA_one (p : Pk) : (pA p).all (·.oneCell') = true := by simp [pA, Value.oneCell']
theorem oA_one (o : Ow) : (oA o).all (·.oneCell') = true := by simp [oA, Value.oneCell']
theorem hA_one (h : Int) : (hA h).all (·.oneCell') = true := by simp [hA, Value.oneCell']
theorem kA_one (k : Ks) : (kA k).all (·.oneCell') = true := by simp [kA, Value.oneCell']
theorem sA_one (s : Sp) : (sA s).all (·.oneCell') = true := by simp [sA, Value.oneCell']
theorem pA_size (p : Pk) : (pA p).size = 2 := rfl
theorem oA_size (o : Ow) : (oA o).size = 3 := rfl
theorem hA_size (h : Int) : (hA h).size = 1 := rfl
theorem kA_size (k : Ks) : (kA k).size = 7 := rfl
theorem sA_size (s : Sp) : (sA s).size = 3 := rfl
theorem Try.zPk : (Try.prog.info? 70).map (·.size) = some 2 := by kernel_rfl
theorem Try.zOu : (Try.prog.info? 64).map (·.size) = some 3 := by kernel_rfl
theorem Try.zIn : (Try.prog.info? 66).map (·.size) = some 1 := by kernel_rfl
theorem one_ip : (Try.prog.info? 3).map (·.size) = some 1 := by kernel_rfl
theorem one_pp : (Try.prog.info? 62).map (·.size) = some 1 := by kernel_rfl
theorem one_ss : (Try.prog.info? 61).map (·.size) = some 1 := by kernel_rfl
theorem zero_pk (V : World) : (zeroValue 70).run Try.prog V = .ok (.agg (pA zeroP)) V := Try.zeroValue70 V
theorem zero_ou (V : World) : (zeroValue 64).run Try.prog V = .ok (.agg (oA zeroO)) V := Try.zeroValue64 V
theorem zero_in (V : World) : (zeroValue 66).run Try.prog V = .ok (.agg (hA 0)) V := Try.zeroValue66 V
theorem Try.infoP : (Try.prog.info? 70).map (fun i => (i.zero, i.size, i.bytes)) = some (some (.agg (pA zeroP)), 2, 24) := by kernel_rfl
theorem Try.infoP2 : (Try.prog.info? 70).map (fun i => (i.zero, i.size)) = some (some (.agg (pA zeroP)), 2) := by kernel_rfl
theorem Try.infoS : (Try.prog.info? 9).map (fun i => (i.zero, i.size, i.bytes)) = some (some (.string ByteArray.empty), 1, 16) := by kernel_rfl
theorem Try.infoS2 : (Try.prog.info? 9).map (fun i => (i.zero, i.size)) = some (some (.string ByteArray.empty), 1) := by kernel_rfl
/-- Structs that are built. -/
theorem built_p (k : Int) (t : ByteArray) : Try.prog.built 70 [(0, .int .i64 k), (1, .string t)] = some (pA ⟨k, t⟩) := by kernel_rfl
theorem built_p0 : Try.prog.built 70 [] = some (pA zeroP) := by kernel_rfl
theorem built_o0 : Try.prog.built 64 [] = some (oA zeroO) := by kernel_rfl
theorem built_or (r : Int) : Try.prog.built 64 [(2, .int .i64 r)] = some (oA ⟨0, none, 0, 0, r⟩) := by kernel_rfl
theorem built_o (k : Int) (a : Option Addr) (n c : Nat) (r : Int) : Try.prog.built 64 [(0, .int .i64 k), (1, .slice a n c), (2, .int .i64 r)] = some (oA ⟨k, a, n, c, r⟩) := by kernel_rfl
theorem built_i (h : Int) : Try.prog.built 66 [(0, .int .i64 h)] = some (hA h) := by kernel_rfl
theorem built_i0 : Try.prog.built 66 [] = some (hA 0) := by kernel_rfl
/-- Parts. -/
theorem kA_po (k : Ks) : (kA k).extract 0 (0 + (oA k.o).size) = oA k.o := by simp [kA, oA]
theorem kA_pi (k : Ks) : (kA k).extract 3 (3 + (hA k.h).size) = hA k.h := by simp [kA, hA]
theorem kA_o (k : Ks) (o : Ow) : (kA k).extract 0 0 ++ oA o ++ (kA k).extract (0 + (oA o).size) (kA k).size = kA { k with o := o } := by simp [kA, oA]
theorem kA_i (k : Ks) (h : Int) : (kA k).extract 0 3 ++ hA h ++ (kA k).extract (3 + (hA h).size) (kA k).size = kA { k with h := h } := by simp [kA, hA]
theorem kA_1 (k : Ks) (a : Option Addr) (n c : Nat) : (kA k).setIfInBounds 4 (.slice a n c) = kA { k with a1 := a, n1 := n, c1 := c } := rfl
theorem kA_2 (k : Ks) (a : Option Addr) (n c : Nat) : (kA k).setIfInBounds 5 (.slice a n c) = kA { k with a2 := a, n2 := n, c2 := c } := rfl
theorem kA_3 (k : Ks) (a : Option Addr) (n c : Nat) : (kA k).setIfInBounds 6 (.slice a n c) = kA { k with a3 := a, n3 := n, c3 := c } := rfl
theorem oA_n (o : Ow) (x : Int) : (oA o).setIfInBounds 0 (.int .i64 x) = oA { o with nx := x } := rfl
theorem oA_w (o : Ow) (a : Option Addr) (n c : Nat) : (oA o).setIfInBounds 1 (.slice a n c) = oA { o with a := a, n := n, c := c } := rfl
/-! ### slices of packets, of texts, of steps -/
def pcl (p : Pk) : List Value := (pA p).toList
def zcl (s : Sp) : List Value := (sA s).toList
instance : Nonempty (EncOk pcl 2) := ⟨⟨fun _ => rfl, fun x => all_list (pA_one x), by omega⟩⟩
instance : Nonempty (EncOk zcl 3) := ⟨⟨fun _ => rfl, fun x => all_list (sA_one x), by omega⟩⟩
theorem RR.ub {w : World} {A : Option Addr} {n c : Nat} {L : List Nat} (h : RR w ucl 1 A n c L) {k : Nat} (hk : k < n) : ∃ g off x, L[k]? = some x ∧ A = some ⟨g, off, none⟩ ∧ w.cell? ⟨g, off + k, none⟩ = some (.int .u8 (x : Int)) := by
  obtain ⟨g, off, x, h1, h2, h3⟩ := h.at_ hk
  have := h3 0 _ rfl
  rw [Nat.mul_one] at this
  exact ⟨g, off, x, h1, h2, this⟩
theorem RR.st {w : World} {A : Option Addr} {n c : Nat} {L : List ByteArray} (h : RR w scl 1 A n c L) {k : Nat} (hk : k < n) : ∃ g off x, L[k]? = some x ∧ A = some ⟨g, off, none⟩ ∧ w.cell? ⟨g, off + k, none⟩ = some (.string x) := by
  obtain ⟨g, off, x, h1, h2, h3⟩ := h.at_ hk
  have := h3 0 _ rfl
  rw [Nat.mul_one] at this
  exact ⟨g, off, x, h1, h2, this⟩
section
variable {α : Type} {c : α → List Value} {s : Nat} [Nonempty (EncOk c s)] {w W V : World} {A : Option Addr} {n q : Nat} {L : List α}
end
section
variable {α : Type} {c : α → List Value} {s : Nat} [Nonempty (EncOk c s)] {W V : World} {N : Nat} {T : TypeId} {A : Option Addr} {n q : Nat} {L : List α} {G : Option Nat}
end
/-- Two that hear the same are the same. -/
theorem eq_in (x y : Int) (w : World) : (Op.equalIn 10000 66 (.agg (hA x)) (.agg (hA y))).run Try.prog w = .ok (x == y) w := by
  have u := Try.underlying3
  have a := Try.isAgg3
  have z := Try.sizeOf3
  have hS : Try.prog.underlying 66 = some (.struct (Try.prog.fieldsOf 66)) := by kernel_rfl
  have hp : Try.prog.stoodInHeld 66 = false := by kernel_rfl
  have e : ∀ (x y : Int) (V : World), (Op.equalIn 9999 3 (.int .i64 x) (.int .i64 y)).run Try.prog V = .ok (x == y) V := fun x y V => run_equalIn_int V 9998 _ _ _ x y u
  rw [show (10000 : Nat) = 9999 + 1 from rfl, run_equalIn_agg w 9999 66 _ _ hS hp]
  simp only [Program.fieldsOf, Try.underlying66]
  simp [Op.eqFields, Sem.run_bind, e, Sem.run_ite, part, a, z, hA]
  (repeat' split) <;> simp_all
end Go.Proofs.Ytcfdfimkgehdfaa
