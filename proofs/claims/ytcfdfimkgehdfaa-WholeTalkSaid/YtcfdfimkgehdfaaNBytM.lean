/-
  Plain mathematics of bytes: a string's bytes, big-endian numbers of some bytes and the bytes of numbers, as lists. It speaks of no program. No condition.
-/
import Derived.Below
namespace Go.Proofs.Ytcfdfimkgehdfaa.Dk
set_option maxRecDepth 100000

/-- A string's bytes, and the string of some bytes. -/
def bl (s : ByteArray) : List UInt8 := s.data.toList
def mkS (l : List UInt8) : ByteArray := ⟨l.toArray⟩
theorem bl_mkS (l : List UInt8) : bl (mkS l) = l := by simp [bl, mkS]
theorem mkS_bl (s : ByteArray) : mkS (bl s) = s := by cases s; simp [bl, mkS]
theorem bl_length (s : ByteArray) : (bl s).length = s.size := by cases s; simp [bl, ByteArray.size]
theorem mkS_size (l : List UInt8) : (mkS l).size = l.length := by simp [mkS, ByteArray.size]
theorem bl_inj {s t : ByteArray} (h : bl s = bl t) : s = t := by rw [← mkS_bl s, h, mkS_bl]
def num (n : Nat) : Nat → List UInt8
  | 0 => []
  | k + 1 => UInt8.ofNat (n / 256 ^ k) :: num n k
theorem num_length (n : Nat) : ∀ k, (num n k).length = k
  | 0 => rfl
  | k + 1 => by simp [num, num_length n k]
def val (l : List UInt8) : Nat := l.foldl (fun a b => a * 256 + b.toNat) 0
theorem val_snoc (l : List UInt8) (b : UInt8) : val (l ++ [b]) = val l * 256 + b.toNat := by simp [val]
theorem val_acc (l : List UInt8) : ∀ a, l.foldl (fun a b => a * 256 + b.toNat) a = a * 256 ^ l.length + val l := by
  induction l with
  | nil => intro a; simp [val]
  | cons b r ih =>
    intro a
    rw [val, List.foldl_cons, List.foldl_cons, ih, ih (0 * 256 + b.toNat), List.length_cons, Nat.pow_succ]
    simp only [Nat.add_mul, Nat.zero_mul, Nat.zero_add, Nat.mul_assoc, Nat.mul_comm 256, Nat.add_assoc]
theorem val_cons (b : UInt8) (l : List UInt8) : val (b :: l) = b.toNat * 256 ^ l.length + val l := by
  rw [val, List.foldl_cons, val_acc]; simp
theorem val_lt (l : List UInt8) : val l < 256 ^ l.length := by
  induction l with
  | nil => simp [val]
  | cons b r ih =>
    rw [val_cons, List.length_cons, Nat.pow_succ]
    have hb : b.toNat ≤ 255 := by have := b.toNat_lt; omega
    have := Nat.mul_le_mul_right (256 ^ r.length) hb
    omega
theorem val_num (n : Nat) : ∀ k, val (num n k) = n % 256 ^ k
  | 0 => by simp [num, val, Nat.mod_one]
  | k + 1 => by
    rw [num, val_cons, num_length, val_num n k]
    have h1 : (UInt8.ofNat (n / 256 ^ k)).toNat = n / 256 ^ k % 256 := by simp
    rw [h1, Nat.pow_succ, Nat.mod_mul]
    rw [Nat.mul_comm, Nat.add_comm]
theorem num_mod (n m : Nat) : ∀ k, n % 256 ^ k = m % 256 ^ k → num n k = num m k
  | 0, _ => rfl
  | k + 1, h => by
    rw [Nat.pow_succ, Nat.mod_mul, Nat.mod_mul] at h
    have hp : 0 < 256 ^ k := Nat.pow_pos (by omega)
    have h1 : n % 256 ^ k = m % 256 ^ k := by
      have := congrArg (· % 256 ^ k) h
      simpa [Nat.add_mul_mod_self_left] using this
    have h2 : n / 256 ^ k % 256 = m / 256 ^ k % 256 := by
      rw [h1] at h
      exact Nat.eq_of_mul_eq_mul_left hp (by omega)
    rw [num, num, num_mod n m k h1]
    congr 1
    apply UInt8.toNat_inj.1
    simpa using h2
theorem num_val : ∀ (l : List UInt8), num (val l) l.length = l
  | [] => rfl
  | b :: r => by
    have hp : 0 < 256 ^ r.length := Nat.pow_pos (by omega)
    rw [List.length_cons, num, val_cons]
    have h1 : (b.toNat * 256 ^ r.length + val r) / 256 ^ r.length = b.toNat := by
      rw [Nat.add_comm, Nat.add_mul_div_right _ _ hp, Nat.div_eq_of_lt (val_lt r)]; omega
    rw [h1, num_mod _ (val r) r.length (by simp), num_val r]
    congr 1
    simp
end Go.Proofs.Ytcfdfimkgehdfaa.Dk
