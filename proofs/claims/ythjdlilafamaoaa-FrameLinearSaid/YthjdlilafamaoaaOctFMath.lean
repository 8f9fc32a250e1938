/- Plain mathematics of layer 1 (octet): numbers in n bytes. It names nothing of the program. -/
import Derived.Test.YthjdlilafamaoaaOctMath
namespace Go.Proofs.Ythjdlilafamaoaa.Oct

/-- Byte k of a number. -/
def fb (x k : Nat) : UInt8 := UInt8.ofNat (x / 256 ^ k % 256)
/-- A number's n bytes, its lowest first. -/
def fixedB (n x : Nat) : List UInt8 := (List.range n).map (fb x)
/-- The number that bytes are, the lowest first. -/
def vB : List UInt8 → Nat
  | [] => 0
  | b :: r => b.toNat + 256 * vB r

theorem fb_toNat (x k : Nat) : (fb x k).toNat = x / 256 ^ k % 256 := toNat_ofNat _ (Nat.mod_lt _ (by omega))
theorem fixedB_len (n x : Nat) : (fixedB n x).length = n := by simp [fixedB]
theorem fixedB_succ (n x : Nat) : fixedB (n + 1) x = fixedB n x ++ [fb x n] := by simp [fixedB, List.range_succ]
theorem vB_snoc : ∀ (l : List UInt8) (b : UInt8), vB (l ++ [b]) = vB l + 256 ^ l.length * b.toNat := by
  intro l
  induction l with
  | nil => intro b; simp [vB]
  | cons c r ih => intro b; rw [List.cons_append, vB, vB, ih, List.length_cons, Nat.pow_succ, Nat.mul_comm (256 ^ r.length) 256, Nat.mul_assoc, Nat.mul_add]; omega
theorem vB_lt : ∀ (l : List UInt8), vB l < 256 ^ l.length := by
  intro l
  induction l with
  | nil => simp [vB]
  | cons c r ih => rw [vB]; have := c.toNat_lt; simp only [List.length_cons, Nat.pow_succ]; omega
theorem vB_fixedB (n x : Nat) : vB (fixedB n x) = x % 256 ^ n := by
  induction n with
  | zero => simp [fixedB, vB, Nat.mod_one]
  | succ n ih => rw [fixedB_succ, vB_snoc, ih, fb_toNat, fixedB_len, Nat.mod_pow_succ]
theorem vB_take_succ (l : List UInt8) (k : Nat) (h : k < l.length) : vB (l.take (k + 1)) = vB (l.take k) + 256 ^ k * l[k].toNat := by
  rw [List.take_succ_eq_append_getElem h, vB_snoc, List.length_take, Nat.min_eq_left (by omega)]
theorem vB_take_lt (l : List UInt8) (k : Nat) : vB (l.take k) < 256 ^ k := by
  have h1 := vB_lt (l.take k)
  have h2 : 256 ^ (l.take k).length ≤ 256 ^ k := Nat.pow_le_pow_right (by omega) (by simp; omega)
  omega
theorem pow256 (k : Nat) : 256 ^ k = 2 ^ (8 * k) := by rw [Nat.pow_mul]
theorem pow256_le (k : Nat) (h : k ≤ 7) : 256 ^ k ≤ 72057594037927936 := by
  have : 256 ^ k ≤ 256 ^ 7 := Nat.pow_le_pow_right (by omega) h
  have h7 : (256 : Nat) ^ 7 = 72057594037927936 := by decide
  omega
theorem pow256_pos (k : Nat) : 0 < 256 ^ k := Nat.pow_pos (by omega)
end Go.Proofs.Ythjdlilafamaoaa.Oct
