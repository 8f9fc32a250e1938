/- Plain mathematics for the law OctetRows: short numbers one behind the other. -/
import Derived.Test.YtahngmddhpnjgaaDoorOctI
import Derived.Test.YtahngmddhpnjgaaDoorShortWalk
namespace Go.Proofs.YtahngmddhpnjgaaDoor.Oct
open Go.RowKit Go.Lib

/-- Short numbers' bytes, one behind the other: the first k. -/
def nb (f : Nat → Nat) : Nat → List UInt8
  | 0 => []
  | k + 1 => nb f k ++ short (f k)
theorem nb_mono (f : Nat → Nat) (k n : Nat) (h : k ≤ n) : ∃ t, nb f n = nb f k ++ t := by
  induction n with
  | zero => have : k = 0 := by omega
            subst this; exact ⟨[], by simp⟩
  | succ n ih =>
    by_cases e : k = n + 1
    · subst e; exact ⟨[], by simp⟩
    · obtain ⟨t, ht⟩ := ih (by omega)
      exact ⟨t ++ short (f n), by rw [nb, ht]; simp⟩
theorem nb_split (f : Nat → Nat) (k n : Nat) (h : k < n) : ∃ t, nb f n = nb f k ++ short (f k) ++ t := by
  obtain ⟨t, ht⟩ := nb_mono f (k + 1) n h
  exact ⟨t, by rw [ht, nb]⟩
theorem nb_len (f : Nat → Nat) (n : Nat) (h : ∀ i, i < n → f i < 2 ^ 56) : ∀ k, k ≤ n → (nb f k).length ≤ 8 * k := by
  intro k
  induction k with
  | zero => intro _; simp [nb]
  | succ k ih => intro hk; have := ih (by omega); have := short_len8 (f k) (h k (by omega)); rw [nb, List.length_append]; omega
theorem tx_len (ss : Nat → ByteArray) (n : Nat) (h : ∀ i, i < n → (ss i).size ≤ 300) : ∀ k, k ≤ n → (tx ss k).length ≤ 308 * k := by
  intro k
  induction k with
  | zero => intro _; simp [tx]
  | succ k ih =>
    intro hk
    have h1 := ih (by omega)
    have h2 := short_len8 (ss k).size (by have := h k (by omega); omega)
    have h3 := h k (by omega)
    have h4 : (ss k).data.toList.length = (ss k).size := (size_eq _).symm
    rw [tx, List.length_append, List.length_append]; omega
theorem sht (T : ByteArray) : (short T.size ++ T.data.toList).length = (short T.size).length + T.size := by rw [List.length_append, ← size_eq]
/-- Bytes as a text. -/
def sbl (l : List UInt8) : ByteArray := ⟨l.toArray⟩
theorem sbl_size (l : List UInt8) : (sbl l).size = l.length := by simp [sbl, ByteArray.size]
theorem sbl_data (l : List UInt8) : (sbl l).data.toList = l := by simp [sbl]
theorem sbl_sb (l : List UInt8) (n : Nat) : sbl l ++ sb n = sbl (l ++ short n) := by simp [sbl, sb, ByteArray.mk_append_mk]
theorem sbl_sbl (l r : List UInt8) : sbl l ++ sbl r = sbl (l ++ r) := by simp [sbl, ByteArray.mk_append_mk]
theorem putText_sbl (A : Option Addr) (n c : Nat) (ss : Nat → ByteArray) (w : World) (hn : (n : Int) ≤ 9223372036854775807) (hA : SArg w A n (fun k => .string (ss k))) (hsz : ((tx ss n).length : Int) ≤ 70368744177664) :
    Calls Tryd.prog 21 #[.slice A n c] w fun e w' => e = .returned (.string (sbl (tx ss n))) ∧ Below w.heap.size w w' := putText_any A n c ss w hn hA hsz
end Go.Proofs.YtahngmddhpnjgaaDoor.Oct
