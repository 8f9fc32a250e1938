/- Plain mathematics of the document's own digest of layer 2: its lists are those of the code. -/
import Derived.Test.YteciidnjikcimaaDoorShaMath
namespace Go.Proofs.YteciidnjikcimaaDoor.Sha
/-- Bytes as numbers. -/
def nb (l : List UInt8) : List Nat := l.map UInt8.toNat
theorem wd_nb (l : List UInt8) (i : Nat) : wd (nb l) i = bt l i := by
  unfold wd nb bt
  rw [List.getD_eq_getElem?_getD, List.getD_eq_getElem?_getD, List.getElem?_map]
  cases l[i]? with
  | none => rfl
  | some x => rfl
theorem bt_piece (l : List UInt8) (m j : Nat) (h : j < 64) : bt ((l.drop (64 * m)).take 64) j = bt l (64 * m + j) := by
  unfold bt
  rw [List.getD_eq_getElem?_getD, List.getD_eq_getElem?_getD, List.getElem?_take_of_lt h, List.getElem?_drop]
theorem wset_eq (l : List Nat) (i x : Nat) (h : i < l.length) : wd (l.set i x) i = x := by
  unfold wd; simp [List.getD_eq_getElem?_getD, h]
theorem wset_ne (l : List Nat) (i j x : Nat) (h : j ≠ i) : wd (l.set i x) j = wd l j := by
  unfold wd; simp only [List.getD_eq_getElem?_getD, List.getElem?_set]; rw [if_neg (by omega)]
theorem spA_length (r : List UInt8) (k : Nat) : (spA r k).length = 64 := by
  induction k with
  | zero => simp [spA]
  | succ k ih => simp [spA, ih]
theorem spB_length (r : List UInt8) (k : Nat) : (spB r k).length = 64 := by
  induction k with
  | zero => simp [spB, spA_length]
  | succ k ih => simp [spB, ih]
theorem spA_at (r : List UInt8) (k i : Nat) (h : i < k) (hk : k ≤ 64) : wd (spA r k) i = be4 r i := by
  induction k with
  | zero => omega
  | succ k ih =>
    rw [spA]
    by_cases e : i = k
    · subst e; rw [wset_eq _ _ _ (by rw [spA_length]; omega)]
    · rw [wset_ne _ _ _ _ e]; exact ih (by omega) (by omega)
theorem spB_stay (r : List UInt8) (k n i : Nat) (h : k ≤ n) (hi : i < 16 + k) : wd (spB r n) i = wd (spB r k) i := by
  induction n with
  | zero => have : k = 0 := by omega
            subst this; rfl
  | succ n ih =>
    by_cases e : k = n + 1
    · subst e; rfl
    · rw [spB, wset_ne _ _ _ _ (by omega)]; exact ih (by omega)
theorem sched_lo (r : List UInt8) (i : Nat) (h : i < 16) : wd (sched r) i = be4 r i := by
  unfold sched
  rw [spB_stay r 0 48 i (by omega) (by omega)]
  exact spA_at r 16 i h (by omega)
theorem sched_hi (r : List UInt8) (i : Nat) (h : 16 ≤ i) (h2 : i < 64) : wd (sched r) i = nextW (sched r) i := by
  have e : ∀ j, j < i → wd (sched r) j = wd (spB r (i - 16)) j := fun j hj => by
    unfold sched; exact spB_stay r (i - 16) 48 j (by omega) (by omega)
  have h1 : wd (sched r) i = wd (spB r (i - 16 + 1)) i := by
    unfold sched; exact spB_stay r (i - 16 + 1) 48 i (by omega) (by omega)
  rw [h1, spB, show 16 + (i - 16) = i by omega, wset_eq _ _ _ (by rw [spB_length]; omega)]
  unfold nextW
  rw [e (i - 2) (by omega), e (i - 7) (by omega), e (i - 15) (by omega), e (i - 16) (by omega)]
theorem take_snoc' (l : List Nat) (i : Nat) (h : i < l.length) : l.take (i + 1) = l.take i ++ [wd l i] := by
  rw [List.take_succ_eq_append_getElem h]
  unfold wd; rw [List.getD_eq_getElem?_getD, List.getElem?_eq_getElem h]; rfl
theorem wd_take (l : List Nat) (i j : Nat) (h : j < i) : wd (l.take i) j = wd l j := by
  unfold wd; rw [List.getD_eq_getElem?_getD, List.getD_eq_getElem?_getD, List.getElem?_take_of_lt h]
/-- What stands behind a text: the last k of eight bytes. -/
theorem be8_len' (x k : Nat) : (be8 x k).length = k := by
  induction k with
  | zero => rfl
  | succ k ih => simp [be8, ih]
theorem be8_bt (x k i : Nat) (h : i < k) : bt (be8 x k) i = x / 2 ^ (56 - 8 * i) % 256 := by
  induction k with
  | zero => omega
  | succ k ih =>
    rw [be8]
    unfold bt
    rw [List.getD_eq_getElem?_getD]
    by_cases e : i < k
    · rw [List.getElem?_append_left (by rw [be8_len']; exact e)]
      have := ih e
      unfold bt at this
      rw [List.getD_eq_getElem?_getD] at this
      exact this
    · have : i = k := by omega
      subst this
      rw [List.getElem?_append_right (by rw [be8_len']; exact Nat.le_refl _), be8_len', Nat.sub_self]
      show (byteOf (x / 2 ^ (56 - 8 * i))).toNat = _
      unfold byteOf
      rw [UInt8.toNat_ofNat']; omega
/-- The last k of the eight bytes. -/
def tailL (x k : Nat) : List Nat := (nb (be8 x 8)).drop (8 - k)
theorem tailL_len (x k : Nat) (h : k ≤ 8) : (tailL x k).length = k := by simp [tailL, nb, be8_len']; omega
theorem tailL_succ (x k : Nat) (h : k < 8) : tailL x (k + 1) = (x / 256 ^ k % 256) :: tailL x k := by
  unfold tailL
  have hl : (nb (be8 x 8)).length = 8 := by simp [nb, be8_len']
  rw [List.drop_eq_getElem_cons (by omega), show 8 - (k + 1) + 1 = 8 - k by omega]
  congr 1
  have h1 : (nb (be8 x 8))[8 - (k + 1)]'(by omega) = wd (nb (be8 x 8)) (8 - (k + 1)) := by
    unfold wd; rw [List.getD_eq_getElem?_getD, List.getElem?_eq_getElem (by omega)]; rfl
  rw [h1, wd_nb, be8_bt _ _ _ (by omega), show 56 - 8 * (8 - (k + 1)) = 8 * k by omega, Nat.pow_mul]
theorem tailL_zero (x : Nat) : tailL x 0 = [] := by
  unfold tailL; rw [List.drop_of_length_le (by simp [nb, be8_len'])]
theorem tailL_all (x : Nat) : tailL x 8 = nb (be8 x 8) := by unfold tailL; simp
theorem pad_len (n : Nat) : (n + (1 + (119 - n % 64) % 64 + 8)) % 64 = 0 := by omega
end Go.Proofs.YteciidnjikcimaaDoor.Sha
