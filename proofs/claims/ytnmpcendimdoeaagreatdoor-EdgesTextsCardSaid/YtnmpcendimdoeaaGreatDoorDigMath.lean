/- Plain mathematics: numbers as digits. It names nothing of the program. -/
namespace Go.Proofs.YtnmpcendimdoeaaGreatDoor.Dig

/-- A number's digits. -/
def digN (m : Nat) : List UInt8 := if h : m < 10 then [UInt8.ofNat (48 + m)] else digN (m / 10) ++ [UInt8.ofNat (48 + m % 10)]
termination_by m
decreasing_by omega
theorem digN_lt {m : Nat} (h : m < 10) : digN m = [UInt8.ofNat (48 + m)] := by rw [digN, dif_pos h]
theorem digN_ge {m : Nat} (h : ¬ m < 10) : digN m = digN (m / 10) ++ [UInt8.ofNat (48 + m % 10)] := by conv => lhs; rw [digN, dif_neg h]
theorem digN_len (k : Nat) : ∀ m, m < 10 ^ (k + 1) → (digN m).length ≤ k + 1 := by
  induction k with
  | zero => intro m h; rw [digN_lt (by simpa using h)]; simp
  | succ k ih =>
    intro m h
    by_cases h10 : m < 10
    · rw [digN_lt h10]; simp
    · rw [digN_ge h10, List.length_append]
      have := ih (m / 10) (by rw [Nat.pow_succ] at h; omega)
      simp; omega
theorem digN_20 (m : Nat) (h : m ≤ 10000000000000000000) : (digN m).length ≤ 20 := digN_len 19 m (by omega)
theorem digN_pos (m : Nat) : 0 < (digN m).length := by
  by_cases h : m < 10
  · rw [digN_lt h]; simp
  · rw [digN_ge h]; simp
/-- With "-" ahead of what is below 0. -/
def dgI (n : Int) : List UInt8 := if n < 0 then 45 :: digN n.natAbs else digN n.natAbs
theorem dgI_len (n : Int) (h : n.natAbs ≤ 10000000000000000000) : (dgI n).length ≤ 21 := by
  have := digN_20 _ h
  unfold dgI; split <;> simp <;> omega
/-- Bytes as a text. -/
def sbl (l : List UInt8) : ByteArray := ⟨l.toArray⟩
theorem sbl_app (a b : List UInt8) : sbl a ++ sbl b = sbl (a ++ b) := by
  apply ByteArray.ext; simp [sbl]
theorem sbl_size (l : List UInt8) : (sbl l).size = l.length := rfl
end Go.Proofs.YtnmpcendimdoeaaGreatDoor.Dig
namespace Go.Proofs.YtnmpcendimdoeaaGreatDoor.Dig
/-- Is a byte a digit? -/
def isD (b : UInt8) : Bool := decide (48 ≤ b.toNat) && decide (b.toNat ≤ 57)
/-- The number of digits. -/
def valD (l : List UInt8) : Nat := l.foldl (fun n b => 10 * n + (b.toNat - 48)) 0
theorem valD_snoc (l : List UInt8) (b : UInt8) : valD (l ++ [b]) = 10 * valD l + (b.toNat - 48) := by simp [valD]
theorem valD_lt : ∀ (k : Nat) (l : List UInt8), l.length = k → l.all isD = true → valD l < 10 ^ k := by
  intro k
  induction k with
  | zero => intro l hl _; rw [List.eq_nil_of_length_eq_zero hl]; decide
  | succ k ih =>
    intro l hl ha
    obtain ⟨m, b, rfl⟩ : ∃ m b, l = m ++ [b] := ⟨l.dropLast, l.getLast (by intro e; rw [e] at hl; simp at hl), (List.dropLast_concat_getLast _).symm⟩
    rw [List.all_append, Bool.and_eq_true] at ha
    have h1 := ih m (by simpa using hl) ha.1
    have h2 : isD b = true := by simpa using ha.2
    simp [isD] at h2
    rw [valD_snoc, Nat.pow_succ]
    omega
/-- Digits that tell a number (behind "-" or not). -/
def okD (mn : Bool) (ds : List UInt8) : Bool := decide (1 ≤ ds.length) && decide (ds.length ≤ 9) && ds.all isD && !(ds.head? == some 48 && (decide (1 < ds.length) || mn))
/-- The number that a word tells. -/
def numOf (l : List UInt8) : Option Int :=
  if l.head? == some 45 then (if okD true l.tail then some (-(valD l.tail : Int)) else none) else (if okD false l then some (valD l : Int) else none)
def numV (l : List UInt8) : Int := (numOf l).getD 0
def numB (l : List UInt8) : Bool := (numOf l).isSome
theorem num_bad {l ds : List UInt8} {mn : Bool} (h : (l.head? == some 45) = mn) (hd : ds = if mn then l.tail else l) (ho : okD mn ds = false) : numV l = 0 ∧ numB l = false := by
  subst hd
  unfold numV numB numOf
  cases mn <;> simp_all
theorem num_ok {l ds : List UInt8} {mn : Bool} (h : (l.head? == some 45) = mn) (hd : ds = if mn then l.tail else l) (ho : okD mn ds = true) : numV l = (if mn then -(valD ds : Int) else (valD ds : Int)) ∧ numB l = true := by
  subst hd
  unfold numV numB numOf
  cases mn <;> simp_all
end Go.Proofs.YtnmpcendimdoeaaGreatDoor.Dig
namespace Go.Proofs.YtnmpcendimdoeaaGreatDoor.Dig
/-- Words, one byte more. -/
def wdStep (ws : List (List UInt8)) (b : UInt8) : List (List UInt8) := if b = 32 then ws ++ [[]] else ws.dropLast ++ [ws.getLastD [] ++ [b]]
/-- A text, cut at blanks. -/
def wds (l : List UInt8) : List (List UInt8) := l.foldl wdStep [[]]
theorem wds_snoc (l : List UInt8) (b : UInt8) : wds (l ++ [b]) = wdStep (wds l) b := by simp [wds]
theorem wdStep_pos (ws : List (List UInt8)) (b : UInt8) : 0 < (wdStep ws b).length := by unfold wdStep; split <;> simp
theorem wds_pos (l : List UInt8) : 0 < (wds l).length := by
  rcases List.eq_nil_or_concat l with rfl | ⟨m, b, rfl⟩
  · simp [wds]
  · rw [List.concat_eq_append, wds_snoc]; exact wdStep_pos _ _
theorem wdStep_len (ws : List (List UInt8)) (b : UInt8) (h : 0 < ws.length) : (wdStep ws b).length ≤ ws.length + 1 := by unfold wdStep; split <;> simp <;> omega
theorem wds_len (l : List UInt8) : (wds l).length ≤ l.length + 1 := by
  induction k : l.length generalizing l with
  | zero => rw [List.eq_nil_of_length_eq_zero k]; simp [wds]
  | succ n ih =>
    rcases List.eq_nil_or_concat l with rfl | ⟨m, b, rfl⟩
    · simp at k
    · rw [List.concat_eq_append, wds_snoc]
      have := ih m (by simpa using k)
      have := wdStep_len (wds m) b (wds_pos m)
      omega
theorem last_len (ws : List (List UInt8)) (k : Nat) (h : ∀ s ∈ ws, s.length ≤ k) : (ws.getLastD []).length ≤ k := by
  rcases List.eq_nil_or_concat ws with rfl | ⟨m, b, rfl⟩
  · simp
  · simp; exact h b (by simp)
theorem wdStep_each (ws : List (List UInt8)) (b : UInt8) (k : Nat) (h : ∀ s ∈ ws, s.length ≤ k) : ∀ s ∈ wdStep ws b, s.length ≤ k + 1 := by
  intro s hs
  unfold wdStep at hs
  split at hs
  · rcases List.mem_append.1 hs with h1 | h1
    · exact Nat.le_succ_of_le (h s h1)
    · simp at h1; subst h1; simp
  · rcases List.mem_append.1 hs with h1 | h1
    · exact Nat.le_succ_of_le (h s (List.dropLast_subset _ h1))
    · rw [List.mem_singleton] at h1; subst h1; have := last_len ws k h; rw [List.length_append]; simp only [List.length_cons, List.length_nil]; omega
theorem wds_each (l : List UInt8) : ∀ s ∈ wds l, s.length ≤ l.length := by
  induction k : l.length generalizing l with
  | zero => rw [List.eq_nil_of_length_eq_zero k]; intro s hs; simp [wds] at hs; subst hs; simp
  | succ n ih =>
    rcases List.eq_nil_or_concat l with rfl | ⟨m, b, rfl⟩
    · simp at k
    · rw [List.concat_eq_append, wds_snoc]
      exact wdStep_each _ b n (ih m (by simpa using k))
end Go.Proofs.YtnmpcendimdoeaaGreatDoor.Dig
namespace Go.Proofs.YtnmpcendimdoeaaGreatDoor.Dig
theorem set_last {α : Type} (l : List α) (j : Nat) (x : α) (h : l.length = j + 1) : l.set j x = l.dropLast ++ [x] := by
  rcases List.eq_nil_or_concat l with rfl | ⟨m, b, rfl⟩
  · simp at h
  · rw [List.concat_eq_append] at h ⊢
    have e : j = m.length := by simp at h; omega
    subst e
    simp
theorem last_at (l : List (List UInt8)) (j : Nat) (h : l.length = j + 1) : l.getLastD [] = l[j]'(by omega) := by
  rcases List.eq_nil_or_concat l with rfl | ⟨m, b, rfl⟩
  · simp at h
  · have e : j = m.length := by simp at h; omega
    subst e
    simp
end Go.Proofs.YtnmpcendimdoeaaGreatDoor.Dig
