/- Plain mathematics of layer 1 (octet): short numbers as bytes, written and read. It names nothing of the program. -/
namespace Go.Proofs.Ytoggeiaofpdboaa.Oct

def shortF : Nat → Nat → List UInt8
  | 0, n => [UInt8.ofNat n]
  | f + 1, n => if n < 128 then [UInt8.ofNat n] else UInt8.ofNat (n % 128 + 128) :: shortF f (n / 128)
/-- The bytes of a short number. -/
def short (n : Nat) : List UInt8 := shortF 12 n

theorem shortF_more : ∀ (f n : Nat), n < 128 ^ (f + 1) → shortF f n = shortF (f + 1) n := by
  intro f
  induction f with
  | zero => intro n h; simp only [shortF]; rw [if_pos (by simpa using h)]
  | succ f ih =>
    intro n h
    rw [shortF, shortF]
    by_cases hn : n < 128
    · rw [if_pos hn, if_pos hn]
    · rw [if_neg hn, if_neg hn, ih (n / 128) (by rw [Nat.pow_succ] at h; omega)]
theorem short_lt (n : Nat) (h : n < 128) : short n = [UInt8.ofNat n] := by
  unfold short; rw [shortF, if_pos h]
theorem short_ge (n : Nat) (h : 128 ≤ n) (hb : n < 2 ^ 63) : short n = UInt8.ofNat (n % 128 + 128) :: short (n / 128) := by
  have e : short n = UInt8.ofNat (n % 128 + 128) :: shortF 11 (n / 128) := by unfold short; rw [shortF, if_neg (by omega)]
  rw [e]; unfold short; rw [shortF_more 11 (n / 128) (by have : (128 : Nat) ^ 12 = 2 ^ 84 := by decide
                                                         omega)]
theorem shortF_len : ∀ (f n k : Nat), n < 128 ^ (k + 1) → (shortF f n).length ≤ k + 1 := by
  intro f
  induction f with
  | zero => intro n k _; simp [shortF]
  | succ f ih =>
    intro n k h
    rw [shortF]
    by_cases hn : n < 128
    · rw [if_pos hn]; simp
    · rw [if_neg hn]
      match k, h with
      | 0, h => omega
      | k + 1, h => have := ih (n / 128) k (by rw [Nat.pow_succ] at h; omega); simp; exact this
theorem short_len8 (n : Nat) (h : n < 2 ^ 56) : (short n).length ≤ 8 := shortF_len 12 n 7 (by have : (128 : Nat) ^ 8 = 2 ^ 56 := by decide
                                                                                              omega)
theorem short_len9 (n : Nat) (h : n < 2 ^ 63) : (short n).length ≤ 9 := shortF_len 12 n 8 (by have : (128 : Nat) ^ 9 = 2 ^ 63 := by decide
                                                                                              omega)
theorem shortF_pos (f n : Nat) : 0 < (shortF f n).length := by cases f <;> simp [shortF]; split <;> simp
theorem short_pos (n : Nat) : 0 < (short n).length := shortF_pos 12 n

/-- What is read of bytes: the number, how many bytes it has, 0; or 0, 0 and the error's number. -/
def rdF : Nat → Bool → List UInt8 → Nat × Nat × Nat
  | 0, _, _ => (0, 0, 4)
  | _ + 1, _, [] => (0, 0, 3)
  | k + 1, nf, b :: r =>
    if b = 0 ∧ nf = true then (0, 0, 4) else if b.toNat < 128 then (b.toNat, 1, 0)
    else if (rdF k true r).2.2 = 0 then (b.toNat % 128 + 128 * (rdF k true r).1, (rdF k true r).2.1 + 1, 0) else (0, 0, (rdF k true r).2.2)
def rd (l : List UInt8) : Nat × Nat × Nat := rdF 8 false l
def comb (a k : Nat) (y : Nat × Nat × Nat) : Nat × Nat × Nat := if y.2.2 = 0 then (a + 128 ^ k * y.1, y.2.1 + k, 0) else (0, 0, y.2.2)

theorem comb_zero (y : Nat × Nat × Nat) (h : y.2.2 ≠ 0 → y = (0, 0, y.2.2)) : comb 0 0 y = y := by
  unfold comb
  by_cases e : y.2.2 = 0
  · rw [if_pos e]; obtain ⟨a, b, c⟩ := y; simp at e ⊢; exact e.symm
  · rw [if_neg e]; exact (h e).symm
theorem rdF_err : ∀ (m : Nat) (nf : Bool) (l : List UInt8), (rdF m nf l).2.2 ≠ 0 → rdF m nf l = (0, 0, (rdF m nf l).2.2) := by
  intro m nf l h
  match m, l with
  | 0, l => rfl
  | m + 1, [] => rfl
  | m + 1, b :: r =>
    rw [rdF] at h ⊢
    by_cases h1 : b = 0 ∧ nf = true
    · rw [if_pos h1]
    · rw [if_neg h1] at h ⊢
      by_cases h2 : b.toNat < 128
      · rw [if_pos h2] at h; simp at h
      · rw [if_neg h2] at h ⊢
        by_cases h3 : (rdF m true r).2.2 = 0
        · rw [if_pos h3] at h; simp at h
        · rw [if_neg h3]
theorem rd_start (l : List UInt8) : rd l = comb 0 0 (rdF 8 false l) := (comb_zero _ (rdF_err 8 false l)).symm
theorem comb_step (a k m : Nat) (nf : Bool) (b : UInt8) (r : List UInt8) (h0 : ¬ (b = 0 ∧ nf = true)) (h1 : ¬ b.toNat < 128) :
    comb a k (rdF (m + 1) nf (b :: r)) = comb (a + 128 ^ k * (b.toNat % 128)) (k + 1) (rdF m true r) := by
  rw [rdF, if_neg h0, if_neg h1]
  unfold comb
  by_cases e : (rdF m true r).2.2 = 0
  · simp only [e, if_true]
    refine Prod.ext ?_ (Prod.ext ?_ rfl)
    · simp only [Nat.mul_add, Nat.pow_succ]; rw [Nat.add_assoc, Nat.mul_assoc]
    · simp only; omega
  · simp only [e, if_false]
theorem comb_last (a k m : Nat) (nf : Bool) (b : UInt8) (r : List UInt8) (h0 : ¬ (b = 0 ∧ nf = true)) (h1 : b.toNat < 128) :
    comb a k (rdF (m + 1) nf (b :: r)) = (a + 128 ^ k * b.toNat, k + 1, 0) := by
  rw [rdF, if_neg h0, if_pos h1]; unfold comb; simp; omega
theorem comb_null (a k m : Nat) (b : UInt8) (r : List UInt8) (h0 : b = 0) : comb a k (rdF (m + 1) true (b :: r)) = (0, 0, 4) := by
  rw [rdF, if_pos ⟨h0, rfl⟩]; unfold comb; simp
theorem comb_end (a k m : Nat) (nf : Bool) : comb a k (rdF (m + 1) nf []) = (0, 0, 3) := by rw [rdF]; unfold comb; simp
theorem comb_out (a k : Nat) (nf : Bool) (l : List UInt8) : comb a k (rdF 0 nf l) = (0, 0, 4) := by rw [rdF]; unfold comb; simp

theorem toNat_ofNat (n : Nat) (h : n < 256) : (UInt8.ofNat n).toNat = n := by simp [UInt8.toNat_ofNat']; omega
theorem ofNat_toNat' (b : UInt8) : UInt8.ofNat b.toNat = b := by simp

/-- What is written is read. -/
theorem rdF_shortF : ∀ (f m n : Nat) (nf : Bool) (t : List UInt8), n < 128 ^ (f + 1) → n < 128 ^ m → (nf = true → 0 < n) → 0 < m →
    rdF m nf (shortF f n ++ t) = (n, (shortF f n).length, 0) := by
  intro f
  induction f with
  | zero =>
    intro m n nf t h _ hz hm
    match m, hm with
    | m + 1, _ =>
      have hn : n < 128 := by simpa using h
      show rdF (m + 1) nf (UInt8.ofNat n :: t) = _
      have hv := toNat_ofNat n (by omega)
      rw [rdF, if_neg (by rintro ⟨e, h2⟩; have := hz h2; rw [e] at hv; simp at hv; omega), if_pos (by omega), hv]; rfl
  | succ f ih =>
    intro m n nf t h h8 hz hm
    match m, hm with
    | m + 1, _ =>
      by_cases hn : n < 128
      · have e : shortF (f + 1) n = [UInt8.ofNat n] := by rw [shortF, if_pos hn]
        rw [e]
        show rdF (m + 1) nf (UInt8.ofNat n :: t) = _
        have hv := toNat_ofNat n (by omega)
        rw [rdF, if_neg (by rintro ⟨e, h2⟩; have := hz h2; rw [e] at hv; simp at hv; omega), if_pos (by omega), hv]; rfl
      · have e : shortF (f + 1) n = UInt8.ofNat (n % 128 + 128) :: shortF f (n / 128) := by rw [shortF, if_neg hn]
        rw [e, List.cons_append]
        have hv := toNat_ofNat (n % 128 + 128) (by omega)
        have hm0 : 0 < m := by rcases Nat.eq_zero_or_pos m with e | e; (· subst e; simp at h8; omega); exact e
        have := ih m (n / 128) true t (by rw [Nat.pow_succ] at h; omega) (by rw [Nat.pow_succ] at h8; omega) (fun _ => by omega) hm0
        rw [rdF, if_neg (by rintro ⟨e, _⟩; rw [e] at hv; simp at hv), if_neg (by omega), this, hv]
        simp; omega
theorem rd_short (n : Nat) (t : List UInt8) (h : n < 2 ^ 56) : rd (short n ++ t) = (n, (short n).length, 0) :=
  rdF_shortF 12 8 n false t (by have : (128 : Nat) ^ 13 = 2 ^ 91 := by decide
                                omega) (by have : (128 : Nat) ^ 8 = 2 ^ 56 := by decide
                                           omega) (by simp) (by omega)

/-- What is read is just what is written for it. -/
theorem short_of_rdF : ∀ (m f : Nat) (nf : Bool) (l : List UInt8), m ≤ f + 1 → (rdF m nf l).2.2 = 0 →
    shortF f (rdF m nf l).1 = l.take (rdF m nf l).2.1 ∧ (rdF m nf l).1 < 128 ^ m ∧ (rdF m nf l).2.1 ≤ l.length ∧ 0 < (rdF m nf l).2.1 ∧ (rdF m nf l).2.1 ≤ m ∧ (nf = true → 0 < (rdF m nf l).1) := by
  intro m
  induction m with
  | zero => intro f nf l _ h; simp [rdF] at h
  | succ m ih =>
    intro f nf l hf h
    match l with
    | [] => simp [rdF] at h
    | b :: r =>
      rw [rdF] at h ⊢
      by_cases h1 : b = 0 ∧ nf = true
      · rw [if_pos h1] at h; simp at h
      · rw [if_neg h1] at h ⊢
        have hb : b.toNat < 256 := b.toNat_lt
        have hpw : 128 ≤ 128 ^ (m + 1) := by rw [Nat.pow_succ]; have := Nat.pow_pos (n := m) (show 0 < 128 by omega); omega
        by_cases h2 : b.toNat < 128
        · rw [if_pos h2]
          refine ⟨?_, by show b.toNat < _; omega, by simp, by simp, by simp, fun hn => ?_⟩
          · show shortF f b.toNat = _
            cases f <;> simp [shortF]
            intro; omega
          · show 0 < b.toNat
            rcases Nat.eq_zero_or_pos b.toNat with e | e
            · exact absurd ⟨by rw [← ofNat_toNat' b, e]; rfl, hn⟩ h1
            · exact e
        · rw [if_neg h2] at h ⊢
          by_cases h3 : (rdF m true r).2.2 = 0
          · rw [if_pos h3]
            match f, hf with
            | 0, hf => have : m = 0 := by omega
                       subst this; simp [rdF] at h3
            | f + 1, hf =>
              obtain ⟨q1, q2, q3, q4, q5, q6⟩ := ih f true r (by omega) h3
              have q6 := q6 rfl
              refine ⟨?_, ?_, ?_, ?_, ?_, ?_⟩
              · show shortF (f + 1) (b.toNat % 128 + 128 * (rdF m true r).1) = (b :: r).take ((rdF m true r).2.1 + 1)
                rw [shortF, if_neg (by omega), List.take_succ_cons, ← q1, show (b.toNat % 128 + 128 * (rdF m true r).1) / 128 = (rdF m true r).1 by omega,
                  show (b.toNat % 128 + 128 * (rdF m true r).1) % 128 + 128 = b.toNat by omega, ofNat_toNat']
              · show b.toNat % 128 + 128 * (rdF m true r).1 < 128 ^ (m + 1)
                rw [Nat.pow_succ]; omega
              · simp; exact q3
              · simp
              · simp; exact q5
              · intro _; show 0 < b.toNat % 128 + 128 * (rdF m true r).1; omega
          · rw [if_neg h3] at h; exact absurd h h3
theorem short_of_rd (l : List UInt8) (h : (rd l).2.2 = 0) :
    short (rd l).1 = l.take (rd l).2.1 ∧ (rd l).1 < 2 ^ 56 ∧ (rd l).2.1 ≤ l.length ∧ 0 < (rd l).2.1 ∧ (rd l).2.1 ≤ 8 := by
  obtain ⟨a, b, c, d, e, _⟩ := short_of_rdF 8 12 false l (by omega) h
  exact ⟨a, by have : (128 : Nat) ^ 8 = 2 ^ 56 := by decide
               unfold rd; omega, c, d, e⟩

end Go.Proofs.Ytoggeiaofpdboaa.Oct
