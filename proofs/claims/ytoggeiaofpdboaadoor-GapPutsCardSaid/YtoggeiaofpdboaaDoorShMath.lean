/- Plain mathematics: a short number's bytes, looked at from behind. It names nothing of the program. -/
import Derived.Test.YtoggeiaofpdboaaDoorOctMath
namespace Go.Proofs.YtoggeiaofpdboaaDoor.Oct

/-- The number of bytes, the last one first. -/
def lv : List UInt8 → Nat
  | [] => 0
  | b :: r => b.toNat % 128 + 128 * lv r
theorem lv_lt : ∀ l : List UInt8, lv l < 128 ^ l.length
  | [] => by decide
  | b :: r => by
    have := lv_lt r
    rw [lv, List.length_cons, Nat.pow_succ]
    omega
theorem comb_hs : ∀ (hs l : List UInt8) (a k m : Nat) (nf : Bool), (∀ b ∈ hs, 128 ≤ b.toNat) → hs.length ≤ m → comb a k (rdF m nf (hs ++ l)) = comb (a + 128 ^ k * lv hs) (k + hs.length) (rdF (m - hs.length) (nf || !hs.isEmpty) l)
  | [], l, a, k, m, nf, _, _ => by simp [lv]
  | b :: r, l, a, k, m, nf, h, hm => by
    obtain ⟨m, rfl⟩ : ∃ j, m = j + 1 := ⟨m - 1, by simp at hm; omega⟩
    have hb := h b List.mem_cons_self
    have h0 : ¬ (b = 0 ∧ nf = true) := fun e => by rw [e.1] at hb; revert hb; decide
    rw [List.cons_append, comb_step a k m nf b (r ++ l) h0 (by omega), comb_hs r l _ _ m true (fun c hc => h c (List.mem_cons_of_mem _ hc)) (by simpa using hm)]
    have e1 : a + 128 ^ k * (b.toNat % 128) + 128 ^ (k + 1) * lv r = a + 128 ^ k * lv (b :: r) := by
      rw [lv, Nat.mul_add, Nat.pow_succ, Nat.mul_assoc, Nat.add_assoc]
    have e2 : k + 1 + r.length = k + (b :: r).length := by simp only [List.length_cons]; omega
    have e3 : m - r.length = m + 1 - (b :: r).length := by simp only [List.length_cons]; omega
    rw [e1, e2, e3]
    simp
theorem rd_hs (hs l : List UInt8) (h : ∀ b ∈ hs, 128 ≤ b.toNat) (hm : hs.length ≤ 8) : rd (hs ++ l) = comb (lv hs) hs.length (rdF (8 - hs.length) (!hs.isEmpty) l) := by
  rw [rd_start, comb_hs hs l 0 0 8 false h hm]
  simp
theorem rd_out (hs l : List UInt8) (h : ∀ b ∈ hs, 128 ≤ b.toNat) (hm : hs.length = 8) : rd (hs ++ l) = (0, 0, 4) := by
  rw [rd_hs hs l h (by omega), hm]; exact comb_out _ _ _ _
theorem rd_end (hs : List UInt8) (h : ∀ b ∈ hs, 128 ≤ b.toNat) (hm : hs.length < 8) : rd hs = (0, 0, 3) := by
  have := rd_hs hs [] h (by omega)
  rw [List.append_nil] at this
  obtain ⟨m, hm2⟩ : ∃ m, 8 - hs.length = m + 1 := ⟨7 - hs.length, by omega⟩
  rw [this, hm2]; exact comb_end _ _ _ _
theorem rd_null (hs l : List UInt8) (h : ∀ b ∈ hs, 128 ≤ b.toNat) (hm : hs.length < 8) (h0 : 0 < hs.length) : rd (hs ++ 0 :: l) = (0, 0, 4) := by
  obtain ⟨m, hm2⟩ : ∃ m, 8 - hs.length = m + 1 := ⟨7 - hs.length, by omega⟩
  have he : (!hs.isEmpty) = true := by cases hs with
    | nil => simp at h0
    | cons b r => rfl
  rw [rd_hs hs _ h (by omega), hm2, he]; exact comb_null _ _ _ _ _ rfl
theorem lv_app : ∀ (hs : List UInt8) (b : UInt8), lv (hs ++ [b]) = lv hs + 128 ^ hs.length * (b.toNat % 128)
  | [], b => by simp [lv]
  | c :: r, b => by rw [List.cons_append, lv, lv_app r b, lv, List.length_cons, Nat.pow_succ, Nat.mul_add, Nat.mul_comm (128 ^ r.length) 128, Nat.mul_assoc, Nat.add_assoc]
theorem rd_val (hs l : List UInt8) (b : UInt8) (h : ∀ b ∈ hs, 128 ≤ b.toNat) (hm : hs.length < 8) (hb : b.toNat < 128) (h0 : ¬ (b = 0 ∧ 0 < hs.length)) : rd (hs ++ b :: l) = (lv (hs ++ [b]), hs.length + 1, 0) := by
  obtain ⟨m, hm2⟩ : ∃ m, 8 - hs.length = m + 1 := ⟨7 - hs.length, by omega⟩
  rw [rd_hs hs _ h (by omega), hm2, comb_last _ _ _ _ _ _ (fun e => h0 ⟨e.1, by cases hs with
    | nil => simp at e
    | cons b r => simp⟩) hb, lv_app, Nat.mod_eq_of_lt hb]
end Go.Proofs.YtoggeiaofpdboaaDoor.Oct
