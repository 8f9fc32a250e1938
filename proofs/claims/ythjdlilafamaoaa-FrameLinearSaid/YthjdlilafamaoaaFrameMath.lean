/- Plain mathematics of layer 3 (frame): the sum of bytes (CRC-32C), frames. It names nothing of the program. -/
import Derived.Test.YthjdlilafamaoaaOctFMath
namespace Go.Proofs.Ythjdlilafamaoaa.Frame

/-- The register, one bit to the right. -/
def sh1 (r : Nat) : Nat := (r / 2) ^^^ (r % 2 * 2197175160)
def shk : Nat → Nat → Nat
  | 0, r => r
  | k + 1, r => sh1 (shk k r)
def sh8 (r : Nat) : Nat := shk 8 r
/-- The register behind bytes. -/
def reg (r : Nat) : List UInt8 → Nat
  | [] => r
  | b :: l => reg (sh8 (r ^^^ b.toNat)) l
/-- The sum of bytes. -/
def crc (l : List UInt8) : Nat := 4294967295 - reg 4294967295 l

theorem xor_lt {a b : Nat} (ha : a < 4294967296) (hb : b < 4294967296) : a ^^^ b < 4294967296 := Nat.xor_lt_two_pow (n := 32) ha hb
theorem sh1_lt {r : Nat} (h : r < 4294967296) : sh1 r < 4294967296 := xor_lt (by omega) (by omega)
theorem shk_lt {r : Nat} (h : r < 4294967296) (k : Nat) : shk k r < 4294967296 := by
  induction k with
  | zero => exact h
  | succ k ih => exact sh1_lt ih
theorem sh8_lt {r : Nat} (h : r < 4294967296) : sh8 r < 4294967296 := shk_lt h 8
theorem byte_lt (b : UInt8) : b.toNat < 4294967296 := by have := b.toNat_lt; omega
theorem reg_lt : ∀ (l : List UInt8) {r : Nat}, r < 4294967296 → reg r l < 4294967296 := by
  intro l
  induction l with
  | nil => intro r h; exact h
  | cons b l ih => intro r h; exact ih (sh8_lt (xor_lt h (byte_lt b)))
theorem reg_append : ∀ (l m : List UInt8) (r : Nat), reg r (l ++ m) = reg (reg r l) m := by
  intro l
  induction l with
  | nil => intro m r; rfl
  | cons b l ih => intro m r; exact ih m _
theorem crc_lt (l : List UInt8) : crc l < 4294967296 := by unfold crc; omega

theorem div2_xor (a b : Nat) : (a ^^^ b) / 2 = a / 2 ^^^ b / 2 := by
  have := Nat.shiftRight_xor_distrib (a := a) (b := b) (i := 1)
  simpa [Nat.shiftRight_eq_div_pow] using this
theorem mod2_xor (a b : Nat) : (a ^^^ b) % 2 * 2197175160 = (a % 2 * 2197175160) ^^^ (b % 2 * 2197175160) := by
  have e : (a ^^^ b) % 2 = (a % 2) ^^^ (b % 2) := by have := Nat.xor_mod_two_pow (a := a) (b := b) (n := 1); simpa using this
  rw [e]
  rcases Nat.mod_two_eq_zero_or_one a with ha | ha <;> rcases Nat.mod_two_eq_zero_or_one b with hb | hb <;> rw [ha, hb] <;> simp
theorem xor4 (a b c d : Nat) : (a ^^^ b) ^^^ (c ^^^ d) = (a ^^^ c) ^^^ (b ^^^ d) := by
  rw [Nat.xor_assoc, Nat.xor_assoc, ← Nat.xor_assoc b, Nat.xor_comm b c, Nat.xor_assoc]
theorem sh1_xor (a b : Nat) : sh1 (a ^^^ b) = sh1 a ^^^ sh1 b := by
  unfold sh1; rw [div2_xor, mod2_xor, xor4]
theorem shk_xor (a b k : Nat) : shk k (a ^^^ b) = shk k a ^^^ shk k b := by
  induction k with
  | zero => rfl
  | succ k ih => rw [shk, shk, shk, ih, sh1_xor]
theorem xor_eq_zero {a b : Nat} (h : a ^^^ b = 0) : a = b := by
  have : (a ^^^ b) ^^^ b = b := by rw [h, Nat.zero_xor]
  rwa [Nat.xor_assoc, Nat.xor_self, Nat.xor_zero] at this
theorem sh1_zero {c : Nat} (h : c < 4294967296) (e : sh1 c = 0) : c = 0 := by
  have := xor_eq_zero e
  omega
theorem shk_zero {c : Nat} (h : c < 4294967296) (k : Nat) (e : shk k c = 0) : c = 0 := by
  induction k with
  | zero => exact e
  | succ k ih => exact ih (sh1_zero (shk_lt h k) e)
theorem sh8_inj {a b : Nat} (ha : a < 4294967296) (hb : b < 4294967296) (e : sh8 a = sh8 b) : a = b := by
  have h : shk 8 (a ^^^ b) = 0 := by rw [shk_xor]; show sh8 a ^^^ sh8 b = 0; rw [e, Nat.xor_self]
  exact xor_eq_zero (shk_zero (xor_lt ha hb) 8 h)
theorem xor_left_inj {a b c : Nat} (e : a ^^^ c = b ^^^ c) : a = b := by
  have h1 : (a ^^^ c) ^^^ c = (b ^^^ c) ^^^ c := by rw [e]
  rwa [Nat.xor_assoc, Nat.xor_assoc, Nat.xor_self, Nat.xor_zero, Nat.xor_zero] at h1
theorem reg_inj : ∀ (l : List UInt8) {a b : Nat}, a < 4294967296 → b < 4294967296 → reg a l = reg b l → a = b := by
  intro l
  induction l with
  | nil => intro a b _ _ e; exact e
  | cons c l ih => intro a b ha hb e; exact xor_left_inj (sh8_inj (xor_lt ha (byte_lt c)) (xor_lt hb (byte_lt c)) (ih (sh8_lt (xor_lt ha (byte_lt c))) (sh8_lt (xor_lt hb (byte_lt c))) e))
/-- One byte turned: another register. -/
theorem reg_turned {r : Nat} (hr : r < 4294967296) (l m : List UInt8) (b c : UInt8) (e : reg r (l ++ b :: m) = reg r (l ++ c :: m)) : b = c := by
  rw [reg_append, reg_append] at e
  have hl := reg_lt l hr
  have h1 := reg_inj m (sh8_lt (xor_lt hl (byte_lt b))) (sh8_lt (xor_lt hl (byte_lt c))) e
  have h2 := sh8_inj (xor_lt hl (byte_lt b)) (xor_lt hl (byte_lt c)) h1
  rw [Nat.xor_comm, Nat.xor_comm _ c.toNat] at h2
  exact UInt8.toNat_inj.1 (xor_left_inj h2)
theorem crc_turned (l m : List UInt8) (b c : UInt8) (e : crc (l ++ b :: m) = crc (l ++ c :: m)) : b = c := by
  have h1 := reg_lt (l ++ b :: m) (r := 4294967295) (by omega)
  have h2 := reg_lt (l ++ c :: m) (r := 4294967295) (by omega)
  unfold crc at e
  exact reg_turned (r := 4294967295) (by omega) l m b c (by omega)

theorem not_xor (x : Nat) (hx : x < 4294967296) : 4294967295 ^^^ x = 4294967295 - x := by
  have e : (4294967295 : Nat) = 2 ^ 32 - 1 := rfl
  apply Nat.eq_of_testBit_eq
  intro i
  rw [Nat.testBit_xor, e, Nat.testBit_two_pow_sub_one, show 2 ^ 32 - 1 - x = 2 ^ 32 - (x + 1) by omega, Nat.testBit_two_pow_sub_succ (by simpa using hx)]
  by_cases h : i < 32
  · simp [h]
  · simp [h]; exact Nat.testBit_lt_two_pow (Nat.lt_of_lt_of_le hx (Nat.pow_le_pow_right (by omega) (by omega) : 2 ^ 32 ≤ 2 ^ i))
theorem crc_eq (l : List UInt8) : crc l = 4294967295 ^^^ reg 4294967295 l := (not_xor _ (reg_lt l (by omega))).symm

/-- Bytes turned by bytes. -/
def xorl (l m : List UInt8) : List UInt8 := List.zipWith (· ^^^ ·) l m
theorem reg_xorl : ∀ (l m : List UInt8) (a b : Nat), l.length = m.length → reg (a ^^^ b) (xorl l m) = reg a l ^^^ reg b m := by
  intro l
  induction l with
  | nil => intro m a b h; cases m with
    | nil => rfl
    | cons c m => simp at h
  | cons c l ih =>
    intro m a b h
    cases m with
    | nil => simp at h
    | cons d m =>
      show reg (sh8 ((a ^^^ b) ^^^ (c ^^^ d).toNat)) (xorl l m) = _
      rw [UInt8.toNat_xor, xor4]
      unfold sh8
      rw [shk_xor, ih m _ _ (by simpa using h)]
      rfl
/-- Turned by the same bytes, two texts have sums that are turned alike. -/
theorem crc_linear (s t u : List UInt8) (h1 : s.length = u.length) (h2 : t.length = u.length) : crc s ^^^ crc t = crc (xorl s u) ^^^ crc (xorl t u) := by
  have e1 : reg 4294967295 (xorl s u) = reg 4294967295 s ^^^ reg 0 u := by have := reg_xorl s u 4294967295 0 h1; rwa [Nat.xor_zero] at this
  have e2 : reg 4294967295 (xorl t u) = reg 4294967295 t ^^^ reg 0 u := by have := reg_xorl t u 4294967295 0 h2; rwa [Nat.xor_zero] at this
  rw [crc_eq, crc_eq, crc_eq, crc_eq, e1, e2, xor4, xor4 4294967295 _ 4294967295, xor4 (reg _ s), Nat.xor_self, Nat.xor_self, Nat.xor_zero]

/-- A text's frame. -/
def frameB (l : List UInt8) : List UInt8 := Oct.fixedB 4 (crc (Oct.fixedB 2 l.length ++ l)) ++ (Oct.fixedB 2 l.length ++ l)
theorem frameB_len (l : List UInt8) : (frameB l).length = l.length + 6 := by simp [frameB, Oct.fixedB_len]; omega
end Go.Proofs.Ythjdlilafamaoaa.Frame
