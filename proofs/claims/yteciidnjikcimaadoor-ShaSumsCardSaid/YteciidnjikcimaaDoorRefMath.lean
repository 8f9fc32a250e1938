/- Plain mathematics of the document's own answer of layer 2: numbers as digits, roots, primes. -/
import Derived.Test.YteciidnjikcimaaDoorShaMath
namespace Go.Proofs.YteciidnjikcimaaDoor.Sha

/-- The first n digits of a number, in base 65536. -/
def vs (f : Nat → Nat) : Nat → Nat
  | 0 => 0
  | n + 1 => vs f n + f n * 65536 ^ n
theorem vs_congr (f g : Nat → Nat) (n : Nat) (h : ∀ j, j < n → f j = g j) : vs f n = vs g n := by
  induction n with
  | zero => rfl
  | succ n ih => rw [vs, vs, ih (fun j hj => h j (by omega)), h n (by omega)]
theorem vs_lt (f : Nat → Nat) (n : Nat) (h : ∀ j, j < n → f j < 65536) : vs f n < 65536 ^ n := by
  induction n with
  | zero => simp [vs]
  | succ n ih =>
    have h1 := ih (fun j hj => h j (by omega))
    have h2 := h n (by omega)
    have h3 : f n * 65536 ^ n ≤ 65535 * 65536 ^ n := Nat.mul_le_mul_right _ (by omega)
    rw [vs, Nat.pow_succ]
    omega
theorem vs_zero (f : Nat → Nat) (m n : Nat) (h : m ≤ n) (h0 : ∀ j, m ≤ j → f j = 0) : vs f n = vs f m := by
  induction n with
  | zero => have : m = 0 := by omega
            subst this; rfl
  | succ n ih =>
    by_cases e : m = n + 1
    · subst e; rfl
    · rw [vs, h0 n (by omega), ih (by omega)]; omega
/-- One digit is turned. -/
theorem vs_set (f g : Nat → Nat) (i n : Nat) (hi : i < n) (h : ∀ j, j ≠ i → g j = f j) : vs g n + f i * 65536 ^ i = vs f n + g i * 65536 ^ i := by
  induction n with
  | zero => omega
  | succ n ih =>
    rw [vs, vs]
    by_cases e : i = n
    · subst e
      rw [vs_congr g f i (fun j hj => h j (by omega))]
      omega
    · have := ih (by omega)
      rw [h n (by omega)]
      omega
theorem vs_above (f g : Nat → Nat) (i n : Nat) (hi : i ≤ n) (h : ∀ j, i ≤ j → j < n → f j = g j) : vs f n + vs g i = vs g n + vs f i := by
  induction n with
  | zero => have : i = 0 := by omega
            subst this; rfl
  | succ n ih =>
    by_cases e : i = n + 1
    · subst e; omega
    · have := ih (by omega) (fun j h1 h2 => h j h1 (by omega))
      rw [vs, vs, h n (by omega) (by omega)]
      omega
theorem vs_more (f g : Nat → Nat) (i n : Nat) (hi : i < n) (hf : ∀ j, j < n → f j < 65536) (hg : ∀ j, j < n → g j < 65536) (h : ∀ j, i < j → j < n → f j = g j) (hl : g i < f i) : vs g n < vs f n := by
  have h1 := vs_above f g (i + 1) n (by omega) (fun j a b => h j (by omega) b)
  have h2 := vs_lt g i (fun j hj => hg j (by omega))
  have h3 : g i * 65536 ^ i + 65536 ^ i ≤ f i * 65536 ^ i := by
    rw [← Nat.succ_mul]; exact Nat.mul_le_mul_right _ hl
  have e1 : vs f (i + 1) = vs f i + f i * 65536 ^ i := rfl
  have e2 : vs g (i + 1) = vs g i + g i * 65536 ^ i := rfl
  omega
/-- A number, by its digits. -/
def val (l : List Nat) : Nat := vs (wd l) l.length
/-- All are digits. -/
def Dig (l : List Nat) : Prop := ∀ j, wd l j < 65536
theorem wd_out (l : List Nat) (j : Nat) (h : l.length ≤ j) : wd l j = 0 := by
  unfold wd; rw [List.getD_eq_getElem?_getD, List.getElem?_eq_none h]; rfl
theorem wd_in (l : List Nat) (j : Nat) (h : j < l.length) : wd l j = l[j] := by
  unfold wd; rw [List.getD_eq_getElem?_getD, List.getElem?_eq_getElem h]; rfl
theorem val_pad (l : List Nat) (n : Nat) (h : l.length ≤ n) : vs (wd l) n = val l := vs_zero _ _ _ h (fun j hj => wd_out l j hj)
theorem wd_set_eq (l : List Nat) (i x : Nat) (h : i < l.length) : wd (l.set i x) i = x := by
  unfold wd; simp [List.getD_eq_getElem?_getD, h]
theorem wd_set_ne (l : List Nat) (i j x : Nat) (h : j ≠ i) : wd (l.set i x) j = wd l j := by
  unfold wd; simp only [List.getD_eq_getElem?_getD, List.getElem?_set]; rw [if_neg (by omega)]
theorem Dig.set {l : List Nat} (h : Dig l) (i x : Nat) (hx : x < 65536) : Dig (l.set i x) := by
  intro j
  by_cases e : j = i
  · subst e
    by_cases hl : j < l.length
    · rw [wd_set_eq _ _ _ hl]; exact hx
    · rw [wd_out _ _ (by simp; omega)]; omega
  · rw [wd_set_ne _ _ _ _ e]; exact h j
theorem val_lt (l : List Nat) (h : Dig l) : val l < 65536 ^ l.length := vs_lt _ _ (fun j _ => h j)

/-- Is the first one above? -/
theorem more_val (a b : List Nat) (i n : Nat) (ha : a.length ≤ n) (hb : b.length ≤ n) (da : Dig a) (db : Dig b) (hi : i < n) (h : ∀ j, i < j → j < n → wd a j = wd b j) (hl : wd b i < wd a i) : val b < val a := by
  rw [← val_pad a n ha, ← val_pad b n hb]
  exact vs_more _ _ i n hi (fun j _ => da j) (fun j _ => db j) h hl
theorem same_val (a b : List Nat) (n : Nat) (ha : a.length ≤ n) (hb : b.length ≤ n) (h : ∀ j, j < n → wd a j = wd b j) : val a = val b := by
  rw [← val_pad a n ha, ← val_pad b n hb]
  exact vs_congr _ _ _ h

/-- What the inner rounds of a product hold: row i of a, up to digit k of b, and what is carried. -/
structure Inn (a b o0 o : List Nat) (i k c : Nat) : Prop where
  len : o.length = a.length + b.length + 1
  dig : Dig o
  car : c < 65536
  eq : val o + c * 65536 ^ (i + k) = val o0 + wd a i * vs (wd b) k * 65536 ^ i
theorem inn_step (a b o0 o : List Nat) (i k c : Nat) (h : Inn a b o0 o i k c) (da : Dig a) (db : Dig b) (hik : i + k < o.length) :
    Inn a b o0 (o.set (i + k) ((c + wd o (i + k) + wd a i * wd b k) % 65536)) i (k + 1) ((c + wd o (i + k) + wd a i * wd b k) / 65536) ∧ c + wd o (i + k) + wd a i * wd b k < 4294967296 := by
  have h1 := h.dig (i + k)
  have h2 := h.car
  have h3 := da i
  have h4 := db k
  have h5 : wd a i * wd b k ≤ 65535 * 65535 := Nat.mul_le_mul (by omega) (by omega)
  obtain ⟨t, ht⟩ : ∃ t, c + wd o (i + k) + wd a i * wd b k = t := ⟨_, rfl⟩
  have htb : t < 4294967296 := by omega
  rw [ht]
  refine ⟨⟨by rw [List.length_set]; exact h.len, h.dig.set _ _ (by omega), by omega, ?_⟩, htb⟩
  have e1 : val (o.set (i + k) (t % 65536)) + wd o (i + k) * 65536 ^ (i + k) = val o + (t % 65536) * 65536 ^ (i + k) := by
    have := vs_set (wd o) (wd (o.set (i + k) (t % 65536))) (i + k) o.length hik (fun j hj => wd_set_ne _ _ _ _ hj)
    rw [wd_set_eq _ _ _ hik] at this
    unfold val; rw [List.length_set]; exact this
  have e2 := h.eq
  have e3 : 65536 ^ (i + (k + 1)) = 65536 ^ (i + k) * 65536 := by rw [← Nat.add_assoc, Nat.pow_succ]
  have e4 : t * 65536 ^ (i + k) = (t % 65536) * 65536 ^ (i + k) + (t / 65536) * 65536 ^ (i + (k + 1)) := by
    have : t = t % 65536 + (t / 65536) * 65536 := by omega
    rw [e3, Nat.mul_comm (65536 ^ (i + k)) 65536, ← Nat.mul_assoc, ← Nat.add_mul, ← this]
  have e5 : wd a i * vs (wd b) (k + 1) * 65536 ^ i = wd a i * vs (wd b) k * 65536 ^ i + wd a i * wd b k * 65536 ^ (i + k) := by
    rw [vs, Nat.mul_add, Nat.add_mul, Nat.pow_add, ← Nat.mul_assoc (wd a i) (wd b k)]
    congr 1
    rw [Nat.mul_assoc, Nat.mul_comm (65536 ^ k), ]
  have e6 : t * 65536 ^ (i + k) = c * 65536 ^ (i + k) + wd o (i + k) * 65536 ^ (i + k) + wd a i * wd b k * 65536 ^ (i + k) := by
    rw [← ht, Nat.add_mul, Nat.add_mul]
  rw [e5]
  omega
/-- What the outer rounds of a product hold: the first i digits of a are done. -/
structure Out (a b o : List Nat) (i : Nat) : Prop where
  len : o.length = a.length + b.length + 1
  dig : Dig o
  eq : val o = vs (wd a) i * val b
theorem inn_start (a b o : List Nat) (i : Nat) (h : Out a b o i) : Inn a b o o i 0 0 := ⟨h.len, h.dig, by omega, by simp [vs]⟩
/-- As long as something is carried there is room. -/
theorem inn_room (a b o0 o : List Nat) (i k c : Nat) (h0 : Out a b o0 i) (h : Inn a b o0 o i k c) (da : Dig a) (db : Dig b) (hi : i < a.length) (hc : 0 < c) (hk : b.length ≤ k) : i + k < a.length + b.length := by
  have h1 : vs (wd b) k = val b := val_pad b k hk
  have h2 := h.eq
  rw [h1, h0.eq] at h2
  have h3 : vs (wd a) i * val b + wd a i * val b * 65536 ^ i = vs (wd a) (i + 1) * val b := by
    rw [vs, Nat.add_mul, Nat.mul_right_comm]
  have h4 : vs (wd a) (i + 1) < 65536 ^ (i + 1) := vs_lt _ _ (fun j _ => da j)
  have h5 := val_lt b db
  have h6 : vs (wd a) (i + 1) * val b ≤ 65536 ^ (i + 1) * val b := Nat.mul_le_mul_right _ (Nat.le_of_lt h4)
  have h7 : 65536 ^ (i + 1) * val b < 65536 ^ (i + 1) * 65536 ^ b.length := Nat.mul_lt_mul_of_pos_left h5 (Nat.pow_pos (by omega))
  have h8 : 65536 ^ (i + 1) * 65536 ^ b.length ≤ 65536 ^ (a.length + b.length) := by
    rw [← Nat.pow_add]; exact Nat.pow_le_pow_right (by omega) (by omega)
  have h9 : 65536 ^ (i + k) ≤ c * 65536 ^ (i + k) := Nat.le_mul_of_pos_left _ hc
  have h10 : 65536 ^ (i + k) < 65536 ^ (a.length + b.length) := by omega
  exact (Nat.pow_lt_pow_iff_right (by omega)).1 h10
theorem out_step (a b o0 o : List Nat) (i k : Nat) (h0 : Out a b o0 i) (h : Inn a b o0 o i k 0) (hk : b.length ≤ k) : Out a b o (i + 1) := by
  refine ⟨h.len, h.dig, ?_⟩
  have h1 : vs (wd b) k = val b := val_pad b k hk
  have h2 := h.eq
  rw [h1, h0.eq] at h2
  rw [vs, Nat.add_mul, Nat.mul_right_comm]
  omega
theorem out_start (a b : List Nat) : Out a b (List.replicate (a.length + b.length + 1) 0) 0 := by
  have hz : ∀ n j, wd (List.replicate n 0) j = 0 := by
    intro n j; unfold wd; simp only [List.getD_eq_getElem?_getD, List.getElem?_replicate]; split <;> rfl
  refine ⟨by simp, fun j => by rw [hz]; omega, ?_⟩
  unfold val
  rw [vs_zero _ 0 _ (Nat.zero_le _) (fun j _ => hz _ j)]
  simp [vs]
theorem out_end (a b o : List Nat) (h : Out a b o a.length) : val o = val a * val b := h.eq

/-- A number below 2^48, as digits. -/
def bigL (x : Nat) : List Nat := [x % 65536, x / 65536 % 65536, x / 65536 / 65536]
theorem bigL_dig (x : Nat) (h : x < 281474976710656) : Dig (bigL x) := by
  intro j
  match j with
  | 0 => show x % 65536 < 65536; omega
  | 1 => show x / 65536 % 65536 < 65536; omega
  | 2 => show x / 65536 / 65536 < 65536; omega
  | j + 3 => rw [wd_out _ _ (by simp [bigL])]; omega
theorem bigL_val (x : Nat) : val (bigL x) = x := by
  show ((0 + x % 65536 * 65536 ^ 0) + (x / 65536 % 65536) * 65536 ^ 1) + (x / 65536 / 65536) * 65536 ^ 2 = x
  rw [show (65536 : Nat) ^ 0 = 1 by rfl, show (65536 : Nat) ^ 1 = 65536 by rfl, show (65536 : Nat) ^ 2 = 65536 * 65536 by rfl]
  omega
/-- What a root is sought of. -/
def wantL (n p : Nat) : List Nat := List.replicate n 0 ++ [p]
theorem wantL_val (n p : Nat) : val (wantL n p) = p * 65536 ^ n := by
  have hz : ∀ j, j < n → wd (wantL n p) j = 0 := by
    intro j hj; unfold wd wantL; simp [List.getD_eq_getElem?_getD, List.getElem?_append, hj]
  have hn : wd (wantL n p) n = p := by unfold wd wantL; simp [List.getD_eq_getElem?_getD]
  have hl : (wantL n p).length = n + 1 := by simp [wantL]
  unfold val
  rw [hl, vs, hn]
  have : vs (wd (wantL n p)) n = 0 := by
    have : vs (wd (wantL n p)) n = vs (fun _ => 0) n := vs_congr _ _ _ hz
    rw [this, vs_zero _ 0 n (Nat.zero_le _) (fun _ _ => rfl)]; rfl
  omega
theorem wantL_dig (n p : Nat) (h : p < 65536) : Dig (wantL n p) := by
  intro j
  unfold wd wantL
  simp only [List.getD_eq_getElem?_getD, List.getElem?_append, List.length_replicate, List.getElem?_replicate]
  split
  · rename_i hj; simp
  · rename_i hj
    rcases Nat.eq_zero_or_pos (j - n) with e | e
    · rw [e]; simpa using h
    · rw [List.getElem?_eq_none (by simp; omega)]; simp
theorem root_one (e T u v : Nat) (he : e ≠ 0) (h1 : u ^ e ≤ T) (h2 : T < (u + 1) ^ e) (h3 : v ^ e ≤ T) (h4 : T < (v + 1) ^ e) : u = v := by
  rcases Nat.lt_trichotomy u v with h | h | h
  · have := Nat.pow_le_pow_left (show u + 1 ≤ v by omega) e; omega
  · exact h
  · have := Nat.pow_le_pow_left (show v + 1 ≤ u by omega) e; omega

/-- The primes among the first k numbers from 2 on. -/
def prm : Nat → List Nat
  | 0 => []
  | k + 1 => if (prm k).all (fun p => (k + 2) % p != 0) then prm k ++ [k + 2] else prm k
theorem prm_mono (k n : Nat) (h : k ≤ n) : (prm k).length ≤ (prm n).length := by
  induction n with
  | zero => have : k = 0 := by omega
            subst this; exact Nat.le_refl _
  | succ n ih =>
    by_cases e : k = n + 1
    · subst e; exact Nat.le_refl _
    · have := ih (by omega)
      rw [prm]
      split
      · rw [List.length_append]; omega
      · exact this
theorem prm_le (k : Nat) : (prm k).length ≤ k ∧ ∀ p ∈ prm k, 2 ≤ p ∧ p ≤ k + 1 := by
  induction k with
  | zero => exact ⟨Nat.le_refl _, fun p h => by cases h⟩
  | succ k ih =>
    rw [prm]
    split
    · refine ⟨by rw [List.length_append]; simp; exact ih.1, fun p h => ?_⟩
      rcases List.mem_append.1 h with h | h
      · have := ih.2 p h; omega
      · simp at h; omega
    · exact ⟨by have := ih.1; omega, fun p h => by have := ih.2 p h; omega⟩
/-- The broken part's whole root. -/
def rootC (p x : Nat) : Nat := (if 216 ≤ p then 6 else if 125 ≤ p then 5 else if 64 ≤ p then 4 else if 27 ≤ p then 3 else if 8 ≤ p then 2 else 1) * 4294967296 + x
def rootS (p x : Nat) : Nat := (if 16 ≤ p then 4 else if 9 ≤ p then 3 else if 4 ≤ p then 2 else 1) * 4294967296 + x
theorem prm64 : (prm 310).length = 64 := by decide +kernel
theorem prm63 : (prm 309).length = 63 := by decide +kernel
theorem prm8 : (prm 18).length = 8 := by decide +kernel
theorem prm7 : (prm 17).length = 7 := by decide +kernel
theorem roots_k : ∀ i, i < 64 → (rootC (wd (prm 310) i) (wd kk i)) ^ 3 ≤ wd (prm 310) i * 65536 ^ 6 ∧ wd (prm 310) i * 65536 ^ 6 < (rootC (wd (prm 310) i) (wd kk i) + 1) ^ 3 ∧ rootC (wd (prm 310) i) (wd kk i) % 4294967296 = wd kk i ∧ wd (prm 310) i < 400 := by decide +kernel
theorem roots_h : ∀ i, i < 8 → (rootS (wd (prm 18) i) (wd hh i)) ^ 2 ≤ wd (prm 18) i * 65536 ^ 4 ∧ wd (prm 18) i * 65536 ^ 4 < (rootS (wd (prm 18) i) (wd hh i) + 1) ^ 2 ∧ rootS (wd (prm 18) i) (wd hh i) % 4294967296 = wd hh i ∧ wd (prm 18) i < 400 := by decide +kernel
end Go.Proofs.YteciidnjikcimaaDoor.Sha
