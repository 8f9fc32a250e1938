/- Plain mathematics of layer 6 (gap): a row's bytes, and what is read of them, wherever they stand. -/
import Derived.Test.YtoggeiaofpdboaaGapMath
import Derived.Test.YtoggeiaofpdboaaIntKit
import Derived.Test.YtoggeiaofpdboaaOctE
namespace Go.Proofs.Ytoggeiaofpdboaa.Gap
open Go Go.RowKit Go.Lib Oct Num

/-- The bytes that lead to a target. -/
def st1 (first : Bool) (now t : Int) : List UInt8 := if first then short (turnOf (t - now)).toNat else short (t - now - 1).toNat
/-- The bytes of targets, behind their number. -/
def sts : Bool → Int → List Int → List UInt8
  | _, _, [] => []
  | first, now, t :: l => st1 first now t ++ sts false t l
/-- Targets that may follow. -/
def Rises (N : Int) : Bool → Int → List Int → Prop
  | _, _, [] => True
  | first, now, t :: l => (0 ≤ t ∧ t < N) ∧ (first = false → now < t) ∧ Rises N false t l
theorem bk_turn (x : Int) (h0 : -36028797018963968 ≤ x) (h1 : x < 36028797018963968) : bkI ((turnOf x).toNat : Int) = x := by
  have e : turnOf x = if x < 0 then -2 * x - 1 else 2 * x := by unfold turnOf; rw [if_pos ⟨h0, h1⟩]
  rw [e]
  unfold bkI
  by_cases hx : x < 0
  · rw [if_pos hx, if_pos (by omega)]; omega
  · rw [if_neg hx, if_neg (by omega)]; omega
theorem turn_bk (x : Int) (h0 : 0 ≤ x) (h1 : x ≤ 72057594037927935) : turnOf (bkI x) = x := by
  unfold turnOf bkI
  split
  · rw [if_pos (by omega), if_pos (by omega)]; omega
  · rw [if_pos (by omega), if_neg (by omega)]; omega
theorem turn_lt (x : Int) (h0 : -100000 ≤ x) (h1 : x ≤ 100000) : (turnOf x).toNat < 2 ^ 56 := by
  unfold turnOf
  rw [if_pos (by omega)]
  split <;> omega
/-- A number that stands at a place is read. -/
theorem rdG_at {s : ByteArray} {p n : Nat} {t : List UInt8} (hn : n < 2 ^ 56) (hp : p ≤ s.size) (h : s.data.toList.drop p = short n ++ t) : rdG s (p : Int) = ((n : Int), ((p + (short n).length : Nat) : Int), 0, 0) := by
  unfold rdG
  rw [if_neg (by omega), Int.toNat_natCast, h, rd_short n t hn]
  simp
theorem drop_app {s : ByteArray} {p : Nat} {a t : List UInt8} (h : s.data.toList.drop p = a ++ t) : s.data.toList.drop (p + a.length) = t := by
  rw [← List.drop_drop, h, List.drop_left]
theorem drop_le {s : ByteArray} {p : Nat} {a t : List UInt8} (hp : p ≤ s.size) (h : s.data.toList.drop p = a ++ t) : p + a.length ≤ s.size := by
  have := congrArg List.length h
  rw [List.length_drop, List.length_append] at this
  have e : s.data.toList.length = s.size := rfl
  omega
/-- Targets that stand at a place are read. -/
theorem gtF_at {s : ByteArray} {N : Int} (hN : N ≤ 4096) : ∀ (l : List Int) (first : Bool) (now : Int) (p : Nat) (t : List UInt8), 0 ≤ now → now ≤ 4096 → Rises N first now l → p ≤ s.size → s.data.toList.drop p = sts first now l ++ t →
    gtF s N l.length first now (p : Int) = .inr (l, ((p + (sts first now l).length : Nat) : Int))
  | [], first, now, p, t, _, _, _, _, _ => by simp [gtF, sts]
  | x :: l, first, now, p, t, h0, h1, hR, hp, h => by
    obtain ⟨hx, hup, hr⟩ := hR
    rw [sts, List.append_assoc] at h
    have ih := gtF_at hN l false x (p + (st1 first now x).length) t (by omega) (by omega) hr (drop_le hp h) (drop_app h)
    rw [List.length_cons, gtF, sts, List.length_append]
    cases first with
    | true =>
      have e := rdG_at (turn_lt (x - now) (by omega) (by omega)) hp (show s.data.toList.drop p = short (turnOf (x - now)).toNat ++ _ from h)
      rw [e]
      simp only [if_true]
      rw [bk_turn (x - now) (by omega) (by omega), show now + (x - now) = x by omega, if_neg (by omega)]
      rw [show (st1 true now x) = short (turnOf (x - now)).toNat from rfl] at ih ⊢
      rw [ih, Nat.add_assoc]
    | false =>
      have := hup rfl
      have e := rdG_at (n := (x - now - 1).toNat) (by omega) hp (show s.data.toList.drop p = short (x - now - 1).toNat ++ _ from h)
      rw [e]
      simp only [if_true, Bool.false_eq_true, if_false]
      rw [show now + ((x - now - 1).toNat : Int) + 1 = x by omega, if_neg (by omega)]
      rw [show (st1 false now x) = short (x - now - 1).toNat from rfl] at ih ⊢
      rw [ih, Nat.add_assoc]
/-- What is read is what stands there. -/
theorem gtF_is {s : ByteArray} {N : Int} (hN : N ≤ 4096) : ∀ (k : Nat) (first : Bool) (now : Int) (p : Nat) (l : List Int) (nx : Int), 0 ≤ now → now < N → p ≤ s.size → gtF s N k first now (p : Int) = .inr (l, nx) →
    l.length = k ∧ Rises N first now l ∧ nx = ((p + (sts first now l).length : Nat) : Int) ∧ nx ≤ s.size ∧ s.data.toList.drop p = sts first now l ++ s.data.toList.drop (p + (sts first now l).length)
  | 0, first, now, p, l, nx, _, _, hp, h => by
    rw [gtF] at h
    injection h with h
    injection h with h1 h2
    subst h1 h2
    exact ⟨rfl, trivial, by simp [sts], by omega, by simp [sts]⟩
  | k + 1, first, now, p, l, nx, h0, h1, hp, h => by
    rw [gtF] at h
    rcases hg : rdG s (p : Int) with ⟨x, n2, e, a⟩
    rw [hg] at h
    simp only at h
    by_cases he : e = 0
    · subst he
      rw [if_pos rfl] at h
      obtain ⟨⟨hx0, hx1⟩, -, hpn, hns, -, hz, hxe, hne⟩ := rdG_ok hg
      rw [Int.toNat_natCast] at hz hxe hne
      have hsr := short_of_rd _ hz
      obtain ⟨y, hy⟩ : ∃ y, (if first = true then now + bkI x else now + x + 1) = y := ⟨_, rfl⟩
      rw [hy] at h
      by_cases hb : y < 0 ∨ N ≤ y
      · rw [if_pos hb] at h; cases h
      rw [if_neg hb] at h
      obtain ⟨q, hq⟩ : ∃ q : Nat, n2 = (q : Int) := ⟨n2.toNat, by omega⟩
      rw [hq] at h
      cases hr : gtF s N k false y (q : Int) with
      | inl z => rw [hr] at h; cases h
      | inr z =>
        obtain ⟨l2, n3⟩ := z
        rw [hr] at h
        simp only at h
        injection h with h
        injection h with e1 e2
        subst e1 e2
        obtain ⟨i1, i2, i3, i4, i5⟩ := gtF_is hN k false y q l2 n3 (by omega) (by omega) (by omega) hr
        have hst : st1 first now y = short x.toNat := by
          unfold st1
          cases first with
          | true =>
            simp only [if_true] at hy ⊢
            rw [show y - now = bkI x by omega, turn_bk x hx0 hx1]
          | false =>
            simp only [Bool.false_eq_true, if_false] at hy ⊢
            rw [show y - now - 1 = x by omega]
        have hup : first = false → now < y := fun hf => by
          subst hf
          simp only [Bool.false_eq_true, if_false] at hy
          omega
        have hxn : x.toNat = (rd (s.data.toList.drop p)).1 := by omega
        obtain ⟨g1, g2, g3, g4, g5⟩ := hsr
        have hlen : (short x.toNat).length = (rd (s.data.toList.drop p)).2.1 := by
          have := congrArg List.length g1
          rw [List.length_take] at this
          rw [hxn]
          omega
        have hqp : q = p + (st1 first now y).length := by rw [hst, hlen]; omega
        have hd : s.data.toList.drop p = st1 first now y ++ s.data.toList.drop q := by
          rw [hqp, ← List.drop_drop, hst, hlen, hxn, g1, List.take_append_drop]
        refine ⟨by rw [List.length_cons, i1], ⟨⟨by omega, by omega⟩, hup, i2⟩, ?_, i4, ?_⟩
        · rw [sts, List.length_append, i3, hqp]; congr 1; omega
        · rw [sts, List.length_append, List.append_assoc]
          rw [hd, i5, hqp, Nat.add_assoc]
    · rw [if_neg he] at h; cases h
theorem skF_of_gtF {s : ByteArray} {N at0 : Int} : ∀ (k : Nat) (first : Bool) (now p : Int) (l : List Int) (nx : Int), gtF s N k first now p = .inr (l, nx) → skF s at0 k p = (nx, 0, 0)
  | 0, first, now, p, l, nx, h => by
    rw [gtF] at h
    injection h with h
    injection h with h1 h2
    subst h2
    rfl
  | k + 1, first, now, p, l, nx, h => by
    rw [gtF] at h
    rcases hg : rdG s p with ⟨x, n2, e, a⟩
    rw [hg] at h
    simp only at h
    by_cases he : e = 0
    · subst he
      rw [if_pos rfl] at h
      rw [skF_ok hg]
      obtain ⟨y, hy⟩ : ∃ y, (if first = true then now + bkI x else now + x + 1) = y := ⟨_, rfl⟩
      rw [hy] at h
      by_cases hb : y < 0 ∨ N ≤ y
      · rw [if_pos hb] at h; cases h
      rw [if_neg hb] at h
      cases hr : gtF s N k false y n2 with
      | inl z => rw [hr] at h; cases h
      | inr z =>
        obtain ⟨l2, n3⟩ := z
        rw [hr] at h
        simp only at h
        injection h with h
        injection h with e1 e2
        subst e2
        exact skF_of_gtF k false y n2 l2 n3 hr
    · rw [if_neg he] at h; cases h
/-- The last of some targets, or the node. -/
def lastOf (now : Int) : List Int → Int
  | [] => now
  | t :: l => lastOf t l
theorem sts_snoc : ∀ (l : List Int) (first : Bool) (now t : Int), sts first now (l ++ [t]) = sts first now l ++ st1 (first && l.isEmpty) (lastOf now l) t
  | [], first, now, t => by simp [sts, lastOf]
  | x :: l, first, now, t => by
    rw [List.cons_append, sts, sts, sts_snoc l false x t, List.append_assoc]
    simp [lastOf]
theorem lastOf_take (now : Int) : ∀ (l : List Int) (k : Nat), k < l.length → lastOf now (l.take (k + 1)) = l.getD k 0
  | [], k, h => absurd h (by simp)
  | x :: l, 0, _ => by simp [lastOf]
  | x :: l, k + 1, h => by
    rw [List.take_succ_cons, lastOf, lastOf_take x l k (by simpa using h)]
    simp
theorem putF_sts (v : Int) (l : List Int) : ∀ k, k ≤ l.length → putF v l k = short l.length ++ sts true v (l.take k)
  | 0, _ => by simp [putF, sts]
  | 1, h => by
    rw [putF, take_nt l 0 h]
    simp [sts, st1, nt]
  | k + 2, h => by
    rw [putF, putF_sts v l (k + 1) (by omega), take_nt l (k + 1) h, sts_snoc, ← List.append_assoc, lastOf_take v l k (by omega)]
    have e : (l.take (k + 1)).isEmpty = false := by
      cases hl : l.take (k + 1) with
      | nil => have := congrArg List.length hl; rw [List.length_take, List.length_nil] at this; omega
      | cons a b => rfl
    rw [e]
    rfl
theorem putF_all (v : Int) (l : List Int) : putF v l l.length = short l.length ++ sts true v l := by rw [putF_sts v l l.length (Nat.le_refl _), List.take_length]
/-- Targets that may be a row's, each by its number. -/
theorem rises_of {N : Int} : ∀ (l : List Int) (first : Bool) (now : Int), (∀ i, i < l.length → 0 ≤ nt l i ∧ nt l i < N) → (∀ i, i + 1 < l.length → nt l i < nt l (i + 1)) → (first = false → 0 < l.length → now < nt l 0) → Rises N first now l
  | [], _, _, _, _, _ => trivial
  | x :: l, first, now, h1, h2, h3 => by
    refine ⟨h1 0 (by simp), fun hf => h3 hf (by simp), rises_of l false x (fun i hi => h1 (i + 1) (by simpa using hi)) (fun i hi => h2 (i + 1) (by simpa using hi)) (fun _ hl => h2 0 (by simpa using hl))⟩
theorem of_rises {N : Int} : ∀ (l : List Int) (first : Bool) (now : Int), Rises N first now l → (∀ i, i < l.length → 0 ≤ nt l i ∧ nt l i < N) ∧ (∀ i, i + 1 < l.length → nt l i < nt l (i + 1)) ∧ (first = false → 0 < l.length → now < nt l 0)
  | [], _, _, _ => ⟨fun i hi => absurd hi (by simp), fun i hi => absurd hi (by simp), fun _ h => absurd h (by simp)⟩
  | x :: l, first, now, ⟨hx, hup, hr⟩ => by
    obtain ⟨i1, i2, i3⟩ := of_rises l false x hr
    refine ⟨fun i hi => ?_, fun i hi => ?_, fun hf _ => hup hf⟩
    · cases i with
      | zero => exact hx
      | succ i => exact i1 i (by simpa using hi)
    · cases i with
      | zero => exact i3 rfl (by simpa using hi)
      | succ i => exact i2 i (by simpa using hi)
/-- Targets that may be a row's. -/
def GoodT (N : Int) (l : List Int) : Prop := (∀ i, i < l.length → 0 ≤ nt l i ∧ nt l i < N) ∧ ∀ i, i + 1 < l.length → nt l i < nt l (i + 1)
theorem goodT_iff {N : Int} {l : List Int} : GoodT N l ↔ ∀ i, i < l.length → ¬ badT N l i := by
  constructor
  · intro ⟨h1, h2⟩ i hi hb
    have := h1 i hi
    rcases hb with hb | hb | ⟨hb0, hb⟩
    · unfold nt at this; omega
    · unfold nt at this; omega
    · have := h2 (i - 1) (by omega)
      unfold nt at this
      rw [show i - 1 + 1 = i by omega] at this
      omega
  · intro h
    refine ⟨fun i hi => ?_, fun i hi => ?_⟩
    · have := h i hi
      unfold badT at this
      unfold nt
      omega
    · have := h (i + 1) hi
      unfold badT at this
      unfold nt
      rw [show i + 1 - 1 = i by omega] at this
      omega
theorem GoodT.rises {N v : Int} {l : List Int} (h : GoodT N l) : Rises N true v l := rises_of l true v h.1 h.2 (fun h => by cases h)
theorem Rises.good {N v : Int} {l : List Int} (h : Rises N true v l) : GoodT N l := ⟨(of_rises l true v h).1, (of_rises l true v h).2.1⟩
/-- Rising targets below N are at most N. -/
theorem GoodT.le_nt {N : Int} {l : List Int} (h : GoodT N l) : ∀ i, i < l.length → (i : Int) ≤ nt l i
  | 0, hi => (h.1 0 hi).1
  | i + 1, hi => by
    have h1 := GoodT.le_nt h i (by omega)
    have h2 := h.2 i hi
    omega
theorem GoodT.len {N : Int} {l : List Int} (h : GoodT N l) (hN : 0 ≤ N) : (l.length : Int) ≤ N := by
  rcases Nat.eq_zero_or_pos l.length with e | e
  · omega
  · have h1 := h.le_nt (l.length - 1) (by omega)
    have h2 := (h.1 (l.length - 1) (by omega)).2
    omega
/-- A row's bytes, read where they stand. -/
theorem row_at {s : ByteArray} {N v : Int} {l : List Int} {p : Nat} {t : List UInt8} (hN : N ≤ 4096) (hv0 : 0 ≤ v) (hv1 : v < N) (hg : GoodT N l) (hp : p ≤ s.size) (h : s.data.toList.drop p = putF v l l.length ++ t) :
    cnt s (p : Int) N = ((l.length : Int), ((p + (short l.length).length : Nat) : Int), 0, 0) ∧ gtF s N l.length true v ((p + (short l.length).length : Nat) : Int) = .inr (l, ((p + (putF v l l.length).length : Nat) : Int)) ∧ skF s (p : Int) l.length ((p + (short l.length).length : Nat) : Int) = (((p + (putF v l l.length).length : Nat) : Int), 0, 0) := by
  have hl := hg.len (by omega)
  rw [putF_all] at h ⊢
  rw [List.append_assoc] at h
  have e1 := rdG_at (n := l.length) (by omega) hp h
  have e2 := gtF_at hN l true v (p + (short l.length).length) t hv0 (by omega) hg.rises (drop_le hp h) (drop_app h)
  rw [List.length_append, ← Nat.add_assoc]
  refine ⟨?_, e2, skF_of_gtF _ _ _ _ _ _ e2⟩
  unfold cnt
  rw [e1, if_neg (by simp; omega)]
end Go.Proofs.Ytoggeiaofpdboaa.Gap
