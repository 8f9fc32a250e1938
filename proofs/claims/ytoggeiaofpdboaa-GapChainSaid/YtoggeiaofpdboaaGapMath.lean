/- Plain mathematics of layer 6 (gap): what is read of bytes; the document's ReadShort in these words. -/
import Derived.Test.YtoggeiaofpdboaaRefRd
import Derived.Test.YtoggeiaofpdboaaOctA
namespace Go.Proofs.Ytoggeiaofpdboaa.Gap
open Go Go.RowKit Go.Lib Oct

/-- A number that was read: the number, the place behind it, the error's number, its place. -/
abbrev G4 := Int × Int × Int × Int
def gv (g : G4) : Array Value := #[.int .i64 g.1, .int .i64 g.2.1, .int .i64 g.2.2.1, .int .i64 g.2.2.2]
def rdG (s : ByteArray) (p : Int) : G4 :=
  if p < 0 ∨ (s.size : Int) < p then (0, p, 1, p)
  else if (rd (s.data.toList.drop p.toNat)).2.2 = 0 then (((rd (s.data.toList.drop p.toNat)).1 : Int), p + ((rd (s.data.toList.drop p.toNat)).2.1 : Int), 0, 0)
  else if (rd (s.data.toList.drop p.toNat)).2.2 = 3 then (0, p, 3, (s.size : Int)) else (0, p, 4, p)
theorem rdG_ok {s : ByteArray} {p x nx a : Int} (h : rdG s p = (x, nx, 0, a)) : (0 ≤ x ∧ x ≤ 72057594037927935) ∧ 0 ≤ p ∧ p < nx ∧ nx ≤ s.size ∧ a = 0 ∧ (rd (s.data.toList.drop p.toNat)).2.2 = 0 ∧ x = ((rd (s.data.toList.drop p.toNat)).1 : Int) ∧ nx = p + ((rd (s.data.toList.drop p.toNat)).2.1 : Int) := by
  unfold rdG at h
  split at h
  · simp at h
  · rename_i hp
    split at h
    · rename_i h0
      obtain ⟨_, h2, h3, h4, _⟩ := short_of_rd _ h0
      have hl : (s.data.toList.drop p.toNat).length = s.size - p.toNat := by rw [List.length_drop]; rfl
      simp only [Prod.mk.injEq] at h
      obtain ⟨rfl, rfl, -, rfl⟩ := h
      exact ⟨⟨by omega, by omega⟩, by omega, by omega, by omega, rfl, h0, rfl, rfl⟩
    · split at h <;> simp at h
theorem rdG_bad {s : ByteArray} {p x nx e a : Int} (h : rdG s p = (x, nx, e, a)) (he : e ≠ 0) : x = 0 ∧ nx = p ∧ (e = 1 ∨ e = 3 ∨ e = 4) := by
  unfold rdG at h
  split at h
  · simp only [Prod.mk.injEq] at h; obtain ⟨rfl, rfl, rfl, rfl⟩ := h; exact ⟨rfl, rfl, .inl rfl⟩
  · split at h
    · simp only [Prod.mk.injEq] at h; obtain ⟨rfl, rfl, rfl, rfl⟩ := h; exact absurd rfl he
    · split at h
      · simp only [Prod.mk.injEq] at h; obtain ⟨rfl, rfl, rfl, rfl⟩ := h; exact ⟨rfl, rfl, .inr (.inl rfl)⟩
      · simp only [Prod.mk.injEq] at h; obtain ⟨rfl, rfl, rfl, rfl⟩ := h; exact ⟨rfl, rfl, .inr (.inr rfl)⟩
/-- How many targets a row tells. -/
def cnt (s : ByteArray) (p N : Int) : G4 := if (rdG s p).2.2.1 = 0 ∧ N < (rdG s p).1 then (0, p, 4, p) else rdG s p
/-- The place behind so many numbers. -/
def skF (s : ByteArray) (at0 : Int) : Nat → Int → Int × Int × Int
  | 0, nx => (nx, 0, 0)
  | k + 1, nx => if (rdG s nx).2.2.1 = 0 then skF s at0 k (rdG s nx).2.1 else (at0, (rdG s nx).2.2.1, (rdG s nx).2.2.2)
theorem skF_ok {s : ByteArray} {at0 nx x n2 a : Int} {k : Nat} (h : rdG s nx = (x, n2, 0, a)) : skF s at0 (k + 1) nx = skF s at0 k n2 := by rw [skF, h]; simp
theorem skF_bad {s : ByteArray} {at0 nx x n2 e a : Int} {k : Nat} (h : rdG s nx = (x, n2, e, a)) (he : e ≠ 0) : skF s at0 (k + 1) nx = (at0, e, a) := by rw [skF, h]; simp [he]
/-- What a number from 0 on is turned from. -/
def bkI (x : Int) : Int := if x % 2 = 1 then -((x + 1) / 2) else x / 2
/-- So many targets, from a place on: the error's number and its place; or the targets, and the place behind. -/
def gtF (s : ByteArray) (N : Int) : Nat → Bool → Int → Int → (Int × Int) ⊕ (List Int × Int)
  | 0, _, _, nx => .inr ([], nx)
  | k + 1, first, now, nx =>
    if (rdG s nx).2.2.1 = 0 then
      (let now' := if first then now + bkI (rdG s nx).1 else now + (rdG s nx).1 + 1
       if now' < 0 ∨ N ≤ now' then .inl (4, nx) else match gtF s N k false now' (rdG s nx).2.1 with
        | .inl e => .inl e
        | .inr (l, n2) => .inr (now' :: l, n2))
    else .inl ((rdG s nx).2.2.1, (rdG s nx).2.2.2)
/-- What is known when some targets are read: the rest decides. -/
def GotYet (s : ByteArray) (N : Int) (k : Nat) (first : Bool) (now nx : Int) (done : List Int) (r : (Int × Int) ⊕ (List Int × Int)) : Prop := r = (match gtF s N k first now nx with
  | .inl e => .inl e
  | .inr (l, n2) => .inr (done ++ l, n2))
theorem GotYet.start {s : ByteArray} {N : Int} {k : Nat} {now nx : Int} : GotYet s N k true now nx [] (gtF s N k true now nx) := by
  unfold GotYet
  cases gtF s N k true now nx with
  | inl e => rfl
  | inr p => obtain ⟨l, n2⟩ := p; rfl
theorem GotYet.done {s : ByteArray} {N : Int} {first : Bool} {now nx : Int} {done : List Int} {r : (Int × Int) ⊕ (List Int × Int)} (h : GotYet s N 0 first now nx done r) : r = .inr (done, nx) := by
  unfold GotYet at h
  rw [gtF] at h
  simpa using h
theorem GotYet.bad {s : ByteArray} {N : Int} {k : Nat} {first : Bool} {now nx x n2 e a : Int} {done : List Int} {r : (Int × Int) ⊕ (List Int × Int)} (h : GotYet s N (k + 1) first now nx done r) (hr : rdG s nx = (x, n2, e, a)) (he : e ≠ 0) : r = .inl (e, a) := by
  unfold GotYet at h
  rw [gtF, hr] at h
  simpa [he] using h
theorem GotYet.out {s : ByteArray} {N : Int} {k : Nat} {first : Bool} {now nx x n2 a : Int} {done : List Int} {r : (Int × Int) ⊕ (List Int × Int)} (h : GotYet s N (k + 1) first now nx done r) (hr : rdG s nx = (x, n2, 0, a)) (ho : (if first then now + bkI x else now + x + 1) < 0 ∨ N ≤ (if first then now + bkI x else now + x + 1)) : r = .inl (4, nx) := by
  unfold GotYet at h
  rw [gtF, hr] at h
  simp only [if_true] at h
  rw [if_pos ho] at h
  exact h
theorem GotYet.next {s : ByteArray} {N : Int} {k : Nat} {first : Bool} {now nx x n2 a : Int} {done : List Int} {r : (Int × Int) ⊕ (List Int × Int)} (h : GotYet s N (k + 1) first now nx done r) (hr : rdG s nx = (x, n2, 0, a)) (y : Int) (hy : (if first then now + bkI x else now + x + 1) = y) (ho : ¬ (y < 0 ∨ N ≤ y)) : GotYet s N k false y n2 (done ++ [y]) r := by
  unfold GotYet at *
  rw [gtF, hr] at h
  simp only [if_true] at h
  rw [hy, if_neg ho] at h
  rw [h]
  cases gtF s N k false y n2 with
  | inl e => rfl
  | inr p => obtain ⟨l, n3⟩ := p; simp
/-- The first of targets that may not be. -/
def badT (N : Int) (l : List Int) (i : Nat) : Prop := l.getD i 0 < 0 ∨ N ≤ l.getD i 0 ∨ (0 < i ∧ l.getD i 0 ≤ l.getD (i - 1) 0)
instance (N : Int) (l : List Int) (i : Nat) : Decidable (badT N l i) := by unfold badT; infer_instance
/-- The bytes of the first so many targets. -/
def putF (v : Int) (l : List Int) : Nat → List UInt8
  | 0 => short l.length
  | 1 => short l.length ++ short (turnOf (l.getD 0 0 - v)).toNat
  | k + 2 => putF v l (k + 1) ++ short (l.getD (k + 1) 0 - l.getD k 0 - 1).toNat
end Go.Proofs.Ytoggeiaofpdboaa.Gap
