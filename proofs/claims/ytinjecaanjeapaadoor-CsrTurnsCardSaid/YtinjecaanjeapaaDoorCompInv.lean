/- What holds in the inner loop of slices.Compact at edges. -/
import Derived.Test.YtinjecaanjeapaaDoorCompMath
namespace Go.Proofs.YtinjecaanjeapaaDoor.Edg
open Go Go.RowKit Go.Lib

theorem below_drewN (B : Nat) (w : World) (q : Nat) : Below B w (w.drewN q) := ⟨rfl, rfl, rfl, Nat.le_refl _, fun _ _ => rfl⟩
/-- Of the row's edges p + k have been gone over; the first a cells are what is left of them. -/
def CI (w u : World) (g : Nat) (l : List (Int × Int)) (p k a : Nat) : Prop := ∃ R, HoldE u g R ∧ R.length = l.length ∧ R.take a = ddk l (p + k) ∧ (∀ j, p + k ≤ j + 1 → j < l.length → ed R j = ed l j) ∧ Below g w u
section
variable {w u : World} {g : Nat} {l : List (Int × Int)} {p k a : Nat}
theorem CI.drew (h : CI w u g l p k a) : CI w u.drew g l p k a := by
  obtain ⟨R, h1, h2, h3, h4, h5⟩ := h
  exact ⟨R, h1, h2, h3, h4, h5.drew⟩
theorem CI.start (h : HoldE w g l) (q : Nat) (hd : ddk l (p + 1) = l.take p) : CI w (w.drewN q) g l p 1 p := ⟨l, h, rfl, hd.symm, fun _ _ _ => rfl, below_drewN _ _ _⟩
theorem CI.at (h : CI w u g l p k a) (hk : p + k < l.length) : (u.cell? ⟨g, p * 2 + k * 2, none⟩ = some (.int .i64 (ed l (p + k)).1) ∧ u.cell? ⟨g, p * 2 + k * 2 + 1, none⟩ = some (.int .i64 (ed l (p + k)).2)) := by
  obtain ⟨R, h1, h2, h3, h4, h5⟩ := h
  have := (h1 (p + k) (by omega)).1
  rwa [h4 (p + k) (by omega) hk, show (p + k) * 2 = p * 2 + k * 2 by omega] at this
theorem CI.prev (h : CI w u g l p k a) {j : Nat} (hj : k = j + 1) (hk : p + k < l.length) : (u.cell? ⟨g, p * 2 + j * 2, none⟩ = some (.int .i64 (ed l (p + j)).1) ∧ u.cell? ⟨g, p * 2 + j * 2 + 1, none⟩ = some (.int .i64 (ed l (p + j)).2)) := by
  obtain ⟨R, h1, h2, h3, h4, h5⟩ := h
  have := (h1 (p + j) (by omega)).1
  rwa [h4 (p + j) (by omega) (by omega), show (p + j) * 2 = p * 2 + j * 2 by omega] at this
theorem CI.same (h : CI w u g l p k a) (h0 : 0 < p + k) (he : ed l (p + k) = ed l (p + k - 1)) : CI w u g l p (k + 1) a := by
  obtain ⟨R, h1, h2, h3, h4, h5⟩ := h
  exact ⟨R, h1, h2, by rw [← Nat.add_assoc, ddk_same l (p + k) h0 he]; exact h3, fun j hj hl => h4 j (by omega) hl, h5⟩
theorem CI.store (h : CI w u g l p k a) (ha : a + 1 ≤ p + k) (hk : p + k < l.length) {x y : Int} (he : ed l (p + k) = (x, y)) (hne : ed l (p + k) ≠ ed l (p + k - 1)) :
    ∃ u', (Instr.storeAt 51 (.pointer (some ⟨g, a * 2, none⟩)) (.agg #[.int .i64 x, .int .i64 y])).run Tryd.prog u = .ok () u' ∧ CI w u' g l p (k + 1) (a + 1) := by
  obtain ⟨R, h1, h2, h3, h4, h5⟩ := h
  obtain ⟨u', r, s1, s2, -⟩ := h1.store a (by omega) x y
  refine ⟨u', r, R.set a (x, y), s1, by simp [h2], ?_, fun j hj hl => ?_, h5.trans (s2 _ (Nat.le_refl _))⟩
  · rw [← Nat.add_assoc, ddk_more l (p + k) (.inr hne), ← h3, he]
    have hR : a < R.length := by omega
    rw [take_ed _ _ (by simpa using hR), ed_set R a a (x, y) hR, if_pos rfl, List.take_set_of_le (Nat.le_refl _)]
  · rw [ed_set R a j (x, y) (by omega), if_neg (by omega)]
    exact h4 j (by omega) hl
theorem CI.len (h : CI w u g l p k a) (ha : a ≤ l.length) : a = (ddk l (p + k)).length := by
  obtain ⟨R, h1, h2, h3, h4, h5⟩ := h
  rw [← h3]; simp; omega
theorem CI.clear (h : CI w u g l p k a) (ha : a < l.length) (c : Nat) (ty : TypeId) :
    ∃ u', (Builtin.clear_ #[22] ty #[.slice (some ⟨g, a * 2, none⟩) (l.length - a) c]).run Tryd.prog u = .ok (.tuple #[]) u' ∧ HoldE u' g (ddk l (p + k)) ∧ Below g w u' := by
  obtain ⟨R, h1, h2, h3, h4, h5⟩ := h
  obtain ⟨u', r, s1, s2⟩ := h1.clear a c ty (by omega)
  rw [h2] at r
  rw [h3] at s1
  exact ⟨u', r, s1, h5.trans (s2 _ (Nat.le_refl _))⟩
end
end Go.Proofs.YtinjecaanjeapaaDoor.Edg
