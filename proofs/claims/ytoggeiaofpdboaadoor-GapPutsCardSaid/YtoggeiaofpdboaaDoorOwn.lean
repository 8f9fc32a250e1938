/- Rows of the call's own, and what an append leaves: over whatever program and element type. -/
import Derived.Test.YtoggeiaofpdboaaDoorChecked
import Derived.WalkKit
import Derived.Below
import Derived.Maps.AppendAt
import Derived.Deep.AppendLies
import Derived.Deep.Draws
import Derived.Lib.Hide
import Derived.Lib.SmallJoins
namespace Go.Proofs.YtoggeiaofpdboaaDoor.Own
open Go Go.RowKit Go.Lib

/-- What an append to a row (block r, if it has one) leaves alone; g': where the row lies then. -/
structure Kept (v v' : World) (r : Option Nat) (g' : Nat) : Prop where
  at' : r = some g' ∨ v.heap.size ≤ g'
  lt : g' < v'.heap.size
  size : v.heap.size ≤ v'.heap.size
  grown : v.grownBy v' r
theorem Kept.row {v v' : World} {r : Option Nat} {g' B size n : Nat} {e : TypeId} {d : Value} {xs : List Value} (h : Kept v v' r g') (ho : v.ownsRow B e size d n xs) (hne : d.ownBlock = none ∨ d.ownBlock ≠ r) : v'.ownsRow B e size d n xs := ho.kept h.grown hne
theorem Kept.cell {v v' : World} {r : Option Nat} {g' b o : Nat} (h : Kept v v' r g') (hlt : b < v.heap.size) (hne : some b ≠ r) : v'.cell? ⟨b, o, none⟩ = v.cell? ⟨b, o, none⟩ := h.grown.cell_far ⟨b, o, none⟩ hlt hne

/-- A type's facts that an append asks. -/
structure Elem (P : Program) (T e : TypeId) (z : Value) (size bytes : Nat) : Prop where
  under : P.underlying T = some (.slice e)
  info : (P.info? e).map (fun i => (i.zero, i.size, i.bytes)) = some (some z, size, bytes)
  cells : z.cells.size = size
  pos : 0 < size

section
variable {P : Program} {T e : TypeId} {z : Value} {size bytes : Nat}
theorem Elem.parts (h : Elem P T e z size bytes) : ∃ i, P.info? e = some i ∧ i.zero = some z ∧ i.size = size ∧ i.bytes = bytes := by
  have hi := h.info
  cases hq : P.info? e with
  | none => rw [hq] at hi; cases hi
  | some i =>
    rw [hq] at hi
    simp only [Option.map_some, Option.some.injEq, Prod.mk.injEq] at hi
    exact ⟨i, rfl, hi.1, hi.2.1, hi.2.2⟩

/-- Some cells are appended to a row of the call's own. -/
theorem append (h : Elem P T e z size bytes) (w0 v : World) (ty : TypeId) (A : Option Addr) (n cap m c : Nat) (xs : List Value) (hO : v.ownsRow w0.heap.size e size (.slice A n cap) n xs)
    (b : Addr) (news : List Value) (hl : news.length = m * size) (hnews : ∀ j u, news[j]? = some u → v.cell? (b.add j) = some u) (h1 : ∀ u ∈ news, u.oneCell' = true) (hp : 0 < n + m) (hmax : n + m ≤ maxLen) (hby : (n + m) * bytes ≤ 140737488355328) (hb : Below w0.heap.size w0 v) :
    ∃ g' cap' v', (Builtin.append_ #[T, T] ty #[.slice A n cap, .slice (some b) m c]).run P v = .ok (.slice (some ⟨g', 0, none⟩) (n + m) cap') v' ∧
      v'.ownsRow w0.heap.size e size (.slice (some ⟨g', 0, none⟩) (n + m) cap') (n + m) (xs ++ news) ∧ Below w0.heap.size w0 v' ∧ Kept v v' (Value.slice A n cap).ownBlock g' := by
  obtain ⟨i, hi, hz0, hz1, hz2⟩ := h.parts
  obtain ⟨v1, v', hrun, h3, h4, _, h5⟩ := run_append_own_at (P := P) (w := v) w0.heap.size T ty e i z size bytes h.under hi hz0 hz1 hz2 h.cells h.pos (.slice A n cap) n xs hO b m c news hl hnews h1 hmax hby hb.size
  obtain ⟨g', cap', rfl, h6, h7⟩ := h3.form hp
  refine ⟨g', cap', v', hrun, h3, hb.grown h4 hb.size (fun k hk => (hO.lt k hk).1), ?_, h7, h4.size, h4⟩
  rcases h5 with h | h
  · exact .inl (by rw [← h]; rfl)
  · simp [Value.ownBlock] at h; exact .inr (by omega)
/-- An empty row: nil. -/
theorem none_row (w : World) (B : Nat) (e : TypeId) (size : Nat) : w.ownsRow B e size (.slice none 0 0) 0 [] := World.ownsRow_nil w B e size
/-- An empty row that was made. -/
theorem new_row (w : World) (B : Nat) (e : TypeId) (size : Nat) (hB : B ≤ w.heap.size) : (w.alloc (.cells #[] e)).ownsRow B e size (.slice (some ⟨w.heap.size, 0, none⟩) 0 0) 0 [] :=
  ⟨by simp, .inr ⟨w.heap.size, 0, #[], rfl, hB, heap_alloc_new _ _, Nat.le_refl _, Nat.zero_le _, by simp, by simp⟩⟩
theorem row_on {w w' : World} {B size n : Nat} {e : TypeId} {d : Value} {xs : List Value} (h : w.ownsRow B e size d n xs) (hb : Below w.heap.size w w') : w'.ownsRow B e size d n xs := by
  obtain ⟨h1, h2⟩ := h
  refine ⟨h1, ?_⟩
  rcases h2 with h2 | ⟨g, cap, cur, e1, e2, e3, e4⟩
  · exact .inl h2
  · refine .inr ⟨g, cap, cur, e1, e2, ?_, e4⟩
    rw [hb.block g (by
      rcases Nat.lt_or_ge g w.heap.size with h | h
      · exact h
      · rw [Array.getElem?_eq_none h] at e3; cases e3)]
    exact e3
theorem row_drew {w : World} {B size n : Nat} {e : TypeId} {d : Value} {xs : List Value} (h : w.ownsRow B e size d n xs) : w.drew.ownsRow B e size d n xs := h
theorem row_drewN {w : World} {B size n : Nat} {e : TypeId} {d : Value} {xs : List Value} (h : w.ownsRow B e size d n xs) (q : Nat) : (w.drewN q).ownsRow B e size d n xs := h
theorem below_drew {B : Nat} {w w' : World} (h : Below B w w') : Below B w w'.drew := ⟨h.1, h.2, h.3, h.4, h.5⟩
theorem undrew {B : Nat} {w w' : World} (h : Below B w.drew w') : Below B w w' := ⟨h.1, h.2, h.3, h.4, h.5⟩
theorem undrewN {B n : Nat} {w w' : World} (h : Below B (w.drewN n) w') : Below B w w' := ⟨h.1, h.2, h.3, h.4, h.5⟩
theorem below_drewN {B : Nat} {w w' : World} (h : Below B w w') (n : Nat) : Below B w (w'.drewN n) := ⟨h.1, h.2, h.3, h.4, h.5⟩
end
end Go.Proofs.YtoggeiaofpdboaaDoor.Own
