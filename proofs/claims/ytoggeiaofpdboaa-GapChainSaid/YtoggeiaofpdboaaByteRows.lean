/- Slices of bytes, and slices of these, that come in: what lies there; opened. -/
import Derived.Test.YtoggeiaofpdboaaIntKit
import Derived.Deep.Matrix
import Derived.ProofKit
import Derived.OpenShut
namespace Go.Proofs.Ytoggeiaofpdboaa.Num
open Go Go.RowKit Go.Lib Go.ChangeShapes Go.WideShapes

/-- The bytes of a slice that came in. -/
def YIn (w : World) (A : Option Addr) (l : List Int) : Prop := ∀ i, i < l.length → ∃ b o, A = some ⟨b, o, none⟩ ∧ b < w.heap.size ∧ w.cell? ⟨b, o + i, none⟩ = some (.int .u8 (nt l i))
theorem YIn.on {w w' : World} {A : Option Addr} {l : List Int} (h : YIn w A l) (hb : Below w.heap.size w w') : YIn w' A l := fun i hi => by
  obtain ⟨b, o, e, hlt, h1⟩ := h i hi
  exact ⟨b, o, e, Nat.lt_of_lt_of_le hlt hb.size, (hb.cell (p := ⟨b, o + i, none⟩) hlt).trans h1⟩
/-- The slices of bytes of a slice that came in. -/
def RIn (w : World) (A : Option Addr) (n : Nat) (X : Nat → Option Addr) (C : Nat → Nat) (Z : Nat → List Int) : Prop := ∀ i, i < n → ∃ b o, A = some ⟨b, o, none⟩ ∧ b < w.heap.size ∧ w.cell? ⟨b, o + i, none⟩ = some (.slice (X i) (Z i).length (C i)) ∧ YIn w (X i) (Z i) ∧ (Z i).length ≤ maxLen ∧ ∀ j, j < (Z i).length → 0 ≤ nt (Z i) j ∧ nt (Z i) j ≤ 255
theorem RIn.on {w w' : World} {A : Option Addr} {n : Nat} {X : Nat → Option Addr} {C : Nat → Nat} {Z : Nat → List Int} (h : RIn w A n X C Z) (hb : Below w.heap.size w w') : RIn w' A n X C Z := fun i hi => by
  obtain ⟨b, o, e, hlt, h1, h2, h3⟩ := h i hi
  exact ⟨b, o, e, Nat.lt_of_lt_of_le hlt hb.size, (hb.cell (p := ⟨b, o + i, none⟩) hlt).trans h1, h2.on hb, h3⟩
theorem rows_in {H : Type} {enc : TypeId × Value → H} {W : World} {base : Nat} {held : Bool} {fuel : Nat} {A : Option Addr} {n c : Nat} {x : DataW H × List MemPlace} (hf : DataW.trod enc Try.prog W base (fun _ => true) held fuel 32 [.slice A n c] = some x) :
    ∃ (X : Nat → Option Addr) (C : Nat → Nat) (Z : Nat → List Int), n ≤ maxLen ∧ RIn W A n X C Z := by
  rcases Go.Deep.open_int_rows Try.underlying32 Try.underlying34 Try.underlying5 (by kernel_rfl) (by kernel_rfl) hf with ⟨hcs, _⟩ | ⟨a, len, cap, X, L, C, Z, hcs, _, hl, hm, _, hr⟩
  · simp at hcs
    obtain ⟨rfl, rfl, rfl⟩ := hcs
    exact ⟨fun _ => none, fun _ => 0, fun _ => [], Nat.zero_le _, fun i hi => absurd hi (by omega)⟩
  · simp at hcs
    obtain ⟨rfl, rfl, rfl⟩ := hcs
    refine ⟨X, C, fun i => (Z i).take (L i), by omega, fun i hi => ?_⟩
    obtain ⟨h1, h2, h3, h4, h5, h6, h7⟩ := hr i (by omega)
    obtain ⟨b, off, spot⟩ := a
    have hspot : spot = none := by simpa [Addr.add] using World.cell?_spot (hr 0 (by omega)).1
    subst hspot
    rw [addr_add] at h1
    have hlen : ((Z i).take (L i)).length = L i := by rw [List.length_take]; omega
    have hat : ∀ j, j < L i → nt ((Z i).take (L i)) j = (Z i).getD j 0 := fun j hj => by
      rw [nt_at _ _ (by omega), List.getElem_take]
      simp [List.getD, List.getElem?_eq_getElem (show j < (Z i).length by omega)]
    refine ⟨b, off, rfl, World.block_lt_of_cell? _ _ h1, by rw [hlen]; exact h1, fun j hj => ?_, by rw [hlen]; omega, fun j hj => ?_⟩
    · rw [hlen] at hj
      cases hX : X i with
      | none => have := h6 hX; omega
      | some a' =>
        obtain ⟨_, hc⟩ := h7 a' hX
        obtain ⟨b', o', s'⟩ := a'
        have hc1 := hc j (by omega)
        have hs : s' = none := by simpa [Addr.add] using World.cell?_spot (hc 0 (by omega))
        subst hs
        rw [addr_add] at hc1
        exact ⟨b', o', rfl, World.block_lt_of_cell? _ _ hc1, by rw [hat j hj]; exact hc1⟩
    · rw [hlen] at hj
      rw [hat j hj]
      have hj2 : j < (Z i).length := by omega
      have e : (Z i).getD j 0 = (Z i)[j] := by simp [List.getD, List.getElem?_eq_getElem hj2]
      rw [e]
      exact bounds_u8 (h5 _ (List.getElem_mem hj2))
end Go.Proofs.Ytoggeiaofpdboaa.Num
