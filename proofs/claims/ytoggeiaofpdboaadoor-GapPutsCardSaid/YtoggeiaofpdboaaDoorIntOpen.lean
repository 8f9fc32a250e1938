/- A slice of numbers that comes in, opened. -/
import Derived.Test.YtoggeiaofpdboaaDoorIntKit
import Derived.ChangeSlices
import Derived.ProofKit
import Derived.OpenShut
namespace Go.Proofs.YtoggeiaofpdboaaDoor.Num
open Go Go.RowKit Go.Lib Go.ChangeShapes Go.WideShapes

theorem ints_in {H : Type} {enc : TypeId × Value → H} {W : World} {base : Nat} {spare : Nat → Bool} {held : Bool} {fuel : Nat} {A : Option Addr} {n c : Nat} {x : DataW H × List MemPlace} (hf : DataW.trod enc Tryd.prog W base spare held fuel 22 [.slice A n c] = some x) :
    ∃ l : List Int, n = l.length ∧ n ≤ c ∧ c ≤ maxLen ∧ IIn W A l ∧ ∀ i, i < n → -9223372036854775808 ≤ nt l i ∧ nt l i ≤ 9223372036854775807 := by
  rcases Go.ChangeShapes.open_ints Tryd.underlying22 Tryd.underlying3 (by kernel_rfl) hf with ⟨hcs, _⟩ | ⟨a, len, cap, zs, hcs, _, hl, hm, hz, _, hcell, hwz⟩
  · simp at hcs
    obtain ⟨rfl, rfl, rfl⟩ := hcs
    exact ⟨[], rfl, Nat.le_refl _, Nat.zero_le _, IIn.nil _ _, fun i hi => absurd hi (by omega)⟩
  · simp at hcs
    obtain ⟨rfl, rfl, rfl⟩ := hcs
    have hnz : n ≤ zs.length := by rw [hz]; split <;> omega
    have hlen : (zs.take n).length = n := by rw [List.length_take]; omega
    have hat : ∀ i, i < n → nt (zs.take n) i = zs.getD i 0 := fun i hi => by
      rw [nt_at _ _ (by omega), List.getElem_take]
      simp [List.getD, List.getElem?_eq_getElem (show i < zs.length by omega)]
    refine ⟨zs.take n, hlen.symm, hl, hm, fun i hi => ?_, fun i hi => ?_⟩
    · rw [hlen] at hi
      obtain ⟨b, off, spot⟩ := a
      have hspot : spot = none := by simpa [Addr.add] using World.cell?_spot (hcell 0 (by omega))
      subst hspot
      have h1 := hcell i (by omega)
      rw [addr_add] at h1
      refine ⟨b, off, rfl, World.block_lt_of_cell? _ _ h1, ?_⟩
      rw [hat i hi]
      exact h1
    · rw [hat i hi]
      have hi2 : i < zs.length := by omega
      have e : zs.getD i 0 = zs[i] := by simp [List.getD, List.getElem?_eq_getElem hi2]
      rw [e]
      exact bounds_i64 (hwz _ (List.getElem_mem hi2))
theorem ints_in1 {H : Type} {enc : TypeId × Value → H} {W : World} {base : Nat} {spare : Nat → Bool} {held : Bool} {fuel : Nat} {u : Value} {x : DataW H × List MemPlace} (hf : DataW.trod enc Tryd.prog W base spare held fuel 22 [u] = some x) :
    ∃ A n c, ∃ l : List Int, u = .slice A n c ∧ n = l.length ∧ n ≤ c ∧ c ≤ maxLen ∧ IIn W A l ∧ ∀ i, i < n → -9223372036854775808 ≤ nt l i ∧ nt l i ≤ 9223372036854775807 := by
  rcases Go.ChangeShapes.open_ints Tryd.underlying22 Tryd.underlying3 (by kernel_rfl) hf with ⟨hcs, _⟩ | ⟨a, len, cap, zs, hcs, _⟩
  · simp at hcs
    subst hcs
    obtain ⟨l, h⟩ := ints_in hf
    exact ⟨_, _, _, l, rfl, h⟩
  · simp at hcs
    subst hcs
    obtain ⟨l, h⟩ := ints_in hf
    exact ⟨_, _, _, l, rfl, h⟩
end Go.Proofs.YtoggeiaofpdboaaDoor.Num
