/- A slice of edges that comes in, opened. -/
import Derived.Test.YtinjecaanjeapaaDoorEdgeKit
import Derived.Deep.SlicePairs
import Derived.ProofKit
import Derived.OpenShut
namespace Go.Proofs.YtinjecaanjeapaaDoor.Edg
open Go Go.RowKit Go.Lib Go.ChangeShapes Go.WideShapes

theorem edges_in {H : Type} {enc : TypeId × Value → H} {W : World} {base : Nat} {spare : Nat → Bool} {held : Bool} {fuel : Nat} {A : Option Addr} {n c : Nat} {x : DataW H × List MemPlace} (hf : DataW.trod enc Tryd.prog W base spare held fuel 22 [.slice A n c] = some x) :
    ∃ xs : List (Int × Int), n = xs.length ∧ n ≤ maxLen ∧ EIn W A xs ∧ ∀ i, i < n → (-9223372036854775808 ≤ (ed xs i).1 ∧ (ed xs i).1 ≤ 9223372036854775807) ∧ (-9223372036854775808 ≤ (ed xs i).2 ∧ (ed xs i).2 ≤ 9223372036854775807) := by
  rcases Deep.open_slice_pairs Tryd.underlying22 Tryd.underlying51 (by kernel_rfl) rfl rfl (by kernel_rfl) (by kernel_rfl) hf with ⟨hcs, _⟩ | ⟨a, len, cap, m, n', V0, V1, D0, D1, P0, P1, hcs, _, hl, hm, hmm, _, hi⟩
  · simp at hcs
    obtain ⟨rfl, rfl, rfl⟩ := hcs
    exact ⟨[], rfl, Nat.zero_le _, EIn.nil _ _, fun i hi => absurd hi (by omega)⟩
  · simp at hcs
    obtain ⟨rfl, rfl, rfl⟩ := hcs
    have hnm : n ≤ m := by rw [hmm]; split <;> omega
    have hv : ∀ i, i < n → ∃ p q : Int, V0 i = .int .i64 p ∧ V1 i = .int .i64 q ∧ (Lit.int .i64 p).wf = true ∧ (Lit.int .i64 q).wf = true := fun i hin => by
      obtain ⟨_, _, h3, h4⟩ := hi i (by omega)
      obtain ⟨p, e1, _, w1⟩ := DataW.trod_int Tryd.underlying3 h3
      obtain ⟨q, e2, _, w2⟩ := DataW.trod_int Tryd.underlying3 h4
      exact ⟨p, q, by simpa using e1, by simpa using e2, w1, w2⟩
    have hed : ∀ i, i < n → ed ((List.range n).map fun i => (intOf (V0 i), intOf (V1 i))) i = (intOf (V0 i), intOf (V1 i)) := fun i hin => by
      rw [ed_at _ _ (by simpa using hin)]; simp
    refine ⟨(List.range n).map fun i => (intOf (V0 i), intOf (V1 i)), by simp, by omega, fun i hin => ?_, fun i hin => ?_⟩
    · have hin' : i < n := by simpa using hin
      obtain ⟨h1, h2, _, _⟩ := hi i (by omega)
      obtain ⟨p, q, e1, e2, _, _⟩ := hv i hin'
      obtain ⟨b, off, spot⟩ := a
      have hspot : spot = none := by simpa [Addr.add] using World.cell?_spot (hi 0 (by omega)).1
      subst hspot
      rw [addr_add] at h1 h2
      rw [hed i hin', e1, e2]
      rw [e1] at h1
      rw [e2] at h2
      exact ⟨b, off, rfl, World.block_lt_of_cell? _ _ h1, h1, by rw [Nat.add_assoc]; exact h2⟩
    · obtain ⟨p, q, e1, e2, w1, w2⟩ := hv i hin
      rw [hed i hin, e1, e2]
      have b1 := bounds_i64 w1
      have b2 := bounds_i64 w2
      exact ⟨b1, b2⟩
end Go.Proofs.YtinjecaanjeapaaDoor.Edg
