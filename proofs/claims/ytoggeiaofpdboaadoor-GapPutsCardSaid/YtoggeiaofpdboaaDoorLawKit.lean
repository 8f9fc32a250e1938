/- What the last step of a law asks of slices of texts: the reach of each text. -/
import Derived.SliceStrings
import Derived.SizedLaws
namespace Go.Proofs.YtoggeiaofpdboaaDoor.Sha
open Go.ChangeShapes

theorem weightsAll_strs {H : Type} (P : Program) (e : TypeId) (ss : List ByteArray) (s : ByteArray) (hs : s ∈ ss) : s.size ∈ DataW.weightsAll (H := H) P e (strs ss) := by
  induction ss with
  | nil => cases hs
  | cons a r ih =>
    have h0 : DataW.weightsAll (H := H) P e (strs (a :: r)) = [a.size] ++ DataW.weightsAll (H := H) P e (strs r) := by
      simp [strs, DataW.weightsAll, DataW.weights]
    rw [h0, List.mem_append]
    rcases List.mem_cons.1 hs with rfl | h
    · exact .inl (by simp)
    · exact .inr (ih h)
theorem sized_strs {H : Type} {P : Program} {ts : List TypeId} {ds : List (DataW H)} (h : (DataW.weightsEach P ts ds).all (· ≤ reachBytes) = true) {j : Nat} {t e : TypeId} {ss : List ByteArray} {sp : List (DataW H)} (ht : ts[j]? = some t) (hd : ds[j]? = some (.slice (strs ss) sp)) (hu : P.underlying t = some (.slice e))
    (s : ByteArray) (hs : s ∈ ss) : s.size ≤ 140737488351232 := by
  have := List.all_eq_true.1 h _ (DataW.weights_mem_each ht hd s.size (by
    simp only [DataW.weights, hu]
    exact List.mem_cons_of_mem _ (List.mem_append_left _ (weightsAll_strs P e ss s hs))))
  exact of_decide_eq_true this
end Go.Proofs.YtoggeiaofpdboaaDoor.Sha
