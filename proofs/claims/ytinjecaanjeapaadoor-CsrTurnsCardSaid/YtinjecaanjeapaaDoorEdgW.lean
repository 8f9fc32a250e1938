/- The document's example of layer 4 (written by gen_awake4.py). -/
import Derived.Test.YtinjecaanjeapaaDoorEdgN
namespace Go.Proofs.YtinjecaanjeapaaDoor.Edg
open Go Go.RowKit Go.Lib

theorem ein_block (w : World) (g : Nat) (l : List (Int × Int)) (h : w.heap[g]? = some (.cells (eC l).toArray 51)) : EIn w (some ⟨g, 0, none⟩) l := fun i hi => by
  have hlt := (Array.getElem?_eq_some_iff.1 h).1
  have h1 := eC_at l i hi
  have hc := World.news_of_block (cs := (eC l).toArray) h
  have a1 := hc (i * 2) _ (by simpa using h1.1)
  have a2 := hc (i * 2 + 1) _ (by simpa using h1.2)
  rw [addr_add] at a1 a2
  exact ⟨g, 0, rfl, hlt, a1, by rw [Nat.add_assoc]; exact a2⟩
def ex1 : List (Int × Int) := [(2, 0), (0, 1), (2, 0)]
def ex2 : List (Int × Int) := [(0, 1), (2, 0)]
theorem ex_norm : NormOf ex1 ex2 := ⟨by unfold Srt ex2; simp [lessB], fun e => by
  simp only [ex1, ex2, List.mem_cons, List.not_mem_nil, or_false]
  constructor
  · rintro (h | h) <;> simp [h]
  · rintro (h | h | h) <;> simp [h]⟩
theorem check_ok (n : Int) (A : Option Addr) (ca : Nat) (xs : List (Int × Int)) (w : World) (h1 : 0 ≤ n) (h2 : n ≤ 4096) (hx : xs.length ≤ 20000) (hA : EIn w A xs) (hG : ∀ e ∈ xs, badB n e = false) :
    Calls Tryd.prog 34 #[.int .i64 n, .slice A xs.length ca] w fun e w' => e = .returned .nilIface ∧ Below w.heap.size w w' := by
  have := check_any n A ca xs.length xs w (by omega) (by omega) (by omega) hA (fun i hi => by rw [ed_at xs i hi]; exact hG _ (List.getElem_mem hi)) (fun h => absurd h (by omega))
  rw [if_neg (by omega)] at this
  exact this

end Go.Proofs.YtinjecaanjeapaaDoor.Edg
