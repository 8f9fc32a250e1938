/- Contracts of the program's edges: Turned (written by gen_edgd.py). -/
import Derived.Test.YtnmpcendimdoeaaDoorRowE
import Derived.Laws.OwnMore
namespace Go.Proofs.YtnmpcendimdoeaaDoor.Edg
open Go Go.RowKit Go.Lib

theorem eC_rep (n : Nat) : eC (List.replicate n (0, 0)) = List.replicate (n * 2) (.int .i64 0) := by
  induction n with
  | zero => rfl
  | succ n ih => rw [List.replicate_succ, eC, ih, show (n + 1) * 2 = n * 2 + 1 + 1 by omega, List.replicate_succ, List.replicate_succ]
theorem made_rep (n : Nat) : (madeCells (Value.agg #[.int .i64 0, .int .i64 0]).cells (n * 2)).toList = eC (List.replicate n (0, 0)) := by
  rw [eC_rep]
  apply List.ext_getElem
  · simp [madeCells]
  · intro i h1 h2
    simp only [madeCells, Value.cells]
    rcases Nat.mod_two_eq_zero_or_one i with h | h <;> simp [h]
/-- The first k edges, turned; noughts behind them. -/
def tk (xs : List (Int × Int)) (k : Nat) : List (Int × Int) := turn (xs.take k) ++ List.replicate (xs.length - k) (0, 0)
theorem tk_len (xs : List (Int × Int)) (k : Nat) (h : k ≤ xs.length) : (tk xs k).length = xs.length := by simp [tk, turn]; omega
theorem tk_0 (xs : List (Int × Int)) : tk xs 0 = List.replicate xs.length (0, 0) := by simp [tk, turn]
theorem tk_end (xs : List (Int × Int)) : tk xs xs.length = turn xs := by simp [tk]
theorem tk_set (xs : List (Int × Int)) (k : Nat) (h : k < xs.length) : (tk xs k).set k ((ed xs k).2, (ed xs k).1) = tk xs (k + 1) := by
  unfold tk
  rw [take_ed xs k h, show xs.length - k = (xs.length - (k + 1)) + 1 by omega, List.replicate_succ]
  have hl : (turn (xs.take k)).length = k := by simp [turn]; omega
  rw [List.set_append_right k _ (by omega), hl, Nat.sub_self, List.set_cons_zero]
  simp [turn]
/-- A slice of so many edges, all nought. -/
theorem makeE (w : World) (n : Nat) (hn : n ≤ 100000) :
    ∃ w', (Instr.makeSlice 22 (.int .i64 (n : Int)) (.int .i64 (n : Int))).run Tryd.prog w = .ok (.slice (some ⟨w.heap.size, 0, none⟩) n n) w' ∧ OwnE w' w.heap.size (some ⟨w.heap.size, 0, none⟩) n n (List.replicate n (0, 0)) ∧ Below w.heap.size w w' := by
  have hb : eI.bytes = 16 := by kernel_rfl
  obtain ⟨w', h1, h2, h3⟩ := run_makeSlice_full (P := Tryd.prog) (w := w) w.heap.size 22 35 eI (.agg #[.int .i64 0, .int .i64 0]) 2 Tryd.underlying22 (by kernel_rfl) (by kernel_rfl) (by kernel_rfl) .i64 .i64 n (by omega) (by rw [hb]; omega) (by unfold maxLen; omega) (Nat.le_refl _)
  rw [made_rep] at h2
  exact ⟨w', h1, ⟨by simp, h2⟩, (Below.refl _ w).grown h3 (Nat.le_refl _) (by intro k hk; cases hk)⟩


end Go.Proofs.YtnmpcendimdoeaaDoor.Edg
