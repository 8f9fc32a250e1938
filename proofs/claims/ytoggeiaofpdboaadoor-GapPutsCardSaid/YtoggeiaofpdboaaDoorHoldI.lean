/- A row of numbers in a block of the call's own that is written to in place; slices of slices of numbers; pointers that aren't nil. -/
import Derived.Test.YtoggeiaofpdboaaDoorIntKit
import Derived.Test.YtoggeiaofpdboaaDoorStKit
import Derived.Deep.MidRow
import Derived.Lib.EndianMore
import Derived.Laws.IdiomCopy
import Derived.Laws.OwnMore
namespace Go.Proofs.YtoggeiaofpdboaaDoor.Kn
open Go
section
variable {P : Program} {n : Nat} {l : List (Nat × Value)} {a : Act}
theorem ex_nilCheck {d : Option Tmp} {t : TypeId} {p : String} {af : Array Edge} {g : Option (Nat × Bool)} {x : Operand} {q : Addr} (h : Kn n l a) (hx : Val l x (.pointer (some q))) : execOp a.eval ⟨d, .nilCheck x, t, p, af, g⟩ = vl (Pure.pure (.pointer (some q))) := by simp only [execOp, h.val hx]; rfl
end
end Go.Proofs.YtoggeiaofpdboaaDoor.Kn
namespace Go.Proofs.YtoggeiaofpdboaaDoor.Num
open Go Go.RowKit Go.Lib

/-- The cells of block g, from its first on, are these numbers; they may be written to. -/
def HoldI (w : World) (g : Nat) (l : List Int) : Prop := ∀ i, i < l.length → w.cell? ⟨g, i, none⟩ = some (.int .i64 (nt l i)) ∧ w.frozen? ⟨g, i, none⟩ = false
theorem HoldI.iin {w : World} {g : Nat} {l : List Int} (h : HoldI w g l) : IIn w (some ⟨g, 0, none⟩) l := fun i hi => by
  obtain ⟨h1, _⟩ := h i hi
  exact ⟨g, 0, rfl, World.block_lt_of_cell? _ _ h1, by rw [Nat.zero_add]; exact h1⟩
theorem HoldI.at {w w' : World} {g : Nat} {l : List Int} (h : HoldI w g l) (e : w'.heap[g]? = w.heap[g]?) : HoldI w' g l := fun i hi => by
  obtain ⟨h1, h2⟩ := h i hi
  exact ⟨by simp only [World.cell?, e]; exact h1, by simp only [World.frozen?, e]; exact h2⟩
theorem HoldI.on {w w' : World} {g : Nat} {l : List Int} (h : HoldI w g l) (hb : Below w.heap.size w w') : HoldI w' g l := fun i hi => by
  have hlt : g < w.heap.size := World.block_lt_of_cell? _ _ (h i hi).1
  exact h.at (hb.block g hlt) i hi
theorem HoldI.drewN {w : World} {g : Nat} {l : List Int} (h : HoldI w g l) (q : Nat) : HoldI (w.drewN q) g l := h
theorem HoldI.drew {w : World} {g : Nat} {l : List Int} (h : HoldI w g l) : HoldI w.drew g l := h
theorem nt_set (l : List Int) (k i : Nat) (e : Int) (hi : i < l.length) : nt (l.set k e) i = if i = k then e else nt l i := by
  rw [nt_at _ _ (by simpa using hi), nt_at _ _ hi, List.getElem_set]
  by_cases h : i = k
  · subst h; simp
  · rw [if_neg (fun q => h q.symm), if_neg h]
theorem satU_run {r : Result Unit} {v : World} (H : Kn.SatU (fun w' => w' = v) r) : r = .ok () v := by
  cases r with
  | ok y w' => cases H; rfl
  | halt y w' => exact H.elim
theorem sat_run {r : Result Value} {x : Value} {v : World} (H : Kn.Sat (fun y w' => y = x ∧ w' = v) r) : r = .ok x v := by
  cases r with
  | ok y w' => obtain ⟨rfl, rfl⟩ := H; rfl
  | halt y w' => exact H.elim
/-- A number is stored into the row. -/
theorem HoldI.store {w : World} {g : Nat} {l : List Int} (h : HoldI w g l) (k : Nat) (hk : k < l.length) (a : Int) :
    ∃ w', (Instr.storeAt 3 (.pointer (some ⟨g, k, none⟩)) (.int .i64 a)).run Tryd.prog w = .ok () w' ∧ HoldI w' g (l.set k a) ∧ (∀ b, b ≠ g → w'.heap[b]? = w.heap[b]?) ∧ w'.heap.size = w.heap.size ∧ (∀ B, B ≤ g → Below B w w') := by
  obtain ⟨c1, f1⟩ := h k hk
  have hd : (w.setCell ⟨g, k, none⟩ (.int .i64 a)).heap.size = w.heap.size := by simp [World.setCell]
  refine ⟨w.setCell ⟨g, k, none⟩ (.int .i64 a), ?_, fun i hi => ?_, fun b hb => heap_setCell_other w _ b _ hb, hd, fun B hB => (Below.refl B w).setCell hB _⟩
  · refine satU_run ?_
    go_simp
    try simp [c1, f1]
  · have hi' : i < l.length := by simpa using hi
    rw [World.frozen?_setCell, nt_set l k i a hi']
    refine ⟨?_, (h i hi').2⟩
    by_cases e : i = k
    · subst e
      rw [if_pos rfl, World.cell?_setCell_same' _ _ _ (by rw [c1]; rfl)]
    · rw [if_neg e, World.cell?_setCell_other _ _ _ _ (by simp [e])]
      exact (h i hi').1
theorem hold_of_own {w : World} {B g n cap : Nat} {l : List Int} (h : OwnI w B (some ⟨g, 0, none⟩) n cap l) : HoldI w g l := fun i hi => by
  have c := (OwnI.iin h).cells hi
  rw [Nat.zero_add] at c
  obtain ⟨hn, hl, hr⟩ := h
  rcases hr with ⟨hv, _⟩ | ⟨g', cap', cur, hv, hB, hg, hle, hm, hs, ht⟩
  · cases hv
  · simp only [Value.slice.injEq, Option.some.injEq, Addr.mk.injEq] at hv
    obtain ⟨⟨rfl, _, _⟩, _, _⟩ := hv
    exact ⟨c, by simp [World.frozen?, hg]⟩
/-- A part of a slice of numbers. -/
theorem sliceI (g n a b : Nat) (v : World) (h : a ≤ b) (h2 : b ≤ n) (h4 : n ≤ 9223372036854775807) : ∃ o c, (Instr.sliceAt 22 (.slice (some ⟨g, 0, none⟩) n n) (some (.int .i64 (a : Int))) (some (.int .i64 (b : Int))) none).run Tryd.prog v = .ok (.slice (some ⟨g, o, none⟩) (b - a) c) v ∧ (a < b → o = a) := by
  by_cases e : n = a
  · obtain rfl : b = n := by omega
    subst e
    refine ⟨0, 0, sat_run ?_, fun h => by omega⟩
    go_simp
    try go_bits
  · refine ⟨a, n - a, sat_run ?_, fun _ => rfl⟩
    go_simp
    try go_bits
    try simp [e]
theorem made_repI (n : Nat) : (madeCells (Value.int .i64 0).cells (n * 1)).toList = (List.replicate n (0 : Int)).map iV := by
  apply List.ext_getElem
  · simp [madeCells]
  · intro i h1 h2
    simp [madeCells, Value.cells, iV, Nat.mod_one]
/-- A slice of so many numbers, all nought. -/
theorem makeI (w : World) (n : Nat) (hn : n ≤ 100000) :
    ∃ w', (Instr.makeSlice 22 (.int .i64 (n : Int)) (.int .i64 (n : Int))).run Tryd.prog w = .ok (.slice (some ⟨w.heap.size, 0, none⟩) n n) w' ∧ HoldI w' w.heap.size (List.replicate n 0) ∧ Below w.heap.size w w' ∧ w.heap.size < w'.heap.size := by
  obtain ⟨i0, hi, hz0, hz1, hz2⟩ : ∃ i0, Tryd.prog.info? 3 = some i0 ∧ i0.zero = some (.int .i64 0) ∧ i0.size = 1 ∧ i0.bytes = 8 := ⟨(Tryd.prog.info? 3).get (by kernel_rfl), by kernel_rfl, by kernel_rfl, by kernel_rfl, by kernel_rfl⟩
  obtain ⟨w', h1, h2, h3⟩ := run_makeSlice_full (P := Tryd.prog) (w := w) w.heap.size 22 3 i0 (.int .i64 0) 1 Tryd.underlying22 hi hz0 hz1 .i64 .i64 n (by omega) (by rw [hz2]; omega) (by unfold maxLen; omega) (Nat.le_refl _)
  rw [made_repI] at h2
  have hO : OwnI w' w.heap.size (some ⟨w.heap.size, 0, none⟩) n n (List.replicate n 0) := ⟨by simp, h2⟩
  exact ⟨w', h1, hold_of_own hO, (Below.refl _ w).grown h3 (Nat.le_refl _) (by intro k hk; cases hk), hO.lt⟩
end Go.Proofs.YtoggeiaofpdboaaDoor.Num
