/- Structs that lie in blocks of their own: made, stored, read; a result that lies in one. Over whatever program and type. -/
import Derived.Test.YtoggeiaofpdboaaDoorKnAny
import Derived.Test.YtoggeiaofpdboaaDoorOwn
import Derived.Laws.Rows
import Derived.Laws.Tables
import Derived.Laws.CopyOwn
import Derived.Laws.ResultCell
import Derived.OwnWalk
namespace Go.Proofs.YtoggeiaofpdboaaDoor.St
open Go Go.RowKit Go.Lib

/-- A struct's type, or an array's. -/
def rowD : TypeDesc → Bool
  | .struct _ => true
  | .array _ _ => true
  | _ => false
/-- A block that holds just these cells, and may be written. -/
def St (w : World) (g : Nat) (T : TypeId) (cs : Array Value) : Prop := w.heap[g]? = some (.cells cs T (0, 0))
section
variable {w w' : World} {g : Nat} {T : TypeId} {cs : Array Value}
theorem St.lt (h : St w g T cs) : g < w.heap.size := (Array.getElem?_eq_some_iff.1 h).1
theorem St.on (h : St w g T cs) (hb : Below w.heap.size w w') : St w' g T cs := (hb.block g h.lt).trans h
theorem St.below {B : Nat} (h : St w g T cs) (hb : Below B w w') (hg : g < B) : St w' g T cs := (hb.block g hg).trans h
theorem St.new (w : World) (T : TypeId) (cs : Array Value) : St (w.alloc (.cells cs T)) w.heap.size T cs := heap_alloc_new w _
theorem St.alloc (h : St w g T cs) (o : Obj) : St (w.alloc o) g T cs := ((Below.refl w.heap.size w).alloc (Nat.le_refl _) o |>.block g h.lt).trans h
theorem St.drew (h : St w g T cs) : St w.drew g T cs := h
theorem St.drewN (h : St w g T cs) (n : Nat) : St (w.drewN n) g T cs := h
theorem St.cell (h : St w g T cs) (i : Nat) {v : Value} (hv : cs[i]? = some v) : w.cell? ⟨g, i, none⟩ = some v := (cell_of_row w g i cs T (0, 0) h).trans hv
theorem St.free (h : St w g T cs) (i : Nat) : w.frozen? ⟨g, i, none⟩ = false := frozen_of_row w g i cs T h
/-- Another block's cells, turned: this one stands. -/
theorem St.setRow (h : St w g T cs) {k : Nat} (hk : g ≠ k) (xs : Array Value) : St (w.setRow k xs) g T cs := (setRow_other w k g xs hk).trans h
theorem St.setCell (h : St w g T cs) {a : Addr} (hk : g ≠ a.block) (v : Value) : St (w.setCell a v) g T cs := (heap_setCell_other w a g v hk).trans h
/-- A field is stored. -/
theorem St.put (h : St w g T cs) (i : Nat) (v : Value) : St (w.setCell ⟨g, i, none⟩ v) g T (cs.setIfInBounds i v) := heap_setCell_same w g i cs T v h
/-- What an append to a row leaves alone. -/
theorem St.kept {r : Option Nat} {g' : Nat} (h : St w g T cs) (hk : Own.Kept w w' r g') (hne : some g ≠ r) : St w' g T cs := (hk.grown.block g h.lt hne).trans h
/-- A struct is stored. -/
theorem St.store {P : Program} {cells : Array Value} (h : St w g T cs) (hi : (P.info? T).map (·.size) = some cells.size) (ho : cs.size = cells.size) (h1 : cells.all (·.oneCell') = true) :
    (Instr.storeAt T (.pointer (some ⟨g, 0, none⟩)) (.agg cells)).run P w = .ok () (w.setRow g cells) ∧ St (w.setRow g cells) g T cells ∧ ∀ B, B ≤ g → Below B w (w.setRow g cells) := by
  refine ⟨?_, setRow_heap w g cs cells T (0, 0) h, fun B hB => below_setRow (Below.refl B w) hB cells⟩
  have hs := run_storeVar_row (P := P) w g T T cs cells h hi ho h1
  simp only [Instr.storeAt, Instr.sureAddr, Sem.run_bind, Sem.run_pure, Result.andThen_ok]
  exact hs
/-- A struct is read. -/
theorem St.load {P : Program} {d : TypeDesc} (h : St w g T cs) (hu : P.underlying T = some d) (hd : rowD d = true) (hi : (P.info? T).map (·.size) = some cs.size) :
    (loadVar T ⟨g, 0, none⟩).run P w = .ok (.agg cs) w := by
  cases d <;> first | exact run_loadVar_row w g T T cs (0, 0) _ h hu rfl hi | cases hd
end
end Go.Proofs.YtoggeiaofpdboaaDoor.St
namespace Go.Proofs.YtoggeiaofpdboaaDoor.Kn
open Go
section
variable {P : Program} {n : Nat} {l : List (Nat × Value)} {a : Act} {w : World}
/-- One result, that lies in a cell. -/
theorem retS {fn : Func} {R : Ending → World → Prop} {p : Tmp} {ty : TypeId} {g : Nat} {cs : Array Value} {d : TypeDesc} (h : Kn n l a) (hr : fn.results = #[.cell p ty]) (hp : find l p = some (.pointer (some ⟨g, 0, none⟩))) (hs : St.St w g ty cs) (hu : P.underlying ty = some d) (hd : St.rowD d = true) (hi : (P.info? ty).map (·.size) = some cs.size) (H : R (.returned (.agg cs)) w) : bodyPost P fn R .ret a w := by
  have e1 := h.get p _ hp
  simp only [Act.eval] at e1
  refine bodyPost_ret (v := .agg cs) ?_ h.defers H
  cases d <;> first | exact results_cell_row hr _ w g ty cs (0, 0) _ e1 hs hu rfl hi | cases hd
end
end Go.Proofs.YtoggeiaofpdboaaDoor.Kn
