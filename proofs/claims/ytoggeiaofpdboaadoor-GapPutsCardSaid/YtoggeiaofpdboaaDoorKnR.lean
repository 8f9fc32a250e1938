/- Results: three slots; a cell and a slot. Over whatever program. -/
import Derived.Test.YtoggeiaofpdboaaDoorKn
import Derived.OwnWalk
import Derived.Laws.ResultCell
namespace Go.Proofs.YtoggeiaofpdboaaDoor.Kn
open Go
section
variable {P : Program} {n : Nat} {l : List (Nat × Value)} {a : Act} {w : World}
theorem ret3 {fn : Func} {R : Ending → World → Prop} {t u x : Tmp} {v1 v2 v3 : Value} (h : Kn n l a) (hr : fn.results = #[.tmp t, .tmp u, .tmp x]) (h1 : find l t = some v1) (h2 : find l u = some v2) (h3 : find l x = some v3) (H : R (.returned (.tuple #[v1, v2, v3])) w) : bodyPost P fn R .ret a w :=
  bodyPost_ret (results_tmp3 hr _ _ _) h.defers (by have e1 := h.get t v1 h1; have e2 := h.get u v2 h2; have e3 := h.get x v3 h3; simp only [Act.eval] at e1 e2 e3; rw [e1, e2, e3]; exact H)
theorem retC {fn : Func} {R : Ending → World → Prop} {p u : Tmp} {ty : TypeId} {A : Addr} {v x : Value} (h : Kn n l a) (hr : fn.results = #[.cell p ty, .tmp u]) (hp : find l p = some (.pointer (some A))) (hx : find l u = some x) (hl : (loadVar ty A).run P w = .ok v w) (H : R (.returned (.tuple #[v, x])) w) : bodyPost P fn R .ret a w := by
  have e1 := h.get p _ hp
  have e2 := h.get u x hx
  simp only [Act.eval] at e1 e2
  refine bodyPost_ret (v := .tuple #[v, x]) ?_ h.defers H
  rw [results_cell_tmp hr, e1, e2]
  have ha : (asAddr (.pointer (some A))).run P w = .ok A w := rfl
  rw [ha]
  show ((loadVar ty A).run P w).andThen _ = _
  rw [hl]
  rfl
end
end Go.Proofs.YtoggeiaofpdboaaDoor.Kn
