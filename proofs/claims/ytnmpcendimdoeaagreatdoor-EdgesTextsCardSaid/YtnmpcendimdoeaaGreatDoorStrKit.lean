/- Rows of texts of the call's own. -/
import Derived.Test.YtnmpcendimdoeaaGreatDoorOwn
import Derived.Test.YtnmpcendimdoeaaGreatDoorKnAny
import Derived.Test.YtnmpcendimdoeaaGreatDoorDigMath
import Derived.Laws.OwnMore
import Derived.IntWalk
namespace Go.Proofs.YtnmpcendimdoeaaGreatDoor.Str
open Go Go.RowKit Go.Lib

def OwnS (w : World) (B : Nat) (A : Option Addr) (n cap : Nat) (l : List ByteArray) : Prop := n = l.length ∧ w.ownsRow B 9 1 (.slice A n cap) n (l.map Value.string)
theorem addr_add (b o j : Nat) : (⟨b, o, none⟩ : Addr).add j = ⟨b, o + j, none⟩ := by unfold Addr.add; split <;> simp_all
theorem OwnS.cell {w : World} {B g n cap : Nat} {l : List ByteArray} (h : OwnS w B (some ⟨g, 0, none⟩) n cap l) {i : Nat} (hi : i < l.length) : w.cell? ⟨g, i, none⟩ = some (.string l[i]) := by
  have := h.2.cells (g := g) rfl i (.string l[i]) (by simp [hi])
  rwa [addr_add, Nat.zero_add] at this
theorem OwnS.lt {w : World} {B g n cap : Nat} {l : List ByteArray} (h : OwnS w B (some ⟨g, 0, none⟩) n cap l) : g < w.heap.size := (h.2.lt g rfl).2
theorem OwnS.ge {w : World} {B g n cap : Nat} {l : List ByteArray} (h : OwnS w B (some ⟨g, 0, none⟩) n cap l) : B ≤ g := (h.2.lt g rfl).1
theorem OwnS.free {w : World} {B g n cap : Nat} {l : List ByteArray} (h : OwnS w B (some ⟨g, 0, none⟩) n cap l) (i : Nat) : w.frozen? ⟨g, i, none⟩ = false := World.ownsRow.frozenAt h.2 i
theorem OwnS.alloc {w : World} {B n cap : Nat} {A : Option Addr} {l : List ByteArray} (h : OwnS w B A n cap l) (o : Obj) : OwnS (w.alloc o) B A n cap l := ⟨h.1, h.2.alloc o⟩
theorem OwnS.drew {w : World} {B n cap : Nat} {A : Option Addr} {l : List ByteArray} (h : OwnS w B A n cap l) : OwnS w.drew B A n cap l := h
theorem OwnS.on {w w' : World} {B n cap : Nat} {A : Option Addr} {l : List ByteArray} (h : OwnS w B A n cap l) (hb : Below w.heap.size w w') : OwnS w' B A n cap l := ⟨h.1, Own.row_on h.2 hb⟩
theorem OwnS.set {w : World} {B g n cap : Nat} {l : List ByteArray} (h : OwnS w B (some ⟨g, 0, none⟩) n cap l) (i : Nat) (s : ByteArray) : OwnS (w.setCell ⟨g, i, none⟩ (.string s)) B (some ⟨g, 0, none⟩) n cap (l.set i s) := by
  refine ⟨by rw [List.length_set]; exact h.1, ?_⟩
  have := (World.ownsRow.stored h.2 i (.string s)).1
  rwa [List.map_set]
theorem OwnS.one (w : World) (B : Nat) (s : ByteArray) (hB : B ≤ w.heap.size) : OwnS (w.alloc (.cells #[.string s] 9)) B (some ⟨w.heap.size, 0, none⟩) 1 1 [s] :=
  ⟨rfl, by simp, .inr ⟨w.heap.size, 1, #[.string s], rfl, hB, heap_alloc_new _ _, Nat.le_refl _, by unfold maxLen; omega, by simp, by simp⟩⟩
theorem elemS : Own.Elem Tryz.prog 50 9 (.string ⟨#[]⟩) 1 16 := ⟨Tryz.underlying50, by kernel_rfl, rfl, by decide⟩
theorem push1 (w0 v : World) (ty : TypeId) (A : Option Addr) (n cap : Nat) (l : List ByteArray) (s : ByteArray) (hO : OwnS v w0.heap.size A n cap l) (hb : Below w0.heap.size w0 v) (hn : n ≤ 100000) :
    ∃ g' cap' v', (Builtin.append_ #[50, 50] ty #[.slice A n cap, .slice (some ⟨v.heap.size, 0, none⟩) 1 1]).run Tryz.prog (v.alloc (.cells #[.string s] 9)) = .ok (.slice (some ⟨g', 0, none⟩) (n + 1) cap') v' ∧
      OwnS v' w0.heap.size (some ⟨g', 0, none⟩) (n + 1) cap' (l ++ [s]) ∧ Below w0.heap.size w0 v' ∧ Own.Kept (v.alloc (.cells #[.string s] 9)) v' (Value.slice A n cap).ownBlock g' := by
  obtain ⟨g', cap', v', h1, h2, h3, h4⟩ := Own.append elemS w0 (v.alloc (.cells #[.string s] 9)) ty A n cap 1 1 (l.map Value.string) (hO.2.alloc _) ⟨v.heap.size, 0, none⟩ [.string s] rfl (World.news_of_block (cs := #[.string s]) (heap_alloc_new v _)) (by simp [Value.oneCell']) (by omega) (by unfold maxLen; omega) (by omega) (hb.alloc hb.size _)
  exact ⟨g', cap', v', h1, ⟨by rw [List.length_append, ← hO.1]; rfl, by rw [List.map_append]; exact h2⟩, h3, h4⟩
end Go.Proofs.YtnmpcendimdoeaaGreatDoor.Str
