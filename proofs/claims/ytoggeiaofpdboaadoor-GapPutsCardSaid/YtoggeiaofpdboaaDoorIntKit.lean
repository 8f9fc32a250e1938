/- Slices of ints: that came in, that are the call's own. -/
import Derived.Test.YtoggeiaofpdboaaDoorOwn
import Derived.Test.YtoggeiaofpdboaaDoorKnAny
import Derived.IntWalk
namespace Go.Proofs.YtoggeiaofpdboaaDoor.Num
open Go Go.RowKit Go.Lib

/-- The i-th number. -/
def nt (l : List Int) (i : Nat) : Int := l.getD i 0
theorem nt_at (l : List Int) (i : Nat) (h : i < l.length) : nt l i = l[i] := by simp [nt, List.getD, List.getElem?_eq_getElem h]
theorem take_nt (l : List Int) (k : Nat) (h : k < l.length) : l.take (k + 1) = l.take k ++ [nt l k] := by rw [List.take_succ_eq_append_getElem h, nt_at l k h]
theorem nts_eq {xs ys : List Int} (hl : xs.length = ys.length) (h : ∀ i, i < xs.length → nt xs i = nt ys i) : xs = ys := by
  apply List.ext_getElem hl
  intro i h1 h2
  have := h i h1
  rwa [nt_at _ _ h1, nt_at _ _ h2] at this
def iV (n : Int) : Value := .int .i64 n
theorem addr_add (b o j : Nat) : (⟨b, o, none⟩ : Addr).add j = ⟨b, o + j, none⟩ := by unfold Addr.add; split <;> simp_all
/-- A slice that reads as these numbers. -/
def IIn (w : World) (A : Option Addr) (l : List Int) : Prop := ∀ i, i < l.length → ∃ b o, A = some ⟨b, o, none⟩ ∧ b < w.heap.size ∧ w.cell? ⟨b, o + i, none⟩ = some (.int .i64 (nt l i))
theorem IIn.on {w w' : World} {A : Option Addr} {l : List Int} (h : IIn w A l) (hb : Below w.heap.size w w') : IIn w' A l := fun i hi => by
  obtain ⟨b, o, e, hlt, h1⟩ := h i hi
  exact ⟨b, o, e, Nat.lt_of_lt_of_le hlt hb.size, (hb.cell (p := ⟨b, o + i, none⟩) hlt).trans h1⟩
theorem IIn.drewN {w : World} {A : Option Addr} {l : List Int} (h : IIn w A l) (n : Nat) : IIn (w.drewN n) A l := h
theorem IIn.nil (w : World) (A : Option Addr) : IIn w A [] := fun i hi => absurd hi (by simp)
theorem IIn.cells {w : World} {b o : Nat} {l : List Int} (h : IIn w (some ⟨b, o, none⟩) l) {i : Nat} (hi : i < l.length) : w.cell? ⟨b, o + i, none⟩ = some (.int .i64 (nt l i)) := by
  obtain ⟨b', o', e, _, h1⟩ := h i hi
  cases e
  exact h1
theorem ints_one (l : List Int) : ∀ u ∈ l.map iV, u.oneCell' = true := fun u hu => by obtain ⟨n, _, rfl⟩ := List.mem_map.1 hu; rfl
theorem IIn.news {w : World} {b o : Nat} {l : List Int} (h : IIn w (some ⟨b, o, none⟩) l) : ∀ j u, (l.map iV)[j]? = some u → w.cell? ((⟨b, o, none⟩ : Addr).add j) = some u := fun j u hu => by
  have hj : j < l.length := by
    rcases Nat.lt_or_ge j l.length with h' | h'
    · exact h'
    · rw [List.getElem?_eq_none (by simpa using h')] at hu; cases hu
  rw [addr_add, h.cells hj, nt_at _ _ hj]
  rw [List.getElem?_map, List.getElem?_eq_getElem hj] at hu
  exact hu
/-- A row of numbers of the call's own. -/
def OwnI (w : World) (B : Nat) (A : Option Addr) (n cap : Nat) (l : List Int) : Prop := n = l.length ∧ w.ownsRow B 3 1 (.slice A n cap) n (l.map iV)
theorem OwnI.iin {w : World} {B : Nat} {A : Option Addr} {n cap : Nat} {l : List Int} (h : OwnI w B A n cap l) : IIn w A l := fun i hi => by
  obtain ⟨g, cap', e, hb, hlt⟩ := h.2.form (by rw [h.1]; omega)
  simp only [Value.slice.injEq] at e
  obtain ⟨rfl, _, _⟩ := e
  have hc := h.2.cells (g := g) rfl
  have a1 := hc i _ (by rw [List.getElem?_map, List.getElem?_eq_getElem hi]; rfl)
  rw [addr_add] at a1
  exact ⟨g, 0, rfl, hlt, by rw [nt_at _ _ hi]; exact a1⟩
theorem OwnI.ge {w : World} {B g n cap : Nat} {l : List Int} (h : OwnI w B (some ⟨g, 0, none⟩) n cap l) : B ≤ g := (h.2.lt g rfl).1
theorem OwnI.lt {w : World} {B g n cap : Nat} {l : List Int} (h : OwnI w B (some ⟨g, 0, none⟩) n cap l) : g < w.heap.size := (h.2.lt g rfl).2
theorem OwnI.alloc {w : World} {B n cap : Nat} {A : Option Addr} {l : List Int} (h : OwnI w B A n cap l) (o : Obj) : OwnI (w.alloc o) B A n cap l := ⟨h.1, h.2.alloc o⟩
theorem OwnI.drew {w : World} {B n cap : Nat} {A : Option Addr} {l : List Int} (h : OwnI w B A n cap l) : OwnI w.drew B A n cap l := h
theorem OwnI.on {w w' : World} {B n cap : Nat} {A : Option Addr} {l : List Int} (h : OwnI w B A n cap l) (hb : Below w.heap.size w w') : OwnI w' B A n cap l := ⟨h.1, Own.row_on h.2 hb⟩
theorem OwnI.none (w : World) (B : Nat) : OwnI w B none 0 0 [] := ⟨rfl, World.ownsRow_nil _ _ _ _⟩
theorem OwnI.new (w : World) (B : Nat) (hB : B ≤ w.heap.size) : OwnI (w.alloc (.cells #[] 3)) B (some ⟨w.heap.size, 0, Option.none⟩) 0 0 [] := ⟨rfl, Own.new_row _ _ _ _ hB⟩
theorem OwnI.kept {v v' : World} {r : Option Nat} {g' B n cap : Nat} {A : Option Addr} {l : List Int} (h : OwnI v B A n cap l) (hk : Own.Kept v v' r g') (hne : (Value.slice A n cap).ownBlock = Option.none ∨ (Value.slice A n cap).ownBlock ≠ r) : OwnI v' B A n cap l := ⟨h.1, hk.row h.2 hne⟩
theorem elemI : Own.Elem Tryd.prog 22 3 (.int .i64 0) 1 8 := ⟨Tryd.underlying22, by kernel_rfl, rfl, by decide⟩
/-- One number is appended. -/
theorem push1 (w0 v : World) (ty : TypeId) (A : Option Addr) (n cap : Nat) (l : List Int) (e : Int) (hO : OwnI v w0.heap.size A n cap l) (hb : Below w0.heap.size w0 v) (hn : n ≤ 100000) :
    ∃ g' cap' v', (Builtin.append_ #[22, 22] ty #[.slice A n cap, .slice (some ⟨v.heap.size, 0, none⟩) 1 1]).run Tryd.prog (v.alloc (.cells #[.int .i64 e] 3)) = .ok (.slice (some ⟨g', 0, none⟩) (n + 1) cap') v' ∧
      OwnI v' w0.heap.size (some ⟨g', 0, none⟩) (n + 1) cap' (l ++ [e]) ∧ Below w0.heap.size w0 v' ∧ Own.Kept (v.alloc (.cells #[.int .i64 e] 3)) v' (Value.slice A n cap).ownBlock g' := by
  obtain ⟨g', cap', v', h1, h2, h3, h4⟩ := Own.append elemI w0 (v.alloc (.cells #[.int .i64 e] 3)) ty A n cap 1 1 (l.map iV) (hO.2.alloc _) ⟨v.heap.size, 0, none⟩ [.int .i64 e] rfl (World.news_of_block (cs := #[.int .i64 e]) (heap_alloc_new v _)) (by simp [Value.oneCell']) (by omega) (by unfold maxLen; omega) (by omega) (hb.alloc hb.size _)
  exact ⟨g', cap', v', h1, ⟨by rw [List.length_append, ← hO.1]; rfl, by rw [List.map_append]; exact h2⟩, h3, h4⟩
end Go.Proofs.YtoggeiaofpdboaaDoor.Num
