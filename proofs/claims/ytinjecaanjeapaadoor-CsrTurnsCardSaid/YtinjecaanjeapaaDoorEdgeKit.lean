/- Slices of edges: that came in, that are the call's own. -/
import Derived.Test.YtinjecaanjeapaaDoorOwn
import Derived.Test.YtinjecaanjeapaaDoorEdgeMath
import Derived.Test.YtinjecaanjeapaaDoorKnAny
import Derived.IntWalk
namespace Go.Proofs.YtinjecaanjeapaaDoor.Edg
open Go Go.RowKit Go.Lib

/-- The i-th edge. -/
def ed (l : List (Int × Int)) (i : Nat) : Int × Int := l.getD i (0, 0)
theorem ed_at (l : List (Int × Int)) (i : Nat) (h : i < l.length) : ed l i = l[i] := by simp [ed, List.getD, List.getElem?_eq_getElem h]
theorem ed_app (l m : List (Int × Int)) (i : Nat) (h : i < l.length) : ed (l ++ m) i = ed l i := by simp [ed, List.getD, List.getElem?_append_left h]
theorem take_ed (l : List (Int × Int)) (k : Nat) (h : k < l.length) : l.take (k + 1) = l.take k ++ [ed l k] := by rw [List.take_succ_eq_append_getElem h, ed_at l k h]
def eV (e : Int × Int) : Value := .agg #[.int .i64 e.1, .int .i64 e.2]
/-- Edges as cells. -/
def eC : List (Int × Int) → List Value
  | [] => []
  | e :: l => .int .i64 e.1 :: .int .i64 e.2 :: eC l
theorem eC_len (l : List (Int × Int)) : (eC l).length = l.length * 2 := by
  induction l with
  | nil => rfl
  | cons e l ih => simp [eC, ih]; omega
theorem eC_app (l m : List (Int × Int)) : eC (l ++ m) = eC l ++ eC m := by
  induction l with
  | nil => rfl
  | cons e l ih => simp [eC, ih]
theorem eC_one (l : List (Int × Int)) : ∀ u ∈ eC l, u.oneCell' = true := by
  induction l with
  | nil => intro u hu; cases hu
  | cons e l ih =>
    intro u hu
    rcases List.mem_cons.1 hu with rfl | hu
    · rfl
    · rcases List.mem_cons.1 hu with rfl | hu
      · rfl
      · exact ih u hu
theorem eC_at (l : List (Int × Int)) (i : Nat) (h : i < l.length) : (eC l)[i * 2]? = some (.int .i64 (ed l i).1) ∧ (eC l)[i * 2 + 1]? = some (.int .i64 (ed l i).2) := by
  induction l generalizing i with
  | nil => simp at h
  | cons e l ih =>
    cases i with
    | zero => exact ⟨rfl, rfl⟩
    | succ i =>
      have := ih i (by simpa using h)
      rw [show (i + 1) * 2 = i * 2 + 2 by omega, show i * 2 + 2 + 1 = (i * 2 + 1) + 2 by omega]
      simpa [eC, ed] using this
/-- A slice that reads as these edges. -/
def EIn (w : World) (A : Option Addr) (l : List (Int × Int)) : Prop := ∀ i, i < l.length → ∃ b o, A = some ⟨b, o, none⟩ ∧ b < w.heap.size ∧ w.cell? ⟨b, o + i * 2, none⟩ = some (.int .i64 (ed l i).1) ∧ w.cell? ⟨b, o + i * 2 + 1, none⟩ = some (.int .i64 (ed l i).2)
theorem EIn.on {w w' : World} {A : Option Addr} {l : List (Int × Int)} (h : EIn w A l) (hb : Below w.heap.size w w') : EIn w' A l := fun i hi => by
  obtain ⟨b, o, e, hlt, h1, h2⟩ := h i hi
  exact ⟨b, o, e, Nat.lt_of_lt_of_le hlt hb.size, (hb.cell (p := ⟨b, o + i * 2, none⟩) hlt).trans h1, (hb.cell (p := ⟨b, o + i * 2 + 1, none⟩) hlt).trans h2⟩
theorem EIn.below {w w' : World} {B : Nat} {A : Option Addr} {l : List (Int × Int)} (h : EIn w A l) (hb : Below B w w') (hB : w.heap.size ≤ B) : EIn w' A l := h.on (hb.mono hB)
theorem EIn.drew {w : World} {A : Option Addr} {l : List (Int × Int)} (h : EIn w A l) : EIn w.drew A l := h
theorem EIn.drewN {w : World} {A : Option Addr} {l : List (Int × Int)} (h : EIn w A l) (n : Nat) : EIn (w.drewN n) A l := h
theorem EIn.nil (w : World) (A : Option Addr) : EIn w A [] := fun i hi => absurd hi (by simp)
theorem EIn.cells {w : World} {b o : Nat} {l : List (Int × Int)} (h : EIn w (some ⟨b, o, none⟩) l) {i : Nat} (hi : i < l.length) : w.cell? ⟨b, o + i * 2, none⟩ = some (.int .i64 (ed l i).1) ∧ w.cell? ⟨b, o + i * 2 + 1, none⟩ = some (.int .i64 (ed l i).2) := by
  obtain ⟨b', o', e, _, h1, h2⟩ := h i hi
  cases e
  exact ⟨h1, h2⟩
theorem addr_add (b o j : Nat) : (⟨b, o, none⟩ : Addr).add j = ⟨b, o + j, none⟩ := by unfold Addr.add; split <;> simp_all
theorem EIn.news {w : World} {b o : Nat} {l : List (Int × Int)} (h : EIn w (some ⟨b, o, none⟩) l) : ∀ j u, (eC l)[j]? = some u → w.cell? ((⟨b, o, none⟩ : Addr).add j) = some u := fun j u hu => by
  have hj : j < (eC l).length := by
    rcases Nat.lt_or_ge j (eC l).length with h' | h'
    · exact h'
    · rw [List.getElem?_eq_none h'] at hu; cases hu
  rw [eC_len] at hj
  rw [addr_add]
  have hi : j / 2 < l.length := by omega
  have h1 := h.cells hi
  have h2 := eC_at l (j / 2) hi
  rcases Nat.mod_two_eq_zero_or_one j with hm | hm
  · have e : j / 2 * 2 = j := by omega
    rw [e] at h1 h2
    rw [h2.1] at hu
    rw [h1.1, ← hu]
  · have e : j / 2 * 2 + 1 = j := by omega
    rw [Nat.add_assoc, e] at h1
    rw [e] at h2
    rw [h2.2] at hu
    rw [h1.2, ← hu]
/-- A row of edges of the call's own. -/
def OwnE (w : World) (B : Nat) (A : Option Addr) (n cap : Nat) (l : List (Int × Int)) : Prop := n = l.length ∧ w.ownsRow B 51 2 (.slice A n cap) n (eC l)
theorem OwnE.ein {w : World} {B : Nat} {A : Option Addr} {n cap : Nat} {l : List (Int × Int)} (h : OwnE w B A n cap l) : EIn w A l := fun i hi => by
  obtain ⟨g, cap', e, hb, hlt⟩ := h.2.form (by rw [h.1]; omega)
  simp only [Value.slice.injEq] at e
  obtain ⟨rfl, _, _⟩ := e
  have hc := h.2.cells (g := g) rfl
  have h1 := eC_at l i hi
  have a1 := hc _ _ h1.1
  have a2 := hc _ _ h1.2
  rw [addr_add] at a1 a2
  exact ⟨g, 0, rfl, hlt, a1, by rw [Nat.add_assoc]; exact a2⟩
theorem OwnE.ge {w : World} {B g n cap : Nat} {l : List (Int × Int)} (h : OwnE w B (some ⟨g, 0, none⟩) n cap l) : B ≤ g := (h.2.lt g rfl).1
theorem OwnE.lt {w : World} {B g n cap : Nat} {l : List (Int × Int)} (h : OwnE w B (some ⟨g, 0, none⟩) n cap l) : g < w.heap.size := (h.2.lt g rfl).2
theorem OwnE.alloc {w : World} {B n cap : Nat} {A : Option Addr} {l : List (Int × Int)} (h : OwnE w B A n cap l) (o : Obj) : OwnE (w.alloc o) B A n cap l := ⟨h.1, h.2.alloc o⟩
theorem OwnE.drew {w : World} {B n cap : Nat} {A : Option Addr} {l : List (Int × Int)} (h : OwnE w B A n cap l) : OwnE w.drew B A n cap l := h
theorem OwnE.on {w w' : World} {B n cap : Nat} {A : Option Addr} {l : List (Int × Int)} (h : OwnE w B A n cap l) (hb : Below w.heap.size w w') : OwnE w' B A n cap l := ⟨h.1, Own.row_on h.2 hb⟩
theorem OwnE.none (w : World) (B : Nat) : OwnE w B none 0 0 [] := ⟨rfl, World.ownsRow_nil _ _ _ _⟩
theorem OwnE.new (w : World) (B : Nat) (hB : B ≤ w.heap.size) : OwnE (w.alloc (.cells #[] 51)) B (some ⟨w.heap.size, 0, Option.none⟩) 0 0 [] := ⟨rfl, Own.new_row _ _ _ _ hB⟩
theorem OwnE.kept {v v' : World} {r : Option Nat} {g' B n cap : Nat} {A : Option Addr} {l : List (Int × Int)} (h : OwnE v B A n cap l) (hk : Own.Kept v v' r g') (hne : (Value.slice A n cap).ownBlock = Option.none ∨ (Value.slice A n cap).ownBlock ≠ r) : OwnE v' B A n cap l := ⟨h.1, hk.row h.2 hne⟩
theorem elemE : Own.Elem Tryd.prog 22 51 (.agg #[.int .i64 0, .int .i64 0]) 2 16 := ⟨Tryd.underlying22, by kernel_rfl, rfl, by decide⟩
/-- One edge is appended. -/
theorem push1 (w0 v : World) (ty : TypeId) (A : Option Addr) (n cap : Nat) (l : List (Int × Int)) (e : Int × Int) (hO : OwnE v w0.heap.size A n cap l) (hb : Below w0.heap.size w0 v) (hn : n ≤ 100000) :
    ∃ g' cap' v', (Builtin.append_ #[22, 22] ty #[.slice A n cap, .slice (some ⟨v.heap.size, 0, none⟩) 1 1]).run Tryd.prog (v.alloc (.cells #[.int .i64 e.1, .int .i64 e.2] 51)) = .ok (.slice (some ⟨g', 0, none⟩) (n + 1) cap') v' ∧
      OwnE v' w0.heap.size (some ⟨g', 0, none⟩) (n + 1) cap' (l ++ [e]) ∧ Below w0.heap.size w0 v' ∧ Own.Kept (v.alloc (.cells #[.int .i64 e.1, .int .i64 e.2] 51)) v' (Value.slice A n cap).ownBlock g' := by
  obtain ⟨g', cap', v', h1, h2, h3, h4⟩ := Own.append elemE w0 (v.alloc (.cells #[.int .i64 e.1, .int .i64 e.2] 51)) ty A n cap 1 1 (eC l) (hO.2.alloc _) ⟨v.heap.size, 0, none⟩ [.int .i64 e.1, .int .i64 e.2] rfl (World.news_of_block (cs := #[.int .i64 e.1, .int .i64 e.2]) (heap_alloc_new v _)) (by simp [Value.oneCell']) (by omega) (by unfold maxLen; omega) (by omega) (hb.alloc hb.size _)
  exact ⟨g', cap', v', h1, ⟨by rw [List.length_append, ← hO.1]; rfl, by rw [eC_app]; exact h2⟩, h3, h4⟩
/-- Some edges are appended. -/
theorem pushM (w0 v : World) (ty : TypeId) (A : Option Addr) (n cap m c b o : Nat) (l src : List (Int × Int)) (hO : OwnE v w0.heap.size A n cap l) (hS : EIn v (some ⟨b, o, none⟩) src) (hm : m = src.length) (hp : 0 < n + m) (hb : Below w0.heap.size w0 v) (hn : n + m ≤ 100000) :
    ∃ g' cap' v', (Builtin.append_ #[22, 22] ty #[.slice A n cap, .slice (some ⟨b, o, none⟩) m c]).run Tryd.prog v = .ok (.slice (some ⟨g', 0, none⟩) (n + m) cap') v' ∧
      OwnE v' w0.heap.size (some ⟨g', 0, none⟩) (n + m) cap' (l ++ src) ∧ Below w0.heap.size w0 v' ∧ Own.Kept v v' (Value.slice A n cap).ownBlock g' := by
  obtain ⟨g', cap', v', h1, h2, h3, h4⟩ := Own.append elemE w0 v ty A n cap m c (eC l) hO.2 ⟨b, o, none⟩ (eC src) (by rw [eC_len, hm]) hS.news (eC_one _) hp (by unfold maxLen; omega) (by omega) hb
  exact ⟨g', cap', v', h1, ⟨by rw [List.length_append, ← hO.1, hm], by rw [eC_app]; exact h2⟩, h3, h4⟩
end Go.Proofs.YtinjecaanjeapaaDoor.Edg
