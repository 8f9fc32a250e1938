/- Bytes in a row of the call's own, made of a text or grown by append: what append of a text leaves; as a text again. Nothing of its cells is frozen. -/
import Derived.Test.YtoggeiaofpdboaaDoorOwn
import Derived.Test.YtoggeiaofpdboaaDoorOctB
import Derived.Laws.IdiomStrings
import Derived.Lib.AppendStr
import Derived.Lib.FrozenHead
import Derived.Laws.Rows
import Derived.Laws.CopyOwn
namespace Go.Proofs.YtoggeiaofpdboaaDoor.OwX
open Go Go.RowKit Go.Lib

theorem run_storeCells_free (P : Program) (g o : Nat) (t : TypeId) (fz : Nat × Nat) : ∀ (vs : List Value) (i : Nat) (cur : Array Value) (w : World), w.heap[g]? = some (.cells cur t fz) → (fz.2 = 0 ∨ cur.size ≤ fz.1) → o + i + vs.length ≤ cur.size → (∀ v ∈ vs, v.oneCell' = true) →
    (storeCells ⟨g, o, none⟩ vs i).run P w = .ok () (w.setRow g (cur.toList.take (o + i) ++ vs ++ cur.toList.drop (o + i + vs.length)).toArray) := by
  intro vs
  induction vs with
  | nil =>
    intro i cur w hg _ _ _
    simp only [storeCells, List.append_nil, List.length_nil, Nat.add_zero, List.take_append_drop, Array.toArray_toList]
    rw [setRow_self w g cur t fz hg]
    rfl
  | cons x r ih =>
    intro i cur w hg hfz hl h1
    rw [List.length_cons] at hl
    have hi : o + i < cur.size := by omega
    have e1 : (⟨g, o, none⟩ : Addr).add i = ⟨g, o + i, none⟩ := Addr.add_lit _ _ _
    have e2 : w.cell? ⟨g, o + i, none⟩ = some cur[o + i] := by simp [World.cell?, hg, hi]
    have e3 : w.frozen? ⟨g, o + i, none⟩ = false := by
      obtain ⟨lo, hi2⟩ := fz
      simp only at hfz
      simp only [World.frozen?, hg, Bool.and_eq_false_iff, decide_eq_false_iff_not]
      omega
    have e4 : (store ((⟨g, o, none⟩ : Addr).add i) x).run P w = .ok () (w.setRow g (cur.setIfInBounds (o + i) x)) := by
      rw [e1, run_store P w _ x _ (h1 x (by simp)), e2]
      simp [e3, setCell_eq_setRow w g (o + i) cur t fz x hg]
    have e5 := ih (i + 1) (cur.setIfInBounds (o + i) x) (w.setRow g (cur.setIfInBounds (o + i) x)) (setRow_heap w g cur _ t _ hg) (by simpa using hfz) (by simp; omega) (fun y hy => h1 y (by simp [hy]))
    simp only [storeCells, Sem.run_bind, e4, Result.andThen_ok, e5, setRow_setRow]
    congr 3
    have e6 := list_seg_step cur.toList (o + i) x r (by simp; omega)
    simpa [Array.toList_setIfInBounds, Nat.add_assoc] using e6

/-- Bytes in a row of the call's own, in a block from B on. -/
def OwnX (w : World) (B : Nat) (v : Value) (l : List UInt8) : Prop := ∃ g cap cur fz, v = .slice (some ⟨g, 0, none⟩) l.length cap ∧ B ≤ g ∧ w.heap[g]? = some (.cells cur 5 fz) ∧ (fz.2 = 0 ∨ cur.size ≤ fz.1) ∧ l.length ≤ cap ∧ cap ≤ maxLen ∧ cur.size = cap ∧ cur.toList.take l.length = byteCells l
theorem OwnX.on {w w' : World} {B : Nat} {v : Value} {l : List UInt8} (h : OwnX w B v l) (hb : Below w.heap.size w w') : OwnX w' B v l := by
  obtain ⟨g, cap, cur, fz, h1, h2, h3, h4⟩ := h
  exact ⟨g, cap, cur, fz, h1, h2, (hb.block g (Array.getElem?_eq_some_iff.1 h3).1).trans h3, h4⟩
theorem OwnX.drew {w : World} {B : Nat} {v : Value} {l : List UInt8} (h : OwnX w B v l) : OwnX w.drew B v l := h
/-- '[]byte(s)'. -/
theorem made (w : World) (B : Nat) (hB : B ≤ w.heap.size) (s : ByteArray) (hs : s.size ≤ maxLen) : ∃ v w', (convert 9 52 (.string s)).run Tryd.prog w = .ok v w' ∧ OwnX w' B v s.data.toList ∧ Below w.heap.size w w' := by
  have hge := grownCap_ge w s.size 0 5
  have hm := grownCap_le_maxLen w s.size 0 5 hs
  have hsz : (bytesRow s (grownCap w s.size 0 5)).size = grownCap w s.size 0 5 := by
    unfold bytesRow
    simp only [Array.size_append, Array.size_map, Array.size_replicate]
    have : s.data.size = s.size := rfl
    omega
  refine ⟨_, _, run_bytes_of_string w 9 52 5 s Tryd.underlying9 Tryd.underlying52 Tryd.underlying5, ⟨w.heap.size, _, _, _, rfl, hB, heap_alloc_new w.drew _, .inr (Nat.le_refl _), hge, hm, hsz, ?_⟩, ((Below.refl _ _).drew).alloc (Nat.le_refl _) _⟩
  have e : s.data.toList.length = (s.data.map fun b => Value.int .u8 b.toNat).toList.length := by simp
  unfold bytesRow byteCells
  rw [Array.toList_append, e, List.take_left, Array.toList_map]
/-- 'append(b, s...)'. -/
theorem OwnX.push {w0 w : World} {v : Value} {l : List UInt8} (h : OwnX w w0.heap.size v l) (hb : Below w0.heap.size w0 w) (s : ByteArray) (ty : TypeId) (hl : l.length + s.size ≤ 100000000) :
    ∃ v' w', (Builtin.append_ #[52, 9] ty #[v, .string s]).run Tryd.prog w = .ok v' w' ∧ OwnX w' w0.heap.size v' (l ++ s.data.toList) ∧ Below w0.heap.size w0 w' := by
  obtain ⟨i0, hi, hz0, hz1, hz2⟩ : ∃ i0, Tryd.prog.info? 5 = some i0 ∧ i0.zero = some (.int .u8 0) ∧ i0.size = 1 ∧ i0.bytes = 1 := ⟨(Tryd.prog.info? 5).get (by kernel_rfl), by kernel_rfl, by kernel_rfl, by kernel_rfl, by kernel_rfl⟩
  obtain ⟨g, cap, cur, fz, rfl, hB, hg, hfz, hlc, hcm, hcs, htk⟩ := h
  have hll : (l ++ s.data.toList).length = l.length + s.size := by rw [List.length_append]; rfl
  have hcl : (byteCells l).length = l.length := by simp [byteCells]
  have hcc : byteCells (l ++ s.data.toList) = byteCells l ++ strCells s := by simp [byteCells, strCells]
  have hsl : (strCells s).length = s.size := strCells_length s
  by_cases hroom : l.length + s.size ≤ cap
  · have hf := run_firstCells_string (P := Tryd.prog) w 1 s
    have hst := run_storeCells_free Tryd.prog g l.length 5 fz (strCells s) 0 cur w hg hfz (by rw [hsl]; omega) (strCells_oneCell s)
    simp only [Nat.add_zero, hsl] at hst
    refine ⟨.slice (some ⟨g, 0, none⟩) (l.length + s.size) cap, w.setRow g (cur.toList.take l.length ++ strCells s ++ cur.toList.drop (l.length + s.size)).toArray, ?_, ⟨g, cap, _, fz, by rw [hll], hB, setRow_heap w g cur _ _ _ hg, ?_, by rw [hll]; exact hroom, hcm, ?_, ?_⟩, below_setRow hb hB _⟩
    · simp [Builtin.append_, run_underlying Tryd.underlying52, run_underlying Tryd.underlying9, sizeOf, typeInfo, hi, hz1, Builtin.lenOf, hroom, hf, Addr.add_lit, hst]
    · rcases hfz with e | e
      · exact .inl e
      · right
        simp only [List.size_toArray, List.length_append, List.length_take, List.length_drop, Array.length_toList, hsl]
        omega
    · simp only [List.size_toArray, List.length_append, List.length_take, List.length_drop, Array.length_toList, hsl]
      omega
    · rw [htk, hcc, hll]
      have : l.length + s.size = (byteCells l ++ strCells s).length := by rw [List.length_append, hcl, hsl]
      rw [this]
      exact List.take_left
  · have holds : ∀ j u, (byteCells l)[j]? = some u → w.cell? ((⟨g, 0, none⟩ : Addr).add j) = some u := fun j u hu => by
      rw [Addr.add_lit, Nat.zero_add, cell_of_row w g j cur 5 fz hg]
      rw [← htk, List.getElem?_take] at hu
      split at hu
      · simpa using hu
      · cases hu
    have hr := run_append_grow_string (P := Tryd.prog) w 52 9 ty 5 i0 (.int .u8 0) Tryd.underlying52 Tryd.underlying9 hi hz0 ⟨g, 0, none⟩ l.length cap (byteCells l) (by rw [hz1, hcl]; omega) holds s (by omega) (by omega) (by rw [hz2]; exact growslice_fits (by omega) (by omega))
    have hge := grownCap_ge w (l.length + s.size) cap 5
    have hcm2 := grownCap_le_maxLen w (l.length + s.size) cap 5 (by unfold maxLen; omega)
    refine ⟨_, _, hr, ⟨w.heap.size, _, _, (0, 0), by rw [hll], hb.size, heap_alloc_new w.drew _, .inl rfl, by rw [hll]; exact hge, hcm2, ?_, ?_⟩, hb.drew.alloc hb.size _⟩
    · have hz : (Value.int IntKind.u8 0).cells.size = 1 := rfl
      simp only [Array.size_append, List.size_toArray, size_zeroCells, hz, hcl, hsl]
      omega
    · rw [hcc, hll, Array.toList_append, Array.toList_append]
      have : l.length + s.size = ((byteCells l).toArray.toList ++ (strCells s).toArray.toList).length := by simp [hcl, hsl]
      rw [this, List.take_left]
/-- 'string(b)'. -/
theorem OwnX.text {w : World} {B : Nat} {v : Value} {l : List UInt8} (h : OwnX w B v l) : (convert 52 9 v).run Tryd.prog w = .ok (.string ⟨l.toArray⟩) w := by
  obtain ⟨g, cap, cur, fz, rfl, hB, hg, hfz, hlc, hcm, hcs, htk⟩ := h
  refine run_convert_bytes_back (P := Tryd.prog) w 52 9 5 ⟨g, 0, none⟩ cap l Tryd.underlying52 Tryd.underlying5 Tryd.underlying9 (fun j hj => ?_)
  rw [Addr.add_lit, Nat.zero_add, cell_of_row w g j cur 5 fz hg]
  have : (byteCells l)[j]? = some (.int .u8 (l[j].toNat : Int)) := by simp [byteCells, List.getElem?_eq_getElem hj]
  rw [← htk, List.getElem?_take, if_pos hj] at this
  simpa using this
end Go.Proofs.YtoggeiaofpdboaaDoor.OwX
