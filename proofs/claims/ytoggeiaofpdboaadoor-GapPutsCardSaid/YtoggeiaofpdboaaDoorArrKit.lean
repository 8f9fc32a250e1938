/- Arrays of a few one-cell elements by value: opened, shut. Over whatever program. -/
import Derived.OpenShut
import Derived.Lib.SmallJoins
namespace Go.Proofs.YtoggeiaofpdboaaDoor
open Go Go.ChangeShapes Go.WideShapes Go.RowKit Go.Joins

section
variable {H : Type} {enc : TypeId × Value → H} {P : Program} {w : World} {base : Nat} {spare : Nat → Bool} {held : Bool}
theorem okWide_arr {n : Nat} {e t : TypeId} {r : Reach} {b0 : Nat} {v : Value} (ht : P.underlying t = some (.array n e)) (h : Value.okWide P w r b0 t v) : ∃ cs, v = .agg cs ∧ cs.size = P.cellsOf t := by
  simp only [Value.okWide, ht] at h
  obtain ⟨cs, h1, h2, _⟩ := h
  exact ⟨cs, h1, h2⟩
theorem arrayL1 {α : Type} {cs : Array α} (h : cs.size = 1) : ∃ c0, cs = #[c0] := by
  obtain ⟨l⟩ := cs
  match l, h with
  | [c0], _ => exact ⟨c0, rfl⟩
theorem listL1 {α : Type} {l : List α} (h : l.length = 1) : ∃ c0, l = [c0] := by
  match l, h with
  | [c0], _ => exact ⟨c0, rfl⟩
theorem open_arr1 {r : Reach} {b0 : Nat} {t e : TypeId} {v : Value} {d : DataW H} {p : List MemPlace} (hs : P.underlying t = some (.array 1 e)) (hce : P.cellsOf e = 1) (hC : P.cellsOf t = 1)
    (hv : Value.okWide P w r b0 t v) (h : DataW.Trod enc P w base spare held t v d p) :
    ∃ (v0 : Value) (y0 : DataW H × List MemPlace) (n : Nat), v = .agg #[v0] ∧ d = .agg [y0.1] ∧ p = y0.2 ∧
      DataW.trod enc P w base spare held n e [v0] = some y0 := by
  obtain ⟨cs, rfl, hsz⟩ := okWide_arr hs hv
  obtain ⟨c0, rfl⟩ := arrayL1 (hsz.trans hC)
  obtain ⟨fuel, hf⟩ := h
  obtain ⟨xs, m, _, ex, _, hl, hel⟩ := DataW.trod_array hs hf
  obtain ⟨y0, rfl⟩ := listL1 hl
  simp only [Prod.mk.injEq] at ex
  refine ⟨c0, y0, m, rfl, by simpa using ex.1, by simpa using ex.2, ?_⟩
  · have := hel 0 (by omega); rw [hce] at this; simpa [Value.cells] using this
theorem shut_arr1 {t e : TypeId} {v0 : Value} {y0 : DataW H × List MemPlace} (hs : P.underlying t = some (.array 1 e)) (hce : P.cellsOf e = 1) (hC : P.cellsOf t = 1)
    (t0 : ∃ n, DataW.trod enc P w base spare held n e [v0] = some y0) :
    DataW.Trod enc P w base spare held t (.agg #[v0]) (.agg [y0.1]) (y0.2) := by
  obtain ⟨n0, t0⟩ := t0
  have t0 := DataW.trod_le (show n0 ≤ n0 by omega) t0
  refine ⟨n0 + 1, ?_⟩
  unfold DataW.trod
  rw [hs]
  have r1 : List.range 1 = [0] := rfl
  simp [Value.cells, hC, hce, r1, t0]
theorem arrayL2 {α : Type} {cs : Array α} (h : cs.size = 2) : ∃ c0 c1, cs = #[c0, c1] := by
  obtain ⟨l⟩ := cs
  match l, h with
  | [c0, c1], _ => exact ⟨c0, c1, rfl⟩
theorem listL2 {α : Type} {l : List α} (h : l.length = 2) : ∃ c0 c1, l = [c0, c1] := by
  match l, h with
  | [c0, c1], _ => exact ⟨c0, c1, rfl⟩
theorem open_arr2 {r : Reach} {b0 : Nat} {t e : TypeId} {v : Value} {d : DataW H} {p : List MemPlace} (hs : P.underlying t = some (.array 2 e)) (hce : P.cellsOf e = 1) (hC : P.cellsOf t = 2)
    (hv : Value.okWide P w r b0 t v) (h : DataW.Trod enc P w base spare held t v d p) :
    ∃ (v0 v1 : Value) (y0 y1 : DataW H × List MemPlace) (n : Nat), v = .agg #[v0, v1] ∧ d = .agg [y0.1, y1.1] ∧ p = y0.2 ++ y1.2 ∧
      DataW.trod enc P w base spare held n e [v0] = some y0 ∧ DataW.trod enc P w base spare held n e [v1] = some y1 := by
  obtain ⟨cs, rfl, hsz⟩ := okWide_arr hs hv
  obtain ⟨c0, c1, rfl⟩ := arrayL2 (hsz.trans hC)
  obtain ⟨fuel, hf⟩ := h
  obtain ⟨xs, m, _, ex, _, hl, hel⟩ := DataW.trod_array hs hf
  obtain ⟨y0, y1, rfl⟩ := listL2 hl
  simp only [Prod.mk.injEq] at ex
  refine ⟨c0, c1, y0, y1, m, rfl, by simpa using ex.1, by simpa using ex.2, ?_, ?_⟩
  · have := hel 0 (by omega); rw [hce] at this; simpa [Value.cells] using this
  · have := hel 1 (by omega); rw [hce] at this; simpa [Value.cells] using this
theorem shut_arr2 {t e : TypeId} {v0 v1 : Value} {y0 y1 : DataW H × List MemPlace} (hs : P.underlying t = some (.array 2 e)) (hce : P.cellsOf e = 1) (hC : P.cellsOf t = 2)
    (t0 : ∃ n, DataW.trod enc P w base spare held n e [v0] = some y0) (t1 : ∃ n, DataW.trod enc P w base spare held n e [v1] = some y1) :
    DataW.Trod enc P w base spare held t (.agg #[v0, v1]) (.agg [y0.1, y1.1]) (y0.2 ++ y1.2) := by
  obtain ⟨n0, t0⟩ := t0
  obtain ⟨n1, t1⟩ := t1
  have t0 := DataW.trod_le (show n0 ≤ n0 + n1 by omega) t0
  have t1 := DataW.trod_le (show n1 ≤ n0 + n1 by omega) t1
  refine ⟨n0 + n1 + 1, ?_⟩
  unfold DataW.trod
  rw [hs]
  have r2 : List.range 2 = [0, 1] := rfl
  simp [Value.cells, hC, hce, r2, t0, t1]
theorem arrayL3 {α : Type} {cs : Array α} (h : cs.size = 3) : ∃ c0 c1 c2, cs = #[c0, c1, c2] := by
  obtain ⟨l⟩ := cs
  match l, h with
  | [c0, c1, c2], _ => exact ⟨c0, c1, c2, rfl⟩
theorem listL3 {α : Type} {l : List α} (h : l.length = 3) : ∃ c0 c1 c2, l = [c0, c1, c2] := by
  match l, h with
  | [c0, c1, c2], _ => exact ⟨c0, c1, c2, rfl⟩
theorem open_arr3 {r : Reach} {b0 : Nat} {t e : TypeId} {v : Value} {d : DataW H} {p : List MemPlace} (hs : P.underlying t = some (.array 3 e)) (hce : P.cellsOf e = 1) (hC : P.cellsOf t = 3)
    (hv : Value.okWide P w r b0 t v) (h : DataW.Trod enc P w base spare held t v d p) :
    ∃ (v0 v1 v2 : Value) (y0 y1 y2 : DataW H × List MemPlace) (n : Nat), v = .agg #[v0, v1, v2] ∧ d = .agg [y0.1, y1.1, y2.1] ∧ p = y0.2 ++ (y1.2 ++ y2.2) ∧
      DataW.trod enc P w base spare held n e [v0] = some y0 ∧ DataW.trod enc P w base spare held n e [v1] = some y1 ∧ DataW.trod enc P w base spare held n e [v2] = some y2 := by
  obtain ⟨cs, rfl, hsz⟩ := okWide_arr hs hv
  obtain ⟨c0, c1, c2, rfl⟩ := arrayL3 (hsz.trans hC)
  obtain ⟨fuel, hf⟩ := h
  obtain ⟨xs, m, _, ex, _, hl, hel⟩ := DataW.trod_array hs hf
  obtain ⟨y0, y1, y2, rfl⟩ := listL3 hl
  simp only [Prod.mk.injEq] at ex
  refine ⟨c0, c1, c2, y0, y1, y2, m, rfl, by simpa using ex.1, by simpa using ex.2, ?_, ?_, ?_⟩
  · have := hel 0 (by omega); rw [hce] at this; simpa [Value.cells] using this
  · have := hel 1 (by omega); rw [hce] at this; simpa [Value.cells] using this
  · have := hel 2 (by omega); rw [hce] at this; simpa [Value.cells] using this
theorem shut_arr3 {t e : TypeId} {v0 v1 v2 : Value} {y0 y1 y2 : DataW H × List MemPlace} (hs : P.underlying t = some (.array 3 e)) (hce : P.cellsOf e = 1) (hC : P.cellsOf t = 3)
    (t0 : ∃ n, DataW.trod enc P w base spare held n e [v0] = some y0) (t1 : ∃ n, DataW.trod enc P w base spare held n e [v1] = some y1) (t2 : ∃ n, DataW.trod enc P w base spare held n e [v2] = some y2) :
    DataW.Trod enc P w base spare held t (.agg #[v0, v1, v2]) (.agg [y0.1, y1.1, y2.1]) (y0.2 ++ (y1.2 ++ y2.2)) := by
  obtain ⟨n0, t0⟩ := t0
  obtain ⟨n1, t1⟩ := t1
  obtain ⟨n2, t2⟩ := t2
  have t0 := DataW.trod_le (show n0 ≤ n0 + n1 + n2 by omega) t0
  have t1 := DataW.trod_le (show n1 ≤ n0 + n1 + n2 by omega) t1
  have t2 := DataW.trod_le (show n2 ≤ n0 + n1 + n2 by omega) t2
  refine ⟨n0 + n1 + n2 + 1, ?_⟩
  unfold DataW.trod
  rw [hs]
  have r3 : List.range 3 = [0, 1, 2] := rfl
  simp [Value.cells, hC, hce, r3, t0, t1, t2]
theorem arrayL4 {α : Type} {cs : Array α} (h : cs.size = 4) : ∃ c0 c1 c2 c3, cs = #[c0, c1, c2, c3] := by
  obtain ⟨l⟩ := cs
  match l, h with
  | [c0, c1, c2, c3], _ => exact ⟨c0, c1, c2, c3, rfl⟩
theorem listL4 {α : Type} {l : List α} (h : l.length = 4) : ∃ c0 c1 c2 c3, l = [c0, c1, c2, c3] := by
  match l, h with
  | [c0, c1, c2, c3], _ => exact ⟨c0, c1, c2, c3, rfl⟩
theorem open_arr4 {r : Reach} {b0 : Nat} {t e : TypeId} {v : Value} {d : DataW H} {p : List MemPlace} (hs : P.underlying t = some (.array 4 e)) (hce : P.cellsOf e = 1) (hC : P.cellsOf t = 4)
    (hv : Value.okWide P w r b0 t v) (h : DataW.Trod enc P w base spare held t v d p) :
    ∃ (v0 v1 v2 v3 : Value) (y0 y1 y2 y3 : DataW H × List MemPlace) (n : Nat), v = .agg #[v0, v1, v2, v3] ∧ d = .agg [y0.1, y1.1, y2.1, y3.1] ∧ p = y0.2 ++ (y1.2 ++ (y2.2 ++ y3.2)) ∧
      DataW.trod enc P w base spare held n e [v0] = some y0 ∧ DataW.trod enc P w base spare held n e [v1] = some y1 ∧ DataW.trod enc P w base spare held n e [v2] = some y2 ∧ DataW.trod enc P w base spare held n e [v3] = some y3 := by
  obtain ⟨cs, rfl, hsz⟩ := okWide_arr hs hv
  obtain ⟨c0, c1, c2, c3, rfl⟩ := arrayL4 (hsz.trans hC)
  obtain ⟨fuel, hf⟩ := h
  obtain ⟨xs, m, _, ex, _, hl, hel⟩ := DataW.trod_array hs hf
  obtain ⟨y0, y1, y2, y3, rfl⟩ := listL4 hl
  simp only [Prod.mk.injEq] at ex
  refine ⟨c0, c1, c2, c3, y0, y1, y2, y3, m, rfl, by simpa using ex.1, by simpa using ex.2, ?_, ?_, ?_, ?_⟩
  · have := hel 0 (by omega); rw [hce] at this; simpa [Value.cells] using this
  · have := hel 1 (by omega); rw [hce] at this; simpa [Value.cells] using this
  · have := hel 2 (by omega); rw [hce] at this; simpa [Value.cells] using this
  · have := hel 3 (by omega); rw [hce] at this; simpa [Value.cells] using this
theorem shut_arr4 {t e : TypeId} {v0 v1 v2 v3 : Value} {y0 y1 y2 y3 : DataW H × List MemPlace} (hs : P.underlying t = some (.array 4 e)) (hce : P.cellsOf e = 1) (hC : P.cellsOf t = 4)
    (t0 : ∃ n, DataW.trod enc P w base spare held n e [v0] = some y0) (t1 : ∃ n, DataW.trod enc P w base spare held n e [v1] = some y1) (t2 : ∃ n, DataW.trod enc P w base spare held n e [v2] = some y2) (t3 : ∃ n, DataW.trod enc P w base spare held n e [v3] = some y3) :
    DataW.Trod enc P w base spare held t (.agg #[v0, v1, v2, v3]) (.agg [y0.1, y1.1, y2.1, y3.1]) (y0.2 ++ (y1.2 ++ (y2.2 ++ y3.2))) := by
  obtain ⟨n0, t0⟩ := t0
  obtain ⟨n1, t1⟩ := t1
  obtain ⟨n2, t2⟩ := t2
  obtain ⟨n3, t3⟩ := t3
  have t0 := DataW.trod_le (show n0 ≤ n0 + n1 + n2 + n3 by omega) t0
  have t1 := DataW.trod_le (show n1 ≤ n0 + n1 + n2 + n3 by omega) t1
  have t2 := DataW.trod_le (show n2 ≤ n0 + n1 + n2 + n3 by omega) t2
  have t3 := DataW.trod_le (show n3 ≤ n0 + n1 + n2 + n3 by omega) t3
  refine ⟨n0 + n1 + n2 + n3 + 1, ?_⟩
  unfold DataW.trod
  rw [hs]
  have r4 : List.range 4 = [0, 1, 2, 3] := rfl
  simp [Value.cells, hC, hce, r4, t0, t1, t2, t3]
theorem arrayL5 {α : Type} {cs : Array α} (h : cs.size = 5) : ∃ c0 c1 c2 c3 c4, cs = #[c0, c1, c2, c3, c4] := by
  obtain ⟨l⟩ := cs
  match l, h with
  | [c0, c1, c2, c3, c4], _ => exact ⟨c0, c1, c2, c3, c4, rfl⟩
theorem listL5 {α : Type} {l : List α} (h : l.length = 5) : ∃ c0 c1 c2 c3 c4, l = [c0, c1, c2, c3, c4] := by
  match l, h with
  | [c0, c1, c2, c3, c4], _ => exact ⟨c0, c1, c2, c3, c4, rfl⟩
theorem open_arr5 {r : Reach} {b0 : Nat} {t e : TypeId} {v : Value} {d : DataW H} {p : List MemPlace} (hs : P.underlying t = some (.array 5 e)) (hce : P.cellsOf e = 1) (hC : P.cellsOf t = 5)
    (hv : Value.okWide P w r b0 t v) (h : DataW.Trod enc P w base spare held t v d p) :
    ∃ (v0 v1 v2 v3 v4 : Value) (y0 y1 y2 y3 y4 : DataW H × List MemPlace) (n : Nat), v = .agg #[v0, v1, v2, v3, v4] ∧ d = .agg [y0.1, y1.1, y2.1, y3.1, y4.1] ∧ p = y0.2 ++ (y1.2 ++ (y2.2 ++ (y3.2 ++ y4.2))) ∧
      DataW.trod enc P w base spare held n e [v0] = some y0 ∧ DataW.trod enc P w base spare held n e [v1] = some y1 ∧ DataW.trod enc P w base spare held n e [v2] = some y2 ∧ DataW.trod enc P w base spare held n e [v3] = some y3 ∧ DataW.trod enc P w base spare held n e [v4] = some y4 := by
  obtain ⟨cs, rfl, hsz⟩ := okWide_arr hs hv
  obtain ⟨c0, c1, c2, c3, c4, rfl⟩ := arrayL5 (hsz.trans hC)
  obtain ⟨fuel, hf⟩ := h
  obtain ⟨xs, m, _, ex, _, hl, hel⟩ := DataW.trod_array hs hf
  obtain ⟨y0, y1, y2, y3, y4, rfl⟩ := listL5 hl
  simp only [Prod.mk.injEq] at ex
  refine ⟨c0, c1, c2, c3, c4, y0, y1, y2, y3, y4, m, rfl, by simpa using ex.1, by simpa using ex.2, ?_, ?_, ?_, ?_, ?_⟩
  · have := hel 0 (by omega); rw [hce] at this; simpa [Value.cells] using this
  · have := hel 1 (by omega); rw [hce] at this; simpa [Value.cells] using this
  · have := hel 2 (by omega); rw [hce] at this; simpa [Value.cells] using this
  · have := hel 3 (by omega); rw [hce] at this; simpa [Value.cells] using this
  · have := hel 4 (by omega); rw [hce] at this; simpa [Value.cells] using this
theorem shut_arr5 {t e : TypeId} {v0 v1 v2 v3 v4 : Value} {y0 y1 y2 y3 y4 : DataW H × List MemPlace} (hs : P.underlying t = some (.array 5 e)) (hce : P.cellsOf e = 1) (hC : P.cellsOf t = 5)
    (t0 : ∃ n, DataW.trod enc P w base spare held n e [v0] = some y0) (t1 : ∃ n, DataW.trod enc P w base spare held n e [v1] = some y1) (t2 : ∃ n, DataW.trod enc P w base spare held n e [v2] = some y2) (t3 : ∃ n, DataW.trod enc P w base spare held n e [v3] = some y3) (t4 : ∃ n, DataW.trod enc P w base spare held n e [v4] = some y4) :
    DataW.Trod enc P w base spare held t (.agg #[v0, v1, v2, v3, v4]) (.agg [y0.1, y1.1, y2.1, y3.1, y4.1]) (y0.2 ++ (y1.2 ++ (y2.2 ++ (y3.2 ++ y4.2)))) := by
  obtain ⟨n0, t0⟩ := t0
  obtain ⟨n1, t1⟩ := t1
  obtain ⟨n2, t2⟩ := t2
  obtain ⟨n3, t3⟩ := t3
  obtain ⟨n4, t4⟩ := t4
  have t0 := DataW.trod_le (show n0 ≤ n0 + n1 + n2 + n3 + n4 by omega) t0
  have t1 := DataW.trod_le (show n1 ≤ n0 + n1 + n2 + n3 + n4 by omega) t1
  have t2 := DataW.trod_le (show n2 ≤ n0 + n1 + n2 + n3 + n4 by omega) t2
  have t3 := DataW.trod_le (show n3 ≤ n0 + n1 + n2 + n3 + n4 by omega) t3
  have t4 := DataW.trod_le (show n4 ≤ n0 + n1 + n2 + n3 + n4 by omega) t4
  refine ⟨n0 + n1 + n2 + n3 + n4 + 1, ?_⟩
  unfold DataW.trod
  rw [hs]
  have r5 : List.range 5 = [0, 1, 2, 3, 4] := rfl
  simp [Value.cells, hC, hce, r5, t0, t1, t2, t3, t4]
theorem arrayL6 {α : Type} {cs : Array α} (h : cs.size = 6) : ∃ c0 c1 c2 c3 c4 c5, cs = #[c0, c1, c2, c3, c4, c5] := by
  obtain ⟨l⟩ := cs
  match l, h with
  | [c0, c1, c2, c3, c4, c5], _ => exact ⟨c0, c1, c2, c3, c4, c5, rfl⟩
theorem listL6 {α : Type} {l : List α} (h : l.length = 6) : ∃ c0 c1 c2 c3 c4 c5, l = [c0, c1, c2, c3, c4, c5] := by
  match l, h with
  | [c0, c1, c2, c3, c4, c5], _ => exact ⟨c0, c1, c2, c3, c4, c5, rfl⟩
theorem open_arr6 {r : Reach} {b0 : Nat} {t e : TypeId} {v : Value} {d : DataW H} {p : List MemPlace} (hs : P.underlying t = some (.array 6 e)) (hce : P.cellsOf e = 1) (hC : P.cellsOf t = 6)
    (hv : Value.okWide P w r b0 t v) (h : DataW.Trod enc P w base spare held t v d p) :
    ∃ (v0 v1 v2 v3 v4 v5 : Value) (y0 y1 y2 y3 y4 y5 : DataW H × List MemPlace) (n : Nat), v = .agg #[v0, v1, v2, v3, v4, v5] ∧ d = .agg [y0.1, y1.1, y2.1, y3.1, y4.1, y5.1] ∧ p = y0.2 ++ (y1.2 ++ (y2.2 ++ (y3.2 ++ (y4.2 ++ y5.2)))) ∧
      DataW.trod enc P w base spare held n e [v0] = some y0 ∧ DataW.trod enc P w base spare held n e [v1] = some y1 ∧ DataW.trod enc P w base spare held n e [v2] = some y2 ∧ DataW.trod enc P w base spare held n e [v3] = some y3 ∧ DataW.trod enc P w base spare held n e [v4] = some y4 ∧ DataW.trod enc P w base spare held n e [v5] = some y5 := by
  obtain ⟨cs, rfl, hsz⟩ := okWide_arr hs hv
  obtain ⟨c0, c1, c2, c3, c4, c5, rfl⟩ := arrayL6 (hsz.trans hC)
  obtain ⟨fuel, hf⟩ := h
  obtain ⟨xs, m, _, ex, _, hl, hel⟩ := DataW.trod_array hs hf
  obtain ⟨y0, y1, y2, y3, y4, y5, rfl⟩ := listL6 hl
  simp only [Prod.mk.injEq] at ex
  refine ⟨c0, c1, c2, c3, c4, c5, y0, y1, y2, y3, y4, y5, m, rfl, by simpa using ex.1, by simpa using ex.2, ?_, ?_, ?_, ?_, ?_, ?_⟩
  · have := hel 0 (by omega); rw [hce] at this; simpa [Value.cells] using this
  · have := hel 1 (by omega); rw [hce] at this; simpa [Value.cells] using this
  · have := hel 2 (by omega); rw [hce] at this; simpa [Value.cells] using this
  · have := hel 3 (by omega); rw [hce] at this; simpa [Value.cells] using this
  · have := hel 4 (by omega); rw [hce] at this; simpa [Value.cells] using this
  · have := hel 5 (by omega); rw [hce] at this; simpa [Value.cells] using this
theorem shut_arr6 {t e : TypeId} {v0 v1 v2 v3 v4 v5 : Value} {y0 y1 y2 y3 y4 y5 : DataW H × List MemPlace} (hs : P.underlying t = some (.array 6 e)) (hce : P.cellsOf e = 1) (hC : P.cellsOf t = 6)
    (t0 : ∃ n, DataW.trod enc P w base spare held n e [v0] = some y0) (t1 : ∃ n, DataW.trod enc P w base spare held n e [v1] = some y1) (t2 : ∃ n, DataW.trod enc P w base spare held n e [v2] = some y2) (t3 : ∃ n, DataW.trod enc P w base spare held n e [v3] = some y3) (t4 : ∃ n, DataW.trod enc P w base spare held n e [v4] = some y4) (t5 : ∃ n, DataW.trod enc P w base spare held n e [v5] = some y5) :
    DataW.Trod enc P w base spare held t (.agg #[v0, v1, v2, v3, v4, v5]) (.agg [y0.1, y1.1, y2.1, y3.1, y4.1, y5.1]) (y0.2 ++ (y1.2 ++ (y2.2 ++ (y3.2 ++ (y4.2 ++ y5.2))))) := by
  obtain ⟨n0, t0⟩ := t0
  obtain ⟨n1, t1⟩ := t1
  obtain ⟨n2, t2⟩ := t2
  obtain ⟨n3, t3⟩ := t3
  obtain ⟨n4, t4⟩ := t4
  obtain ⟨n5, t5⟩ := t5
  have t0 := DataW.trod_le (show n0 ≤ n0 + n1 + n2 + n3 + n4 + n5 by omega) t0
  have t1 := DataW.trod_le (show n1 ≤ n0 + n1 + n2 + n3 + n4 + n5 by omega) t1
  have t2 := DataW.trod_le (show n2 ≤ n0 + n1 + n2 + n3 + n4 + n5 by omega) t2
  have t3 := DataW.trod_le (show n3 ≤ n0 + n1 + n2 + n3 + n4 + n5 by omega) t3
  have t4 := DataW.trod_le (show n4 ≤ n0 + n1 + n2 + n3 + n4 + n5 by omega) t4
  have t5 := DataW.trod_le (show n5 ≤ n0 + n1 + n2 + n3 + n4 + n5 by omega) t5
  refine ⟨n0 + n1 + n2 + n3 + n4 + n5 + 1, ?_⟩
  unfold DataW.trod
  rw [hs]
  have r6 : List.range 6 = [0, 1, 2, 3, 4, 5] := rfl
  simp [Value.cells, hC, hce, r6, t0, t1, t2, t3, t4, t5]
end
end Go.Proofs.YtoggeiaofpdboaaDoor
