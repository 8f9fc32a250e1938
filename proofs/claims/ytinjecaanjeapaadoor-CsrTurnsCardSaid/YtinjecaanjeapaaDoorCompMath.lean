/- Edges, each of neighbours that are one once; and clear of a part of a row. -/
import Derived.Test.YtinjecaanjeapaaDoorRowE
import Derived.Lib.SliceRun
namespace Go.Proofs.YtinjecaanjeapaaDoor.Kn
open Go
section
variable {P : Program} {n : Nat} {l : List (Nat × Value)} {a : Act} {ops : Array Oper} {Q : Exit → Act → World → Prop} {w : World} {rest : List Oper}
theorem ex_clear {d : Option Tmp} {t : TypeId} {p : String} {af : Array Edge} {g : Option (Nat × Bool)} {ats : Array TypeId} {xs : Array Operand} {us : List Value} (h : Kn n l a) (hx : Vals l xs.toList us) : execOp a.eval ⟨d, .call { callee := .builtin .clear, args := xs, argTypes := ats }, t, p, af, g⟩ = vl (Builtin.clear_ ats t us.toArray) := by
  rw [BigFrame.execOp_builtin, BigFrame.builtin_clear, show xs.map a.eval = us.toArray by have := h.vals hx; rwa [Array.toArray_toList] at this]
/-- An operation whose value nobody takes, its run known. -/
theorem known0 {o : Oper} {s : Sem Value} {v : Value} {w' : World} (h : Kn n l a) (hd : o.dst = none) (hw : Wants ops l o.guard true) (he : execOp a.eval o = vl s)
    (hr : s.run P w = .ok v w') (H : wpList P ops Q rest a w') : wpList P ops Q (o :: rest) a w := by
  refine wpList_step fun K hK => ?_
  rw [h.wants hw, if_pos rfl]
  unfold Oper.wp
  rw [he]
  simp [go_sem, hr, hd, Act.put]
  exact hK a w' H
end
end Go.Proofs.YtinjecaanjeapaaDoor.Kn
namespace Go.Proofs.YtinjecaanjeapaaDoor.Edg
open Go Go.RowKit Go.Lib

/-- The first k edges, without those that are as the one ahead of them. -/
def ddk (l : List (Int × Int)) : Nat → List (Int × Int)
  | 0 => []
  | k + 1 => if k ≠ 0 ∧ ed l k = ed l (k - 1) then ddk l k else ddk l k ++ [ed l k]
theorem ddk_same (l : List (Int × Int)) (k : Nat) (h0 : 0 < k) (h : ed l k = ed l (k - 1)) : ddk l (k + 1) = ddk l k := by rw [ddk, if_pos ⟨by omega, h⟩]
theorem ddk_more (l : List (Int × Int)) (k : Nat) (h : k = 0 ∨ ed l k ≠ ed l (k - 1)) : ddk l (k + 1) = ddk l k ++ [ed l k] := by
  rw [ddk, if_neg]
  rintro ⟨h1, h2⟩
  rcases h with h | h
  · exact h1 h
  · exact h h2
theorem ddk_len (l : List (Int × Int)) (k : Nat) : (ddk l k).length ≤ k := by
  induction k with
  | zero => simp [ddk]
  | succ k ih =>
    rw [ddk]
    split
    · omega
    · simp; omega
theorem mem_take_ed {l : List (Int × Int)} {k : Nat} {e : Int × Int} (h : e ∈ l.take k) : ∃ i, i < k ∧ i < l.length ∧ ed l i = e := by
  obtain ⟨i, hi, he⟩ := List.getElem_of_mem h
  simp at hi
  exact ⟨i, by omega, by omega, by rw [ed_at l i (by omega), ← he]; simp⟩
theorem ddk_mem (l : List (Int × Int)) : ∀ k, k ≤ l.length → ∀ e, e ∈ ddk l k ↔ e ∈ l.take k
  | 0, _, e => by simp [ddk]
  | k + 1, hk, e => by
    have ih := ddk_mem l k (by omega) e
    rw [take_ed l k (by omega), List.mem_append, List.mem_singleton]
    by_cases h : k ≠ 0 ∧ ed l k = ed l (k - 1)
    · rw [ddk_same l k (by omega) h.2, ih]
      refine ⟨.inl, fun h' => h'.elim id fun q => ?_⟩
      rw [q, h.2, ed_at l (k - 1) (by omega)]
      exact List.mem_take_iff_getElem.2 ⟨k - 1, by omega, rfl⟩
    · rw [ddk, if_neg h, List.mem_append, List.mem_singleton, ih]
/-- In order, whatever stands often. -/
def WSrt (l : List (Int × Int)) : Prop := ∀ i j, i < j → j < l.length → lessB (ed l j) (ed l i) = false
theorem ddk_srt (l : List (Int × Int)) (h : WSrt l) : ∀ k, k ≤ l.length → Srt (ddk l k)
  | 0, _ => List.Pairwise.nil
  | k + 1, hk => by
    have ih := ddk_srt l h k (by omega)
    by_cases hc : k ≠ 0 ∧ ed l k = ed l (k - 1)
    · rw [ddk_same l k (by omega) hc.2]; exact ih
    · rw [ddk, if_neg hc]
      unfold Srt
      rw [List.pairwise_append]
      refine ⟨ih, by simp, fun a ha b hb => ?_⟩
      rw [List.mem_singleton] at hb
      subst hb
      obtain ⟨i, hik, hil, rfl⟩ := mem_take_ed ((ddk_mem l k (by omega) a).1 ha)
      have hne : ed l k ≠ ed l (k - 1) := fun e => hc ⟨by omega, e⟩
      have h1 := h i k hik (by omega)
      cases h2 : lessB (ed l i) (ed l k) with
      | true => rfl
      | false =>
        exfalso
        have e1 : ed l i = ed l k := less_eq h2 h1
        rcases Nat.lt_or_ge i (k - 1) with hlt | hge
        · have h3 := h i (k - 1) hlt (by omega)
          have h4 := h (k - 1) k (by omega) (by omega)
          rw [e1] at h3
          exact hne (less_eq h4 h3)
        · exact hne (by rw [← e1, show i = k - 1 by omega])
theorem ddk_norm (l xs : List (Int × Int)) (h : WSrt l) (hm : ∀ e, e ∈ l ↔ e ∈ xs) : NormOf xs (ddk l l.length) :=
  ⟨ddk_srt l h _ (Nat.le_refl _), fun e => by rw [ddk_mem l _ (Nat.le_refl _) e, List.take_length, hm]⟩
/-- What a part of a row is behind clear. -/
theorem HoldE.clear {w : World} {g : Nat} {l : List (Int × Int)} (h : HoldE w g l) (k c : Nat) (ty : TypeId) (hk : k < l.length) :
    ∃ w', (Builtin.clear_ #[22] ty #[.slice (some ⟨g, k * 2, none⟩) (l.length - k) c]).run Tryd.prog w = .ok (.tuple #[]) w' ∧ HoldE w' g (l.take k) ∧ ∀ B, B ≤ g → Below B w w' := by
  obtain ⟨m, hm⟩ : ∃ m, l.length - k = m + 1 := ⟨l.length - k - 1, by omega⟩
  have hz : ∀ w, (zeroValue 51).run Tryd.prog w = .ok (.agg #[.int .i64 0, .int .i64 0]) w := fun w => Tryd.zeroValue51 w
  have hlen : (Builtin.zeroCells (Value.agg #[.int .i64 0, .int .i64 0]).cells (m + 1)).toList.length = (m + 1) * 2 := by simp [Builtin.zeroCells, Value.cells]
  have hone : ∀ v ∈ (Builtin.zeroCells (Value.agg #[.int .i64 0, .int .i64 0]).cells (m + 1)).toList, v.oneCell' = true := fun v hv => by
    obtain ⟨i, hi, rfl⟩ := List.getElem_of_mem hv
    rcases Nat.mod_two_eq_zero_or_one i with q | q <;> simp [Builtin.zeroCells, Value.cells, q, Value.oneCell']
  generalize hvs : (Builtin.zeroCells (Value.agg #[.int .i64 0, .int .i64 0]).cells (m + 1)).toList = vs at hlen hone
  have hall : ∀ j, j < vs.length → (w.cell? ⟨g, k * 2 + 0 + j, none⟩).isSome = true ∧ w.frozen? ⟨g, k * 2 + 0 + j, none⟩ = false := fun j hj => by
    have hi : k + j / 2 < l.length := by omega
    obtain ⟨⟨c1, c2⟩, f1, f2⟩ := h (k + j / 2) hi
    rcases Nat.mod_two_eq_zero_or_one j with q | q
    · have e : k * 2 + 0 + j = (k + j / 2) * 2 := by omega
      rw [e, c1]; exact ⟨rfl, f1⟩
    · have e : k * 2 + 0 + j = (k + j / 2) * 2 + 1 := by omega
      rw [e, c2]; exact ⟨rfl, f2⟩
  have hst := run_storeCells_cells (P := Tryd.prog) g (k * 2) vs 0 w (fun j hj => (hall j hj).1) (fun j hj => (hall j hj).2) hone
  rw [Nat.add_zero] at hst
  refine ⟨w.setCells g (k * 2) vs, ?_, fun i hi => ?_, fun B hB => below_setCells_w hB _ _ _⟩
  · rw [hm]
    simp [Builtin.clear_, run_underlying Tryd.underlying22, hz, hvs, hst]
  · have hi' : i < k := by simp at hi; omega
    rw [World.frozen?_setCells, World.frozen?_setCells, World.cell?_setCells_out g _ _ _ _ (fun _ _ => .inl (by simp; omega)), World.cell?_setCells_out g _ _ _ _ (fun _ _ => .inl (by simp; omega))]
    exact h.take k i hi
end Go.Proofs.YtinjecaanjeapaaDoor.Edg
