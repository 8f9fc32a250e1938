/- A map from numbers to truths of which just 'true' is ever stored: a set of numbers. Made, put to, asked. -/
import Derived.Test.YtoggeiaofpdboaaKnAny
import Derived.Test.YtoggeiaofpdboaaOwn
import Derived.Test.YtoggeiaofpdboaaHoldI
import Derived.Maps.Keyed
import Derived.WideMake
namespace Go.Proofs.Ytoggeiaofpdboaa.Kn
open Go
section
variable {n : Nat} {l : List (Nat × Value)} {a : Act} {d : Option Tmp} {t : TypeId} {p : String} {af : Array Edge} {g : Option (Nat × Bool)} {x y z : Operand} {vx vy vz : Value}
theorem ex_makeMap {e : TypeId} : execOp a.eval ⟨d, .makeMap e none, t, p, af, g⟩ = vl (Instr.makeMap e none) := rfl
theorem ex_mapUpdate {e : TypeId} (h : Kn n l a) (hx : Val l x vx) (hy : Val l y vy) (hz : Val l z vz) : execOp a.eval ⟨d, .mapUpdate e x y z, t, p, af, g⟩ = ul (Instr.mapUpdate e vx vy vz) := by simp only [execOp, h.val hx, h.val hy, h.val hz]
end
end Go.Proofs.Ytoggeiaofpdboaa.Kn
namespace Go.Proofs.Ytoggeiaofpdboaa.SetM
open Go Go.RowKit Go.Lib Num Go.Maps

def SetAt (w : World) (g : Nat) (p : Int → Bool) : Prop := ∃ es clock, w.heap[g]? = some (.map es clock) ∧ (∀ e ∈ es.toList, ∃ a : Int, e.key = .int .i64 a ∧ (Lit.int .i64 a).wf = true ∧ e.val = .bool true ∧ p a = true) ∧ ∀ a, p a = true → ∃ e ∈ es.toList, e.key = .int .i64 a
theorem SetAt.lt {w : World} {g : Nat} {p : Int → Bool} (h : SetAt w g p) : g < w.heap.size := by
  obtain ⟨es, c, h1, _⟩ := h
  exact (Array.getElem?_eq_some_iff.1 h1).1
theorem SetAt.at {w w' : World} {g : Nat} {p : Int → Bool} (h : SetAt w g p) (e : w'.heap[g]? = w.heap[g]?) : SetAt w' g p := by
  obtain ⟨es, c, h1, h2⟩ := h
  exact ⟨es, c, e.trans h1, h2⟩
theorem SetAt.on {w w' : World} {g : Nat} {p : Int → Bool} (h : SetAt w g p) (hb : Below w.heap.size w w') : SetAt w' g p := h.at (hb.block g h.lt)
theorem SetAt.kept {w w' : World} {r : Option Nat} {g g' : Nat} {p : Int → Bool} (h : SetAt w g p) (hk : Own.Kept w w' r g') (hne : some g ≠ r) : SetAt w' g p := h.at (hk.grown.block g h.lt hne)
theorem SetAt.new (w : World) : SetAt (w.alloc (.map #[] 0)) w.heap.size (fun _ => false) := ⟨#[], 0, heap_alloc_new w _, fun e he => by simp at he, fun a h => by cases h⟩
theorem run_new (w : World) : (Instr.makeMap 35 none).run Try.prog w = .ok (.map (some w.heap.size)) (w.alloc (.map #[] 0)) := rfl
theorem kInt : Keyed Try.prog 3 := int_keyed Try.underlying3
theorem keyI {a : Int} (h : (Lit.int .i64 a).wf = true) : keyOf Try.prog 3 (.int .i64 a) = some (.int .i64 a) := keyOf_int_mk Try.underlying3 h
/-- Is a number in it? -/
theorem SetAt.has {w : World} {g : Nat} {p : Int → Bool} (h : SetAt w g p) {a : Int} (hw : (Lit.int .i64 a).wf = true) : (Instr.lookup 35 (.map (some g)) (.int .i64 a) false).run Try.prog w = .ok (.bool (p a)) w := by
  obtain ⟨es, c, hb, h1, h2⟩ := h
  have hz : (zeroValue 4).run Try.prog w = .ok (.bool false) w := rfl
  rcases kInt.find w (keyI hw) es.toList (fun e he => by obtain ⟨b, e1, e2, _⟩ := h1 e he; exact ⟨_, by rw [e1]; exact keyI e2⟩) with ⟨hf, hn⟩ | ⟨j, e0, hf, hj, hk⟩
  · have hp : p a = false := by
      cases hpa : p a with
      | false => rfl
      | true => obtain ⟨e, he, hk⟩ := h2 a hpa; exact absurd hk (hn e he)
    rw [hp]
    simp [Instr.lookup, run_underlying Try.underlying35, MapKept.run_getObj_map hb, kInt.check w _ (keyI hw), hf, hz, Result.andThen]
  · obtain ⟨b, e1, _, e3, e4⟩ := h1 e0 (List.mem_of_getElem? hj)
    have hab : b = a := by rw [e1] at hk; injection hk
    subst hab
    rw [e4]
    simp [Instr.lookup, run_underlying Try.underlying35, MapKept.run_getObj_map hb, kInt.check w _ (keyI hw), hf, e3, Result.andThen]
/-- A number is put into it. -/
theorem SetAt.put {w : World} {g : Nat} {p : Int → Bool} (h : SetAt w g p) {a : Int} (hw : (Lit.int .i64 a).wf = true) :
    ∃ w', (Instr.mapUpdate 35 (.map (some g)) (.int .i64 a) (.bool true)).run Try.prog w = .ok () w' ∧ SetAt w' g (fun x => x == a || p x) ∧ (∀ b, b ≠ g → w'.heap[b]? = w.heap[b]?) ∧ w'.heap.size = w.heap.size ∧ ∀ B, B ≤ g → Below B w w' := by
  have hlt := h.lt
  obtain ⟨es, c, hb, h1, h2⟩ := h
  have key : ∀ es' c', (Instr.mapUpdate 35 (.map (some g)) (.int .i64 a) (.bool true)).run Try.prog w = .ok () { w with heap := w.heap.setIfInBounds g (.map es' c') } →
      (∀ e ∈ es'.toList, ∃ b : Int, e.key = .int .i64 b ∧ (Lit.int .i64 b).wf = true ∧ e.val = .bool true ∧ (b == a || p b) = true) → (∀ b, (b == a || p b) = true → ∃ e ∈ es'.toList, e.key = .int .i64 b) →
      ∃ w', (Instr.mapUpdate 35 (.map (some g)) (.int .i64 a) (.bool true)).run Try.prog w = .ok () w' ∧ SetAt w' g (fun x => x == a || p x) ∧ (∀ b, b ≠ g → w'.heap[b]? = w.heap[b]?) ∧ w'.heap.size = w.heap.size ∧ ∀ B, B ≤ g → Below B w w' := fun es' c' hr k1 k2 => by
    refine ⟨_, hr, ⟨es', c', by simp [hlt], k1, k2⟩, fun b hne => by simp [Array.getElem?_setIfInBounds_ne (Ne.symm hne)], by simp, fun B hB => ⟨rfl, rfl, rfl, by simp, fun b hbB => ?_⟩⟩
    simp only
    rw [Array.getElem?_setIfInBounds_ne (by omega)]
  rcases kInt.find w (keyI hw) es.toList (fun e he => by obtain ⟨b, e1, e2, _⟩ := h1 e he; exact ⟨_, by rw [e1]; exact keyI e2⟩) with ⟨hf, hn⟩ | ⟨j, e0, hf, hj, hk⟩
  · refine key (es.push ⟨.int .i64 a, .bool true, c⟩) (c + 1) ?_ (fun e he => ?_) (fun b hbp => ?_)
    · simp [Instr.mapUpdate, run_underlying Try.underlying35, MapKept.run_getObj_map hb, kInt.check w false (keyI hw), hf, MapKept.run_setObj_map _ hb, Result.andThen]
    · simp only [Array.toList_push, List.mem_append, List.mem_singleton] at he
      rcases he with he | rfl
      · obtain ⟨b, e1, e2, e3, e4⟩ := h1 e he
        exact ⟨b, e1, e2, e3, by simp [e4]⟩
      · exact ⟨a, rfl, hw, rfl, by simp⟩
    · rw [Bool.or_eq_true] at hbp
      rcases hbp with hba | hbp
      · exact ⟨⟨.int .i64 a, .bool true, c⟩, by simp, by rw [beq_iff_eq.1 hba]⟩
      · obtain ⟨e, he, hk⟩ := h2 b hbp
        exact ⟨e, by simp [List.mem_append]; exact .inl (by simpa using he), hk⟩
  · obtain ⟨b0, e1, e2, e3, e4⟩ := h1 e0 (List.mem_of_getElem? hj)
    have hb0 : b0 = a := by rw [e1] at hk; injection hk
    subst hb0
    have hj2 : es[j]? = some e0 := by simpa using hj
    have hmod : es.modify j (fun e' => { e' with key := .int .i64 b0, val := .bool true }) = es := by
      apply Array.ext'
      rw [Array.toList_modify]
      apply List.ext_getElem?
      intro i
      rw [List.getElem?_modify]
      by_cases hij : j = i
      · subst hij
        simp only [if_true]
        rw [hj]
        obtain ⟨k0, v0, n0⟩ := e0
        simp only at e1 e3
        subst e1 e3
        rfl
      · simp [hij]
    refine key es c ?_ (fun e he => ?_) (fun b hbp => ?_)
    · have hst := kInt.stays w (keyI hw)
      simp [Instr.mapUpdate, run_underlying Try.underlying35, MapKept.run_getObj_map hb, kInt.check w false (keyI hw), hf, hj2, hk, hst, MapKept.run_setObj_map _ hb, Result.andThen, hmod]
    · obtain ⟨b, f1, f2, f3, f4⟩ := h1 e he
      exact ⟨b, f1, f2, f3, by simp [f4]⟩
    · rw [Bool.or_eq_true] at hbp
      rcases hbp with hba | hbp
      · rw [beq_iff_eq.1 hba]; exact h2 b0 e4
      · exact h2 b hbp
end Go.Proofs.Ytoggeiaofpdboaa.SetM
