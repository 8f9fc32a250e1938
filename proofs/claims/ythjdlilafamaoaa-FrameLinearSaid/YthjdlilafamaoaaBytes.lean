/- Slices of bytes of the call's own: made of a text, turned in one byte, a text again. -/
import Derived.Test.YthjdlilafamaoaaOctH
import Derived.Deep.RegionHeld
namespace Go.Proofs.Ythjdlilafamaoaa.Byt
open Go.RowKit Go.Lib

/-- A block whose first cells are bytes that may be written. -/
def BRow (w : World) (g : Nat) (l : List UInt8) : Prop := g < w.heap.size ∧ ∀ k (h : k < l.length), w.cell? ⟨g, k, none⟩ = some (.int .u8 (l[k].toNat : Int)) ∧ w.frozen? ⟨g, k, none⟩ = false
theorem BRow.cell {w : World} {g : Nat} {l : List UInt8} (h : BRow w g l) {k : Nat} (hk : k < l.length) : w.cell? ⟨g, k, none⟩ = some (.int .u8 (l[k].toNat : Int)) := (h.2 k hk).1
theorem BRow.free {w : World} {g : Nat} {l : List UInt8} (h : BRow w g l) {k : Nat} (hk : k < l.length) : w.frozen? ⟨g, k, none⟩ = false := (h.2 k hk).2
theorem BRow.below {w w' : World} {g B : Nat} {l : List UInt8} (h : BRow w g l) (hb : Below B w w') (hg : g < B) : BRow w' g l :=
  ⟨Nat.lt_of_lt_of_le h.1 hb.size, fun k hk => ⟨(hb.cell (p := ⟨g, k, none⟩) hg).trans (h.2 k hk).1, (hb.frozen (p := ⟨g, k, none⟩) hg).trans (h.2 k hk).2⟩⟩
theorem BRow.on {w w' : World} {g : Nat} {l : List UInt8} (h : BRow w g l) (hb : Below w.heap.size w w') : BRow w' g l := h.below hb h.1
theorem BRow.drew {w : World} {g : Nat} {l : List UInt8} (h : BRow w g l) : BRow w.drew g l := h
theorem BRow.set {w : World} {g : Nat} {l : List UInt8} (h : BRow w g l) (k : Nat) (hk : k < l.length) (b : UInt8) (x : Int) (hx : x = (b.toNat : Int)) : BRow (w.setCell ⟨g, k, none⟩ (.int .u8 x)) g (l.set k b) := by
  subst hx
  refine ⟨by simpa [World.setCell] using h.1, fun j hj => ⟨?_, ?_⟩⟩
  · by_cases e : k = j
    · subst e
      rw [World.cell?_setCell_same' _ _ _ (by rw [h.cell hk]; rfl)]
      simp
    · rw [World.cell?_setCell_other _ _ _ _ (by simp [e]), h.cell (by simpa using hj)]
      simp [List.getElem_set_ne e]
  · rw [World.frozen?_setCell]; exact h.free (by simpa using hj)
theorem BRow.other {w : World} {g g' k : Nat} {l : List UInt8} (h : BRow w g l) (v : Value) (hne : g ≠ g') : BRow (w.setCell ⟨g', k, none⟩ v) g l := by
  refine ⟨by simpa [World.setCell] using h.1, fun j hj => ⟨?_, ?_⟩⟩
  · rw [World.cell?_setCell_far _ _ _ _ (fun e => hne e.symm)]; exact h.cell hj
  · rw [World.frozen?_setCell]; exact h.free hj
/-- '[]byte(s)'. -/
theorem made (w : World) (s : ByteArray) : ∃ c W, (convert 9 34 (.string s)).run Try.prog w = .ok (.slice (some ⟨w.heap.size, 0, none⟩) s.size c) W ∧ BRow W w.heap.size s.data.toList ∧ Below w.heap.size w W ∧ W.heap.size = w.heap.size + 1 := by
  refine ⟨_, _, run_bytes_of_string w 9 34 5 s Try.underlying9 Try.underlying34 Try.underlying5, ⟨by simp, fun k hk => ⟨?_, ?_⟩⟩, ((Below.refl _ _).drew).alloc (Nat.le_refl _) _, by simp⟩
  · have hk' : k < s.data.size := by simpa using hk
    have e : (w.drew.alloc (.cells (bytesRow s (grownCap w s.size 0 5)) 5 ((bytesRow s (grownCap w s.size 0 5)).size, (bytesRow s (grownCap w s.size 0 5)).size + 1))).heap[w.heap.size]? = some (.cells (bytesRow s (grownCap w s.size 0 5)) 5 ((bytesRow s (grownCap w s.size 0 5)).size, (bytesRow s (grownCap w s.size 0 5)).size + 1)) := heap_alloc_new w.drew _
    simp only [World.cell?, e]
    exact bytesRow_at s _ k hk'
  · have hk' : k < s.data.size := by simpa using hk
    have e : (w.drew.alloc (.cells (bytesRow s (grownCap w s.size 0 5)) 5 ((bytesRow s (grownCap w s.size 0 5)).size, (bytesRow s (grownCap w s.size 0 5)).size + 1))).heap[w.heap.size]? = some (.cells (bytesRow s (grownCap w s.size 0 5)) 5 ((bytesRow s (grownCap w s.size 0 5)).size, (bytesRow s (grownCap w s.size 0 5)).size + 1)) := heap_alloc_new w.drew _
    have hsz : s.data.size ≤ (bytesRow s (grownCap w s.size 0 5)).size := by unfold bytesRow; simp
    simp only [World.frozen?, e]
    simp
    omega
/-- 'string(b)'. -/
theorem BRow.text {w : World} {g : Nat} {l : List UInt8} (h : BRow w g l) (n c : Nat) (hn : n = l.length) : (convert 34 9 (.slice (some ⟨g, 0, none⟩) n c)).run Try.prog w = .ok (.string ⟨l.toArray⟩) w := by
  subst hn
  exact run_convert_bytes_back (P := Try.prog) w 34 9 5 ⟨g, 0, none⟩ c l Try.underlying34 Try.underlying5 Try.underlying9 (fun j hj => by rw [Oct.add_zero0]; exact h.cell hj)
end Go.Proofs.Ythjdlilafamaoaa.Byt
