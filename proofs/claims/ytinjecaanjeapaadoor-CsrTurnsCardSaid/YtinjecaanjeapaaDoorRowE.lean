/- A row of edges in a block of the call's own that is written to in place: what a store leaves. -/
import Derived.Test.YtinjecaanjeapaaDoorEdgB
import Derived.Deep.MidRow
import Derived.Lib.EndianMore
import Derived.Laws.IdiomCopy
namespace Go.Proofs.YtinjecaanjeapaaDoor.Edg
open Go Go.RowKit Go.Lib

/-- The cells of block g, from its first on, are these edges; they may be written to. -/
def HoldE (w : World) (g : Nat) (l : List (Int × Int)) : Prop := ∀ i, i < l.length → (w.cell? ⟨g, i * 2, none⟩ = some (.int .i64 (ed l i).1) ∧ w.cell? ⟨g, i * 2 + 1, none⟩ = some (.int .i64 (ed l i).2)) ∧ w.frozen? ⟨g, i * 2, none⟩ = false ∧ w.frozen? ⟨g, i * 2 + 1, none⟩ = false
theorem HoldE.ein {w : World} {g : Nat} {l : List (Int × Int)} (h : HoldE w g l) : EIn w (some ⟨g, 0, none⟩) l := fun i hi => by
  obtain ⟨⟨h1, h2⟩, _⟩ := h i hi
  exact ⟨g, 0, rfl, World.block_lt_of_cell? _ _ h1, by rw [Nat.zero_add]; exact h1, by rw [Nat.zero_add]; exact h2⟩
theorem HoldE.lt {w : World} {g : Nat} {l : List (Int × Int)} (h : HoldE w g l) (hl : 0 < l.length) : g < w.heap.size := World.block_lt_of_cell? _ _ (h 0 hl).1.1
theorem HoldE.on {w w' : World} {g : Nat} {l : List (Int × Int)} (h : HoldE w g l) (hb : Below w.heap.size w w') : HoldE w' g l := fun i hi => by
  obtain ⟨⟨h1, h2⟩, h3, h4⟩ := h i hi
  have hlt : g < w.heap.size := World.block_lt_of_cell? _ _ h1
  have e := hb.block g hlt
  have fz : ∀ o, w'.frozen? ⟨g, o, none⟩ = w.frozen? ⟨g, o, none⟩ := fun o => by simp only [World.frozen?, e]
  exact ⟨⟨(hb.cell (p := ⟨g, i * 2, none⟩) hlt).trans h1, (hb.cell (p := ⟨g, i * 2 + 1, none⟩) hlt).trans h2⟩, (fz _).trans h3, (fz _).trans h4⟩
theorem HoldE.take {w : World} {g : Nat} {l : List (Int × Int)} (h : HoldE w g l) (k : Nat) : HoldE w g (l.take k) := fun i hi => by
  have hi' : i < l.length := by simp at hi; omega
  have e : ed (l.take k) i = ed l i := by rw [ed_at _ _ hi, ed_at _ _ hi']; simp
  rw [e]
  exact h i hi'
theorem ed_set (l : List (Int × Int)) (k i : Nat) (e : Int × Int) (hi : i < l.length) : ed (l.set k e) i = if i = k then e else ed l i := by
  rw [ed_at _ _ (by simpa using hi), ed_at _ _ hi, List.getElem_set]
  by_cases h : i = k
  · subst h; simp
  · rw [if_neg (fun q => h q.symm), if_neg h]
/-- An edge is stored into the row. -/
theorem HoldE.store {w : World} {g : Nat} {l : List (Int × Int)} (h : HoldE w g l) (k : Nat) (hk : k < l.length) (a b : Int) :
    ∃ w', (Instr.storeAt 51 (.pointer (some ⟨g, k * 2, none⟩)) (.agg #[.int .i64 a, .int .i64 b])).run Tryd.prog w = .ok () w' ∧ HoldE w' g (l.set k (a, b)) ∧ (∀ B, B ≤ g → Below B w w') ∧ (∀ p : Addr, p.block ≠ g → w'.cell? p = w.cell? p) := by
  obtain ⟨⟨c1, c2⟩, f1, f2⟩ := h k hk
  have ht : w.there g (k * 2) 2 := fun j hj => by
    rcases (show j = 0 ∨ j = 1 by omega) with rfl | rfl
    · exact ⟨by rw [Nat.add_zero, c1]; rfl, f1⟩
    · exact ⟨by rw [c2]; rfl, f2⟩
  refine ⟨_, run_storeAt_mid w g (k * 2) 51 #[.int .i64 a, .int .i64 b] ht (by kernel_rfl) (by simp [Value.oneCell']), fun i hi => ?_, fun B hB => below_setCells_w hB _ _ _, fun p hp => World.cell?_setCells_out g _ _ _ _ (fun e => absurd e hp)⟩
  have hi' : i < l.length := by simpa using hi
  rw [World.frozen?_setCells, World.frozen?_setCells, ed_set l k i (a, b) hi']
  refine ⟨?_, (h i hi').2⟩
  by_cases e : i = k
  · subst e
    have hin := World.cell?_setCells_in g [.int .i64 a, .int .i64 b] (i * 2) w (fun j hj => (ht j (by simpa using hj)).1)
    rw [if_pos rfl]
    exact ⟨by have := hin 0 (by simp); simpa using this, by have := hin 1 (by simp); simpa using this⟩
  · rw [if_neg e, World.cell?_setCells_out g _ _ _ _ (fun _ _ => by simp; omega), World.cell?_setCells_out g _ _ _ _ (fun _ _ => by simp; omega)]
    exact (h i hi').1
/-- A row of the call's own may be written to. -/
theorem hold_of_own {w : World} {B g n cap : Nat} {l : List (Int × Int)} (h : OwnE w B (some ⟨g, 0, none⟩) n cap l) : HoldE w g l := fun i hi => by
  have c := (OwnE.ein h).cells hi
  rw [Nat.zero_add] at c
  obtain ⟨hn, hl, hr⟩ := h
  rcases hr with ⟨hv, _⟩ | ⟨g', cap', cur, hv, hB, hg, hle, hm, hs, ht⟩
  · cases hv
  · simp only [Value.slice.injEq, Option.some.injEq, Addr.mk.injEq] at hv
    obtain ⟨⟨rfl, _, _⟩, _, _⟩ := hv
    exact ⟨c, by simp [World.frozen?, hg], by simp [World.frozen?, hg]⟩
end Go.Proofs.YtinjecaanjeapaaDoor.Edg
