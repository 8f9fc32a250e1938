/- The document's digest: what appends leave; the bodies of its loops; a region that ends in an append, over a frame of which some slots are known. -/
import Derived.Test.YteciidnjikcimaaDoorRefF
import Derived.Test.YteciidnjikcimaaDoorSumMath
import Derived.Test.YteciidnjikcimaaDoorSumI
import Derived.Test.YteciidnjikcimaaDoorKnAny
import Derived.Laws.OwnMore
import Derived.OneCell
namespace Go.Proofs.YteciidnjikcimaaDoor.Sha
open Go.RowKit Go.Lib

/-- The bodies of a code's loops, in the text's order. -/
def loopsOf : Code → List Code
  | .loop c => c :: loopsOf c
  | .seq a b => loopsOf a ++ loopsOf b
  | .block _ c => loopsOf c
  | .scope c => loopsOf c
  | .cond _ a b => loopsOf a ++ loopsOf b
  | _ => []
noncomputable def bodyS (n : Nat) : Code := (((Tryd.f18.body.map loopsOf).getD [])[n]?).getD .skip

/-- What an append to block g leaves alone; g': where the row lies then. -/
structure Kept (v v' : World) (g g' : Nat) : Prop where
  at' : g' = g ∨ v.heap.size ≤ g'
  size : v.heap.size ≤ v'.heap.size
  own : ∀ {B g2 cap2 : Nat} {l2 : List Nat}, g2 ≠ g → OwnI v B g2 cap2 l2 → OwnI v' B g2 cap2 l2
  rn : ∀ {g2 : Nat} {l2 : List Nat}, g2 ≠ g → RN v g2 l2 → RN v' g2 l2

theorem below_drew {B : Nat} {w w' : World} (h : Below B w w') : Below B w w'.drew := ⟨h.1, h.2, h.3, h.4, h.5⟩
theorem below_drewN {B : Nat} {w w' : World} (h : Below B w w') (n : Nat) : Below B w (w'.drewN n) := ⟨h.1, h.2, h.3, h.4, h.5⟩

/-- One number is appended. -/
theorem push1 (w0 v : World) (ty : TypeId) (g cap L x : Nat) (l : List Nat) (hO : OwnI v w0.heap.size g cap l) (hL : L = l.length) (hb : Below w0.heap.size w0 v) (hl : L ≤ 1000) :
    ∃ g' cap' v', (Builtin.append_ #[32, 32] ty #[.slice (some ⟨g, 0, none⟩) L cap, .slice (some ⟨v.heap.size, 0, none⟩) 1 1]).run Tryd.prog (v.alloc (.cells #[.int .i64 (x : Int)] 3)) = .ok (.slice (some ⟨g', 0, none⟩) (L + 1) cap') v' ∧
      OwnI v' w0.heap.size g' cap' (l ++ [x]) ∧ Below w0.heap.size w0 v' ∧ Kept v v' g g' := by
  subst hL
  have hs := hb.size
  obtain ⟨g', cap', v', hrun, h1, h2, h3, _⟩ := run_push (v.alloc (.cells #[.int .i64 (x : Int)] 3)) ty w0.heap.size g cap v.heap.size x l (0, 0) (hO.alloc _) (heap_alloc_new _ _) (by simp; omega) (by omega)
  refine ⟨g', cap', v', hrun, h1, (hb.alloc hs _).grown h2 (by simp; omega) (fun k hk => by cases hk; exact hO.ge), ?_, ?_, ?_, ?_⟩
  · rcases h3 with h | h
    · exact .inl h
    · simp at h; exact .inr (by omega)
  · have := h2.size; simp at this; omega
  · intro B g2 cap2 l2 hne h
    exact (h.alloc _).grown h2 (by simp; exact hne)
  · intro g2 l2 hne h
    exact (h.alloc _).grown h2 (by simp; exact hne)
/-- Some numbers are appended. -/
theorem pushM (w0 v : World) (ty : TypeId) (g cap L m c b o : Nat) (l src : List Nat) (hO : OwnI v w0.heap.size g cap l) (hL : L = l.length) (hm : m = src.length) (hp : 0 < L + m) (hsrc : ∀ j u, (src.map iV)[j]? = some u → v.cell? ((⟨b, o, none⟩ : Addr).add j) = some u) (hb : Below w0.heap.size w0 v) (hl : L + m ≤ 1000) :
    ∃ g' cap' v', (Builtin.append_ #[32, 32] ty #[.slice (some ⟨g, 0, none⟩) L cap, .slice (some ⟨b, o, none⟩) m c]).run Tryd.prog v = .ok (.slice (some ⟨g', 0, none⟩) (L + m) cap') v' ∧
      OwnI v' w0.heap.size g' cap' (l ++ src) ∧ Below w0.heap.size w0 v' ∧ Kept v v' g g' := by
  subst hL hm
  have hs := hb.size
  obtain ⟨i0, hi, hz0, hz1, hz2⟩ := info_parts infoI
  obtain ⟨v1, v', hrun, h1, h2, _, h3⟩ := run_append_own_at (P := Tryd.prog) (w := v) w0.heap.size 32 ty 3 i0 (.int .i64 0) 1 8 Tryd.underlying32 hi hz0 hz1 hz2 rfl (by decide) (.slice (some ⟨g, 0, none⟩) l.length cap) l.length (l.map iV) hO ⟨b, o, none⟩ src.length c (src.map iV) (by simp) hsrc (ints_one _) (by unfold maxLen; omega) (by omega) hs
  obtain ⟨g', cap', rfl, h4, h5⟩ := h1.form hp
  refine ⟨g', cap', v', hrun, ?_, hb.grown h2 hs (fun k hk => by simp [Value.ownBlock] at hk; subst hk; exact hO.ge), ?_, h2.size, ?_, ?_⟩
  · unfold OwnI; rw [List.length_append, List.map_append]; exact h1
  · rcases h3 with h | h
    · simp [Value.ownBlock] at h; exact .inl h
    · simp [Value.ownBlock] at h; exact .inr (by omega)
  · intro B g2 cap2 l2 hne h
    exact h.grown h2 (by simp [Value.ownBlock]; exact hne)
  · intro g2 l2 hne h
    exact h.grown h2 (by simp [Value.ownBlock]; exact hne)
theorem OwnI.lt' {w : World} {B g cap : Nat} {l : List Nat} (h : OwnI w B g cap l) : g < w.heap.size := (h.lt g rfl).2
theorem OwnI.cell {w : World} {B g cap : Nat} {l : List Nat} (h : OwnI w B g cap l) {j : Nat} (hj : j < l.length) : w.cell? ⟨g, j, none⟩ = some (.int .i64 ((wd l j : Nat) : Int)) := h.rn.2 j hj
theorem OwnI.drew {w : World} {B g cap : Nat} {l : List Nat} (h : OwnI w B g cap l) : OwnI w.drew B g cap l := h

/-- A region whose first operation moves a slot, then reads, and ends in an append or its like. -/
theorem knPush {P : Program} {n : Nat} {l : List (Nat × Value)} {a : Act} {w : World} {Q : Exit → Act → World → Prop} {id : Nat} {o0 : Oper} {rest hd tl : List Oper} {s d : Tmp} {v : Value} (k : Nat) (hm : P.follows .mixedOrders = true) (h : Kn.Kn n l a) (hB : pushB .any (o0 :: rest).toArray (k + 1) = true) (ho : o0.op = .move (.tmp s)) (hg : o0.guard = none) (hd0 : o0.dst = some d) (hdn : Nat.blt d n = true)
    (hv : Kn.find l s = some v) (hQ : ∀ d v c b w, Q (.panic c) (b.put d v) w → Q (.panic c) b w) (h1 : rest.take k = hd) (h2 : rest.drop k = tl)
    (H : ∀ a', Kn.Kn n ((d, v) :: l) a' → wpStill P (o0 :: rest).toArray w.drew (fun a' => wpList P (o0 :: rest).toArray Q tl a' w.drew) hd a') : (Code.region id (o0 :: rest).toArray true).wp P Q a w := by
  subst h1 h2
  refine wp_region_push k hm hB ho hg (fun _ _ _ _ => hQ _ _ _ _ _) ?_
  rw [hd0, h.get s v hv]
  exact H _ (h.put hdn v)
end Go.Proofs.YteciidnjikcimaaDoor.Sha
