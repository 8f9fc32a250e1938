/- Rows of numbers of the call's own: what the walk of the document's digest asks. -/
import Derived.Test.YteciidnjikcimaaDoorRefE
import Derived.Test.YteciidnjikcimaaDoorSumMath
import Derived.Maps.AppendAt
import Derived.Test.YteciidnjikcimaaDoorRegion
namespace Go.Proofs.YteciidnjikcimaaDoor.Sha
open Go.RowKit Go.Lib
attribute [local go_sem ↓] Go.wp_at_zero Go.wp_at_succ

/-- A row of numbers at the head of a block. -/
def RN (w : World) (g : Nat) (l : List Nat) : Prop := g < w.heap.size ∧ ∀ k, k < l.length → w.cell? ⟨g, k, none⟩ = some (.int .i64 ((wd l k : Nat) : Int))
/-- A row of numbers of the call's own. -/
def OwnI (w : World) (B g cap : Nat) (l : List Nat) : Prop := w.ownsRow B 3 1 (.slice (some ⟨g, 0, none⟩) l.length cap) l.length (l.map iV)
theorem OwnI.rn {w : World} {B g cap : Nat} {l : List Nat} (h : OwnI w B g cap l) : RN w g l :=
  ⟨(h.lt g rfl).2, fun k hk => by rw [h.cellAt k (by omega), List.getElem?_map, List.getElem?_eq_getElem hk, wd_in l k hk]; rfl⟩
theorem OwnI.ge {w : World} {B g cap : Nat} {l : List Nat} (h : OwnI w B g cap l) : B ≤ g := (h.lt g rfl).1
theorem RN.grown {w w' : World} {g : Nat} {l : List Nat} {row : Option Nat} (h : RN w g l) (hg : w.grownBy w' row) (hne : some g ≠ row) : RN w' g l :=
  ⟨by have := hg.size; have := h.1; omega, fun k hk => (World.cell?_of_block (w := w) (hg.block g h.1 hne)).trans (h.2 k hk)⟩
theorem RN.alloc {w : World} {g : Nat} {l : List Nat} (h : RN w g l) (o : Obj) : RN (w.alloc o) g l :=
  ⟨by have := h.1; simp; omega, fun k hk => (World.cell?_alloc_lt w o ⟨g, k, none⟩ h.1).trans (h.2 k hk)⟩
theorem RN.drewN {w : World} {g : Nat} {l : List Nat} (h : RN w g l) (n : Nat) : RN (w.drewN n) g l := h
theorem RN.drew {w : World} {g : Nat} {l : List Nat} (h : RN w g l) : RN w.drew g l := h
theorem OwnI.grown {w w' : World} {B g cap : Nat} {l : List Nat} {row : Option Nat} (h : OwnI w B g cap l) (hg : w.grownBy w' row) (hne : some g ≠ row) : OwnI w' B g cap l := World.ownsRow.kept h hg (.inr hne)
theorem OwnI.alloc {w : World} {B g cap : Nat} {l : List Nat} (h : OwnI w B g cap l) (o : Obj) : OwnI (w.alloc o) B g cap l := World.ownsRow.alloc h o
theorem OwnI.drewN {w : World} {B g cap : Nat} {l : List Nat} (h : OwnI w B g cap l) (n : Nat) : OwnI (w.drewN n) B g cap l := h
theorem OwnI.new (w : World) (B : Nat) (hB : B ≤ w.heap.size) : OwnI (w.alloc (.cells #[] 3)) B w.heap.size 0 [] := own_lit _ hB (heap_alloc_new _ _)
theorem OwnI.one (w : World) (B x : Nat) (hB : B ≤ w.heap.size) : OwnI (w.alloc (.cells #[.int .i64 (x : Int)] 3)) B w.heap.size 1 [x] :=
  World.ownsRow_lit w #[.int .i64 (x : Int)] 1 hB (by unfold maxLen; omega) rfl
def slLen : Value → Nat | .slice _ n _ => n | _ => 0
theorem own_snoc {w : World} {B g cap L : Nat} {l : List Nat} {x : Nat} (hL : L = l.length) (h : w.ownsRow B 3 1 (.slice (some ⟨g, 0, none⟩) (L + 1) cap) (L + 1) (l.map iV ++ [Value.int .i64 (x : Int)])) : OwnI w B g cap (l ++ [x]) := by
  unfold OwnI
  rw [List.length_append, List.map_append, ← hL]; exact h

theorem addr_add (b o j : Nat) : (⟨b, o, none⟩ : Addr).add j = ⟨b, o + j, none⟩ := by unfold Addr.add; split <;> simp_all
theorem OwnI.news {w : World} {B g cap : Nat} {l : List Nat} (h : OwnI w B g cap l) : ∀ j u, (l.map iV)[j]? = some u → w.cell? ((⟨g, 0, none⟩ : Addr).add j) = some u := World.ownsRow.cells h (g := g) rfl
theorem NIn.news {w : World} {b o : Nat} {l : List Nat} (h : NIn w (some ⟨b, o, none⟩) l) : ∀ j u, (l.map iV)[j]? = some u → w.cell? ((⟨b, o, none⟩ : Addr).add j) = some u := fun j u hu => by
  have hj : j < l.length := by have := (List.getElem?_eq_some_iff.1 hu).1; simpa using this
  obtain ⟨b', o', e, _, hc⟩ := h j hj
  cases e
  rw [addr_add, hc, ← hu, List.getElem?_map, List.getElem?_eq_getElem hj]
  show some (iV (wd l j)) = some (iV l[j])
  rw [wd_in l j hj]
theorem ints_one (l : List Nat) : ∀ u ∈ l.map iV, u.oneCell' = true := fun u hu => by obtain ⟨x, _, rfl⟩ := List.mem_map.1 hu; rfl

theorem RN.cut {w : World} {g : Nat} {l m : List Nat} (h : RN w g (l ++ m)) : RN w g l := ⟨h.1, fun k hk => by
  rw [h.2 k (by rw [List.length_append]; omega), wd_in (l ++ m) k (by rw [List.length_append]; omega), wd_in l k hk, List.getElem_append_left hk]⟩
/-- One number is appended: where the row lies then; what the old block holds. -/
theorem run_push (w : World) (ty : TypeId) (B g cap F x : Nat) (l : List Nat) (fr : Nat × Nat) (hO : OwnI w B g cap l) (hF : w.heap[F]? = some (.cells #[.int .i64 (x : Int)] 3 fr)) (hB : B ≤ w.heap.size) (hl : l.length ≤ 1000000) :
    ∃ g' cap' w', (Builtin.append_ #[32, 32] ty #[.slice (some ⟨g, 0, none⟩) l.length cap, .slice (some ⟨F, 0, none⟩) 1 1]).run Tryd.prog w = .ok (.slice (some ⟨g', 0, none⟩) (l.length + 1) cap') w' ∧ OwnI w' B g' cap' (l ++ [x]) ∧ w.grownBy w' (some g) ∧ (g' = g ∨ g' = w.heap.size) ∧ RN w' g l := by
  obtain ⟨i0, hi, hz0, hz1, hz2⟩ := info_parts infoI
  have hnews : ∀ j u, ([Value.int .i64 (x : Int)] : List Value)[j]? = some u → w.cell? ((⟨F, 0, none⟩ : Addr).add j) = some u := World.news_of_block (cs := #[.int .i64 (x : Int)]) hF
  have h1 : ∀ u ∈ ([Value.int .i64 (x : Int)] : List Value), u.oneCell' = true := by simp [Value.oneCell']
  obtain ⟨g', cap', w', hrun, hown, hgrow, hat, hlt⟩ := run_append_lies (P := Tryd.prog) w 32 ty B 3 i0 (.int .i64 0) 1 8 Tryd.underlying32 hi hz0 hz1 hz2 rfl (by decide) (.slice (some ⟨g, 0, none⟩) l.length cap) l.length (l.map iV) hO ⟨F, 0, none⟩ 1 1 [.int .i64 (x : Int)] rfl hnews h1 (by omega) (by unfold maxLen; omega) (by omega) hB w.heap.size rfl
  have hO2 : OwnI w' B g' cap' (l ++ [x]) := by
    unfold OwnI; rw [List.length_append, List.map_append]; exact hown
  refine ⟨g', cap', w', hrun, hO2, hgrow, ?_, ?_⟩
  · rcases hat with h | h
    · exact .inl (by simpa [Value.ownBlock] using h.symm)
    · exact .inr h
  · rcases hO.2 with ⟨h', _⟩ | ⟨gg, cc, cur, h', hbg, hg, hnc, hcm, hcs, htake⟩
    · simp at h'
    · simp only [Value.slice.injEq, Option.some.injEq, Addr.mk.injEq, and_true, true_and] at h'
      obtain ⟨rfl, rfl⟩ := h'
      by_cases hroom : l.length + 1 ≤ cap
      · have hr := run_append_room (P := Tryd.prog) w 32 ty 3 i0 Tryd.underlying32 hi g l.length cap cur hg ⟨F, 0, none⟩ 1 1 [.int .i64 (x : Int)] (by rw [hz1]; rfl) hnews h1 hroom (by rw [hz1]; simp at hcs ⊢; omega)
        rw [hrun] at hr
        injection hr with hv hw
        injection hv with hv
        injection hv with hv
        injection hv with hv
        subst hv
        exact hO2.rn.cut
      · have hr := run_append_grow (P := Tryd.prog) w 32 ty 3 i0 (.int .i64 0) Tryd.underlying32 hi hz0 ⟨g, 0, none⟩ l.length cap (l.map iV) (by rw [hz1]; simp) hO.news ⟨F, 0, none⟩ 1 1 [.int .i64 (x : Int)] (by rw [hz1]; rfl) hnews (by omega) (by omega) (growslice_fits (by omega) (by rw [hz2]; omega))
        rw [hrun] at hr
        injection hr with hv hw
        rw [hw]
        exact (RN.drew hO.rn).alloc _
theorem step_push {ops : Array Oper} {o : Oper} {a : Act} {K : Act → World → Prop} {Q : Exit → Act → World → Prop} {E : Prop} (w : World) (hgd : o.guard = none) (s x' : Operand)
    (ho : o.op = .call { callee := .builtin .append, args := #[s, x'], argTypes := #[32, 32] }) (B g cap F x L : Nat) (l : List Nat) (fr : Nat × Nat) (hO : OwnI w B g cap l)
    (hs : a.eval s = .slice (some ⟨g, 0, none⟩) L cap) (hx : a.eval x' = .slice (some ⟨F, 0, none⟩) 1 1) (hL : L = l.length) (hF : w.heap[F]? = some (.cells #[.int .i64 (x : Int)] 3 fr)) (hB : B ≤ w.heap.size) (hl : l.length ≤ 1000000)
    (h : ∀ g' cap' w', OwnI w' B g' cap' (l ++ [x]) → w.grownBy w' (some g) → (g' = g ∨ g' = w.heap.size) → RN w' g l → K (a.put o.dst (.slice (some ⟨g', 0, none⟩) (L + 1) cap')) w') :
    if Region.wanted o (yielded ops a.tmps) = true then Oper.wp Tryd.prog o a w K Q else E := by
  subst hL
  have hw : Region.wanted o (yielded ops a.tmps) = true := by simp [Region.wanted, hgd]
  rw [if_pos hw]
  obtain ⟨g', cap', w', hrun, h2, h3, h4, h5⟩ := run_push w o.type B g cap F x l fr hO hF hB hl
  unfold Oper.wp execOp
  simp only [ho, resolve, invoke, builtin, Sem.run_bind, Sem.run_pure, Result.andThen_ok, List.map_toArray, List.map_cons, List.map_nil, hs, hx, hrun]
  exact h g' cap' w' h2 h3 h4 h5


end Go.Proofs.YteciidnjikcimaaDoor.Sha
