/- slices.SortFunc of a row of edges by edges.compare. -/
import Derived.Test.YtinjecaanjeapaaDoorCompMath
import Derived.Shelf.SlSortCmp.NoneTotal
import Derived.Lib.OwnBridge
namespace Go.Proofs.YtinjecaanjeapaaDoor.Edg
open Go Go.RowKit Go.Lib Go.Shelf Go.Sort

theorem below_grow {B : Nat} {a w : World} (h : Go.RowKit.Below B a w) (hB : B ≤ w.heap.size) (os : Array Obj) : Go.RowKit.Below B a (grow w os) :=
  ⟨h.os, h.tape, h.output, by have := h.size; simp [grow]; omega, fun k hk => by rw [← h.block k hk]; simp only [grow]; exact Array.getElem?_append_left (by omega)⟩
theorem holdsK_of {w : World} {g : Nat} {l : List (Int × Int)} (h : HoldE w g l) : HoldsK encE 2 w g 0 l.toArray := fun j hj => by
  rw [size_flatK] at hj
  have hi : j / 2 < l.length := by simp at hj; omega
  obtain ⟨⟨c1, c2⟩, f1, f2⟩ := h (j / 2) hi
  have e : l.toArray[j / 2]! = ed l (j / 2) := by rw [ed_at l _ hi]; simp [hi]
  rw [get_flatK encE 2 l.toArray j hj, e, Nat.zero_add]
  rcases Nat.mod_two_eq_zero_or_one j with q | q
  · have ej : j / 2 * 2 = j := by omega
    rw [ej] at c1 f1
    rw [q]
    exact ⟨c1, f1⟩
  · have ej : j / 2 * 2 + 1 = j := by omega
    rw [ej] at c2 f2
    rw [q]
    exact ⟨c2, f2⟩
theorem hold_of_K {w : World} {g : Nat} {d : Array (Int × Int)} (h : HoldsK encE 2 w g 0 d) : HoldE w g d.toList := fun i hi => by
  have hi' : i < d.size := by simpa using hi
  have e : d[(i * 2) / 2]! = ed d.toList i := by rw [show i * 2 / 2 = i by omega, ed_at _ _ hi]; simp [hi']
  have e' : d[(i * 2 + 1) / 2]! = ed d.toList i := by rw [show (i * 2 + 1) / 2 = i by omega, ed_at _ _ hi]; simp [hi']
  have h1 := h (i * 2) (by rw [size_flatK]; omega)
  have h2 := h (i * 2 + 1) (by rw [size_flatK]; omega)
  rw [get_flatK encE 2 d _ (by omega), e, Nat.zero_add, show i * 2 % 2 = 0 by omega] at h1
  rw [get_flatK encE 2 d _ (by omega), e', Nat.zero_add, show (i * 2 + 1) % 2 = 1 by omega] at h2
  exact ⟨⟨h1.1, h2.1⟩, h1.2, h2.2⟩
theorem sort_any (g cap : Nat) (l : List (Int × Int)) (w : World) (hH : HoldE w g l) (hg : g < w.heap.size) (hl : l.length ≤ 20000) :
    Calls Tryd.prog 36 #[.slice (some ⟨g, 0, none⟩) l.length cap, .func (.func 37) #[] #[]] w fun e w' => e = .returned (.tuple #[]) ∧ ∃ s, s.length = l.length ∧ WSrt s ∧ (∀ e, e ∈ s ↔ e ∈ l) ∧ HoldE w' g s ∧ Go.RowKit.Below g w w' ∧ g < w'.heap.size := by
  have eg : ∀ args w, (callFunc 37 args).run Tryd.prog w = .ok (.enter 37 args) w := enters_of Tryd.func37 (by kernel_rfl) rfl
  refine (AnyQ.slices_SortFunc Tryd.laySort 2 Tryd.isAgg51 Tryd.sizeOf51 encE (fun _ => rfl) (fun x v hv => by simp [encE] at hv; rcases hv with rfl | rfl <;> rfl) cmpI swo 37 #[] g 0 cap l.toArray w eg (cmpLays g 0 _ w) (holdsK_of hH) hg (by simp; omega)).mono fun e w' hp => ?_
  obtain ⟨he, d', n, os, hpm, hs, rfl⟩ := hp
  have hsz : d'.size = l.length := by have := hpm.1; simpa using this
  refine ⟨he, d'.toList, by simpa using hsz, fun i j hij hj => ?_, fun e => ?_, hold_of_K (holdsK_sortWorldK_c encE 2 w g 0 l.toArray d' n os (holdsK_of hH) hg (by simpa using hsz)), below_grow (below_putRow (Go.RowKit.Below.refl g w) (Nat.le_refl _)) ?_ os, lt_sortWorldK encE 2 w g 0 n d' os hg⟩
  · have hj' : j < d'.size := by simpa using hj
    have := hs i j (Nat.zero_le _) hij (by simpa using (hsz ▸ hj'))
    rw [ltOf_cmp] at this
    rw [ed_at _ _ hj, ed_at _ _ (by simp; omega)]
    simpa [hj', Nat.lt_trans hij hj'] using this
  · have hp := hpm.2.2
    have e1 : (d'.extract 0 l.toArray.size).toList = d'.toList := by simp [← hsz]
    have e2 : (l.toArray.extract 0 l.toArray.size).toList = l := by simp
    rw [e1, e2] at hp
    exact hp.mem_iff
  · have := lt_sortWorldK encE 2 w g 0 n d' #[] hg
    rw [sortWorldK, grow_empty] at this
    exact Nat.le_of_lt this
end Go.Proofs.YtinjecaanjeapaaDoor.Edg
