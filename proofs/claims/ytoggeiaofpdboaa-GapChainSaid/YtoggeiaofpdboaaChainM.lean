/- The law GapChain: its rows in plain words; the lists that it keeps. -/
import Derived.Test.YtoggeiaofpdboaaGapD
import Derived.Test.YtoggeiaofpdboaaSetKit
import Derived.Test.YtoggeiaofpdboaaByteRows
import Derived.Test.YtoggeiaofpdboaaInts
namespace Go.Proofs.Ytoggeiaofpdboaa.Gap
open Go Go.RowKit Go.Lib Oct Num OwX SetM

/-- Which numbers some bytes lead to. -/
def inB (N : Int) (z : List Int) (k : Nat) (t : Int) : Bool := (z.take k).any fun x => t == x % N
theorem inB_0 (N : Int) (z : List Int) : inB N z 0 = fun _ => false := by funext t; simp [inB]
theorem inB_succ (N : Int) (z : List Int) (k : Nat) (h : k < z.length) : inB N z (k + 1) = fun t => t == nt z k % N || inB N z k t := by
  funext t
  unfold inB
  rw [take_nt z k h, List.any_append]
  simp [Bool.or_comm]
/-- The first so many numbers of which something holds. -/
def pk (p : Int → Bool) (t : Nat) : List Int := ((List.range t).map fun (i : Nat) => (i : Int)).filter p
theorem pk_succ (p : Int → Bool) (t : Nat) : pk p (t + 1) = pk p t ++ (if p (t : Int) then [(t : Int)] else []) := by
  unfold pk
  rw [List.range_succ, List.map_append, List.filter_append]
  congr 1
  simp [List.filter_cons]
theorem pk_len (p : Int → Bool) (t : Nat) : (pk p t).length ≤ t := by
  unfold pk
  exact Nat.le_trans (List.length_filter_le _ _) (by simp)
theorem pk_mem (p : Int → Bool) (t : Nat) : ∀ x ∈ pk p t, 0 ≤ x ∧ x < t := fun x hx => by
  unfold pk at hx
  obtain ⟨h1, _⟩ := List.mem_filter.1 hx
  obtain ⟨i, hi, rfl⟩ := List.mem_map.1 h1
  have := List.mem_range.1 hi
  omega
theorem pk_sorted (p : Int → Bool) (t : Nat) : (pk p t).Pairwise (· < ·) := by
  unfold pk
  refine List.Pairwise.filter _ ?_
  rw [List.pairwise_map]
  exact (List.pairwise_lt_range (n := t)).imp fun h => by omega
theorem pk_good (p : Int → Bool) (t : Nat) : GoodT (t : Int) (pk p t) := by
  refine ⟨fun i hi => ?_, fun i hi => ?_⟩
  · rw [nt_at _ _ hi]; exact pk_mem p t _ (List.getElem_mem hi)
  · rw [nt_at _ _ hi, nt_at _ _ (by omega)]
    exact List.pairwise_iff_getElem.1 (pk_sorted p t) i (i + 1) (by omega) hi (by omega)
/-- The targets of a row. -/
def tl (N : Nat) (z : List Int) : List Int := pk (inB (N : Int) z z.length) N
/-- The rows' bytes, one behind the other. -/
def allF (L : Nat → List Int) : Nat → List UInt8
  | 0 => []
  | k + 1 => allF L k ++ putF (k : Int) (L k) (L k).length
theorem allF_mono (L : Nat → List Int) (k n : Nat) (h : k ≤ n) : ∃ t, allF L n = allF L k ++ t := by
  induction n with
  | zero => exact ⟨[], by rw [show k = 0 by omega]; simp⟩
  | succ n ih =>
    rcases Nat.lt_or_ge n k with h1 | h1
    · exact ⟨[], by rw [show k = n + 1 by omega]; simp⟩
    · obtain ⟨t, ht⟩ := ih h1
      exact ⟨t ++ putF (n : Int) (L n) (L n).length, by rw [allF, ht, List.append_assoc]⟩
theorem allF_drop (L : Nat → List Int) (k n : Nat) (h : k < n) : ∃ t, (allF L n).drop (allF L k).length = putF (k : Int) (L k) (L k).length ++ t := by
  obtain ⟨t, ht⟩ := allF_mono L (k + 1) n h
  exact ⟨t, by rw [ht, allF, List.append_assoc, List.drop_left]⟩
theorem putF_short (N v : Int) (l : List Int) (hN : N ≤ 4096) (hv0 : 0 ≤ v) (hv1 : v < N) (hg : GoodT N l) : (putF v l l.length).length ≤ 9 + 9 * l.length := by
  rw [putF_all, List.length_append]
  have h1 : (short l.length).length ≤ 9 := short_len9 _ (by have := hg.len (by omega); omega)
  have h2 : ∀ (l : List Int) (first : Bool) (now : Int), 0 ≤ now → now ≤ 4096 → Rises N first now l → (sts first now l).length ≤ 9 * l.length := by
    intro l
    induction l with
    | nil => intro _ _ _ _ _; simp [sts]
    | cons x l ih =>
      intro first now h0 h1 hr
      obtain ⟨hx, _, hr2⟩ := hr
      rw [sts, List.length_append, List.length_cons]
      have a1 := st1_len first now x h0 h1 hx.1 (by omega)
      have a2 := ih false x hx.1 (by omega) hr2
      omega
  have := h2 l true v hv0 (by omega) hg.rises
  omega
/-- The lists that are kept. -/
def Lists (w0 u : World) (B : Option Addr) (k cap : Nat) (L : Nat → List Int) : Prop := ∃ vs : List Value, u.ownsRow w0.heap.size 24 1 (.slice B k cap) k vs ∧ ∀ i, i < k → ∃ A c, vs[i]? = some (.slice A (L i).length c) ∧ IIn u A (L i) ∧ (0 < (L i).length → ∀ b o, A = some ⟨b, o, none⟩ → (Value.slice B k cap).ownBlock ≠ some b)
theorem Lists.nil (w0 u : World) (L : Nat → List Int) : Lists w0 u none 0 0 L := ⟨[], World.ownsRow_nil _ _ _ _, fun i hi => absurd hi (by omega)⟩
theorem Lists.on {w0 u u' : World} {B : Option Addr} {k cap : Nat} {L : Nat → List Int} (h : Lists w0 u B k cap L) (hb : Below u.heap.size u u') : Lists w0 u' B k cap L := by
  obtain ⟨vs, h1, h2⟩ := h
  refine ⟨vs, Own.row_on h1 hb, fun i hi => ?_⟩
  obtain ⟨A, c, e1, e2, e3⟩ := h2 i hi
  exact ⟨A, c, e1, e2.on hb, e3⟩
theorem Lists.cell {w0 u : World} {B : Option Addr} {k cap : Nat} {L : Nat → List Int} (h : Lists w0 u B k cap L) {i : Nat} (hi : i < k) : ∃ b A c, B = some ⟨b, 0, none⟩ ∧ u.cell? ⟨b, 0 + i, none⟩ = some (.slice A (L i).length c) ∧ IIn u A (L i) := by
  obtain ⟨vs, h1, h2⟩ := h
  obtain ⟨A, c, e1, e2, e3⟩ := h2 i hi
  obtain ⟨g, cap', hf, _⟩ := World.ownsRow.form h1 (by omega)
  injection hf with hB _ _
  subst hB
  have hc := World.ownsRow.cells h1 (g := g) rfl i _ e1
  rw [addr_add] at hc
  exact ⟨g, A, c, rfl, hc, e2⟩
theorem elemL : Own.Elem Try.prog 33 24 (.slice none 0 0) 1 24 := ⟨Try.underlying33, by kernel_rfl, rfl, by decide⟩
/-- A list is appended. (It lies in blocks that are newer than the row of lists.) -/
theorem Lists.push {w0 v0 v : World} {B : Option Addr} {k cap : Nat} {L : Nat → List Int} (h : Lists w0 v0 B k cap L) (hb0 : Below w0.heap.size w0 v0) (hb : Below v0.heap.size v0 v) (ty : TypeId) (A : Option Addr) (c : Nat) (hk : k ≤ 1000) (hA : OwnI v v0.heap.size A (L k).length c (L k)) :
    ∃ g' cap' v', (Builtin.append_ #[33, 33] ty #[.slice B k cap, .slice (some ⟨v.heap.size, 0, none⟩) 1 1]).run Try.prog (v.alloc (.cells #[.slice A (L k).length c] 24)) = .ok (.slice (some ⟨g', 0, none⟩) (k + 1) cap') v' ∧
      Lists w0 v' (some ⟨g', 0, none⟩) (k + 1) cap' L ∧ Below w0.heap.size w0 v' := by
  have hbv : Below w0.heap.size w0 v := hb0.trans (hb.mono hb0.size)
  obtain ⟨vs, h1, h2⟩ := h
  obtain ⟨g', cap', v', r1, r2, r3, r4⟩ := Own.append elemL w0 (v.alloc (.cells #[.slice A (L k).length c] 24)) ty B k cap 1 1 vs ((Own.row_on h1 hb).alloc _) ⟨v.heap.size, 0, none⟩ [.slice A (L k).length c] rfl (World.news_of_block (cs := #[.slice A (L k).length c]) (heap_alloc_new v _)) (by simp [Value.oneCell']) (by omega) (by unfold maxLen; omega) (by omega) (hbv.alloc hbv.size _)
  have hvl : vs.length = k := by have := h1.1; omega
  have hal : Below v.heap.size v (v.alloc (.cells #[.slice A (L k).length c] 24)) := (Below.refl _ v).alloc (Nat.le_refl _) _
  have hsz : (v.alloc (.cells #[.slice A (L k).length c] 24)).heap.size = v.heap.size + 1 := by simp
  have hown : ∀ b, (Value.slice B k cap).ownBlock = some b → b < v0.heap.size := fun b e => (h1.lt b e).2
  have keep : ∀ (A' : Option Addr) (l : List Int), IIn v A' l → (0 < l.length → ∀ b o, A' = some ⟨b, o, none⟩ → (Value.slice B k cap).ownBlock ≠ some b) → IIn v' A' l := fun A' l hi hne j hj => by
    obtain ⟨b, o, e, hlt, h3⟩ := hi j hj
    refine ⟨b, o, e, Nat.lt_of_lt_of_le hlt (Nat.le_trans hal.size r4.size), ?_⟩
    rw [r4.cell (by rw [hsz]; omega) (fun q => hne (by omega) b o e q.symm)]
    exact (hal.cell (p := ⟨b, o + j, none⟩) hlt).trans h3
  refine ⟨g', cap', v', r1, ⟨vs ++ [.slice A (L k).length c], r2, fun i hi => ?_⟩, r3⟩
  rcases Nat.lt_or_ge i k with hik | hik
  · obtain ⟨A', c', e1, e2, e3⟩ := h2 i hik
    refine ⟨A', c', by rw [List.getElem?_append_left (by omega)]; exact e1, keep A' (L i) (e2.on hb) e3, fun hz b o e => ?_⟩
    rcases r4.at' with q | q
    · have := e3 hz b o e
      rw [q] at this
      simpa [Value.ownBlock] using this
    · obtain ⟨b', o', ee, hlt, _⟩ := e2 0 hz
      rw [e] at ee
      cases ee
      have := hb.size
      simp [Value.ownBlock]
      omega
  · obtain rfl : i = k := by omega
    refine ⟨A, c, by rw [List.getElem?_append_right (by omega), hvl]; simp, keep A (L i) hA.iin (fun _ b o e q => ?_), fun _ b o e => ?_⟩
    · subst e
      have h4 := hown b q
      have h5 := (hA.2.lt b rfl).1
      omega
    · subst e
      have h5 := hA.2.lt b rfl
      rcases r4.at' with q | q
      · have h6 := hown g' q
        simp [Value.ownBlock]
        omega
      · simp [Value.ownBlock]
        omega
end Go.Proofs.Ytoggeiaofpdboaa.Gap
