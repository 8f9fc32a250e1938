/- A part of the proof of ManifestVersionsCardSaid: texts that lead to it, merged. -/
import Derived.Test.YtbemmnggmdadeaaGreatDoorMMV4
import Derived.Maps.AppendAt
import Derived.Laws.OwnMore
import Derived.OneCell
import Derived.Laws.AppendOwn
import Derived.Laws.Append
import Derived.Deep.Upon
section
namespace Go.Proofs.YtbemmnggmdadeaaGreatDoor.Sha
open Go.RowKit Go.Lib
attribute [local go_sem ↓] Go.wp_at_zero Go.wp_at_succ
def RN (w : World) (g : Nat) (l : List Nat) : Prop := g < w.heap.size ∧ ∀ k, k < l.length → w.cell? ⟨g, k, none⟩ = some (.int .i64 ((wd l k : Nat) : Int))
def OwnI (w : World) (B g cap : Nat) (l : List Nat) : Prop := w.ownsRow B 3 1 (.slice (some ⟨g, 0, none⟩) l.length cap) l.length (l.map iV)
theorem OwnI.rn {w : World} {B g cap : Nat} {l : List Nat} (h : OwnI w B g cap l) : RN w g l :=
  ⟨(h.lt g rfl).2, fun k hk => by rw [h.cellAt k (by omega), List.getElem?_map, List.getElem?_eq_getElem hk, wd_in l k hk]; rfl⟩
theorem OwnI.ge {w : World} {B g cap : Nat} {l : List Nat} (h : OwnI w B g cap l) : B ≤ g := (h.lt g rfl).1
theorem RN.grown {w w' : World} {g : Nat} {l : List Nat} {row : Option Nat} (h : RN w g l) (hg : w.grownBy w' row) (hne : some g ≠ row) : RN w' g l :=
  ⟨by have := hg.size; have := h.1; omega, fun k hk => (World.cell?_of_block (w := w) (hg.block g h.1 hne)).trans (h.2 k hk)⟩
theorem RN.alloc {w : World} {g : Nat} {l : List Nat} (h : RN w g l) (o : Obj) : RN (w.alloc o) g l :=
  ⟨by have := h.1; simp; omega, fun k hk => (World.cell?_alloc_lt w o ⟨g, k, none⟩ h.1).trans (h.2 k hk)⟩
theorem RN.drewN {w : World} {g : Nat} {l : List Nat} (h : RN w g l) (n : Nat) : RN (w.drewN n) g l := h
theorem RN.drew {w : World} {g : Nat} {l : List Nat} (h : RN w g l) : RN w.drew g l := h
theorem OwnI.grown {w w' : World} {B g cap : Nat} {l : List Nat} {row : Option Nat} (h : OwnI w B g cap l) (hg : w.grownBy w' row) (hne : some g ≠ row) : OwnI w' B g cap l := World.ownsRow.kept h hg (.inr hne)
theorem OwnI.alloc {w : World} {B g cap : Nat} {l : List Nat} (h : OwnI w B g cap l) (o : Obj) : OwnI (w.alloc o) B g cap l := World.ownsRow.alloc h o
theorem OwnI.drewN {w : World} {B g cap : Nat} {l : List Nat} (h : OwnI w B g cap l) (n : Nat) : OwnI (w.drewN n) B g cap l := h
theorem OwnI.new (w : World) (B : Nat) (hB : B ≤ w.heap.size) : OwnI (w.alloc (.cells #[] 3)) B w.heap.size 0 [] := own_lit _ hB (heap_alloc_new _ _)
theorem OwnI.one (w : World) (B x : Nat) (hB : B ≤ w.heap.size) : OwnI (w.alloc (.cells #[.int .i64 (x : Int)] 3)) B w.heap.size 1 [x] :=
  World.ownsRow_lit w #[.int .i64 (x : Int)] 1 hB (by unfold maxLen; omega) rfl
theorem addr_add (b o j : Nat) : (⟨b, o, none⟩ : Addr).add j = ⟨b, o + j, none⟩ := by unfold Addr.add; split <;> simp_all
theorem OwnI.news {w : World} {B g cap : Nat} {l : List Nat} (h : OwnI w B g cap l) : ∀ j u, (l.map iV)[j]? = some u → w.cell? ((⟨g, 0, none⟩ : Addr).add j) = some u := World.ownsRow.cells h (g := g) rfl
theorem NIn.news {w : World} {b o : Nat} {l : List Nat} (h : NIn w (some ⟨b, o, none⟩) l) : ∀ j u, (l.map iV)[j]? = some u → w.cell? ((⟨b, o, none⟩ : Addr).add j) = some u := fun j u hu => by
  have hj : j < l.length := by have := (List.getElem?_eq_some_iff.1 hu).1; simpa using this
  obtain ⟨b', o', e, _, hc⟩ := h j hj;cases e;rw [addr_add, hc, ← hu, List.getElem?_map, List.getElem?_eq_getElem hj];show some (iV (wd l j)) = some (iV l[j]);rw [wd_in l j hj]
theorem ints_one (l : List Nat) : ∀ u ∈ l.map iV, u.oneCell' = true := fun u hu => by obtain ⟨x, _, rfl⟩ := List.mem_map.1 hu; rfl
theorem RN.cut {w : World} {g : Nat} {l m : List Nat} (h : RN w g (l ++ m)) : RN w g l := ⟨h.1, fun k hk => by
  rw [h.2 k (by rw [List.length_append]; omega), wd_in (l ++ m) k (by rw [List.length_append]; omega), wd_in l k hk, List.getElem_append_left hk]⟩
theorem run_push (w : World) (ty : TypeId) (B g cap F x : Nat) (l : List Nat) (fr : Nat × Nat) (hO : OwnI w B g cap l) (hF : w.heap[F]? = some (.cells #[.int .i64 (x : Int)] 3 fr)) (hB : B ≤ w.heap.size) (hl : l.length ≤ 1000000) :
    ∃ g' cap' w', (Builtin.append_ #[92, 92] ty #[.slice (some ⟨g, 0, none⟩) l.length cap, .slice (some ⟨F, 0, none⟩) 1 1]).run Tryz.prog w = .ok (.slice (some ⟨g', 0, none⟩) (l.length + 1) cap') w' ∧ OwnI w' B g' cap' (l ++ [x]) ∧ w.grownBy w' (some g) ∧ (g' = g ∨ g' = w.heap.size) ∧ RN w' g l := by
  obtain ⟨i0, hi, hz0, hz1, hz2⟩ := info_parts infoI;have hnews : ∀ j u, ([Value.int .i64 (x : Int)] : List Value)[j]? = some u → w.cell? ((⟨F, 0, none⟩ : Addr).add j) = some u := World.news_of_block (cs := #[.int .i64 (x : Int)]) hF;have h1 : ∀ u ∈ ([Value.int .i64 (x : Int)] : List Value), u.oneCell' = true := by simp [Value.oneCell']
  obtain ⟨g', cap', w', hrun, hown, hgrow, hat, hlt⟩ := run_append_lies (P := Tryz.prog) w 92 ty B 3 i0 (.int .i64 0) 1 8 Tryz.underlying92 hi hz0 hz1 hz2 rfl (by decide) (.slice (some ⟨g, 0, none⟩) l.length cap) l.length (l.map iV) hO ⟨F, 0, none⟩ 1 1 [.int .i64 (x : Int)] rfl hnews h1 (by omega) (by unfold maxLen; omega) (by omega) hB w.heap.size rfl
  have hO2 : OwnI w' B g' cap' (l ++ [x]) := by
    unfold OwnI; rw [List.length_append, List.map_append]; exact hown
  refine ⟨g', cap', w', hrun, hO2, hgrow, ?_, ?_⟩
  · rcases hat with h | h
    · exact .inl (by simpa [Value.ownBlock] using h.symm)
    · exact .inr h
  · rcases hO.2 with ⟨h', _⟩ | ⟨gg, cc, cur, h', hbg, hg, hnc, hcm, hcs, htake⟩
    · simp at h'
    · simp only [Value.slice.injEq, Option.some.injEq, Addr.mk.injEq, and_true, true_and] at h';obtain ⟨rfl, rfl⟩ := h'
      by_cases hroom : l.length + 1 ≤ cap
      · have hr := run_append_room (P := Tryz.prog) w 92 ty 3 i0 Tryz.underlying92 hi g l.length cap cur hg ⟨F, 0, none⟩ 1 1 [.int .i64 (x : Int)] (by rw [hz1]; rfl) hnews h1 hroom (by rw [hz1]; simp at hcs ⊢; omega);rw [hrun] at hr;injection hr with hv hw
        injection hv with hv
        injection hv with hv
        injection hv with hv
        subst hv;exact hO2.rn.cut
      · have hr := run_append_grow (P := Tryz.prog) w 92 ty 3 i0 (.int .i64 0) Tryz.underlying92 hi hz0 ⟨g, 0, none⟩ l.length cap (l.map iV) (by rw [hz1]; simp) hO.news ⟨F, 0, none⟩ 1 1 [.int .i64 (x : Int)] (by rw [hz1]; rfl) hnews (by omega) (by omega) (growslice_fits (by omega) (by rw [hz2]; omega));rw [hrun] at hr;injection hr with hv hw
        rw [hw];exact (RN.drew hO.rn).alloc _
end Go.Proofs.YtbemmnggmdadeaaGreatDoor.Sha
end
section
namespace Go.Proofs.YtbemmnggmdadeaaGreatDoor.Sha
open Go.RowKit Go.Lib
structure Kept (v v' : World) (g g' : Nat) : Prop where
  at' : g' = g ∨ v.heap.size ≤ g'
  size : v.heap.size ≤ v'.heap.size
  own : ∀ {B g2 cap2 : Nat} {l2 : List Nat}, g2 ≠ g → OwnI v B g2 cap2 l2 → OwnI v' B g2 cap2 l2
  rn : ∀ {g2 : Nat} {l2 : List Nat}, g2 ≠ g → RN v g2 l2 → RN v' g2 l2
theorem below_drew {B : Nat} {w w' : World} (h : Below B w w') : Below B w w'.drew := ⟨h.1, h.2, h.3, h.4, h.5⟩
theorem below_drewN {B : Nat} {w w' : World} (h : Below B w w') (n : Nat) : Below B w (w'.drewN n) := ⟨h.1, h.2, h.3, h.4, h.5⟩
theorem push1 (w0 v : World) (ty : TypeId) (g cap L x : Nat) (l : List Nat) (hO : OwnI v w0.heap.size g cap l) (hL : L = l.length) (hb : Below w0.heap.size w0 v) (hl : L ≤ 1000) :
    ∃ g' cap' v', (Builtin.append_ #[92, 92] ty #[.slice (some ⟨g, 0, none⟩) L cap, .slice (some ⟨v.heap.size, 0, none⟩) 1 1]).run Tryz.prog (v.alloc (.cells #[.int .i64 (x : Int)] 3)) = .ok (.slice (some ⟨g', 0, none⟩) (L + 1) cap') v' ∧
      OwnI v' w0.heap.size g' cap' (l ++ [x]) ∧ Below w0.heap.size w0 v' ∧ Kept v v' g g' := by
  subst hL;have hs := hb.size;obtain ⟨g', cap', v', hrun, h1, h2, h3, _⟩ := run_push (v.alloc (.cells #[.int .i64 (x : Int)] 3)) ty w0.heap.size g cap v.heap.size x l (0, 0) (hO.alloc _) (heap_alloc_new _ _) (by simp; omega) (by omega);refine ⟨g', cap', v', hrun, h1, (hb.alloc hs _).grown h2 (by simp; omega) (fun k hk => by cases hk; exact hO.ge), ?_, ?_, ?_, ?_⟩
  · rcases h3 with h | h
    · exact .inl h
    · simp at h; exact .inr (by omega)
  · have := h2.size; simp at this; omega
  · intro B g2 cap2 l2 hne h;exact (h.alloc _).grown h2 (by simp; exact hne)
  · intro g2 l2 hne h;exact (h.alloc _).grown h2 (by simp; exact hne)
theorem pushM (w0 v : World) (ty : TypeId) (g cap L m c b o : Nat) (l src : List Nat) (hO : OwnI v w0.heap.size g cap l) (hL : L = l.length) (hm : m = src.length) (hp : 0 < L + m) (hsrc : ∀ j u, (src.map iV)[j]? = some u → v.cell? ((⟨b, o, none⟩ : Addr).add j) = some u) (hb : Below w0.heap.size w0 v) (hl : L + m ≤ 1000) :
    ∃ g' cap' v', (Builtin.append_ #[92, 92] ty #[.slice (some ⟨g, 0, none⟩) L cap, .slice (some ⟨b, o, none⟩) m c]).run Tryz.prog v = .ok (.slice (some ⟨g', 0, none⟩) (L + m) cap') v' ∧
      OwnI v' w0.heap.size g' cap' (l ++ src) ∧ Below w0.heap.size w0 v' ∧ Kept v v' g g' := by
  subst hL hm;have hs := hb.size;obtain ⟨i0, hi, hz0, hz1, hz2⟩ := info_parts infoI;obtain ⟨v1, v', hrun, h1, h2, _, h3⟩ := run_append_own_at (P := Tryz.prog) (w := v) w0.heap.size 92 ty 3 i0 (.int .i64 0) 1 8 Tryz.underlying92 hi hz0 hz1 hz2 rfl (by decide) (.slice (some ⟨g, 0, none⟩) l.length cap) l.length (l.map iV) hO ⟨b, o, none⟩ src.length c (src.map iV) (by simp) hsrc (ints_one _) (by unfold maxLen; omega) (by omega) hs;obtain ⟨g', cap', rfl, h4, h5⟩ := h1.form hp;refine ⟨g', cap', v', hrun, ?_, hb.grown h2 hs (fun k hk => by simp [Value.ownBlock] at hk; subst hk; exact hO.ge), ?_, h2.size, ?_, ?_⟩
  · unfold OwnI; rw [List.length_append, List.map_append]; exact h1
  · rcases h3 with h | h
    · simp [Value.ownBlock] at h; exact .inl h
    · simp [Value.ownBlock] at h; exact .inr (by omega)
  · intro B g2 cap2 l2 hne h;exact h.grown h2 (by simp [Value.ownBlock]; exact hne)
  · intro g2 l2 hne h;exact h.grown h2 (by simp [Value.ownBlock]; exact hne)
theorem OwnI.lt' {w : World} {B g cap : Nat} {l : List Nat} (h : OwnI w B g cap l) : g < w.heap.size := (h.lt g rfl).2
theorem OwnI.cell {w : World} {B g cap : Nat} {l : List Nat} (h : OwnI w B g cap l) {j : Nat} (hj : j < l.length) : w.cell? ⟨g, j, none⟩ = some (.int .i64 ((wd l j : Nat) : Int)) := h.rn.2 j hj
theorem OwnI.drew {w : World} {B g cap : Nat} {l : List Nat} (h : OwnI w B g cap l) : OwnI w.drew B g cap l := h
end Go.Proofs.YtbemmnggmdadeaaGreatDoor.Sha
end
section
namespace Go.Proofs.YtbemmnggmdadeaaGreatDoor.Sha
open Go.RowKit Go.Lib
structure Ws (w0 v : World) (gw capw : Nat) (lw : List Nat) (gh caph : Nat) (Hm : List Nat) (g2 cap2 : Nat) (PL : List Nat) : Prop where
  ow : OwnI v w0.heap.size gw capw lw
  oh : OwnI v w0.heap.size gh caph Hm
  ob : OwnI v w0.heap.size g2 cap2 PL
  old : Below w0.heap.size w0 v
  n1 : gw ≠ g2
  n2 : gw ≠ gh
  n3 : gh ≠ g2
section
variable {w0 v v' : World} {gw capw gh caph g2 cap2 g' cap' x : Nat} {lw Hm PL : List Nat}
theorem Ws.drew (h : Ws w0 v gw capw lw gh caph Hm g2 cap2 PL) : Ws w0 v.drew gw capw lw gh caph Hm g2 cap2 PL := ⟨h.ow.drew, h.oh.drew, h.ob.drew, below_drew h.old, h.n1, h.n2, h.n3⟩
theorem Ws.drewN (h : Ws w0 v gw capw lw gh caph Hm g2 cap2 PL) (n : Nat) : Ws w0 (v.drewN n) gw capw lw gh caph Hm g2 cap2 PL := ⟨h.ow.drewN n, h.oh.drewN n, h.ob.drewN n, below_drewN h.old n, h.n1, h.n2, h.n3⟩
theorem Ws.alloc (h : Ws w0 v gw capw lw gh caph Hm g2 cap2 PL) (o : Obj) : Ws w0 (v.alloc o) gw capw lw gh caph Hm g2 cap2 PL := ⟨h.ow.alloc o, h.oh.alloc o, h.ob.alloc o, h.old.alloc h.old.size o, h.n1, h.n2, h.n3⟩
theorem Ws.push (h : Ws w0 v gw capw lw gh caph Hm g2 cap2 PL) (ho : OwnI v' w0.heap.size g' cap' (lw ++ [x])) (hb : Below w0.heap.size w0 v') (hk : Kept v v' gw g') : Ws w0 v' g' cap' (lw ++ [x]) gh caph Hm g2 cap2 PL := by
  have h1 := h.oh.lt';have h2 := h.ob.lt';refine ⟨ho, hk.own (Ne.symm h.n2) h.oh, hk.own (Ne.symm h.n1) h.ob, hb, ?_, ?_, h.n3⟩
  · rcases hk.at' with e | e
    · rw [e]; exact h.n1
    · omega
  · rcases hk.at' with e | e
    · rw [e]; exact h.n2
    · omega
end
end Go.Proofs.YtbemmnggmdadeaaGreatDoor.Sha
end
section
namespace Go.Proofs.YtbemmnggmdadeaaGreatDoor.Mrk
open Go Go.RowKit Go.Lib
def sm (x : ByteArray) : ByteArray := Sha.digB x.data.toList
theorem sm_size (x : ByteArray) : (sm x).size = 32 := Sha.digB_size _
def hfL (k n : Nat) : Nat := if 0 < k ∧ 2 * k < n then hfL (2 * k) n else k
termination_by n - k
def hf (n : Nat) : Nat := hfL 1 n
theorem hfL_step {k n : Nat} (h0 : 0 < k) (h : 2 * k < n) : hfL k n = hfL (2 * k) n := by rw [hfL, if_pos ⟨h0, h⟩]
theorem hfL_end {k n : Nat} (h : ¬ 2 * k < n) : hfL k n = k := by rw [hfL, if_neg (fun q => h q.2)]
theorem hfL_in (n : Nat) : ∀ (d k : Nat), n - k ≤ d → 0 < k → k < n → k ≤ hfL k n ∧ hfL k n < n ∧ n ≤ 2 * hfL k n := by
  intro d
  induction d with
  | zero => intro k h h0 h1; omega
  | succ d ih =>
    intro k h h0 h1
    by_cases h2 : 2 * k < n
    · rw [hfL_step h0 h2];have := ih (2 * k) (by omega) (by omega) h2;omega
    · rw [hfL_end h2];omega
theorem hf_in {n : Nat} (h : 2 ≤ n) : 1 ≤ hf n ∧ hf n < n ∧ n ≤ 2 * hf n := hfL_in n (n - 1) 1 (Nat.le_refl _) (by omega) (by omega)
abbrev Pr := ByteArray × ByteArray
def c0 : ByteArray := ⟨#[0]⟩
def c1 : ByteArray := ⟨#[1]⟩
def c2 : ByteArray := ⟨#[2]⟩
def pr (x : ByteArray) : Pr := (x, sm x)
def rootP (bl : List ByteArray) : ByteArray × List Pr :=
  if h0 : bl.length = 0 then (sm c2, [pr c2])
  else if h1 : bl.length = 1 then (sm (c0 ++ bl[0]), [pr (c0 ++ bl[0])])
  else
    have hk := hf_in (n := bl.length) (by omega);have : (bl.take (hf bl.length)).length < bl.length := by rw [List.length_take]; omega
    have : (bl.drop (hf bl.length)).length < bl.length := by rw [List.length_drop]; omega
    (sm (c1 ++ (rootP (bl.take (hf bl.length))).1 ++ (rootP (bl.drop (hf bl.length))).1),
      (rootP (bl.take (hf bl.length))).2 ++ (rootP (bl.drop (hf bl.length))).2 ++ [pr (c1 ++ (rootP (bl.take (hf bl.length))).1 ++ (rootP (bl.drop (hf bl.length))).1)])
termination_by bl.length
theorem rootP_0 {bl : List ByteArray} (h : bl.length = 0) : rootP bl = (sm c2, [pr c2]) := by rw [rootP, dif_pos h]
theorem rootP_1 (b : ByteArray) : rootP [b] = (sm (c0 ++ b), [pr (c0 ++ b)]) := by rw [rootP, dif_neg (by simp), dif_pos (show [b].length = 1 from rfl)]; rfl
theorem rootP_2 {bl : List ByteArray} (h : 2 ≤ bl.length) : rootP bl = (sm (c1 ++ (rootP (bl.take (hf bl.length))).1 ++ (rootP (bl.drop (hf bl.length))).1),
      (rootP (bl.take (hf bl.length))).2 ++ (rootP (bl.drop (hf bl.length))).2 ++ [pr (c1 ++ (rootP (bl.take (hf bl.length))).1 ++ (rootP (bl.drop (hf bl.length))).1)]) := by
  rw [rootP, dif_neg (by omega), dif_neg (by omega)]
theorem rootP_size (bl : List ByteArray) : (rootP bl).1.size = 32 := by
  rcases Nat.lt_or_ge bl.length 2 with h | h
  · rcases Nat.lt_or_ge bl.length 1 with h0 | h0
    · rw [rootP_0 (by omega)]; exact sm_size _
    · match bl, h, h0 with
      | [b], _, _ => rw [rootP_1]; exact sm_size _
  · rw [rootP_2 h]; exact sm_size _
def stF (i n : Nat) : Nat :=
  if h : n < 2 then 0
  else
    have hk := hf_in (n := n) (by omega)
    if i < hf n then 1 + stF i (hf n) else 1 + stF (i - hf n) (n - hf n)
termination_by n
end Go.Proofs.YtbemmnggmdadeaaGreatDoor.Mrk
end
section
namespace Go.Proofs.YtbemmnggmdadeaaGreatDoor.Man
open Go Go.RowKit Go.Lib Oct Num Gap Csr Shd
def allF (ys : List (Int × Int)) (N E : Nat) : ByteArray := Blk.catK (partsF ys N E (cutM N E))
def manF (v : Int) (N E : Nat) (ys : List (Int × Int)) : MF := ⟨v, (N : Int), (ys.length : Int), tabF (fP E) (partsF ys N E (cutM N E)) (cutM N E), (Blk.cntK (allF ys N E).size : Int), (Mrk.rootP (Blk.cutK (allF ys N E))).1⟩
theorem man_len (v : Int) (N E : Nat) (ys : List (Int × Int)) : (manF v N E ys).sh.length = cutM N E := tabF_len _ _ _
theorem man_at (v : Int) {N E i : Nat} (ys : List (Int × Int)) (h : i < cutM N E) : (manF v N E ys).sh[i]? = some (((i * E : Nat) : Int), ((partF ys N E i).size : Int)) := by
  show (tabF (fP E) (partsF ys N E (cutM N E)) (cutM N E))[i]? = _;unfold tabF;rw [List.getElem?_map, List.getElem?_range h];simp only [Option.map_some];rw [List.getD_eq_getElem?_getD, partsF_at _ _ _ _ _ h]
  rfl
theorem man_fst (v : Int) {N E i : Nat} (ys : List (Int × Int)) (h : i < cutM N E) : fst (manF v N E ys).sh i = ((i * E : Nat) : Int) := by unfold fst; rw [List.getD_eq_getElem?_getD, man_at v ys h]; rfl
theorem man_byt (v : Int) {N E i : Nat} (ys : List (Int × Int)) (h : i < cutM N E) : byt (manF v N E ys).sh i = ((partF ys N E i).size : Int) := by unfold byt; rw [List.getD_eq_getElem?_getD, man_at v ys h]; rfl
theorem man_tot (v : Int) (N E : Nat) (ys : List (Int × Int)) : ∀ k, k ≤ cutM N E → totK (manF v N E ys).sh k = ((Blk.catK ((partsF ys N E (cutM N E)).take k)).size : Int)
  | 0, _ => rfl
  | k + 1, h => by
    rw [totK, man_tot v N E ys k (by omega), man_byt v ys (by omega), ← Blk.catK_take (partsF_at ys N E (cutM N E) k (by omega)), ByteArray.size_append];omega
theorem man_all (v : Int) (N E : Nat) (ys : List (Int × Int)) : tot (manF v N E ys) = ((allF ys N E).size : Int) := by
  unfold tot;rw [man_len, man_tot v N E ys _ (Nat.le_refl _), List.take_of_length_le (by rw [partsF_len]; exact Nat.le_refl _)]
  rfl
theorem ixF_1 (f : Int) (R : Nat → List Int) : ∀ k, 1 ≤ k → 1 ≤ (ixF f R k).length
  | 0, h => by omega
  | 1, _ => by
    rw [ixF, List.length_append];have := short_pos (rwF f R 0).length;simp;omega
  | k + 2, _ => by
    rw [ixF, List.length_append];have := ixF_1 f R (k + 1) (by omega);omega
theorem part_3 (ys : List (Int × Int)) {N E i : Nat} (h : 1 ≤ min E (N - i * E)) : 3 ≤ (partF ys N E i).size := by
  have e : (partF ys N E i).size = (shF (i * E) (min E (N - i * E)) (rowsF ys (i * E))).length := by
    unfold partF;exact bs_size _
  rw [e];unfold shF;simp only [List.length_append];have h1 := short_pos (i * E);have h2 := short_pos (min E (N - i * E));have h3 := ixF_1 ((i * E : Nat) : Int) (rowsF ys (i * E)) (min E (N - i * E)) h;omega
theorem man_good {v : Int} {N E : Nat} {ys : List (Int × Int)} (hv0 : 1 ≤ v) (hv1 : v ≤ 1099511627776) (hN : N ≤ 300) (hy : ys.length ≤ 200) (hE : 1 ≤ E) (hc : cutM N E ≤ 64) : Good (manF v N E ys) := by
  have hsm := parts_small (ys := ys) (N := N) (E := E) (k := cutM N E) hN hy hc;have hall := man_all v N E ys
  have hb : blkI (manF v N E ys) = (Blk.cntK (allF ys N E).size : Int) := by
    unfold blkI Blk.cntK;rw [hall];omega
  refine ⟨hv0, hv1, by show (0 : Int) ≤ (N : Int); omega, by show (N : Int) ≤ 4096; omega, by show (0 : Int) ≤ (ys.length : Int); omega, by show (ys.length : Int) ≤ 20000; omega, by rw [man_len]; exact hc, ?_, fun j hj => ?_, fun j hj => ?_, by rw [hb]; rfl, ?_, ?_⟩
  · rw [man_len]
    constructor
    · intro h;have := cutM_end (N := N) (E := E) hE;rw [h] at this;show (N : Int) = 0;omega
    · intro h;have h0 : (N : Int) = 0 := h;have : N = 0 := by omega
      rw [this, cutM_0 hE]
  · rw [man_len] at hj;have hl := cutM_lt hE hj;unfold badF;rw [man_fst v ys hj];rintro (⟨h1, h2⟩ | ⟨h1, h2⟩)
    · subst h1;simp at h2
    · have hj1 : j - 1 < cutM N E := by omega
      rw [man_fst v ys hj1] at h2
      have e : j * E = (j - 1) * E + E := by
        have : j = (j - 1) + 1 := by omega
        conv => lhs; rw [this, Nat.succ_mul]
      have hn : (manF v N E ys).n = (N : Int) := rfl;rw [hn] at h2;omega
  · rw [man_len] at hj;have hl := cutM_lt hE hj;rw [man_byt v ys hj];have h3 := part_3 ys (N := N) (E := E) (i := j) (by omega);have h4 := part_13 ys N E j;have h5 := bgn_le ys ((j * E + min E (N - j * E) : Nat) : Int);omega
  · rw [hb];have : (allF ys N E).size ≤ 12064 := hsm;unfold Blk.cntK;omega
  · exact Mrk.rootP_size _
end Go.Proofs.YtbemmnggmdadeaaGreatDoor.Man
end
section
namespace Go.Proofs.YtbemmnggmdadeaaGreatDoor.RowG
open Go Go.RowKit Go.Lib
variable {α : Type} {R : Rw α} {e : TypeId} {B : Nat} {F : List α}
structure PreG (R : Rw α) (e : TypeId) (B : Nat) (F : List α) (u u' : World) : Prop where
  size : u.heap.size ≤ u'.heap.size
  old : ∀ b, b < B → u'.heap[b]? = u.heap[b]?
  ones : ∀ (b : Nat) (c : Array Value), c.size = R.size → u.heap[b]? = some (.cells c e (0, 0)) → u'.heap[b]? = some (.cells c e (0, 0))
  rows : ∀ (A : Option Addr) (k c : Nat), k ≤ F.length → ROwn R e u B A k c (F.take k) → ROwn R e u' B A k c (F.take k)
theorem PreG.refl (u : World) : PreG R e B F u u := ⟨Nat.le_refl _, fun _ _ => rfl, fun _ _ _ h => h, fun _ _ _ _ h => h⟩
theorem PreG.of_below {u u' : World} (h : Below u.heap.size u u') (hB : B ≤ u.heap.size) : PreG R e B F u u' :=
  ⟨h.size, fun b hb => h.block b (by omega), fun b c _ hc => (h.block b (Array.getElem?_eq_some_iff.1 hc).1).trans hc, fun _ _ _ _ hr => hr.on h⟩
def TK (R : Rw α) (e : TypeId) (B : Nat) (F : List α) (k : Nat) : Value → World → Prop := fun v u => ∃ A c, v = .slice A k c ∧ ROwn R e u B A k c (F.take k)
theorem TK.keep {k : Nat} (hk : k ≤ F.length) : ∀ v u u', PreG R e B F u u' → TK R e B F k v u → TK R e B F k v u' := fun _ _ _ hG ⟨A, c, h1, h2⟩ => ⟨A, c, h1, hG.rows A k c hk h2⟩
def TB (R : Rw α) (e : TypeId) (B : Nat) (x : α) : Value → World → Prop := fun v u => ∃ b, v = .slice (some ⟨b, 0, none⟩) 1 1 ∧ B ≤ b ∧ u.heap[b]? = some (.cells (R.enc x).toArray e (0, 0))
theorem TB.keep {x : α} : ∀ v u u', PreG R e B F u u' → TB R e B x v u → TB R e B x v u' := fun _ _ _ hG ⟨b, h1, hB, h2⟩ => ⟨b, h1, hB, hG.ones b _ (by simp [R.len]) h2⟩
theorem TB.own {u : World} {b : Nat} {x : α} (hB : B ≤ b) (h : u.heap[b]? = some (.cells (R.enc x).toArray e (0, 0))) : ROwn R e u B (some ⟨b, 0, none⟩) 1 1 [x] := by
  refine ⟨rfl, by rw [cs_len]; rfl, .inr ⟨b, 1, _, rfl, hB, h, Nat.le_refl _, by unfold maxLen; omega, by simp [R.len], ?_⟩⟩;have : (R.enc x).length = 1 * R.size := by rw [R.len, Nat.one_mul]
  simp only [cs, List.flatMap_cons, List.flatMap_nil, List.append_nil];rw [← this, List.take_length]
def T0 (R : Rw α) (e : TypeId) (B : Nat) (F : List α) : Value → World → Prop := fun v u => ∃ b, v = .slice (some ⟨b, 0, none⟩) 0 0 ∧ ROwn R e u B (some ⟨b, 0, none⟩) 0 0 (F.take 0)
theorem T0.keep : ∀ v u u', PreG R e B F u u' → T0 R e B F v u → T0 R e B F v u' := fun _ _ _ hG ⟨b, h1, h2⟩ => ⟨b, h1, hG.rows _ 0 0 (Nat.zero_le _) h2⟩
theorem TB.rin {u : World} {b : Nat} {x : α} (h : u.heap[b]? = some (.cells (R.enc x).toArray e (0, 0))) : RIn R u (some ⟨b, 0, none⟩) [x] := fun i a hi => by
  have hS : St.St u b e (R.enc x).toArray := h
  cases i with
  | zero =>
    simp at hi;subst hi;refine ⟨b, 0, rfl, hS.lt, fun j v hv => ?_⟩;rw [Nat.zero_mul, Nat.zero_add, Nat.zero_add];exact hS.cell j (by simpa using hv)
  | succ i => simp at hi
end Go.Proofs.YtbemmnggmdadeaaGreatDoor.RowG
end
section
namespace Go.Proofs.YtbemmnggmdadeaaGreatDoor.RowG
open Go Go.RowKit Go.Lib
variable {α : Type} {R : Rw α} {e : TypeId} {B : Nat} {F : List α}
def TQ (R : Rw α) (e : TypeId) (B : Nat) (F : List α) (k : Nat) : Value → World → Prop := fun v u => ∃ A c, v = .slice A k c ∧ ROwn R e u B A k c (F.take k) ∧ (0 < k ∨ c = 0)
theorem TQ.keep {k : Nat} (hk : k ≤ F.length) : ∀ v u u', PreG R e B F u u' → TQ R e B F k v u → TQ R e B F k v u' := fun _ _ _ hG ⟨A, c, h1, h2, h3⟩ => ⟨A, c, h1, hG.rows A k c hk h2, h3⟩
end Go.Proofs.YtbemmnggmdadeaaGreatDoor.RowG
namespace Go.Proofs.YtbemmnggmdadeaaGreatDoor.Shd
open Go Go.RowKit Go.Lib Oct Num Gap RowG Edg Csr
section
variable {N E : Nat} {ys : List (Int × Int)}
theorem table_all (A : Option Addr) (ca : Nat) (w : World) (hs : Srt ys) (hg : Edg.Good (N : Int) ys) (hE : 1 ≤ E) (hA : RIn txR w A (partsF ys N E (cutM N E))) :
    Calls Tryz.prog 32 #[.int .i64 (N : Int), .slice A (cutM N E) ca] w fun e w' => ∃ gt, e = .returned (.tuple #[.slice (some ⟨gt, 0, none⟩) (cutM N E) (cutM N E), .nilIface]) ∧ Hold ipR w' gt (tabF (fP E) (partsF ys N E (cutM N E)) (cutM N E)) ∧ Below w.heap.size w w' := by
  have hN : (N : Int) ≤ 4096 := hg.hi;have hc := cutM_le (N := N) hE
  have h := table_yes A ca N (cutM N E) (partsF ys N E (cutM N E)) (fP E) (lP ys N E) w (by omega) (by rw [partsF_len]; omega) hA (fun k s _ hk => by
      have hk2 : k < cutM N E := by
        have := (List.getElem?_eq_some_iff.1 hk).1
        rwa [partsF_len] at this
      rw [partsF_at _ _ _ _ _ hk2] at hk;injection hk with hk
      subst hk
      exact gs_part hs hg hE hk2) (partsF_len ys N E _).symm
  rw [partsF_len] at h;exact h.mono fun e w' ⟨gt, he, hH, _, hb⟩ => ⟨gt, he, hH, hb⟩
end
end Go.Proofs.YtbemmnggmdadeaaGreatDoor.Shd
end
