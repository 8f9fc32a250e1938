/- Plain mathematics of layer 5 (csr): where a node's targets begin, rows of normalised edges. It names nothing of the program. -/
import Derived.Test.YtinjecaanjeapaaDoorRef05
import Derived.Test.YtinjecaanjeapaaDoorEdgV
namespace Go.Proofs.YtinjecaanjeapaaDoor.Csr
open Edg Num

/-- What holds of the first ones only, holds just of the first so many. -/
theorem cnt_at {α : Type} (p : α → Bool) : ∀ (l : List α), l.Pairwise (fun a b => p b = true → p a = true) → ∀ i (h : i < l.length), p l[i] = decide (i < l.countP p)
  | [], _, i, h => by simp at h
  | a :: l, hp, i, h => by
    obtain ⟨h1, h2⟩ := List.pairwise_cons.1 hp
    by_cases ha : p a = true
    · rw [List.countP_cons, if_pos ha]
      cases i with
      | zero => simp [ha]
      | succ i =>
        have := cnt_at p l h2 i (by simpa using h)
        rw [List.getElem_cons_succ, this]
        simp
    · have h0 : (a :: l).countP p = 0 := by
        rw [List.countP_eq_zero]
        intro b hb
        rcases List.mem_cons.1 hb with rfl | hb
        · exact ha
        · exact fun hpb => ha (h1 b hb hpb)
      rw [h0]
      have : ¬ p ((a :: l)[i]) = true := by
        have hm : (a :: l)[i] ∈ a :: l := List.getElem_mem h
        exact (List.countP_eq_zero.1 h0) _ hm
      simp only [Bool.not_eq_true] at this
      rw [this]
      simp
theorem bgn_at {ys : List (Int × Int)} (hs : Srt ys) (v : Int) (i : Nat) (h : i < ys.length) : (ed ys i).1 < v ↔ i < bgn ys v := by
  have := cnt_at (fun e : Int × Int => decide (e.1 < v)) ys (List.Pairwise.imp (fun {a b} hl hb => by
    rw [less_iff] at hl
    simp only [decide_eq_true_eq] at hb ⊢
    omega) hs) i h
  rw [ed_at ys i h]
  simp only [decide_eq_decide] at this
  exact this
theorem bgn_next (ys : List (Int × Int)) (v : Int) : bgn ys (v + 1) = bgn ys v + (trg ys v).length := by
  unfold bgn trg
  rw [List.length_map, ← List.countP_eq_length_filter]
  induction ys with
  | nil => rfl
  | cons e ys ih =>
    rw [List.countP_cons, List.countP_cons, List.countP_cons, ih]
    have : (if decide (e.1 < v + 1) = true then 1 else 0) = (if decide (e.1 < v) = true then 1 else 0) + (if (e.1 == v) = true then 1 else 0) := by
      simp only [decide_eq_true_eq, beq_iff_eq]
      by_cases h1 : e.1 = v
      · rw [if_pos (by omega), if_neg (by omega), if_pos h1]
      · rw [if_neg h1, Nat.add_zero]
        by_cases h2 : e.1 < v
        · rw [if_pos h2, if_pos (by omega)]
        · rw [if_neg h2, if_neg (by omega)]
    omega
theorem bgn_mono (ys : List (Int × Int)) (v : Int) : bgn ys v ≤ bgn ys (v + 1) := by rw [bgn_next]; omega
theorem good_at {N : Int} {ys : List (Int × Int)} (h : Edg.Good N ys) (i : Nat) (hi : i < ys.length) : (0 ≤ (ed ys i).1 ∧ (ed ys i).1 < N) ∧ 0 ≤ (ed ys i).2 ∧ (ed ys i).2 < N := by
  have := (badB_iff _ _).1 (h.all _ (List.getElem_mem hi))
  rw [ed_at ys i hi]
  exact this
theorem bgn_0 {N : Int} {ys : List (Int × Int)} (h : Edg.Good N ys) : bgn ys 0 = 0 := by
  unfold bgn
  rw [List.countP_eq_zero]
  intro e he
  have := ((badB_iff _ _).1 (h.all e he)).1.1
  simp only [decide_eq_true_eq]
  omega
theorem bgn_N {N : Int} {ys : List (Int × Int)} (h : Edg.Good N ys) : bgn ys N = ys.length := by
  unfold bgn
  rw [List.countP_eq_length]
  intro e he
  have := ((badB_iff _ _).1 (h.all e he)).1.2
  simp only [decide_eq_true_eq]
  omega
/-- All targets. -/
def tgs (ys : List (Int × Int)) : List Int := ys.map (·.2)
theorem tgs_len (ys : List (Int × Int)) : (tgs ys).length = ys.length := by simp [tgs]
theorem tgs_at (ys : List (Int × Int)) (i : Nat) (h : i < ys.length) : nt (tgs ys) i = (ed ys i).2 := by
  rw [nt_at _ _ (by rw [tgs_len]; exact h), ed_at _ _ h]; simp [tgs]
/-- All beginnings. -/
def bgs (ys : List (Int × Int)) (N : Nat) : List Int := (List.range N).map fun (v : Nat) => (bgn ys (v : Int) : Int)
theorem bgs_len (ys : List (Int × Int)) (N : Nat) : (bgs ys N).length = N := by simp [bgs]
theorem bgs_at (ys : List (Int × Int)) (N i : Nat) (h : i < N) : nt (bgs ys N) i = (bgn ys (i : Int) : Int) := by
  rw [nt_at _ _ (by rw [bgs_len]; exact h)]; simp [bgs]
/-- A node's edges stand one behind the other. -/
theorem trg_mid {ys : List (Int × Int)} (hs : Srt ys) (v : Int) : trg ys v = ((tgs ys).drop (bgn ys v)).take (trg ys v).length := by
  have h1 : ∀ i (h : i < ys.length), i < bgn ys v → ys[i].1 < v := fun i h hi => by have := (bgn_at hs v i h).2 hi; rwa [ed_at _ _ h] at this
  have h2 : ∀ i (h : i < ys.length), bgn ys v ≤ i → ¬ ys[i].1 < v := fun i h hi hn => by
    have := (bgn_at hs v i h).1 (by rw [ed_at _ _ h]; exact hn)
    omega
  have h3 : ∀ i (h : i < ys.length), i < bgn ys (v + 1) → ys[i].1 < v + 1 := fun i h hi => by have := (bgn_at hs (v + 1) i h).2 hi; rwa [ed_at _ _ h] at this
  have h4 : ∀ i (h : i < ys.length), bgn ys (v + 1) ≤ i → ¬ ys[i].1 < v + 1 := fun i h hi hn => by
    have := (bgn_at hs (v + 1) i h).1 (by rw [ed_at _ _ h]; exact hn)
    omega
  have hn := bgn_next ys v
  have hle := bgn_le ys (v + 1)
  have ha : (ys.take (bgn ys v)).filter (fun e => e.1 == v) = [] := by
    rw [List.filter_eq_nil_iff]
    intro e he
    obtain ⟨i, hi, rfl⟩ := List.mem_take_iff_getElem.1 he
    have := h1 i (by omega) (by omega)
    simp only [beq_iff_eq]
    omega
  have hm : ((ys.drop (bgn ys v)).take (trg ys v).length).filter (fun e => e.1 == v) = (ys.drop (bgn ys v)).take (trg ys v).length := by
    rw [List.filter_eq_self]
    intro e he
    obtain ⟨i, hi, rfl⟩ := List.mem_take_iff_getElem.1 he
    rw [List.length_drop] at hi
    rw [List.getElem_drop]
    have a := h2 (bgn ys v + i) (by omega) (by omega)
    have b := h3 (bgn ys v + i) (by omega) (by omega)
    simp only [beq_iff_eq]
    omega
  have hz : (ys.drop (bgn ys (v + 1))).filter (fun e => e.1 == v) = [] := by
    rw [List.filter_eq_nil_iff]
    intro e he
    obtain ⟨i, hi, rfl⟩ := List.mem_drop_iff_getElem.1 he
    have := h4 (bgn ys (v + 1) + i) (by omega) (by omega)
    simp only [beq_iff_eq]
    omega
  have hsplit : ys = ys.take (bgn ys v) ++ ((ys.drop (bgn ys v)).take (trg ys v).length ++ ys.drop (bgn ys (v + 1))) := by
    conv => lhs; rw [← List.take_append_drop (bgn ys v) ys, ← List.take_append_drop (trg ys v).length (ys.drop (bgn ys v)), List.drop_drop, ← hn]
  have hf : ys.filter (fun e => e.1 == v) = (ys.drop (bgn ys v)).take (trg ys v).length := by
    conv => lhs; rw [hsplit, List.filter_append, List.filter_append, ha, hm, hz]
    simp
  conv => lhs; unfold trg
  rw [hf]
  unfold tgs
  rw [← List.map_drop, ← List.map_take]
theorem trg_at {ys : List (Int × Int)} (hs : Srt ys) (v : Int) (i : Nat) (h : i < (trg ys v).length) : nt (trg ys v) i = nt (tgs ys) (bgn ys v + i) := by
  have hn := bgn_next ys v
  have hle := bgn_le ys (v + 1)
  have hl : bgn ys v + i < (tgs ys).length := by rw [tgs_len]; omega
  rw [nt_at _ _ h, nt_at _ _ hl]
  have := trg_mid hs v
  have e : (trg ys v)[i]? = (((tgs ys).drop (bgn ys v)).take (trg ys v).length)[i]? := by rw [← this]
  rw [List.getElem?_eq_getElem h, List.getElem?_take_of_lt h, List.getElem?_drop, List.getElem?_eq_getElem hl] at e
  exact Option.some.inj e
/-- A node's targets rise. -/
theorem trg_up {ys : List (Int × Int)} (hs : Srt ys) (v : Int) : (trg ys v).Pairwise (· < ·) := by
  unfold trg
  rw [List.pairwise_map, List.pairwise_filter]
  refine List.Pairwise.imp (fun {a b} hl ha hb => ?_) hs
  rw [less_iff] at hl
  simp only [beq_iff_eq] at ha hb
  omega
theorem trg_mem (ys : List (Int × Int)) (v t : Int) : t ∈ trg ys v ↔ (v, t) ∈ ys := by
  unfold trg
  rw [List.mem_map]
  constructor
  · rintro ⟨e, he, rfl⟩
    obtain ⟨h1, h2⟩ := List.mem_filter.1 he
    simp only [beq_iff_eq] at h2
    rw [← h2]
    exact h1
  · intro h
    exact ⟨(v, t), List.mem_filter.2 ⟨h, by simp⟩, rfl⟩
/-- The edge that stands there. -/
theorem ed_row {ys : List (Int × Int)} (hs : Srt ys) (v : Int) (i : Nat) (h : i < (trg ys v).length) : ed ys (bgn ys v + i) = (v, nt (trg ys v) i) := by
  have hn := bgn_next ys v
  have hle := bgn_le ys (v + 1)
  have hl : bgn ys v + i < ys.length := by omega
  rw [trg_at hs v i h, tgs_at ys _ hl]
  have a : ¬ (ed ys (bgn ys v + i)).1 < v := fun hc => by have := (bgn_at hs v _ hl).1 hc; omega
  have b := (bgn_at hs (v + 1) _ hl).2 (by omega)
  exact Prod.ext (by show (ed ys (bgn ys v + i)).1 = v; omega) rfl
/-- Graphs with the same rows are one. -/
theorem rows_eq {N : Nat} {ys zs : List (Int × Int)} (h1 : Srt ys) (h2 : Srt zs) (g1 : Edg.Good (N : Int) ys) (g2 : Edg.Good (N : Int) zs) (hb : bgs ys N = bgs zs N) (ht : tgs ys = tgs zs) : ys = zs := by
  have hl : ys.length = zs.length := by rw [← tgs_len ys, ← tgs_len zs, ht]
  have hv : ∀ v : Nat, v ≤ N → bgn ys (v : Int) = bgn zs (v : Int) := fun v hv => by
    rcases Nat.lt_or_ge v N with h | h
    · have a := bgs_at ys N v h
      have b := bgs_at zs N v h
      rw [hb, b] at a
      omega
    · obtain rfl : v = N := by omega
      rw [bgn_N g1, bgn_N g2, hl]
  refine eds_eq hl fun i hi => ?_
  have hi2 : i < zs.length := by omega
  have e2 : (ed ys i).2 = (ed zs i).2 := by rw [← tgs_at ys i hi, ht, tgs_at zs i hi2]
  refine Prod.ext ?_ e2
  obtain ⟨⟨a0, aN⟩, -⟩ := good_at g1 i hi
  obtain ⟨⟨b0, bN⟩, -⟩ := good_at g2 i hi2
  obtain ⟨p, hp⟩ := Int.eq_ofNat_of_zero_le a0
  obtain ⟨q, hq⟩ := Int.eq_ofNat_of_zero_le b0
  have k1 := bgn_at h1 (p : Int) i hi
  have k2 := bgn_at h2 (p : Int) i hi2
  have k3 := bgn_at h1 (q : Int) i hi
  have k4 := bgn_at h2 (q : Int) i hi2
  have k5 := hv p (by omega)
  have k6 := hv q (by omega)
  rw [hp] at k1 k3 ⊢
  rw [hq] at k2 k4 ⊢
  omega
end Go.Proofs.YtinjecaanjeapaaDoor.Csr
