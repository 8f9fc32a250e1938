/- What the program's gap reads, and what stands there; the first part of a text. -/
import Derived.Test.YtoggeiaofpdboaaDoorGapC
namespace Go.Proofs.YtoggeiaofpdboaaDoor.Gap
open Go Go.RowKit Go.Lib Oct Num OwX

theorem cut_h {P : Program} (w : World) (t : TypeId) (s : ByteArray) (ht : P.underlying t = some .string) (kh : IntKind) (h : Nat) (h2 : h ≤ s.size) :
    (Instr.sliceAt t (.string s) none (some (.int kh (h : Int))) none).run P w = .ok (.string (s.extract 0 h)) w := by
  rw [run_sliceAt_string _ _ _ _ _ _ ht]
  simp [Instr.slice, run_underlying ht, Instr.sliceBounds, run_sliceBound, sliced, h2]
theorem extract_bs (s : ByteArray) (h : Nat) : s.extract 0 h = bs (s.data.toList.take h) := by
  apply ByteArray.ext
  apply Array.ext'
  simp [bs]
/-- What is got stands there, and may be a row's. -/
theorem got_is {s : ByteArray} {N v nx : Int} {l : List Int} {p : Nat} (hN : N ≤ 4096) (hv0 : 0 ≤ v) (hv1 : v < N) (h : gtC s (p : Int) N v = .inr (l, nx)) :
    GoodT N l ∧ nx = ((p + (putF v l l.length).length : Nat) : Int) ∧ nx ≤ s.size ∧ s.data.toList.drop p = putF v l l.length ++ s.data.toList.drop (p + (putF v l l.length).length) := by
  unfold gtC at h
  rcases hc : cnt s (p : Int) N with ⟨x, n2, e, a⟩
  rw [hc] at h
  simp only at h
  by_cases he : e = 0
  · subst he
    rw [if_pos rfl] at h
    obtain ⟨hr, hxN⟩ := cntC_ok hc
    obtain ⟨⟨hx0, hx1⟩, -, hpn, hns, -, hz, hxe, hne⟩ := rdG_ok hr
    rw [Int.toNat_natCast] at hz hxe hne
    obtain ⟨g1, g2, g3, g4, g5⟩ := short_of_rd _ hz
    obtain ⟨q, hq⟩ : ∃ q : Nat, n2 = (q : Int) := ⟨n2.toNat, by omega⟩
    rw [hq] at h
    obtain ⟨i1, i2, i3, i4, i5⟩ := gtF_is hN x.toNat true v q l nx hv0 hv1 (by omega) h
    have hxn : x.toNat = (rd (s.data.toList.drop p)).1 := by omega
    have hlen : (short l.length).length = (rd (s.data.toList.drop p)).2.1 := by
      have := congrArg List.length g1
      rw [List.length_take] at this
      rw [i1, hxn]
      omega
    have hqp : q = p + (short l.length).length := by rw [hlen]; omega
    have hd : s.data.toList.drop p = short l.length ++ s.data.toList.drop q := by
      rw [hqp, ← List.drop_drop, hlen, i1, hxn, g1, List.take_append_drop]
    refine ⟨i2.good, ?_, i4, ?_⟩
    · rw [putF_all, List.length_append, i3, hqp, Nat.add_assoc]
    · rw [putF_all, List.length_append, List.append_assoc, ← Nat.add_assoc, ← hqp, ← i5]
      exact hd
  · rw [if_neg he] at h; cases h
/-- A row that stands at a place is got, gone over and counted. -/
theorem row_got {s : ByteArray} {N v : Int} {l : List Int} {p : Nat} {t : List UInt8} (hN : N ≤ 4096) (hv0 : 0 ≤ v) (hv1 : v < N) (hg : GoodT N l) (hp : p ≤ s.size) (h : s.data.toList.drop p = putF v l l.length ++ t) :
    gtC s (p : Int) N v = .inr (l, ((p + (putF v l l.length).length : Nat) : Int)) ∧ skC s (p : Int) N = (((p + (putF v l l.length).length : Nat) : Int), 0, 0) ∧ (cnt s (p : Int) N).1 = (l.length : Int) ∧ (cnt s (p : Int) N).2.2.1 = 0 := by
  obtain ⟨h1, h2, h3⟩ := row_at hN hv0 hv1 hg hp h
  refine ⟨?_, ?_, by rw [h1], by rw [h1]⟩
  · unfold gtC; rw [h1]; simp only [if_true, Int.toNat_natCast]; exact h2
  · unfold skC; rw [h1]; simp only [if_true, Int.toNat_natCast]; exact h3
end Go.Proofs.YtoggeiaofpdboaaDoor.Gap
