/- Edges appended to a row of the call's own, whatever the source: nil and empty ones, too. -/
import Derived.Test.YtinjecaanjeapaaEdgeKit
import Derived.Deep.Upon
namespace Go.Proofs.Ytinjecaanjeapaa.Edg
open Go Go.RowKit Go.Lib

theorem OwnE.cap {w : World} {B n cap : Nat} {A : Option Addr} {l : List (Int × Int)} (h : OwnE w B A n cap l) : n ≤ cap := by
  rcases h.2.2 with ⟨hv, _⟩ | ⟨g', cap', cur, hv, hB, hg, hle, _⟩
  · simp only [Value.slice.injEq] at hv
    obtain ⟨_, rfl, rfl⟩ := hv
    exact Nat.le_refl _
  · simp only [Value.slice.injEq] at hv
    obtain ⟨_, _, rfl⟩ := hv
    exact hle
theorem pushAny (w0 v : World) (ty : TypeId) (A : Option Addr) (n cap : Nat) (l : List (Int × Int)) (A2 : Option Addr) (c2 : Nat) (src : List (Int × Int)) (hO : OwnE v w0.heap.size A n cap l) (hS : EIn v A2 src) (hb : Below w0.heap.size w0 v) (hn : n + src.length ≤ 100000) :
    ∃ A' cap' v', (Builtin.append_ #[22, 22] ty #[.slice A n cap, .slice A2 src.length c2]).run Try.prog v = .ok (.slice A' (l ++ src).length cap') v' ∧
      OwnE v' w0.heap.size A' (l ++ src).length cap' (l ++ src) ∧ Below w0.heap.size w0 v' := by
  have hl := hO.1
  rcases Nat.eq_zero_or_pos src.length with h0 | h0
  · obtain rfl : src = [] := List.eq_nil_of_length_eq_zero h0
    obtain ⟨i, hi, _, hz1, _⟩ := elemE.parts
    refine ⟨A, cap, v, ?_, ?_, hb⟩
    · rw [List.append_nil, ← hl]
      refine run_append_nothing v _ _ ty _ i Try.underlying22 hi A n cap hO.cap _ ?_
      cases A2 with
      | none => exact Src.ofNil v Try.underlying22 c2
      | some a => exact Src.ofSlice v Try.underlying22 a 0 c2 [] (by simp) (by intro j u hj; simp at hj) (by intro u hu; cases hu)
    · rw [List.append_nil, ← hl]; exact hO
  · obtain ⟨b, o, rfl, _⟩ := hS 0 h0
    obtain ⟨g', cap', v', h1, h2, h3, _⟩ := pushM w0 v ty A n cap src.length c2 b o l src hO hS rfl (by omega) hb hn
    have e : n + src.length = (l ++ src).length := by rw [List.length_append, hl]
    rw [e] at h1 h2
    exact ⟨_, cap', v', h1, h2, h3⟩
/-- Two edges are appended. -/
theorem push2 (w0 v : World) (ty : TypeId) (A : Option Addr) (n cap : Nat) (l : List (Int × Int)) (e f : Int × Int) (hO : OwnE v w0.heap.size A n cap l) (hb : Below w0.heap.size w0 v) (hn : n ≤ 90000) :
    ∃ g' cap' v', (Builtin.append_ #[22, 22] ty #[.slice A n cap, .slice (some ⟨v.heap.size, 0, none⟩) 2 2]).run Try.prog (v.alloc (.cells #[.int .i64 e.1, .int .i64 e.2, .int .i64 f.1, .int .i64 f.2] 32)) = .ok (.slice (some ⟨g', 0, none⟩) (n + 2) cap') v' ∧
      OwnE v' w0.heap.size (some ⟨g', 0, none⟩) (n + 2) cap' (l ++ [e, f]) ∧ Below w0.heap.size w0 v' ∧ Own.Kept (v.alloc (.cells #[.int .i64 e.1, .int .i64 e.2, .int .i64 f.1, .int .i64 f.2] 32)) v' (Value.slice A n cap).ownBlock g' := by
  obtain ⟨g', cap', v', h1, h2, h3, h4⟩ := Own.append elemE w0 (v.alloc (.cells #[.int .i64 e.1, .int .i64 e.2, .int .i64 f.1, .int .i64 f.2] 32)) ty A n cap 2 2 (eC l) (hO.2.alloc _) ⟨v.heap.size, 0, none⟩ [.int .i64 e.1, .int .i64 e.2, .int .i64 f.1, .int .i64 f.2] rfl (World.news_of_block (cs := #[.int .i64 e.1, .int .i64 e.2, .int .i64 f.1, .int .i64 f.2]) (heap_alloc_new v _)) (by simp [Value.oneCell']) (by omega) (by unfold maxLen; omega) (by omega) (hb.alloc hb.size _)
  exact ⟨g', cap', v', h1, ⟨by rw [List.length_append, ← hO.1]; rfl, by rw [eC_app]; exact h2⟩, h3, h4⟩
end Go.Proofs.Ytinjecaanjeapaa.Edg
