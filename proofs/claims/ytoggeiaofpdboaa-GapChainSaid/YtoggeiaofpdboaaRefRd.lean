/- The document's ReadShort of layer 1 (octet) (written by gen_ref06r.py). -/
import Derived.Test.YtoggeiaofpdboaaStKit
import Derived.Test.YtoggeiaofpdboaaShMath
import Derived.IntWalk
namespace Go.Proofs.Ytoggeiaofpdboaa.Oct
open Go Go.RowKit Go.Lib

theorem split_hs (s : ByteArray) (q n : Nat) (hq : q ≤ n) (hn : n ≤ s.size) (H : ∀ j (h : j < s.size), q ≤ j → j < n → 128 ≤ s[j].toNat) :
    ∃ hs, s.data.toList.drop q = hs ++ s.data.toList.drop n ∧ hs.length = n - q ∧ (∀ b ∈ hs, 128 ≤ b.toNat) ∧ ∀ j (h : j < hs.length) (h2 : q + j < s.size), hs[j] = s[q + j] := by
  have hl : s.data.toList.length = s.size := rfl
  refine ⟨(s.data.toList.drop q).take (n - q), ?_, ?_, ?_, ?_⟩
  · conv => lhs; rw [← List.take_append_drop (n - q) (s.data.toList.drop q)]
    rw [List.drop_drop, show q + (n - q) = n by omega]
  · rw [List.length_take, List.length_drop, hl]; omega
  · intro b hb
    obtain ⟨j, hj, rfl⟩ := List.getElem_of_mem hb
    rw [List.length_take, List.length_drop, hl] at hj
    rw [List.getElem_take, List.getElem_drop]
    exact H (q + j) (by omega) (by omega) (by omega)
  · intro j h h2
    rw [List.getElem_take, List.getElem_drop]
    rfl
theorem drop_here (s : ByteArray) (n : Nat) (h : n < s.size) : s.data.toList.drop n = s[n] :: s.data.toList.drop (n + 1) := List.drop_eq_getElem_cons (show n < s.data.toList.length from h)
/-- What is told of a short number at a place. -/
def gotS (s : ByteArray) (q : Nat) : Array Value :=
  if (rd (s.data.toList.drop q)).2.2 = 0 then #[.int .i64 ((rd (s.data.toList.drop q)).1 : Int), .int .i64 ((q : Int) + ((rd (s.data.toList.drop q)).2.1 : Int)), .int .i64 0, .int .i64 0]
  else if (rd (s.data.toList.drop q)).2.2 = 3 then #[.int .i64 0, .int .i64 (q : Int), .int .i64 3, .int .i64 (s.size : Int)] else #[.int .i64 0, .int .i64 (q : Int), .int .i64 4, .int .i64 (q : Int)]
theorem got_3 {s : ByteArray} {q : Nat} (h : rd (s.data.toList.drop q) = (0, 0, 3)) : gotS s q = #[.int .i64 0, .int .i64 (q : Int), .int .i64 3, .int .i64 (s.size : Int)] := by unfold gotS; rw [h]; rfl
theorem got_4 {s : ByteArray} {q : Nat} (h : rd (s.data.toList.drop q) = (0, 0, 4)) : gotS s q = #[.int .i64 0, .int .i64 (q : Int), .int .i64 4, .int .i64 (q : Int)] := by unfold gotS; rw [h]; rfl
theorem got_0 {s : ByteArray} {q x c : Nat} (h : rd (s.data.toList.drop q) = (x, c, 0)) : gotS s q = #[.int .i64 (x : Int), .int .i64 ((q : Int) + (c : Int)), .int .i64 0, .int .i64 0] := by unfold gotS; rw [h]; rfl

end Go.Proofs.Ytoggeiaofpdboaa.Oct
