/- The document's digest: what stands between its loops. -/
import Derived.Test.YteciidnjikcimaaDoorSumK
namespace Go.Proofs.YteciidnjikcimaaDoor.Sha
open Go.RowKit Go.Lib

/-- The words, the state, the bytes: three rows of the call's own, apart. -/
structure Ws (w0 v : World) (gw capw : Nat) (lw : List Nat) (gh caph : Nat) (Hm : List Nat) (g2 cap2 : Nat) (PL : List Nat) : Prop where
  ow : OwnI v w0.heap.size gw capw lw
  oh : OwnI v w0.heap.size gh caph Hm
  ob : OwnI v w0.heap.size g2 cap2 PL
  old : Below w0.heap.size w0 v
  n1 : gw ≠ g2
  n2 : gw ≠ gh
  n3 : gh ≠ g2
section
variable {w0 v v' : World} {gw capw gh caph g2 cap2 g' cap' x : Nat} {lw Hm PL : List Nat}
theorem Ws.drew (h : Ws w0 v gw capw lw gh caph Hm g2 cap2 PL) : Ws w0 v.drew gw capw lw gh caph Hm g2 cap2 PL := ⟨h.ow.drew, h.oh.drew, h.ob.drew, below_drew h.old, h.n1, h.n2, h.n3⟩
theorem Ws.drewN (h : Ws w0 v gw capw lw gh caph Hm g2 cap2 PL) (n : Nat) : Ws w0 (v.drewN n) gw capw lw gh caph Hm g2 cap2 PL := ⟨h.ow.drewN n, h.oh.drewN n, h.ob.drewN n, below_drewN h.old n, h.n1, h.n2, h.n3⟩
theorem Ws.alloc (h : Ws w0 v gw capw lw gh caph Hm g2 cap2 PL) (o : Obj) : Ws w0 (v.alloc o) gw capw lw gh caph Hm g2 cap2 PL := ⟨h.ow.alloc o, h.oh.alloc o, h.ob.alloc o, h.old.alloc h.old.size o, h.n1, h.n2, h.n3⟩
theorem Ws.push (h : Ws w0 v gw capw lw gh caph Hm g2 cap2 PL) (ho : OwnI v' w0.heap.size g' cap' (lw ++ [x])) (hb : Below w0.heap.size w0 v') (hk : Kept v v' gw g') : Ws w0 v' g' cap' (lw ++ [x]) gh caph Hm g2 cap2 PL := by
  have h1 := h.oh.lt'
  have h2 := h.ob.lt'
  refine ⟨ho, hk.own (Ne.symm h.n2) h.oh, hk.own (Ne.symm h.n1) h.ob, hb, ?_, ?_, h.n3⟩
  · rcases hk.at' with e | e
    · rw [e]; exact h.n1
    · omega
  · rcases hk.at' with e | e
    · rw [e]; exact h.n2
    · omega
end

theorem turn_l (x : Nat) (i : Int) (n y : Nat) (w : World) (hx : x < 4294967296) (hi : i = (n : Int)) (hn : n < 32) (hy : rotr x n = y) :
    Calls Tryd.prog 25 #[.int .i64 (x : Int), .int .i64 i] w fun e w' => e = .returned (.int .i64 (y : Int)) ∧ ∃ q, w' = w.drewN q :=
  (turn_int x i w hx (by omega) (by omega)).mono fun _ _ ⟨h1, h2⟩ => ⟨by rw [h1, ← hy, hi]; rfl, h2⟩
theorem xor_l (a b c : Nat) (ha : a < 4294967296) (hb : b < 4294967296) (h : a ^^^ b = c) : bits .xor .i64 (a : Int) (b : Int) = (c : Int) := by rw [i64_xor_nat a b ha hb, h]
theorem and_l (a b c : Nat) (ha : a < 4294967296) (hb : b < 4294967296) (h : a &&& b = c) : bits .and .i64 (a : Int) (b : Int) = (c : Int) := by rw [i64_and_nat a b ha hb, h]
theorem xorN (a b : Nat) (ha : a < 4294967296) (hb : b < 4294967296) : ∃ c, a ^^^ b = c ∧ c < 4294967296 ∧ bits .xor .i64 (a : Int) (b : Int) = (c : Int) := ⟨_, rfl, xor_lt _ _ ha hb, i64_xor_nat a b ha hb⟩
theorem andN (a b : Nat) (ha : a < 4294967296) (hb : b < 4294967296) : ∃ c, a &&& b = c ∧ c < 4294967296 ∧ bits .and .i64 (a : Int) (b : Int) = (c : Int) := ⟨_, rfl, Nat.lt_of_le_of_lt Nat.and_le_left ha, i64_and_nat a b ha hb⟩
theorem rotN (x n : Nat) (hn : n < 32) (hx : x < 4294967296) : ∃ y, rotr x n = y ∧ y < 4294967296 := ⟨_, rfl, rotr_lt x n (by omega) hx⟩
end Go.Proofs.YteciidnjikcimaaDoor.Sha
