/- Loop 6 of the document's digest: its numbers, ahead of the walk. -/
import Derived.Test.YteciidnjikcimaaDoorRefF
namespace Go.Proofs.YteciidnjikcimaaDoor.Sha
open Go.RowKit Go.Lib

theorem s0_int (x : Nat) (b : x < 4294967296) : bits .xor .i64 (bits .xor .i64 ((rotr x 7 : Nat) : Int) ((rotr x 18 : Nat) : Int)) ((x / 8 : Nat) : Int) = ((sg0 x : Nat) : Int) ∧ sg0 x < 4294967296 := by
  have r1 := rotr_lt x 7 (by decide) b
  have r2 := rotr_lt x 18 (by decide) b
  have r3 : x / 8 < 4294967296 := Nat.lt_of_le_of_lt (Nat.div_le_self _ _) b
  refine ⟨?_, xor_lt _ _ (xor_lt _ _ r1 r2) r3⟩
  rw [i64_xor_nat _ _ r1 r2, i64_xor_nat _ _ (xor_lt _ _ r1 r2) r3]; rfl
theorem s1_int (x : Nat) (b : x < 4294967296) : bits .xor .i64 (bits .xor .i64 ((rotr x 17 : Nat) : Int) ((rotr x 19 : Nat) : Int)) ((x / 1024 : Nat) : Int) = ((sg1 x : Nat) : Int) ∧ sg1 x < 4294967296 := by
  have r1 := rotr_lt x 17 (by decide) b
  have r2 := rotr_lt x 19 (by decide) b
  have r3 : x / 1024 < 4294967296 := Nat.lt_of_le_of_lt (Nat.div_le_self _ _) b
  refine ⟨?_, xor_lt _ _ (xor_lt _ _ r1 r2) r3⟩
  rw [i64_xor_nat _ _ r1 r2, i64_xor_nat _ _ (xor_lt _ _ r1 r2) r3]; rfl
theorem sum4_int (a b c d : Nat) : ((a : Int) + (b : Int) + (c : Int) + (d : Int)).tmod 4294967296 = (((a + b + c + d) % 4294967296 : Nat) : Int) := by
  rw [Int.tmod_eq_emod_of_nonneg (by omega)]
  omega
theorem next_eq (W : List Nat) (a : Nat) : nextW W (a + 16) = (wd W a + sg0 (wd W (a + 1)) + wd W (a + 9) + sg1 (wd W (a + 14))) % 4294967296 := by
  have h : nextW W (a + 16) = (sg1 (wd W (a + 14)) + wd W (a + 9) + sg0 (wd W (a + 1)) + wd W a) % 4294967296 := rfl
  rw [h]
  congr 1
  omega

end Go.Proofs.YteciidnjikcimaaDoor.Sha
