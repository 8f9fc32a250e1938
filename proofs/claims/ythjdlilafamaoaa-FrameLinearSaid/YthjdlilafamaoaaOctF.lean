/- Contracts of layer 1 (octet): numbers in n bytes. -/
import Derived.Test.YthjdlilafamaoaaOctE
import Derived.Test.YthjdlilafamaoaaOctFMath
import Derived.Deep.OwnRows
namespace Go.Proofs.Ythjdlilafamaoaa.Oct
open Go.RowKit Go.Lib

def fixB (n : Int) : Bool := decide (1 ≤ n ∧ n ≤ 7)
theorem fixB_true {n : Int} (h0 : 1 ≤ n) (h1 : n ≤ 7) : fixB n = true := decide_eq_true ⟨h0, h1⟩
theorem fixB_false {n : Int} (h : n < 1 ∨ 7 < n) : fixB n = false := decide_eq_false (by omega)

set_option maxHeartbeats 400000 in
theorem isFixed_any (n : Int) (w : World) :
    Calls Try.prog 15 #[.int .i64 n] w fun e w' => e = .returned (.bool (fixB n)) ∧ w = w' := by
  by_cases h0 : 1 ≤ n
  · by_cases h1 : n ≤ 7
    · go_enter Try.func15, Try.ntmps15
      go_wp2
      go_ret
      exact ⟨retB (fixB_true h0 h1).symm, rfl⟩
    · go_enter Try.func15, Try.ntmps15
      go_wp2
      go_ret
      exact ⟨retB (fixB_false (by omega)).symm, rfl⟩
  · go_enter Try.func15, Try.ntmps15
    go_wp2
    go_ret
    exact ⟨retB (fixB_false (by omega)).symm, rfl⟩

/-- 256 to the n. -/
def pw (n : Nat) : Nat := 256 ^ n
/-- Is a number one in n bytes? -/
def fitB (n : Nat) (x : Int) : Bool := decide (0 ≤ x ∧ x < (pw n : Int))

end Go.Proofs.Ythjdlilafamaoaa.Oct
