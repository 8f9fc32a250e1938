/- Contracts of layer 1 (octet): the small functions. -/
import Derived.Test.YtoggeiaofpdboaaChecked
import Derived.Test.YtoggeiaofpdboaaOctMath
import Derived.WalkKit
import Derived.WalkSpells
import Derived.WalkLawsBesides
import Derived.Lib.Hide
namespace Go.Proofs.Ytoggeiaofpdboaa.Oct
open Go.RowKit

theorem retB {a b : Bool} (h : a = b) : Ending.returned (.bool a) = .returned (.bool b) := by rw [h]
theorem retI {k : IntKind} {a b : Int} (h : a = b) : Ending.returned (.int k a) = .returned (.int k b) := by rw [h]

/-- Is a number a place in n bytes? -/
def placeB (n : Nat) (a : Int) : Bool := decide (0 ≤ a ∧ a ≤ n)
/-- Is a number one that may be turned? -/
def turnB (x : Int) : Bool := decide (-36028797018963968 ≤ x ∧ x < 36028797018963968)
theorem placeB_true {n : Nat} {a : Int} (h0 : 0 ≤ a) (h1 : a ≤ n) : placeB n a = true := decide_eq_true ⟨h0, h1⟩
theorem placeB_false {n : Nat} {a : Int} (h : a < 0 ∨ n < a) : placeB n a = false := decide_eq_false (by omega)
theorem turnB_true {x : Int} (h0 : -36028797018963968 ≤ x) (h1 : x < 36028797018963968) : turnB x = true := decide_eq_true ⟨h0, h1⟩
theorem turnB_false {x : Int} (h : x < -36028797018963968 ∨ 36028797018963968 ≤ x) : turnB x = false := decide_eq_false (by omega)

/-- An error of a number, at a place. -/
def faultV (p : Int) (c : Int) : Value := .iface 52 (.agg #[.int .i64 p, .iface 46 (.int .i64 c)])

set_option maxHeartbeats 400000 in
theorem isPlace_any (s : ByteArray) (at_ : Int) (w : World) (_hs : s.size ≤ maxLen) :
    Calls Try.prog 23 #[.string s, .int .i64 at_] w fun e w' => e = .returned (.bool (placeB s.size at_)) ∧ w = w' := by
  unfold maxLen at _hs
  by_cases h0 : 0 ≤ at_
  · by_cases h1 : at_ ≤ s.size
    · go_enter Try.func23, Try.ntmps23
      go_wp2
      go_ret
      exact ⟨retB (by first | exact (placeB_true h0 h1).symm | exact (turnB_true h0 h1).symm | exact (placeB_false (by omega)).symm | exact (turnB_false (by omega)).symm), rfl⟩
    · go_enter Try.func23, Try.ntmps23
      go_wp2
      go_ret
      exact ⟨retB (by first | exact (placeB_true h0 h1).symm | exact (turnB_true h0 h1).symm | exact (placeB_false (by omega)).symm | exact (turnB_false (by omega)).symm), rfl⟩
  · go_enter Try.func23, Try.ntmps23
    go_wp2
    go_ret
    exact ⟨retB (by first | exact (placeB_false (by omega)).symm | exact (turnB_false (by omega)).symm), rfl⟩

set_option maxHeartbeats 400000 in
theorem fault_any (p c : Int) (w : World) :
    Calls Try.prog 24 #[.int .i64 p, .int .i64 c] w fun e w' => e = .returned (faultV p c) ∧ w = w' := by
  go_enter Try.func24, Try.ntmps24
  go_wp2
  go_ret
  exact ⟨rfl, rfl⟩

set_option maxHeartbeats 400000 in
theorem turns_any (x : Int) (w : World) :
    Calls Try.prog 26 #[.int .i64 x] w fun e w' => e = .returned (.bool (turnB x)) ∧ w = w' := by
  by_cases h0 : -36028797018963968 ≤ x
  · by_cases h1 : x < 36028797018963968
    · go_enter Try.func26, Try.ntmps26
      go_wp2
      go_ret
      exact ⟨retB (by first | exact (placeB_true h0 h1).symm | exact (turnB_true h0 h1).symm | exact (placeB_false (by omega)).symm | exact (turnB_false (by omega)).symm), rfl⟩
    · go_enter Try.func26, Try.ntmps26
      go_wp2
      go_ret
      exact ⟨retB (by first | exact (placeB_true h0 h1).symm | exact (turnB_true h0 h1).symm | exact (placeB_false (by omega)).symm | exact (turnB_false (by omega)).symm), rfl⟩
  · go_enter Try.func26, Try.ntmps26
    go_wp2
    go_ret
    exact ⟨retB (by first | exact (placeB_false (by omega)).symm | exact (turnB_false (by omega)).symm), rfl⟩

def turnOf (x : Int) : Int := if -36028797018963968 ≤ x ∧ x < 36028797018963968 then (if x < 0 then -2 * x - 1 else 2 * x) else 0

set_option maxHeartbeats 400000 in
theorem turn_any (x : Int) (w : World) :
    Calls Try.prog 27 #[.int .i64 x] w fun e w' => e = .returned (.int .i64 (turnOf x)) ∧ w = w' := by
  by_cases h : -36028797018963968 ≤ x ∧ x < 36028797018963968
  · obtain ⟨h0, h1⟩ := h
    have hd := turnB_true h0 h1
    by_cases h2 : x < 0
    · have HT := Lib.hid (show turnOf x = -2 * x - 1 by unfold turnOf; rw [if_pos ⟨h0, h1⟩, if_pos h2])
      go_enter Try.func27, Try.ntmps27
      go_wp2_with (go_at_call 26; refine (turns_any _ _).mono ?_; rintro e w' ⟨rfl, rfl⟩)
      go_ret
      exact ⟨by rw [HT.out]; rfl, rfl⟩
    · have HT := Lib.hid (show turnOf x = 2 * x by unfold turnOf; rw [if_pos ⟨h0, h1⟩, if_neg h2])
      go_enter Try.func27, Try.ntmps27
      go_wp2_with (go_at_call 26; refine (turns_any _ _).mono ?_; rintro e w' ⟨rfl, rfl⟩)
      go_ret
      exact ⟨by rw [HT.out]; rfl, rfl⟩
  · have hd := turnB_false (x := x) (by omega)
    have HT := Lib.hid (show turnOf x = 0 by unfold turnOf; rw [if_neg h])
    clear h
    go_enter Try.func27, Try.ntmps27
    go_wp2_with (go_at_call 26; refine (turns_any _ _).mono ?_; rintro e w' ⟨rfl, rfl⟩)
    go_ret
    exact ⟨by rw [HT.out]; rfl, rfl⟩

end Go.Proofs.Ytoggeiaofpdboaa.Oct
