/- The document's examples of layer 1 (octet) hold. -/
import Derived.Test.YtahngmddhpnjgaaDoorOctC
namespace Go.Proofs.YtahngmddhpnjgaaDoor.Oct
open Go.RowKit Go.Lib

theorem putShort_300 (w : World) :
    Calls Tryd.prog 13 #[.int .i64 300] w fun e w' => e = .returned (.tuple #[.string ⟨#[172, 2]⟩, .nilIface]) ∧ Below w.heap.size w w' :=
  (putShort_ok 300 w (by omega) (by omega)).mono fun _ _ ⟨he, hb⟩ => ⟨by rw [he]; rfl, hb⟩
theorem turn_m1 (w : World) : Calls Tryd.prog 17 #[.int .i64 (-1)] w fun e w' => e = .returned (.int .i64 1) ∧ w = w' :=
  (turn_any (-1) w).mono fun _ _ ⟨he, hb⟩ => ⟨by rw [he]; rfl, hb⟩

set_option maxRecDepth 100000 in
set_option maxHeartbeats 1000000 in
theorem awake_any (w : World) :
    Calls Tryd.prog 6 #[] w fun e w' => e = .returned (.bool true) ∧ Below w.heap.size w w' := by
  go_enter Tryd.func6, Tryd.ntmps6
  go_wp2_with (first | (go_at_call 13; refine (putShort_300 _).mono ?_; rintro e w1 ⟨rfl, hb1⟩) | (go_at_call 17; refine (turn_m1 _).mono ?_; rintro e w1 ⟨rfl, rfl⟩))
  go_ret
  exact ⟨rfl, by assumption⟩

end Go.Proofs.YtahngmddhpnjgaaDoor.Oct
