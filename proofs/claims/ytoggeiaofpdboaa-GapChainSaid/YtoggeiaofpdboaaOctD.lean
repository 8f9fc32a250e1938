/- The document's examples of layer 1 (octet) hold. -/
import Derived.Test.YtoggeiaofpdboaaOctC
namespace Go.Proofs.Ytoggeiaofpdboaa.Oct
open Go.RowKit Go.Lib

theorem putShort_300 (w : World) :
    Calls Try.prog 16 #[.int .i64 300] w fun e w' => e = .returned (.tuple #[.string ⟨#[172, 2]⟩, .nilIface]) ∧ Below w.heap.size w w' :=
  (putShort_ok 300 w (by omega) (by omega)).mono fun _ _ ⟨he, hb⟩ => ⟨by rw [he]; rfl, hb⟩
theorem turn_m1 (w : World) : Calls Try.prog 27 #[.int .i64 (-1)] w fun e w' => e = .returned (.int .i64 1) ∧ w = w' :=
  (turn_any (-1) w).mono fun _ _ ⟨he, hb⟩ => ⟨by rw [he]; rfl, hb⟩

end Go.Proofs.Ytoggeiaofpdboaa.Oct
