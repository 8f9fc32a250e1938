/- An operation that isn't wanted, in a region that draws its order. Over whatever program. -/
import Derived.Test.YtoggeiaofpdboaaDoorKnAny
namespace Go.Proofs.YtoggeiaofpdboaaDoor.Kn
open Go
section
variable {P : Program} {n : Nat} {ops : Array Oper} {Q : Exit → Act → World → Prop} {S : World → Prop} {G : World → World → Prop} {T : Nat → Value → World → Prop}
/-- An operation that isn't wanted. -/
theorem askip {i : Nat} {o : Oper} {L : Nat → Prop} {a : Act} {w : World} {l' : List (Nat × Value)} (h : Kn n l' a) (hw : Wants ops l' o.guard false) (h1 : T i undef w) : Op1 P ops Q S G T F0 i o L a w := by
  unfold Op1
  rw [h.wants hw, if_neg (by simp)]
  exact ⟨h1, fun _ _ _ _ _ => ⟨trivial, trivial⟩⟩
end
end Go.Proofs.YtoggeiaofpdboaaDoor.Kn
