/- A call of a function's value, over a frame of which some slots are known. Over whatever program. -/
import Derived.Test.YtnmpcendimdoeaaGreatDoorKnAny
namespace Go.Proofs.YtnmpcendimdoeaaGreatDoor.Kn
open Go
theorem ex_callv {n : Nat} {l : List (Nat × Value)} {a : Act} {d : Option Tmp} {t : TypeId} {p : String} {af : Array Edge} {g : Option (Nat × Bool)} {x : Operand} {f : FuncId} {xs : Array Operand} {us : List Value} {ats : Array TypeId} (h : Kn n l a) (hf : Val l x (.func (.func f) #[] #[])) (hx : Vals l xs.toList us) : execOp a.eval ⟨d, .call { callee := .value x, args := xs, argTypes := ats }, t, p, af, g⟩ = callFunc f us.toArray := by
  have e : xs.map a.eval = us.toArray := by have := h.vals hx; rwa [Array.toArray_toList] at this
  have hv := h.val hf
  have e2 : execOp a.eval ⟨d, .call { callee := .value x, args := xs, argTypes := ats }, t, p, af, g⟩ = execOp a.eval ⟨d, .call { callee := .value (.func f), args := xs, argTypes := ats }, t, p, af, g⟩ := by
    simp only [execOp, resolve, hv]
    rfl
  rw [e2, execOp_call_go, e]; simp
end Go.Proofs.YtnmpcendimdoeaaGreatDoor.Kn
