/- Turned twice edges are as they were; of each node as many edges go out as, turned, come in; lists are one just if all edges are (up to 200 edges). The law EdgesTurns answers true for every input. No condition. -/
import Derived.Test.YtnmpcendimdoeaaRows
import Derived.Test.YtnmpcendimdoeaaTurnsWalk
import Derived.WalkKit
import Derived.ProofKit
import Derived.OpenShut
import Derived.ShutString
import Derived.SliceStrings
import Derived.Lib.SmallJoins
import Derived.Test.YtnmpcendimdoeaaArrKit
import Derived.Test.YtnmpcendimdoeaaEdgeOpen
namespace Go.Proofs.Ytnmpcendimdoeaa.edgesTurns
open Go.ChangeShapes Go.WideShapes Go.ChangeAt Go.RowKit Go.Joins
open Go.ChangeMaps (open_string shut_string)
set_option linter.unusedVariables false

theorem own : ownKnob Try.prog.godebug = none := by kernel_rfl
theorem laidOut : laidOutB Try.prog = true := by kernel_rfl

set_option maxRecDepth 100000 in
theorem lifted (os : Os) (started : os.Started) (H : Type) (enc : TypeId × Value → H) :
    ReturnsInHanded {} Try.checked os 3 .any (Rows.edgesTurnsSpec.pre6 enc Try.prog Try.f3 Rows.edgesTurnsRow.domain false) (Rows.edgesTurnsSpec.post enc Try.prog Try.f3 false true false false) := by
  refine returnsInHanded_of_change (C := Try.checked) own started (by kernel_rfl) Try.func3
    (ChangeSpec.witness6 (enc := enc) (C := Try.checked) false ⟨#[], #[.slice none 0 0, .slice none 0 0, .int .i64 0], []⟩ 8 (by kernel_rfl) (by kernel_rfl) (by kernel_rfl) (by kernel_rfl)) ?_
  intro W base args ds gs before hval0 hW hcnd _
  have hval : ∀ (j : Nat) t v, Try.f3.params[j]? = some t → args[j]? = some v → Value.okWide Try.prog W .any base t v := hval0
  have hW' := hW
  obtain ⟨p, q, hA0, hV, rfl, hfz, hnd⟩ := hW
  have hA : DataW.TrodAll enc Try.prog W 0 (fun _ => true) true Try.f3.params.toList args.toList ds p := hA0
  rw [Try.params3] at hA hval
  obtain ⟨v0, vs0, d0, ds0, p0, q0, hargs, rfl, rfl, h0, s0⟩ := trodAll_cons hA
  obtain ⟨v1, vs1, d1, ds1, p1, q1, rfl, rfl, rfl, h1, s1⟩ := trodAll_cons s0
  obtain ⟨v2, vs2, d2, ds2, p2, q2, rfl, rfl, rfl, h2, s2⟩ := trodAll_cons s1
  obtain ⟨rfl, rfl, rfl⟩ := trodAll_nil s2
  obtain rfl : args = #[v0, v1, v2] := by cases args; simp_all
  obtain ⟨rfl, rfl⟩ := trodVars_none hV
  obtain ⟨A0, n0, c0, rfl⟩ := okWide_slice Try.underlying22 (hval 0 22 v0 rfl rfl)
  have k0 := h0
  have lt0 : ∀ x ∈ p0, x.block < W.heap.size := by obtain ⟨m, hm⟩ := k0; exact DataW.trod_lt m _ _ _ hm
  obtain ⟨l0, e0, m0, r0, b0⟩ : ∃ xs : List (Int × Int), n0 = xs.length ∧ n0 ≤ maxLen ∧ Edg.EIn W A0 xs ∧ ∀ i, i < n0 → (-9223372036854775808 ≤ (Edg.ed xs i).1 ∧ (Edg.ed xs i).1 ≤ 9223372036854775807) ∧ (-9223372036854775808 ≤ (Edg.ed xs i).2 ∧ (Edg.ed xs i).2 ≤ 9223372036854775807) := by
    obtain ⟨fuel, hf⟩ := h0
    exact Edg.edges_in hf
  subst e0
  obtain ⟨A1, n1, c1, rfl⟩ := okWide_slice Try.underlying22 (hval 1 22 v1 rfl rfl)
  have k1 := h1
  have lt1 : ∀ x ∈ p1, x.block < W.heap.size := by obtain ⟨m, hm⟩ := k1; exact DataW.trod_lt m _ _ _ hm
  obtain ⟨l1, e1, m1, r1, b1⟩ : ∃ xs : List (Int × Int), n1 = xs.length ∧ n1 ≤ maxLen ∧ Edg.EIn W A1 xs ∧ ∀ i, i < n1 → (-9223372036854775808 ≤ (Edg.ed xs i).1 ∧ (Edg.ed xs i).1 ≤ 9223372036854775807) ∧ (-9223372036854775808 ≤ (Edg.ed xs i).2 ∧ (Edg.ed xs i).2 ≤ 9223372036854775807) := by
    obtain ⟨fuel, hf⟩ := h1
    exact Edg.edges_in hf
  subst e1
  obtain ⟨a2, rfl, rfl, rfl, w2⟩ := open_int Try.underlying3 (hval 2 3 v2 rfl rfl) h2
  obtain ⟨x2, y2⟩ := bounds_i64 w2
  clear hA0 hval0
  refine (Edg.turns_all A0 A1 c0 c1 l0 l1 a2 W m0 m1 r0 r1).mono fun e W' ⟨he, hb⟩ => ?_
  subst he
  exact ⟨_, rfl, _, _, _, [], _, [], hW', trodAll_cons_mk (shut_bool Try.underlying4 _) trodAll_mk0, trodAll_cons_mk (Below.trod laidOut (by kernel_rfl) (of_decide_eq_true (by kernel_rfl)) k0 hb lt0) (trodAll_cons_mk (Below.trod laidOut (by kernel_rfl) (of_decide_eq_true (by kernel_rfl)) k1 hb lt1) (trodAll_cons_mk (shut_int Try.underlying3 w2) (trodAll_mk0))), rfl, hb.frame _, fun h => by cases h⟩

theorem over : Rows.edgesTurnsRow.holds Try.pinned (OpenSpec.ofChange Rows.edgesTurnsSpec) :=
  OpenClaim.holds_of_wide 3 Try.f3 rfl rfl rfl rfl rfl rfl rfl ⟨rfl, rfl, rfl, rfl, rfl⟩ rfl rfl rfl rfl rfl (by kernel_rfl) Try.func3 (by kernel_rfl)
    (of_decide_eq_true (by kernel_rfl)) (by unfold Func.isWrapper; first | (rw [if_pos (by decide +kernel)]; kernel_rfl) | (rw [if_neg (by decide +kernel)]; exact ⟨rfl, rfl⟩))
    (fun os started H enc _ => lifted os started H enc)

/-- The statement. -/
theorem proved : Rows.EdgesTurnsSaid :=
  over
end Go.Proofs.Ytnmpcendimdoeaa.edgesTurns
