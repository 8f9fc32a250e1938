/- Turned by the same bytes, two texts of one length have sums that are turned alike; cut anywhere, a text has the sum of its parts (up to 300 bytes). The law FrameLinear answers true for every input. No condition. -/
import Derived.Test.YthjdlilafamaoaaRows
import Derived.Test.YthjdlilafamaoaaLinearWalk
import Derived.WalkKit
import Derived.ProofKit
import Derived.OpenShut
import Derived.ShutString
import Derived.SliceStrings
import Derived.Lib.SmallJoins
import Derived.Test.YthjdlilafamaoaaArrKit
namespace Go.Proofs.Ythjdlilafamaoaa.frameLinear
open Go.ChangeShapes Go.WideShapes Go.ChangeAt Go.RowKit Go.Joins
open Go.ChangeMaps (open_string shut_string)
set_option linter.unusedVariables false

theorem own : ownKnob Try.prog.godebug = none := by kernel_rfl

set_option maxRecDepth 100000 in
theorem lifted (os : Os) (started : os.Started) (H : Type) (enc : TypeId × Value → H) :
    ReturnsInHanded {} Try.checked os 4 .any (Rows.frameLinearSpec.pre6 enc Try.prog Try.f4 Rows.frameLinearRow.domain false) (Rows.frameLinearSpec.post enc Try.prog Try.f4 false true false false) := by
  refine returnsInHanded_of_change (C := Try.checked) own started (by kernel_rfl) Try.func4
    (ChangeSpec.witness6 (enc := enc) (C := Try.checked) false ⟨#[], #[.agg #[.string ByteArray.empty, .string ByteArray.empty, .string ByteArray.empty], .int .u16 0], []⟩ 8 (by kernel_rfl) (by kernel_rfl) (by kernel_rfl) (by kernel_rfl)) ?_
  intro W base args ds gs before hval0 hW hcnd _
  have hval : ∀ (j : Nat) t v, Try.f4.params[j]? = some t → args[j]? = some v → Value.okWide Try.prog W .any base t v := hval0
  have hW' := hW
  obtain ⟨p, q, hA0, hV, rfl, hfz, hnd⟩ := hW
  have hA : DataW.TrodAll enc Try.prog W 0 (fun _ => true) true Try.f4.params.toList args.toList ds p := hA0
  rw [Try.params4] at hA hval
  obtain ⟨v0, vs0, d0, ds0, p0, q0, hargs, rfl, rfl, h0, s0⟩ := trodAll_cons hA
  obtain ⟨v1, vs1, d1, ds1, p1, q1, rfl, rfl, rfl, h1, s1⟩ := trodAll_cons s0
  obtain ⟨rfl, rfl, rfl⟩ := trodAll_nil s1
  obtain rfl : args = #[v0, v1] := by cases args; simp_all
  obtain ⟨rfl, rfl⟩ := trodVars_none hV
  obtain ⟨u0_0, u0_1, u0_2, g0_0, g0_1, g0_2, fu0, rfl, rfl, rfl, t0_0, t0_1, t0_2⟩ := open_arr3 Try.underlying33 (by kernel_rfl) (show Try.prog.cellsOf 33 = 3 by kernel_rfl) (hval 0 33 v0 rfl rfl) h0
  obtain ⟨e0_0, c0_0, rfl, z0_0⟩ := DataW.trod_string Try.underlying9 t0_0
  obtain ⟨e0_1, c0_1, rfl, z0_1⟩ := DataW.trod_string Try.underlying9 t0_1
  obtain ⟨e0_2, c0_2, rfl, z0_2⟩ := DataW.trod_string Try.underlying9 t0_2
  simp at c0_0 c0_1 c0_2
  subst c0_0 c0_1 c0_2
  obtain ⟨a1, rfl, rfl, rfl, w1⟩ := open_int Try.underlying23 (hval 1 23 v1 rfl rfl) h1
  obtain ⟨x1, y1⟩ := bounds_u16 w1
  clear hA0 hval0
  simp only [List.append_nil] at hW'
  refine (Frame.linear_all e0_0 e0_1 e0_2 a1 W z0_0 z0_1 z0_2 x1 y1).mono fun e W' ⟨he, hb⟩ => ?_
  subst he
  exact ⟨_, rfl, _, _, _, [], [], [], hW', trodAll_cons_mk (shut_bool Try.underlying4 _) trodAll_mk0, trodAll_cons_mk (shut_arr3 (y0 := (.lit (.string e0_0.data.toList), [])) (y1 := (.lit (.string e0_1.data.toList), [])) (y2 := (.lit (.string e0_2.data.toList), [])) Try.underlying33 (by kernel_rfl) (show Try.prog.cellsOf 33 = 3 by kernel_rfl) ⟨1, by simp [DataW.trod, Try.underlying9, z0_0]⟩ ⟨1, by simp [DataW.trod, Try.underlying9, z0_1]⟩ ⟨1, by simp [DataW.trod, Try.underlying9, z0_2]⟩) (trodAll_cons_mk (shut_int Try.underlying23 w1) (trodAll_mk0)), rfl, hb.frame _, fun h => by cases h⟩

theorem over : Rows.frameLinearRow.holds Try.pinned (OpenSpec.ofChange Rows.frameLinearSpec) :=
  OpenClaim.holds_of_wide 4 Try.f4 rfl rfl rfl rfl rfl rfl rfl ⟨rfl, rfl, rfl, rfl, rfl⟩ rfl rfl rfl rfl rfl (by kernel_rfl) Try.func4 (by kernel_rfl)
    (of_decide_eq_true (by kernel_rfl)) (by unfold Func.isWrapper; first | (rw [if_pos (by decide +kernel)]; kernel_rfl) | (rw [if_neg (by decide +kernel)]; exact ⟨rfl, rfl⟩))
    (fun os started H enc _ => lifted os started H enc)

/-- The statement. -/
theorem proved : Rows.FrameLinearSaid :=
  over
end Go.Proofs.Ythjdlilafamaoaa.frameLinear
