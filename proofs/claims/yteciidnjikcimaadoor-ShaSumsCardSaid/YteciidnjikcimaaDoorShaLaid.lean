/- What the rows' list of variables gives: the two tables of sha; a world that meets it. -/
import Derived.Test.YteciidnjikcimaaDoorCards
import Derived.Test.YteciidnjikcimaaDoorTie
import Derived.Test.YteciidnjikcimaaDoorShaE
import Derived.ProofKit
import Derived.OpenShut
import Derived.ShutString
import Derived.Deep.DeepHandedRow
import Derived.LaidLaws
import Derived.Lib.LaidTab
import Derived.Stop.Joined
import Derived.Stop.LaidErr
namespace Go.Proofs.YteciidnjikcimaaDoor.Sha
open Go.ChangeShapes Go.WideShapes Go.ChangeAt Go.RowKit

theorem own : ownKnob Tryd.prog.godebug = none := by kernel_rfl
theorem gF : Tryd.prog.globalNamed "lading/sha.first" = some 0 := by kernel_rfl
theorem gK : Tryd.prog.globalNamed "lading/sha.k" = some 1 := by kernel_rfl
theorem gFT : (Tryd.prog.globals[0]?).map (·.type) = some 41 := by kernel_rfl
theorem gKT : (Tryd.prog.globals[1]?).map (·.type) = some 49 := by kernel_rfl
theorem cellsU : Tryd.prog.cellsOf 39 = 1 := by kernel_rfl
theorem cellsF : Tryd.prog.cellsOf 41 = 8 := by kernel_rfl
theorem cellsK : Tryd.prog.cellsOf 49 = 64 := by kernel_rfl
def listed : List (String × DataW Unit) := [("lading/sha.first", Rows.laid_lading_sha_first), ("lading/sha.k", Rows.laid_lading_sha_k)]
theorem wd_int (l : List Nat) (i : Nat) (h : i < l.length) : (l.map Int.ofNat).getD i 0 = ((wd l i : Nat) : Int) := by
  simp [wd, List.getD_eq_getElem?_getD, List.getElem?_eq_getElem h]

theorem tabs_of_laid {W : World} (h : laidMetH Tryd.prog listed W) : Tabs W := by
  have h' : laidMet Tryd.prog listed W := h
  have hF : Lib.TabIs Tryd.prog W "lading/sha.first" .u32 (hh.map Int.ofNat) := Lib.tabIs_of_head (rest := [("lading/sha.k", Rows.laid_lading_sha_k)]) gF gFT Tryd.underlying41 Tryd.underlying39 cellsU cellsF h'
  have hK : Lib.TabIs Tryd.prog W "lading/sha.k" .u32 (kk.map Int.ofNat) := Lib.tabIs_of_head (rest := []) gK gKT Tryd.underlying49 Tryd.underlying39 cellsU cellsK (laidMet.tail h')
  have cF : FTab W := fun i hi => by
    have := hF.cell gF i (by simpa [hh] using hi)
    rw [wd_int hh i (by simpa [hh] using hi)] at this
    exact this
  have cK : KTab W := fun i hi => by
    have := hK.cell gK i (by simpa [kk] using hi)
    rw [wd_int kk i (by simpa [kk] using hi)] at this
    exact this
  refine ⟨cK, cF, ?_⟩
  have h0 := block_lt_of_cell (cF 0 (by omega))
  have h1 := block_lt_of_cell (cK 0 (by omega))
  simp only at h0 h1
  omega

def laying (cs : Array Value) : Obj → Obj
  | .cells _ t frozen => .cells cs t frozen
  | o => o
/-- A world that meets the condition: the settled one, the variables' cells laid. -/
noncomputable def laidWorld (os : Os) : World :=
  { World.holding Tryd.prog os ⟨#[], #[], []⟩ with heap := ((World.holding Tryd.prog os ⟨#[], #[], []⟩).heap.modify 0 (laying (arrU hh))).modify 1 (laying (arrU kk)) }
theorem laid_met (os : Os) (args : Array Value) : laidMetH Tryd.prog listed ((laidWorld os).forCall (fun _ _ => 0) ⟨#[], args, []⟩).memory :=
  show laidMet Tryd.prog listed _ from laidMet_of_run' 8 (by kernel_rfl) (by kernel_rfl)
end Go.Proofs.YteciidnjikcimaaDoor.Sha
