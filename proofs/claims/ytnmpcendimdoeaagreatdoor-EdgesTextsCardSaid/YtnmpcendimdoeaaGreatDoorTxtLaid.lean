/- What the row's list of variables gives: errors.errorType, strconv's table and its error; a world that meets it. -/
import Derived.Test.YtnmpcendimdoeaaGreatDoorErrLaid
import Derived.Test.YtnmpcendimdoeaaGreatDoorTxtA
import Derived.Lib.LaidTab
import Derived.Stop.LaidErr
import Derived.Shelf.Vars
namespace Go.Proofs.YtnmpcendimdoeaaGreatDoor.Txt
open Go.ChangeShapes Go.WideShapes Go.ChangeAt Go.RowKit

theorem own : ownKnob Tryz.prog.godebug = none := by kernel_rfl
theorem gTT : (Tryz.prog.globals[2]?).map (·.type) = some 130 := by kernel_rfl
theorem gET : (Tryz.prog.globals[3]?).map (·.type) = some 29 := by kernel_rfl
theorem cells64 : Tryz.prog.cellsOf 81 = 1 := by kernel_rfl
theorem cells20 : Tryz.prog.cellsOf 130 = 20 := by kernel_rfl
theorem cellsE : Tryz.prog.cellsOf 148 = 1 := by kernel_rfl
theorem cellsS : Tryz.prog.cellsOf 9 = 1 := by kernel_rfl
theorem star : "*" ++ "errors.errorString" = "*errors.errorString" := by decide
theorem rowE (u : TypeId) (h : Tryz.prog.typeName? 3 u = some "*errors.errorString") : u = 146 :=
  typeName_ptr_named (nm := "errors.errorString") (by rw [star]; kernel_rfl) (by kernel_rfl) (by decide) u (by rw [star]; exact h)
def plainL : List (String × DataW Unit) := [("math/bits.deBruijn32tab", Rows.laid_math_bits_deBruijn32tab), ("math/bits.deBruijn64tab", Rows.laid_math_bits_deBruijn64tab), ("internal/strconv.uint64pow10", Rows.laid_internal_strconv_uint64pow10), ("strconv.ErrRange", Rows.laid_strconv_ErrRange), ("strconv.ErrSyntax", Rows.laid_strconv_ErrSyntax)]
theorem pow_tab : (Rows.laid_internal_strconv_uint64pow10 : DataW Unit) = Lib.tabData .u64 Lib.pow10Tab := by kernel_rfl
def listed : List (String × DataW Unit) := [("math/bits.deBruijn32tab", Rows.laid_math_bits_deBruijn32tab), ("math/bits.deBruijn64tab", Rows.laid_math_bits_deBruijn64tab), ("internal/strconv.uint64pow10", Rows.laid_internal_strconv_uint64pow10), ("errors.errorType", Rows.laid_errors_errorType), ("strconv.ErrRange", Rows.laid_strconv_ErrRange), ("strconv.ErrSyntax", Rows.laid_strconv_ErrSyntax)]
theorem vars_of_laid {W : World} (h : laidMetH Tryz.prog listed W) (hs : W.ShapedOpen Tryz.prog) : Err.ErrTab W ∧ Vars W := by
  have h' : laidMet Tryz.prog plainL W ∧ handlesMet Tryz.prog [("errors.errorType", Rows.laid_errors_errorType)] W := h
  obtain ⟨hp, hh⟩ := h'
  have ht : laidMet Tryz.prog (("internal/strconv.uint64pow10", Lib.tabData .u64 Lib.pow10Tab) :: [("strconv.ErrRange", Rows.laid_strconv_ErrRange), ("strconv.ErrSyntax", Rows.laid_strconv_ErrSyntax)]) W := by rw [← pow_tab]; exact hp.tail.tail
  obtain ⟨a, s, hv, _⟩ := laid_sentinel hp.tail.tail.tail.tail gE gET Tryz.underlying29 rowE Tryz.underlying146 Tryz.underlying148 rfl rfl Tryz.underlying9 cellsE cellsS
  exact ⟨Err.handle_of_laid (show laidMet Tryz.prog [] W ∧ handlesMet Tryz.prog [("errors.errorType", Rows.laid_errors_errorType)] W from ⟨laidMet_nil _ _, hh⟩),
    Lib.tabIs_of_head gT gTT Tryz.underlying130 Tryz.underlying81 cells64 cells20 ht, ⟨_, _, hv⟩,
    cell_of_shapedOpen_int (zero := #[.int .i64 0]) (t := 3) hs (of_decide_eq_true (by kernel_rfl)) (by kernel_rfl) rfl (by kernel_rfl) (by kernel_rfl) Tryz.underlying3⟩

def laying (cs : Array Value) : Obj → Obj
  | .cells _ t frozen => .cells cs t frozen
  | o => o
abbrev synS : ByteArray := { data := #[105, 110, 118, 97, 108, 105, 100, 32, 115, 121, 110, 116, 97, 120] }
abbrev rngS : ByteArray := { data := #[118, 97, 108, 117, 101, 32, 111, 117, 116, 32, 111, 102, 32, 114, 97, 110, 103, 101] }
/-- So many blocks has the settled world. -/
noncomputable def low : Nat := (World.holding Tryz.prog default ⟨#[], #[], []⟩).heap.size
def bytesOf : DataW Unit → Array Value
  | .agg l => (l.map fun
    | .lit (.int k z) => Value.int k z
    | _ => undef).toArray
  | _ => #[]
/-- A world that meets the condition: the settled one with two blocks more, the variables' cells laid. -/
noncomputable def laidWorld (os : Os) : World :=
  let w0 := World.holding Tryz.prog os ⟨#[.cells #[.string synS] 148, .cells #[.string rngS] 148], #[], []⟩
  { w0 with heap := (((((w0.heap.modify 5 (laying (bytesOf Rows.laid_math_bits_deBruijn32tab))).modify 6 (laying (bytesOf Rows.laid_math_bits_deBruijn64tab))).modify 2 (laying (bytesOf Rows.laid_internal_strconv_uint64pow10))).modify 0 (laying #[.iface 86 (.agg #[.pointer (some ⟨7, 29, none⟩)])])).modify 3 (laying #[.iface 146 (.pointer (some ⟨low, 0, none⟩))])).modify 4 (laying #[.iface 146 (.pointer (some ⟨low + 1, 0, none⟩))]) }
theorem laid_met (os : Os) (args : Array Value) : laidMetH Tryz.prog listed ((laidWorld os).forCall (fun _ _ => 0) ⟨#[], args, []⟩).memory :=
  laidMetH_of_parts (show laidMet Tryz.prog plainL _ from laidMet_of_run' 8 (by kernel_rfl) (by kernel_rfl)) (by kernel_rfl)
end Go.Proofs.YtnmpcendimdoeaaGreatDoor.Txt
