/- Contracts of layer 1 (octet): appendShort, PutShort. -/
import Derived.Test.YthjdlilafamaoaaOctA
import Derived.Laws.IdiomStrings
import Derived.Lib.UnsafeStr
namespace Go.Proofs.Ythjdlilafamaoaa.Oct
open Go.RowKit Go.Lib

theorem infoByte : (Try.prog.info? 5).map (fun i => (i.zero, i.size, i.bytes)) = some (some (.int .u8 0), 1, 1) := by kernel_rfl
theorem byteCells_snoc (l : List UInt8) (b : UInt8) : byteCells (l ++ [b]) = byteCells l ++ [Value.int .u8 b.toNat] := by simp [byteCells]
theorem byteCells_len (l : List UInt8) : (byteCells l).length = l.length := by simp [byteCells]

/-- An error's number alone. -/
def errnoV (c : Int) : Value := .iface 37 (.int .i64 c)

end Go.Proofs.Ythjdlilafamaoaa.Oct
