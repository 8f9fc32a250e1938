/- The document's examples of layer 1 (octet) hold. -/
import Derived.Test.YthjdlilafamaoaaDoorOctC
namespace Go.Proofs.YthjdlilafamaoaaDoor.Oct
open Go.RowKit Go.Lib
end Go.Proofs.YthjdlilafamaoaaDoor.Oct
