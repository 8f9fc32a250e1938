/- The document's examples of layer 1 (octet) hold. -/
import Derived.Test.YthjdlilafamaoaaOctC
namespace Go.Proofs.Ythjdlilafamaoaa.Oct
open Go.RowKit Go.Lib
end Go.Proofs.Ythjdlilafamaoaa.Oct
