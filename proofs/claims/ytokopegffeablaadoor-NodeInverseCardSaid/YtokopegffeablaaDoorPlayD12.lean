/-
  The law's play of a drop. Conditions: errors.errorType holds its own; at most 1000 nodes.
-/
import Derived.Test.YtokopegffeablaaDoorPlay12
import Derived.Deep.CutBlock
namespace Go.Proofs.YtokopegffeablaaDoor.T12
open Go.RowKit Go.Sort Go.Lib V12

end Go.Proofs.YtokopegffeablaaDoor.T12
