/-
  The reference's Add, Drop, Change in one form. Conditions: at most 1000 nodes, sorted, each in order; at most 1000 amounts.
-/
import Derived.Test.YtokopegffeablaaDoorRAddN12
import Derived.Test.YtokopegffeablaaDoorRChN12
namespace Go.Proofs.YtokopegffeablaaDoor.T12
open Go.RowKit Go.Sort Go.Lib V12

end Go.Proofs.YtokopegffeablaaDoor.T12
