/- PolarMuellers: the program's facts that the last text needs. -/
import Derived.Test.YtlondnchmfhenaaRows
import Derived.ProofKit
import Derived.OpenShut
import Derived.ChangeSame
import Derived.JoinedOf
import Derived.JoinedAt
import Derived.RowKit3
import Derived.Lib.SmallJoins
namespace Go.Proofs.Ytlondnchmfhenaa.polarMuellers
open Go.ChangeShapes Go.WideShapes Go.ChangeAt Go.RowKit Go.Joins
theorem closed : joinedFacts Try.pinned.checked.prog 8 Try.f8 Rows.polarMuellersSpec Rows.polarMuellersRow = true := by kernel_rfl
end Go.Proofs.Ytlondnchmfhenaa.polarMuellers
