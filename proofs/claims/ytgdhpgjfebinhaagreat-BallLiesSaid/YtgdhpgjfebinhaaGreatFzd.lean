/- BallLies: its Sig. -/
import Derived.Test.YtgdhpgjfebinhaaGreatFzc
namespace Go.Proofs.YtgdhpgjfebinhaaGreat.Ev
set_option linter.unusedSimpArgs false
open Go Go.RowKit
set_option linter.unusedVariables false
set_option maxRecDepth 100000
def etalonlaw01_BallLies_s : Sig := ⟨3, ⟨8, 0, 0⟩, ⟨0, 1, 0⟩, [(.agg [(.int .i64 (.var 0)), (.int .i64 (.var 1)), (.int .i64 (.var 2))]), (.agg [(.int .i64 (.var 3)), (.int .i64 (.var 4)), (.int .i64 (.var 5))]), (.agg [(.int .i64 (.var 6)), (.int .i64 (.var 7))])], [], (.bool (.var 0)), []⟩

end Go.Proofs.YtgdhpgjfebinhaaGreat.Ev
