/- The computation on unit numbers, 36 to 40 parts. -/
import Derived.Test.YtgdhpgjfebinhaaFbu
namespace Go.Proofs.Ytgdhpgjfebinhaa.Ev
open Go.RowKit
set_option maxRecDepth 100000
theorem sumU_36 : sumU 36 = true := by decide +kernel
theorem okU_36 : OkU 36 := @pt2 36 18 18 (by decide +kernel) (by decide +kernel) rfl
theorem sumU_37 : sumU 37 = true := by decide +kernel
theorem okU_37 : OkU 37 := @pt2 37 19 18 (by decide +kernel) (by decide +kernel) rfl
theorem sumU_38 : sumU 38 = true := by decide +kernel
theorem okU_38 : OkU 38 := @pt2 38 19 19 (by decide +kernel) (by decide +kernel) rfl
theorem sumU_39 : sumU 39 = true := by decide +kernel
theorem okU_39 : OkU 39 := @pt2 39 20 19 (by decide +kernel) (by decide +kernel) rfl
theorem sumU_40 : sumU 40 = true := by decide +kernel
theorem okU_40 : OkU 40 := @pt2 40 20 20 (by decide +kernel) (by decide +kernel) rfl
end Go.Proofs.Ytgdhpgjfebinhaa.Ev
