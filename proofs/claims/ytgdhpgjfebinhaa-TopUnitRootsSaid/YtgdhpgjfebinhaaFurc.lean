/- The computation on unit numbers, 30 to 35 parts. -/
import Derived.Test.YtgdhpgjfebinhaaFbu
namespace Go.Proofs.Ytgdhpgjfebinhaa.Ev
open Go.RowKit
set_option maxRecDepth 100000
theorem sumU_30 : sumU 30 = true := by decide +kernel
theorem okU_30 : OkU 30 := @pt2 30 15 15 (by decide +kernel) (by decide +kernel) rfl
theorem sumU_31 : sumU 31 = true := by decide +kernel
theorem okU_31 : OkU 31 := @pt2 31 16 15 (by decide +kernel) (by decide +kernel) rfl
theorem sumU_32 : sumU 32 = true := by decide +kernel
theorem okU_32 : OkU 32 := @pt2 32 16 16 (by decide +kernel) (by decide +kernel) rfl
theorem sumU_33 : sumU 33 = true := by decide +kernel
theorem okU_33 : OkU 33 := @pt2 33 17 16 (by decide +kernel) (by decide +kernel) rfl
theorem sumU_34 : sumU 34 = true := by decide +kernel
theorem okU_34 : OkU 34 := @pt2 34 17 17 (by decide +kernel) (by decide +kernel) rfl
theorem sumU_35 : sumU 35 = true := by decide +kernel
theorem okU_35 : OkU 35 := @pt2 35 18 17 (by decide +kernel) (by decide +kernel) rfl
end Go.Proofs.Ytgdhpgjfebinhaa.Ev
