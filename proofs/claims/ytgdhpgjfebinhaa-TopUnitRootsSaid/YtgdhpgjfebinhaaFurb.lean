/- The computation on unit numbers, 22 to 29 parts. -/
import Derived.Test.YtgdhpgjfebinhaaFbu
namespace Go.Proofs.Ytgdhpgjfebinhaa.Ev
open Go.RowKit
set_option maxRecDepth 100000
theorem sumU_22 : sumU 22 = true := by decide +kernel
theorem okU_22 : OkU 22 := @pt2 22 11 11 (by decide +kernel) (by decide +kernel) rfl
theorem sumU_23 : sumU 23 = true := by decide +kernel
theorem okU_23 : OkU 23 := @pt2 23 12 11 (by decide +kernel) (by decide +kernel) rfl
theorem sumU_24 : sumU 24 = true := by decide +kernel
theorem okU_24 : OkU 24 := @pt2 24 12 12 (by decide +kernel) (by decide +kernel) rfl
theorem sumU_25 : sumU 25 = true := by decide +kernel
theorem okU_25 : OkU 25 := @pt2 25 13 12 (by decide +kernel) (by decide +kernel) rfl
theorem sumU_26 : sumU 26 = true := by decide +kernel
theorem okU_26 : OkU 26 := @pt2 26 13 13 (by decide +kernel) (by decide +kernel) rfl
theorem sumU_27 : sumU 27 = true := by decide +kernel
theorem okU_27 : OkU 27 := @pt2 27 14 13 (by decide +kernel) (by decide +kernel) rfl
theorem sumU_28 : sumU 28 = true := by decide +kernel
theorem okU_28 : OkU 28 := @pt2 28 14 14 (by decide +kernel) (by decide +kernel) rfl
theorem sumU_29 : sumU 29 = true := by decide +kernel
theorem okU_29 : OkU 29 := @pt2 29 15 14 (by decide +kernel) (by decide +kernel) rfl
end Go.Proofs.Ytgdhpgjfebinhaa.Ev
