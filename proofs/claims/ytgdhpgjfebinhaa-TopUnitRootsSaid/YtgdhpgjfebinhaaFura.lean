/- The computation on unit numbers, 2 to 21 parts. -/
import Derived.Test.YtgdhpgjfebinhaaFbu
namespace Go.Proofs.Ytgdhpgjfebinhaa.Ev
open Go.RowKit
set_option maxRecDepth 100000
theorem sumU_2 : sumU 2 = true := by decide +kernel
theorem okU_2 : OkU 2 := @pt2 2 1 1 (by decide +kernel) (by decide +kernel) rfl
theorem sumU_3 : sumU 3 = true := by decide +kernel
theorem okU_3 : OkU 3 := @pt2 3 2 1 (by decide +kernel) (by decide +kernel) rfl
theorem sumU_4 : sumU 4 = true := by decide +kernel
theorem okU_4 : OkU 4 := @pt2 4 2 2 (by decide +kernel) (by decide +kernel) rfl
theorem sumU_5 : sumU 5 = true := by decide +kernel
theorem okU_5 : OkU 5 := @pt2 5 3 2 (by decide +kernel) (by decide +kernel) rfl
theorem sumU_6 : sumU 6 = true := by decide +kernel
theorem okU_6 : OkU 6 := @pt2 6 3 3 (by decide +kernel) (by decide +kernel) rfl
theorem sumU_7 : sumU 7 = true := by decide +kernel
theorem okU_7 : OkU 7 := @pt2 7 4 3 (by decide +kernel) (by decide +kernel) rfl
theorem sumU_8 : sumU 8 = true := by decide +kernel
theorem okU_8 : OkU 8 := @pt2 8 4 4 (by decide +kernel) (by decide +kernel) rfl
theorem sumU_9 : sumU 9 = true := by decide +kernel
theorem okU_9 : OkU 9 := @pt2 9 5 4 (by decide +kernel) (by decide +kernel) rfl
theorem sumU_10 : sumU 10 = true := by decide +kernel
theorem okU_10 : OkU 10 := @pt2 10 5 5 (by decide +kernel) (by decide +kernel) rfl
theorem sumU_11 : sumU 11 = true := by decide +kernel
theorem okU_11 : OkU 11 := @pt2 11 6 5 (by decide +kernel) (by decide +kernel) rfl
theorem sumU_12 : sumU 12 = true := by decide +kernel
theorem okU_12 : OkU 12 := @pt2 12 6 6 (by decide +kernel) (by decide +kernel) rfl
theorem sumU_13 : sumU 13 = true := by decide +kernel
theorem okU_13 : OkU 13 := @pt2 13 7 6 (by decide +kernel) (by decide +kernel) rfl
theorem sumU_14 : sumU 14 = true := by decide +kernel
theorem okU_14 : OkU 14 := @pt2 14 7 7 (by decide +kernel) (by decide +kernel) rfl
theorem sumU_15 : sumU 15 = true := by decide +kernel
theorem okU_15 : OkU 15 := @pt2 15 8 7 (by decide +kernel) (by decide +kernel) rfl
theorem sumU_16 : sumU 16 = true := by decide +kernel
theorem okU_16 : OkU 16 := @pt2 16 8 8 (by decide +kernel) (by decide +kernel) rfl
theorem sumU_17 : sumU 17 = true := by decide +kernel
theorem okU_17 : OkU 17 := @pt2 17 9 8 (by decide +kernel) (by decide +kernel) rfl
theorem sumU_18 : sumU 18 = true := by decide +kernel
theorem okU_18 : OkU 18 := @pt2 18 9 9 (by decide +kernel) (by decide +kernel) rfl
theorem sumU_19 : sumU 19 = true := by decide +kernel
theorem okU_19 : OkU 19 := @pt2 19 10 9 (by decide +kernel) (by decide +kernel) rfl
theorem sumU_20 : sumU 20 = true := by decide +kernel
theorem okU_20 : OkU 20 := @pt2 20 10 10 (by decide +kernel) (by decide +kernel) rfl
theorem sumU_21 : sumU 21 = true := by decide +kernel
theorem okU_21 : OkU 21 := @pt2 21 11 10 (by decide +kernel) (by decide +kernel) rfl
end Go.Proofs.Ytgdhpgjfebinhaa.Ev
