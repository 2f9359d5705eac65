/- The computation on unit numbers, 33 to 40 parts. -/
import Derived.Test.YthkooiopiaakbaaUrc
namespace Go.Proofs.Ythkooiopiaakbaa
set_option maxRecDepth 100000 in
theorem sum_33 : sumB 33 = true := by decide +kernel
set_option maxRecDepth 100000 in
theorem part_33_0 : ((List.range' 0 17).all fun k => powB 33 k && halfB 33 k) = true := by decide +kernel
set_option maxRecDepth 100000 in
theorem part_33_17 : ((List.range' 17 16).all fun k => powB 33 k && halfB 33 k) = true := by decide +kernel
theorem ok_33 (k : Nat) (h : k < 33) : powB 33 k = true ∧ halfB 33 k = true := by
  by_cases h0 : k < 17
  · have := List.all_eq_true.1 part_33_0 k (List.mem_range'_1.2 ⟨by omega, by omega⟩); simpa using this
  by_cases h17 : k < 33
  · have := List.all_eq_true.1 part_33_17 k (List.mem_range'_1.2 ⟨by omega, by omega⟩); simpa using this
  omega
set_option maxRecDepth 100000 in
theorem sum_34 : sumB 34 = true := by decide +kernel
set_option maxRecDepth 100000 in
theorem part_34_0 : ((List.range' 0 17).all fun k => powB 34 k && halfB 34 k) = true := by decide +kernel
set_option maxRecDepth 100000 in
theorem part_34_17 : ((List.range' 17 17).all fun k => powB 34 k && halfB 34 k) = true := by decide +kernel
theorem ok_34 (k : Nat) (h : k < 34) : powB 34 k = true ∧ halfB 34 k = true := by
  by_cases h0 : k < 17
  · have := List.all_eq_true.1 part_34_0 k (List.mem_range'_1.2 ⟨by omega, by omega⟩); simpa using this
  by_cases h17 : k < 34
  · have := List.all_eq_true.1 part_34_17 k (List.mem_range'_1.2 ⟨by omega, by omega⟩); simpa using this
  omega
set_option maxRecDepth 100000 in
theorem sum_35 : sumB 35 = true := by decide +kernel
set_option maxRecDepth 100000 in
theorem part_35_0 : ((List.range' 0 18).all fun k => powB 35 k && halfB 35 k) = true := by decide +kernel
set_option maxRecDepth 100000 in
theorem part_35_18 : ((List.range' 18 17).all fun k => powB 35 k && halfB 35 k) = true := by decide +kernel
theorem ok_35 (k : Nat) (h : k < 35) : powB 35 k = true ∧ halfB 35 k = true := by
  by_cases h0 : k < 18
  · have := List.all_eq_true.1 part_35_0 k (List.mem_range'_1.2 ⟨by omega, by omega⟩); simpa using this
  by_cases h18 : k < 35
  · have := List.all_eq_true.1 part_35_18 k (List.mem_range'_1.2 ⟨by omega, by omega⟩); simpa using this
  omega
set_option maxRecDepth 100000 in
theorem sum_36 : sumB 36 = true := by decide +kernel
set_option maxRecDepth 100000 in
theorem part_36_0 : ((List.range' 0 18).all fun k => powB 36 k && halfB 36 k) = true := by decide +kernel
set_option maxRecDepth 100000 in
theorem part_36_18 : ((List.range' 18 18).all fun k => powB 36 k && halfB 36 k) = true := by decide +kernel
theorem ok_36 (k : Nat) (h : k < 36) : powB 36 k = true ∧ halfB 36 k = true := by
  by_cases h0 : k < 18
  · have := List.all_eq_true.1 part_36_0 k (List.mem_range'_1.2 ⟨by omega, by omega⟩); simpa using this
  by_cases h18 : k < 36
  · have := List.all_eq_true.1 part_36_18 k (List.mem_range'_1.2 ⟨by omega, by omega⟩); simpa using this
  omega
set_option maxRecDepth 100000 in
theorem sum_37 : sumB 37 = true := by decide +kernel
set_option maxRecDepth 100000 in
theorem part_37_0 : ((List.range' 0 19).all fun k => powB 37 k && halfB 37 k) = true := by decide +kernel
set_option maxRecDepth 100000 in
theorem part_37_19 : ((List.range' 19 18).all fun k => powB 37 k && halfB 37 k) = true := by decide +kernel
theorem ok_37 (k : Nat) (h : k < 37) : powB 37 k = true ∧ halfB 37 k = true := by
  by_cases h0 : k < 19
  · have := List.all_eq_true.1 part_37_0 k (List.mem_range'_1.2 ⟨by omega, by omega⟩); simpa using this
  by_cases h19 : k < 37
  · have := List.all_eq_true.1 part_37_19 k (List.mem_range'_1.2 ⟨by omega, by omega⟩); simpa using this
  omega
set_option maxRecDepth 100000 in
theorem sum_38 : sumB 38 = true := by decide +kernel
set_option maxRecDepth 100000 in
theorem part_38_0 : ((List.range' 0 19).all fun k => powB 38 k && halfB 38 k) = true := by decide +kernel
set_option maxRecDepth 100000 in
theorem part_38_19 : ((List.range' 19 19).all fun k => powB 38 k && halfB 38 k) = true := by decide +kernel
theorem ok_38 (k : Nat) (h : k < 38) : powB 38 k = true ∧ halfB 38 k = true := by
  by_cases h0 : k < 19
  · have := List.all_eq_true.1 part_38_0 k (List.mem_range'_1.2 ⟨by omega, by omega⟩); simpa using this
  by_cases h19 : k < 38
  · have := List.all_eq_true.1 part_38_19 k (List.mem_range'_1.2 ⟨by omega, by omega⟩); simpa using this
  omega
set_option maxRecDepth 100000 in
theorem sum_39 : sumB 39 = true := by decide +kernel
set_option maxRecDepth 100000 in
theorem part_39_0 : ((List.range' 0 20).all fun k => powB 39 k && halfB 39 k) = true := by decide +kernel
set_option maxRecDepth 100000 in
theorem part_39_20 : ((List.range' 20 19).all fun k => powB 39 k && halfB 39 k) = true := by decide +kernel
theorem ok_39 (k : Nat) (h : k < 39) : powB 39 k = true ∧ halfB 39 k = true := by
  by_cases h0 : k < 20
  · have := List.all_eq_true.1 part_39_0 k (List.mem_range'_1.2 ⟨by omega, by omega⟩); simpa using this
  by_cases h20 : k < 39
  · have := List.all_eq_true.1 part_39_20 k (List.mem_range'_1.2 ⟨by omega, by omega⟩); simpa using this
  omega
set_option maxRecDepth 100000 in
theorem sum_40 : sumB 40 = true := by decide +kernel
set_option maxRecDepth 100000 in
theorem part_40_0 : ((List.range' 0 20).all fun k => powB 40 k && halfB 40 k) = true := by decide +kernel
set_option maxRecDepth 100000 in
theorem part_40_20 : ((List.range' 20 20).all fun k => powB 40 k && halfB 40 k) = true := by decide +kernel
theorem ok_40 (k : Nat) (h : k < 40) : powB 40 k = true ∧ halfB 40 k = true := by
  by_cases h0 : k < 20
  · have := List.all_eq_true.1 part_40_0 k (List.mem_range'_1.2 ⟨by omega, by omega⟩); simpa using this
  by_cases h20 : k < 40
  · have := List.all_eq_true.1 part_40_20 k (List.mem_range'_1.2 ⟨by omega, by omega⟩); simpa using this
  omega
end Go.Proofs.Ythkooiopiaakbaa
