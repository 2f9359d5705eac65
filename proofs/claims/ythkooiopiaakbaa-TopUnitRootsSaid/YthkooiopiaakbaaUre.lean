/- The computation on unit numbers, 25 to 32 parts. -/
import Derived.Test.YthkooiopiaakbaaUrc
namespace Go.Proofs.Ythkooiopiaakbaa
set_option maxRecDepth 100000 in
theorem sum_25 : sumB 25 = true := by decide +kernel
set_option maxRecDepth 100000 in
theorem part_25_0 : ((List.range' 0 25).all fun k => powB 25 k && halfB 25 k) = true := by decide +kernel
theorem ok_25 (k : Nat) (h : k < 25) : powB 25 k = true ∧ halfB 25 k = true := by
  by_cases h0 : k < 25
  · have := List.all_eq_true.1 part_25_0 k (List.mem_range'_1.2 ⟨by omega, by omega⟩); simpa using this
  omega
set_option maxRecDepth 100000 in
theorem sum_26 : sumB 26 = true := by decide +kernel
set_option maxRecDepth 100000 in
theorem part_26_0 : ((List.range' 0 26).all fun k => powB 26 k && halfB 26 k) = true := by decide +kernel
theorem ok_26 (k : Nat) (h : k < 26) : powB 26 k = true ∧ halfB 26 k = true := by
  by_cases h0 : k < 26
  · have := List.all_eq_true.1 part_26_0 k (List.mem_range'_1.2 ⟨by omega, by omega⟩); simpa using this
  omega
set_option maxRecDepth 100000 in
theorem sum_27 : sumB 27 = true := by decide +kernel
set_option maxRecDepth 100000 in
theorem part_27_0 : ((List.range' 0 27).all fun k => powB 27 k && halfB 27 k) = true := by decide +kernel
theorem ok_27 (k : Nat) (h : k < 27) : powB 27 k = true ∧ halfB 27 k = true := by
  by_cases h0 : k < 27
  · have := List.all_eq_true.1 part_27_0 k (List.mem_range'_1.2 ⟨by omega, by omega⟩); simpa using this
  omega
set_option maxRecDepth 100000 in
theorem sum_28 : sumB 28 = true := by decide +kernel
set_option maxRecDepth 100000 in
theorem part_28_0 : ((List.range' 0 14).all fun k => powB 28 k && halfB 28 k) = true := by decide +kernel
set_option maxRecDepth 100000 in
theorem part_28_14 : ((List.range' 14 14).all fun k => powB 28 k && halfB 28 k) = true := by decide +kernel
theorem ok_28 (k : Nat) (h : k < 28) : powB 28 k = true ∧ halfB 28 k = true := by
  by_cases h0 : k < 14
  · have := List.all_eq_true.1 part_28_0 k (List.mem_range'_1.2 ⟨by omega, by omega⟩); simpa using this
  by_cases h14 : k < 28
  · have := List.all_eq_true.1 part_28_14 k (List.mem_range'_1.2 ⟨by omega, by omega⟩); simpa using this
  omega
set_option maxRecDepth 100000 in
theorem sum_29 : sumB 29 = true := by decide +kernel
set_option maxRecDepth 100000 in
theorem part_29_0 : ((List.range' 0 15).all fun k => powB 29 k && halfB 29 k) = true := by decide +kernel
set_option maxRecDepth 100000 in
theorem part_29_15 : ((List.range' 15 14).all fun k => powB 29 k && halfB 29 k) = true := by decide +kernel
theorem ok_29 (k : Nat) (h : k < 29) : powB 29 k = true ∧ halfB 29 k = true := by
  by_cases h0 : k < 15
  · have := List.all_eq_true.1 part_29_0 k (List.mem_range'_1.2 ⟨by omega, by omega⟩); simpa using this
  by_cases h15 : k < 29
  · have := List.all_eq_true.1 part_29_15 k (List.mem_range'_1.2 ⟨by omega, by omega⟩); simpa using this
  omega
set_option maxRecDepth 100000 in
theorem sum_30 : sumB 30 = true := by decide +kernel
set_option maxRecDepth 100000 in
theorem part_30_0 : ((List.range' 0 15).all fun k => powB 30 k && halfB 30 k) = true := by decide +kernel
set_option maxRecDepth 100000 in
theorem part_30_15 : ((List.range' 15 15).all fun k => powB 30 k && halfB 30 k) = true := by decide +kernel
theorem ok_30 (k : Nat) (h : k < 30) : powB 30 k = true ∧ halfB 30 k = true := by
  by_cases h0 : k < 15
  · have := List.all_eq_true.1 part_30_0 k (List.mem_range'_1.2 ⟨by omega, by omega⟩); simpa using this
  by_cases h15 : k < 30
  · have := List.all_eq_true.1 part_30_15 k (List.mem_range'_1.2 ⟨by omega, by omega⟩); simpa using this
  omega
set_option maxRecDepth 100000 in
theorem sum_31 : sumB 31 = true := by decide +kernel
set_option maxRecDepth 100000 in
theorem part_31_0 : ((List.range' 0 16).all fun k => powB 31 k && halfB 31 k) = true := by decide +kernel
set_option maxRecDepth 100000 in
theorem part_31_16 : ((List.range' 16 15).all fun k => powB 31 k && halfB 31 k) = true := by decide +kernel
theorem ok_31 (k : Nat) (h : k < 31) : powB 31 k = true ∧ halfB 31 k = true := by
  by_cases h0 : k < 16
  · have := List.all_eq_true.1 part_31_0 k (List.mem_range'_1.2 ⟨by omega, by omega⟩); simpa using this
  by_cases h16 : k < 31
  · have := List.all_eq_true.1 part_31_16 k (List.mem_range'_1.2 ⟨by omega, by omega⟩); simpa using this
  omega
set_option maxRecDepth 100000 in
theorem sum_32 : sumB 32 = true := by decide +kernel
set_option maxRecDepth 100000 in
theorem part_32_0 : ((List.range' 0 16).all fun k => powB 32 k && halfB 32 k) = true := by decide +kernel
set_option maxRecDepth 100000 in
theorem part_32_16 : ((List.range' 16 16).all fun k => powB 32 k && halfB 32 k) = true := by decide +kernel
theorem ok_32 (k : Nat) (h : k < 32) : powB 32 k = true ∧ halfB 32 k = true := by
  by_cases h0 : k < 16
  · have := List.all_eq_true.1 part_32_0 k (List.mem_range'_1.2 ⟨by omega, by omega⟩); simpa using this
  by_cases h16 : k < 32
  · have := List.all_eq_true.1 part_32_16 k (List.mem_range'_1.2 ⟨by omega, by omega⟩); simpa using this
  omega
end Go.Proofs.Ythkooiopiaakbaa
