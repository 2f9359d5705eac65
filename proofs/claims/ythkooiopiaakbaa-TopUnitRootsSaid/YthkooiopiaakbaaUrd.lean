/- The computation on unit numbers, up to 24 parts. -/
import Derived.Test.YthkooiopiaakbaaUrc
namespace Go.Proofs.Ythkooiopiaakbaa
set_option maxRecDepth 100000 in
theorem sum_2 : sumB 2 = true := by decide +kernel
set_option maxRecDepth 100000 in
theorem part_2_0 : ((List.range' 0 2).all fun k => powB 2 k && halfB 2 k) = true := by decide +kernel
theorem ok_2 (k : Nat) (h : k < 2) : powB 2 k = true ∧ halfB 2 k = true := by
  by_cases h0 : k < 2
  · have := List.all_eq_true.1 part_2_0 k (List.mem_range'_1.2 ⟨by omega, by omega⟩); simpa using this
  omega
set_option maxRecDepth 100000 in
theorem sum_3 : sumB 3 = true := by decide +kernel
set_option maxRecDepth 100000 in
theorem part_3_0 : ((List.range' 0 3).all fun k => powB 3 k && halfB 3 k) = true := by decide +kernel
theorem ok_3 (k : Nat) (h : k < 3) : powB 3 k = true ∧ halfB 3 k = true := by
  by_cases h0 : k < 3
  · have := List.all_eq_true.1 part_3_0 k (List.mem_range'_1.2 ⟨by omega, by omega⟩); simpa using this
  omega
set_option maxRecDepth 100000 in
theorem sum_4 : sumB 4 = true := by decide +kernel
set_option maxRecDepth 100000 in
theorem part_4_0 : ((List.range' 0 4).all fun k => powB 4 k && halfB 4 k) = true := by decide +kernel
theorem ok_4 (k : Nat) (h : k < 4) : powB 4 k = true ∧ halfB 4 k = true := by
  by_cases h0 : k < 4
  · have := List.all_eq_true.1 part_4_0 k (List.mem_range'_1.2 ⟨by omega, by omega⟩); simpa using this
  omega
set_option maxRecDepth 100000 in
theorem sum_5 : sumB 5 = true := by decide +kernel
set_option maxRecDepth 100000 in
theorem part_5_0 : ((List.range' 0 5).all fun k => powB 5 k && halfB 5 k) = true := by decide +kernel
theorem ok_5 (k : Nat) (h : k < 5) : powB 5 k = true ∧ halfB 5 k = true := by
  by_cases h0 : k < 5
  · have := List.all_eq_true.1 part_5_0 k (List.mem_range'_1.2 ⟨by omega, by omega⟩); simpa using this
  omega
set_option maxRecDepth 100000 in
theorem sum_6 : sumB 6 = true := by decide +kernel
set_option maxRecDepth 100000 in
theorem part_6_0 : ((List.range' 0 6).all fun k => powB 6 k && halfB 6 k) = true := by decide +kernel
theorem ok_6 (k : Nat) (h : k < 6) : powB 6 k = true ∧ halfB 6 k = true := by
  by_cases h0 : k < 6
  · have := List.all_eq_true.1 part_6_0 k (List.mem_range'_1.2 ⟨by omega, by omega⟩); simpa using this
  omega
set_option maxRecDepth 100000 in
theorem sum_7 : sumB 7 = true := by decide +kernel
set_option maxRecDepth 100000 in
theorem part_7_0 : ((List.range' 0 7).all fun k => powB 7 k && halfB 7 k) = true := by decide +kernel
theorem ok_7 (k : Nat) (h : k < 7) : powB 7 k = true ∧ halfB 7 k = true := by
  by_cases h0 : k < 7
  · have := List.all_eq_true.1 part_7_0 k (List.mem_range'_1.2 ⟨by omega, by omega⟩); simpa using this
  omega
set_option maxRecDepth 100000 in
theorem sum_8 : sumB 8 = true := by decide +kernel
set_option maxRecDepth 100000 in
theorem part_8_0 : ((List.range' 0 8).all fun k => powB 8 k && halfB 8 k) = true := by decide +kernel
theorem ok_8 (k : Nat) (h : k < 8) : powB 8 k = true ∧ halfB 8 k = true := by
  by_cases h0 : k < 8
  · have := List.all_eq_true.1 part_8_0 k (List.mem_range'_1.2 ⟨by omega, by omega⟩); simpa using this
  omega
set_option maxRecDepth 100000 in
theorem sum_9 : sumB 9 = true := by decide +kernel
set_option maxRecDepth 100000 in
theorem part_9_0 : ((List.range' 0 9).all fun k => powB 9 k && halfB 9 k) = true := by decide +kernel
theorem ok_9 (k : Nat) (h : k < 9) : powB 9 k = true ∧ halfB 9 k = true := by
  by_cases h0 : k < 9
  · have := List.all_eq_true.1 part_9_0 k (List.mem_range'_1.2 ⟨by omega, by omega⟩); simpa using this
  omega
set_option maxRecDepth 100000 in
theorem sum_10 : sumB 10 = true := by decide +kernel
set_option maxRecDepth 100000 in
theorem part_10_0 : ((List.range' 0 10).all fun k => powB 10 k && halfB 10 k) = true := by decide +kernel
theorem ok_10 (k : Nat) (h : k < 10) : powB 10 k = true ∧ halfB 10 k = true := by
  by_cases h0 : k < 10
  · have := List.all_eq_true.1 part_10_0 k (List.mem_range'_1.2 ⟨by omega, by omega⟩); simpa using this
  omega
set_option maxRecDepth 100000 in
theorem sum_11 : sumB 11 = true := by decide +kernel
set_option maxRecDepth 100000 in
theorem part_11_0 : ((List.range' 0 11).all fun k => powB 11 k && halfB 11 k) = true := by decide +kernel
theorem ok_11 (k : Nat) (h : k < 11) : powB 11 k = true ∧ halfB 11 k = true := by
  by_cases h0 : k < 11
  · have := List.all_eq_true.1 part_11_0 k (List.mem_range'_1.2 ⟨by omega, by omega⟩); simpa using this
  omega
set_option maxRecDepth 100000 in
theorem sum_12 : sumB 12 = true := by decide +kernel
set_option maxRecDepth 100000 in
theorem part_12_0 : ((List.range' 0 12).all fun k => powB 12 k && halfB 12 k) = true := by decide +kernel
theorem ok_12 (k : Nat) (h : k < 12) : powB 12 k = true ∧ halfB 12 k = true := by
  by_cases h0 : k < 12
  · have := List.all_eq_true.1 part_12_0 k (List.mem_range'_1.2 ⟨by omega, by omega⟩); simpa using this
  omega
set_option maxRecDepth 100000 in
theorem sum_13 : sumB 13 = true := by decide +kernel
set_option maxRecDepth 100000 in
theorem part_13_0 : ((List.range' 0 13).all fun k => powB 13 k && halfB 13 k) = true := by decide +kernel
theorem ok_13 (k : Nat) (h : k < 13) : powB 13 k = true ∧ halfB 13 k = true := by
  by_cases h0 : k < 13
  · have := List.all_eq_true.1 part_13_0 k (List.mem_range'_1.2 ⟨by omega, by omega⟩); simpa using this
  omega
set_option maxRecDepth 100000 in
theorem sum_14 : sumB 14 = true := by decide +kernel
set_option maxRecDepth 100000 in
theorem part_14_0 : ((List.range' 0 14).all fun k => powB 14 k && halfB 14 k) = true := by decide +kernel
theorem ok_14 (k : Nat) (h : k < 14) : powB 14 k = true ∧ halfB 14 k = true := by
  by_cases h0 : k < 14
  · have := List.all_eq_true.1 part_14_0 k (List.mem_range'_1.2 ⟨by omega, by omega⟩); simpa using this
  omega
set_option maxRecDepth 100000 in
theorem sum_15 : sumB 15 = true := by decide +kernel
set_option maxRecDepth 100000 in
theorem part_15_0 : ((List.range' 0 15).all fun k => powB 15 k && halfB 15 k) = true := by decide +kernel
theorem ok_15 (k : Nat) (h : k < 15) : powB 15 k = true ∧ halfB 15 k = true := by
  by_cases h0 : k < 15
  · have := List.all_eq_true.1 part_15_0 k (List.mem_range'_1.2 ⟨by omega, by omega⟩); simpa using this
  omega
set_option maxRecDepth 100000 in
theorem sum_16 : sumB 16 = true := by decide +kernel
set_option maxRecDepth 100000 in
theorem part_16_0 : ((List.range' 0 16).all fun k => powB 16 k && halfB 16 k) = true := by decide +kernel
theorem ok_16 (k : Nat) (h : k < 16) : powB 16 k = true ∧ halfB 16 k = true := by
  by_cases h0 : k < 16
  · have := List.all_eq_true.1 part_16_0 k (List.mem_range'_1.2 ⟨by omega, by omega⟩); simpa using this
  omega
set_option maxRecDepth 100000 in
theorem sum_17 : sumB 17 = true := by decide +kernel
set_option maxRecDepth 100000 in
theorem part_17_0 : ((List.range' 0 17).all fun k => powB 17 k && halfB 17 k) = true := by decide +kernel
theorem ok_17 (k : Nat) (h : k < 17) : powB 17 k = true ∧ halfB 17 k = true := by
  by_cases h0 : k < 17
  · have := List.all_eq_true.1 part_17_0 k (List.mem_range'_1.2 ⟨by omega, by omega⟩); simpa using this
  omega
set_option maxRecDepth 100000 in
theorem sum_18 : sumB 18 = true := by decide +kernel
set_option maxRecDepth 100000 in
theorem part_18_0 : ((List.range' 0 18).all fun k => powB 18 k && halfB 18 k) = true := by decide +kernel
theorem ok_18 (k : Nat) (h : k < 18) : powB 18 k = true ∧ halfB 18 k = true := by
  by_cases h0 : k < 18
  · have := List.all_eq_true.1 part_18_0 k (List.mem_range'_1.2 ⟨by omega, by omega⟩); simpa using this
  omega
set_option maxRecDepth 100000 in
theorem sum_19 : sumB 19 = true := by decide +kernel
set_option maxRecDepth 100000 in
theorem part_19_0 : ((List.range' 0 19).all fun k => powB 19 k && halfB 19 k) = true := by decide +kernel
theorem ok_19 (k : Nat) (h : k < 19) : powB 19 k = true ∧ halfB 19 k = true := by
  by_cases h0 : k < 19
  · have := List.all_eq_true.1 part_19_0 k (List.mem_range'_1.2 ⟨by omega, by omega⟩); simpa using this
  omega
set_option maxRecDepth 100000 in
theorem sum_20 : sumB 20 = true := by decide +kernel
set_option maxRecDepth 100000 in
theorem part_20_0 : ((List.range' 0 20).all fun k => powB 20 k && halfB 20 k) = true := by decide +kernel
theorem ok_20 (k : Nat) (h : k < 20) : powB 20 k = true ∧ halfB 20 k = true := by
  by_cases h0 : k < 20
  · have := List.all_eq_true.1 part_20_0 k (List.mem_range'_1.2 ⟨by omega, by omega⟩); simpa using this
  omega
set_option maxRecDepth 100000 in
theorem sum_21 : sumB 21 = true := by decide +kernel
set_option maxRecDepth 100000 in
theorem part_21_0 : ((List.range' 0 21).all fun k => powB 21 k && halfB 21 k) = true := by decide +kernel
theorem ok_21 (k : Nat) (h : k < 21) : powB 21 k = true ∧ halfB 21 k = true := by
  by_cases h0 : k < 21
  · have := List.all_eq_true.1 part_21_0 k (List.mem_range'_1.2 ⟨by omega, by omega⟩); simpa using this
  omega
set_option maxRecDepth 100000 in
theorem sum_22 : sumB 22 = true := by decide +kernel
set_option maxRecDepth 100000 in
theorem part_22_0 : ((List.range' 0 22).all fun k => powB 22 k && halfB 22 k) = true := by decide +kernel
theorem ok_22 (k : Nat) (h : k < 22) : powB 22 k = true ∧ halfB 22 k = true := by
  by_cases h0 : k < 22
  · have := List.all_eq_true.1 part_22_0 k (List.mem_range'_1.2 ⟨by omega, by omega⟩); simpa using this
  omega
set_option maxRecDepth 100000 in
theorem sum_23 : sumB 23 = true := by decide +kernel
set_option maxRecDepth 100000 in
theorem part_23_0 : ((List.range' 0 23).all fun k => powB 23 k && halfB 23 k) = true := by decide +kernel
theorem ok_23 (k : Nat) (h : k < 23) : powB 23 k = true ∧ halfB 23 k = true := by
  by_cases h0 : k < 23
  · have := List.all_eq_true.1 part_23_0 k (List.mem_range'_1.2 ⟨by omega, by omega⟩); simpa using this
  omega
set_option maxRecDepth 100000 in
theorem sum_24 : sumB 24 = true := by decide +kernel
set_option maxRecDepth 100000 in
theorem part_24_0 : ((List.range' 0 24).all fun k => powB 24 k && halfB 24 k) = true := by decide +kernel
theorem ok_24 (k : Nat) (h : k < 24) : powB 24 k = true ∧ halfB 24 k = true := by
  by_cases h0 : k < 24
  · have := List.all_eq_true.1 part_24_0 k (List.mem_range'_1.2 ⟨by omega, by omega⟩); simpa using this
  omega
end Go.Proofs.Ythkooiopiaakbaa
