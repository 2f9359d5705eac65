/- The contracts of the enclosure of what fades: its cases. -/
import Derived.Test.YthkooiopiaakbaaFadp
namespace Go.Proofs.Ythkooiopiaakbaa
open Go.RowKit Go.Lib
attribute [local go_sem] run_store_float run_store_complex
set_option linter.unusedVariables false

theorem max_le {a b : Int} (h : a ≤ b) : (if a < b then b else a) = b := by split <;> omega

set_option maxHeartbeats 1000000 in
theorem Fading_far1 {lo hi : Int} (h0 : 0 ≤ lo) (h : 1099511627776 < lo) (hh : hi < lo) (w : World) : Calls Try.prog 65 #[.agg #[.int .i64 lo, .int .i64 hi]] w (Mem (rngV 0 0 2) w) := by
  unfold rngV
  have hn : ¬ lo < 0 := by omega
  go_enter Try.func65, Try.ntmps65
  go_wp2_with fail
  refine bodyPost_ret (v := .tuple #[.agg #[.int .i64 0, .int .i64 0], .int .i64 2]) (by simp [results, Try.results65, go_sem]) rfl ⟨rfl, ?_⟩
  repeat (first | exact Below.refl _ _ | refine Below.drew ?_ | refine below_drewN ?_ _ | refine Below.setCell ?_ (by simp <;> omega) _ | refine Below.alloc ?_ (by first | exact Nat.le_refl _ | (simp <;> omega)) _)

set_option maxHeartbeats 1000000 in
theorem Fading_far2 {lo hi : Int} (h0 : 0 ≤ lo) (h : 1099511627776 < lo) (hh : ¬ hi < lo) (w : World) : Calls Try.prog 65 #[.agg #[.int .i64 lo, .int .i64 hi]] w (Mem (rngV 0 0 2) w) := by
  unfold rngV
  have hn : ¬ lo < 0 := by omega
  have h2 : 1099511627776 < hi := by omega
  have hm := max_le (Int.not_lt.1 hh)
  go_enter Try.func65, Try.ntmps65
  go_wp2_with fail
  refine bodyPost_ret (v := .tuple #[.agg #[.int .i64 0, .int .i64 0], .int .i64 2]) (by simp [results, Try.results65, go_sem]) rfl ⟨rfl, ?_⟩
  repeat (first | exact Below.refl _ _ | refine Below.drew ?_ | refine below_drewN ?_ _ | refine Below.setCell ?_ (by simp <;> omega) _ | refine Below.alloc ?_ (by first | exact Nat.le_refl _ | (simp <;> omega)) _)

set_option maxHeartbeats 1000000 in
theorem FadingRef_far {lo hi : Int} (h0 : 0 ≤ lo) (h : 1099511627776 < lo) (w : World) : Calls Try.prog 66 #[.agg #[.int .i64 lo, .int .i64 hi]] w (Mem (rngV 0 0 2) w) := by
  unfold rngV
  have hn : ¬ lo < 0 := by omega
  go_enter Try.func66, Try.ntmps66
  go_wp2_with fail
  refine bodyPost_ret (v := .tuple #[.agg #[.int .i64 0, .int .i64 0], .int .i64 2]) (by simp [results, Try.results66, go_sem]) rfl ⟨rfl, ?_⟩
  repeat (first | exact Below.refl _ _ | refine Below.drew ?_ | refine below_drewN ?_ _ | refine Below.setCell ?_ (by simp <;> omega) _ | refine Below.alloc ?_ (by first | exact Nat.le_refl _ | (simp <;> omega)) _)

set_option maxHeartbeats 1000000 in
theorem Fading_wide {lo hi : Int} (h0 : 0 ≤ lo) (h : lo ≤ 1099511627776) (hh : 1099511627776 < hi) (w : World) : Calls Try.prog 65 #[.agg #[.int .i64 lo, .int .i64 hi]] w (Mem (rngV 0 0 2) w) := by
  unfold rngV
  have hn : ¬ lo < 0 := by omega
  have h2 : ¬ hi < lo := by omega
  go_enter Try.func65, Try.ntmps65
  go_wp2_with fail
  refine bodyPost_ret (v := .tuple #[.agg #[.int .i64 0, .int .i64 0], .int .i64 2]) (by simp [results, Try.results65, go_sem]) rfl ⟨rfl, ?_⟩
  repeat (first | exact Below.refl _ _ | refine Below.drew ?_ | refine below_drewN ?_ _ | refine Below.setCell ?_ (by simp <;> omega) _ | refine Below.alloc ?_ (by first | exact Nat.le_refl _ | (simp <;> omega)) _)

set_option maxHeartbeats 1000000 in
theorem FadingRef_wide {lo hi : Int} (h0 : 0 ≤ lo) (h : lo ≤ 1099511627776) (hh : 1099511627776 < hi) (w : World) : Calls Try.prog 66 #[.agg #[.int .i64 lo, .int .i64 hi]] w (Mem (rngV 0 0 2) w) := by
  unfold rngV
  have hn : ¬ lo < 0 := by omega
  have h2 : ¬ 1099511627776 < lo := by omega
  go_enter Try.func66, Try.ntmps66
  go_wp2_with fail
  refine bodyPost_ret (v := .tuple #[.agg #[.int .i64 0, .int .i64 0], .int .i64 2]) (by simp [results, Try.results66, go_sem]) rfl ⟨rfl, ?_⟩
  repeat (first | exact Below.refl _ _ | refine Below.drew ?_ | refine below_drewN ?_ _ | refine Below.setCell ?_ (by simp <;> omega) _ | refine Below.alloc ?_ (by first | exact Nat.le_refl _ | (simp <;> omega)) _)

set_option maxHeartbeats 1000000 in
theorem Fading_order {lo hi : Int} (h0 : 0 ≤ lo) (h : lo ≤ 1099511627776) (hh : hi < lo) (w : World) : Calls Try.prog 65 #[.agg #[.int .i64 lo, .int .i64 hi]] w (Mem (rngV 0 0 10) w) := by
  unfold rngV
  have hn : ¬ lo < 0 := by omega
  have h2 : ¬ 1099511627776 < lo := by omega
  have h3 : ¬ 1099511627776 < hi := by omega
  go_enter Try.func65, Try.ntmps65
  go_wp2_with fail
  refine bodyPost_ret (v := .tuple #[.agg #[.int .i64 0, .int .i64 0], .int .i64 10]) (by simp [results, Try.results65, go_sem]) rfl ⟨rfl, ?_⟩
  repeat (first | exact Below.refl _ _ | refine Below.drew ?_ | refine below_drewN ?_ _ | refine Below.setCell ?_ (by simp <;> omega) _ | refine Below.alloc ?_ (by first | exact Nat.le_refl _ | (simp <;> omega)) _)

set_option maxHeartbeats 1000000 in
theorem FadingRef_order {lo hi : Int} (h0 : 0 ≤ lo) (h : lo ≤ 1099511627776) (hh : hi < lo) (w : World) : Calls Try.prog 66 #[.agg #[.int .i64 lo, .int .i64 hi]] w (Mem (rngV 0 0 10) w) := by
  unfold rngV
  have hn : ¬ lo < 0 := by omega
  have h2 : ¬ 1099511627776 < lo := by omega
  have h3 : ¬ 1099511627776 < hi := by omega
  go_enter Try.func66, Try.ntmps66
  go_wp2_with fail
  refine bodyPost_ret (v := .tuple #[.agg #[.int .i64 0, .int .i64 0], .int .i64 10]) (by simp [results, Try.results66, go_sem]) rfl ⟨rfl, ?_⟩
  repeat (first | exact Below.refl _ _ | refine Below.drew ?_ | refine below_drewN ?_ _ | refine Below.setCell ?_ (by simp <;> omega) _ | refine Below.alloc ?_ (by first | exact Nat.le_refl _ | (simp <;> omega)) _)

set_option maxHeartbeats 1000000 in
theorem Fading_none {lo hi : Int} (h0 : 0 ≤ lo) (h : lo ≤ hi) (hh : hi ≤ 1099511627776) (hl : 16777216 < lo) (w : World) : Calls Try.prog 65 #[.agg #[.int .i64 lo, .int .i64 hi]] w (Mem (rngV 0 1 0) w) := by
  unfold rngV
  have hn : ¬ lo < 0 := by omega
  have h2 : ¬ 1099511627776 < lo := by omega
  have h3 : ¬ 1099511627776 < hi := by omega
  have h4 : ¬ hi < lo := by omega
  have h5 : ¬ lo ≤ 16777216 := by omega
  have h6 : ¬ hi ≤ 16777216 := by omega
  have hm := max_le h
  go_enter Try.func65, Try.ntmps65
  go_wp2_with fail
  refine bodyPost_ret (v := .tuple #[.agg #[.int .i64 0, .int .i64 1], .int .i64 0]) (by simp [results, Try.results65, go_sem]) rfl ⟨rfl, ?_⟩
  repeat (first | exact Below.refl _ _ | refine Below.drew ?_ | refine below_drewN ?_ _ | refine Below.setCell ?_ (by simp <;> omega) _ | refine Below.alloc ?_ (by first | exact Nat.le_refl _ | (simp <;> omega)) _)

set_option maxHeartbeats 1000000 in
theorem FadingRef_none {lo hi : Int} (h0 : 0 ≤ lo) (h : lo ≤ hi) (hh : hi ≤ 1099511627776) (hl : 16777216 < lo) (w : World) : Calls Try.prog 66 #[.agg #[.int .i64 lo, .int .i64 hi]] w (Mem (rngV 0 1 0) w) := by
  unfold rngV
  have hn : ¬ lo < 0 := by omega
  have h2 : ¬ 1099511627776 < lo := by omega
  have h3 : ¬ 1099511627776 < hi := by omega
  have h4 : ¬ hi < lo := by omega
  have h5 : ¬ lo ≤ 16777216 := by omega
  have h6 : ¬ hi ≤ 16777216 := by omega
  have hm := max_le h
  go_enter Try.func66, Try.ntmps66
  go_wp2_with fail
  refine bodyPost_ret (v := .tuple #[.agg #[.int .i64 0, .int .i64 1], .int .i64 0]) (by simp [results, Try.results66, go_sem]) rfl ⟨rfl, ?_⟩
  repeat (first | exact Below.refl _ _ | refine Below.drew ?_ | refine below_drewN ?_ _ | refine Below.setCell ?_ (by simp <;> omega) _ | refine Below.alloc ?_ (by first | exact Nat.le_refl _ | (simp <;> omega)) _)

set_option maxHeartbeats 1000000 in
theorem Fading_one0 {lo hi d u q c : Int} (h0 : 0 ≤ lo) (h1 : lo ≤ 16777216) (h5 : 16777216 < hi) (h6 : hi ≤ 1099511627776) (hc : c = 1048576) (HU : Hid (∀ w, Calls Try.prog 133 #[.int .i64 lo] w (Quiet (.int .i64 u) w))) (HH : Hid (∀ w, Calls Try.prog 100 #[.int .i64 u, .int .i64 1048576, .int .i64 1073741824] w (Quiet (.int .i64 c) w))) (w : World) : Calls Try.prog 65 #[.agg #[.int .i64 lo, .int .i64 hi]] w (Mem (rngV 0 1048576 0) w) := by
  unfold rngV
  have hm := max_le (a := lo) (b := hi) (by omega)
  have hn : ¬ lo < 0 := by omega
  have h2 : ¬ 1099511627776 < lo := by omega
  have h3 : ¬ 1099511627776 < hi := by omega
  have h4 : ¬ hi < lo := by omega
  have h7 : ¬ hi ≤ 16777216 := by omega
  subst hc
  go_enter Try.func65, Try.ntmps65
  go_wp2_with fail
  refine (HU.out _).mono ?_
  rintro e w' ⟨rfl, n0, rfl⟩
  go_wp2_with fail
  refine (HH.out _).mono ?_
  rintro e w' ⟨rfl, n1, rfl⟩
  go_wp2_with fail
  refine bodyPost_ret (v := .tuple #[.agg #[.int .i64 0, .int .i64 1048576], .int .i64 0]) (by simp [results, Try.results65, go_sem]) rfl ⟨rfl, ?_⟩
  repeat (first | exact Below.refl _ _ | refine Below.drew ?_ | refine below_drewN ?_ _ | refine Below.setCell ?_ (by simp <;> omega) _ | refine Below.alloc ?_ (by first | exact Nat.le_refl _ | (simp <;> omega)) _)

set_option maxHeartbeats 1000000 in
theorem Fading_two00 {lo hi d u q c : Int} (h0 : 0 ≤ lo) (h1 : lo ≤ hi) (h5 : hi ≤ 16777216) (hq : q = 0) (hc : c = 1048576) (HD : Hid (∀ w, Calls Try.prog 132 #[.int .i64 hi] w (Quiet (.int .i64 d) w))) (HL : Hid (∀ w, Calls Try.prog 73 #[.int .i64 d, .int .i64 1048576, .int .i64 1073741824] w (Quiet (.int .i64 q) w))) (HU : Hid (∀ w, Calls Try.prog 133 #[.int .i64 lo] w (Quiet (.int .i64 u) w))) (HH : Hid (∀ w, Calls Try.prog 100 #[.int .i64 u, .int .i64 1048576, .int .i64 1073741824] w (Quiet (.int .i64 c) w))) (w : World) : Calls Try.prog 65 #[.agg #[.int .i64 lo, .int .i64 hi]] w (Mem (rngV 0 1048576 0) w) := by
  unfold rngV
  have hm := max_le (a := lo) (b := hi) (by omega)
  have hn : ¬ lo < 0 := by omega
  have h2 : ¬ 1099511627776 < lo := by omega
  have h3 : ¬ 1099511627776 < hi := by omega
  have h4 : ¬ hi < lo := by omega
  have h7 : lo ≤ 16777216 := by omega
  subst hc
  subst hq
  go_enter Try.func65, Try.ntmps65
  go_wp2_with fail
  refine (HD.out _).mono ?_
  rintro e w' ⟨rfl, n0, rfl⟩
  go_wp2_with fail
  refine (HL.out _).mono ?_
  rintro e w' ⟨rfl, n1, rfl⟩
  go_wp2_with fail
  refine (HU.out _).mono ?_
  rintro e w' ⟨rfl, n2, rfl⟩
  go_wp2_with fail
  refine (HH.out _).mono ?_
  rintro e w' ⟨rfl, n3, rfl⟩
  go_wp2_with fail
  refine bodyPost_ret (v := .tuple #[.agg #[.int .i64 0, .int .i64 1048576], .int .i64 0]) (by simp [results, Try.results65, go_sem]) rfl ⟨rfl, ?_⟩
  repeat (first | exact Below.refl _ _ | refine Below.drew ?_ | refine below_drewN ?_ _ | refine Below.setCell ?_ (by simp <;> omega) _ | refine Below.alloc ?_ (by first | exact Nat.le_refl _ | (simp <;> omega)) _)

set_option maxHeartbeats 1000000 in
theorem Fading_two10 {lo hi d u q c : Int} (h0 : 0 ≤ lo) (h1 : lo ≤ hi) (h5 : hi ≤ 16777216) (hq : 0 < q) (hc : c = 1048576) (HD : Hid (∀ w, Calls Try.prog 132 #[.int .i64 hi] w (Quiet (.int .i64 d) w))) (HL : Hid (∀ w, Calls Try.prog 73 #[.int .i64 d, .int .i64 1048576, .int .i64 1073741824] w (Quiet (.int .i64 q) w))) (HU : Hid (∀ w, Calls Try.prog 133 #[.int .i64 lo] w (Quiet (.int .i64 u) w))) (HH : Hid (∀ w, Calls Try.prog 100 #[.int .i64 u, .int .i64 1048576, .int .i64 1073741824] w (Quiet (.int .i64 c) w))) (w : World) : Calls Try.prog 65 #[.agg #[.int .i64 lo, .int .i64 hi]] w (Mem (rngV q 1048576 0) w) := by
  unfold rngV
  have hm := max_le (a := lo) (b := hi) (by omega)
  have hn : ¬ lo < 0 := by omega
  have h2 : ¬ 1099511627776 < lo := by omega
  have h3 : ¬ 1099511627776 < hi := by omega
  have h4 : ¬ hi < lo := by omega
  have h7 : lo ≤ 16777216 := by omega
  subst hc
  have hq1 : ¬ q < 0 := by omega
  go_enter Try.func65, Try.ntmps65
  go_wp2_with fail
  refine (HD.out _).mono ?_
  rintro e w' ⟨rfl, n0, rfl⟩
  go_wp2_with fail
  refine (HL.out _).mono ?_
  rintro e w' ⟨rfl, n1, rfl⟩
  go_wp2_with fail
  refine (HU.out _).mono ?_
  rintro e w' ⟨rfl, n2, rfl⟩
  go_wp2_with fail
  refine (HH.out _).mono ?_
  rintro e w' ⟨rfl, n3, rfl⟩
  go_wp2_with fail
  refine bodyPost_ret (v := .tuple #[.agg #[.int .i64 q, .int .i64 1048576], .int .i64 0]) (by simp [results, Try.results65, go_sem]) rfl ⟨rfl, ?_⟩
  repeat (first | exact Below.refl _ _ | refine Below.drew ?_ | refine below_drewN ?_ _ | refine Below.setCell ?_ (by simp <;> omega) _ | refine Below.alloc ?_ (by first | exact Nat.le_refl _ | (simp <;> omega)) _)

set_option maxHeartbeats 1000000 in
theorem Fading_one1 {lo hi d u q c : Int} (h0 : 0 ≤ lo) (h1 : lo ≤ 16777216) (h5 : 16777216 < hi) (h6 : hi ≤ 1099511627776) (hc : c < 1048576) (HU : Hid (∀ w, Calls Try.prog 133 #[.int .i64 lo] w (Quiet (.int .i64 u) w))) (HH : Hid (∀ w, Calls Try.prog 100 #[.int .i64 u, .int .i64 1048576, .int .i64 1073741824] w (Quiet (.int .i64 c) w))) (w : World) : Calls Try.prog 65 #[.agg #[.int .i64 lo, .int .i64 hi]] w (Mem (rngV 0 c 0) w) := by
  unfold rngV
  have hm := max_le (a := lo) (b := hi) (by omega)
  have hn : ¬ lo < 0 := by omega
  have h2 : ¬ 1099511627776 < lo := by omega
  have h3 : ¬ 1099511627776 < hi := by omega
  have h4 : ¬ hi < lo := by omega
  have h7 : ¬ hi ≤ 16777216 := by omega
  have hc1 : ¬ 1048576 < c := by omega
  go_enter Try.func65, Try.ntmps65
  go_wp2_with fail
  refine (HU.out _).mono ?_
  rintro e w' ⟨rfl, n0, rfl⟩
  go_wp2_with fail
  refine (HH.out _).mono ?_
  rintro e w' ⟨rfl, n1, rfl⟩
  go_wp2_with fail
  refine bodyPost_ret (v := .tuple #[.agg #[.int .i64 0, .int .i64 c], .int .i64 0]) (by simp [results, Try.results65, go_sem]) rfl ⟨rfl, ?_⟩
  repeat (first | exact Below.refl _ _ | refine Below.drew ?_ | refine below_drewN ?_ _ | refine Below.setCell ?_ (by simp <;> omega) _ | refine Below.alloc ?_ (by first | exact Nat.le_refl _ | (simp <;> omega)) _)

set_option maxHeartbeats 1000000 in
theorem Fading_two01 {lo hi d u q c : Int} (h0 : 0 ≤ lo) (h1 : lo ≤ hi) (h5 : hi ≤ 16777216) (hq : q = 0) (hc : c < 1048576) (HD : Hid (∀ w, Calls Try.prog 132 #[.int .i64 hi] w (Quiet (.int .i64 d) w))) (HL : Hid (∀ w, Calls Try.prog 73 #[.int .i64 d, .int .i64 1048576, .int .i64 1073741824] w (Quiet (.int .i64 q) w))) (HU : Hid (∀ w, Calls Try.prog 133 #[.int .i64 lo] w (Quiet (.int .i64 u) w))) (HH : Hid (∀ w, Calls Try.prog 100 #[.int .i64 u, .int .i64 1048576, .int .i64 1073741824] w (Quiet (.int .i64 c) w))) (w : World) : Calls Try.prog 65 #[.agg #[.int .i64 lo, .int .i64 hi]] w (Mem (rngV 0 c 0) w) := by
  unfold rngV
  have hm := max_le (a := lo) (b := hi) (by omega)
  have hn : ¬ lo < 0 := by omega
  have h2 : ¬ 1099511627776 < lo := by omega
  have h3 : ¬ 1099511627776 < hi := by omega
  have h4 : ¬ hi < lo := by omega
  have h7 : lo ≤ 16777216 := by omega
  have hc1 : ¬ 1048576 < c := by omega
  subst hq
  go_enter Try.func65, Try.ntmps65
  go_wp2_with fail
  refine (HD.out _).mono ?_
  rintro e w' ⟨rfl, n0, rfl⟩
  go_wp2_with fail
  refine (HL.out _).mono ?_
  rintro e w' ⟨rfl, n1, rfl⟩
  go_wp2_with fail
  refine (HU.out _).mono ?_
  rintro e w' ⟨rfl, n2, rfl⟩
  go_wp2_with fail
  refine (HH.out _).mono ?_
  rintro e w' ⟨rfl, n3, rfl⟩
  go_wp2_with fail
  refine bodyPost_ret (v := .tuple #[.agg #[.int .i64 0, .int .i64 c], .int .i64 0]) (by simp [results, Try.results65, go_sem]) rfl ⟨rfl, ?_⟩
  repeat (first | exact Below.refl _ _ | refine Below.drew ?_ | refine below_drewN ?_ _ | refine Below.setCell ?_ (by simp <;> omega) _ | refine Below.alloc ?_ (by first | exact Nat.le_refl _ | (simp <;> omega)) _)

set_option maxHeartbeats 1000000 in
theorem Fading_two11 {lo hi d u q c : Int} (h0 : 0 ≤ lo) (h1 : lo ≤ hi) (h5 : hi ≤ 16777216) (hq : 0 < q) (hc : c < 1048576) (HD : Hid (∀ w, Calls Try.prog 132 #[.int .i64 hi] w (Quiet (.int .i64 d) w))) (HL : Hid (∀ w, Calls Try.prog 73 #[.int .i64 d, .int .i64 1048576, .int .i64 1073741824] w (Quiet (.int .i64 q) w))) (HU : Hid (∀ w, Calls Try.prog 133 #[.int .i64 lo] w (Quiet (.int .i64 u) w))) (HH : Hid (∀ w, Calls Try.prog 100 #[.int .i64 u, .int .i64 1048576, .int .i64 1073741824] w (Quiet (.int .i64 c) w))) (w : World) : Calls Try.prog 65 #[.agg #[.int .i64 lo, .int .i64 hi]] w (Mem (rngV q c 0) w) := by
  unfold rngV
  have hm := max_le (a := lo) (b := hi) (by omega)
  have hn : ¬ lo < 0 := by omega
  have h2 : ¬ 1099511627776 < lo := by omega
  have h3 : ¬ 1099511627776 < hi := by omega
  have h4 : ¬ hi < lo := by omega
  have h7 : lo ≤ 16777216 := by omega
  have hc1 : ¬ 1048576 < c := by omega
  have hq1 : ¬ q < 0 := by omega
  go_enter Try.func65, Try.ntmps65
  go_wp2_with fail
  refine (HD.out _).mono ?_
  rintro e w' ⟨rfl, n0, rfl⟩
  go_wp2_with fail
  refine (HL.out _).mono ?_
  rintro e w' ⟨rfl, n1, rfl⟩
  go_wp2_with fail
  refine (HU.out _).mono ?_
  rintro e w' ⟨rfl, n2, rfl⟩
  go_wp2_with fail
  refine (HH.out _).mono ?_
  rintro e w' ⟨rfl, n3, rfl⟩
  go_wp2_with fail
  refine bodyPost_ret (v := .tuple #[.agg #[.int .i64 q, .int .i64 c], .int .i64 0]) (by simp [results, Try.results65, go_sem]) rfl ⟨rfl, ?_⟩
  repeat (first | exact Below.refl _ _ | refine Below.drew ?_ | refine below_drewN ?_ _ | refine Below.setCell ?_ (by simp <;> omega) _ | refine Below.alloc ?_ (by first | exact Nat.le_refl _ | (simp <;> omega)) _)

set_option maxHeartbeats 1000000 in
theorem FadingRef_one0 {lo hi d u q c : Int} (h0 : 0 ≤ lo) (h1 : lo ≤ 16777216) (h5 : 16777216 < hi) (h6 : hi ≤ 1099511627776) (hc : c = 1048576) (HU : Hid (∀ w, Calls Try.prog 134 #[.int .i64 lo, .bool true] w (fun e w' => e = .returned (.int .i64 u) ∧ w = w'))) (HH : Hid (∀ w, Calls Try.prog 102 #[.int .i64 u, .int .i64 1024] w (fun e w' => e = .returned (.int .i64 c) ∧ w = w'))) (w : World) : Calls Try.prog 66 #[.agg #[.int .i64 lo, .int .i64 hi]] w (Mem (rngV 0 1048576 0) w) := by
  unfold rngV
  have hm := max_le (a := lo) (b := hi) (by omega)
  have hn : ¬ lo < 0 := by omega
  have h2 : ¬ 1099511627776 < lo := by omega
  have h3 : ¬ 1099511627776 < hi := by omega
  have h4 : ¬ hi < lo := by omega
  have h7 : ¬ hi ≤ 16777216 := by omega
  subst hc
  go_enter Try.func66, Try.ntmps66
  go_wp2_with fail
  refine (HU.out _).mono ?_
  rintro e w' ⟨rfl, rfl⟩
  go_wp2_with fail
  refine (HH.out _).mono ?_
  rintro e w' ⟨rfl, rfl⟩
  go_wp2_with fail
  refine bodyPost_ret (v := .tuple #[.agg #[.int .i64 0, .int .i64 1048576], .int .i64 0]) (by simp [results, Try.results66, go_sem]) rfl ⟨rfl, ?_⟩
  repeat (first | exact Below.refl _ _ | refine Below.drew ?_ | refine below_drewN ?_ _ | refine Below.setCell ?_ (by simp <;> omega) _ | refine Below.alloc ?_ (by first | exact Nat.le_refl _ | (simp <;> omega)) _)

set_option maxHeartbeats 1000000 in
theorem FadingRef_two00 {lo hi d u q c : Int} (h0 : 0 ≤ lo) (h1 : lo ≤ hi) (h5 : hi ≤ 16777216) (hq : q = 0) (hc : c = 1048576) (HD : Hid (∀ w, Calls Try.prog 134 #[.int .i64 hi, .bool false] w (fun e w' => e = .returned (.int .i64 d) ∧ w = w'))) (HL : Hid (∀ w, Calls Try.prog 64 #[.int .i64 d, .int .i64 1024] w (fun e w' => e = .returned (.int .i64 q) ∧ w = w'))) (HU : Hid (∀ w, Calls Try.prog 134 #[.int .i64 lo, .bool true] w (fun e w' => e = .returned (.int .i64 u) ∧ w = w'))) (HH : Hid (∀ w, Calls Try.prog 102 #[.int .i64 u, .int .i64 1024] w (fun e w' => e = .returned (.int .i64 c) ∧ w = w'))) (w : World) : Calls Try.prog 66 #[.agg #[.int .i64 lo, .int .i64 hi]] w (Mem (rngV 0 1048576 0) w) := by
  unfold rngV
  have hm := max_le (a := lo) (b := hi) (by omega)
  have hn : ¬ lo < 0 := by omega
  have h2 : ¬ 1099511627776 < lo := by omega
  have h3 : ¬ 1099511627776 < hi := by omega
  have h4 : ¬ hi < lo := by omega
  have h7 : lo ≤ 16777216 := by omega
  subst hc
  subst hq
  go_enter Try.func66, Try.ntmps66
  go_wp2_with fail
  refine (HD.out _).mono ?_
  rintro e w' ⟨rfl, rfl⟩
  go_wp2_with fail
  refine (HL.out _).mono ?_
  rintro e w' ⟨rfl, rfl⟩
  go_wp2_with fail
  refine (HU.out _).mono ?_
  rintro e w' ⟨rfl, rfl⟩
  go_wp2_with fail
  refine (HH.out _).mono ?_
  rintro e w' ⟨rfl, rfl⟩
  go_wp2_with fail
  refine bodyPost_ret (v := .tuple #[.agg #[.int .i64 0, .int .i64 1048576], .int .i64 0]) (by simp [results, Try.results66, go_sem]) rfl ⟨rfl, ?_⟩
  repeat (first | exact Below.refl _ _ | refine Below.drew ?_ | refine below_drewN ?_ _ | refine Below.setCell ?_ (by simp <;> omega) _ | refine Below.alloc ?_ (by first | exact Nat.le_refl _ | (simp <;> omega)) _)

set_option maxHeartbeats 1000000 in
theorem FadingRef_two10 {lo hi d u q c : Int} (h0 : 0 ≤ lo) (h1 : lo ≤ hi) (h5 : hi ≤ 16777216) (hq : 0 < q) (hc : c = 1048576) (HD : Hid (∀ w, Calls Try.prog 134 #[.int .i64 hi, .bool false] w (fun e w' => e = .returned (.int .i64 d) ∧ w = w'))) (HL : Hid (∀ w, Calls Try.prog 64 #[.int .i64 d, .int .i64 1024] w (fun e w' => e = .returned (.int .i64 q) ∧ w = w'))) (HU : Hid (∀ w, Calls Try.prog 134 #[.int .i64 lo, .bool true] w (fun e w' => e = .returned (.int .i64 u) ∧ w = w'))) (HH : Hid (∀ w, Calls Try.prog 102 #[.int .i64 u, .int .i64 1024] w (fun e w' => e = .returned (.int .i64 c) ∧ w = w'))) (w : World) : Calls Try.prog 66 #[.agg #[.int .i64 lo, .int .i64 hi]] w (Mem (rngV q 1048576 0) w) := by
  unfold rngV
  have hm := max_le (a := lo) (b := hi) (by omega)
  have hn : ¬ lo < 0 := by omega
  have h2 : ¬ 1099511627776 < lo := by omega
  have h3 : ¬ 1099511627776 < hi := by omega
  have h4 : ¬ hi < lo := by omega
  have h7 : lo ≤ 16777216 := by omega
  subst hc
  have hq1 : ¬ q < 0 := by omega
  go_enter Try.func66, Try.ntmps66
  go_wp2_with fail
  refine (HD.out _).mono ?_
  rintro e w' ⟨rfl, rfl⟩
  go_wp2_with fail
  refine (HL.out _).mono ?_
  rintro e w' ⟨rfl, rfl⟩
  go_wp2_with fail
  refine (HU.out _).mono ?_
  rintro e w' ⟨rfl, rfl⟩
  go_wp2_with fail
  refine (HH.out _).mono ?_
  rintro e w' ⟨rfl, rfl⟩
  go_wp2_with fail
  refine bodyPost_ret (v := .tuple #[.agg #[.int .i64 q, .int .i64 1048576], .int .i64 0]) (by simp [results, Try.results66, go_sem]) rfl ⟨rfl, ?_⟩
  repeat (first | exact Below.refl _ _ | refine Below.drew ?_ | refine below_drewN ?_ _ | refine Below.setCell ?_ (by simp <;> omega) _ | refine Below.alloc ?_ (by first | exact Nat.le_refl _ | (simp <;> omega)) _)

set_option maxHeartbeats 1000000 in
theorem FadingRef_one1 {lo hi d u q c : Int} (h0 : 0 ≤ lo) (h1 : lo ≤ 16777216) (h5 : 16777216 < hi) (h6 : hi ≤ 1099511627776) (hc : c < 1048576) (HU : Hid (∀ w, Calls Try.prog 134 #[.int .i64 lo, .bool true] w (fun e w' => e = .returned (.int .i64 u) ∧ w = w'))) (HH : Hid (∀ w, Calls Try.prog 102 #[.int .i64 u, .int .i64 1024] w (fun e w' => e = .returned (.int .i64 c) ∧ w = w'))) (w : World) : Calls Try.prog 66 #[.agg #[.int .i64 lo, .int .i64 hi]] w (Mem (rngV 0 c 0) w) := by
  unfold rngV
  have hm := max_le (a := lo) (b := hi) (by omega)
  have hn : ¬ lo < 0 := by omega
  have h2 : ¬ 1099511627776 < lo := by omega
  have h3 : ¬ 1099511627776 < hi := by omega
  have h4 : ¬ hi < lo := by omega
  have h7 : ¬ hi ≤ 16777216 := by omega
  have hc1 : ¬ 1048576 < c := by omega
  go_enter Try.func66, Try.ntmps66
  go_wp2_with fail
  refine (HU.out _).mono ?_
  rintro e w' ⟨rfl, rfl⟩
  go_wp2_with fail
  refine (HH.out _).mono ?_
  rintro e w' ⟨rfl, rfl⟩
  go_wp2_with fail
  refine bodyPost_ret (v := .tuple #[.agg #[.int .i64 0, .int .i64 c], .int .i64 0]) (by simp [results, Try.results66, go_sem]) rfl ⟨rfl, ?_⟩
  repeat (first | exact Below.refl _ _ | refine Below.drew ?_ | refine below_drewN ?_ _ | refine Below.setCell ?_ (by simp <;> omega) _ | refine Below.alloc ?_ (by first | exact Nat.le_refl _ | (simp <;> omega)) _)

set_option maxHeartbeats 1000000 in
theorem FadingRef_two01 {lo hi d u q c : Int} (h0 : 0 ≤ lo) (h1 : lo ≤ hi) (h5 : hi ≤ 16777216) (hq : q = 0) (hc : c < 1048576) (HD : Hid (∀ w, Calls Try.prog 134 #[.int .i64 hi, .bool false] w (fun e w' => e = .returned (.int .i64 d) ∧ w = w'))) (HL : Hid (∀ w, Calls Try.prog 64 #[.int .i64 d, .int .i64 1024] w (fun e w' => e = .returned (.int .i64 q) ∧ w = w'))) (HU : Hid (∀ w, Calls Try.prog 134 #[.int .i64 lo, .bool true] w (fun e w' => e = .returned (.int .i64 u) ∧ w = w'))) (HH : Hid (∀ w, Calls Try.prog 102 #[.int .i64 u, .int .i64 1024] w (fun e w' => e = .returned (.int .i64 c) ∧ w = w'))) (w : World) : Calls Try.prog 66 #[.agg #[.int .i64 lo, .int .i64 hi]] w (Mem (rngV 0 c 0) w) := by
  unfold rngV
  have hm := max_le (a := lo) (b := hi) (by omega)
  have hn : ¬ lo < 0 := by omega
  have h2 : ¬ 1099511627776 < lo := by omega
  have h3 : ¬ 1099511627776 < hi := by omega
  have h4 : ¬ hi < lo := by omega
  have h7 : lo ≤ 16777216 := by omega
  have hc1 : ¬ 1048576 < c := by omega
  subst hq
  go_enter Try.func66, Try.ntmps66
  go_wp2_with fail
  refine (HD.out _).mono ?_
  rintro e w' ⟨rfl, rfl⟩
  go_wp2_with fail
  refine (HL.out _).mono ?_
  rintro e w' ⟨rfl, rfl⟩
  go_wp2_with fail
  refine (HU.out _).mono ?_
  rintro e w' ⟨rfl, rfl⟩
  go_wp2_with fail
  refine (HH.out _).mono ?_
  rintro e w' ⟨rfl, rfl⟩
  go_wp2_with fail
  refine bodyPost_ret (v := .tuple #[.agg #[.int .i64 0, .int .i64 c], .int .i64 0]) (by simp [results, Try.results66, go_sem]) rfl ⟨rfl, ?_⟩
  repeat (first | exact Below.refl _ _ | refine Below.drew ?_ | refine below_drewN ?_ _ | refine Below.setCell ?_ (by simp <;> omega) _ | refine Below.alloc ?_ (by first | exact Nat.le_refl _ | (simp <;> omega)) _)

set_option maxHeartbeats 1000000 in
theorem FadingRef_two11 {lo hi d u q c : Int} (h0 : 0 ≤ lo) (h1 : lo ≤ hi) (h5 : hi ≤ 16777216) (hq : 0 < q) (hc : c < 1048576) (HD : Hid (∀ w, Calls Try.prog 134 #[.int .i64 hi, .bool false] w (fun e w' => e = .returned (.int .i64 d) ∧ w = w'))) (HL : Hid (∀ w, Calls Try.prog 64 #[.int .i64 d, .int .i64 1024] w (fun e w' => e = .returned (.int .i64 q) ∧ w = w'))) (HU : Hid (∀ w, Calls Try.prog 134 #[.int .i64 lo, .bool true] w (fun e w' => e = .returned (.int .i64 u) ∧ w = w'))) (HH : Hid (∀ w, Calls Try.prog 102 #[.int .i64 u, .int .i64 1024] w (fun e w' => e = .returned (.int .i64 c) ∧ w = w'))) (w : World) : Calls Try.prog 66 #[.agg #[.int .i64 lo, .int .i64 hi]] w (Mem (rngV q c 0) w) := by
  unfold rngV
  have hm := max_le (a := lo) (b := hi) (by omega)
  have hn : ¬ lo < 0 := by omega
  have h2 : ¬ 1099511627776 < lo := by omega
  have h3 : ¬ 1099511627776 < hi := by omega
  have h4 : ¬ hi < lo := by omega
  have h7 : lo ≤ 16777216 := by omega
  have hc1 : ¬ 1048576 < c := by omega
  have hq1 : ¬ q < 0 := by omega
  go_enter Try.func66, Try.ntmps66
  go_wp2_with fail
  refine (HD.out _).mono ?_
  rintro e w' ⟨rfl, rfl⟩
  go_wp2_with fail
  refine (HL.out _).mono ?_
  rintro e w' ⟨rfl, rfl⟩
  go_wp2_with fail
  refine (HU.out _).mono ?_
  rintro e w' ⟨rfl, rfl⟩
  go_wp2_with fail
  refine (HH.out _).mono ?_
  rintro e w' ⟨rfl, rfl⟩
  go_wp2_with fail
  refine bodyPost_ret (v := .tuple #[.agg #[.int .i64 q, .int .i64 c], .int .i64 0]) (by simp [results, Try.results66, go_sem]) rfl ⟨rfl, ?_⟩
  repeat (first | exact Below.refl _ _ | refine Below.drew ?_ | refine below_drewN ?_ _ | refine Below.setCell ?_ (by simp <;> omega) _ | refine Below.alloc ?_ (by first | exact Nat.le_refl _ | (simp <;> omega)) _)

end Go.Proofs.Ythkooiopiaakbaa
