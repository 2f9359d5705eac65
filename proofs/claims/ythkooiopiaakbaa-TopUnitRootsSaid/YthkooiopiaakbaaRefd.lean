/- The contracts of the reference's ball of a fraction; the results of both sides are alike. -/
import Derived.Test.YthkooiopiaakbaaRefb
import Derived.Test.YthkooiopiaakbaaRefc
namespace Go.Proofs.Ythkooiopiaakbaa
open Go.RowKit Go.Lib
attribute [local go_sem] run_store_float run_store_complex
set_option linter.unusedVariables false

/-- A result of the program and one of the reference that are alike. -/
def Pair (V V' : Value) : Prop := ∃ x y r e, V = balV (fi x) (fi y) r e ∧ V' = refV x y r e

theorem fi_nought : fi 0 = 0 := by kernel_rfl

theorem pair_bad (e : Int) : Pair (balV 0 0 0 e) (refV 0 0 0 e) := ⟨0, 0, 0, e, by rw [fi_nought], rfl⟩

theorem pair_res {x y r : Int} (h : 0 ≤ r) : Pair (resB x y r) (chkV x y r) := by
  have e : chkB x y r = okB x y r := by
    unfold chkB okB wiB
    have : decide (0 ≤ r) = true := by simpa using h
    rw [this, Bool.true_and, Bool.and_assoc]
  unfold resB chkV
  rw [e]
  cases okB x y r
  · exact pair_bad 8
  · exact ⟨x, y, r, 0, rfl, rfl⟩

theorem pair_range (lo hi : Int) : Pair (ofRangeV lo hi) (refRangeV lo hi) := by
  unfold ofRangeV refRangeV
  by_cases h : ckR lo hi 67108864 = 0
  · rw [if_pos h, if_pos h]
    have := ckR_ok h
    exact pair_res (by omega)
  · rw [if_neg h, if_neg h]
    exact pair_bad _

set_option maxHeartbeats 1000000 in
theorem RefFrac_bad1 {n d : Int} (h : szB n 1000000000 = false) (w : World) : Calls Try.prog 21 #[.int .i64 n, .int .i64 d] w (Mem (refV 0 0 0 2) w) := by
  have H1 := fun w => Within_any n (-1000000000) 1000000000 w
  have e : wiB n (-1000000000) 1000000000 = false := h
  rw [e] at H1
  replace H1 := Lib.hid H1
  clear h e
  unfold refV
  go_enter Try.func21, Try.ntmps21
  go_wp2_with fail
  refine (H1.out _).mono ?_
  rintro e w' ⟨rfl, rfl⟩
  go_wp2_with fail
  refine bodyPost_ret (v := .tuple #[.agg #[.int .i64 0, .int .i64 0, .int .i64 0], .int .i64 2]) (by simp [results, Try.results21, go_sem]) rfl ⟨rfl, ?_⟩
  repeat (first | exact Below.refl _ _ | refine Below.drew ?_ | refine below_drewN ?_ _ | refine Below.setCell ?_ (by simp <;> omega) _ | refine Below.alloc ?_ (by first | exact Nat.le_refl _ | (simp <;> omega)) _)

set_option maxHeartbeats 1000000 in
theorem RefFrac_bad2 {n d : Int} (h : szB n 1000000000 = true) (h2 : wiB d 1 1000000000 = false) (w : World) : Calls Try.prog 21 #[.int .i64 n, .int .i64 d] w (Mem (refV 0 0 0 2) w) := by
  have H1 := fun w => Within_any n (-1000000000) 1000000000 w
  have H2 := fun w => Within_any d 1 1000000000 w
  have e : wiB n (-1000000000) 1000000000 = true := h
  rw [e] at H1
  rw [h2] at H2
  replace H1 := Lib.hid H1
  replace H2 := Lib.hid H2
  clear h e h2
  unfold refV
  go_enter Try.func21, Try.ntmps21
  go_wp2_with fail
  refine (H1.out _).mono ?_
  rintro e w' ⟨rfl, rfl⟩
  go_wp2_with fail
  refine (H2.out _).mono ?_
  rintro e w' ⟨rfl, rfl⟩
  go_wp2_with fail
  refine bodyPost_ret (v := .tuple #[.agg #[.int .i64 0, .int .i64 0, .int .i64 0], .int .i64 2]) (by simp [results, Try.results21, go_sem]) rfl ⟨rfl, ?_⟩
  repeat (first | exact Below.refl _ _ | refine Below.drew ?_ | refine below_drewN ?_ _ | refine Below.setCell ?_ (by simp <;> omega) _ | refine Below.alloc ?_ (by first | exact Nat.le_refl _ | (simp <;> omega)) _)

set_option maxHeartbeats 1000000 in
theorem RefFrac_ok {n d x : Int} {b : Bool} (h : szB n 1000000000 = true) (h2 : wiB d 1 1000000000 = true)
    (HS : Hid (∀ w, Calls Try.prog 81 #[.int .i64 n, .int .i64 d] w (fun e w' => e = .returned (.tuple #[.int .i64 x, .bool b]) ∧ w = w'))) (w : World) :
    Calls Try.prog 21 #[.int .i64 n, .int .i64 d] w (Mem (chkV x 0 (if b then 1 else 0)) w) := by
  have H1 := fun w => Within_any n (-1000000000) 1000000000 w
  have H2 := fun w => Within_any d 1 1000000000 w
  have HM := Lib.hid (fun w => more_any b w)
  have e : wiB n (-1000000000) 1000000000 = true := h
  rw [e] at H1
  rw [h2] at H2
  replace H1 := Lib.hid H1
  replace H2 := Lib.hid H2
  clear h e h2
  generalize (if b then (1 : Int) else 0) = m at *
  have HC := fun w => Checked_any x 0 m w
  obtain ⟨X, Y, R, E, hX⟩ := chkV_ex x 0 m
  rw [hX] at HC ⊢
  clear hX
  replace HC := Lib.hid HC
  unfold refV at *
  go_enter Try.func21, Try.ntmps21
  go_wp2_with fail
  refine (H1.out _).mono ?_
  rintro e w' ⟨rfl, rfl⟩
  go_wp2_with fail
  refine (H2.out _).mono ?_
  rintro e w' ⟨rfl, rfl⟩
  go_wp2_with fail
  refine (HS.out _).mono ?_
  rintro e w' ⟨rfl, rfl⟩
  go_wp2_with fail
  refine (HM.out _).mono ?_
  rintro e w' ⟨rfl, rfl⟩
  go_wp2_with fail
  refine (HC.out _).mono ?_
  rintro e w1 ⟨rfl, hb⟩
  have a1 : At w1 w.heap.size #[.int .i64 0, .int .i64 0, .int .i64 0] := At.below (At.new _ _ _) hb
  have hbw : Below w.heap.size w w1 := Below.via ((Below.refl _ _).alloc (Nat.le_refl _) _) hb
  have q1 := a1.cell; have f1 := a1.frozen; have z1 := a1.lt
  clear a1 hb
  go_wp2_with fail
  refine bodyPost_ret (v := .tuple #[.agg #[.int .i64 X, .int .i64 Y, .int .i64 R], .int .i64 E]) (by simp [results, Try.results21, go_sem, q1]) rfl ⟨rfl, ?_⟩
  repeat (first | exact hbw | refine Below.drew ?_ | refine below_drewN ?_ _ | refine Below.setCell ?_ (by simp <;> omega) _ | refine Below.alloc ?_ (by simp <;> omega) _)

theorem scaled_far {n d : Int} (hd : 0 < d) (h : n / d < -268435456 ∨ 268435456 < n / d) (hn : -1000000000 ≤ n ∧ n ≤ 1000000000) : szB (rdiv (n * 1048576) d) 67108864 = false := by
  have e := Int.mul_ediv_add_emod n d
  have r0 := Int.emod_nonneg n (show d ≠ 0 by omega)
  have r1 := Int.emod_lt_of_pos n hd
  have e2 := Int.mul_ediv_add_emod (n * 1048576) d
  have s0 := Int.emod_nonneg (n * 1048576) (show d ≠ 0 by omega)
  have s1 := Int.emod_lt_of_pos (n * 1048576) hd
  have hr := rdiv_eq (n * 1048576) hd
  have key : n / d < -268435456 → n * 1048576 / d ≤ -67108866 := by
    intro h1
    apply Int.le_of_lt_add_one
    apply Int.ediv_lt_of_lt_mul hd
    have := Int.mul_le_mul_of_nonneg_left (show n / d + 1 ≤ -268435456 by omega) (show 0 ≤ d by omega)
    rw [Int.mul_add, Int.mul_one] at this
    omega
  have key2 : 268435456 < n / d → 67108866 ≤ n * 1048576 / d := by
    intro h1
    apply Int.le_ediv_of_mul_le hd
    have := Int.mul_le_mul_of_nonneg_left (show 268435457 ≤ n / d by omega) (show 0 ≤ d by omega)
    omega
  have fin : rdiv (n * 1048576) d < -67108864 ∨ 67108864 < rdiv (n * 1048576) d := by
    rcases h with h | h
    · left
      have := key h
      rw [hr]
      split <;> omega
    · right
      have := key2 h
      rw [hr]
      split <;> omega
  unfold szB
  simp
  omega

theorem pair_frac {n d : Int} : ∃ V', Pair (ofFracV n d) V' ∧ ∀ w, Calls Try.prog 21 #[.int .i64 n, .int .i64 d] w (Mem V' w) := by
  unfold ofFracV
  by_cases hc : ckF n d = 0
  · rw [if_pos hc]
    obtain ⟨hn, hd, hd'⟩ := ckF_ok hc
    have k1 : szB n 1000000000 = true := by unfold szB; simp; exact ⟨hn.1, hn.2⟩
    have k2 : wiB d 1 1000000000 = true := by unfold wiB; simp; exact ⟨hd, hd'⟩
    have hn' : -1000000000 ≤ n ∧ n ≤ 1000000000 := hn
    have z0 : rdiv (0 * 1048576) d = 0 := by rw [rdiv_eq _ (by omega)]; simp; omega
    have z1 : wholeB (0 * 1048576) d = true := by unfold wholeB; simp
    rw [z0]
    have r0 := Int.emod_nonneg n (show d ≠ 0 by omega)
    have r1 := Int.emod_lt_of_pos n (show 0 < d by omega)
    have s0 := Int.emod_nonneg (n * 1048576) (show d ≠ 0 by omega)
    have s1 := Int.emod_lt_of_pos (n * 1048576) (show 0 < d by omega)
    by_cases hin : -268435456 ≤ n / d ∧ n / d ≤ 268435456
    · have hq : -1048576000000000 ≤ n * 1048576 / d ∧ n * 1048576 / d ≤ 1048576000000000 := by
        have := ediv_abs (n := n * 1048576) (d := d) (by omega)
        omega
      have HS := scaledRounded_of (n := n) (d := d) (by omega) s0 s1 (by omega) (decide (n * 1048576 % d ≠ 0)) _ rfl rfl (Lib.hid (fun w => scaled_in (by omega) (by omega) (by omega) hin w))
      rw [← rdiv_eq _ (by omega)] at HS
      refine ⟨_, ?_, fun w => RefFrac_ok k1 k2 (Lib.hid HS) w⟩
      have hf : fracR n d = (if decide (n * 1048576 % d ≠ 0) = true then 1 else 0) := by
        unfold fracR
        rw [z1, Bool.and_true]
        unfold wholeB
        by_cases h0 : n * 1048576 % d = 0
        · simp [h0]
        · simp [h0]
      rw [hf]
      exact pair_res (by split <;> decide)
    · have hout : n / d < -268435456 ∨ 268435456 < n / d := by omega
      have hq := ediv_abs (n := n) (d := d) (by omega)
      have HS := scaledRounded_of (n := n) (d := d) (by omega) r0 r1 (by omega) (decide (n % d ≠ 0)) _ rfl rfl (Lib.hid (fun w => scaled_cut (by omega) (by omega) (by omega) hout w))
      refine ⟨_, ?_, fun w => RefFrac_ok k1 k2 (Lib.hid HS) w⟩
      have hfar := scaled_far (by omega) hout hn'
      have e1 : resB (rdiv (n * 1048576) d) 0 (fracR n d) = balV 0 0 0 8 := by
        unfold resB okB
        rw [hfar]
        rfl
      have e2 : ∀ m k : Int, (k = 0 ∨ k = 1) → chkV (n / d + k) 0 m = refV 0 0 0 8 := by
        intro m k hk
        have : szB (n / d + k) 67108864 = false := by
          unfold szB; simp; omega
        unfold chkV chkB
        rw [this]
        rfl
      rw [e1, e2 _ _ (by split <;> simp)]
      exact pair_bad 8
  · rw [if_neg hc]
    have h2 : ckF n d = 2 := by
      unfold ckF at hc ⊢
      split <;> simp_all
    rw [h2]
    refine ⟨_, pair_bad 2, ?_⟩
    cases k1 : szB n 1000000000
    · exact fun w => RefFrac_bad1 k1 w
    · cases k2 : wiB d 1 1000000000
      · exact fun w => RefFrac_bad2 k1 k2 w
      · exact absurd (by unfold ckF; unfold wiB at k2; rw [k1, k2]; rfl) hc

end Go.Proofs.Ythkooiopiaakbaa
