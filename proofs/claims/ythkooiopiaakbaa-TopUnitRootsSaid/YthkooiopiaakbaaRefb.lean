/- The contracts of 'is' and of the reference's ball of a range. -/
import Derived.Test.YthkooiopiaakbaaRefa
namespace Go.Proofs.Ythkooiopiaakbaa
open Go.RowKit Go.Lib
attribute [local go_sem] run_store_float run_store_complex
set_option linter.unusedVariables false

set_option maxHeartbeats 1000000 in
theorem is_any (x y r c : Int) (w : World) : Calls Try.prog 22 #[.agg #[.complex .f64 (fi x) (fi y), .int .i64 r], .int .i64 c, .agg #[.int .i64 x, .int .i64 y, .int .i64 r], .int .i64 c] w (Mem (.bool true) w) := by
  have HB := Lib.hid (fun w => RefBall_mk x y r w)
  have HS := fun w => SameBall_mk (fi x) (fi y) (fi x) (fi y) r r w
  have hs : sameB (fi x) (fi y) (fi x) (fi y) r r = true := by simp [sameB, sameC]
  rw [hs] at HS
  replace HS := Lib.hid HS
  clear hs
  generalize fi x = fx at *
  generalize fi y = fy at *
  go_enter Try.func22, Try.ntmps22
  go_wp2_with fail
  go_region_held3 (fun w' => w'.cell? ⟨w.heap.size, 0, none⟩ = some (.complex .f64 fx fy) ∧ w'.cell? ⟨w.heap.size, 1, none⟩ = some (.int .i64 r) ∧ w'.cell? ⟨w.heap.size + 1, 0, none⟩ = some (.int .i64 x) ∧ w'.cell? ⟨w.heap.size + 1, 1, none⟩ = some (.int .i64 y) ∧ w'.cell? ⟨w.heap.size + 1, 2, none⟩ = some (.int .i64 r)) (simp [*, go_sem]) (first | (go_at_call 83; refine (HB.out _).mono ?_; rintro e w' ⟨rfl, rfl⟩) | (go_at_call 40; refine (HS.out _).mono ?_; rintro e w' ⟨rfl, rfl⟩))
  go_wp2_with fail
  go_ret
  refine ⟨rfl, ?_⟩
  repeat (first | exact Below.refl _ _ | refine Below.drew ?_ | refine below_drewN ?_ _ | refine Below.setCell ?_ (by simp <;> omega) _ | refine Below.alloc ?_ (by first | exact Nat.le_refl _ | (simp <;> omega)) _)

def refRangeV (lo hi : Int) : Value := if ckR lo hi 67108864 = 0 then chkV ((lo + hi) / 2) 0 (hi - (lo + hi) / 2) else refV 0 0 0 (ckR lo hi 67108864)

set_option maxHeartbeats 1000000 in
theorem RefRange_bad1 {lo hi : Int} (h : szB lo 67108864 = false) (w : World) : Calls Try.prog 20 #[.agg #[.int .i64 lo, .int .i64 hi]] w (Mem (refV 0 0 0 2) w) := by
  have H1 := fun w => isPart_any lo w
  rw [h] at H1
  replace H1 := Lib.hid H1
  clear h
  unfold refV
  go_enter Try.func20, Try.ntmps20
  go_wp2_with fail
  refine (H1.out _).mono ?_
  rintro e w' ⟨rfl, rfl⟩
  go_wp2_with fail
  refine bodyPost_ret (v := .tuple #[.agg #[.int .i64 0, .int .i64 0, .int .i64 0], .int .i64 2]) (by simp [results, Try.results20, go_sem]) rfl ⟨rfl, ?_⟩
  repeat (first | exact Below.refl _ _ | refine Below.drew ?_ | refine below_drewN ?_ _ | refine Below.setCell ?_ (by simp <;> omega) _ | refine Below.alloc ?_ (by first | exact Nat.le_refl _ | (simp <;> omega)) _)

set_option maxHeartbeats 1000000 in
theorem RefRange_bad2 {lo hi : Int} (h : szB lo 67108864 = true) (h2 : szB hi 67108864 = false) (w : World) : Calls Try.prog 20 #[.agg #[.int .i64 lo, .int .i64 hi]] w (Mem (refV 0 0 0 2) w) := by
  have H1 := fun w => isPart_any lo w
  have H2 := fun w => isPart_any hi w
  rw [h] at H1
  rw [h2] at H2
  replace H1 := Lib.hid H1
  replace H2 := Lib.hid H2
  clear h h2
  unfold refV
  go_enter Try.func20, Try.ntmps20
  go_wp2_with fail
  refine (H1.out _).mono ?_
  rintro e w' ⟨rfl, rfl⟩
  go_wp2_with fail
  refine (H2.out _).mono ?_
  rintro e w' ⟨rfl, rfl⟩
  go_wp2_with fail
  refine bodyPost_ret (v := .tuple #[.agg #[.int .i64 0, .int .i64 0, .int .i64 0], .int .i64 2]) (by simp [results, Try.results20, go_sem]) rfl ⟨rfl, ?_⟩
  repeat (first | exact Below.refl _ _ | refine Below.drew ?_ | refine below_drewN ?_ _ | refine Below.setCell ?_ (by simp <;> omega) _ | refine Below.alloc ?_ (by first | exact Nat.le_refl _ | (simp <;> omega)) _)

set_option maxHeartbeats 1000000 in
theorem RefRange_order {lo hi : Int} (h : szB lo 67108864 = true) (h2 : szB hi 67108864 = true) (hl : hi < lo) (w : World) : Calls Try.prog 20 #[.agg #[.int .i64 lo, .int .i64 hi]] w (Mem (refV 0 0 0 10) w) := by
  have H1 := fun w => isPart_any lo w
  have H2 := fun w => isPart_any hi w
  rw [h] at H1
  rw [h2] at H2
  replace H1 := Lib.hid H1
  replace H2 := Lib.hid H2
  clear h h2
  unfold refV
  go_enter Try.func20, Try.ntmps20
  go_wp2_with fail
  refine (H1.out _).mono ?_
  rintro e w' ⟨rfl, rfl⟩
  go_wp2_with fail
  refine (H2.out _).mono ?_
  rintro e w' ⟨rfl, rfl⟩
  go_wp2_with fail
  refine bodyPost_ret (v := .tuple #[.agg #[.int .i64 0, .int .i64 0, .int .i64 0], .int .i64 10]) (by simp [results, Try.results20, go_sem]) rfl ⟨rfl, ?_⟩
  repeat (first | exact Below.refl _ _ | refine Below.drew ?_ | refine below_drewN ?_ _ | refine Below.setCell ?_ (by simp <;> omega) _ | refine Below.alloc ?_ (by first | exact Nat.le_refl _ | (simp <;> omega)) _)

theorem chkV_ex (x y r : Int) : ∃ X Y R e, chkV x y r = refV X Y R e := by
  unfold chkV; split <;> exact ⟨_, _, _, _, rfl⟩

set_option maxHeartbeats 1000000 in
theorem RefRange_ok {lo hi : Int} (h : szB lo 67108864 = true) (h2 : szB hi 67108864 = true) (hl : lo ≤ hi) (w : World) : Calls Try.prog 20 #[.agg #[.int .i64 lo, .int .i64 hi]] w (Mem (chkV ((lo + hi) / 2) 0 (hi - (lo + hi) / 2)) w) := by
  have H1 := fun w => isPart_any lo w
  have H2 := fun w => isPart_any hi w
  have b : -67108864 ≤ lo ∧ hi ≤ 67108864 := by
    unfold szB at h h2
    simp at h h2
    omega
  rw [h] at H1
  rw [h2] at H2
  replace H1 := Lib.hid H1
  replace H2 := Lib.hid H2
  clear h h2
  obtain ⟨b1, b2⟩ := b
  have HF := fun w => Floor_any (lo + hi) 2 (by omega) (by omega) (by decide) (by decide) w
  have m1 : -67108864 ≤ (lo + hi) / 2 ∧ (lo + hi) / 2 ≤ 67108864 := by omega
  have HC := fun w => Checked_any ((lo + hi) / 2) 0 (hi - (lo + hi) / 2) w
  obtain ⟨X, Y, R, E, hX⟩ := chkV_ex ((lo + hi) / 2) 0 (hi - (lo + hi) / 2)
  rw [hX] at HC ⊢
  clear hX
  replace HF := Lib.hid HF
  replace HC := Lib.hid HC
  generalize (lo + hi) / 2 = m at *
  unfold refV at *
  have hw : ¬ hi < lo := by omega
  go_enter Try.func20, Try.ntmps20
  go_wp2_with fail
  refine (H1.out _).mono ?_
  rintro e w' ⟨rfl, rfl⟩
  go_wp2_with fail
  refine (H2.out _).mono ?_
  rintro e w' ⟨rfl, rfl⟩
  go_wp2_with fail
  refine (HF.out _).mono ?_
  rintro e w' ⟨rfl, rfl⟩
  go_wp2_with fail
  refine (HC.out _).mono ?_
  rintro e w1 ⟨rfl, hb⟩
  have a1 : At w1 (w.heap.size + 1) #[.int .i64 0, .int .i64 0, .int .i64 0] := At.below (At.new' _ _ _ (by simp)) hb
  have hbw : Below w.heap.size w w1 := Below.via (((Below.refl _ _).alloc (Nat.le_refl _) _).alloc (by simp) _) hb
  have q1 := a1.cell; have f1 := a1.frozen; have z1 := a1.lt
  clear a1 hb
  go_wp2_with fail
  refine bodyPost_ret (v := .tuple #[.agg #[.int .i64 X, .int .i64 Y, .int .i64 R], .int .i64 E]) (by simp [results, Try.results20, go_sem, q1]) rfl ⟨rfl, ?_⟩
  repeat (first | exact hbw | refine Below.drew ?_ | refine below_drewN ?_ _ | refine Below.setCell ?_ (by simp <;> omega) _ | refine Below.alloc ?_ (by simp <;> omega) _)

theorem RefRange_any (lo hi : Int) (w : World) : Calls Try.prog 20 #[.agg #[.int .i64 lo, .int .i64 hi]] w (Mem (refRangeV lo hi) w) := by
  unfold refRangeV ckR
  cases h1 : szB lo 67108864
  · simpa using RefRange_bad1 h1 w
  · cases h2 : szB hi 67108864
    · simpa using RefRange_bad2 h1 h2 w
    · by_cases hl : hi < lo
      · simpa [hl] using RefRange_order h1 h2 hl w
      · simpa [hl] using RefRange_ok h1 h2 (by omega) w

end Go.Proofs.Ythkooiopiaakbaa
