/- The contract of the roots of a range that is not below 0, and that the text of the law's examples needs. -/
import Derived.Test.YthkooiopiaakbaaRange
namespace Go.Proofs.Ythkooiopiaakbaa
open Go.RowKit Go.Lib
attribute [local go_sem] run_store_float run_store_complex

theorem ofRangeV_eq (lo hi : Int) : ∃ za zb zr ze, ofRangeV lo hi = balV za zb zr ze := by
  unfold ofRangeV; split
  · exact resB_eq _ _ _
  · exact ⟨_, _, _, _, rfl⟩

set_option maxHeartbeats 1000000 in
theorem RealRoot_pos (lo hi : Int) (hc : ckR lo hi 67108864 = 0) (h0 : 0 ≤ lo) (w : World) :
    Calls Try.prog 44 #[.agg #[.int .i64 lo, .int .i64 hi]] w (Mem (ofRangeV (rti (lo * 1048576)) (rtu (hi * 1048576))) w) := by
  have HC := fun w => checkRange_any lo hi 67108864 (by decide) (by decide) w
  obtain ⟨hl, hh, hle⟩ := ckR_ok hc
  rw [hc] at HC
  replace HC := Lib.hid HC
  obtain ⟨l1, l2⟩ := hl
  obtain ⟨g1, g2⟩ := hh
  have HD := Lib.hid (fun w => rootDown_any (lo * 1048576) (by omega) (by omega) w)
  have HU := Lib.hid (fun w => rootUp_any (hi * 1048576) (by omega) (by omega) w)
  have HO := fun w => OfRange_any (rti (lo * 1048576)) (rtu (hi * 1048576)) w
  obtain ⟨za, zb, zr, ze, hz⟩ := ofRangeV_eq (rti (lo * 1048576)) (rtu (hi * 1048576))
  rw [hz] at HO ⊢
  replace HO := Lib.hid HO
  clear hz hc
  generalize rti (lo * 1048576) = rl at *
  generalize rtu (hi * 1048576) = ru at *
  have w1 : IntKind.i64.wrap (lo * 1048576) = lo * 1048576 := IntWalk.i64_in _ (by omega)
  have w2 : IntKind.i64.wrap (hi * 1048576) = hi * 1048576 := IntWalk.i64_in _ (by omega)
  unfold balV at *
  go_enter Try.func44, Try.ntmps44
  go_wp2_with fail
  refine (HC.out _).mono ?_
  rintro e w1 ⟨rfl, hb⟩
  have a0 : At w1 w.heap.size #[.int .i64 lo, .int .i64 hi] := At.below ((At.new _ _ _).old _) hb
  have a1 : At w1 (w.heap.size + 1) #[.complex .f64 0 0, .int .i64 0] := At.below (At.new' _ _ _ (by simp)) hb
  have hbw : Below w.heap.size w w1 := (((Below.refl _ _).alloc (Nat.le_refl _) _).alloc (by simp) _).trans (hb.mono (by simp; omega))
  have q0 := a0.cell; have z0 := a0.lt
  have A0 := Lib.hid a0; have A1 := Lib.hid a1
  clear a0 a1 hb
  go_wp2_with fail
  go_region_held3 (fun w' => w'.cell? ⟨w.heap.size, 0, none⟩ = some (.int .i64 lo) ∧ w'.cell? ⟨w.heap.size, 1, none⟩ = some (.int .i64 hi)) (simp [*, go_sem]) (first | (go_at_call 112; refine (HD.out _).mono ?_; rintro e w4 ⟨rfl, n1, rfl⟩) | (go_at_call 113; refine (HU.out _).mono ?_; rintro e w4 ⟨rfl, n2, rfl⟩) | (go_at_call 18; refine (HO.out _).mono ?_; rintro e w5 ⟨rfl, hb⟩; have a3 := At.below (A0.out.drewN _) hb; have a4 := At.below (A1.out.drewN _) hb; have hbw5 := (below_drewN hbw _).trans (hb.mono (by have := hbw.size; simp; omega)); have q3 := a3.cell; have q4 := a4.cell; have f4 := a4.frozen; have z4 := a4.lt; clear a3 a4 hb))
  all_goals
    go_wp2_with fail
    refine bodyPost_ret (v := .tuple #[.agg #[.complex .f64 za zb, .int .i64 zr], .int .i64 ze]) (by simp [results, Try.results44, go_sem, q4]) rfl ⟨rfl, ?_⟩
    repeat (first | exact hbw5 | refine Below.drew ?_ | refine below_drewN ?_ _ | refine Below.setCell ?_ (by simp <;> omega) _ | refine Below.alloc ?_ (by simp <;> omega) _)

end Go.Proofs.Ythkooiopiaakbaa
