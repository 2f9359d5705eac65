/- The contracts of the reference's sum, difference and conjugate. -/
import Derived.Test.YthodhenhmjgodaaWhoc
namespace Go.Proofs.Ythodhenhmjgodaa
open Go.RowKit Go.Lib
attribute [local go_sem] run_store_float run_store_complex
set_option linter.unusedVariables false

set_option maxHeartbeats 1000000 in
theorem refPlus_any {x y u v r s : Int} (hx : Sm 67108864 x) (hy : Sm 67108864 y) (hu : Sm 67108864 u) (hv : Sm 67108864 v) (hr : 0 ≤ r ∧ r ≤ 67108864) (hs : 0 ≤ s ∧ s ≤ 67108864) (w : World) :
    Calls Try.prog 33 #[.agg #[.int .i64 x, .int .i64 y, .int .i64 r], .agg #[.int .i64 u, .int .i64 v, .int .i64 s]] w (Mem (chkV (x + u) (y + v) (r + s)) w) := by
  have HK := fun w => Checked_any (x + u) (y + v) (r + s) w
  obtain ⟨XX, YY, RR, EE, hX⟩ := chkV_ex (x + u) (y + v) (r + s)
  rw [hX] at HK ⊢
  replace HK := Lib.hid HK
  obtain ⟨x1, x2⟩ := hx
  obtain ⟨y1, y2⟩ := hy
  obtain ⟨u1, u2⟩ := hu
  obtain ⟨v1, v2⟩ := hv
  obtain ⟨r1, r2⟩ := hr
  obtain ⟨s1, s2⟩ := hs
  clear hX
  unfold refV at *
  go_enter Try.func33, Try.ntmps33
  go_wp2_with fail
  refine (HK.out _).mono ?_
  rintro e w1 ⟨rfl, hb⟩
  have a1 : At w1 (w.heap.size + 1 + 1) #[.int .i64 0, .int .i64 0, .int .i64 0] := At.below (At.new' _ _ _ (by simp)) hb
  have hbw : Below w.heap.size w w1 := Below.via ((((Below.refl _ _).alloc (Nat.le_refl _) _).alloc (by simp) _).alloc (by simp; omega) _) hb
  have q1 := a1.cell; have f1 := a1.frozen; have z1 := a1.lt
  clear a1 hb
  go_wp2_with fail
  refine bodyPost_ret (v := .tuple #[.agg #[.int .i64 XX, .int .i64 YY, .int .i64 RR], .int .i64 EE]) (by simp [results, Try.results33, go_sem, q1]) rfl ⟨rfl, ?_⟩
  repeat (first | exact hbw | refine Below.drew ?_ | refine below_drewN ?_ _ | refine Below.setCell ?_ (by simp <;> omega) _ | refine Below.alloc ?_ (by simp <;> omega) _)

set_option maxHeartbeats 1000000 in
theorem refMinus_any {x y u v r s : Int} (hx : Sm 67108864 x) (hy : Sm 67108864 y) (hu : Sm 67108864 u) (hv : Sm 67108864 v) (hr : 0 ≤ r ∧ r ≤ 67108864) (hs : 0 ≤ s ∧ s ≤ 67108864) (w : World) :
    Calls Try.prog 34 #[.agg #[.int .i64 x, .int .i64 y, .int .i64 r], .agg #[.int .i64 u, .int .i64 v, .int .i64 s]] w (Mem (chkV (x - u) (y - v) (r + s)) w) := by
  have HK := fun w => Checked_any (x - u) (y - v) (r + s) w
  obtain ⟨XX, YY, RR, EE, hX⟩ := chkV_ex (x - u) (y - v) (r + s)
  rw [hX] at HK ⊢
  replace HK := Lib.hid HK
  obtain ⟨x1, x2⟩ := hx
  obtain ⟨y1, y2⟩ := hy
  obtain ⟨u1, u2⟩ := hu
  obtain ⟨v1, v2⟩ := hv
  obtain ⟨r1, r2⟩ := hr
  obtain ⟨s1, s2⟩ := hs
  clear hX
  unfold refV at *
  go_enter Try.func34, Try.ntmps34
  go_wp2_with fail
  refine (HK.out _).mono ?_
  rintro e w1 ⟨rfl, hb⟩
  have a1 : At w1 (w.heap.size + 1 + 1) #[.int .i64 0, .int .i64 0, .int .i64 0] := At.below (At.new' _ _ _ (by simp)) hb
  have hbw : Below w.heap.size w w1 := Below.via ((((Below.refl _ _).alloc (Nat.le_refl _) _).alloc (by simp) _).alloc (by simp; omega) _) hb
  have q1 := a1.cell; have f1 := a1.frozen; have z1 := a1.lt
  clear a1 hb
  go_wp2_with fail
  refine bodyPost_ret (v := .tuple #[.agg #[.int .i64 XX, .int .i64 YY, .int .i64 RR], .int .i64 EE]) (by simp [results, Try.results34, go_sem, q1]) rfl ⟨rfl, ?_⟩
  repeat (first | exact hbw | refine Below.drew ?_ | refine below_drewN ?_ _ | refine Below.setCell ?_ (by simp <;> omega) _ | refine Below.alloc ?_ (by simp <;> omega) _)

set_option maxHeartbeats 1000000 in
theorem refConj_any {x y : Int} (r : Int) (hy : Sm 67108864 y) (w : World) :
    Calls Try.prog 29 #[.agg #[.int .i64 x, .int .i64 y, .int .i64 r]] w (Mem (.agg #[.int .i64 x, .int .i64 (-y), .int .i64 r]) w) := by
  obtain ⟨y1, y2⟩ := hy
  go_enter Try.func29, Try.ntmps29
  go_wp2_with fail
  refine bodyPost_ret (v := .agg #[.int .i64 x, .int .i64 (-y), .int .i64 r]) (by simp [results, Try.results29, go_sem]) rfl ⟨rfl, ?_⟩
  repeat (first | exact Below.refl _ _ | refine Below.drew ?_ | refine below_drewN ?_ _ | refine Below.setCell ?_ (by simp <;> omega) _ | refine Below.alloc ?_ (by first | exact Nat.le_refl _ | (simp <;> omega)) _)

end Go.Proofs.Ythodhenhmjgodaa
