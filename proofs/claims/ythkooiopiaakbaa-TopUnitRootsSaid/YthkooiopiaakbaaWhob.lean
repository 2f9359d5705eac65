/- The contracts of Of, Up, IsWhole, CheckBall of the reference, and of the statement's balls of whole parts. -/
import Derived.Test.YthkooiopiaakbaaWhoa
import Derived.Test.YthkooiopiaakbaaRefb
import Derived.Laws.FloatArith
namespace Go.Proofs.Ythkooiopiaakbaa
open Go.RowKit Go.Lib
attribute [local go_sem] run_store_float run_store_complex
set_option linter.unusedVariables false

set_option maxHeartbeats 1000000 in
theorem Of_any {a b : Nat} {x y : Int} (r : Int) (h : Cp a b x y) (hx : InF x) (hy : InF y) (w : World) :
    Calls Try.prog 30 #[.agg #[.complex .f64 a b, .int .i64 r]] w (Mem (.agg #[.int .i64 x, .int .i64 y, .int .i64 r]) w) := by
  have HP := Lib.hid (fun w => Parts_any h hx hy w)
  clear h hx hy
  go_enter Try.func30, Try.ntmps30
  go_wp2_with fail
  refine (HP.out _).mono ?_
  rintro e w' ⟨rfl, rfl⟩
  go_wp2_with fail
  refine bodyPost_ret (v := .agg #[.int .i64 x, .int .i64 y, .int .i64 r]) (by simp [results, Try.results30, go_sem]) rfl ⟨rfl, ?_⟩
  repeat (first | exact Below.refl _ _ | refine Below.drew ?_ | refine below_drewN ?_ _ | refine Below.setCell ?_ (by simp <;> omega) _ | refine Below.alloc ?_ (by first | exact Nat.le_refl _ | (simp <;> omega)) _)

set_option maxHeartbeats 1000000 in
theorem refUp_any {x y : Int} (r : Int) (hx : Sm 134217728 x) (hy : Sm 134217728 y) (w : World) :
    Calls Try.prog 103 #[.agg #[.int .i64 x, .int .i64 y, .int .i64 r]] w (Mem (.int .i64 (upw x y)) w) := by
  have b := sq2_bd hx hy
  have bx := sq_bd hx
  have by' := sq_bd hy
  have HR := fun w => refRootUp_any (sq2 x y) b.1 (by omega) w
  have hv : rtu (sq2 x y) = upw x y := rfl
  rw [hv] at HR
  have hs : sq2 x y = x * x + y * y := rfl
  rw [hs] at HR b
  replace HR := Lib.hid HR
  generalize upw x y = u at *
  have w1 : IntKind.i64.wrap (x * x) = x * x := IntWalk.i64_in _ (by omega)
  have w2 : IntKind.i64.wrap (y * y) = y * y := IntWalk.i64_in _ (by omega)
  have w3 : IntKind.i64.wrap (x * x + y * y) = x * x + y * y := IntWalk.i64_in _ (by omega)
  clear hv hs hx hy
  go_enter Try.func103, Try.ntmps103
  go_wp2_with fail
  refine (HR.out _).mono ?_
  rintro e w' ⟨rfl, n, rfl⟩
  go_wp2_with fail
  go_ret
  refine ⟨rfl, ?_⟩
  repeat (first | exact Below.refl _ _ | refine Below.drew ?_ | refine below_drewN ?_ _ | refine Below.setCell ?_ (by simp <;> omega) _ | refine Below.alloc ?_ (by first | exact Nat.le_refl _ | (simp <;> omega)) _)

set_option maxHeartbeats 1000000 in
theorem WholeBall_any (x y r : Int) (w : World) :
    Calls Try.prog 23 #[.agg #[.int .i64 x, .int .i64 y, .int .i64 r]] w (Mem (.agg #[.complex .f64 (fi (cutI x)) (fi (cutI y)), .int .i64 r]) w) := by
  have H1 := Lib.hid (fun w => cut_any x w)
  have H2 := Lib.hid (fun w => cut_any y w)
  have HB := Lib.hid (fun w => Ball_mk (cutI x) (cutI y) r w)
  generalize fi (cutI x) = fx at *
  generalize fi (cutI y) = fy at *
  generalize cutI x = cx at *
  generalize cutI y = cy at *
  go_enter Try.func23, Try.ntmps23
  go_wp2_with fail
  go_region_held3 (fun w' => w'.cell? ⟨w.heap.size, 0, none⟩ = some (.int .i64 x) ∧ w'.cell? ⟨w.heap.size, 1, none⟩ = some (.int .i64 y) ∧ w'.cell? ⟨w.heap.size, 2, none⟩ = some (.int .i64 r)) (simp [*, go_sem]) (first | (go_at_call_of 51 (Value.int IntKind.i64 x); refine (H1.out _).mono ?_; rintro e w' ⟨rfl, rfl⟩) | (go_at_call_of 51 (Value.int IntKind.i64 y); refine (H2.out _).mono ?_; rintro e w' ⟨rfl, rfl⟩) | (go_at_call 49; refine (HB.out _).mono ?_; rintro e w' ⟨rfl, rfl⟩))
  go_wp2_with fail
  refine bodyPost_ret (v := .agg #[.complex .f64 fx fy, .int .i64 r]) (by simp [results, Try.results23, go_sem]) rfl ⟨rfl, ?_⟩
  repeat (first | exact Below.refl _ _ | refine Below.drew ?_ | refine below_drewN ?_ _ | refine Below.setCell ?_ (by simp <;> omega) _ | refine Below.alloc ?_ (by first | exact Nat.le_refl _ | (simp <;> omega)) _)

set_option maxHeartbeats 1000000 in
theorem IsWhole_any {b : Nat} {k : Int} (h : Rp b k) (hk : InF k) (w : World) :
    Calls Try.prog 135 #[.float .f64 b] w (fun e w' => e = .returned (.bool true) ∧ w = w') := by
  have c1 := fun w => run_convert_float_int (P := Try.prog) w 117 3 .f64 .i64 b k (by rw [Try.underlying117]; rfl) Try.underlying3 (int_rp h hk)
  have o1 := order_self h hk
  obtain ⟨z, hz, rz⟩ := sub_rp h h hk hk (by unfold InF; omega)
  have o2 : (FloatKind.f64.format.order z 0 != some .eq) = false := by
    have : FloatKind.f64.format.order z 0 = some (compare (k - k) 0) := order_rp rz (by rw [← fi_zero]; exact Rp_fi 0) (by unfold InF; omega) (by unfold InF; omega)
    rw [this]
    simp [compare, compareOfLessAndEq]
  have o3 : (FloatKind.f64.format.order (fi k) b == some .eq) = true := by
    have : FloatKind.f64.format.order (fi k) b = some (compare k k) := order_rp (Rp_fi k) h hk hk
    rw [this]
    simp [compare, compareOfLessAndEq]
  have hs := fun w => run_float_arith (P := Try.prog) w .sub 117 .f64 b b z hz
  unfold fi at o3
  clear h hk rz
  go_enter Try.func135, Try.ntmps135
  go_wp2
  all_goals (go_ret; exact ⟨by simp [*], rfl⟩)

end Go.Proofs.Ythkooiopiaakbaa
