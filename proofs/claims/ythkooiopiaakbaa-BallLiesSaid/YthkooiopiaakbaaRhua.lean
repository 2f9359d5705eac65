/- The reference's Contains, Meets, Inside and Hull in general; the hull holds both. -/
import Derived.Test.YthkooiopiaakbaaRhull
import Derived.Test.YthkooiopiaakbaaRefc
namespace Go.Proofs.Ythkooiopiaakbaa
open Go.RowKit Go.Lib
attribute [local go_sem] run_store_float run_store_complex
set_option linter.unusedVariables false

theorem chkV_eq2 (x y r : Int) : ∃ a b c e, chkV x y r = refV a b c e := by
  unfold chkV; split
  · exact ⟨_, _, _, _, rfl⟩
  · exact ⟨_, _, _, _, rfl⟩

theorem sq2_def (x y : Int) : sq2 x y = x * x + y * y := rfl

theorem refContains_any {x y r u v : Int} (hx : Sm 134217728 x) (hy : Sm 134217728 y) (hr : Sm 134217728 r) (hu : Sm 134217728 u) (hv : Sm 134217728 v) (w : World) :
    Calls Try.prog 52 #[.agg #[.int .i64 x, .int .i64 y, .int .i64 r], .int .i64 u, .int .i64 v] w (Mem (.bool (decide (sq2 (x - u) (y - v) ≤ r * r))) w) :=
  rContains_walk (s := 0) hr (Lib.hid fun w => dist_any hx hy hu hv w) w

theorem refMeets_any {x y r u v s : Int} (h1 : ckB x y r = 0) (h2 : ckB u v s = 0) (w : World) :
    Calls Try.prog 57 #[.agg #[.int .i64 x, .int .i64 y, .int .i64 r], .agg #[.int .i64 u, .int .i64 v, .int .i64 s]] w (Mem (.bool (meetsB x y r u v s)) w) := by
  obtain ⟨⟨x1, x2⟩, ⟨y1, y2⟩, r1, r2⟩ := ckB_ok h1
  obtain ⟨⟨u1, u2⟩, ⟨v1, v2⟩, s1, s2⟩ := ckB_ok h2
  exact rMeets_walk ⟨by omega, by omega⟩ (Lib.hid fun w => dist_any ⟨by omega, by omega⟩ ⟨by omega, by omega⟩ ⟨by omega, by omega⟩ ⟨by omega, by omega⟩ w) w

theorem refInside_any {x y r u v s : Int} (h1 : ckB x y r = 0) (h2 : ckB u v s = 0) (w : World) :
    Calls Try.prog 58 #[.agg #[.int .i64 x, .int .i64 y, .int .i64 r], .agg #[.int .i64 u, .int .i64 v, .int .i64 s]] w (Mem (.bool (insideB x y r u v s)) w) := by
  obtain ⟨⟨x1, x2⟩, ⟨y1, y2⟩, r1, r2⟩ := ckB_ok h1
  obtain ⟨⟨u1, u2⟩, ⟨v1, v2⟩, s1, s2⟩ := ckB_ok h2
  unfold insideB
  by_cases hle : r ≤ s
  · rw [decide_eq_true hle, Bool.true_and]
    exact rInside_walk hle ⟨by omega, by omega⟩ (Lib.hid fun w => dist_any ⟨by omega, by omega⟩ ⟨by omega, by omega⟩ ⟨by omega, by omega⟩ ⟨by omega, by omega⟩ w) w
  · rw [decide_eq_false hle, Bool.false_and]
    exact rInside_no (D := 0) hle w

theorem sq2_swap (x y u v : Int) : (x - u) * (x - u) + (y - v) * (y - v) = sq2 (u - x) (v - y) := by
  rw [sq2_def, show x - u = -(u - x) by omega, show y - v = -(v - y) by omega, Int.neg_mul_neg, Int.neg_mul_neg]

theorem refHull_any {x y r u v s : Int} (h1 : ckB x y r = 0) (h2 : ckB u v s = 0) (w : World) :
    Calls Try.prog 56 #[.agg #[.int .i64 x, .int .i64 y, .int .i64 r], .agg #[.int .i64 u, .int .i64 v, .int .i64 s]] w (Mem (chkV (hullX x u) (hullX y v) (hullR x y r u v s)) w) := by
  obtain ⟨sx, sy, r1, r2⟩ := ckB_ok h1
  obtain ⟨su, sv, s1, s2⟩ := ckB_ok h2
  obtain ⟨m1, m2⟩ := hullX_in sx su
  obtain ⟨n1, n2⟩ := hullX_in sy sv
  have R0 : (if upw (x - hullX x u) (y - hullX y v) + r < upw (u - hullX x u) (v - hullX y v) + s then upw (u - hullX x u) (v - hullX y v) + s else upw (x - hullX x u) (y - hullX y v) + r) = hullR x y r u v s := rfl
  have ex : rdiv (x + u) 2 = hullX x u := rfl
  have ey : rdiv (y + v) 2 = hullX y v := rfl
  have H1 := fun w => refRounded_any (n := x + u) (d := 2) ⟨by have := sx.1; have := su.1; omega, by have := sx.2; have := su.2; omega⟩ (by decide) (by decide) _ _ rfl rfl w
  have H2 := fun w => refRounded_any (n := y + v) (d := 2) ⟨by have := sy.1; have := sv.1; omega, by have := sy.2; have := sv.2; omega⟩ (by decide) (by decide) _ _ rfl rfl w
  rw [ex] at H1
  rw [ey] at H2
  obtain ⟨x1, x2⟩ := id sx
  obtain ⟨y1, y2⟩ := id sy
  obtain ⟨u1, u2⟩ := id su
  obtain ⟨v1, v2⟩ := id sv
  generalize hullX x u = mx at *
  generalize hullX y v = my at *
  have D1 := fun w => dist_any (x := mx) (y := my) (r := 0) (u := x) (v := y) (s := r) ⟨by omega, by omega⟩ ⟨by omega, by omega⟩ ⟨by omega, by omega⟩ ⟨by omega, by omega⟩ w
  have D2 := fun w => dist_any (x := mx) (y := my) (r := 0) (u := u) (v := v) (s := s) ⟨by omega, by omega⟩ ⟨by omega, by omega⟩ ⟨by omega, by omega⟩ ⟨by omega, by omega⟩ w
  rw [sq2_swap] at D1 D2
  have b1 := upw_small (x := x - mx) (y := y - my) ⟨by omega, by omega⟩ ⟨by omega, by omega⟩
  have b2 := upw_small (x := u - mx) (y := v - my) ⟨by omega, by omega⟩ ⟨by omega, by omega⟩
  have q1 := sq_bd (M := 134217728) (x := x - mx) ⟨by omega, by omega⟩
  have q2 := sq_bd (M := 134217728) (x := y - my) ⟨by omega, by omega⟩
  have q3 := sq_bd (M := 134217728) (x := u - mx) ⟨by omega, by omega⟩
  have q4 := sq_bd (M := 134217728) (x := v - my) ⟨by omega, by omega⟩
  have U1 := fun w => refRootUp_any (sq2 (x - mx) (y - my)) (by rw [sq2_def]; omega) (by rw [sq2_def]; omega) w
  have U2 := fun w => refRootUp_any (sq2 (u - mx) (v - my)) (by rw [sq2_def]; omega) (by rw [sq2_def]; omega) w
  have HK := fun w => Checked_any mx my (hullR x y r u v s) w
  obtain ⟨a, b, c, f, hz⟩ := chkV_eq2 mx my (hullR x y r u v s)
  rw [hz] at HK ⊢
  exact rHull_walk sx su sy sv ⟨r1, r2⟩ ⟨s1, s2⟩ ⟨b1.1, by omega⟩ ⟨b2.1, by omega⟩ R0 (Lib.hid H1) (Lib.hid H2) (Lib.hid D1) (Lib.hid D2) (Lib.hid U1) (Lib.hid U2) (Lib.hid HK) w

end Go.Proofs.Ythkooiopiaakbaa
