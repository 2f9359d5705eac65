/- The hull holds both balls. -/
import Derived.Test.YthkooiopiaakbaaRhua
namespace Go.Proofs.Ythkooiopiaakbaa
open Go.RowKit Go.Lib
set_option linter.unusedVariables false

theorem rtu_sq (n : Int) (h : 0 ≤ n) (h' : n < 72057594037927936) : n ≤ rtu n * rtu n := by
  obtain ⟨r0, r1, r2, r3⟩ := rti_spec n h h'
  unfold rtu
  generalize rti n = t at *
  split
  · have : (t + 1) * (t + 1) = t * t + 2 * t + 1 := by rw [Int.mul_add, Int.add_mul]; omega
    omega
  · omega

theorem upw_sq {x y : Int} (hx : Sm 134217728 x) (hy : Sm 134217728 y) : sq2 x y ≤ upw x y * upw x y := by
  have b1 := sq_bd hx
  have b2 := sq_bd hy
  unfold upw
  exact rtu_sq _ (by rw [sq2_def]; omega) (by rw [sq2_def]; omega)

theorem inside_of {x y r p q R : Int} (hx : Sm 134217728 (x - p)) (hy : Sm 134217728 (y - q)) (h : upw (x - p) (y - q) + r ≤ R) : insideB x y r p q R = true := by
  have h0 := upw_small hx hy
  have h1 := upw_sq hx hy
  unfold insideB
  generalize upw (x - p) (y - q) = t at *
  have h2 : t * t ≤ (R - r) * (R - r) := Int.mul_le_mul (by omega) (by omega) h0.1 (by omega)
  rw [decide_eq_true (by omega), decide_eq_true (by omega)]; rfl

theorem hull_holds {x y r u v s : Int} (h1 : ckB x y r = 0) (h2 : ckB u v s = 0) :
    insideB x y r (hullX x u) (hullX y v) (hullR x y r u v s) = true ∧ insideB u v s (hullX x u) (hullX y v) (hullR x y r u v s) = true := by
  obtain ⟨sx, sy, r1, r2⟩ := ckB_ok h1
  obtain ⟨su, sv, s1, s2⟩ := ckB_ok h2
  obtain ⟨m1, m2⟩ := hullX_in sx su
  obtain ⟨n1, n2⟩ := hullX_in sy sv
  obtain ⟨x1, x2⟩ := sx
  obtain ⟨y1, y2⟩ := sy
  obtain ⟨u1, u2⟩ := su
  obtain ⟨v1, v2⟩ := sv
  have R0 : hullR x y r u v s = (if upw (x - hullX x u) (y - hullX y v) + r < upw (u - hullX x u) (v - hullX y v) + s then upw (u - hullX x u) (v - hullX y v) + s else upw (x - hullX x u) (y - hullX y v) + r) := rfl
  generalize hullR x y r u v s = R at *
  generalize hullX x u = mx at *
  generalize hullX y v = my at *
  constructor
  · exact inside_of ⟨by omega, by omega⟩ ⟨by omega, by omega⟩ (by rw [R0]; split <;> omega)
  · exact inside_of ⟨by omega, by omega⟩ ⟨by omega, by omega⟩ (by rw [R0]; split <;> omega)
end Go.Proofs.Ythkooiopiaakbaa
