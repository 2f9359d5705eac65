/- Roots, rounded down, and nearest quotients: what package whole returns. -/
import Derived.Test.YtafnplkablkepaaFqs
import Derived.Test.YtafnplkablkepaaRti
import Derived.Laws.Externs
namespace Go.Proofs.Ytafnplkablkepaa.Ev
set_option linter.unusedSimpArgs false
open Go Go.RowKit
set_option linter.unusedVariables false
set_option maxRecDepth 100000
def whole_RootDown_s : Sig := ⟨116, ⟨1, 0, 0⟩, ⟨1, 0, 0⟩, [(.int .i64 (.var 0))], [], (.int .i64 (.var 1)), []⟩
def whole_divided_s : Sig := ⟨66, ⟨3, 0, 0⟩, ⟨2, 0, 0⟩, [(.int .i64 (.var 0)), (.int .i64 (.var 1)), (.int .i64 (.var 2))], [], (.tuple [(.int .i64 (.var 3)), (.int .i64 (.var 4))]), []⟩
def whole_Nearest_s : Sig := ⟨44, ⟨3, 0, 0⟩, ⟨1, 1, 0⟩, [(.int .i64 (.var 0)), (.int .i64 (.var 1)), (.int .i64 (.var 2))], [], (.tuple [(.int .i64 (.var 3)), (.bool (.var 0))]), []⟩

def nn_t : Tr :=
  (.call whole_divided_s ⟨[(.var 0), (.var 1), (.var 2)], [], []⟩ ⟨[(.var 0), (.var 1), (.var 2), (.var 3), (.var 4)], [], []⟩ ⟨66, [(.int .i64 (.var 0)), (.int .i64 (.var 1)), (.int .i64 (.var 2))], [], [], (.tuple [(.int .i64 (.var 3)), (.int .i64 (.var 4))]), []⟩
  (.rng 3 (-4611686018427387905) 4611686018427387904 (.rng 4 0 4611686018427387904 (.ite (.icmp .leq (.bin .subI (.var 2) (.var 4)) (.var 4))
  (.ret ⟨[(.bin .addI (.var 3) (.lit 1))], [(.icmp .eql (.var 4) (.lit 0))], []⟩ [])
  (.ret ⟨[(.var 3)], [(.icmp .eql (.var 4) (.lit 0))], []⟩ [])))))
theorem nn {x0 x1 x2 : Int} (r0 : (-9223372036854775808) ≤ x0 ∧ x0 ≤ 9223372036854775807) (r1 : (-9223372036854775808) ≤ x1 ∧ x1 ≤ 9223372036854775807) (r2 : 1 ≤ x2 ∧ x2 ≤ 4611686018427387904) {R : Int → Bool → Prop}
  (H : (∃ v3 : Int, ∃ v4 : Int, Spec Try.prog whole_divided_s ⟨[x0, x1, x2], [], []⟩ [v3, v4] [] [] ∧
   (((-4611686018427387905) ≤ (v3 : Int) ∧ (v3 : Int) ≤ 4611686018427387904) ∧ ((0 ≤ (v4 : Int) ∧ (v4 : Int) ≤ 4611686018427387904) ∧ ((decide (((x2 - v4) : Int) ≤ v4) = true → R ((v3 + 1)) (((v4 : Int) == 0))) ∧
   (decide (((x2 - v4) : Int) ≤ v4) = false → R (v3) (((v4 : Int) == 0)))))))) :
    ∃ v0 : Int, ∃ u0 : Bool, R v0 u0 ∧ Spec Try.prog whole_Nearest_s ⟨[x0, x1, x2], [], []⟩ [v0] [u0] [] :=
  Eq.mp (by kernel_rfl) (exV_of (K := fun d => app3 whole_Nearest_s.out R d ∧ Spec Try.prog whole_Nearest_s ⟨[x0, x1, x2], [], []⟩ d.1 d.2.1 d.2.2) (tree_at mixed names S1_ok (S := S1 Try.prog) (lf := 100000) (d := 60) whole_Nearest_s nn_t { ivs := [(0, (-9223372036854775808), 9223372036854775807), (1, (-9223372036854775808), 9223372036854775807), (2, 1, 4611686018427387904)], aivs := [] } ⟨[x0, x1, x2], [], []⟩ rfl (by kernel_rfl) (by kernel_rfl) (by kernel_rfl) ⟨(fc r0 (fc r1 (fc r2 fz))), fz, fz, fz⟩ (R := fun d => app3 whole_Nearest_s.out R d) (Eq.mp (by kernel_rfl) H)))

theorem divided_s {x y d : Int} (h : DvIn x y d) : Spec Try.prog whole_divided_s ⟨[x, y, d], [], []⟩ [x * y / d, x * y % d] [] [] :=

  Spec.of rfl rfl rfl rfl fun w => (divided_any x y d (Lib.hid h) w).mono fun e w' ⟨he, n, hw⟩ => ⟨he, hw ▸ Below.drewN w n⟩

theorem nearest_s {x y d : Int} (h : DvIn x y d) : Spec Try.prog whole_Nearest_s ⟨[x, y, d], [], []⟩ [rdiv (x * y) d] [wholeB (x * y) d] [] := by

  have hb := div_bd h

  have h1 := h.1

  have h2 := h.2.1

  have h3 := h.2.2.1

  have h4 := h.2.2.2.1

  have h5 := h.2.2.2.2.1

  have h6 := h.2.2.2.2.2.1

  have e := rdiv_eq (x * y) h5

  obtain ⟨v, u, ⟨rfl, rfl⟩, hs⟩ := nn (x0 := x) (x1 := y) (x2 := d) (by omega) (by omega) (by omega) (R := fun v u => v = rdiv (x * y) d ∧ u = wholeB (x * y) d)

    ⟨_, _, divided_s h, by omega, by omega, fun h9 => ⟨by rw [e, if_pos (by simpa using h9)], rfl⟩, fun h9 => ⟨by rw [e, if_neg (by simpa using h9)]; omega, rfl⟩⟩

  exact hs

open Go.Lib

theorem run_sqrt {b r : Nat} (h : Ieee.double.sqrt b = some r) (w : World) : (callFunc 119 #[.float .f64 b]).run Try.prog w = .ok (.value (.float .f64 r)) w := by

  rw [run_callFunc_extern Try.func119 (by kernel_rfl) (by kernel_rfl) (by kernel_rfl) (e := Extern.MathSqrt.sqrt) (by kernel_rfl)]

  have e : Extern.MathSqrt.sqrt #[.float .f64 b] = pure (.float .f64 r) := by

    show (match Ieee.double.sqrt b with | some r => _ | none => _) = _

    rw [h]

  rw [e]; rfl

set_option maxRecDepth 100000 in

set_option maxHeartbeats 400000 in

theorem math_Sqrt {b r : Nat} (h : Hid (Ieee.double.sqrt b = some r)) (w : World) : Calls Try.prog 118 #[.float .f64 b] w (Quiet (.float .f64 r) w) := by

  have hs := fun w => run_sqrt h.out w

  go_enter Try.func118, Try.ntmps118

  go_wp2_with fail

  go_ret

  exact ⟨rfl, 0, rfl⟩

set_option maxHeartbeats 400000 in

theorem rootDown_any (n : Int) (h : 0 ≤ n) (h' : n < 72057594037927936) (w : World) : Calls Try.prog 116 #[.int .i64 n] w (Quiet (.int .i64 (rti n)) w) := by

  obtain ⟨r, t, hs, ht, hr⟩ := sqrt_rti n h h'

  obtain ⟨r0, r1, r2, r3⟩ := rti_spec n h h'

  have HS := Lib.hid hs

  have hc := fun w => run_convert_float_int (P := Try.prog) w 88 3 .f64 .i64 r t (by rw [Try.underlying88]; rfl) Try.underlying3 ht

  clear hs ht

  have hm : 0 ≤ rti n * rti n := Int.mul_nonneg r0 r0

  rcases hr with hr | hr

  · have hle : decide (n < rti n * rti n) = false := by simp; omega

    have h9 : rti n * rti n ≤ 9007199254740992000 := by omega

    subst hr

    clear r3 r2

    go_enter Try.func116, Try.ntmps116

    go_wp2_with fail

    refine (math_Sqrt HS _).mono ?_

    rintro e w' ⟨rfl, k, rfl⟩

    go_wp2_with fail

    go_ret

    exact ⟨rfl, _, rfl⟩

  · have e2 : (rti n + 1) * (rti n + 1) = rti n * rti n + 2 * rti n + 1 := by rw [Int.add_mul, Int.mul_add]; omega

    have hle : n < (rti n + 1) * (rti n + 1) := by omega

    have hm2 : 0 ≤ (rti n + 1) * (rti n + 1) := by omega

    have hm3 : (rti n + 1) * (rti n + 1) ≤ 9007199254740992000 := by omega

    clear e2

    subst hr

    go_enter Try.func116, Try.ntmps116

    go_wp2_with fail

    refine (math_Sqrt HS _).mono ?_

    rintro e w' ⟨rfl, k, rfl⟩

    go_wp2_with fail

    go_ret

    exact ⟨by simp, _, rfl⟩

theorem rootDown_s {n : Int} (h : 0 ≤ n) (h' : n < 72057594037927936) : Spec Try.prog whole_RootDown_s ⟨[n], [], []⟩ [rti n] [] [] :=

  Spec.of rfl rfl rfl rfl fun w => (rootDown_any n h h' w).mono fun e w' ⟨he, n, hw⟩ => ⟨he, hw ▸ Below.drewN w n⟩

end Go.Proofs.Ytafnplkablkepaa.Ev
