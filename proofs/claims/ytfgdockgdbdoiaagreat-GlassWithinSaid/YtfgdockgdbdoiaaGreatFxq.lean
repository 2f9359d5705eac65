/- Quotients, rounded down and up. -/
import Derived.Test.YtfgdockgdbdoiaaGreatFgp
namespace Go.Proofs.YtfgdockgdbdoiaaGreat.Ev
set_option linter.unusedSimpArgs false
open Go Go.RowKit
set_option linter.unusedVariables false
set_option maxRecDepth 100000
def span_Quotient_s : Sig := ⟨72, ⟨2, 0, 0⟩, ⟨2, 0, 0⟩, [(.int .i64 (.var 0)), (.int .i64 (.var 1))], [], (.agg [(.int .i64 (.var 2)), (.int .i64 (.var 3))]), []⟩

def quo0_t : Tr :=
  (.call whole_Lower_s ⟨[(.var 0), (.lit 1), (.var 1)], [], []⟩ ⟨[(.var 0), (.lit 1), (.var 1), (.var 2)], [], []⟩ ⟨59, [(.int .i64 (.var 0)), (.int .i64 (.lit 1)), (.int .i64 (.var 1))], [], [none], (.int .i64 (.var 2)), []⟩
  (.call whole_Upper_s ⟨[(.var 0), (.lit 1), (.var 1)], [], []⟩ ⟨[(.var 0), (.lit 1), (.var 1), (.var 3)], [], []⟩ ⟨60, [(.int .i64 (.var 0)), (.int .i64 (.lit 1)), (.int .i64 (.var 1))], [], [none], (.int .i64 (.var 3)), []⟩
  (.ret ⟨[(.var 2), (.var 3)], [], []⟩ [])))
theorem quo0 {x0 x1 : Int} (r0 : (-4000000000000000000) ≤ x0 ∧ x0 ≤ 4000000000000000000) (r1 : 1 ≤ x1 ∧ x1 ≤ 9000000000000000000) {R : Int → Int → Prop}
  (H : (∃ v2 : Int, Spec Tryz.prog whole_Lower_s ⟨[x0, 1, x1], [], []⟩ [v2] [] [] ∧
   (∃ v3 : Int, Spec Tryz.prog whole_Upper_s ⟨[x0, 1, x1], [], []⟩ [v3] [] [] ∧
   R (v2) (v3)))) :
    ∃ v0 : Int, ∃ v1 : Int, R v0 v1 ∧ Spec Tryz.prog span_Quotient_s ⟨[x0, x1], [], []⟩ [v0, v1] [] [] :=
  Eq.mp (by kernel_rfl) (exV_of (K := fun d => app3 span_Quotient_s.out R d ∧ Spec Tryz.prog span_Quotient_s ⟨[x0, x1], [], []⟩ d.1 d.2.1 d.2.2) (tree_at mixed names S1_ok (S := S1 Tryz.prog) (lf := 100000) (d := 60) span_Quotient_s quo0_t { ivs := [(0, (-4000000000000000000), 4000000000000000000), (1, 1, 9000000000000000000)], aivs := [] } ⟨[x0, x1], [], []⟩ rfl (by kernel_rfl) (by kernel_rfl) (by kernel_rfl) ⟨(fc r0 (fc r1 fz)), fz, fz, fz⟩ (R := fun d => app3 span_Quotient_s.out R d) (Eq.mp (by kernel_rfl) H)))

theorem quo_s {n d : Int} (h0 : -4000000000000000 ≤ n ∧ n ≤ 4000000000000000) (h1 : 1 ≤ d ∧ d ≤ 40000000000) : Spec Tryz.prog span_Quotient_s ⟨[n, d], [], []⟩ [n / d, cdiv n d] [] [] := by

  have hd : DvIn n 1 d := DvIn_by (X := 4000000000000000) (Y := 1) (by omega) (by omega) (by decide) (by decide) (by omega) (by omega) (by decide) (by decide) (by decide)

  obtain ⟨a, b, ⟨rfl, rfl⟩, hs⟩ := quo0 (x0 := n) (x1 := d) (by omega) (by omega) (R := fun a b => a = n / d ∧ b = cdiv n d) ⟨_, lower_s hd, _, upper_s hd, by rw [Int.mul_one], by rw [Int.mul_one]⟩

  exact hs

end Go.Proofs.YtfgdockgdbdoiaaGreat.Ev
