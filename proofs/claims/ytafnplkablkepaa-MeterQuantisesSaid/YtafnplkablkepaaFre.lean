/- The error of a range between two ends. -/
import Derived.Test.YtafnplkablkepaaFvw1
namespace Go.Proofs.Ytafnplkablkepaa.Ev
set_option linter.unusedSimpArgs false
open Go Go.RowKit
set_option linter.unusedVariables false
set_option maxRecDepth 100000
def span_Check_s : Sig := ⟨70, ⟨4, 0, 0⟩, ⟨1, 0, 0⟩, [(.agg [(.int .i64 (.var 0)), (.int .i64 (.var 1))]), (.int .i64 (.var 2)), (.int .i64 (.var 3))], [], (.int .i64 (.var 4)), []⟩

def cs_t : Tr :=
  (.ite (.icmp .leq (.var 2) (.var 0))
  (.ite (.icmp .leq (.var 0) (.var 3))
   (.ite (.icmp .leq (.var 2) (.var 1))
    (.ite (.icmp .leq (.var 1) (.var 3))
     (.ite (.icmp .leq (.var 0) (.var 1))
      (.ret ⟨[(.lit 0)], [], []⟩ [])
      (.ret ⟨[(.lit 10)], [], []⟩ []))
     (.ret ⟨[(.lit 2)], [], []⟩ []))
    (.ret ⟨[(.lit 2)], [], []⟩ []))
   (.ret ⟨[(.lit 2)], [], []⟩ []))
  (.ret ⟨[(.lit 2)], [], []⟩ []))
theorem cs {x0 x1 x2 x3 : Int} (r0 : (-9223372036854775808) ≤ x0 ∧ x0 ≤ 9223372036854775807) (r1 : (-9223372036854775808) ≤ x1 ∧ x1 ≤ 9223372036854775807) (r2 : (-9223372036854775808) ≤ x2 ∧ x2 ≤ 9223372036854775807) (r3 : (-9223372036854775808) ≤ x3 ∧ x3 ≤ 9223372036854775807) {R : Int → Prop}
  (H : ((decide ((x2 : Int) ≤ x0) = true → ((decide ((x0 : Int) ≤ x3) = true → ((decide ((x2 : Int) ≤ x1) = true → ((decide ((x1 : Int) ≤ x3) = true → ((decide ((x0 : Int) ≤ x1) = true → R (0)) ∧
       (decide ((x0 : Int) ≤ x1) = false → R (10)))) ∧
      (decide ((x1 : Int) ≤ x3) = false → R (2)))) ∧
     (decide ((x2 : Int) ≤ x1) = false → R (2)))) ∧
    (decide ((x0 : Int) ≤ x3) = false → R (2)))) ∧
   (decide ((x2 : Int) ≤ x0) = false → R (2)))) :
    ∃ v0 : Int, R v0 ∧ Spec Try.prog span_Check_s ⟨[x0, x1, x2, x3], [], []⟩ [v0] [] [] :=
  Eq.mp (by kernel_rfl) (exV_of (K := fun d => app3 span_Check_s.out R d ∧ Spec Try.prog span_Check_s ⟨[x0, x1, x2, x3], [], []⟩ d.1 d.2.1 d.2.2) (tree_at mixed names S1_ok (S := S1 Try.prog) (lf := 100000) (d := 60) span_Check_s cs_t { ivs := [(0, (-9223372036854775808), 9223372036854775807), (1, (-9223372036854775808), 9223372036854775807), (2, (-9223372036854775808), 9223372036854775807), (3, (-9223372036854775808), 9223372036854775807)], aivs := [] } ⟨[x0, x1, x2, x3], [], []⟩ rfl (by kernel_rfl) (by kernel_rfl) (by kernel_rfl) ⟨(fc r0 (fc r1 (fc r2 (fc r3 fz)))), fz, fz, fz⟩ (R := fun d => app3 span_Check_s.out R d) (Eq.mp (by kernel_rfl) H)))

abbrev I64 (x : Int) : Prop := (-9223372036854775808) ≤ x ∧ x ≤ 9223372036854775807

/-- The error of a range whose ends are to be from L to M. -/

def re (L M lo hi : Int) : Int := if L ≤ lo ∧ lo ≤ M ∧ L ≤ hi ∧ hi ≤ M then (if lo ≤ hi then 0 else 10) else 2

/-- The first of errors. -/

def fe (a b : Int) : Int := if a = 0 then b else a

theorem re_ok {L M lo hi : Int} (h : re L M lo hi = 0) : (L ≤ lo ∧ lo ≤ M) ∧ (L ≤ hi ∧ hi ≤ M) ∧ lo ≤ hi := by

  unfold re at h; split at h

  · split at h <;> omega

  · omega

theorem re_vals (L M lo hi : Int) : re L M lo hi = 0 ∨ re L M lo hi = 2 ∨ re L M lo hi = 10 := by

  unfold re; split

  · split <;> simp

  · simp

theorem check_s {x0 x1 x2 x3 : Int} (r0 : I64 x0) (r1 : I64 x1) (r2 : I64 x2) (r3 : I64 x3) : Spec Try.prog span_Check_s ⟨[x0, x1, x2, x3], [], []⟩ [re x2 x3 x0 x1] [] [] := by

  obtain ⟨v, rfl, hs⟩ : ∃ v : Int, v = re x2 x3 x0 x1 ∧ Spec Try.prog span_Check_s ⟨[x0, x1, x2, x3], [], []⟩ [v] [] [] := by

    refine cs r0 r1 r2 r3 (R := (· = re x2 x3 x0 x1)) ?_

    simp only [decide_eq_true_eq, decide_eq_false_iff_not, re]

    (repeat' (first | apply And.intro | intro _ | fail)) <;> (split <;> (try split) <;> omega)

  exact hs

end Go.Proofs.Ytafnplkablkepaa.Ev
