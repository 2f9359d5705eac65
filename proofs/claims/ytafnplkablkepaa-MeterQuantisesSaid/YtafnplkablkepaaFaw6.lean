/- The examples of chapter 6 are as the document says. -/
import Derived.Test.YtafnplkablkepaaFpsi
namespace Go.Proofs.Ytafnplkablkepaa.Ev
set_option linter.unusedSimpArgs false
open Go Go.RowKit
set_option linter.unusedVariables false
set_option maxRecDepth 100000
def etalonlaw06_awake_s : Sig := ⟨7, ⟨0, 0, 0⟩, ⟨0, 1, 0⟩, [], [], (.bool (.var 0)), []⟩

def aw06_t : Tr :=
  (.call meter_PsiOf_s ⟨[(.lit 113), (.lit 6328), (.lit 10000), (.lit 7071), (.lit (-524288)), (.lit (-524288)), (.lit 0), (.lit 0), (.lit 0), (.lit 0)], [], []⟩ ⟨[(.lit 113), (.lit 6328), (.lit 10000), (.lit 7071), (.lit (-524288)), (.lit (-524288)), (.lit 0), (.lit 0), (.lit 0), (.lit 0), (.var 0), (.var 1), (.var 2)], [], []⟩ ⟨32, [(.agg [(.str ⟨#[112]⟩), (.int .i64 (.lit 6328)), (.int .i64 (.lit 10000)), (.int .i64 (.lit 7071)), (.int .i64 (.lit (-524288))), (.int .i64 (.lit (-524288))), (.int .i64 (.lit 0)), (.int .i64 (.lit 0)), (.int .i64 (.lit 0)), (.int .i64 (.lit 0))])], [], [none, none, none, none, none, none, none, none, none, none, none, none, none, none, none], (.tuple [(.agg [(.int .i64 (.var 0)), (.int .i64 (.var 1))]), (.int .i64 (.var 2))]), []⟩
  (.ite (.icmp .eql (.var 2) (.lit 0))
  (.ret ⟨[], [(.and (.icmp .eql (.var 0) (.lit 682)) (.icmp .eql (.var 1) (.lit 683)))], []⟩ [])
  (.ret ⟨[], [(.lit false)], []⟩ [])))
theorem aw06 {R : Bool → Prop}
  (H : (∃ v0 : Int, ∃ v1 : Int, ∃ v2 : Int, Spec Try.prog meter_PsiOf_s ⟨[113, 6328, 10000, 7071, (-524288), (-524288), 0, 0, 0, 0], [], []⟩ [v0, v1, v2] [] [] ∧
   ((((v2 : Int) == 0) = true → R ((((v0 : Int) == 682) && ((v1 : Int) == 683)))) ∧
   (((v2 : Int) == 0) = false → R (false))))) :
    ∃ u0 : Bool, R u0 ∧ Spec Try.prog etalonlaw06_awake_s ⟨[], [], []⟩ [] [u0] [] :=
  Eq.mp (by kernel_rfl) (exV_of (K := fun d => app3 etalonlaw06_awake_s.out R d ∧ Spec Try.prog etalonlaw06_awake_s ⟨[], [], []⟩ d.1 d.2.1 d.2.2) (tree_at mixed names S1_ok (S := S1 Try.prog) (lf := 100000) (d := 60) etalonlaw06_awake_s aw06_t { ivs := [], aivs := [] } ⟨[], [], []⟩ rfl (by kernel_rfl) (by kernel_rfl) (by kernel_rfl) ⟨fz, fz, fz, fz⟩ (R := fun d => app3 etalonlaw06_awake_s.out R d) (Eq.mp (by kernel_rfl) H)))

theorem name_p : ∃ u : Bool, u = true ∧ Spec Try.prog text_IsName_s ⟨[113], [], []⟩ [] [u] [] := by

  obtain ⟨u, hu, s⟩ := isName_p 113

  refine ⟨u, hu.2 ?_, s⟩

  have e1 : tLen 113 = 1 := by decide +kernel

  have e2 : tAt 113 0 = 112 := by decide +kernel

  refine ⟨by omega, by omega, by rw [e2]; unfold chL; omega, fun i h0 h1 => ?_⟩

  obtain rfl : i = 0 := by omega

  rw [e2]; unfold chN chL; omega

theorem awake : ∃ u : Bool, u = true ∧ Spec Try.prog etalonlaw06_awake_s ⟨[], [], []⟩ [] [u] [] := by

  obtain ⟨u, rfl, hn⟩ := name_p

  have hc := checkReading_p (x1 := 6328) (x2 := 10000) (x3 := 7071) (x4 := -524288) (x5 := -524288) (x6 := 0) (x7 := 0) (x8 := 0) (x9 := 0) hn (by decide) (by decide) (by decide) (by decide) (by decide) (by decide) (by decide) (by decide) (by decide)

  have e0 : rdE true 6328 10000 7071 (-524288) (-524288) 0 0 0 0 = 0 := by decide

  rw [e0] at hc

  have hp := psiOf_s hc (by decide) (by decide) (by decide) (by decide) (by decide) (by decide) (by decide) (by decide) (by decide)

  rw [if_pos rfl, if_pos rfl, lo_682, hi_683] at hp

  exact aw06 (R := (· = true)) ⟨_, _, _, hp, fun _ => rfl, fun h => absurd h (by decide)⟩

end Go.Proofs.Ytafnplkablkepaa.Ev
