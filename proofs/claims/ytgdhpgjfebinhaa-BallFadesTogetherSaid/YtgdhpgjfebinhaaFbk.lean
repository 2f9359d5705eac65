/- Chapter 1's awake. -/
import Derived.Test.YtgdhpgjfebinhaaFvw1
namespace Go.Proofs.Ytgdhpgjfebinhaa.Ev
set_option linter.unusedSimpArgs false
open Go Go.RowKit
set_option linter.unusedVariables false
set_option maxRecDepth 100000
def etalonlaw01_awake_s : Sig := ⟨16, ⟨0, 0, 0⟩, ⟨0, 1, 0⟩, [], [], (.bool (.var 0)), []⟩

def aw_t : Tr :=
  (.ret ⟨[], [(.lit true)], []⟩ [])
theorem aw {R : Bool → Prop}
  (H : R (true)) :
    ∃ u0 : Bool, R u0 ∧ Spec Try.prog etalonlaw01_awake_s ⟨[], [], []⟩ [] [u0] [] :=
  Eq.mp (by kernel_rfl) (exV_of (K := fun d => app3 etalonlaw01_awake_s.out R d ∧ Spec Try.prog etalonlaw01_awake_s ⟨[], [], []⟩ d.1 d.2.1 d.2.2) (tree_at mixed names S1_ok (S := S1 Try.prog) (lf := 100000) (d := 60) etalonlaw01_awake_s aw_t { ivs := [], aivs := [] } ⟨[], [], []⟩ rfl (by kernel_rfl) (by kernel_rfl) (by kernel_rfl) ⟨fz, fz, fz, fz⟩ (R := fun d => app3 etalonlaw01_awake_s.out R d) (Eq.mp (by kernel_rfl) H)))

theorem outt {P : Program} {S : Sig} {V : Vs} {u : Bool} (h : ∃ b : Bool, b = u ∧ Spec P S V [] [b] []) : Spec P S V [] [u] [] := by

  obtain ⟨b, rfl, hs⟩ := h

  exact hs

theorem awake_t : Spec Try.prog etalonlaw01_awake_s ⟨[], [], []⟩ [] [true] [] := outt (aw (R := (· = true)) rfl)

end Go.Proofs.Ytgdhpgjfebinhaa.Ev
