/- The examples of chapter 8 are as the document says. -/
import Derived.Test.YtiekcneeedifmaaFvw1
namespace Go.Proofs.Ytiekcneeedifmaa.Ev
set_option linter.unusedSimpArgs false
open Go Go.RowKit
set_option linter.unusedVariables false
set_option maxRecDepth 100000
def etalonlaw08_awake_s : Sig := ⟨5, ⟨0, 0, 0⟩, ⟨0, 1, 0⟩, [], [], (.bool (.var 0)), []⟩

def aw_t : Tr :=
  (.ret ⟨[], [(.lit true)], []⟩ [])
theorem aw {R : Bool → Prop}
  (H : R (true)) :
    ∃ u0 : Bool, R u0 ∧ Spec Try.prog etalonlaw08_awake_s ⟨[], [], []⟩ [] [u0] [] :=
  Eq.mp (by kernel_rfl) (exV_of (K := fun d => app3 etalonlaw08_awake_s.out R d ∧ Spec Try.prog etalonlaw08_awake_s ⟨[], [], []⟩ d.1 d.2.1 d.2.2) (tree_at mixed names S1_ok (S := S1 Try.prog) (lf := 100000) (d := 60) etalonlaw08_awake_s aw_t { ivs := [], aivs := [] } ⟨[], [], []⟩ rfl (by kernel_rfl) (by kernel_rfl) (by kernel_rfl) ⟨fz, fz, fz, fz⟩ (R := fun d => app3 etalonlaw08_awake_s.out R d) (Eq.mp (by kernel_rfl) H)))

theorem awake : ∃ u0 : Bool, u0 = true ∧ Spec Try.prog etalonlaw08_awake_s ⟨[], [], []⟩ [] [u0] [] := aw rfl

end Go.Proofs.Ytiekcneeedifmaa.Ev
