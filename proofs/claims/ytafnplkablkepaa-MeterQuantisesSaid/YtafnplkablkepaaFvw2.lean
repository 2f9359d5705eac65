/- The machine over the program: of NaNs it is told that they are not whole. -/
import Derived.Test.YtafnplkablkepaaFrwe
namespace Go.Proofs.Ytafnplkablkepaa.Ev
set_option linter.unusedSimpArgs false
open Go Go.RowKit
set_option maxRecDepth 100000
theorem nan_of64 {n : Nat} (h : isNan64 n = true) : n < 18446744073709551616 ∧ Nan n := by
  unfold isNan64 at h
  simp only [Bool.and_eq_true, decide_eq_true_eq] at h
  refine ⟨h.1, ?_⟩
  have h2 : (Ieee.double.read n).isNaN = true := h.2
  unfold Nan
  cases hd : Ieee.double.read n with
  | nan s t => exact ⟨s, t, rfl⟩
  | _ => rw [hd] at h2; cases h2
def nansL : List FuncId := [65, 38]
theorem nansL_ok : ∀ f ∈ nansL, ∀ n, isNan64 n = true → ∀ w, Calls Try.prog f #[.float .f64 n] w fun e w' => e = .returned (.bool false) ∧ Below w.heap.size w w' := by
  intro f hf n hn w
  obtain ⟨h1, h2⟩ := nan_of64 hn
  simp only [nansL, List.mem_cons, List.not_mem_nil, or_false] at hf
  rcases hf with rfl | rfl
  · exact whole_nan h1 h2 w
  · exact base_nan h2 w
def S2 (P : Program) : Facts := { S1 P with nans := nansL }
theorem S2_ok (V : Vs) : (S2 Try.prog).Holds Try.prog (envV V) := ⟨fz, fz, fz, fz, fz, sumsL_ok, extL_ok, extSL_ok, ⟨fz, fz, fz, fz⟩, fz, nansL_ok⟩
end Go.Proofs.Ytafnplkablkepaa.Ev
