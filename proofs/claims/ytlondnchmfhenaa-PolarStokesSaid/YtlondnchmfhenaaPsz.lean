/- PolarStokes: whatever the input, it returns true -/
import Derived.Test.YtlondnchmfhenaaPst
import Derived.Test.YtlondnchmfhenaaRows
import Derived.ProofKit
import Derived.OpenShut
import Derived.ChangeSame
import Derived.JoinedOf
import Derived.JoinedAt
import Derived.RowKit3
import Derived.Lib.SmallJoins
import Derived.Test.YtlondnchmfhenaaArr2
namespace Go.Proofs.Ytlondnchmfhenaa.polarStokes
open Go.ChangeShapes Go.WideShapes Go.ChangeAt Go.RowKit Go.Joins Go.Proofs.Ytlondnchmfhenaa.Ar2
set_option linter.unusedVariables false

theorem own : ownKnob Try.prog.godebug = none := by kernel_rfl

set_option maxRecDepth 100000 in
theorem lifted (os : Os) (started : os.Started) (H : Type) (enc : TypeId × Value → H) :
    ReturnsInHanded {} Try.checked os 7 .any (Rows.polarStokesSpec.pre6 enc Try.prog Try.f7 Rows.polarStokesRow.domain false) (Rows.polarStokesSpec.post enc Try.prog Try.f7 false true false false) := by
  refine returnsInHanded_of_change (C := Try.checked) own started (by kernel_rfl) Try.func7
    (ChangeSpec.witness6 (enc := enc) (C := Try.checked) false ⟨#[], #[.agg #[.int .i64 0, .int .i64 0, .int .i64 0, .int .i64 0]], []⟩ 8 (by kernel_rfl) (by kernel_rfl) (by kernel_rfl) (by kernel_rfl)) ?_
  intro W base args ds gs before hval0 hW _ _
  have hval : ∀ (j : Nat) t v, Try.f7.params[j]? = some t → args[j]? = some v → Value.okWide Try.prog W .any base t v := hval0
  have hW' := hW
  obtain ⟨p, q, hA0, hV, rfl, _, _⟩ := hW
  have hA : DataW.TrodAll enc Try.prog W 0 (fun _ => true) true Try.f7.params.toList args.toList ds p := hA0
  rw [Try.params7] at hA hval
  obtain ⟨v0, vs0, d0, ds0, p0, q0, hargs, rfl, rfl, h0, r0⟩ := trodAll_cons hA
  obtain ⟨rfl, rfl, rfl⟩ := trodAll_nil r0
  obtain rfl : args = #[v0] := by cases args; simp_all
  obtain ⟨rfl, rfl⟩ := trodVars_none hV
  obtain ⟨l0, hl0, hr0, rfl, rfl, reads0⟩ := open_flat (k := 6) (n := 4) (by kernel_rfl) (by kernel_rfl) (by kernel_rfl) (by kernel_rfl) (by kernel_rfl) (of_decide_eq_true (by kernel_rfl)) (by kernel_rfl) (by kernel_rfl) (by kernel_rfl) (hval 0 30 v0 rfl rfl) h0
  obtain ⟨a0_0, l0_0, rfl, hl0_0, g0_0, hr0_0⟩ := len_cons hl0 hr0
  clear hl0 hr0
  obtain ⟨a0_1, l0_1, rfl, hl0_1, g0_1, hr0_1⟩ := len_cons hl0_0 hr0_0
  clear hl0_0 hr0_0
  obtain ⟨a0_2, l0_2, rfl, hl0_2, g0_2, hr0_2⟩ := len_cons hl0_1 hr0_1
  clear hl0_1 hr0_1
  obtain ⟨a0_3, l0_3, rfl, hl0_3, g0_3, hr0_3⟩ := len_cons hl0_2 hr0_2
  clear hl0_2 hr0_2
  obtain rfl := len_nil hl0_3
  clear hl0_3 hr0_3
  clear hA0 hval0
  simp only [List.append_nil] at hW'
  refine (Ev.stokes g0_0 g0_1 g0_2 g0_3 W).mono fun e W' ⟨he, bel⟩ => ?_
  subst he
  exact ⟨_, rfl, _, _, _, [], _, [], hW', trodAll_mk1 (shut_bool Try.underlying4 _), (trodAll_cons_mk (reads0 _ _) trodAll_mk0), rfl, bel.frame _, fun h => by cases h⟩

theorem over : Rows.polarStokesRow.holds Try.pinned (OpenSpec.ofChange Rows.polarStokesSpec) :=
  OpenClaim.holds_of_wide 7 Try.f7 rfl rfl rfl rfl rfl rfl rfl ⟨rfl, rfl, rfl, rfl, rfl⟩ rfl rfl rfl rfl rfl (by kernel_rfl) Try.func7 (by kernel_rfl)
    (of_decide_eq_true (by kernel_rfl)) (by unfold Func.isWrapper; first | (rw [if_pos (by decide +kernel)]; kernel_rfl) | (rw [if_neg (by decide +kernel)]; exact ⟨rfl, rfl⟩))
    (fun os started H enc _ => lifted os started H enc)

theorem proved : Rows.PolarStokesSaid := over
#print axioms proved
end Go.Proofs.Ytlondnchmfhenaa.polarStokes
