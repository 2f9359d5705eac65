/- PolarPure: whatever the parts of the Jones matrix, it returns true -/
import Derived.Test.YtipcoahafdolcaaPpf
import Derived.Test.YtipcoahafdolcaaRows
import Derived.ProofKit
import Derived.OpenShut
import Derived.ChangeSame
import Derived.JoinedOf
import Derived.JoinedAt
import Derived.RowKit3
import Derived.Lib.SmallJoins
import Derived.Test.YtipcoahafdolcaaArr2
namespace Go.Proofs.Ytipcoahafdolcaa.polarPure
open Go.ChangeShapes Go.WideShapes Go.ChangeAt Go.RowKit Go.Joins Go.Proofs.Ytipcoahafdolcaa.Ar2
set_option linter.unusedVariables false

theorem own : ownKnob Try.prog.godebug = none := by kernel_rfl

set_option maxRecDepth 100000 in
theorem lifted (os : Os) (started : os.Started) (H : Type) (enc : TypeId × Value → H) :
    ReturnsInHanded {} Try.checked os 11 .any (Rows.polarPureSpec.pre6 enc Try.prog Try.f11 Rows.polarPureRow.domain false) (Rows.polarPureSpec.post enc Try.prog Try.f11 false true false false) := by
  refine returnsInHanded_of_change (C := Try.checked) own started (by kernel_rfl) Try.func11
    (ChangeSpec.witness6 (enc := enc) (C := Try.checked) false ⟨#[], #[.agg #[.int .i64 0, .int .i64 0, .int .i64 0, .int .i64 0, .int .i64 0, .int .i64 0, .int .i64 0, .int .i64 0]], []⟩ 8 (by kernel_rfl) (by kernel_rfl) (by kernel_rfl) (by kernel_rfl)) ?_
  intro W base args ds gs before hval0 hW _ _
  have hval : ∀ (j : Nat) t v, Try.f11.params[j]? = some t → args[j]? = some v → Value.okWide Try.prog W .any base t v := hval0
  have hW' := hW
  obtain ⟨p, q, hA0, hV, rfl, _, _⟩ := hW
  have hA : DataW.TrodAll enc Try.prog W 0 (fun _ => true) true Try.f11.params.toList args.toList ds p := hA0
  rw [Try.params11] at hA hval
  obtain ⟨v0, vs0, d0, ds0, p0, q0, hargs, rfl, rfl, h0, r0⟩ := trodAll_cons hA
  obtain ⟨rfl, rfl, rfl⟩ := trodAll_nil r0
  obtain rfl : args = #[v0] := by cases args; simp_all
  obtain ⟨rfl, rfl⟩ := trodVars_none hV
  obtain ⟨l0, hl0, hr0, rfl, rfl, reads0⟩ := open_flat (k := 6) (n := 8) (by kernel_rfl) (by kernel_rfl) (by kernel_rfl) (by kernel_rfl) (by kernel_rfl) (of_decide_eq_true (by kernel_rfl)) (by kernel_rfl) (by kernel_rfl) (by kernel_rfl) (hval 0 107 v0 rfl rfl) h0
  obtain ⟨a0_0, l0_0, rfl, hl0_0, g0_0, hr0_0⟩ := len_cons hl0 hr0
  clear hl0 hr0
  obtain ⟨a0_1, l0_1, rfl, hl0_1, g0_1, hr0_1⟩ := len_cons hl0_0 hr0_0
  clear hl0_0 hr0_0
  obtain ⟨a0_2, l0_2, rfl, hl0_2, g0_2, hr0_2⟩ := len_cons hl0_1 hr0_1
  clear hl0_1 hr0_1
  obtain ⟨a0_3, l0_3, rfl, hl0_3, g0_3, hr0_3⟩ := len_cons hl0_2 hr0_2
  clear hl0_2 hr0_2
  obtain ⟨a0_4, l0_4, rfl, hl0_4, g0_4, hr0_4⟩ := len_cons hl0_3 hr0_3
  clear hl0_3 hr0_3
  obtain ⟨a0_5, l0_5, rfl, hl0_5, g0_5, hr0_5⟩ := len_cons hl0_4 hr0_4
  clear hl0_4 hr0_4
  obtain ⟨a0_6, l0_6, rfl, hl0_6, g0_6, hr0_6⟩ := len_cons hl0_5 hr0_5
  clear hl0_5 hr0_5
  obtain ⟨a0_7, l0_7, rfl, hl0_7, g0_7, hr0_7⟩ := len_cons hl0_6 hr0_6
  clear hl0_6 hr0_6
  obtain rfl := len_nil hl0_7
  clear hl0_7 hr0_7
  clear hA0 hval0
  simp only [List.append_nil] at hW'
  refine (Ev.pures g0_0 g0_1 g0_2 g0_3 g0_4 g0_5 g0_6 g0_7 W).mono fun e W' ⟨he, bel⟩ => ?_
  subst he
  exact ⟨_, rfl, _, _, _, [], _, [], hW', trodAll_mk1 (shut_bool Try.underlying4 _), (trodAll_cons_mk (reads0 _ _) trodAll_mk0), rfl, bel.frame _, fun h => by cases h⟩

theorem over : Rows.polarPureRow.holds Try.pinned (OpenSpec.ofChange Rows.polarPureSpec) :=
  OpenClaim.holds_of_wide 11 Try.f11 rfl rfl rfl rfl rfl rfl rfl ⟨rfl, rfl, rfl, rfl, rfl⟩ rfl rfl rfl rfl rfl (by kernel_rfl) Try.func11 (by kernel_rfl)
    (of_decide_eq_true (by kernel_rfl)) (by unfold Func.isWrapper; first | (rw [if_pos (by decide +kernel)]; kernel_rfl) | (rw [if_neg (by decide +kernel)]; exact ⟨rfl, rfl⟩))
    (fun os started H enc _ => lifted os started H enc)

theorem proved : Rows.PolarPureSaid := over
#print axioms proved
end Go.Proofs.Ytipcoahafdolcaa.polarPure
