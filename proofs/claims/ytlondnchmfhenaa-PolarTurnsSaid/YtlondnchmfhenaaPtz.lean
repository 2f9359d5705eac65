/- PolarTurns: whatever the input, it returns true -/
import Derived.Test.YtlondnchmfhenaaPtl
import Derived.Test.YtlondnchmfhenaaRows
import Derived.ProofKit
import Derived.OpenShut
import Derived.ChangeSame
import Derived.JoinedOf
import Derived.JoinedAt
import Derived.RowKit3
import Derived.Lib.SmallJoins
import Derived.Test.YtlondnchmfhenaaArr2
import Derived.Test.YtlondnchmfhenaaArr3
namespace Go.Proofs.Ytlondnchmfhenaa.polarTurns
open Go.ChangeShapes Go.WideShapes Go.ChangeAt Go.RowKit Go.Joins Go.Proofs.Ytlondnchmfhenaa.Ar2 Go.Proofs.Ytlondnchmfhenaa.Ar3
set_option linter.unusedVariables false

theorem own : ownKnob Try.prog.godebug = none := by kernel_rfl

set_option maxRecDepth 100000 in
theorem lifted (os : Os) (started : os.Started) (H : Type) (enc : TypeId × Value → H) :
    ReturnsInHanded {} Try.checked os 5 .any (Rows.polarTurnsSpec.pre6 enc Try.prog Try.f5 Rows.polarTurnsRow.domain false) (Rows.polarTurnsSpec.post enc Try.prog Try.f5 false true false false) := by
  refine returnsInHanded_of_change (C := Try.checked) own started (by kernel_rfl) Try.func5
    (ChangeSpec.witness6 (enc := enc) (C := Try.checked) false ⟨#[], #[.agg #[.int .i64 0, .int .i64 0, .int .i64 0], .agg #[.float .f64 0, .float .f64 0, .float .f64 0, .float .f64 0, .float .f64 0, .float .f64 0, .float .f64 0, .float .f64 0]], []⟩ 8 (by kernel_rfl) (by kernel_rfl) (by kernel_rfl) (by kernel_rfl)) ?_
  intro W base args ds gs before hval0 hW _ _
  have hval : ∀ (j : Nat) t v, Try.f5.params[j]? = some t → args[j]? = some v → Value.okWide Try.prog W .any base t v := hval0
  have hW' := hW
  obtain ⟨p, q, hA0, hV, rfl, _, _⟩ := hW
  have hA : DataW.TrodAll enc Try.prog W 0 (fun _ => true) true Try.f5.params.toList args.toList ds p := hA0
  rw [Try.params5] at hA hval
  obtain ⟨v0, vs0, d0, ds0, p0, q0, hargs, rfl, rfl, h0, r0⟩ := trodAll_cons hA
  obtain ⟨v1, vs1, d1, ds1, p1, q1, rfl, rfl, rfl, h1, r1⟩ := trodAll_cons r0
  obtain ⟨rfl, rfl, rfl⟩ := trodAll_nil r1
  obtain rfl : args = #[v0, v1] := by cases args; simp_all
  obtain ⟨rfl, rfl⟩ := trodVars_none hV
  obtain ⟨l0, hl0, hr0, rfl, rfl, reads0⟩ := open_flat (k := 6) (n := 3) (by kernel_rfl) (by kernel_rfl) (by kernel_rfl) (by kernel_rfl) (by kernel_rfl) (of_decide_eq_true (by kernel_rfl)) (by kernel_rfl) (by kernel_rfl) (by kernel_rfl) (hval 0 69 v0 rfl rfl) h0
  obtain ⟨a0_0, l0_0, rfl, hl0_0, g0_0, hr0_0⟩ := len_cons hl0 hr0
  clear hl0 hr0
  obtain ⟨a0_1, l0_1, rfl, hl0_1, g0_1, hr0_1⟩ := len_cons hl0_0 hr0_0
  clear hl0_0 hr0_0
  obtain ⟨a0_2, l0_2, rfl, hl0_2, g0_2, hr0_2⟩ := len_cons hl0_1 hr0_1
  clear hl0_1 hr0_1
  obtain rfl := len_nil hl0_2
  clear hl0_2 hr0_2
  obtain ⟨l1, hl1, hr1, rfl, rfl, reads1⟩ := open_flatF (k := 6) (n := 8) (by kernel_rfl) (by kernel_rfl) (by kernel_rfl) (by kernel_rfl) (by kernel_rfl) (of_decide_eq_true (by kernel_rfl)) (by kernel_rfl) (by kernel_rfl) (by kernel_rfl) (hval 1 27 v1 rfl rfl) h1
  obtain ⟨a1_0, l1_0, rfl, hl1_0, g1_0, hr1_0⟩ := flo_cons hl1 hr1
  clear hl1 hr1
  obtain ⟨a1_1, l1_1, rfl, hl1_1, g1_1, hr1_1⟩ := flo_cons hl1_0 hr1_0
  clear hl1_0 hr1_0
  obtain ⟨a1_2, l1_2, rfl, hl1_2, g1_2, hr1_2⟩ := flo_cons hl1_1 hr1_1
  clear hl1_1 hr1_1
  obtain ⟨a1_3, l1_3, rfl, hl1_3, g1_3, hr1_3⟩ := flo_cons hl1_2 hr1_2
  clear hl1_2 hr1_2
  obtain ⟨a1_4, l1_4, rfl, hl1_4, g1_4, hr1_4⟩ := flo_cons hl1_3 hr1_3
  clear hl1_3 hr1_3
  obtain ⟨a1_5, l1_5, rfl, hl1_5, g1_5, hr1_5⟩ := flo_cons hl1_4 hr1_4
  clear hl1_4 hr1_4
  obtain ⟨a1_6, l1_6, rfl, hl1_6, g1_6, hr1_6⟩ := flo_cons hl1_5 hr1_5
  clear hl1_5 hr1_5
  obtain ⟨a1_7, l1_7, rfl, hl1_7, g1_7, hr1_7⟩ := flo_cons hl1_6 hr1_6
  clear hl1_6 hr1_6
  obtain rfl := flo_nil hl1_7
  clear hl1_7 hr1_7
  clear hA0 hval0
  simp only [List.append_nil] at hW'
  refine (Ev.turns g0_0 g0_1 g0_2 g1_0 g1_1 g1_2 g1_3 g1_4 g1_5 g1_6 g1_7 W).mono fun e W' ⟨he, bel⟩ => ?_
  subst he
  exact ⟨_, rfl, _, _, _, [], _, [], hW', trodAll_mk1 (shut_bool Try.underlying4 _), (trodAll_cons_mk (reads0 _ _) (trodAll_cons_mk (reads1 _ _) trodAll_mk0)), rfl, bel.frame _, fun h => by cases h⟩

theorem over : Rows.polarTurnsRow.holds Try.pinned (OpenSpec.ofChange Rows.polarTurnsSpec) :=
  OpenClaim.holds_of_wide 5 Try.f5 rfl rfl rfl rfl rfl rfl rfl ⟨rfl, rfl, rfl, rfl, rfl⟩ rfl rfl rfl rfl rfl (by kernel_rfl) Try.func5 (by kernel_rfl)
    (of_decide_eq_true (by kernel_rfl)) (by unfold Func.isWrapper; first | (rw [if_pos (by decide +kernel)]; kernel_rfl) | (rw [if_neg (by decide +kernel)]; exact ⟨rfl, rfl⟩))
    (fun os started H enc _ => lifted os started H enc)

theorem proved : Rows.PolarTurnsSaid := over
#print axioms proved
end Go.Proofs.Ytlondnchmfhenaa.polarTurns
