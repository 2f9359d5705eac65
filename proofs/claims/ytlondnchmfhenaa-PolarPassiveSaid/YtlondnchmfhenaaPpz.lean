/- PolarPassive: whatever the input, it returns true -/
import Derived.Test.YtlondnchmfhenaaPpp
import Derived.Test.YtlondnchmfhenaaRows
import Derived.ProofKit
import Derived.OpenShut
import Derived.ChangeSame
import Derived.JoinedOf
import Derived.JoinedAt
import Derived.RowKit3
import Derived.Lib.SmallJoins
import Derived.Test.YtlondnchmfhenaaArr2
namespace Go.Proofs.Ytlondnchmfhenaa.polarPassive
open Go.ChangeShapes Go.WideShapes Go.ChangeAt Go.RowKit Go.Joins Go.Proofs.Ytlondnchmfhenaa.Ar2
set_option linter.unusedVariables false

theorem own : ownKnob Try.prog.godebug = none := by kernel_rfl

set_option maxRecDepth 100000 in
theorem lifted (os : Os) (started : os.Started) (H : Type) (enc : TypeId × Value → H) :
    ReturnsInHanded {} Try.checked os 17 .any (Rows.polarPassiveSpec.pre6 enc Try.prog Try.f17 Rows.polarPassiveRow.domain false) (Rows.polarPassiveSpec.post enc Try.prog Try.f17 false true false false) := by
  refine returnsInHanded_of_change (C := Try.checked) own started (by kernel_rfl) Try.func17
    (ChangeSpec.witness6 (enc := enc) (C := Try.checked) false ⟨#[], #[.agg #[.int .i64 0, .int .i64 0, .int .i64 0, .int .i64 0, .int .i64 0, .int .i64 0, .int .i64 0, .int .i64 0, .int .i64 0, .int .i64 0, .int .i64 0, .int .i64 0, .int .i64 0, .int .i64 0, .int .i64 0, .int .i64 0], .int .i64 0, .agg #[.int .i64 0, .int .i64 0, .int .i64 0, .int .i64 0]], []⟩ 8 (by kernel_rfl) (by kernel_rfl) (by kernel_rfl) (by kernel_rfl)) ?_
  intro W base args ds gs before hval0 hW _ _
  have hval : ∀ (j : Nat) t v, Try.f17.params[j]? = some t → args[j]? = some v → Value.okWide Try.prog W .any base t v := hval0
  have hW' := hW
  obtain ⟨p, q, hA0, hV, rfl, _, _⟩ := hW
  have hA : DataW.TrodAll enc Try.prog W 0 (fun _ => true) true Try.f17.params.toList args.toList ds p := hA0
  rw [Try.params17] at hA hval
  obtain ⟨v0, vs0, d0, ds0, p0, q0, hargs, rfl, rfl, h0, r0⟩ := trodAll_cons hA
  obtain ⟨v1, vs1, d1, ds1, p1, q1, rfl, rfl, rfl, h1, r1⟩ := trodAll_cons r0
  obtain ⟨v2, vs2, d2, ds2, p2, q2, rfl, rfl, rfl, h2, r2⟩ := trodAll_cons r1
  obtain ⟨rfl, rfl, rfl⟩ := trodAll_nil r2
  obtain rfl : args = #[v0, v1, v2] := by cases args; simp_all
  obtain ⟨rfl, rfl⟩ := trodVars_none hV
  obtain ⟨l0, hl0, hr0, rfl, rfl, reads0⟩ := open_flat (k := 6) (n := 16) (by kernel_rfl) (by kernel_rfl) (by kernel_rfl) (by kernel_rfl) (by kernel_rfl) (of_decide_eq_true (by kernel_rfl)) (by kernel_rfl) (by kernel_rfl) (by kernel_rfl) (hval 0 92 v0 rfl rfl) h0
  obtain ⟨a0_0, l0_0, rfl, hl0_0, g0_0, hr0_0⟩ := len_cons hl0 hr0
  clear hl0 hr0
  obtain ⟨a0_1, l0_1, rfl, hl0_1, g0_1, hr0_1⟩ := len_cons hl0_0 hr0_0
  clear hl0_0 hr0_0
  obtain ⟨a0_2, l0_2, rfl, hl0_2, g0_2, hr0_2⟩ := len_cons hl0_1 hr0_1
  clear hl0_1 hr0_1
  obtain ⟨a0_3, l0_3, rfl, hl0_3, g0_3, hr0_3⟩ := len_cons hl0_2 hr0_2
  clear hl0_2 hr0_2
  obtain ⟨a0_4, l0_4, rfl, hl0_4, g0_4, hr0_4⟩ := len_cons hl0_3 hr0_3
  clear hl0_3 hr0_3
  obtain ⟨a0_5, l0_5, rfl, hl0_5, g0_5, hr0_5⟩ := len_cons hl0_4 hr0_4
  clear hl0_4 hr0_4
  obtain ⟨a0_6, l0_6, rfl, hl0_6, g0_6, hr0_6⟩ := len_cons hl0_5 hr0_5
  clear hl0_5 hr0_5
  obtain ⟨a0_7, l0_7, rfl, hl0_7, g0_7, hr0_7⟩ := len_cons hl0_6 hr0_6
  clear hl0_6 hr0_6
  obtain ⟨a0_8, l0_8, rfl, hl0_8, g0_8, hr0_8⟩ := len_cons hl0_7 hr0_7
  clear hl0_7 hr0_7
  obtain ⟨a0_9, l0_9, rfl, hl0_9, g0_9, hr0_9⟩ := len_cons hl0_8 hr0_8
  clear hl0_8 hr0_8
  obtain ⟨a0_10, l0_10, rfl, hl0_10, g0_10, hr0_10⟩ := len_cons hl0_9 hr0_9
  clear hl0_9 hr0_9
  obtain ⟨a0_11, l0_11, rfl, hl0_11, g0_11, hr0_11⟩ := len_cons hl0_10 hr0_10
  clear hl0_10 hr0_10
  obtain ⟨a0_12, l0_12, rfl, hl0_12, g0_12, hr0_12⟩ := len_cons hl0_11 hr0_11
  clear hl0_11 hr0_11
  obtain ⟨a0_13, l0_13, rfl, hl0_13, g0_13, hr0_13⟩ := len_cons hl0_12 hr0_12
  clear hl0_12 hr0_12
  obtain ⟨a0_14, l0_14, rfl, hl0_14, g0_14, hr0_14⟩ := len_cons hl0_13 hr0_13
  clear hl0_13 hr0_13
  obtain ⟨a0_15, l0_15, rfl, hl0_15, g0_15, hr0_15⟩ := len_cons hl0_14 hr0_14
  clear hl0_14 hr0_14
  obtain rfl := len_nil hl0_15
  clear hl0_15 hr0_15
  obtain ⟨a1, rfl, rfl, rfl, w1⟩ := open_int Try.underlying3 (hval 1 3 v1 rfl rfl) h1
  obtain ⟨l2, hl2, hr2, rfl, rfl, reads2⟩ := open_flat (k := 6) (n := 4) (by kernel_rfl) (by kernel_rfl) (by kernel_rfl) (by kernel_rfl) (by kernel_rfl) (of_decide_eq_true (by kernel_rfl)) (by kernel_rfl) (by kernel_rfl) (by kernel_rfl) (hval 2 30 v2 rfl rfl) h2
  obtain ⟨a2_0, l2_0, rfl, hl2_0, g2_0, hr2_0⟩ := len_cons hl2 hr2
  clear hl2 hr2
  obtain ⟨a2_1, l2_1, rfl, hl2_1, g2_1, hr2_1⟩ := len_cons hl2_0 hr2_0
  clear hl2_0 hr2_0
  obtain ⟨a2_2, l2_2, rfl, hl2_2, g2_2, hr2_2⟩ := len_cons hl2_1 hr2_1
  clear hl2_1 hr2_1
  obtain ⟨a2_3, l2_3, rfl, hl2_3, g2_3, hr2_3⟩ := len_cons hl2_2 hr2_2
  clear hl2_2 hr2_2
  obtain rfl := len_nil hl2_3
  clear hl2_3 hr2_3
  clear hA0 hval0
  simp only [List.append_nil] at hW'
  refine (Ev.passive g0_0 g0_1 g0_2 g0_3 g0_4 g0_5 g0_6 g0_7 g0_8 g0_9 g0_10 g0_11 g0_12 g0_13 g0_14 g0_15 (i64_wf w1) g2_0 g2_1 g2_2 g2_3 W).mono fun e W' ⟨he, bel⟩ => ?_
  subst he
  exact ⟨_, rfl, _, _, _, [], _, [], hW', trodAll_mk1 (shut_bool Try.underlying4 _), (trodAll_cons_mk (reads0 _ _) (trodAll_cons_mk (shut_int Try.underlying3 w1) (trodAll_cons_mk (reads2 _ _) trodAll_mk0))), rfl, bel.frame _, fun h => by cases h⟩

theorem over : Rows.polarPassiveRow.holds Try.pinned (OpenSpec.ofChange Rows.polarPassiveSpec) :=
  OpenClaim.holds_of_wide 17 Try.f17 rfl rfl rfl rfl rfl rfl rfl ⟨rfl, rfl, rfl, rfl, rfl⟩ rfl rfl rfl rfl rfl (by kernel_rfl) Try.func17 (by kernel_rfl)
    (of_decide_eq_true (by kernel_rfl)) (by unfold Func.isWrapper; first | (rw [if_pos (by decide +kernel)]; kernel_rfl) | (rw [if_neg (by decide +kernel)]; exact ⟨rfl, rfl⟩))
    (fun os started H enc _ => lifted os started H enc)

theorem proved : Rows.PolarPassiveSaid := over
#print axioms proved
end Go.Proofs.Ytlondnchmfhenaa.polarPassive
