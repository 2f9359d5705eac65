/- PolarMuellers: whatever the input, it returns true -/
import Derived.Test.YtlondnchmfhenaaPmo
import Derived.Test.YtlondnchmfhenaaPmy
import Derived.Test.YtlondnchmfhenaaRows
import Derived.ProofKit
import Derived.OpenShut
import Derived.ChangeSame
import Derived.JoinedOf
import Derived.JoinedAt
import Derived.RowKit3
import Derived.Lib.SmallJoins
import Derived.Test.YtlondnchmfhenaaArr2
import Derived.Test.YtlondnchmfhenaaArr3
namespace Go.Proofs.Ytlondnchmfhenaa.polarMuellers
open Go.ChangeShapes Go.WideShapes Go.ChangeAt Go.RowKit Go.Joins Go.Proofs.Ytlondnchmfhenaa.Ar2 Go.Proofs.Ytlondnchmfhenaa.Ar3
set_option linter.unusedVariables false

theorem own : ownKnob Try.prog.godebug = none := by kernel_rfl

set_option maxRecDepth 100000 in
theorem lifted (os : Os) (started : os.Started) (H : Type) (enc : TypeId × Value → H) :
    ReturnsInHanded {} Try.checked os 8 .any (Rows.polarMuellersSpec.pre6 enc Try.prog Try.f8 Rows.polarMuellersRow.domain false) (Rows.polarMuellersSpec.post enc Try.prog Try.f8 false true false false) := by
  refine returnsInHanded_of_change (C := Try.checked) own started (by kernel_rfl) Try.func8
    (ChangeSpec.witness6 (enc := enc) (C := Try.checked) false ⟨#[], #[.agg #[.float .f64 0, .float .f64 0, .float .f64 0, .float .f64 0, .float .f64 0, .float .f64 0, .float .f64 0, .float .f64 0], .agg #[.int .i64 0, .int .i64 0, .int .i64 0, .int .i64 0, .int .i64 0, .int .i64 0, .int .i64 0, .int .i64 0, .int .i64 0, .int .i64 0, .int .i64 0, .int .i64 0, .int .i64 0, .int .i64 0, .int .i64 0, .int .i64 0, .int .i64 0, .int .i64 0, .int .i64 0, .int .i64 0, .int .i64 0, .int .i64 0, .int .i64 0, .int .i64 0, .int .i64 0, .int .i64 0, .int .i64 0, .int .i64 0, .int .i64 0, .int .i64 0, .int .i64 0, .int .i64 0], .agg #[.int .i64 0, .int .i64 0, .int .i64 0, .int .i64 0]], []⟩ 8 (by kernel_rfl) (by kernel_rfl) (by kernel_rfl) (by kernel_rfl)) ?_
  intro W base args ds gs before hval0 hW _ _
  have hval : ∀ (j : Nat) t v, Try.f8.params[j]? = some t → args[j]? = some v → Value.okWide Try.prog W .any base t v := hval0
  have hW' := hW
  obtain ⟨p, q, hA0, hV, rfl, _, _⟩ := hW
  have hA : DataW.TrodAll enc Try.prog W 0 (fun _ => true) true Try.f8.params.toList args.toList ds p := hA0
  rw [Try.params8] at hA hval
  obtain ⟨v0, vs0, d0, ds0, p0, q0, hargs, rfl, rfl, h0, r0⟩ := trodAll_cons hA
  obtain ⟨v1, vs1, d1, ds1, p1, q1, rfl, rfl, rfl, h1, r1⟩ := trodAll_cons r0
  obtain ⟨v2, vs2, d2, ds2, p2, q2, rfl, rfl, rfl, h2, r2⟩ := trodAll_cons r1
  obtain ⟨rfl, rfl, rfl⟩ := trodAll_nil r2
  obtain rfl : args = #[v0, v1, v2] := by cases args; simp_all
  obtain ⟨rfl, rfl⟩ := trodVars_none hV
  obtain ⟨l0, hl0, hr0, rfl, rfl, reads0⟩ := open_flatF (k := 6) (n := 8) (by kernel_rfl) (by kernel_rfl) (by kernel_rfl) (by kernel_rfl) (by kernel_rfl) (of_decide_eq_true (by kernel_rfl)) (by kernel_rfl) (by kernel_rfl) (by kernel_rfl) (hval 0 27 v0 rfl rfl) h0
  obtain ⟨a0_0, l0_0, rfl, hl0_0, g0_0, hr0_0⟩ := flo_cons hl0 hr0
  clear hl0 hr0
  obtain ⟨a0_1, l0_1, rfl, hl0_1, g0_1, hr0_1⟩ := flo_cons hl0_0 hr0_0
  clear hl0_0 hr0_0
  obtain ⟨a0_2, l0_2, rfl, hl0_2, g0_2, hr0_2⟩ := flo_cons hl0_1 hr0_1
  clear hl0_1 hr0_1
  obtain ⟨a0_3, l0_3, rfl, hl0_3, g0_3, hr0_3⟩ := flo_cons hl0_2 hr0_2
  clear hl0_2 hr0_2
  obtain ⟨a0_4, l0_4, rfl, hl0_4, g0_4, hr0_4⟩ := flo_cons hl0_3 hr0_3
  clear hl0_3 hr0_3
  obtain ⟨a0_5, l0_5, rfl, hl0_5, g0_5, hr0_5⟩ := flo_cons hl0_4 hr0_4
  clear hl0_4 hr0_4
  obtain ⟨a0_6, l0_6, rfl, hl0_6, g0_6, hr0_6⟩ := flo_cons hl0_5 hr0_5
  clear hl0_5 hr0_5
  obtain ⟨a0_7, l0_7, rfl, hl0_7, g0_7, hr0_7⟩ := flo_cons hl0_6 hr0_6
  clear hl0_6 hr0_6
  obtain rfl := flo_nil hl0_7
  clear hl0_7 hr0_7
  obtain ⟨l1, hl1, hr1, rfl, rfl, reads1⟩ := open_flat (k := 6) (n := 32) (by kernel_rfl) (by kernel_rfl) (by kernel_rfl) (by kernel_rfl) (by kernel_rfl) (of_decide_eq_true (by kernel_rfl)) (by kernel_rfl) (by kernel_rfl) (by kernel_rfl) (hval 1 93 v1 rfl rfl) h1
  obtain ⟨a1_0, l1_0, rfl, hl1_0, g1_0, hr1_0⟩ := len_cons hl1 hr1
  clear hl1 hr1
  obtain ⟨a1_1, l1_1, rfl, hl1_1, g1_1, hr1_1⟩ := len_cons hl1_0 hr1_0
  clear hl1_0 hr1_0
  obtain ⟨a1_2, l1_2, rfl, hl1_2, g1_2, hr1_2⟩ := len_cons hl1_1 hr1_1
  clear hl1_1 hr1_1
  obtain ⟨a1_3, l1_3, rfl, hl1_3, g1_3, hr1_3⟩ := len_cons hl1_2 hr1_2
  clear hl1_2 hr1_2
  obtain ⟨a1_4, l1_4, rfl, hl1_4, g1_4, hr1_4⟩ := len_cons hl1_3 hr1_3
  clear hl1_3 hr1_3
  obtain ⟨a1_5, l1_5, rfl, hl1_5, g1_5, hr1_5⟩ := len_cons hl1_4 hr1_4
  clear hl1_4 hr1_4
  obtain ⟨a1_6, l1_6, rfl, hl1_6, g1_6, hr1_6⟩ := len_cons hl1_5 hr1_5
  clear hl1_5 hr1_5
  obtain ⟨a1_7, l1_7, rfl, hl1_7, g1_7, hr1_7⟩ := len_cons hl1_6 hr1_6
  clear hl1_6 hr1_6
  obtain ⟨a1_8, l1_8, rfl, hl1_8, g1_8, hr1_8⟩ := len_cons hl1_7 hr1_7
  clear hl1_7 hr1_7
  obtain ⟨a1_9, l1_9, rfl, hl1_9, g1_9, hr1_9⟩ := len_cons hl1_8 hr1_8
  clear hl1_8 hr1_8
  obtain ⟨a1_10, l1_10, rfl, hl1_10, g1_10, hr1_10⟩ := len_cons hl1_9 hr1_9
  clear hl1_9 hr1_9
  obtain ⟨a1_11, l1_11, rfl, hl1_11, g1_11, hr1_11⟩ := len_cons hl1_10 hr1_10
  clear hl1_10 hr1_10
  obtain ⟨a1_12, l1_12, rfl, hl1_12, g1_12, hr1_12⟩ := len_cons hl1_11 hr1_11
  clear hl1_11 hr1_11
  obtain ⟨a1_13, l1_13, rfl, hl1_13, g1_13, hr1_13⟩ := len_cons hl1_12 hr1_12
  clear hl1_12 hr1_12
  obtain ⟨a1_14, l1_14, rfl, hl1_14, g1_14, hr1_14⟩ := len_cons hl1_13 hr1_13
  clear hl1_13 hr1_13
  obtain ⟨a1_15, l1_15, rfl, hl1_15, g1_15, hr1_15⟩ := len_cons hl1_14 hr1_14
  clear hl1_14 hr1_14
  obtain ⟨a1_16, l1_16, rfl, hl1_16, g1_16, hr1_16⟩ := len_cons hl1_15 hr1_15
  clear hl1_15 hr1_15
  obtain ⟨a1_17, l1_17, rfl, hl1_17, g1_17, hr1_17⟩ := len_cons hl1_16 hr1_16
  clear hl1_16 hr1_16
  obtain ⟨a1_18, l1_18, rfl, hl1_18, g1_18, hr1_18⟩ := len_cons hl1_17 hr1_17
  clear hl1_17 hr1_17
  obtain ⟨a1_19, l1_19, rfl, hl1_19, g1_19, hr1_19⟩ := len_cons hl1_18 hr1_18
  clear hl1_18 hr1_18
  obtain ⟨a1_20, l1_20, rfl, hl1_20, g1_20, hr1_20⟩ := len_cons hl1_19 hr1_19
  clear hl1_19 hr1_19
  obtain ⟨a1_21, l1_21, rfl, hl1_21, g1_21, hr1_21⟩ := len_cons hl1_20 hr1_20
  clear hl1_20 hr1_20
  obtain ⟨a1_22, l1_22, rfl, hl1_22, g1_22, hr1_22⟩ := len_cons hl1_21 hr1_21
  clear hl1_21 hr1_21
  obtain ⟨a1_23, l1_23, rfl, hl1_23, g1_23, hr1_23⟩ := len_cons hl1_22 hr1_22
  clear hl1_22 hr1_22
  obtain ⟨a1_24, l1_24, rfl, hl1_24, g1_24, hr1_24⟩ := len_cons hl1_23 hr1_23
  clear hl1_23 hr1_23
  obtain ⟨a1_25, l1_25, rfl, hl1_25, g1_25, hr1_25⟩ := len_cons hl1_24 hr1_24
  clear hl1_24 hr1_24
  obtain ⟨a1_26, l1_26, rfl, hl1_26, g1_26, hr1_26⟩ := len_cons hl1_25 hr1_25
  clear hl1_25 hr1_25
  obtain ⟨a1_27, l1_27, rfl, hl1_27, g1_27, hr1_27⟩ := len_cons hl1_26 hr1_26
  clear hl1_26 hr1_26
  obtain ⟨a1_28, l1_28, rfl, hl1_28, g1_28, hr1_28⟩ := len_cons hl1_27 hr1_27
  clear hl1_27 hr1_27
  obtain ⟨a1_29, l1_29, rfl, hl1_29, g1_29, hr1_29⟩ := len_cons hl1_28 hr1_28
  clear hl1_28 hr1_28
  obtain ⟨a1_30, l1_30, rfl, hl1_30, g1_30, hr1_30⟩ := len_cons hl1_29 hr1_29
  clear hl1_29 hr1_29
  obtain ⟨a1_31, l1_31, rfl, hl1_31, g1_31, hr1_31⟩ := len_cons hl1_30 hr1_30
  clear hl1_30 hr1_30
  obtain rfl := len_nil hl1_31
  clear hl1_31 hr1_31
  obtain ⟨l2, hl2, hr2, rfl, rfl, reads2⟩ := open_flat (k := 6) (n := 4) (by kernel_rfl) (by kernel_rfl) (by kernel_rfl) (by kernel_rfl) (by kernel_rfl) (of_decide_eq_true (by kernel_rfl)) (by kernel_rfl) (by kernel_rfl) (by kernel_rfl) (hval 2 30 v2 rfl rfl) h2
  obtain ⟨a2_0, l2_0, rfl, hl2_0, g2_0, hr2_0⟩ := len_cons hl2 hr2
  clear hl2 hr2
  obtain ⟨a2_1, l2_1, rfl, hl2_1, g2_1, hr2_1⟩ := len_cons hl2_0 hr2_0
  clear hl2_0 hr2_0
  obtain ⟨a2_2, l2_2, rfl, hl2_2, g2_2, hr2_2⟩ := len_cons hl2_1 hr2_1
  clear hl2_1 hr2_1
  obtain ⟨a2_3, l2_3, rfl, hl2_3, g2_3, hr2_3⟩ := len_cons hl2_2 hr2_2
  clear hl2_2 hr2_2
  obtain rfl := len_nil hl2_3
  clear hl2_3 hr2_3
  clear hA0 hval0
  simp only [List.append_nil] at hW'
  refine (Ev.muellers g0_0 g0_1 g0_2 g0_3 g0_4 g0_5 g0_6 g0_7 g1_0 g1_1 g1_2 g1_3 g1_4 g1_5 g1_6 g1_7 g1_8 g1_9 g1_10 g1_11 g1_12 g1_13 g1_14 g1_15 g1_16 g1_17 g1_18 g1_19 g1_20 g1_21 g1_22 g1_23 g1_24 g1_25 g1_26 g1_27 g1_28 g1_29 g1_30 g1_31 g2_0 g2_1 g2_2 g2_3 W).mono fun e W' ⟨he, bel⟩ => ?_
  subst he
  exact ⟨_, rfl, _, _, _, [], _, [], hW', trodAll_mk1 (shut_bool Try.underlying4 _), (trodAll_cons_mk (reads0 _ _) (trodAll_cons_mk (reads1 _ _) (trodAll_cons_mk (reads2 _ _) trodAll_mk0))), rfl, bel.frame _, fun h => by cases h⟩

theorem over : Rows.polarMuellersRow.holds Try.pinned (OpenSpec.ofChange Rows.polarMuellersSpec) :=
  OpenClaim.holds_of_wide 8 Try.f8 rfl rfl rfl rfl rfl rfl rfl ⟨rfl, rfl, rfl, rfl, rfl⟩ rfl rfl rfl rfl rfl (by kernel_rfl) Try.func8 closed
    (of_decide_eq_true (by kernel_rfl)) (by unfold Func.isWrapper; first | (rw [if_pos (by decide +kernel)]; kernel_rfl) | (rw [if_neg (by decide +kernel)]; exact ⟨rfl, rfl⟩))
    (fun os started H enc _ => lifted os started H enc)

theorem proved : Rows.PolarMuellersSaid := over
#print axioms proved
end Go.Proofs.Ytlondnchmfhenaa.polarMuellers
