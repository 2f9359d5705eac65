/- TopAlgebra: whatever the three balls are, it returns true -/
import Derived.Test.YtgdhpgjfebinhaaFbg
import Derived.Test.YtgdhpgjfebinhaaFoq
import Derived.Test.YtgdhpgjfebinhaaRows
import Derived.ProofKit
import Derived.OpenShut
import Derived.ChangeSame
import Derived.JoinedOf
import Derived.JoinedAt
import Derived.RowKit3
import Derived.Lib.SmallJoins
namespace Go.Proofs.Ytgdhpgjfebinhaa.topAlgebra
open Go.ChangeShapes Go.WideShapes Go.ChangeAt Go.RowKit Go.Joins Go.Proofs.Ytgdhpgjfebinhaa.Ev
set_option linter.unusedVariables false
set_option linter.unusedSimpArgs false

theorem own : ownKnob Try.prog.godebug = none := by kernel_rfl

set_option maxRecDepth 100000 in
theorem lifted (os : Os) (started : os.Started) (H : Type) (enc : TypeId × Value → H) :
    ReturnsInHanded {} Try.checked os 14 .any (Rows.topAlgebraSpec.pre6 enc Try.prog Try.f14 Rows.topAlgebraRow.domain false) (Rows.topAlgebraSpec.post enc Try.prog Try.f14 false true false false) := by
  refine returnsInHanded_of_change (C := Try.checked) own started (by kernel_rfl) Try.func14
    (ChangeSpec.witness6 (enc := enc) (C := Try.checked) false ⟨#[], #[.agg #[.int .i64 0, .int .i64 0, .int .i64 0, .int .i64 0, .int .i64 0, .int .i64 0, .int .i64 0, .int .i64 0, .int .i64 0]], []⟩ 12 (by kernel_rfl) (by kernel_rfl) (by kernel_rfl) (by kernel_rfl)) ?_
  intro W base args ds gs before hval0 hW _ _
  have hval : ∀ (j : Nat) t v, Try.f14.params[j]? = some t → args[j]? = some v → Value.okWide Try.prog W .any base t v := hval0
  have hW' := hW
  obtain ⟨p, q, hA0, hV, rfl, _, _⟩ := hW
  have hA : DataW.TrodAll enc Try.prog W 0 (fun _ => true) true Try.f14.params.toList args.toList ds p := hA0
  rw [Try.params14] at hA hval
  obtain ⟨v0, vs0, d0, ds0, p0, q0, hargs, rfl, rfl, h0, t0⟩ := trodAll_cons hA
  obtain ⟨rfl, rfl, rfl⟩ := trodAll_nil t0
  obtain rfl : args = #[v0] := by cases args; simp_all
  obtain ⟨rfl, rfl⟩ := trodVars_none hV
  obtain ⟨w0, rfl, G0⟩ := open_agg (k := 12) (l := [.c (.int .i64), .c (.int .i64), .c (.int .i64), .c (.int .i64), .c (.int .i64), .c (.int .i64), .c (.int .i64), .c (.int .i64), .c (.int .i64)]) (by kernel_rfl) (by kernel_rfl) (hval 0 78 v0 rfl rfl) h0
  obtain ⟨c0_0, w0_0, rfl, g0_0, G0_0⟩ := fits_cons G0
  clear G0
  obtain ⟨x0, rfl, r0⟩ := g0_0
  obtain ⟨c0_1, w0_1, rfl, g0_1, G0_1⟩ := fits_cons G0_0
  clear G0_0
  obtain ⟨x1, rfl, r1⟩ := g0_1
  obtain ⟨c0_2, w0_2, rfl, g0_2, G0_2⟩ := fits_cons G0_1
  clear G0_1
  obtain ⟨x2, rfl, r2⟩ := g0_2
  obtain ⟨c0_3, w0_3, rfl, g0_3, G0_3⟩ := fits_cons G0_2
  clear G0_2
  obtain ⟨x3, rfl, r3⟩ := g0_3
  obtain ⟨c0_4, w0_4, rfl, g0_4, G0_4⟩ := fits_cons G0_3
  clear G0_3
  obtain ⟨x4, rfl, r4⟩ := g0_4
  obtain ⟨c0_5, w0_5, rfl, g0_5, G0_5⟩ := fits_cons G0_4
  clear G0_4
  obtain ⟨x5, rfl, r5⟩ := g0_5
  obtain ⟨c0_6, w0_6, rfl, g0_6, G0_6⟩ := fits_cons G0_5
  clear G0_5
  obtain ⟨x6, rfl, r6⟩ := g0_6
  obtain ⟨c0_7, w0_7, rfl, g0_7, G0_7⟩ := fits_cons G0_6
  clear G0_6
  obtain ⟨x7, rfl, r7⟩ := g0_7
  obtain ⟨c0_8, w0_8, rfl, g0_8, G0_8⟩ := fits_cons G0_7
  clear G0_7
  obtain ⟨x8, rfl, r8⟩ := g0_8
  obtain rfl := fits_nil G0_8
  clear G0_8
  clear hA0 hval0
  simp only [List.append_nil] at hW'
  have C : Calls Try.prog 14 #[.agg [.int .i64 x0, .int .i64 x1, .int .i64 x2, .int .i64 x3, .int .i64 x4, .int .i64 x5, .int .i64 x6, .int .i64 x7, .int .i64 x8].toArray] W (fun e W' => e = .returned (.bool true) ∧ Below W.heap.size W W') :=
    Eq.mp (by kernel_rfl) (spec_world (F := etalontop_TopAlgebra_s) (V := ⟨[x0, x1, x2, x3, x4, x5, x6, x7, x8], [], []⟩) (w := W) (ps := []) (algebra r0 r1 r2 r3 r4 r5 r6 r7 r8) RowsOk.nil (by kernel_rfl))
  refine C.mono fun e W' ⟨he, bel⟩ => ?_
  subst he
  exact ⟨_, rfl, _, _, _, [], _, [], hW', trodAll_mk1 (shut_bool Try.underlying4 _), (trodAll_cons_mk (carry (by kernel_rfl) (by kernel_rfl) (of_decide_eq_true (by kernel_rfl)) bel h0) trodAll_mk0), rfl, bel.frame _, fun h => by cases h⟩

theorem over : Rows.topAlgebraRow.holds Try.pinned (OpenSpec.ofChange Rows.topAlgebraSpec) :=
  OpenClaim.holds_of_wide 14 Try.f14 rfl rfl rfl rfl rfl rfl rfl ⟨rfl, rfl, rfl, rfl, rfl⟩ rfl rfl rfl rfl rfl (by kernel_rfl) Try.func14 (by kernel_rfl)
    (of_decide_eq_true (by kernel_rfl)) (by unfold Func.isWrapper; first | (rw [if_pos (by decide +kernel)]; kernel_rfl) | (rw [if_neg (by decide +kernel)]; exact ⟨rfl, rfl⟩))
    (fun os started H enc _ => lifted os started H enc)

theorem proved : Rows.TopAlgebraSaid := over
#print axioms proved
end Go.Proofs.Ytgdhpgjfebinhaa.topAlgebra
