/- BallAdds: For any two balls of whole numbers and any number of quarters the sum, the difference, the conjugate and the turned ball, or the errors, are as specified, and the difference of a sum and one of both has the centre of the other one and its radius, wider by twice the radius of the one: BallAdds returns true on every input, for every tape and limit. No condition. -/
import Derived.Test.YtgdlddmbfockpaaFby
import Derived.Test.YtgdlddmbfockpaaFoq
import Derived.Test.YtgdlddmbfockpaaRows
import Derived.ProofKit
import Derived.OpenShut
import Derived.ChangeSame
import Derived.JoinedOf
import Derived.JoinedAt
import Derived.RowKit3
import Derived.Lib.SmallJoins
namespace Go.Proofs.Ytgdlddmbfockpaa.ballAdds
open Go.ChangeShapes Go.WideShapes Go.ChangeAt Go.RowKit Go.Joins Go.Proofs.Ytgdlddmbfockpaa.Ev
set_option linter.unusedVariables false
set_option linter.unusedSimpArgs false

theorem own : ownKnob Try.prog.godebug = none := by kernel_rfl

set_option maxRecDepth 100000 in
theorem lifted (os : Os) (started : os.Started) (H : Type) (enc : TypeId × Value → H) :
    ReturnsInHanded {} Try.checked os 3 .any (Rows.ballAddsSpec.pre6 enc Try.prog Try.f3 Rows.ballAddsRow.domain false) (Rows.ballAddsSpec.post enc Try.prog Try.f3 false true false false) := by
  refine returnsInHanded_of_change (C := Try.checked) own started (by kernel_rfl) Try.func3
    (ChangeSpec.witness6 (enc := enc) (C := Try.checked) false ⟨#[], #[.agg #[.int .i64 0, .int .i64 0, .int .i64 0], .agg #[.int .i64 0, .int .i64 0, .int .i64 0], .int .i64 0], []⟩ 12 (by kernel_rfl) (by kernel_rfl) (by kernel_rfl) (by kernel_rfl)) ?_
  intro W base args ds gs before hval0 hW _ _
  have hval : ∀ (j : Nat) t v, Try.f3.params[j]? = some t → args[j]? = some v → Value.okWide Try.prog W .any base t v := hval0
  have hW' := hW
  obtain ⟨p, q, hA0, hV, rfl, _, _⟩ := hW
  have hA : DataW.TrodAll enc Try.prog W 0 (fun _ => true) true Try.f3.params.toList args.toList ds p := hA0
  rw [Try.params3] at hA hval
  obtain ⟨v0, vs0, d0, ds0, p0, q0, hargs, rfl, rfl, h0, t0⟩ := trodAll_cons hA
  obtain ⟨v1, vs1, d1, ds1, p1, q1, rfl, rfl, rfl, h1, t1⟩ := trodAll_cons t0
  obtain ⟨v2, vs2, d2, ds2, p2, q2, rfl, rfl, rfl, h2, t2⟩ := trodAll_cons t1
  obtain ⟨rfl, rfl, rfl⟩ := trodAll_nil t2
  obtain rfl : args = #[v0, v1, v2] := by cases args; simp_all
  obtain ⟨rfl, rfl⟩ := trodVars_none hV
  obtain ⟨w0, rfl, G0⟩ := open_agg (k := 12) (l := [.c (.int .i64), .c (.int .i64), .c (.int .i64)]) (by kernel_rfl) (by kernel_rfl) (hval 0 23 v0 rfl rfl) h0
  obtain ⟨c0_0, w0_0, rfl, g0_0, G0_0⟩ := fits_cons G0
  clear G0
  obtain ⟨x0, rfl, r0⟩ := g0_0
  obtain ⟨c0_1, w0_1, rfl, g0_1, G0_1⟩ := fits_cons G0_0
  clear G0_0
  obtain ⟨x1, rfl, r1⟩ := g0_1
  obtain ⟨c0_2, w0_2, rfl, g0_2, G0_2⟩ := fits_cons G0_1
  clear G0_1
  obtain ⟨x2, rfl, r2⟩ := g0_2
  obtain rfl := fits_nil G0_2
  clear G0_2
  obtain ⟨w1, rfl, G1⟩ := open_agg (k := 12) (l := [.c (.int .i64), .c (.int .i64), .c (.int .i64)]) (by kernel_rfl) (by kernel_rfl) (hval 1 23 v1 rfl rfl) h1
  obtain ⟨c1_0, w1_0, rfl, g1_0, G1_0⟩ := fits_cons G1
  clear G1
  obtain ⟨x3, rfl, r3⟩ := g1_0
  obtain ⟨c1_1, w1_1, rfl, g1_1, G1_1⟩ := fits_cons G1_0
  clear G1_0
  obtain ⟨x4, rfl, r4⟩ := g1_1
  obtain ⟨c1_2, w1_2, rfl, g1_2, G1_2⟩ := fits_cons G1_1
  clear G1_1
  obtain ⟨x5, rfl, r5⟩ := g1_2
  obtain rfl := fits_nil G1_2
  clear G1_2
  have g2 := open_one (k := 12) (c := .c (.int .i64)) (by kernel_rfl) (by kernel_rfl) (hval 2 3 v2 rfl rfl) h2
  obtain ⟨x6, rfl, r6⟩ := g2
  clear hA0 hval0
  simp only [List.append_nil] at hW'
  have C : Calls Try.prog 3 #[.agg [.int .i64 x0, .int .i64 x1, .int .i64 x2].toArray, .agg [.int .i64 x3, .int .i64 x4, .int .i64 x5].toArray, .int .i64 x6] W (fun e W' => e = .returned (.bool true) ∧ Below W.heap.size W W') :=
    Eq.mp (by kernel_rfl) (spec_world (F := etalonlaw01_BallAdds_s) (V := ⟨[x0, x1, x2, x3, x4, x5, x6], [], []⟩) (w := W) (ps := []) (adds r0 r1 r2 r3 r4 r5 r6) RowsOk.nil (by kernel_rfl))
  refine C.mono fun e W' ⟨he, bel⟩ => ?_
  subst he
  exact ⟨_, rfl, _, _, _, [], _, [], hW', trodAll_mk1 (shut_bool Try.underlying4 _), (trodAll_cons_mk (carry (by kernel_rfl) (by kernel_rfl) (of_decide_eq_true (by kernel_rfl)) bel h0) (trodAll_cons_mk (carry (by kernel_rfl) (by kernel_rfl) (of_decide_eq_true (by kernel_rfl)) bel h1) (trodAll_cons_mk (carry (by kernel_rfl) (by kernel_rfl) (of_decide_eq_true (by kernel_rfl)) bel h2) trodAll_mk0))), rfl, bel.frame _, fun h => by cases h⟩

theorem over : Rows.ballAddsRow.holds Try.pinned (OpenSpec.ofChange Rows.ballAddsSpec) :=
  OpenClaim.holds_of_wide 3 Try.f3 rfl rfl rfl rfl rfl rfl rfl ⟨rfl, rfl, rfl, rfl, rfl⟩ rfl rfl rfl rfl rfl (by kernel_rfl) Try.func3 (by kernel_rfl)
    (of_decide_eq_true (by kernel_rfl)) (by unfold Func.isWrapper; first | (rw [if_pos (by decide +kernel)]; kernel_rfl) | (rw [if_neg (by decide +kernel)]; exact ⟨rfl, rfl⟩))
    (fun os started H enc _ => lifted os started H enc)

theorem proved : Rows.BallAddsSaid := over
#print axioms proved
end Go.Proofs.Ytgdlddmbfockpaa.ballAdds
