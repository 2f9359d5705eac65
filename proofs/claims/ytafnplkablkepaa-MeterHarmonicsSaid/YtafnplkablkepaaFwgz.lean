/- MeterHarmonics: the four harmonics of a scan, or the errors, are as specified, and the sums of the scan without a margin are those of its harmonics 0 and 1, whatever the scan is, for any floats. -/
import Derived.Test.YtafnplkablkepaaFwg
import Derived.Test.YtafnplkablkepaaFoq
import Derived.Test.YtafnplkablkepaaRows
import Derived.ProofKit
import Derived.OpenShut
import Derived.ChangeSame
import Derived.JoinedOf
import Derived.JoinedAt
import Derived.RowKit3
import Derived.Lib.SmallJoins
namespace Go.Proofs.Ytafnplkablkepaa.meterHarmonics
open Go.ChangeShapes Go.WideShapes Go.ChangeAt Go.RowKit Go.Joins Go.Proofs.Ytafnplkablkepaa.Ev
set_option linter.unusedVariables false
set_option linter.unusedSimpArgs false

theorem own : ownKnob Try.prog.godebug = none := by kernel_rfl

set_option maxRecDepth 100000 in
theorem lifted (os : Os) (started : os.Started) (H : Type) (enc : TypeId × Value → H) :
    ReturnsInHanded {} Try.checked os 4 .any (Rows.meterHarmonicsSpec.pre6 enc Try.prog Try.f4 Rows.meterHarmonicsRow.domain false) (Rows.meterHarmonicsSpec.post enc Try.prog Try.f4 false true false false) := by
  refine returnsInHanded_of_change (C := Try.checked) own started (by kernel_rfl) Try.func4
    (ChangeSpec.witness6 (enc := enc) (C := Try.checked) false ⟨#[], #[.agg #[.slice none 0 0, .int .i64 0, .int .i64 0]], []⟩ 12 (by kernel_rfl) (by kernel_rfl) (by kernel_rfl) (by kernel_rfl)) ?_
  intro W base args ds gs before hval0 hW _ _
  have hval : ∀ (j : Nat) t v, Try.f4.params[j]? = some t → args[j]? = some v → Value.okWide Try.prog W .any base t v := hval0
  have hW' := hW
  obtain ⟨p, q, hA0, hV, rfl, _, _⟩ := hW
  have hA : DataW.TrodAll enc Try.prog W 0 (fun _ => true) true Try.f4.params.toList args.toList ds p := hA0
  rw [Try.params4] at hA hval
  obtain ⟨v0, vs0, d0, ds0, p0, q0, hargs, rfl, rfl, h0, t0⟩ := trodAll_cons hA
  obtain ⟨rfl, rfl, rfl⟩ := trodAll_nil t0
  obtain rfl : args = #[v0] := by cases args; simp_all
  obtain ⟨rfl, rfl⟩ := trodVars_none hV
  obtain ⟨w0, rfl, G0⟩ := open_agg (k := 12) (l := [.row [(.float .f32)], .c (.int .i64), .c (.int .i64)]) (by kernel_rfl) (by kernel_rfl) (hval 0 24 v0 rfl rfl) h0
  obtain ⟨c0_0, w0_0, rfl, g0_0, G0_0⟩ := fits_cons G0
  clear G0
  obtain ⟨pl0, n0, cl0, rfl, R0⟩ := row_open g0_0
  have K0 := R0.ok
  obtain ⟨f0, cl0_0, rfl, s0, K0_0⟩ := fits_cons K0
  clear K0
  obtain rfl := fits_nil K0_0
  clear K0_0
  have r0 := len_rng R0
  obtain ⟨c0_1, w0_1, rfl, g0_1, G0_1⟩ := fits_cons G0_0
  clear G0_0
  obtain ⟨x1, rfl, r1⟩ := g0_1
  obtain ⟨c0_2, w0_2, rfl, g0_2, G0_2⟩ := fits_cons G0_1
  clear G0_1
  obtain ⟨x2, rfl, r2⟩ := g0_2
  obtain rfl := fits_nil G0_2
  clear G0_2
  clear hA0 hval0
  simp only [List.append_nil] at hW'
  have C : Calls Try.prog 4 #[.agg [aslV pl0 n0, .int .i64 x1, .int .i64 x2].toArray] W (fun e W' => e = .returned (.bool true) ∧ Below W.heap.size W W') :=
    Eq.mp (by kernel_rfl) (spec_world (F := etalonlaw06_MeterHarmonics_s) (V := ⟨[(n0 : Int), x1, x2], [], [f0]⟩) (w := W) (ps := [pl0]) (Ev.harmonics r0 r1 r2) (RowsOk.cons rfl rfl rfl (R0.rowAt rfl rfl rfl rfl rfl) RowsOk.nil) (by kernel_rfl))
  refine C.mono fun e W' ⟨he, bel⟩ => ?_
  subst he
  exact ⟨_, rfl, _, _, _, [], _, [], hW', trodAll_mk1 (shut_bool Try.underlying4 _), (trodAll_cons_mk (carry (by kernel_rfl) (by kernel_rfl) (of_decide_eq_true (by kernel_rfl)) bel h0) trodAll_mk0), rfl, bel.frame _, fun h => by cases h⟩

theorem over : Rows.meterHarmonicsRow.holds Try.pinned (OpenSpec.ofChange Rows.meterHarmonicsSpec) :=
  OpenClaim.holds_of_wide 4 Try.f4 rfl rfl rfl rfl rfl rfl rfl ⟨rfl, rfl, rfl, rfl, rfl⟩ rfl rfl rfl rfl rfl (by kernel_rfl) Try.func4 (by kernel_rfl)
    (of_decide_eq_true (by kernel_rfl)) (by unfold Func.isWrapper; first | (rw [if_pos (by decide +kernel)]; kernel_rfl) | (rw [if_neg (by decide +kernel)]; exact ⟨rfl, rfl⟩))
    (fun os started H enc _ => lifted os started H enc)

theorem proved : Rows.MeterHarmonicsSaid := over
#print axioms proved
end Go.Proofs.Ytafnplkablkepaa.meterHarmonics
