/- MeterSamples: whatever the harmonics are, it returns true -/
import Derived.Test.YtpjcjdhidfnbbaaFspl
import Derived.Test.YtpjcjdhidfnbbaaFoq
import Derived.Test.YtpjcjdhidfnbbaaRows
import Derived.ProofKit
import Derived.OpenShut
import Derived.ChangeSame
import Derived.JoinedOf
import Derived.JoinedAt
import Derived.RowKit3
import Derived.Lib.SmallJoins
namespace Go.Proofs.Ytpjcjdhidfnbbaa.meterSamples
open Go.ChangeShapes Go.WideShapes Go.ChangeAt Go.RowKit Go.Joins Go.Proofs.Ytpjcjdhidfnbbaa.Ev
set_option linter.unusedVariables false
set_option linter.unusedSimpArgs false

theorem own : ownKnob Try.prog.godebug = none := by kernel_rfl

set_option maxRecDepth 100000 in
theorem lifted (os : Os) (started : os.Started) (H : Type) (enc : TypeId × Value → H) :
    ReturnsInHanded {} Try.checked os 6 .any (Rows.meterSamplesSpec.pre6 enc Try.prog Try.f6 Rows.meterSamplesRow.domain false) (Rows.meterSamplesSpec.post enc Try.prog Try.f6 false true false false) := by
  refine returnsInHanded_of_change (C := Try.checked) own started (by kernel_rfl) Try.func6
    (ChangeSpec.witness6 (enc := enc) (C := Try.checked) false ⟨#[], #[.agg #[.float .f64 0, .float .f64 0, .float .f64 0, .float .f64 0], .agg #[.float .f64 0, .float .f64 0, .float .f64 0, .float .f64 0]], []⟩ 12 (by kernel_rfl) (by kernel_rfl) (by kernel_rfl) (by kernel_rfl)) ?_
  intro W base args ds gs before hval0 hW _ _
  have hval : ∀ (j : Nat) t v, Try.f6.params[j]? = some t → args[j]? = some v → Value.okWide Try.prog W .any base t v := hval0
  have hW' := hW
  obtain ⟨p, q, hA0, hV, rfl, _, _⟩ := hW
  have hA : DataW.TrodAll enc Try.prog W 0 (fun _ => true) true Try.f6.params.toList args.toList ds p := hA0
  rw [Try.params6] at hA hval
  obtain ⟨v0, vs0, d0, ds0, p0, q0, hargs, rfl, rfl, h0, t0⟩ := trodAll_cons hA
  obtain ⟨v1, vs1, d1, ds1, p1, q1, rfl, rfl, rfl, h1, t1⟩ := trodAll_cons t0
  obtain ⟨rfl, rfl, rfl⟩ := trodAll_nil t1
  obtain rfl : args = #[v0, v1] := by cases args; simp_all
  obtain ⟨rfl, rfl⟩ := trodVars_none hV
  obtain ⟨w0, rfl, G0⟩ := open_agg (k := 12) (l := [.c (.float .f64), .c (.float .f64), .c (.float .f64), .c (.float .f64)]) (by kernel_rfl) (by kernel_rfl) (hval 0 63 v0 rfl rfl) h0
  obtain ⟨c0_0, w0_0, rfl, g0_0, G0_0⟩ := fits_cons G0
  clear G0
  obtain ⟨x0, rfl, r0⟩ := g0_0
  obtain ⟨c0_1, w0_1, rfl, g0_1, G0_1⟩ := fits_cons G0_0
  clear G0_0
  obtain ⟨x1, rfl, r1⟩ := g0_1
  obtain ⟨c0_2, w0_2, rfl, g0_2, G0_2⟩ := fits_cons G0_1
  clear G0_1
  obtain ⟨x2, rfl, r2⟩ := g0_2
  obtain ⟨c0_3, w0_3, rfl, g0_3, G0_3⟩ := fits_cons G0_2
  clear G0_2
  obtain ⟨x3, rfl, r3⟩ := g0_3
  obtain rfl := fits_nil G0_3
  clear G0_3
  obtain ⟨w1, rfl, G1⟩ := open_agg (k := 12) (l := [.c (.float .f64), .c (.float .f64), .c (.float .f64), .c (.float .f64)]) (by kernel_rfl) (by kernel_rfl) (hval 1 63 v1 rfl rfl) h1
  obtain ⟨c1_0, w1_0, rfl, g1_0, G1_0⟩ := fits_cons G1
  clear G1
  obtain ⟨x4, rfl, r4⟩ := g1_0
  obtain ⟨c1_1, w1_1, rfl, g1_1, G1_1⟩ := fits_cons G1_0
  clear G1_0
  obtain ⟨x5, rfl, r5⟩ := g1_1
  obtain ⟨c1_2, w1_2, rfl, g1_2, G1_2⟩ := fits_cons G1_1
  clear G1_1
  obtain ⟨x6, rfl, r6⟩ := g1_2
  obtain ⟨c1_3, w1_3, rfl, g1_3, G1_3⟩ := fits_cons G1_2
  clear G1_2
  obtain ⟨x7, rfl, r7⟩ := g1_3
  obtain rfl := fits_nil G1_3
  clear G1_3
  clear hA0 hval0
  simp only [List.append_nil] at hW'
  have C : Calls Try.prog 6 #[.agg [.float .f64 x0, .float .f64 x1, .float .f64 x2, .float .f64 x3].toArray, .agg [.float .f64 x4, .float .f64 x5, .float .f64 x6, .float .f64 x7].toArray] W (fun e W' => e = .returned (.bool true) ∧ Below W.heap.size W W') :=
    Eq.mp (by kernel_rfl) (spec_world (F := etalonlaw06_MeterSamples_s) (V := ⟨[(x0 : Int), (x1 : Int), (x2 : Int), (x3 : Int), (x4 : Int), (x5 : Int), (x6 : Int), (x7 : Int)], [], []⟩) (w := W) (ps := []) (meterSamples (of_decide_eq_true r0) (of_decide_eq_true r1) (of_decide_eq_true r2) (of_decide_eq_true r3) (of_decide_eq_true r4) (of_decide_eq_true r5) (of_decide_eq_true r6) (of_decide_eq_true r7)) RowsOk.nil (by kernel_rfl))
  refine C.mono fun e W' ⟨he, bel⟩ => ?_
  subst he
  exact ⟨_, rfl, _, _, _, [], _, [], hW', trodAll_mk1 (shut_bool Try.underlying4 _), (trodAll_cons_mk (carry (by kernel_rfl) (by kernel_rfl) (of_decide_eq_true (by kernel_rfl)) bel h0) (trodAll_cons_mk (carry (by kernel_rfl) (by kernel_rfl) (of_decide_eq_true (by kernel_rfl)) bel h1) trodAll_mk0)), rfl, bel.frame _, fun h => by cases h⟩

theorem over : Rows.meterSamplesRow.holds Try.pinned (OpenSpec.ofChange Rows.meterSamplesSpec) :=
  OpenClaim.holds_of_wide 6 Try.f6 rfl rfl rfl rfl rfl rfl rfl ⟨rfl, rfl, rfl, rfl, rfl⟩ rfl rfl rfl rfl rfl (by kernel_rfl) Try.func6 (by kernel_rfl)
    (of_decide_eq_true (by kernel_rfl)) (by unfold Func.isWrapper; first | (rw [if_pos (by decide +kernel)]; kernel_rfl) | (rw [if_neg (by decide +kernel)]; exact ⟨rfl, rfl⟩))
    (fun os started H enc _ => lifted os started H enc)

theorem proved : Rows.MeterSamplesSaid := over
#print axioms proved
end Go.Proofs.Ytpjcjdhidfnbbaa.meterSamples
