/- MeterAverages: What readings have in common, with the number of the first reading that is wrong or has nothing in common with the earlier ones, or the error, is as specified, and it lies in each reading: MeterAverages returns true for every list of readings (of longer lists, or names, than the law looks at it says nothing), for every tape and limit. No condition. -/
import Derived.Test.YtfpaljiiiohmnaaFmva
import Derived.Test.YtfpaljiiiohmnaaFoq
import Derived.Test.YtfpaljiiiohmnaaRows
import Derived.ProofKit
import Derived.OpenShut
import Derived.ChangeSame
import Derived.JoinedOf
import Derived.JoinedAt
import Derived.RowKit3
import Derived.Lib.SmallJoins
namespace Go.Proofs.Ytfpaljiiiohmnaa.meterAverages
open Go.ChangeShapes Go.WideShapes Go.ChangeAt Go.RowKit Go.Joins Go.Proofs.Ytfpaljiiiohmnaa.Ev
set_option linter.unusedVariables false
set_option linter.unusedSimpArgs false

theorem own : ownKnob Try.prog.godebug = none := by kernel_rfl

set_option maxRecDepth 100000 in
theorem lifted (os : Os) (started : os.Started) (H : Type) (enc : TypeId × Value → H) :
    ReturnsInHanded {} Try.checked os 3 .any (Rows.meterAveragesSpec.pre6 enc Try.prog Try.f3 Rows.meterAveragesRow.domain false) (Rows.meterAveragesSpec.post enc Try.prog Try.f3 false true false false) := by
  refine returnsInHanded_of_change (C := Try.checked) own started (by kernel_rfl) Try.func3
    (ChangeSpec.witness6 (enc := enc) (C := Try.checked) false ⟨#[], #[.slice none 0 0], []⟩ 12 (by kernel_rfl) (by kernel_rfl) (by kernel_rfl) (by kernel_rfl)) ?_
  intro W base args ds gs before hval0 hW _ _
  have hval : ∀ (j : Nat) t v, Try.f3.params[j]? = some t → args[j]? = some v → Value.okWide Try.prog W .any base t v := hval0
  have hW' := hW
  obtain ⟨p, q, hA0, hV, rfl, _, _⟩ := hW
  have hA : DataW.TrodAll enc Try.prog W 0 (fun _ => true) true Try.f3.params.toList args.toList ds p := hA0
  rw [Try.params3] at hA hval
  obtain ⟨v0, vs0, d0, ds0, p0, q0, hargs, rfl, rfl, h0, t0⟩ := trodAll_cons hA
  obtain ⟨rfl, rfl, rfl⟩ := trodAll_nil t0
  obtain rfl : args = #[v0] := by cases args; simp_all
  obtain ⟨rfl, rfl⟩ := trodVars_none hV
  have g0 := open_one (k := 12) (c := .row [.str, (.int .i64), (.int .i64), (.int .i64), (.int .i64), (.int .i64), (.int .i64), (.int .i64), (.int .i64), (.int .i64)]) (by kernel_rfl) (by kernel_rfl) (hval 0 22 v0 rfl rfl) h0
  obtain ⟨pl0, n0, cl0, rfl, R0⟩ := row_open g0
  have K0 := R0.ok
  obtain ⟨f0, cl0_0, rfl, s0, K0_0⟩ := fits_cons K0
  clear K0
  obtain ⟨f1, cl0_1, rfl, s1, K0_1⟩ := fits_cons K0_0
  clear K0_0
  obtain ⟨f2, cl0_2, rfl, s2, K0_2⟩ := fits_cons K0_1
  clear K0_1
  obtain ⟨f3, cl0_3, rfl, s3, K0_3⟩ := fits_cons K0_2
  clear K0_2
  obtain ⟨f4, cl0_4, rfl, s4, K0_4⟩ := fits_cons K0_3
  clear K0_3
  obtain ⟨f5, cl0_5, rfl, s5, K0_5⟩ := fits_cons K0_4
  clear K0_4
  obtain ⟨f6, cl0_6, rfl, s6, K0_6⟩ := fits_cons K0_5
  clear K0_5
  obtain ⟨f7, cl0_7, rfl, s7, K0_7⟩ := fits_cons K0_6
  clear K0_6
  obtain ⟨f8, cl0_8, rfl, s8, K0_8⟩ := fits_cons K0_7
  clear K0_7
  obtain ⟨f9, cl0_9, rfl, s9, K0_9⟩ := fits_cons K0_8
  clear K0_8
  obtain rfl := fits_nil K0_9
  clear K0_9
  have r0 := len_rng R0
  clear hA0 hval0
  simp only [List.append_nil] at hW'
  have C : Calls Try.prog 3 #[aslV pl0 n0] W (fun e W' => e = .returned (.bool true) ∧ Below W.heap.size W W') :=
    Eq.mp (by kernel_rfl) (spec_world (F := etalonlaw06_MeterAverages_s) (V := ⟨[(n0 : Int)], [], [f0, f1, f2, f3, f4, f5, f6, f7, f8, f9]⟩) (w := W) (ps := [pl0]) (averages r0 s1 s2 s3 s4 s5 s6 s7 s8 s9) (RowsOk.cons rfl rfl rfl (R0.rowAt rfl rfl rfl rfl rfl) RowsOk.nil) (by kernel_rfl))
  refine C.mono fun e W' ⟨he, bel⟩ => ?_
  subst he
  exact ⟨_, rfl, _, _, _, [], _, [], hW', trodAll_mk1 (shut_bool Try.underlying4 _), (trodAll_cons_mk (carry (by kernel_rfl) (by kernel_rfl) (of_decide_eq_true (by kernel_rfl)) bel h0) trodAll_mk0), rfl, bel.frame _, fun h => by cases h⟩

theorem over : Rows.meterAveragesRow.holds Try.pinned (OpenSpec.ofChange Rows.meterAveragesSpec) :=
  OpenClaim.holds_of_wide 3 Try.f3 rfl rfl rfl rfl rfl rfl rfl ⟨rfl, rfl, rfl, rfl, rfl⟩ rfl rfl rfl rfl rfl (by kernel_rfl) Try.func3 (by kernel_rfl)
    (of_decide_eq_true (by kernel_rfl)) (by unfold Func.isWrapper; first | (rw [if_pos (by decide +kernel)]; kernel_rfl) | (rw [if_neg (by decide +kernel)]; exact ⟨rfl, rfl⟩))
    (fun os started H enc _ => lifted os started H enc)

theorem proved : Rows.MeterAveragesSaid := over
#print axioms proved
end Go.Proofs.Ytfpaljiiiohmnaa.meterAverages
