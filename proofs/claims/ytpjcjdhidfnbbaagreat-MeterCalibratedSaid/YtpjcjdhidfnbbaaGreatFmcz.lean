/- MeterCalibrated: whatever the two calibrations and the sums are, it returns true -/
import Derived.Test.YtpjcjdhidfnbbaaGreatFmc
import Derived.Test.YtpjcjdhidfnbbaaGreatFoq
import Derived.Test.YtpjcjdhidfnbbaaGreatRows
import Derived.ProofKit
import Derived.OpenShut
import Derived.ChangeSame
import Derived.JoinedOf
import Derived.JoinedAt
import Derived.RowKit3
import Derived.Lib.SmallJoins
namespace Go.Proofs.YtpjcjdhidfnbbaaGreat.meterCalibrated
open Go.ChangeShapes Go.WideShapes Go.ChangeAt Go.RowKit Go.Joins Go.Proofs.YtpjcjdhidfnbbaaGreat.Ev
set_option linter.unusedVariables false
set_option linter.unusedSimpArgs false

theorem own : ownKnob Tryz.prog.godebug = none := by kernel_rfl

set_option maxRecDepth 100000 in
theorem lifted (os : Os) (started : os.Started) (H : Type) (enc : TypeId × Value → H) :
    ReturnsInHanded {} Tryz.checked os 5 .any (Rows.meterCalibratedSpec.pre6 enc Tryz.prog Tryz.f5 Rows.meterCalibratedRow.domain false) (Rows.meterCalibratedSpec.post enc Tryz.prog Tryz.f5 false true false false) := by
  refine returnsInHanded_of_change (C := Tryz.checked) own started (by kernel_rfl) Tryz.func5
    (ChangeSpec.witness6 (enc := enc) (C := Tryz.checked) false ⟨#[], #[.agg #[.int .i64 0, .int .i64 0, .int .i64 0, .int .i64 0, .int .i64 0, .int .i64 0, .int .i64 0, .int .i64 0, .int .i64 0, .int .i64 0], .agg #[.int .i64 0, .int .i64 0, .int .i64 0, .int .i64 0, .int .i64 0, .int .i64 0, .int .i64 0, .int .i64 0, .int .i64 0, .int .i64 0], .agg #[.int .i64 0, .int .i64 0, .int .i64 0, .int .i64 0, .int .i64 0, .int .i64 0]], []⟩ 12 (by kernel_rfl) (by kernel_rfl) (by kernel_rfl) (by kernel_rfl)) ?_
  intro W base args ds gs before hval0 hW _ _
  have hval : ∀ (j : Nat) t v, Tryz.f5.params[j]? = some t → args[j]? = some v → Value.okWide Tryz.prog W .any base t v := hval0
  have hW' := hW
  obtain ⟨p, q, hA0, hV, rfl, _, _⟩ := hW
  have hA : DataW.TrodAll enc Tryz.prog W 0 (fun _ => true) true Tryz.f5.params.toList args.toList ds p := hA0
  rw [Tryz.params5] at hA hval
  obtain ⟨v0, vs0, d0, ds0, p0, q0, hargs, rfl, rfl, h0, t0⟩ := trodAll_cons hA
  obtain ⟨v1, vs1, d1, ds1, p1, q1, rfl, rfl, rfl, h1, t1⟩ := trodAll_cons t0
  obtain ⟨v2, vs2, d2, ds2, p2, q2, rfl, rfl, rfl, h2, t2⟩ := trodAll_cons t1
  obtain ⟨rfl, rfl, rfl⟩ := trodAll_nil t2
  obtain rfl : args = #[v0, v1, v2] := by cases args; simp_all
  obtain ⟨rfl, rfl⟩ := trodVars_none hV
  obtain ⟨w0, rfl, G0⟩ := open_agg (k := 12) (l := [.c (.int .i64), .c (.int .i64), .c (.int .i64), .c (.int .i64), .c (.int .i64), .c (.int .i64), .c (.int .i64), .c (.int .i64), .c (.int .i64), .c (.int .i64)]) (by kernel_rfl) (by kernel_rfl) (hval 0 24 v0 rfl rfl) h0
  obtain ⟨c0_0, w0_0, rfl, g0_0, G0_0⟩ := fits_cons G0
  clear G0
  obtain ⟨x0, rfl, r0⟩ := g0_0
  obtain ⟨c0_1, w0_1, rfl, g0_1, G0_1⟩ := fits_cons G0_0
  clear G0_0
  obtain ⟨x1, rfl, r1⟩ := g0_1
  obtain ⟨c0_2, w0_2, rfl, g0_2, G0_2⟩ := fits_cons G0_1
  clear G0_1
  obtain ⟨x2, rfl, r2⟩ := g0_2
  obtain ⟨c0_3, w0_3, rfl, g0_3, G0_3⟩ := fits_cons G0_2
  clear G0_2
  obtain ⟨x3, rfl, r3⟩ := g0_3
  obtain ⟨c0_4, w0_4, rfl, g0_4, G0_4⟩ := fits_cons G0_3
  clear G0_3
  obtain ⟨x4, rfl, r4⟩ := g0_4
  obtain ⟨c0_5, w0_5, rfl, g0_5, G0_5⟩ := fits_cons G0_4
  clear G0_4
  obtain ⟨x5, rfl, r5⟩ := g0_5
  obtain ⟨c0_6, w0_6, rfl, g0_6, G0_6⟩ := fits_cons G0_5
  clear G0_5
  obtain ⟨x6, rfl, r6⟩ := g0_6
  obtain ⟨c0_7, w0_7, rfl, g0_7, G0_7⟩ := fits_cons G0_6
  clear G0_6
  obtain ⟨x7, rfl, r7⟩ := g0_7
  obtain ⟨c0_8, w0_8, rfl, g0_8, G0_8⟩ := fits_cons G0_7
  clear G0_7
  obtain ⟨x8, rfl, r8⟩ := g0_8
  obtain ⟨c0_9, w0_9, rfl, g0_9, G0_9⟩ := fits_cons G0_8
  clear G0_8
  obtain ⟨x9, rfl, r9⟩ := g0_9
  obtain rfl := fits_nil G0_9
  clear G0_9
  obtain ⟨w1, rfl, G1⟩ := open_agg (k := 12) (l := [.c (.int .i64), .c (.int .i64), .c (.int .i64), .c (.int .i64), .c (.int .i64), .c (.int .i64), .c (.int .i64), .c (.int .i64), .c (.int .i64), .c (.int .i64)]) (by kernel_rfl) (by kernel_rfl) (hval 1 24 v1 rfl rfl) h1
  obtain ⟨c1_0, w1_0, rfl, g1_0, G1_0⟩ := fits_cons G1
  clear G1
  obtain ⟨x10, rfl, r10⟩ := g1_0
  obtain ⟨c1_1, w1_1, rfl, g1_1, G1_1⟩ := fits_cons G1_0
  clear G1_0
  obtain ⟨x11, rfl, r11⟩ := g1_1
  obtain ⟨c1_2, w1_2, rfl, g1_2, G1_2⟩ := fits_cons G1_1
  clear G1_1
  obtain ⟨x12, rfl, r12⟩ := g1_2
  obtain ⟨c1_3, w1_3, rfl, g1_3, G1_3⟩ := fits_cons G1_2
  clear G1_2
  obtain ⟨x13, rfl, r13⟩ := g1_3
  obtain ⟨c1_4, w1_4, rfl, g1_4, G1_4⟩ := fits_cons G1_3
  clear G1_3
  obtain ⟨x14, rfl, r14⟩ := g1_4
  obtain ⟨c1_5, w1_5, rfl, g1_5, G1_5⟩ := fits_cons G1_4
  clear G1_4
  obtain ⟨x15, rfl, r15⟩ := g1_5
  obtain ⟨c1_6, w1_6, rfl, g1_6, G1_6⟩ := fits_cons G1_5
  clear G1_5
  obtain ⟨x16, rfl, r16⟩ := g1_6
  obtain ⟨c1_7, w1_7, rfl, g1_7, G1_7⟩ := fits_cons G1_6
  clear G1_6
  obtain ⟨x17, rfl, r17⟩ := g1_7
  obtain ⟨c1_8, w1_8, rfl, g1_8, G1_8⟩ := fits_cons G1_7
  clear G1_7
  obtain ⟨x18, rfl, r18⟩ := g1_8
  obtain ⟨c1_9, w1_9, rfl, g1_9, G1_9⟩ := fits_cons G1_8
  clear G1_8
  obtain ⟨x19, rfl, r19⟩ := g1_9
  obtain rfl := fits_nil G1_9
  clear G1_9
  obtain ⟨w2, rfl, G2⟩ := open_agg (k := 12) (l := [.c (.int .i64), .c (.int .i64), .c (.int .i64), .c (.int .i64), .c (.int .i64), .c (.int .i64)]) (by kernel_rfl) (by kernel_rfl) (hval 2 31 v2 rfl rfl) h2
  obtain ⟨c2_0, w2_0, rfl, g2_0, G2_0⟩ := fits_cons G2
  clear G2
  obtain ⟨x20, rfl, r20⟩ := g2_0
  obtain ⟨c2_1, w2_1, rfl, g2_1, G2_1⟩ := fits_cons G2_0
  clear G2_0
  obtain ⟨x21, rfl, r21⟩ := g2_1
  obtain ⟨c2_2, w2_2, rfl, g2_2, G2_2⟩ := fits_cons G2_1
  clear G2_1
  obtain ⟨x22, rfl, r22⟩ := g2_2
  obtain ⟨c2_3, w2_3, rfl, g2_3, G2_3⟩ := fits_cons G2_2
  clear G2_2
  obtain ⟨x23, rfl, r23⟩ := g2_3
  obtain ⟨c2_4, w2_4, rfl, g2_4, G2_4⟩ := fits_cons G2_3
  clear G2_3
  obtain ⟨x24, rfl, r24⟩ := g2_4
  obtain ⟨c2_5, w2_5, rfl, g2_5, G2_5⟩ := fits_cons G2_4
  clear G2_4
  obtain ⟨x25, rfl, r25⟩ := g2_5
  obtain rfl := fits_nil G2_5
  clear G2_5
  clear hA0 hval0
  simp only [List.append_nil] at hW'
  have C : Calls Tryz.prog 5 #[.agg [.int .i64 x0, .int .i64 x1, .int .i64 x2, .int .i64 x3, .int .i64 x4, .int .i64 x5, .int .i64 x6, .int .i64 x7, .int .i64 x8, .int .i64 x9].toArray, .agg [.int .i64 x10, .int .i64 x11, .int .i64 x12, .int .i64 x13, .int .i64 x14, .int .i64 x15, .int .i64 x16, .int .i64 x17, .int .i64 x18, .int .i64 x19].toArray, .agg [.int .i64 x20, .int .i64 x21, .int .i64 x22, .int .i64 x23, .int .i64 x24, .int .i64 x25].toArray] W (fun e W' => e = .returned (.bool true) ∧ Below W.heap.size W W') :=
    Eq.mp (by kernel_rfl) (spec_world (F := etalonlaw06_MeterCalibrated_s) (V := ⟨[x0, x1, x2, x3, x4, x5, x6, x7, x8, x9, x10, x11, x12, x13, x14, x15, x16, x17, x18, x19, x20, x21, x22, x23, x24, x25], [], []⟩) (w := W) (ps := []) (meterCalibrated r0 r1 r2 r3 r4 r5 r6 r7 r8 r9 r10 r11 r12 r13 r14 r15 r16 r17 r18 r19 r20 r21 r22 r23 r24 r25) RowsOk.nil (by kernel_rfl))
  refine C.mono fun e W' ⟨he, bel⟩ => ?_
  subst he
  exact ⟨_, rfl, _, _, _, [], _, [], hW', trodAll_mk1 (shut_bool Tryz.underlying4 _), (trodAll_cons_mk (carry (by kernel_rfl) (by kernel_rfl) (of_decide_eq_true (by kernel_rfl)) bel h0) (trodAll_cons_mk (carry (by kernel_rfl) (by kernel_rfl) (of_decide_eq_true (by kernel_rfl)) bel h1) (trodAll_cons_mk (carry (by kernel_rfl) (by kernel_rfl) (of_decide_eq_true (by kernel_rfl)) bel h2) trodAll_mk0))), rfl, bel.frame _, fun h => by cases h⟩

theorem over : Rows.meterCalibratedRow.holds Tryz.pinned (OpenSpec.ofChange Rows.meterCalibratedSpec) :=
  OpenClaim.holds_of_wide 5 Tryz.f5 rfl rfl rfl rfl rfl rfl rfl ⟨rfl, rfl, rfl, rfl, rfl⟩ rfl rfl rfl rfl rfl (by kernel_rfl) Tryz.func5 (by kernel_rfl)
    (of_decide_eq_true (by kernel_rfl)) (by unfold Func.isWrapper; first | (rw [if_pos (by decide +kernel)]; kernel_rfl) | (rw [if_neg (by decide +kernel)]; exact ⟨rfl, rfl⟩))
    (fun os started H enc _ => lifted os started H enc)

theorem proved : Rows.MeterCalibratedSaid := over
#print axioms proved
end Go.Proofs.YtpjcjdhidfnbbaaGreat.meterCalibrated
