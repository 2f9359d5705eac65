/- GlassWithin: what is told at a wavelength lies between the ends that are told for a range with it, and wider ranges have wider enclosures, whatever the material and the wavelengths are, for any floats. -/
import Derived.Test.YtfgdockgdbdoiaaGreatFxd
import Derived.Test.YtfgdockgdbdoiaaGreatFoq
import Derived.Test.YtfgdockgdbdoiaaGreatRows
import Derived.ProofKit
import Derived.OpenShut
import Derived.ChangeSame
import Derived.JoinedOf
import Derived.JoinedAt
import Derived.RowKit3
import Derived.Lib.SmallJoins
namespace Go.Proofs.YtfgdockgdbdoiaaGreat.glassWithin
open Go.ChangeShapes Go.WideShapes Go.ChangeAt Go.RowKit Go.Joins Go.Proofs.YtfgdockgdbdoiaaGreat.Ev
set_option linter.unusedVariables false
set_option linter.unusedSimpArgs false

theorem own : ownKnob Tryz.prog.godebug = none := by kernel_rfl

set_option maxRecDepth 100000 in
theorem lifted (os : Os) (started : os.Started) (H : Type) (enc : TypeId × Value → H) :
    ReturnsInHanded {} Tryz.checked os 6 .any (Rows.glassWithinSpec.pre6 enc Tryz.prog Tryz.f6 Rows.glassWithinRow.domain false) (Rows.glassWithinSpec.post enc Tryz.prog Tryz.f6 false true false false) := by
  refine returnsInHanded_of_change (C := Tryz.checked) own started (by kernel_rfl) Tryz.func6
    (ChangeSpec.witness6 (enc := enc) (C := Tryz.checked) false ⟨#[], #[.agg #[.string ⟨#[]⟩, .int .i64 0, .slice none 0 0, .slice none 0 0, .slice none 0 0, .int .i64 0, .int .i64 0], .agg #[.int .i64 0, .int .i64 0], .int .i64 0], []⟩ 12 (by kernel_rfl) (by kernel_rfl) (by kernel_rfl) (by kernel_rfl)) ?_
  intro W base args ds gs before hval0 hW _ _
  have hval : ∀ (j : Nat) t v, Tryz.f6.params[j]? = some t → args[j]? = some v → Value.okWide Tryz.prog W .any base t v := hval0
  have hW' := hW
  obtain ⟨p, q, hA0, hV, rfl, _, _⟩ := hW
  have hA : DataW.TrodAll enc Tryz.prog W 0 (fun _ => true) true Tryz.f6.params.toList args.toList ds p := hA0
  rw [Tryz.params6] at hA hval
  obtain ⟨v0, vs0, d0, ds0, p0, q0, hargs, rfl, rfl, h0, t0⟩ := trodAll_cons hA
  obtain ⟨v1, vs1, d1, ds1, p1, q1, rfl, rfl, rfl, h1, t1⟩ := trodAll_cons t0
  obtain ⟨v2, vs2, d2, ds2, p2, q2, rfl, rfl, rfl, h2, t2⟩ := trodAll_cons t1
  obtain ⟨rfl, rfl, rfl⟩ := trodAll_nil t2
  obtain rfl : args = #[v0, v1, v2] := by cases args; simp_all
  obtain ⟨rfl, rfl⟩ := trodVars_none hV
  obtain ⟨w0, rfl, G0⟩ := open_agg (k := 12) (l := [.c .str, .c (.int .i64), .row [(.int .i64)], .row [(.float .f32)], .row [(.float .f32)], .c (.int .i64), .c (.int .i64)]) (by kernel_rfl) (by kernel_rfl) (hval 0 26 v0 rfl rfl) h0
  obtain ⟨c0_0, w0_0, rfl, g0_0, G0_0⟩ := fits_cons G0
  clear G0
  obtain ⟨t0, rfl, e0⟩ := g0_0
  obtain ⟨x0, rfl, r0⟩ := text_code t0
  obtain ⟨c0_1, w0_1, rfl, g0_1, G0_1⟩ := fits_cons G0_0
  clear G0_0
  obtain ⟨x1, rfl, r1⟩ := g0_1
  obtain ⟨c0_2, w0_2, rfl, g0_2, G0_2⟩ := fits_cons G0_1
  clear G0_1
  obtain ⟨pl0, n0, cl0, rfl, R0⟩ := row_open g0_2
  have K0 := R0.ok
  obtain ⟨f0, cl0_0, rfl, s0, K0_0⟩ := fits_cons K0
  clear K0
  obtain rfl := fits_nil K0_0
  clear K0_0
  have r2 := len_rng R0
  obtain ⟨c0_3, w0_3, rfl, g0_3, G0_3⟩ := fits_cons G0_2
  clear G0_2
  obtain ⟨pl1, n1, cl1, rfl, R1⟩ := row_open g0_3
  have K1 := R1.ok
  obtain ⟨f1, cl1_1, rfl, s1, K1_1⟩ := fits_cons K1
  clear K1
  obtain rfl := fits_nil K1_1
  clear K1_1
  have r3 := len_rng R1
  obtain ⟨c0_4, w0_4, rfl, g0_4, G0_4⟩ := fits_cons G0_3
  clear G0_3
  obtain ⟨pl2, n2, cl2, rfl, R2⟩ := row_open g0_4
  have K2 := R2.ok
  obtain ⟨f2, cl2_2, rfl, s2, K2_2⟩ := fits_cons K2
  clear K2
  obtain rfl := fits_nil K2_2
  clear K2_2
  have r4 := len_rng R2
  obtain ⟨c0_5, w0_5, rfl, g0_5, G0_5⟩ := fits_cons G0_4
  clear G0_4
  obtain ⟨x5, rfl, r5⟩ := g0_5
  obtain ⟨c0_6, w0_6, rfl, g0_6, G0_6⟩ := fits_cons G0_5
  clear G0_5
  obtain ⟨x6, rfl, r6⟩ := g0_6
  obtain rfl := fits_nil G0_6
  clear G0_6
  obtain ⟨w1, rfl, G1⟩ := open_agg (k := 12) (l := [.c (.int .i64), .c (.int .i64)]) (by kernel_rfl) (by kernel_rfl) (hval 1 39 v1 rfl rfl) h1
  obtain ⟨c1_0, w1_0, rfl, g1_0, G1_0⟩ := fits_cons G1
  clear G1
  obtain ⟨x7, rfl, r7⟩ := g1_0
  obtain ⟨c1_1, w1_1, rfl, g1_1, G1_1⟩ := fits_cons G1_0
  clear G1_0
  obtain ⟨x8, rfl, r8⟩ := g1_1
  obtain rfl := fits_nil G1_1
  clear G1_1
  have g2 := open_one (k := 12) (c := .c (.int .i64)) (by kernel_rfl) (by kernel_rfl) (hval 2 3 v2 rfl rfl) h2
  obtain ⟨x9, rfl, r9⟩ := g2
  clear hA0 hval0
  simp only [List.append_nil] at hW'
  have C : Calls Tryz.prog 6 #[.agg [.string (deS x0), .int .i64 x1, aslV pl0 n0, aslV pl1 n1, aslV pl2 n2, .int .i64 x5, .int .i64 x6].toArray, .agg [.int .i64 x7, .int .i64 x8].toArray, .int .i64 x9] W (fun e W' => e = .returned (.bool true) ∧ Below W.heap.size W W') :=
    Eq.mp (by kernel_rfl) (spec_world (F := etalonlaw02_GlassWithin_s) (V := ⟨[x0, x1, (n0 : Int), (n1 : Int), (n2 : Int), x5, x6, x7, x8, x9], [], [f0, f1, f2]⟩) (w := W) (ps := [pl0, pl1, pl2]) (Ev.withins r1 r2 r3 r4 r5 r6 r7 r8 r9 s0) (RowsOk.cons rfl rfl rfl (R0.rowAt rfl rfl rfl rfl rfl) (RowsOk.cons rfl rfl rfl (R1.rowAt rfl rfl rfl rfl rfl) (RowsOk.cons rfl rfl rfl (R2.rowAt rfl rfl rfl rfl rfl) RowsOk.nil))) (by kernel_rfl))
  refine C.mono fun e W' ⟨he, bel⟩ => ?_
  subst he
  exact ⟨_, rfl, _, _, _, [], _, [], hW', trodAll_mk1 (shut_bool Tryz.underlying4 _), (trodAll_cons_mk (carry (by kernel_rfl) (by kernel_rfl) (of_decide_eq_true (by kernel_rfl)) bel h0) (trodAll_cons_mk (carry (by kernel_rfl) (by kernel_rfl) (of_decide_eq_true (by kernel_rfl)) bel h1) (trodAll_cons_mk (carry (by kernel_rfl) (by kernel_rfl) (of_decide_eq_true (by kernel_rfl)) bel h2) trodAll_mk0))), rfl, bel.frame _, fun h => by cases h⟩

theorem over : Rows.glassWithinRow.holds Tryz.pinned (OpenSpec.ofChange Rows.glassWithinSpec) :=
  OpenClaim.holds_of_wide 6 Tryz.f6 rfl rfl rfl rfl rfl rfl rfl ⟨rfl, rfl, rfl, rfl, rfl⟩ rfl rfl rfl rfl rfl (by kernel_rfl) Tryz.func6 (by kernel_rfl)
    (of_decide_eq_true (by kernel_rfl)) (by unfold Func.isWrapper; first | (rw [if_pos (by decide +kernel)]; kernel_rfl) | (rw [if_neg (by decide +kernel)]; exact ⟨rfl, rfl⟩))
    (fun os started H enc _ => lifted os started H enc)

theorem proved : Rows.GlassWithinSaid := over
#print axioms proved
end Go.Proofs.YtfgdockgdbdoiaaGreat.glassWithin
