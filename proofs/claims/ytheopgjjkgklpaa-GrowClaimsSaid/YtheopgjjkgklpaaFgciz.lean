/- GrowClaims: Which sequences and which labels of a change are accepted, and what is returned, or the errors, are as specified, for any ones, and no sequence that is accepted has fewer switches than the label of the last state by labels that are accepted: GrowClaims returns true for every chamber, change, sequence and labels (of larger ones than the law looks at it says nothing), for every tape and limit. No condition. -/
import Derived.Test.YtheopgjjkgklpaaFgci
import Derived.Test.YtheopgjjkgklpaaFoq
import Derived.Test.YtheopgjjkgklpaaRows
import Derived.ProofKit
import Derived.OpenShut
import Derived.ChangeSame
import Derived.JoinedOf
import Derived.JoinedAt
import Derived.RowKit3
import Derived.Lib.SmallJoins
namespace Go.Proofs.Ytheopgjjkgklpaa.growClaims
open Go.ChangeShapes Go.WideShapes Go.ChangeAt Go.RowKit Go.Joins Go.Proofs.Ytheopgjjkgklpaa.Ev
set_option linter.unusedVariables false
set_option linter.unusedSimpArgs false

theorem own : ownKnob Try.prog.godebug = none := by kernel_rfl

set_option maxRecDepth 100000 in
theorem lifted (os : Os) (started : os.Started) (H : Type) (enc : TypeId × Value → H) :
    ReturnsInHanded {} Try.checked os 5 .any (Rows.growClaimsSpec.pre6 enc Try.prog Try.f5 Rows.growClaimsRow.domain false) (Rows.growClaimsSpec.post enc Try.prog Try.f5 false true false false) := by
  refine returnsInHanded_of_change (C := Try.checked) own started (by kernel_rfl) Try.func5
    (ChangeSpec.witness6 (enc := enc) (C := Try.checked) false ⟨#[], #[.agg #[.slice none 0 0, .slice none 0 0], .agg #[.slice none 0 0, .slice none 0 0], .agg #[.slice none 0 0, .slice none 0 0]], []⟩ 12 (by kernel_rfl) (by kernel_rfl) (by kernel_rfl) (by kernel_rfl)) ?_
  intro W base args ds gs before hval0 hW _ _
  have hval : ∀ (j : Nat) t v, Try.f5.params[j]? = some t → args[j]? = some v → Value.okWide Try.prog W .any base t v := hval0
  have hW' := hW
  obtain ⟨p, q, hA0, hV, rfl, _, _⟩ := hW
  have hA : DataW.TrodAll enc Try.prog W 0 (fun _ => true) true Try.f5.params.toList args.toList ds p := hA0
  rw [Try.params5] at hA hval
  obtain ⟨v0, vs0, d0, ds0, p0, q0, hargs, rfl, rfl, h0, t0⟩ := trodAll_cons hA
  obtain ⟨v1, vs1, d1, ds1, p1, q1, rfl, rfl, rfl, h1, t1⟩ := trodAll_cons t0
  obtain ⟨v2, vs2, d2, ds2, p2, q2, rfl, rfl, rfl, h2, t2⟩ := trodAll_cons t1
  obtain ⟨rfl, rfl, rfl⟩ := trodAll_nil t2
  obtain rfl : args = #[v0, v1, v2] := by cases args; simp_all
  obtain ⟨rfl, rfl⟩ := trodVars_none hV
  obtain ⟨w0, rfl, G0⟩ := open_agg (k := 12) (l := [.row [.str], .row [(.int .i64), .bool, (.int .i64), .bool]]) (by kernel_rfl) (by kernel_rfl) (hval 0 25 v0 rfl rfl) h0
  obtain ⟨c0_0, w0_0, rfl, g0_0, G0_0⟩ := fits_cons G0
  clear G0
  obtain ⟨pl0, n0, cl0, rfl, R0⟩ := row_open g0_0
  have K0 := R0.ok
  obtain ⟨f0, cl0_0, rfl, s0, K0_0⟩ := fits_cons K0
  clear K0
  obtain rfl := fits_nil K0_0
  clear K0_0
  have r0 := len_rng R0
  obtain ⟨c0_1, w0_1, rfl, g0_1, G0_1⟩ := fits_cons G0_0
  clear G0_0
  obtain ⟨pl1, n1, cl1, rfl, R1⟩ := row_open g0_1
  have K1 := R1.ok
  obtain ⟨f1, cl1_1, rfl, s1, K1_1⟩ := fits_cons K1
  clear K1
  obtain ⟨f2, cl1_2, rfl, s2, K1_2⟩ := fits_cons K1_1
  clear K1_1
  obtain ⟨f3, cl1_3, rfl, s3, K1_3⟩ := fits_cons K1_2
  clear K1_2
  obtain ⟨f4, cl1_4, rfl, s4, K1_4⟩ := fits_cons K1_3
  clear K1_3
  obtain rfl := fits_nil K1_4
  clear K1_4
  have r1 := len_rng R1
  obtain rfl := fits_nil G0_1
  clear G0_1
  obtain ⟨w1, rfl, G1⟩ := open_agg (k := 12) (l := [.row [.bool], .row [.bool]]) (by kernel_rfl) (by kernel_rfl) (hval 1 45 v1 rfl rfl) h1
  obtain ⟨c1_0, w1_0, rfl, g1_0, G1_0⟩ := fits_cons G1
  clear G1
  obtain ⟨pl2, n2, cl2, rfl, R2⟩ := row_open g1_0
  have K2 := R2.ok
  obtain ⟨f5, cl2_5, rfl, s5, K2_5⟩ := fits_cons K2
  clear K2
  obtain rfl := fits_nil K2_5
  clear K2_5
  have r2 := len_rng R2
  obtain ⟨c1_1, w1_1, rfl, g1_1, G1_1⟩ := fits_cons G1_0
  clear G1_0
  obtain ⟨pl3, n3, cl3, rfl, R3⟩ := row_open g1_1
  have K3 := R3.ok
  obtain ⟨f6, cl3_6, rfl, s6, K3_6⟩ := fits_cons K3
  clear K3
  obtain rfl := fits_nil K3_6
  clear K3_6
  have r3 := len_rng R3
  obtain rfl := fits_nil G1_1
  clear G1_1
  obtain ⟨w2, rfl, G2⟩ := open_agg (k := 12) (l := [.row [(.int .i64)], .row [(.int .i64)]]) (by kernel_rfl) (by kernel_rfl) (hval 2 52 v2 rfl rfl) h2
  obtain ⟨c2_0, w2_0, rfl, g2_0, G2_0⟩ := fits_cons G2
  clear G2
  obtain ⟨pl4, n4, cl4, rfl, R4⟩ := row_open g2_0
  have K4 := R4.ok
  obtain ⟨f7, cl4_7, rfl, s7, K4_7⟩ := fits_cons K4
  clear K4
  obtain rfl := fits_nil K4_7
  clear K4_7
  have r4 := len_rng R4
  obtain ⟨c2_1, w2_1, rfl, g2_1, G2_1⟩ := fits_cons G2_0
  clear G2_0
  obtain ⟨pl5, n5, cl5, rfl, R5⟩ := row_open g2_1
  have K5 := R5.ok
  obtain ⟨f8, cl5_8, rfl, s8, K5_8⟩ := fits_cons K5
  clear K5
  obtain rfl := fits_nil K5_8
  clear K5_8
  have r5 := len_rng R5
  obtain rfl := fits_nil G2_1
  clear G2_1
  clear hA0 hval0
  simp only [List.append_nil] at hW'
  have C : Calls Try.prog 5 #[.agg [aslV pl0 n0, aslV pl1 n1].toArray, .agg [aslV pl2 n2, aslV pl3 n3].toArray, .agg [aslV pl4 n4, aslV pl5 n5].toArray] W (fun e W' => e = .returned (.bool true) ∧ Below W.heap.size W W') :=
    Eq.mp (by kernel_rfl) (spec_world (F := etalonlaw08_GrowClaims_s) (V := ⟨[(n0 : Int), (n1 : Int), (n2 : Int), (n3 : Int), (n4 : Int), (n5 : Int)], [], [f0, f1, f2, f3, f4, f5, f6, f7, f8]⟩) (w := W) (ps := [pl0, pl1, pl2, pl3, pl4, pl5]) (claims r0 r1 r2 r3 r4 r5 s1 s3 s7 s8) (RowsOk.cons rfl rfl rfl (R0.rowAt rfl rfl rfl rfl rfl) (RowsOk.cons rfl rfl rfl (R1.rowAt rfl rfl rfl rfl rfl) (RowsOk.cons rfl rfl rfl (R2.rowAt rfl rfl rfl rfl rfl) (RowsOk.cons rfl rfl rfl (R3.rowAt rfl rfl rfl rfl rfl) (RowsOk.cons rfl rfl rfl (R4.rowAt rfl rfl rfl rfl rfl) (RowsOk.cons rfl rfl rfl (R5.rowAt rfl rfl rfl rfl rfl) RowsOk.nil)))))) (by kernel_rfl))
  refine C.mono fun e W' ⟨he, bel⟩ => ?_
  subst he
  exact ⟨_, rfl, _, _, _, [], _, [], hW', trodAll_mk1 (shut_bool Try.underlying4 _), (trodAll_cons_mk (carry (by kernel_rfl) (by kernel_rfl) (of_decide_eq_true (by kernel_rfl)) bel h0) (trodAll_cons_mk (carry (by kernel_rfl) (by kernel_rfl) (of_decide_eq_true (by kernel_rfl)) bel h1) (trodAll_cons_mk (carry (by kernel_rfl) (by kernel_rfl) (of_decide_eq_true (by kernel_rfl)) bel h2) trodAll_mk0))), rfl, bel.frame _, fun h => by cases h⟩

theorem over : Rows.growClaimsRow.holds Try.pinned (OpenSpec.ofChange Rows.growClaimsSpec) :=
  OpenClaim.holds_of_wide 5 Try.f5 rfl rfl rfl rfl rfl rfl rfl ⟨rfl, rfl, rfl, rfl, rfl⟩ rfl rfl rfl rfl rfl (by kernel_rfl) Try.func5 (by kernel_rfl)
    (of_decide_eq_true (by kernel_rfl)) (by unfold Func.isWrapper; first | (rw [if_pos (by decide +kernel)]; kernel_rfl) | (rw [if_neg (by decide +kernel)]; exact ⟨rfl, rfl⟩))
    (fun os started H enc _ => lifted os started H enc)

theorem proved : Rows.GrowClaimsSaid := over
#print axioms proved
end Go.Proofs.Ytheopgjjkgklpaa.growClaims
