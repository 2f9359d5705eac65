/- GlassMixes. -/
import Derived.Test.YtmodchmadbkfbaaGreatFgmr
import Derived.Test.YtmodchmadbkfbaaGreatFaw2
namespace Go.Proofs.YtmodchmadbkfbaaGreat.Ev
set_option linter.unusedSimpArgs false
open Go Go.RowKit
set_option linter.unusedVariables false
set_option maxRecDepth 100000
def etalonlaw02_GlassMixes_s : Sig := ⟨3, ⟨4, 0, 0⟩, ⟨0, 1, 0⟩, [(.int .i64 (.var 0)), (.int .i64 (.var 1)), (.agg [(.int .i64 (.var 2)), (.int .i64 (.var 3))])], [], (.bool (.var 0)), []⟩

def gml_t : Tr :=
  (.call etalonlaw02_awake_s ⟨[], [], []⟩ ⟨[], [(.var 0)], []⟩ ⟨4, [], [], [none], (.bool (.var 0)), []⟩
  (.ite (.var 0)
  (.call glass_MixedBetween_s ⟨[(.var 0), (.var 1), (.var 2)], [], []⟩ ⟨[(.var 0), (.var 1), (.var 2), (.var 4), (.var 5), (.var 6)], [], []⟩ ⟨5, [(.int .i64 (.var 0)), (.int .i64 (.var 1)), (.int .i64 (.var 2))], [], [none], (.tuple [(.agg [(.int .i64 (.var 4)), (.int .i64 (.var 5))]), (.int .i64 (.var 6))]), []⟩
   (.call glass_ShareFor_s ⟨[(.var 0), (.var 1), (.var 3)], [], []⟩ ⟨[(.var 0), (.var 1), (.var 3), (.var 7), (.var 8), (.var 9)], [], []⟩ ⟨6, [(.int .i64 (.var 0)), (.int .i64 (.var 1)), (.int .i64 (.var 3))], [], [none, none], (.tuple [(.agg [(.int .i64 (.var 7)), (.int .i64 (.var 8))]), (.int .i64 (.var 9))]), []⟩
   (.call etalonref02_MixedBetween_s ⟨[(.var 0), (.var 1), (.var 2)], [], []⟩ ⟨[(.var 0), (.var 1), (.var 2), (.var 10), (.var 11), (.var 12)], [], []⟩ ⟨7, [(.int .i64 (.var 0)), (.int .i64 (.var 1)), (.int .i64 (.var 2))], [], [none, none, none], (.tuple [(.agg [(.int .i64 (.var 10)), (.int .i64 (.var 11))]), (.int .i64 (.var 12))]), []⟩
   (.call etalonref02_ShareFor_s ⟨[(.var 0), (.var 1), (.var 3)], [], []⟩ ⟨[(.var 0), (.var 1), (.var 3), (.var 13), (.var 14), (.var 15)], [], []⟩ ⟨8, [(.int .i64 (.var 0)), (.int .i64 (.var 1)), (.int .i64 (.var 3))], [], [none, none, none, none], (.tuple [(.agg [(.int .i64 (.var 13)), (.int .i64 (.var 14))]), (.int .i64 (.var 15))]), []⟩
   (.ite (.icmp .eql (.var 6) (.var 12))
   (.ite (.icmp .eql (.var 4) (.var 10))
    (.ite (.icmp .eql (.var 5) (.var 11))
     (.ite (.icmp .eql (.var 9) (.var 15))
      (.ret ⟨[], [(.and (.icmp .eql (.var 7) (.var 13)) (.icmp .eql (.var 8) (.var 14)))], []⟩ [])
      (.ret ⟨[], [(.lit false)], []⟩ []))
     (.ret ⟨[], [(.lit false)], []⟩ []))
    (.ret ⟨[], [(.lit false)], []⟩ []))
   (.ret ⟨[], [(.lit false)], []⟩ []))))))
  (.ret ⟨[], [(.lit false)], []⟩ [])))
theorem gml {x0 x1 x2 x3 : Int} (r0 : (-9223372036854775808) ≤ x0 ∧ x0 ≤ 9223372036854775807) (r1 : (-9223372036854775808) ≤ x1 ∧ x1 ≤ 9223372036854775807) (r2 : (-9223372036854775808) ≤ x2 ∧ x2 ≤ 9223372036854775807) (r3 : (-9223372036854775808) ≤ x3 ∧ x3 ≤ 9223372036854775807) {R : Bool → Prop}
  (H : (∃ u0 : Bool, Spec Tryz.prog etalonlaw02_awake_s ⟨[], [], []⟩ [] [u0] [] ∧
   ((u0 = true → (∃ v4 : Int, ∃ v5 : Int, ∃ v6 : Int, Spec Tryz.prog glass_MixedBetween_s ⟨[x0, x1, x2], [], []⟩ [v4, v5, v6] [] [] ∧
    (∃ v7 : Int, ∃ v8 : Int, ∃ v9 : Int, Spec Tryz.prog glass_ShareFor_s ⟨[x0, x1, x3], [], []⟩ [v7, v8, v9] [] [] ∧
    (∃ v10 : Int, ∃ v11 : Int, ∃ v12 : Int, Spec Tryz.prog etalonref02_MixedBetween_s ⟨[x0, x1, x2], [], []⟩ [v10, v11, v12] [] [] ∧
    (∃ v13 : Int, ∃ v14 : Int, ∃ v15 : Int, Spec Tryz.prog etalonref02_ShareFor_s ⟨[x0, x1, x3], [], []⟩ [v13, v14, v15] [] [] ∧
    ((((v6 : Int) == v12) = true → ((((v4 : Int) == v10) = true → ((((v5 : Int) == v11) = true → ((((v9 : Int) == v15) = true → R ((((v7 : Int) == v13) && ((v8 : Int) == v14)))) ∧
       (((v9 : Int) == v15) = false → R (false)))) ∧
      (((v5 : Int) == v11) = false → R (false)))) ∧
     (((v4 : Int) == v10) = false → R (false)))) ∧
    (((v6 : Int) == v12) = false → R (false)))))))) ∧
   (u0 = false → R (false))))) :
    ∃ u0 : Bool, R u0 ∧ Spec Tryz.prog etalonlaw02_GlassMixes_s ⟨[x0, x1, x2, x3], [], []⟩ [] [u0] [] :=
  Eq.mp (by kernel_rfl) (exV_of (K := fun d => app3 etalonlaw02_GlassMixes_s.out R d ∧ Spec Tryz.prog etalonlaw02_GlassMixes_s ⟨[x0, x1, x2, x3], [], []⟩ d.1 d.2.1 d.2.2) (tree_at mixed names S1_ok (S := S1 Tryz.prog) (lf := 100000) (d := 60) etalonlaw02_GlassMixes_s gml_t { ivs := [(0, (-9223372036854775808), 9223372036854775807), (1, (-9223372036854775808), 9223372036854775807), (2, (-9223372036854775808), 9223372036854775807), (3, (-9223372036854775808), 9223372036854775807)], aivs := [] } ⟨[x0, x1, x2, x3], [], []⟩ rfl (by kernel_rfl) (by kernel_rfl) (by kernel_rfl) ⟨(fc r0 (fc r1 (fc r2 (fc r3 fz)))), fz, fz, fz⟩ (R := fun d => app3 etalonlaw02_GlassMixes_s.out R d) (Eq.mp (by kernel_rfl) H)))

theorem mixes {x0 x1 x2 x3 : Int} (r0 : (-9223372036854775808) ≤ x0 ∧ x0 ≤ 9223372036854775807) (r1 : (-9223372036854775808) ≤ x1 ∧ x1 ≤ 9223372036854775807) (r2 : (-9223372036854775808) ≤ x2 ∧ x2 ≤ 9223372036854775807) (r3 : (-9223372036854775808) ≤ x3 ∧ x3 ≤ 9223372036854775807) :

    Spec Tryz.prog etalonlaw02_GlassMixes_s ⟨[x0, x1, x2, x3], [], []⟩ [] [true] [] := by

  obtain ⟨a0, rfl, ha⟩ := awake

  obtain ⟨l, h, e, hp, hr⟩ : ∃ l h e : Int, Spec Tryz.prog glass_MixedBetween_s ⟨[x0, x1, x2], [], []⟩ [l, h, e] [] [] ∧ Spec Tryz.prog etalonref02_MixedBetween_s ⟨[x0, x1, x2], [], []⟩ [l, h, e] [] [] := by

    by_cases g : (5000 ≤ x0 ∧ x0 ≤ 80000) ∧ (5000 ≤ x1 ∧ x1 ≤ 80000) ∧ 0 ≤ x2 ∧ x2 ≤ 10000

    · exact ⟨_, _, _, mixed_s g.1 g.2.1 g.2.2, rmixed_s g.1 g.2.1 g.2.2⟩

    · exact ⟨_, _, _, mixed_no r0 r1 r2 g, rmixed_no r0 r1 r2 g⟩

  obtain ⟨u, rfl, hs⟩ := gml r0 r1 r2 r3 (R := (· = true)) ⟨true, ha, fun _ => ⟨_, _, _, hp, _, _, _, share_s r0 r1 r3, _, _, _, hr, _, _, _, rshare_s r0 r1 r3, by simp⟩, fun h => by cases h⟩

  exact hs

end Go.Proofs.YtmodchmadbkfbaaGreat.Ev
