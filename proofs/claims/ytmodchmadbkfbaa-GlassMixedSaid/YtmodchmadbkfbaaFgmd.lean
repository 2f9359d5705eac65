/- GlassMixed. -/
import Derived.Test.YtmodchmadbkfbaaFgma
import Derived.Test.YtmodchmadbkfbaaFaw2
namespace Go.Proofs.Ytmodchmadbkfbaa.Ev
set_option linter.unusedSimpArgs false
open Go Go.RowKit
set_option linter.unusedVariables false
set_option maxRecDepth 100000
open Go.Proofs.Ytmodchmadbkfbaa.Gm

def etalonlaw02_GlassMixed_s : Sig := ⟨3, ⟨3, 0, 0⟩, ⟨0, 1, 0⟩, [(.int .i64 (.var 0)), (.int .i64 (.var 1)), (.int .i64 (.var 2))], [], (.bool (.var 0)), []⟩

def gmd_t : Tr :=
  (.call etalonlaw02_awake_s ⟨[], [], []⟩ ⟨[], [(.var 0)], []⟩ ⟨4, [], [], [], (.bool (.var 0)), []⟩
  (.ite (.var 0)
  (.call glass_MixedBetween_s ⟨[(.var 0), (.var 1), (.var 2)], [], []⟩ ⟨[(.var 0), (.var 1), (.var 2), (.var 3), (.var 4), (.var 5)], [], []⟩ ⟨5, [(.int .i64 (.var 0)), (.int .i64 (.var 1)), (.int .i64 (.var 2))], [], [], (.tuple [(.agg [(.int .i64 (.var 3)), (.int .i64 (.var 4))]), (.int .i64 (.var 5))]), []⟩
   (.ite (.icmp .eql (.var 5) (.lit 0))
   (.call glass_MixedBetween_s ⟨[(.var 1), (.var 0), (.bin (.subW .i64) (.lit 10000) (.var 2))], [], []⟩ ⟨[(.var 1), (.var 0), (.bin (.subW .i64) (.lit 10000) (.var 2)), (.var 6), (.var 7), (.var 8)], [], []⟩ ⟨5, [(.int .i64 (.var 1)), (.int .i64 (.var 0)), (.int .i64 (.bin (.subW .i64) (.lit 10000) (.var 2)))], [], [none], (.tuple [(.agg [(.int .i64 (.var 6)), (.int .i64 (.var 7))]), (.int .i64 (.var 8))]), []⟩
    (.ite (.icmp .eql (.var 8) (.lit 0))
    (.ite (.icmp .eql (.var 6) (.var 3))
     (.ite (.icmp .eql (.var 7) (.var 4))
      (.ite (.icmp .leq (.bin .minI (.var 0) (.var 1)) (.var 3))
       (.ite (.icmp .leq (.var 3) (.var 4))
        (.ite (.icmp .leq (.var 4) (.bin .maxI (.var 0) (.var 1)))
         (.ite (.icmp .eql (.var 0) (.var 1))
          (.ret ⟨[], [(.and (.icmp .eql (.var 3) (.var 0)) (.icmp .eql (.var 4) (.var 0)))], []⟩ [])
          (.call glass_ShareFor_s ⟨[(.var 0), (.var 1), (.var 4)], [], []⟩ ⟨[(.var 0), (.var 1), (.var 4), (.var 9), (.var 10), (.var 11)], [], []⟩ ⟨7, [(.int .i64 (.var 0)), (.int .i64 (.var 1)), (.int .i64 (.var 4))], [], [none, none], (.tuple [(.agg [(.int .i64 (.var 9)), (.int .i64 (.var 10))]), (.int .i64 (.var 11))]), []⟩
           (.call glass_ShareFor_s ⟨[(.var 0), (.var 1), (.bin .maxI (.bin (.subW .i64) (.var 4) (.lit 1)) (.bin .minI (.var 0) (.var 1)))], [], []⟩ ⟨[(.var 0), (.var 1), (.bin .maxI (.bin (.subW .i64) (.var 4) (.lit 1)) (.bin .minI (.var 0) (.var 1))), (.var 12), (.var 13), (.var 14)], [], []⟩ ⟨7, [(.int .i64 (.var 0)), (.int .i64 (.var 1)), (.int .i64 (.bin .maxI (.bin (.subW .i64) (.var 4) (.lit 1)) (.bin .minI (.var 0) (.var 1))))], [], [none, none, none], (.tuple [(.agg [(.int .i64 (.var 12)), (.int .i64 (.var 13))]), (.int .i64 (.var 14))]), []⟩
           (.ite (.icmp .eql (.var 11) (.lit 0))
           (.ite (.icmp .eql (.var 14) (.lit 0))
            (.ite (.icmp .leq (.bin .minI (.var 12) (.var 9)) (.var 2))
             (.ret ⟨[], [(.icmp .leq (.var 2) (.bin .maxI (.var 13) (.var 10)))], []⟩ [])
             (.ret ⟨[], [(.lit false)], []⟩ []))
            (.ret ⟨[], [(.lit false)], []⟩ []))
           (.ret ⟨[], [(.lit false)], []⟩ [])))))
         (.ret ⟨[], [(.lit false)], []⟩ []))
        (.ret ⟨[], [(.lit false)], []⟩ []))
       (.ret ⟨[], [(.lit false)], []⟩ []))
      (.ret ⟨[], [(.lit false)], []⟩ []))
     (.ret ⟨[], [(.lit false)], []⟩ []))
    (.ret ⟨[], [(.lit false)], []⟩ [])))
   (.ite (.icmp .eql (.var 5) (.lit 2))
    (.ret ⟨[], [(.and (.icmp .eql (.var 3) (.lit 0)) (.icmp .eql (.var 4) (.lit 0)))], []⟩ [])
    (.ret ⟨[], [(.lit false)], []⟩ []))))
  (.ret ⟨[], [(.lit false)], []⟩ [])))
theorem gmd {x0 x1 x2 : Int} (r0 : (-9223372036854775808) ≤ x0 ∧ x0 ≤ 9223372036854775807) (r1 : (-9223372036854775808) ≤ x1 ∧ x1 ≤ 9223372036854775807) (r2 : (-9223372036854775808) ≤ x2 ∧ x2 ≤ 9223372036854775807) {R : Bool → Prop}
  (H : (∃ u0 : Bool, Spec Try.prog etalonlaw02_awake_s ⟨[], [], []⟩ [] [u0] [] ∧
   ((u0 = true → (∃ v3 : Int, ∃ v4 : Int, ∃ v5 : Int, Spec Try.prog glass_MixedBetween_s ⟨[x0, x1, x2], [], []⟩ [v3, v4, v5] [] [] ∧
    ((((v5 : Int) == 0) = true → (∃ v6 : Int, ∃ v7 : Int, ∃ v8 : Int, Spec Try.prog glass_MixedBetween_s ⟨[x1, x0, IntKind.i64.wrap (10000 - x2)], [], []⟩ [v6, v7, v8] [] [] ∧
     ((((v8 : Int) == 0) = true → ((((v6 : Int) == v3) = true → ((((v7 : Int) == v4) = true → ((decide (((if (x1 : Int) < x0 then x1 else x0) : Int) ≤ v3) = true → ((decide ((v3 : Int) ≤ v4) = true → ((decide ((v4 : Int) ≤ (if (x1 : Int) > x0 then x1 else x0)) = true → ((((x0 : Int) == x1) = true → R ((((v3 : Int) == x0) && ((v4 : Int) == x0)))) ∧
           (((x0 : Int) == x1) = false → (∃ v9 : Int, ∃ v10 : Int, ∃ v11 : Int, Spec Try.prog glass_ShareFor_s ⟨[x0, x1, v4], [], []⟩ [v9, v10, v11] [] [] ∧
            (∃ v12 : Int, ∃ v13 : Int, ∃ v14 : Int, Spec Try.prog glass_ShareFor_s ⟨[x0, x1, (if ((if (x1 : Int) < x0 then x1 else x0) : Int) > IntKind.i64.wrap (v4 - 1) then (if (x1 : Int) < x0 then x1 else x0) else IntKind.i64.wrap (v4 - 1))], [], []⟩ [v12, v13, v14] [] [] ∧
            ((((v11 : Int) == 0) = true → ((((v14 : Int) == 0) = true → ((decide (((if (v9 : Int) < v12 then v9 else v12) : Int) ≤ x2) = true → R (decide ((x2 : Int) ≤ (if (v10 : Int) > v13 then v10 else v13)))) ∧
              (decide (((if (v9 : Int) < v12 then v9 else v12) : Int) ≤ x2) = false → R (false)))) ∧
             (((v14 : Int) == 0) = false → R (false)))) ∧
            (((v11 : Int) == 0) = false → R (false)))))))) ∧
          (decide ((v4 : Int) ≤ (if (x1 : Int) > x0 then x1 else x0)) = false → R (false)))) ∧
         (decide ((v3 : Int) ≤ v4) = false → R (false)))) ∧
        (decide (((if (x1 : Int) < x0 then x1 else x0) : Int) ≤ v3) = false → R (false)))) ∧
       (((v7 : Int) == v4) = false → R (false)))) ∧
      (((v6 : Int) == v3) = false → R (false)))) ∧
     (((v8 : Int) == 0) = false → R (false))))) ∧
    (((v5 : Int) == 0) = false → ((((v5 : Int) == 2) = true → R ((((v3 : Int) == 0) && ((v4 : Int) == 0)))) ∧
     (((v5 : Int) == 2) = false → R (false))))))) ∧
   (u0 = false → R (false))))) :
    ∃ u0 : Bool, R u0 ∧ Spec Try.prog etalonlaw02_GlassMixed_s ⟨[x0, x1, x2], [], []⟩ [] [u0] [] :=
  Eq.mp (by kernel_rfl) (exV_of (K := fun d => app3 etalonlaw02_GlassMixed_s.out R d ∧ Spec Try.prog etalonlaw02_GlassMixed_s ⟨[x0, x1, x2], [], []⟩ d.1 d.2.1 d.2.2) (tree_at mixed names S1_ok (S := S1 Try.prog) (lf := 100000) (d := 60) etalonlaw02_GlassMixed_s gmd_t { ivs := [(0, (-9223372036854775808), 9223372036854775807), (1, (-9223372036854775808), 9223372036854775807), (2, (-9223372036854775808), 9223372036854775807)], aivs := [] } ⟨[x0, x1, x2], [], []⟩ rfl (by kernel_rfl) (by kernel_rfl) (by kernel_rfl) ⟨(fc r0 (fc r1 (fc r2 fz))), fz, fz, fz⟩ (R := fun d => app3 etalonlaw02_GlassMixed_s.out R d) (Eq.mp (by kernel_rfl) H)))

theorem mixedLaw {x0 x1 x2 : Int} (r0 : (-9223372036854775808) ≤ x0 ∧ x0 ≤ 9223372036854775807) (r1 : (-9223372036854775808) ≤ x1 ∧ x1 ≤ 9223372036854775807) (r2 : (-9223372036854775808) ≤ x2 ∧ x2 ≤ 9223372036854775807) :

    Spec Try.prog etalonlaw02_GlassMixed_s ⟨[x0, x1, x2], [], []⟩ [] [true] [] := by

  obtain ⟨a0, rfl, ha⟩ := awake

  obtain ⟨u, rfl, hs⟩ : ∃ u0 : Bool, u0 = true ∧ Spec Try.prog etalonlaw02_GlassMixed_s ⟨[x0, x1, x2], [], []⟩ [] [u0] [] := by

    by_cases g : (5000 ≤ x0 ∧ x0 ≤ 80000) ∧ (5000 ≤ x1 ∧ x1 ≤ 80000) ∧ 0 ≤ x2 ∧ x2 ≤ 10000

    · obtain ⟨g0, g1, g2⟩ := g

      have hm := mixed_s g0 g1 g2

      have hw := mixed_s (s := 10000 - x2) g1 g0 (by omega)

      rw [mixL_swap, mixH_swap] at hw

      have ew : IntKind.i64.wrap (10000 - x2) = 10000 - x2 := wrapS (by omega)

      have key : min x0 x1 ≤ mixL x0 x1 x2 ∧ mixL x0 x1 x2 ≤ mixH x0 x1 x2 ∧ mixH x0 x1 x2 ≤ max x0 x1 ∧ (x0 = x1 → mixL x0 x1 x2 = x0 ∧ mixH x0 x1 x2 = x0) ∧

          (x0 ≠ x1 → (shE x0 x1 (mixH x0 x1 x2) = 0 ∧ shE x0 x1 (under (mixH x0 x1 x2) (min x0 x1)) = 0) ∧

            ((shL x0 x1 (mixH x0 x1 x2) ≤ x2 ∧ x2 ≤ shH x0 x1 (under (mixH x0 x1 x2) (min x0 x1))) ∨ (shL x0 x1 (under (mixH x0 x1 x2) (min x0 x1)) ≤ x2 ∧ x2 ≤ shH x0 x1 (mixH x0 x1 x2)))) := by

        rcases Int.lt_trichotomy x0 x1 with h | h | h

        · obtain ⟨m1, m2, m3, _⟩ := Gm.mixed g0.1 (Int.le_of_lt h) g1.2 g2.1 g2.2

          obtain ⟨s1, s2, s3, s4, s5, s6⟩ := share_lt g0.1 h g1.2 g2.1 g2.2

          have emin : min x0 x1 = x0 := by omega

          have emax : max x0 x1 = x1 := by omega

          have hlt := sq_lt (x := x0) (y := x1) (by omega) h

          have eA (m : Int) (h1 : x0 ≤ m) (h2 : m ≤ x1) : shE x0 x1 m = 0 := by unfold shE; rw [if_neg (by omega), if_neg (by omega), if_neg (by omega)]

          have eL (m : Int) (h1 : x0 ≤ m) (h2 : m ≤ x1) : shL x0 x1 m = 10000 * (x1 * x1 - m * m) / (x1 * x1 - x0 * x0) := by

            unfold shL; rw [if_neg (by rw [eA m h1 h2]; omega), if_neg (by omega), show 0 - (m * m - x1 * x1) = x1 * x1 - m * m by omega, show 0 - (x0 * x0 - x1 * x1) = x1 * x1 - x0 * x0 by omega]

          have eH (m : Int) (h1 : x0 ≤ m) (h2 : m ≤ x1) : shH x0 x1 m = cdiv (10000 * (x1 * x1 - m * m)) (x1 * x1 - x0 * x0) := by

            unfold shH; rw [if_neg (by rw [eA m h1 h2]; omega), if_neg (by omega), show 0 - (m * m - x1 * x1) = x1 * x1 - m * m by omega, show 0 - (x0 * x0 - x1 * x1) = x1 * x1 - x0 * x0 by omega]

          rw [emin, emax]

          exact ⟨m1, m2, m3, fun hh => absurd hh (by omega), fun _ => ⟨⟨eA _ s1 s2, eA _ s3 s4⟩, .inl ⟨by rw [eL _ s1 s2]; exact s5, by rw [eH _ s3 s4]; exact s6⟩⟩⟩

        · subst h

          obtain ⟨e1, e2⟩ := mixed_eq (a := x0) (s := x2) g0.1 g0.2 g2.1 g2.2

          exact ⟨by omega, by omega, by omega, fun _ => ⟨e1, e2⟩, fun hh => absurd rfl hh⟩

        · obtain ⟨m1, m2, m3, _⟩ := Gm.mixed (s := 10000 - x2) g1.1 (Int.le_of_lt h) g0.2 (by omega) (by omega)

          rw [mixL_swap] at m1 m2; rw [mixH_swap] at m2 m3

          obtain ⟨s1, s2, s3, s4, s5, s6⟩ := share_gt h g1.1 g0.2 g2.1 g2.2

          have emin : min x0 x1 = x1 := by omega

          have emax : max x0 x1 = x0 := by omega

          have hlt := sq_lt (x := x1) (y := x0) (by omega) h

          have eA (m : Int) (h1 : x1 ≤ m) (h2 : m ≤ x0) : shE x0 x1 m = 0 := by unfold shE; rw [if_neg (by omega), if_neg (by omega), if_neg (by omega)]

          have eL (m : Int) (h1 : x1 ≤ m) (h2 : m ≤ x0) : shL x0 x1 m = 10000 * (m * m - x1 * x1) / (x0 * x0 - x1 * x1) := by

            unfold shL; rw [if_neg (by rw [eA m h1 h2]; omega), if_pos (by omega)]

          have eH (m : Int) (h1 : x1 ≤ m) (h2 : m ≤ x0) : shH x0 x1 m = cdiv (10000 * (m * m - x1 * x1)) (x0 * x0 - x1 * x1) := by

            unfold shH; rw [if_neg (by rw [eA m h1 h2]; omega), if_pos (by omega)]

          rw [emin, emax]

          exact ⟨m1, m2, m3, fun hh => absurd hh (by omega), fun _ => ⟨⟨eA _ s1 s2, eA _ s3 s4⟩, .inr ⟨by rw [eL _ s3 s4]; exact s5, by rw [eH _ s1 s2]; exact s6⟩⟩⟩

      obtain ⟨k0, k1, k2, k3, k4⟩ := key

      obtain ⟨c1, c2, c3, _⟩ := mixed_any g0 g1 g2

      have eu : (if min x0 x1 > IntKind.i64.wrap (mixH x0 x1 x2 - 1) then min x0 x1 else IntKind.i64.wrap (mixH x0 x1 x2 - 1)) = under (mixH x0 x1 x2) (min x0 x1) := by rw [wrapS (by omega)]; rfl

      have hu : 0 ≤ under (mixH x0 x1 x2) (min x0 x1) ∧ under (mixH x0 x1 x2) (min x0 x1) ≤ 80000 := by unfold under; split <;> omega

      refine gmd r0 r1 r2 (R := (· = true)) ⟨true, ha, fun _ => ⟨_, _, _, hm, fun _ => ⟨_, _, _, by rw [ew]; exact hw, ?_⟩, fun h => by simp at h⟩, fun h => by cases h⟩

      rw [min_ite, max_ite, eu]

      generalize mixL x0 x1 x2 = L at *

      generalize under (mixH x0 x1 x2) (min x0 x1) = U at *

      generalize mixH x0 x1 x2 = H at *

      simp only [beq_self_eq_true, true_implies, Bool.true_eq_false, false_implies, and_true, decide_eq_true_eq, decide_eq_false_iff_not, beq_iff_eq, beq_eq_false_iff_ne]

      refine ⟨fun _ => ⟨fun _ => ⟨fun _ => ⟨fun e => ?_, fun e => ⟨_, _, _, share_s r0 r1 (by omega), _, _, _, share_s r0 r1 (by omega), ?_⟩⟩, fun h => absurd k2 h⟩, fun h => absurd k1 h⟩, fun h => absurd k0 h⟩

      · simp [k3 e]

      · obtain ⟨⟨e1, e2⟩, e3⟩ := k4 e

        refine ⟨fun _ => ⟨fun _ => ⟨fun _ => ?_, fun h => ?_⟩, fun h => absurd e2 h⟩, fun h => absurd e1 h⟩

        · split <;> omega

        · exfalso; apply h; split <;> omega

    · exact gmd r0 r1 r2 (R := (· = true)) ⟨true, ha, fun _ => ⟨_, _, _, mixed_no r0 r1 r2 g, fun h => by simp at h, fun _ => ⟨fun _ => by simp, fun h => by simp at h⟩⟩, fun h => by cases h⟩

  exact hs

end Go.Proofs.Ytmodchmadbkfbaa.Ev
