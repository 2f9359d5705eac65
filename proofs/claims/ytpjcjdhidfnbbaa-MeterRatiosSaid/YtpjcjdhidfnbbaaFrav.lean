/- MeterRatios. -/
import Derived.Test.YtpjcjdhidfnbbaaFrat
import Derived.Test.YtpjcjdhidfnbbaaFaw6
namespace Go.Proofs.Ytpjcjdhidfnbbaa.Ev
set_option linter.unusedSimpArgs false
open Go Go.RowKit
set_option linter.unusedVariables false
set_option maxRecDepth 100000
def etalonlaw06_MeterRatios_s : Sig := ⟨9, ⟨6, 0, 0⟩, ⟨0, 1, 0⟩, [(.agg [(.int .i64 (.var 0)), (.int .i64 (.var 1)), (.int .i64 (.var 2)), (.int .i64 (.var 3)), (.int .i64 (.var 4)), (.int .i64 (.var 5))])], [], (.bool (.var 0)), []⟩

def mr_t : Tr :=
  (.call etalonlaw06_awake_s ⟨[], [], []⟩ ⟨[], [(.var 0)], []⟩ ⟨12, [], [], [none], (.bool (.var 0)), []⟩
  (.ite (.var 0)
  (.call meter_Ratios_s ⟨[(.var 0), (.var 1), (.var 2), (.var 3), (.var 4), (.var 5)], [], []⟩ ⟨[(.var 0), (.var 1), (.var 2), (.var 3), (.var 4), (.var 5), (.var 6), (.var 7), (.var 8), (.var 9), (.var 10)], [], []⟩ ⟨36, [(.agg [(.int .i64 (.var 0)), (.int .i64 (.var 1)), (.int .i64 (.var 2)), (.int .i64 (.var 3)), (.int .i64 (.var 4)), (.int .i64 (.var 5))])], [], [none], (.tuple [(.agg [(.int .i64 (.var 6)), (.int .i64 (.var 7)), (.int .i64 (.var 8)), (.int .i64 (.var 9))]), (.int .i64 (.var 10))]), []⟩
   (.call etalonref06_CheckSums_s ⟨[(.var 0), (.var 1), (.var 2), (.var 3), (.var 4), (.var 5)], [], []⟩ ⟨[(.var 0), (.var 1), (.var 2), (.var 3), (.var 4), (.var 5), (.var 11)], [], []⟩ ⟨37, [(.agg [(.int .i64 (.var 0)), (.int .i64 (.var 1)), (.int .i64 (.var 2)), (.int .i64 (.var 3)), (.int .i64 (.var 4)), (.int .i64 (.var 5))])], [], [none, none], (.int .i64 (.var 11)), []⟩
   (.ite (.icmp .eql (.var 11) (.lit 0))
   (.call etalonref06_Ratios_s ⟨[(.var 0), (.var 1), (.var 2), (.var 3), (.var 4), (.var 5)], [], []⟩ ⟨[(.var 0), (.var 1), (.var 2), (.var 3), (.var 4), (.var 5), (.var 12), (.var 13), (.var 14), (.var 15), (.var 16)], [], []⟩ ⟨38, [(.agg [(.int .i64 (.var 0)), (.int .i64 (.var 1)), (.int .i64 (.var 2)), (.int .i64 (.var 3)), (.int .i64 (.var 4)), (.int .i64 (.var 5))])], [], [none, none, none], (.tuple [(.agg [(.int .i64 (.var 12)), (.int .i64 (.var 13)), (.int .i64 (.var 14)), (.int .i64 (.var 15))]), (.int .i64 (.var 16))]), []⟩
    (.ite (.icmp .eql (.var 10) (.var 16))
    (.ret ⟨[], [(.and (.and (.icmp .eql (.var 6) (.var 12)) (.icmp .eql (.var 7) (.var 13))) (.and (.icmp .eql (.var 8) (.var 14)) (.icmp .eql (.var 9) (.var 15))))], []⟩ [])
    (.ret ⟨[], [(.lit false)], []⟩ [])))
   (.ite (.icmp .eql (.var 10) (.var 11))
    (.ret ⟨[], [(.and (.and (.icmp .eql (.var 6) (.lit 0)) (.icmp .eql (.var 7) (.lit 0))) (.and (.icmp .eql (.var 8) (.lit 0)) (.icmp .eql (.var 9) (.lit 0))))], []⟩ [])
    (.ret ⟨[], [(.lit false)], []⟩ [])))))
  (.ret ⟨[], [(.lit false)], []⟩ [])))
theorem mr {x0 x1 x2 x3 x4 x5 : Int} (r0 : (-9223372036854775808) ≤ x0 ∧ x0 ≤ 9223372036854775807) (r1 : (-9223372036854775808) ≤ x1 ∧ x1 ≤ 9223372036854775807) (r2 : (-9223372036854775808) ≤ x2 ∧ x2 ≤ 9223372036854775807) (r3 : (-9223372036854775808) ≤ x3 ∧ x3 ≤ 9223372036854775807) (r4 : (-9223372036854775808) ≤ x4 ∧ x4 ≤ 9223372036854775807) (r5 : (-9223372036854775808) ≤ x5 ∧ x5 ≤ 9223372036854775807) {R : Bool → Prop}
  (H : (∃ u0 : Bool, Spec Try.prog etalonlaw06_awake_s ⟨[], [], []⟩ [] [u0] [] ∧
   ((u0 = true → (∃ v6 : Int, ∃ v7 : Int, ∃ v8 : Int, ∃ v9 : Int, ∃ v10 : Int, Spec Try.prog meter_Ratios_s ⟨[x0, x1, x2, x3, x4, x5], [], []⟩ [v6, v7, v8, v9, v10] [] [] ∧
    (∃ v11 : Int, Spec Try.prog etalonref06_CheckSums_s ⟨[x0, x1, x2, x3, x4, x5], [], []⟩ [v11] [] [] ∧
    ((((v11 : Int) == 0) = true → (∃ v12 : Int, ∃ v13 : Int, ∃ v14 : Int, ∃ v15 : Int, ∃ v16 : Int, Spec Try.prog etalonref06_Ratios_s ⟨[x0, x1, x2, x3, x4, x5], [], []⟩ [v12, v13, v14, v15, v16] [] [] ∧
     ((((v10 : Int) == v16) = true → R (((((v6 : Int) == v12) && ((v7 : Int) == v13)) && (((v8 : Int) == v14) && ((v9 : Int) == v15))))) ∧
     (((v10 : Int) == v16) = false → R (false))))) ∧
    (((v11 : Int) == 0) = false → ((((v10 : Int) == v11) = true → R (((((v6 : Int) == 0) && ((v7 : Int) == 0)) && (((v8 : Int) == 0) && ((v9 : Int) == 0))))) ∧
     (((v10 : Int) == v11) = false → R (false)))))))) ∧
   (u0 = false → R (false))))) :
    ∃ u0 : Bool, R u0 ∧ Spec Try.prog etalonlaw06_MeterRatios_s ⟨[x0, x1, x2, x3, x4, x5], [], []⟩ [] [u0] [] :=
  Eq.mp (by kernel_rfl) (exV_of (K := fun d => app3 etalonlaw06_MeterRatios_s.out R d ∧ Spec Try.prog etalonlaw06_MeterRatios_s ⟨[x0, x1, x2, x3, x4, x5], [], []⟩ d.1 d.2.1 d.2.2) (tree_at mixed names S1_ok (S := S1 Try.prog) (lf := 100000) (d := 60) etalonlaw06_MeterRatios_s mr_t { ivs := [(0, (-9223372036854775808), 9223372036854775807), (1, (-9223372036854775808), 9223372036854775807), (2, (-9223372036854775808), 9223372036854775807), (3, (-9223372036854775808), 9223372036854775807), (4, (-9223372036854775808), 9223372036854775807), (5, (-9223372036854775808), 9223372036854775807)], aivs := [] } ⟨[x0, x1, x2, x3, x4, x5], [], []⟩ rfl (by kernel_rfl) (by kernel_rfl) (by kernel_rfl) ⟨(fc r0 (fc r1 (fc r2 (fc r3 (fc r4 (fc r5 fz)))))), fz, fz, fz⟩ (R := fun d => app3 etalonlaw06_MeterRatios_s.out R d) (Eq.mp (by kernel_rfl) H)))

theorem meterRatios {x0 x1 x2 x3 x4 x5 : Int} (r0 : (-9223372036854775808) ≤ x0 ∧ x0 ≤ 9223372036854775807) (r1 : (-9223372036854775808) ≤ x1 ∧ x1 ≤ 9223372036854775807) (r2 : (-9223372036854775808) ≤ x2 ∧ x2 ≤ 9223372036854775807) (r3 : (-9223372036854775808) ≤ x3 ∧ x3 ≤ 9223372036854775807) (r4 : (-9223372036854775808) ≤ x4 ∧ x4 ≤ 9223372036854775807) (r5 : (-9223372036854775808) ≤ x5 ∧ x5 ≤ 9223372036854775807) :

    Spec Try.prog etalonlaw06_MeterRatios_s ⟨[x0, x1, x2, x3, x4, x5], [], []⟩ [] [true] [] := by

  obtain ⟨u, rfl, ha⟩ := awake

  obtain ⟨a, b, c, d, hv, hp⟩ := ratios_p r0 r1 r2 r3 r4 r5

  have hk := checkSums_r r0 r1 r2 r3 r4 r5

  obtain ⟨u, rfl, hs⟩ := mr r0 r1 r2 r3 r4 r5 (R := (· = true)) ⟨true, ha, fun _ => ⟨_, _, _, _, _, hp, _, hk, fun h => by

    simp only [beq_iff_eq] at h

    obtain ⟨a', b', c', d', hv', hp'⟩ := ratios_r r0 r1 r2 r3 r4 r5 h

    obtain ⟨rfl, rfl, rfl, rfl⟩ := rtV_uniq hv hv'

    exact ⟨_, _, _, _, _, hp', fun _ => by simp, fun h9 => by simp at h9⟩, fun h => by

    have h' : smE x0 x1 x2 x3 x4 x5 ≠ 0 := by simpa using h

    have e : rtE x0 x1 x2 x3 x4 x5 = smE x0 x1 x2 x3 x4 x5 := by unfold rtE fe; rw [if_neg h']

    unfold rtV at hv

    rw [e, if_neg h'] at hv

    obtain ⟨rfl, rfl, rfl, rfl⟩ := hv

    rw [e]

    exact ⟨fun _ => rfl, fun h9 => by simp at h9⟩⟩, fun h => by cases h⟩

  exact hs

end Go.Proofs.Ytpjcjdhidfnbbaa.Ev
