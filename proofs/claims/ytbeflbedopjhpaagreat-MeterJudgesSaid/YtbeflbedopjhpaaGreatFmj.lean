/- MeterJudges. -/
import Derived.Test.YtbeflbedopjhpaaGreatFjr
import Derived.Test.YtbeflbedopjhpaaGreatFjd
import Derived.Test.YtbeflbedopjhpaaGreatFaw6
import Derived.Test.YtbeflbedopjhpaaGreatFnm
namespace Go.Proofs.YtbeflbedopjhpaaGreat.Ev
set_option linter.unusedSimpArgs false
open Go Go.RowKit
set_option linter.unusedVariables false
set_option maxRecDepth 100000
def etalonlaw06_MeterJudges_s : Sig := ⟨3, ⟨10, 0, 0⟩, ⟨0, 1, 0⟩, [(.agg [(.strn (.var 0)), (.int .i64 (.var 1)), (.int .i64 (.var 2)), (.int .i64 (.var 3)), (.int .i64 (.var 4)), (.int .i64 (.var 5)), (.int .i64 (.var 6)), (.int .i64 (.var 7)), (.int .i64 (.var 8)), (.int .i64 (.var 9))])], [], (.bool (.var 0)), []⟩

def mj_t : Tr :=
  (.call etalonlaw06_awake_s ⟨[], [], []⟩ ⟨[], [(.var 0)], []⟩ ⟨4, [], [], [none], (.bool (.var 0)), []⟩
  (.ite (.var 0)
  (.ite (.icmp .leq (.bin .sLen (.var 0) (.lit 0)) (.lit 30))
   (.call meter_DegreeOf_s ⟨[(.var 0), (.var 1), (.var 2), (.var 3), (.var 4), (.var 5), (.var 6), (.var 7), (.var 8), (.var 9)], [], []⟩ ⟨[(.var 0), (.var 1), (.var 2), (.var 3), (.var 4), (.var 5), (.var 6), (.var 7), (.var 8), (.var 9), (.var 10), (.var 11), (.var 12)], [], []⟩ ⟨5, [(.agg [(.strn (.var 0)), (.int .i64 (.var 1)), (.int .i64 (.var 2)), (.int .i64 (.var 3)), (.int .i64 (.var 4)), (.int .i64 (.var 5)), (.int .i64 (.var 6)), (.int .i64 (.var 7)), (.int .i64 (.var 8)), (.int .i64 (.var 9))])], [], [none], (.tuple [(.agg [(.int .i64 (.var 10)), (.int .i64 (.var 11))]), (.int .i64 (.var 12))]), []⟩
    (.call meter_Possible_s ⟨[(.var 0), (.var 1), (.var 2), (.var 3), (.var 4), (.var 5), (.var 6), (.var 7), (.var 8), (.var 9)], [], []⟩ ⟨[(.var 0), (.var 1), (.var 2), (.var 3), (.var 4), (.var 5), (.var 6), (.var 7), (.var 8), (.var 9), (.var 13), (.var 14)], [], []⟩ ⟨6, [(.agg [(.strn (.var 0)), (.int .i64 (.var 1)), (.int .i64 (.var 2)), (.int .i64 (.var 3)), (.int .i64 (.var 4)), (.int .i64 (.var 5)), (.int .i64 (.var 6)), (.int .i64 (.var 7)), (.int .i64 (.var 8)), (.int .i64 (.var 9))])], [], [none, none], (.tuple [(.int .i64 (.var 13)), (.int .i64 (.var 14))]), []⟩
    (.call meter_PsiOf_s ⟨[(.var 0), (.var 1), (.var 2), (.var 3), (.var 4), (.var 5), (.var 6), (.var 7), (.var 8), (.var 9)], [], []⟩ ⟨[(.var 0), (.var 1), (.var 2), (.var 3), (.var 4), (.var 5), (.var 6), (.var 7), (.var 8), (.var 9), (.var 15), (.var 16), (.var 17)], [], []⟩ ⟨7, [(.agg [(.strn (.var 0)), (.int .i64 (.var 1)), (.int .i64 (.var 2)), (.int .i64 (.var 3)), (.int .i64 (.var 4)), (.int .i64 (.var 5)), (.int .i64 (.var 6)), (.int .i64 (.var 7)), (.int .i64 (.var 8)), (.int .i64 (.var 9))])], [], [none, none], (.tuple [(.agg [(.int .i64 (.var 15)), (.int .i64 (.var 16))]), (.int .i64 (.var 17))]), []⟩
    (.call etalonref06_CheckReading_s ⟨[(.var 0), (.var 1), (.var 2), (.var 3), (.var 4), (.var 5), (.var 6), (.var 7), (.var 8), (.var 9)], [], []⟩ ⟨[(.var 0), (.var 1), (.var 2), (.var 3), (.var 4), (.var 5), (.var 6), (.var 7), (.var 8), (.var 9), (.var 18)], [], []⟩ ⟨8, [(.agg [(.strn (.var 0)), (.int .i64 (.var 1)), (.int .i64 (.var 2)), (.int .i64 (.var 3)), (.int .i64 (.var 4)), (.int .i64 (.var 5)), (.int .i64 (.var 6)), (.int .i64 (.var 7)), (.int .i64 (.var 8)), (.int .i64 (.var 9))])], [], [none, none, none], (.int .i64 (.var 18)), []⟩
    (.call meter_CheckReading_s ⟨[(.var 0), (.var 1), (.var 2), (.var 3), (.var 4), (.var 5), (.var 6), (.var 7), (.var 8), (.var 9)], [], []⟩ ⟨[(.var 0), (.var 1), (.var 2), (.var 3), (.var 4), (.var 5), (.var 6), (.var 7), (.var 8), (.var 9), (.var 19)], [], []⟩ ⟨9, [(.agg [(.strn (.var 0)), (.int .i64 (.var 1)), (.int .i64 (.var 2)), (.int .i64 (.var 3)), (.int .i64 (.var 4)), (.int .i64 (.var 5)), (.int .i64 (.var 6)), (.int .i64 (.var 7)), (.int .i64 (.var 8)), (.int .i64 (.var 9))])], [], [none, none, none], (.int .i64 (.var 19)), []⟩
    (.ite (.icmp .eql (.var 19) (.var 18))
    (.ite (.icmp .eql (.var 18) (.lit 0))
     (.ite (.icmp .eql (.var 12) (.lit 0))
      (.call etalonref06_DegreeOf_s ⟨[(.var 0), (.var 1), (.var 2), (.var 3), (.var 4), (.var 5), (.var 6), (.var 7), (.var 8), (.var 9)], [], []⟩ ⟨[(.var 0), (.var 1), (.var 2), (.var 3), (.var 4), (.var 5), (.var 6), (.var 7), (.var 8), (.var 9), (.var 20), (.var 21)], [], []⟩ ⟨10, [(.agg [(.strn (.var 0)), (.int .i64 (.var 1)), (.int .i64 (.var 2)), (.int .i64 (.var 3)), (.int .i64 (.var 4)), (.int .i64 (.var 5)), (.int .i64 (.var 6)), (.int .i64 (.var 7)), (.int .i64 (.var 8)), (.int .i64 (.var 9))])], [], [none, none, none], (.agg [(.int .i64 (.var 20)), (.int .i64 (.var 21))]), []⟩
       (.ite (.icmp .eql (.var 10) (.var 20))
       (.ite (.icmp .eql (.var 11) (.var 21))
        (.ite (.icmp .eql (.var 14) (.lit 0))
         (.call etalonref06_Possible_s ⟨[(.var 0), (.var 1), (.var 2), (.var 3), (.var 4), (.var 5), (.var 6), (.var 7), (.var 8), (.var 9)], [], []⟩ ⟨[(.var 0), (.var 1), (.var 2), (.var 3), (.var 4), (.var 5), (.var 6), (.var 7), (.var 8), (.var 9), (.var 22)], [], []⟩ ⟨11, [(.agg [(.strn (.var 0)), (.int .i64 (.var 1)), (.int .i64 (.var 2)), (.int .i64 (.var 3)), (.int .i64 (.var 4)), (.int .i64 (.var 5)), (.int .i64 (.var 6)), (.int .i64 (.var 7)), (.int .i64 (.var 8)), (.int .i64 (.var 9))])], [], [none, none, none], (.int .i64 (.var 22)), []⟩
          (.ite (.icmp .eql (.var 13) (.var 22))
          (.ite (.icmp .eql (.var 17) (.lit 0))
           (.call etalonref06_PsiOf_s ⟨[(.var 0), (.var 1), (.var 2), (.var 3), (.var 4), (.var 5), (.var 6), (.var 7), (.var 8), (.var 9)], [], []⟩ ⟨[(.var 0), (.var 1), (.var 2), (.var 3), (.var 4), (.var 5), (.var 6), (.var 7), (.var 8), (.var 9), (.var 23), (.var 24)], [], []⟩ ⟨12, [(.agg [(.strn (.var 0)), (.int .i64 (.var 1)), (.int .i64 (.var 2)), (.int .i64 (.var 3)), (.int .i64 (.var 4)), (.int .i64 (.var 5)), (.int .i64 (.var 6)), (.int .i64 (.var 7)), (.int .i64 (.var 8)), (.int .i64 (.var 9))])], [], [none, none, none], (.agg [(.int .i64 (.var 23)), (.int .i64 (.var 24))]), []⟩
            (.ite (.icmp .eql (.var 15) (.var 23))
            (.ite (.icmp .eql (.var 16) (.var 24))
             (.ite (.icmp .leq (.lit 0) (.var 15))
              (.ite (.icmp .leq (.var 15) (.var 16))
               (.ret ⟨[], [(.icmp .leq (.var 16) (.lit 1024))], []⟩ [])
               (.ret ⟨[], [(.lit false)], []⟩ []))
              (.ret ⟨[], [(.lit false)], []⟩ []))
             (.ret ⟨[], [(.lit false)], []⟩ []))
            (.ret ⟨[], [(.lit false)], []⟩ [])))
           (.ret ⟨[], [(.lit false)], []⟩ []))
          (.ret ⟨[], [(.lit false)], []⟩ [])))
         (.ret ⟨[], [(.lit false)], []⟩ []))
        (.ret ⟨[], [(.lit false)], []⟩ []))
       (.ret ⟨[], [(.lit false)], []⟩ [])))
      (.ret ⟨[], [(.lit false)], []⟩ []))
     (.ite (.icmp .eql (.var 12) (.var 18))
      (.ite (.icmp .eql (.var 14) (.var 18))
       (.ite (.icmp .eql (.var 17) (.var 18))
        (.ite (.icmp .eql (.var 10) (.lit 0))
         (.ite (.icmp .eql (.var 11) (.lit 0))
          (.ite (.icmp .eql (.var 13) (.lit 0))
           (.ret ⟨[], [(.and (.icmp .eql (.var 15) (.lit 0)) (.icmp .eql (.var 16) (.lit 0)))], []⟩ [])
           (.ret ⟨[], [(.lit false)], []⟩ []))
          (.ret ⟨[], [(.lit false)], []⟩ []))
         (.ret ⟨[], [(.lit false)], []⟩ []))
        (.ret ⟨[], [(.lit false)], []⟩ []))
       (.ret ⟨[], [(.lit false)], []⟩ []))
      (.ret ⟨[], [(.lit false)], []⟩ [])))
    (.ret ⟨[], [(.lit false)], []⟩ [])))))))
   (.ret ⟨[], [(.lit true)], []⟩ []))
  (.ret ⟨[], [(.lit false)], []⟩ [])))
theorem mj {x0 x1 x2 x3 x4 x5 x6 x7 x8 x9 : Int} (r1 : (-9223372036854775808) ≤ x1 ∧ x1 ≤ 9223372036854775807) (r2 : (-9223372036854775808) ≤ x2 ∧ x2 ≤ 9223372036854775807) (r3 : (-9223372036854775808) ≤ x3 ∧ x3 ≤ 9223372036854775807) (r4 : (-9223372036854775808) ≤ x4 ∧ x4 ≤ 9223372036854775807) (r5 : (-9223372036854775808) ≤ x5 ∧ x5 ≤ 9223372036854775807) (r6 : (-9223372036854775808) ≤ x6 ∧ x6 ≤ 9223372036854775807) (r7 : (-9223372036854775808) ≤ x7 ∧ x7 ≤ 9223372036854775807) (r8 : (-9223372036854775808) ≤ x8 ∧ x8 ≤ 9223372036854775807) (r9 : (-9223372036854775808) ≤ x9 ∧ x9 ≤ 9223372036854775807) {R : Bool → Prop}
  (H : (∃ u0 : Bool, Spec Tryz.prog etalonlaw06_awake_s ⟨[], [], []⟩ [] [u0] [] ∧
   ((u0 = true → ((decide (((NOp.den .sLen x0 0) : Int) ≤ 30) = true → (∃ v10 : Int, ∃ v11 : Int, ∃ v12 : Int, Spec Tryz.prog meter_DegreeOf_s ⟨[x0, x1, x2, x3, x4, x5, x6, x7, x8, x9], [], []⟩ [v10, v11, v12] [] [] ∧
     (∃ v13 : Int, ∃ v14 : Int, Spec Tryz.prog meter_Possible_s ⟨[x0, x1, x2, x3, x4, x5, x6, x7, x8, x9], [], []⟩ [v13, v14] [] [] ∧
     (∃ v15 : Int, ∃ v16 : Int, ∃ v17 : Int, Spec Tryz.prog meter_PsiOf_s ⟨[x0, x1, x2, x3, x4, x5, x6, x7, x8, x9], [], []⟩ [v15, v16, v17] [] [] ∧
     (∃ v18 : Int, Spec Tryz.prog etalonref06_CheckReading_s ⟨[x0, x1, x2, x3, x4, x5, x6, x7, x8, x9], [], []⟩ [v18] [] [] ∧
     (∃ v19 : Int, Spec Tryz.prog meter_CheckReading_s ⟨[x0, x1, x2, x3, x4, x5, x6, x7, x8, x9], [], []⟩ [v19] [] [] ∧
     ((((v19 : Int) == v18) = true → ((((v18 : Int) == 0) = true → ((((v12 : Int) == 0) = true → (∃ v20 : Int, ∃ v21 : Int, Spec Tryz.prog etalonref06_DegreeOf_s ⟨[x0, x1, x2, x3, x4, x5, x6, x7, x8, x9], [], []⟩ [v20, v21] [] [] ∧
        ((((v10 : Int) == v20) = true → ((((v11 : Int) == v21) = true → ((((v14 : Int) == 0) = true → (∃ v22 : Int, Spec Tryz.prog etalonref06_Possible_s ⟨[x0, x1, x2, x3, x4, x5, x6, x7, x8, x9], [], []⟩ [v22] [] [] ∧
           ((((v13 : Int) == v22) = true → ((((v17 : Int) == 0) = true → (∃ v23 : Int, ∃ v24 : Int, Spec Tryz.prog etalonref06_PsiOf_s ⟨[x0, x1, x2, x3, x4, x5, x6, x7, x8, x9], [], []⟩ [v23, v24] [] [] ∧
             ((((v15 : Int) == v23) = true → ((((v16 : Int) == v24) = true → ((decide ((0 : Int) ≤ v15) = true → ((decide ((v15 : Int) ≤ v16) = true → R (decide ((v16 : Int) ≤ 1024))) ∧
                (decide ((v15 : Int) ≤ v16) = false → R (false)))) ∧
               (decide ((0 : Int) ≤ v15) = false → R (false)))) ∧
              (((v16 : Int) == v24) = false → R (false)))) ∧
             (((v15 : Int) == v23) = false → R (false))))) ∧
            (((v17 : Int) == 0) = false → R (false)))) ∧
           (((v13 : Int) == v22) = false → R (false))))) ∧
          (((v14 : Int) == 0) = false → R (false)))) ∧
         (((v11 : Int) == v21) = false → R (false)))) ∧
        (((v10 : Int) == v20) = false → R (false))))) ∧
       (((v12 : Int) == 0) = false → R (false)))) ∧
      (((v18 : Int) == 0) = false → ((((v12 : Int) == v18) = true → ((((v14 : Int) == v18) = true → ((((v17 : Int) == v18) = true → ((((v10 : Int) == 0) = true → ((((v11 : Int) == 0) = true → ((((v13 : Int) == 0) = true → R ((((v15 : Int) == 0) && ((v16 : Int) == 0)))) ∧
            (((v13 : Int) == 0) = false → R (false)))) ∧
           (((v11 : Int) == 0) = false → R (false)))) ∧
          (((v10 : Int) == 0) = false → R (false)))) ∧
         (((v17 : Int) == v18) = false → R (false)))) ∧
        (((v14 : Int) == v18) = false → R (false)))) ∧
       (((v12 : Int) == v18) = false → R (false)))))) ∧
     (((v19 : Int) == v18) = false → R (false))))))))) ∧
    (decide (((NOp.den .sLen x0 0) : Int) ≤ 30) = false → R (true)))) ∧
   (u0 = false → R (false))))) :
    ∃ u0 : Bool, R u0 ∧ Spec Tryz.prog etalonlaw06_MeterJudges_s ⟨[x0, x1, x2, x3, x4, x5, x6, x7, x8, x9], [], []⟩ [] [u0] [] :=
  Eq.mp (by kernel_rfl) (exV_of (K := fun d => app3 etalonlaw06_MeterJudges_s.out R d ∧ Spec Tryz.prog etalonlaw06_MeterJudges_s ⟨[x0, x1, x2, x3, x4, x5, x6, x7, x8, x9], [], []⟩ d.1 d.2.1 d.2.2) (tree_at mixed names S1_ok (S := S1 Tryz.prog) (lf := 100000) (d := 60) etalonlaw06_MeterJudges_s mj_t { ivs := [(1, (-9223372036854775808), 9223372036854775807), (2, (-9223372036854775808), 9223372036854775807), (3, (-9223372036854775808), 9223372036854775807), (4, (-9223372036854775808), 9223372036854775807), (5, (-9223372036854775808), 9223372036854775807), (6, (-9223372036854775808), 9223372036854775807), (7, (-9223372036854775808), 9223372036854775807), (8, (-9223372036854775808), 9223372036854775807), (9, (-9223372036854775808), 9223372036854775807)], aivs := [] } ⟨[x0, x1, x2, x3, x4, x5, x6, x7, x8, x9], [], []⟩ rfl (by kernel_rfl) (by kernel_rfl) (by kernel_rfl) ⟨(fc r1 (fc r2 (fc r3 (fc r4 (fc r5 (fc r6 (fc r7 (fc r8 (fc r9 fz))))))))), fz, fz, fz⟩ (R := fun d => app3 etalonlaw06_MeterJudges_s.out R d) (Eq.mp (by kernel_rfl) H)))

theorem psHi_rng (l : Int) : ∀ n s : Nat, n + s ≤ 1025 → 0 ≤ psHi l n s ∧ psHi l n s ≤ 1024

  | 0, s, _ => by unfold psHi; omega

  | n + 1, s, h => by

    unfold psHi; split

    · omega

    · exact psHi_rng l n (s + 1) (by omega)

theorem rpsi_s {x0 x1 x2 x3 x4 x5 x6 x7 x8 x9 : Int} (r1 : I64 x1) (r2 : I64 x2) (r3 : I64 x3) (r4 : I64 x4) (r5 : I64 x5) (r6 : I64 x6) (r7 : I64 x7) (r8 : I64 x8) (r9 : I64 x9) :

    Spec Tryz.prog etalonref06_PsiOf_s ⟨[x0, x1, x2, x3, x4, x5, x6, x7, x8, x9], [], []⟩ [psLo x5 1025, psHi x4 1025 0] [] [] := by

  have cosine : ∀ n : Nat, n ≤ 1024 → ∃ v13 v14 v15 v16 : Int, Spec Tryz.prog etalonref01_Unit_s ⟨[(n : Int), 2048], [], []⟩ [v13, v14, v15, v16] [] [] ∧ ∃ v19 v20 : Int, Spec Tryz.prog etalonref01_PartsOf_s ⟨[v13, v14, v15], [], []⟩ [uX n - uR n, uX n + uR n, v19, v20] [] [] := fun n hn => by

    obtain ⟨b1, b2, _⟩ := unit_s (psi := n) (by omega)

    have hr := uR_rng n

    exact ⟨_, _, _, _, runit_s (by omega), _, _, rparts_s (by omega) (by omega) (by omega)⟩

  refine two_of (rps r1 r2 r3 r4 r5 r6 r7 r8 r9 (R := fun a b => a = psLo x5 1025 ∧ b = psHi x4 1025 0) ?_)

  simp only [decide_eq_true_eq, decide_eq_false_iff_not]

  refine ⟨fun i lo => ∃ n : Nat, i = n ∧ n ≤ 1025 ∧ lo = psLo x5 n, fun i _ => (1025 - i).toNat, ⟨0, rfl, by omega, rfl⟩, ?_⟩

  rintro i lo ⟨n, rfl, hn, rfl⟩

  have hlo := psLo_rng x5 n hn

  refine ⟨by omega, by omega, fun h9 => ?_, fun h9 => ⟨by omega, fun i hi => ∃ n : Nat, i = (n : Int) - 1 ∧ n ≤ 1025 ∧ hi = psHi x4 (1025 - n) n, fun i _ => (i + 1).toNat, ⟨1025, by omega, by omega, rfl⟩, ?_⟩⟩

  · obtain ⟨v13, v14, v15, v16, hU, v19, v20, hP⟩ := cosine n (by omega)

    refine ⟨v13, v14, v15, v16, hU, _, _, v19, v20, hP, fun h7 => ⟨⟨n + 1, by omega, by omega, ?_⟩, by dsimp only; omega⟩, fun h7 => ⟨⟨n + 1, by omega, by omega, ?_⟩, by dsimp only; omega⟩⟩

    · rw [psLo, if_pos h7]

    · rw [psLo, if_neg h7]

  · obtain rfl : n = 1025 := by omega

    rintro i hi ⟨m, rfl, hm, rfl⟩

    have hh := psHi_rng x4 (1025 - m) m (by omega)

    refine ⟨by omega, by omega, fun h8 => ?_, fun h8 => ⟨by omega, rfl, ?_⟩⟩

    · obtain ⟨k, rfl⟩ : ∃ k, m = k + 1 := ⟨m - 1, by omega⟩

      have ek : ((k + 1 : Nat) : Int) - 1 = (k : Int) := by omega

      rw [ek]

      obtain ⟨v13, v14, v15, v16, hU, v19, v20, hP⟩ := cosine k (by omega)

      have es : 1025 - k = (1025 - (k + 1)) + 1 := by omega

      refine ⟨v13, v14, v15, v16, hU, _, _, v19, v20, hP, fun h7 => ⟨⟨k, by omega, by omega, ?_⟩, by dsimp only; omega⟩, fun h7 => ⟨⟨k, by omega, by omega, ?_⟩, by dsimp only; omega⟩⟩

      · rw [es, psHi, if_pos h7]

      · rw [es, psHi, if_neg h7]

    · obtain rfl : m = 0 := by omega

      rfl

set_option maxRecDepth 100000 in

theorem dec_a : ((List.range' 0 256).all fun k => decide (uX (k + 1 : Nat) < uX k)) = true := by decide +kernel

set_option maxRecDepth 100000 in

theorem dec_b : ((List.range' 256 256).all fun k => decide (uX (k + 1 : Nat) < uX k)) = true := by decide +kernel

set_option maxRecDepth 100000 in

theorem dec_c : ((List.range' 512 256).all fun k => decide (uX (k + 1 : Nat) < uX k)) = true := by decide +kernel

set_option maxRecDepth 100000 in

theorem dec_d : ((List.range' 768 256).all fun k => decide (uX (k + 1 : Nat) < uX k)) = true := by decide +kernel

theorem dec_step {k : Nat} (h : k < 1024) : uX (k + 1 : Nat) < uX k := by

  have part : ∀ a : Nat, ((List.range' a 256).all fun k => decide (uX (k + 1 : Nat) < uX k)) = true → a ≤ k → k < a + 256 → uX (k + 1 : Nat) < uX k := fun a ha h1 h2 => by

    have := List.all_eq_true.1 ha k (List.mem_range'_1.2 ⟨h1, h2⟩)

    exact of_decide_eq_true this

  by_cases h1 : k < 256

  · exact part 0 dec_a (by omega) (by omega)

  by_cases h2 : k < 512

  · exact part 256 dec_b (by omega) (by omega)

  by_cases h3 : k < 768

  · exact part 512 dec_c (by omega) (by omega)

  · exact part 768 dec_d (by omega) (by omega)

theorem dec_lt {j : Nat} : ∀ d : Nat, j + d + 1 ≤ 1024 → uX (j + d + 1 : Nat) < uX j

  | 0, h => dec_step (by omega)

  | d + 1, h => by

    have h1 := dec_lt (j := j) d (by omega)

    have h2 := dec_step (k := j + d + 1) (by omega)

    exact Int.lt_trans h2 h1

theorem psLo_is (h : Int) : ∀ n : Nat, psLo h n = 0 ∨ ∃ k : Nat, k < n ∧ psLo h n = k ∧ h ≤ uX k - uR k

  | 0 => .inl rfl

  | n + 1 => by

    unfold psLo; split

    · rename_i g; exact .inr ⟨n, by omega, rfl, g⟩

    · rcases psLo_is h n with e | ⟨k, hk, e, g⟩

      · exact .inl e

      · exact .inr ⟨k, by omega, e, g⟩

theorem psHi_is (l : Int) : ∀ n s : Nat, psHi l n s = 1024 ∨ ∃ k : Nat, k < s + n ∧ psHi l n s = k ∧ uX k + uR k ≤ l

  | 0, _ => .inl rfl

  | n + 1, s => by

    unfold psHi; split

    · rename_i g; exact .inr ⟨s, by omega, rfl, g⟩

    · rcases psHi_is l n (s + 1) with e | ⟨k, hk, e, g⟩

      · exact .inl e

      · exact .inr ⟨k, by omega, e, g⟩

theorem psi_le {l h : Int} (hl : l ≤ h) : psLo h 1025 ≤ psHi l 1025 0 := by

  have r1 := psLo_rng h 1025 (by omega)

  have r2 := psHi_rng l 1025 0 (by omega)

  rcases psLo_is h 1025 with e | ⟨k, hk, e, g⟩

  · omega

  rcases psHi_is l 1025 0 with e' | ⟨j, hj, e', g'⟩

  · omega

  by_cases c : k ≤ j

  · omega

  · exfalso

    have := dec_lt (j := j) (k - j - 1) (by omega)

    rw [show j + (k - j - 1) + 1 = k by omega] at this

    have := uR_rng k

    have := uR_rng j

    omega

theorem judges {x0 x1 x2 x3 x4 x5 x6 x7 x8 x9 : Int} (r1 : I64 x1) (r2 : I64 x2) (r3 : I64 x3) (r4 : I64 x4) (r5 : I64 x5) (r6 : I64 x6) (r7 : I64 x7) (r8 : I64 x8) (r9 : I64 x9) :

    Spec Tryz.prog etalonlaw06_MeterJudges_s ⟨[x0, x1, x2, x3, x4, x5, x6, x7, x8, x9], [], []⟩ [] [true] [] := by

  obtain ⟨a0, rfl, ha⟩ := awake

  obtain ⟨u, _, hp, hr⟩ := isName_s x0

  have cp := checkReading_p hp r1 r2 r3 r4 r5 r6 r7 r8 r9

  have cr := checkReading_r hr r1 r2 r3 r4 r5 r6 r7 r8 r9

  have hpsi := psiOf_s cp r1 r2 r3 r4 r5 r6 r7 r8 r9

  have hrpsi := rpsi_s (x0 := x0) r1 r2 r3 r4 r5 r6 r7 r8 r9

  obtain ⟨w, rfl, hs⟩ : ∃ u0 : Bool, u0 = true ∧ Spec Tryz.prog etalonlaw06_MeterJudges_s ⟨[x0, x1, x2, x3, x4, x5, x6, x7, x8, x9], [], []⟩ [] [u0] [] := by

    have he := @rdE_R u x1 x2 x3 x4 x5 x6 x7 x8 x9

    generalize rdE u x1 x2 x3 x4 x5 x6 x7 x8 x9 = e at *

    by_cases h0 : e = 0

    · subst h0

      obtain ⟨q4, q5, q6, q7, q8, q9, q10⟩ := he rfl

      have d1 := degree_s cp r1 r2 r3 q4 q5 q6 q7 q8 q9

      have d2 := possible_s cp r1 r2 r3 q4 q5 q6 q7 q8 q9

      have d3 := degree_r (x0 := x0) r1 r2 r3 q4 q5 q6 q7 q8 q9

      have k0 := psLo_rng x5 1025 (by omega)

      have k1 := psHi_rng x4 1025 0 (by omega)

      have k2 := psi_le q10

      rw [if_pos rfl, if_pos rfl] at hpsi

      refine mj r1 r2 r3 r4 r5 r6 r7 r8 r9 (R := (· = true)) ⟨true, ha, fun _ => ⟨fun _ => ⟨_, _, _, d1, _, _, d2, _, _, _, hpsi, _, cr, _, cp, ?_⟩, fun _ => rfl⟩, fun h => by cases h⟩

      simp only [beq_self_eq_true, true_implies, Bool.true_eq_false, false_implies, and_true, decide_eq_true_eq, decide_eq_false_iff_not]

      exact ⟨_, _, d3.1, by

        simp only [beq_self_eq_true, true_implies, Bool.true_eq_false, false_implies, and_true, decide_eq_true_eq, decide_eq_false_iff_not]

        exact ⟨_, d3.2, by

          simp only [beq_self_eq_true, true_implies, Bool.true_eq_false, false_implies, and_true, decide_eq_true_eq, decide_eq_false_iff_not]

          exact ⟨_, _, hrpsi, by

            simp only [beq_self_eq_true, true_implies, Bool.true_eq_false, false_implies, and_true, decide_eq_true_eq, decide_eq_false_iff_not]

            exact ⟨fun _ => ⟨fun _ => k1.2, fun h => absurd k2 h⟩, fun h => absurd k0.1 h⟩⟩⟩⟩

    · obtain ⟨d1, d2⟩ := degree_no cp h0 r1 r2 r3 r4 r5 r6 r7 r8 r9

      rw [if_neg h0, if_neg h0] at hpsi

      refine mj r1 r2 r3 r4 r5 r6 r7 r8 r9 (R := (· = true)) ⟨true, ha, fun _ => ⟨fun _ => ⟨_, _, _, d1, _, _, d2, _, _, _, hpsi, _, cr, _, cp, ?_⟩, fun _ => rfl⟩, fun h => by cases h⟩

      simp [h0]

  exact hs

end Go.Proofs.YtbeflbedopjhpaaGreat.Ev
