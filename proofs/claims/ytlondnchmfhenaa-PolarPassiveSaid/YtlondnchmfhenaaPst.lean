/- Stokes vectors: the statement walked. -/
import Derived.Test.YtlondnchmfhenaaPawk
import Derived.Test.YtlondnchmfhenaaPfr
namespace Go.Proofs.Ytlondnchmfhenaa.Ev
set_option linter.unusedSimpArgs false
open Go Go.RowKit
set_option maxRecDepth 100000
def st_t : Tr :=
  (.call 20 [] (.bool (.lit true)) 0 0
  (.ite (.icmp .leq (.lit (-1000000000)) (.var 0))
  (.ite (.icmp .leq (.var 0) (.lit 1000000000))
   (.ite (.icmp .leq (.lit (-1000000000)) (.var 1))
    (.ite (.icmp .leq (.var 1) (.lit 1000000000))
     (.ite (.icmp .leq (.lit (-1000000000)) (.var 2))
      (.ite (.icmp .leq (.var 2) (.lit 1000000000))
       (.ite (.icmp .leq (.lit (-1000000000)) (.var 3))
        (.ite (.icmp .leq (.var 3) (.lit 1000000000))
         (.ite (.icmp .leq (.lit 0) (.var 0))
          (.ite (.icmp .leq (.bin .addI (.bin .addI (.bin .mulI (.var 1) (.var 1)) (.bin .mulI (.var 2) (.var 2))) (.bin .mulI (.var 3) (.var 3))) (.bin .mulI (.var 0) (.var 0)))
           (.ite (.icmp .eql (.var 0) (.lit 0))
            (.leaf (.bool (.lit true)))
            (.call 145 [(.int .i64 (.bin .addI (.bin .addI (.bin .mulI (.var 1) (.var 1)) (.bin .mulI (.var 2) (.var 2))) (.bin .mulI (.var 3) (.var 3)))), (.int .i64 (.bin .mulI (.var 0) (.var 0)))] (.agg [(.int .i64 (.var 4)), (.int .i64 (.var 5))]) 2 0
             (.ite (.icmp .leq (.lit (-1000000000)) (.var 4))
             (.ite (.icmp .leq (.var 4) (.lit 1000000000))
              (.ite (.icmp .leq (.lit (-1000000000)) (.var 5))
               (.ite (.icmp .leq (.var 5) (.lit 1000000000))
                (.call 135 [(.int .i64 (.bin .addI (.bin .addI (.bin .mulI (.var 1) (.var 1)) (.bin .mulI (.var 2) (.var 2))) (.bin .mulI (.var 3) (.var 3)))), (.int .i64 (.bin .mulI (.var 0) (.var 0)))] (.agg [(.int .i64 (.var 4)), (.int .i64 (.var 5))]) 0 0
                 (.ite (.icmp .leq (.lit 1) (.var 5))
                 (.ite (.icmp .leq (.lit 0) (.var 4))
                  (.leaf (.bool (.icmp .leq (.var 4) (.var 5))))
                  (.leaf (.bool (.lit false))))
                 (.leaf (.bool (.lit false)))))
                (.call 135 [(.int .i64 (.bin .addI (.bin .addI (.bin .mulI (.var 1) (.var 1)) (.bin .mulI (.var 2) (.var 2))) (.bin .mulI (.var 3) (.var 3)))), (.int .i64 (.bin .mulI (.var 0) (.var 0)))] (.agg [(.int .i64 (.var 4)), (.int .i64 (.var 5))]) 0 0
                 (.ite (.icmp .leq (.lit 1) (.var 5))
                 (.leaf (.bool (.lit true)))
                 (.leaf (.bool (.lit true))))))
               (.call 135 [(.int .i64 (.bin .addI (.bin .addI (.bin .mulI (.var 1) (.var 1)) (.bin .mulI (.var 2) (.var 2))) (.bin .mulI (.var 3) (.var 3)))), (.int .i64 (.bin .mulI (.var 0) (.var 0)))] (.agg [(.int .i64 (.var 4)), (.int .i64 (.var 5))]) 0 0
                (.ite (.icmp .leq (.lit 1) (.var 5))
                (.ite (.icmp .leq (.var 5) (.lit 1000000000))
                 (.leaf (.bool (.lit false)))
                 (.leaf (.bool (.lit true))))
                (.leaf (.bool (.lit true))))))
              (.call 135 [(.int .i64 (.bin .addI (.bin .addI (.bin .mulI (.var 1) (.var 1)) (.bin .mulI (.var 2) (.var 2))) (.bin .mulI (.var 3) (.var 3)))), (.int .i64 (.bin .mulI (.var 0) (.var 0)))] (.agg [(.int .i64 (.var 4)), (.int .i64 (.var 5))]) 0 0
               (.leaf (.bool (.lit true)))))
             (.call 135 [(.int .i64 (.bin .addI (.bin .addI (.bin .mulI (.var 1) (.var 1)) (.bin .mulI (.var 2) (.var 2))) (.bin .mulI (.var 3) (.var 3)))), (.int .i64 (.bin .mulI (.var 0) (.var 0)))] (.agg [(.int .i64 (.var 4)), (.int .i64 (.var 5))]) 0 0
              (.leaf (.bool (.lit true)))))))
           (.leaf (.bool (.lit true))))
          (.leaf (.bool (.lit true))))
         (.leaf (.bool (.lit true))))
        (.leaf (.bool (.lit true))))
       (.leaf (.bool (.lit true))))
      (.leaf (.bool (.lit true))))
     (.leaf (.bool (.lit true))))
    (.leaf (.bool (.lit true))))
   (.leaf (.bool (.lit true))))
  (.leaf (.bool (.lit true)))))
theorem st {s0 s1 s2 s3 : Int} (r0 : (-9223372036854775808) ≤ s0 ∧ s0 ≤ 9223372036854775807) (r1 : (-9223372036854775808) ≤ s1 ∧ s1 ≤ 9223372036854775807) (r2 : (-9223372036854775808) ≤ s2 ∧ s2 ≤ 9223372036854775807) (r3 : (-9223372036854775808) ≤ s3 ∧ s3 ≤ 9223372036854775807) {Q : Value → Prop} (H :
  ((∀ w, Calls Try.prog 20 #[] w fun e w' => e = .returned (.bool (true)) ∧ Below w.heap.size w w') ∧
   ((decide (((-1000000000) : Int) ≤ s0) = true → ((decide ((s0 : Int) ≤ 1000000000) = true → ((decide (((-1000000000) : Int) ≤ s1) = true → ((decide ((s1 : Int) ≤ 1000000000) = true → ((decide (((-1000000000) : Int) ≤ s2) = true → ((decide ((s2 : Int) ≤ 1000000000) = true → ((decide (((-1000000000) : Int) ≤ s3) = true → ((decide ((s3 : Int) ≤ 1000000000) = true → ((decide ((0 : Int) ≤ s0) = true → ((decide (((((s1 * s1) + (s2 * s2)) + (s3 * s3)) : Int) ≤ (s0 * s0)) = true → ((((s0 : Int) == 0) = true → Q (.bool (true))) ∧
             (((s0 : Int) == 0) = false → (∃ v4 : Int, ∃ v5 : Int, (∀ w, Calls Try.prog 145 #[.int .i64 ((((s1 * s1) + (s2 * s2)) + (s3 * s3))), .int .i64 ((s0 * s0))] w fun e w' => e = .returned (.agg #[.int .i64 (v4), .int .i64 (v5)]) ∧ Below w.heap.size w w') ∧
              ((decide (((-1000000000) : Int) ≤ v4) = true → ((decide ((v4 : Int) ≤ 1000000000) = true → ((decide (((-1000000000) : Int) ≤ v5) = true → ((decide ((v5 : Int) ≤ 1000000000) = true → ((∀ w, Calls Try.prog 135 #[.int .i64 ((((s1 * s1) + (s2 * s2)) + (s3 * s3))), .int .i64 ((s0 * s0))] w fun e w' => e = .returned (.agg #[.int .i64 (v4), .int .i64 (v5)]) ∧ Below w.heap.size w w') ∧
                  ((decide ((1 : Int) ≤ v5) = true → ((decide ((0 : Int) ≤ v4) = true → Q (.bool (decide ((v4 : Int) ≤ v5)))) ∧
                   (decide ((0 : Int) ≤ v4) = false → Q (.bool (false))))) ∧
                  (decide ((1 : Int) ≤ v5) = false → Q (.bool (false)))))) ∧
                 (decide ((v5 : Int) ≤ 1000000000) = false → ((∀ w, Calls Try.prog 135 #[.int .i64 ((((s1 * s1) + (s2 * s2)) + (s3 * s3))), .int .i64 ((s0 * s0))] w fun e w' => e = .returned (.agg #[.int .i64 (v4), .int .i64 (v5)]) ∧ Below w.heap.size w w') ∧
                  ((decide ((1 : Int) ≤ v5) = true → Q (.bool (true))) ∧
                  (decide ((1 : Int) ≤ v5) = false → Q (.bool (true)))))))) ∧
                (decide (((-1000000000) : Int) ≤ v5) = false → ((∀ w, Calls Try.prog 135 #[.int .i64 ((((s1 * s1) + (s2 * s2)) + (s3 * s3))), .int .i64 ((s0 * s0))] w fun e w' => e = .returned (.agg #[.int .i64 (v4), .int .i64 (v5)]) ∧ Below w.heap.size w w') ∧
                 ((decide ((1 : Int) ≤ v5) = true → ((decide ((v5 : Int) ≤ 1000000000) = true → Q (.bool (false))) ∧
                  (decide ((v5 : Int) ≤ 1000000000) = false → Q (.bool (true))))) ∧
                 (decide ((1 : Int) ≤ v5) = false → Q (.bool (true)))))))) ∧
               (decide ((v4 : Int) ≤ 1000000000) = false → ((∀ w, Calls Try.prog 135 #[.int .i64 ((((s1 * s1) + (s2 * s2)) + (s3 * s3))), .int .i64 ((s0 * s0))] w fun e w' => e = .returned (.agg #[.int .i64 (v4), .int .i64 (v5)]) ∧ Below w.heap.size w w') ∧
                Q (.bool (true)))))) ∧
              (decide (((-1000000000) : Int) ≤ v4) = false → ((∀ w, Calls Try.prog 135 #[.int .i64 ((((s1 * s1) + (s2 * s2)) + (s3 * s3))), .int .i64 ((s0 * s0))] w fun e w' => e = .returned (.agg #[.int .i64 (v4), .int .i64 (v5)]) ∧ Below w.heap.size w w') ∧
               Q (.bool (true))))))))) ∧
            (decide (((((s1 * s1) + (s2 * s2)) + (s3 * s3)) : Int) ≤ (s0 * s0)) = false → Q (.bool (true))))) ∧
           (decide ((0 : Int) ≤ s0) = false → Q (.bool (true))))) ∧
          (decide ((s3 : Int) ≤ 1000000000) = false → Q (.bool (true))))) ∧
         (decide (((-1000000000) : Int) ≤ s3) = false → Q (.bool (true))))) ∧
        (decide ((s2 : Int) ≤ 1000000000) = false → Q (.bool (true))))) ∧
       (decide (((-1000000000) : Int) ≤ s2) = false → Q (.bool (true))))) ∧
      (decide ((s1 : Int) ≤ 1000000000) = false → Q (.bool (true))))) ∧
     (decide (((-1000000000) : Int) ≤ s1) = false → Q (.bool (true))))) ∧
    (decide ((s0 : Int) ≤ 1000000000) = false → Q (.bool (true))))) ∧
   (decide (((-1000000000) : Int) ≤ s0) = false → Q (.bool (true)))))) :
    ∃ v, Q v ∧ ∀ w, Calls Try.prog 7 #[.agg #[.int .i64 (s0), .int .i64 (s1), .int .i64 (s2), .int .i64 (s3)]] w fun e w' => e = .returned v ∧ Below w.heap.size w w' :=
  tree_at mixed names S1_ok (S := S1 Try.prog) (lf := 100000) (d := 60) (args := [(.agg [(.int .i64 (.var 0)), (.int .i64 (.var 1)), (.int .i64 (.var 2)), (.int .i64 (.var 3))])]) st_t { ivs := [(0, (-9223372036854775808), 9223372036854775807), (1, (-9223372036854775808), 9223372036854775807), (2, (-9223372036854775808), 9223372036854775807), (3, (-9223372036854775808), 9223372036854775807)], whs := [] } [s0, s1, s2, s3] [] 4 0 rfl rfl (by kernel_rfl) (by kernel_rfl) (by kernel_rfl)
    ⟨(fc r0 (fc r1 (fc r2 (fc r3 fz)))), fz⟩ H
theorem sq0 (a : Int) : 0 ≤ a * a := by
  rcases Int.le_total 0 a with h | h
  · exact Int.mul_nonneg h h
  · exact Int.mul_nonneg_of_nonpos_of_nonpos h h
theorem sq_in {x : Int} {M : Int} (h1 : -M ≤ x) (h2 : x ≤ M) : x * x ≤ M * M := by
  rcases Int.le_total 0 x with h | h
  · exact Int.mul_le_mul h2 h2 h (by omega)
  · have := Int.mul_le_mul (a := -x) (b := -x) (c := M) (d := M) (by omega) (by omega) (by omega) (by omega)
    rwa [Int.neg_mul_neg] at this
theorem low_facts {n d : Int} (h0 : 0 ≤ n) (h1 : n ≤ d) (hd : 1 ≤ d) : 0 ≤ n / Int.gcd n d ∧ n / Int.gcd n d ≤ d / Int.gcd n d ∧ 1 ≤ d / Int.gcd n d := by
  have hg := gcd_pos (n := n) hd
  refine ⟨Int.ediv_nonneg h0 (by omega), Int.ediv_le_ediv (by omega) h1, ?_⟩
  exact (Int.le_ediv_iff_mul_le (by omega)).2 (by have := gcd_le (n := n) hd; omega)
theorem stokes {s0 s1 s2 s3 : Int} (r0 : (-9223372036854775808) ≤ s0 ∧ s0 ≤ 9223372036854775807) (r1 : (-9223372036854775808) ≤ s1 ∧ s1 ≤ 9223372036854775807) (r2 : (-9223372036854775808) ≤ s2 ∧ s2 ≤ 9223372036854775807) (r3 : (-9223372036854775808) ≤ s3 ∧ s3 ≤ 9223372036854775807) (w : World) :
    Calls Try.prog 7 #[.agg #[.int .i64 s0, .int .i64 s1, .int .i64 s2, .int .i64 s3]] w fun e w' => e = .returned (.bool true) ∧ Below w.heap.size w w' := by
  refine one_val (st r0 r1 r2 r3 (Q := (· = _)) ⟨awake, ?_⟩) w
  repeat' (first | exact rfl | apply And.intro | intro _ | fail)
  rename_i a1 a2 a3 a4 a5 a6 a7 a8 a9 a10 a11
  simp only [decide_eq_true_eq, beq_eq_false_iff_ne] at a1 a2 a3 a4 a5 a6 a7 a8 a9 a10 a11
  have q0 := sq_in a1 a2
  have p1 := sq0 s1; have p2 := sq0 s2; have p3 := sq0 s3
  have d1 : 1 ≤ s0 * s0 := Int.mul_pos (show 0 < s0 by omega) (show 0 < s0 by omega)
  have rn : 0 ≤ (s1 * s1 + s2 * s2) + s3 * s3 ∧ (s1 * s1 + s2 * s2) + s3 * s3 ≤ 9223372036854775807 := ⟨by omega, by omega⟩
  have rd : 1 ≤ s0 * s0 ∧ s0 * s0 ≤ 9223372036854775807 := ⟨d1, by omega⟩
  have F := fun w => frac_lowest rn rd w
  have B := fun w => base_lowest rn rd w
  have K := low_facts rn.1 a10 d1
  generalize ((s1 * s1 + s2 * s2) + s3 * s3) / ((Int.gcd ((s1 * s1 + s2 * s2) + s3 * s3) (s0 * s0) : Nat) : Int) = a at *
  generalize (s0 * s0) / ((Int.gcd ((s1 * s1 + s2 * s2) + s3 * s3) (s0 * s0) : Nat) : Int) = b at *
  refine ⟨a, b, F, ?_⟩
  repeat' (first | exact rfl | exact B | apply And.intro | intro _ | fail)
  all_goals simp only [decide_eq_true_eq, decide_eq_false_iff_not] at *
  all_goals first | (exfalso; omega) | (simp; omega)
end Go.Proofs.Ytlondnchmfhenaa.Ev
