/- Depolarised, of both -/
import Derived.Test.YtlondnchmfhenaaEvu
import Derived.Test.YtlondnchmfhenaaEvw1
import Derived.Test.YtlondnchmfhenaaPst
namespace Go.Proofs.Ytlondnchmfhenaa.Ev
set_option linter.unusedSimpArgs false
open Go Go.RowKit
set_option maxRecDepth 100000
def dp_t : Tr :=
  (.ite (.icmp .leq (.lit (-10000000)) (.var 0))
  (.ite (.icmp .leq (.var 0) (.lit 10000000))
   (.ite (.icmp .leq (.lit (-10000000)) (.var 1))
    (.ite (.icmp .leq (.var 1) (.lit 10000000))
     (.ite (.icmp .leq (.lit (-10000000)) (.var 2))
      (.ite (.icmp .leq (.var 2) (.lit 10000000))
       (.ite (.icmp .leq (.lit (-10000000)) (.var 3))
        (.ite (.icmp .leq (.var 3) (.lit 10000000))
         (.ite (.icmp .leq (.lit (-10000000)) (.var 4))
          (.ite (.icmp .leq (.var 4) (.lit 10000000))
           (.ite (.icmp .leq (.lit (-10000000)) (.var 5))
            (.ite (.icmp .leq (.var 5) (.lit 10000000))
             (.ite (.icmp .leq (.lit (-10000000)) (.var 6))
              (.ite (.icmp .leq (.var 6) (.lit 10000000))
               (.ite (.icmp .leq (.lit (-10000000)) (.var 7))
                (.ite (.icmp .leq (.var 7) (.lit 10000000))
                 (.ite (.icmp .leq (.lit (-10000000)) (.var 8))
                  (.ite (.icmp .leq (.var 8) (.lit 10000000))
                   (.ite (.icmp .leq (.lit (-10000000)) (.var 9))
                    (.ite (.icmp .leq (.var 9) (.lit 10000000))
                     (.ite (.icmp .leq (.lit (-10000000)) (.var 10))
                      (.ite (.icmp .leq (.var 10) (.lit 10000000))
                       (.ite (.icmp .leq (.lit (-10000000)) (.var 11))
                        (.ite (.icmp .leq (.var 11) (.lit 10000000))
                         (.ite (.icmp .leq (.lit (-10000000)) (.var 12))
                          (.ite (.icmp .leq (.var 12) (.lit 10000000))
                           (.ite (.icmp .leq (.lit (-10000000)) (.var 13))
                            (.ite (.icmp .leq (.var 13) (.lit 10000000))
                             (.ite (.icmp .leq (.lit (-10000000)) (.var 14))
                              (.ite (.icmp .leq (.var 14) (.lit 10000000))
                               (.ite (.icmp .leq (.lit (-10000000)) (.var 15))
                                (.ite (.icmp .leq (.var 15) (.lit 10000000))
                                 (.ite (.icmp .eql (.var 0) (.lit 0))
                                  (.leaf (.tuple [(.agg [(.int .i64 (.lit 0)), (.int .i64 (.lit 0))]), (.int .i64 (.lit 9))]))
                                  (.call 145 [(.int .i64 (.bin .addI (.bin .addI (.bin .addI (.bin .addI (.bin .addI (.bin .addI (.bin .addI (.bin .addI (.bin .addI (.bin .addI (.bin .addI (.bin .addI (.bin .addI (.bin .addI (.bin .mulI (.var 1) (.var 1)) (.bin .mulI (.var 2) (.var 2))) (.bin .mulI (.var 3) (.var 3))) (.bin .mulI (.var 4) (.var 4))) (.bin .mulI (.var 5) (.var 5))) (.bin .mulI (.var 6) (.var 6))) (.bin .mulI (.var 7) (.var 7))) (.bin .mulI (.var 8) (.var 8))) (.bin .mulI (.var 9) (.var 9))) (.bin .mulI (.var 10) (.var 10))) (.bin .mulI (.var 11) (.var 11))) (.bin .mulI (.var 12) (.var 12))) (.bin .mulI (.var 13) (.var 13))) (.bin .mulI (.var 14) (.var 14))) (.bin .mulI (.var 15) (.var 15)))), (.int .i64 (.bin .mulI (.lit 3) (.bin .mulI (.var 0) (.var 0))))] (.agg [(.int .i64 (.var 16)), (.int .i64 (.var 17))]) 2 0
                                   (.ite (.icmp .leq (.lit (-1000000000)) (.var 16))
                                   (.ite (.icmp .leq (.var 16) (.lit 1000000000))
                                    (.ite (.icmp .leq (.lit (-1000000000)) (.var 17))
                                     (.ite (.icmp .leq (.var 17) (.lit 1000000000))
                                      (.leaf (.tuple [(.agg [(.int .i64 (.var 16)), (.int .i64 (.var 17))]), (.int .i64 (.lit 0))]))
                                      (.leaf (.tuple [(.agg [(.int .i64 (.lit 0)), (.int .i64 (.lit 0))]), (.int .i64 (.lit 8))])))
                                     (.leaf (.tuple [(.agg [(.int .i64 (.lit 0)), (.int .i64 (.lit 0))]), (.int .i64 (.lit 8))])))
                                    (.leaf (.tuple [(.agg [(.int .i64 (.lit 0)), (.int .i64 (.lit 0))]), (.int .i64 (.lit 8))])))
                                   (.leaf (.tuple [(.agg [(.int .i64 (.lit 0)), (.int .i64 (.lit 0))]), (.int .i64 (.lit 8))])))))
                                 (.leaf (.tuple [(.agg [(.int .i64 (.lit 0)), (.int .i64 (.lit 0))]), (.int .i64 (.lit 8))])))
                                (.leaf (.tuple [(.agg [(.int .i64 (.lit 0)), (.int .i64 (.lit 0))]), (.int .i64 (.lit 8))])))
                               (.leaf (.tuple [(.agg [(.int .i64 (.lit 0)), (.int .i64 (.lit 0))]), (.int .i64 (.lit 8))])))
                              (.leaf (.tuple [(.agg [(.int .i64 (.lit 0)), (.int .i64 (.lit 0))]), (.int .i64 (.lit 8))])))
                             (.leaf (.tuple [(.agg [(.int .i64 (.lit 0)), (.int .i64 (.lit 0))]), (.int .i64 (.lit 8))])))
                            (.leaf (.tuple [(.agg [(.int .i64 (.lit 0)), (.int .i64 (.lit 0))]), (.int .i64 (.lit 8))])))
                           (.leaf (.tuple [(.agg [(.int .i64 (.lit 0)), (.int .i64 (.lit 0))]), (.int .i64 (.lit 8))])))
                          (.leaf (.tuple [(.agg [(.int .i64 (.lit 0)), (.int .i64 (.lit 0))]), (.int .i64 (.lit 8))])))
                         (.leaf (.tuple [(.agg [(.int .i64 (.lit 0)), (.int .i64 (.lit 0))]), (.int .i64 (.lit 8))])))
                        (.leaf (.tuple [(.agg [(.int .i64 (.lit 0)), (.int .i64 (.lit 0))]), (.int .i64 (.lit 8))])))
                       (.leaf (.tuple [(.agg [(.int .i64 (.lit 0)), (.int .i64 (.lit 0))]), (.int .i64 (.lit 8))])))
                      (.leaf (.tuple [(.agg [(.int .i64 (.lit 0)), (.int .i64 (.lit 0))]), (.int .i64 (.lit 8))])))
                     (.leaf (.tuple [(.agg [(.int .i64 (.lit 0)), (.int .i64 (.lit 0))]), (.int .i64 (.lit 8))])))
                    (.leaf (.tuple [(.agg [(.int .i64 (.lit 0)), (.int .i64 (.lit 0))]), (.int .i64 (.lit 8))])))
                   (.leaf (.tuple [(.agg [(.int .i64 (.lit 0)), (.int .i64 (.lit 0))]), (.int .i64 (.lit 8))])))
                  (.leaf (.tuple [(.agg [(.int .i64 (.lit 0)), (.int .i64 (.lit 0))]), (.int .i64 (.lit 8))])))
                 (.leaf (.tuple [(.agg [(.int .i64 (.lit 0)), (.int .i64 (.lit 0))]), (.int .i64 (.lit 8))])))
                (.leaf (.tuple [(.agg [(.int .i64 (.lit 0)), (.int .i64 (.lit 0))]), (.int .i64 (.lit 8))])))
               (.leaf (.tuple [(.agg [(.int .i64 (.lit 0)), (.int .i64 (.lit 0))]), (.int .i64 (.lit 8))])))
              (.leaf (.tuple [(.agg [(.int .i64 (.lit 0)), (.int .i64 (.lit 0))]), (.int .i64 (.lit 8))])))
             (.leaf (.tuple [(.agg [(.int .i64 (.lit 0)), (.int .i64 (.lit 0))]), (.int .i64 (.lit 8))])))
            (.leaf (.tuple [(.agg [(.int .i64 (.lit 0)), (.int .i64 (.lit 0))]), (.int .i64 (.lit 8))])))
           (.leaf (.tuple [(.agg [(.int .i64 (.lit 0)), (.int .i64 (.lit 0))]), (.int .i64 (.lit 8))])))
          (.leaf (.tuple [(.agg [(.int .i64 (.lit 0)), (.int .i64 (.lit 0))]), (.int .i64 (.lit 8))])))
         (.leaf (.tuple [(.agg [(.int .i64 (.lit 0)), (.int .i64 (.lit 0))]), (.int .i64 (.lit 8))])))
        (.leaf (.tuple [(.agg [(.int .i64 (.lit 0)), (.int .i64 (.lit 0))]), (.int .i64 (.lit 8))])))
       (.leaf (.tuple [(.agg [(.int .i64 (.lit 0)), (.int .i64 (.lit 0))]), (.int .i64 (.lit 8))])))
      (.leaf (.tuple [(.agg [(.int .i64 (.lit 0)), (.int .i64 (.lit 0))]), (.int .i64 (.lit 8))])))
     (.leaf (.tuple [(.agg [(.int .i64 (.lit 0)), (.int .i64 (.lit 0))]), (.int .i64 (.lit 8))])))
    (.leaf (.tuple [(.agg [(.int .i64 (.lit 0)), (.int .i64 (.lit 0))]), (.int .i64 (.lit 8))])))
   (.leaf (.tuple [(.agg [(.int .i64 (.lit 0)), (.int .i64 (.lit 0))]), (.int .i64 (.lit 8))])))
  (.leaf (.tuple [(.agg [(.int .i64 (.lit 0)), (.int .i64 (.lit 0))]), (.int .i64 (.lit 8))])))
theorem dp {m0 m1 m2 m3 m4 m5 m6 m7 m8 m9 m10 m11 m12 m13 m14 m15 : Int} (r0 : (-1000000000) ≤ m0 ∧ m0 ≤ 1000000000) (r1 : (-1000000000) ≤ m1 ∧ m1 ≤ 1000000000) (r2 : (-1000000000) ≤ m2 ∧ m2 ≤ 1000000000) (r3 : (-1000000000) ≤ m3 ∧ m3 ≤ 1000000000) (r4 : (-1000000000) ≤ m4 ∧ m4 ≤ 1000000000) (r5 : (-1000000000) ≤ m5 ∧ m5 ≤ 1000000000) (r6 : (-1000000000) ≤ m6 ∧ m6 ≤ 1000000000) (r7 : (-1000000000) ≤ m7 ∧ m7 ≤ 1000000000) (r8 : (-1000000000) ≤ m8 ∧ m8 ≤ 1000000000) (r9 : (-1000000000) ≤ m9 ∧ m9 ≤ 1000000000) (r10 : (-1000000000) ≤ m10 ∧ m10 ≤ 1000000000) (r11 : (-1000000000) ≤ m11 ∧ m11 ≤ 1000000000) (r12 : (-1000000000) ≤ m12 ∧ m12 ≤ 1000000000) (r13 : (-1000000000) ≤ m13 ∧ m13 ≤ 1000000000) (r14 : (-1000000000) ≤ m14 ∧ m14 ≤ 1000000000) (r15 : (-1000000000) ≤ m15 ∧ m15 ≤ 1000000000) {Q : Value → Prop} (H :
  ((decide (((-10000000) : Int) ≤ m0) = true → ((decide ((m0 : Int) ≤ 10000000) = true → ((decide (((-10000000) : Int) ≤ m1) = true → ((decide ((m1 : Int) ≤ 10000000) = true → ((decide (((-10000000) : Int) ≤ m2) = true → ((decide ((m2 : Int) ≤ 10000000) = true → ((decide (((-10000000) : Int) ≤ m3) = true → ((decide ((m3 : Int) ≤ 10000000) = true → ((decide (((-10000000) : Int) ≤ m4) = true → ((decide ((m4 : Int) ≤ 10000000) = true → ((decide (((-10000000) : Int) ≤ m5) = true → ((decide ((m5 : Int) ≤ 10000000) = true → ((decide (((-10000000) : Int) ≤ m6) = true → ((decide ((m6 : Int) ≤ 10000000) = true → ((decide (((-10000000) : Int) ≤ m7) = true → ((decide ((m7 : Int) ≤ 10000000) = true → ((decide (((-10000000) : Int) ≤ m8) = true → ((decide ((m8 : Int) ≤ 10000000) = true → ((decide (((-10000000) : Int) ≤ m9) = true → ((decide ((m9 : Int) ≤ 10000000) = true → ((decide (((-10000000) : Int) ≤ m10) = true → ((decide ((m10 : Int) ≤ 10000000) = true → ((decide (((-10000000) : Int) ≤ m11) = true → ((decide ((m11 : Int) ≤ 10000000) = true → ((decide (((-10000000) : Int) ≤ m12) = true → ((decide ((m12 : Int) ≤ 10000000) = true → ((decide (((-10000000) : Int) ≤ m13) = true → ((decide ((m13 : Int) ≤ 10000000) = true → ((decide (((-10000000) : Int) ≤ m14) = true → ((decide ((m14 : Int) ≤ 10000000) = true → ((decide (((-10000000) : Int) ≤ m15) = true → ((decide ((m15 : Int) ≤ 10000000) = true → ((((m0 : Int) == 0) = true → Q (.tuple #[.agg #[.int .i64 (0), .int .i64 (0)], .int .i64 (9)])) ∧
                                   (((m0 : Int) == 0) = false → (∃ v16 : Int, ∃ v17 : Int, (∀ w, Calls Try.prog 145 #[.int .i64 ((((((((((((((((m1 * m1) + (m2 * m2)) + (m3 * m3)) + (m4 * m4)) + (m5 * m5)) + (m6 * m6)) + (m7 * m7)) + (m8 * m8)) + (m9 * m9)) + (m10 * m10)) + (m11 * m11)) + (m12 * m12)) + (m13 * m13)) + (m14 * m14)) + (m15 * m15))), .int .i64 ((3 * (m0 * m0)))] w fun e w' => e = .returned (.agg #[.int .i64 (v16), .int .i64 (v17)]) ∧ Below w.heap.size w w') ∧
                                    ((decide (((-1000000000) : Int) ≤ v16) = true → ((decide ((v16 : Int) ≤ 1000000000) = true → ((decide (((-1000000000) : Int) ≤ v17) = true → ((decide ((v17 : Int) ≤ 1000000000) = true → Q (.tuple #[.agg #[.int .i64 (v16), .int .i64 (v17)], .int .i64 (0)])) ∧
                                       (decide ((v17 : Int) ≤ 1000000000) = false → Q (.tuple #[.agg #[.int .i64 (0), .int .i64 (0)], .int .i64 (8)])))) ∧
                                      (decide (((-1000000000) : Int) ≤ v17) = false → Q (.tuple #[.agg #[.int .i64 (0), .int .i64 (0)], .int .i64 (8)])))) ∧
                                     (decide ((v16 : Int) ≤ 1000000000) = false → Q (.tuple #[.agg #[.int .i64 (0), .int .i64 (0)], .int .i64 (8)])))) ∧
                                    (decide (((-1000000000) : Int) ≤ v16) = false → Q (.tuple #[.agg #[.int .i64 (0), .int .i64 (0)], .int .i64 (8)]))))))) ∧
                                  (decide ((m15 : Int) ≤ 10000000) = false → Q (.tuple #[.agg #[.int .i64 (0), .int .i64 (0)], .int .i64 (8)])))) ∧
                                 (decide (((-10000000) : Int) ≤ m15) = false → Q (.tuple #[.agg #[.int .i64 (0), .int .i64 (0)], .int .i64 (8)])))) ∧
                                (decide ((m14 : Int) ≤ 10000000) = false → Q (.tuple #[.agg #[.int .i64 (0), .int .i64 (0)], .int .i64 (8)])))) ∧
                               (decide (((-10000000) : Int) ≤ m14) = false → Q (.tuple #[.agg #[.int .i64 (0), .int .i64 (0)], .int .i64 (8)])))) ∧
                              (decide ((m13 : Int) ≤ 10000000) = false → Q (.tuple #[.agg #[.int .i64 (0), .int .i64 (0)], .int .i64 (8)])))) ∧
                             (decide (((-10000000) : Int) ≤ m13) = false → Q (.tuple #[.agg #[.int .i64 (0), .int .i64 (0)], .int .i64 (8)])))) ∧
                            (decide ((m12 : Int) ≤ 10000000) = false → Q (.tuple #[.agg #[.int .i64 (0), .int .i64 (0)], .int .i64 (8)])))) ∧
                           (decide (((-10000000) : Int) ≤ m12) = false → Q (.tuple #[.agg #[.int .i64 (0), .int .i64 (0)], .int .i64 (8)])))) ∧
                          (decide ((m11 : Int) ≤ 10000000) = false → Q (.tuple #[.agg #[.int .i64 (0), .int .i64 (0)], .int .i64 (8)])))) ∧
                         (decide (((-10000000) : Int) ≤ m11) = false → Q (.tuple #[.agg #[.int .i64 (0), .int .i64 (0)], .int .i64 (8)])))) ∧
                        (decide ((m10 : Int) ≤ 10000000) = false → Q (.tuple #[.agg #[.int .i64 (0), .int .i64 (0)], .int .i64 (8)])))) ∧
                       (decide (((-10000000) : Int) ≤ m10) = false → Q (.tuple #[.agg #[.int .i64 (0), .int .i64 (0)], .int .i64 (8)])))) ∧
                      (decide ((m9 : Int) ≤ 10000000) = false → Q (.tuple #[.agg #[.int .i64 (0), .int .i64 (0)], .int .i64 (8)])))) ∧
                     (decide (((-10000000) : Int) ≤ m9) = false → Q (.tuple #[.agg #[.int .i64 (0), .int .i64 (0)], .int .i64 (8)])))) ∧
                    (decide ((m8 : Int) ≤ 10000000) = false → Q (.tuple #[.agg #[.int .i64 (0), .int .i64 (0)], .int .i64 (8)])))) ∧
                   (decide (((-10000000) : Int) ≤ m8) = false → Q (.tuple #[.agg #[.int .i64 (0), .int .i64 (0)], .int .i64 (8)])))) ∧
                  (decide ((m7 : Int) ≤ 10000000) = false → Q (.tuple #[.agg #[.int .i64 (0), .int .i64 (0)], .int .i64 (8)])))) ∧
                 (decide (((-10000000) : Int) ≤ m7) = false → Q (.tuple #[.agg #[.int .i64 (0), .int .i64 (0)], .int .i64 (8)])))) ∧
                (decide ((m6 : Int) ≤ 10000000) = false → Q (.tuple #[.agg #[.int .i64 (0), .int .i64 (0)], .int .i64 (8)])))) ∧
               (decide (((-10000000) : Int) ≤ m6) = false → Q (.tuple #[.agg #[.int .i64 (0), .int .i64 (0)], .int .i64 (8)])))) ∧
              (decide ((m5 : Int) ≤ 10000000) = false → Q (.tuple #[.agg #[.int .i64 (0), .int .i64 (0)], .int .i64 (8)])))) ∧
             (decide (((-10000000) : Int) ≤ m5) = false → Q (.tuple #[.agg #[.int .i64 (0), .int .i64 (0)], .int .i64 (8)])))) ∧
            (decide ((m4 : Int) ≤ 10000000) = false → Q (.tuple #[.agg #[.int .i64 (0), .int .i64 (0)], .int .i64 (8)])))) ∧
           (decide (((-10000000) : Int) ≤ m4) = false → Q (.tuple #[.agg #[.int .i64 (0), .int .i64 (0)], .int .i64 (8)])))) ∧
          (decide ((m3 : Int) ≤ 10000000) = false → Q (.tuple #[.agg #[.int .i64 (0), .int .i64 (0)], .int .i64 (8)])))) ∧
         (decide (((-10000000) : Int) ≤ m3) = false → Q (.tuple #[.agg #[.int .i64 (0), .int .i64 (0)], .int .i64 (8)])))) ∧
        (decide ((m2 : Int) ≤ 10000000) = false → Q (.tuple #[.agg #[.int .i64 (0), .int .i64 (0)], .int .i64 (8)])))) ∧
       (decide (((-10000000) : Int) ≤ m2) = false → Q (.tuple #[.agg #[.int .i64 (0), .int .i64 (0)], .int .i64 (8)])))) ∧
      (decide ((m1 : Int) ≤ 10000000) = false → Q (.tuple #[.agg #[.int .i64 (0), .int .i64 (0)], .int .i64 (8)])))) ∧
     (decide (((-10000000) : Int) ≤ m1) = false → Q (.tuple #[.agg #[.int .i64 (0), .int .i64 (0)], .int .i64 (8)])))) ∧
    (decide ((m0 : Int) ≤ 10000000) = false → Q (.tuple #[.agg #[.int .i64 (0), .int .i64 (0)], .int .i64 (8)])))) ∧
   (decide (((-10000000) : Int) ≤ m0) = false → Q (.tuple #[.agg #[.int .i64 (0), .int .i64 (0)], .int .i64 (8)])))) :
    ∃ v, Q v ∧ ∀ w, Calls Try.prog 66 #[.agg #[.int .i64 (m0), .int .i64 (m1), .int .i64 (m2), .int .i64 (m3), .int .i64 (m4), .int .i64 (m5), .int .i64 (m6), .int .i64 (m7), .int .i64 (m8), .int .i64 (m9), .int .i64 (m10), .int .i64 (m11), .int .i64 (m12), .int .i64 (m13), .int .i64 (m14), .int .i64 (m15)]] w fun e w' => e = .returned v ∧ Below w.heap.size w w' :=
  tree_at mixed names S1_ok (S := S1 Try.prog) (lf := 100000) (d := 60) (args := [(.agg [(.int .i64 (.var 0)), (.int .i64 (.var 1)), (.int .i64 (.var 2)), (.int .i64 (.var 3)), (.int .i64 (.var 4)), (.int .i64 (.var 5)), (.int .i64 (.var 6)), (.int .i64 (.var 7)), (.int .i64 (.var 8)), (.int .i64 (.var 9)), (.int .i64 (.var 10)), (.int .i64 (.var 11)), (.int .i64 (.var 12)), (.int .i64 (.var 13)), (.int .i64 (.var 14)), (.int .i64 (.var 15))])]) dp_t { ivs := [(0, (-1000000000), 1000000000), (1, (-1000000000), 1000000000), (2, (-1000000000), 1000000000), (3, (-1000000000), 1000000000), (4, (-1000000000), 1000000000), (5, (-1000000000), 1000000000), (6, (-1000000000), 1000000000), (7, (-1000000000), 1000000000), (8, (-1000000000), 1000000000), (9, (-1000000000), 1000000000), (10, (-1000000000), 1000000000), (11, (-1000000000), 1000000000), (12, (-1000000000), 1000000000), (13, (-1000000000), 1000000000), (14, (-1000000000), 1000000000), (15, (-1000000000), 1000000000)], whs := [] } [m0, m1, m2, m3, m4, m5, m6, m7, m8, m9, m10, m11, m12, m13, m14, m15] [] 16 0 rfl rfl (by kernel_rfl) (by kernel_rfl) (by kernel_rfl)
    ⟨(fc r0 (fc r1 (fc r2 (fc r3 (fc r4 (fc r5 (fc r6 (fc r7 (fc r8 (fc r9 (fc r10 (fc r11 (fc r12 (fc r13 (fc r14 (fc r15 fz)))))))))))))))), fz⟩ H
def da_t : Tr :=
  (.ite (.icmp .eql (.var 0) (.lit 0))
  (.leaf (.tuple [(.agg [(.int .i64 (.lit 0)), (.int .i64 (.lit 0))]), (.int .i64 (.lit 9))]))
  (.call 135 [(.int .i64 (.bin .addI (.bin .addI (.bin .addI (.bin .addI (.bin .addI (.bin .addI (.bin .addI (.bin .addI (.bin .addI (.bin .addI (.bin .addI (.bin .addI (.bin .addI (.bin .addI (.bin .mulI (.var 1) (.var 1)) (.bin .mulI (.var 2) (.var 2))) (.bin .mulI (.var 3) (.var 3))) (.bin .mulI (.var 4) (.var 4))) (.bin .mulI (.var 5) (.var 5))) (.bin .mulI (.var 6) (.var 6))) (.bin .mulI (.var 7) (.var 7))) (.bin .mulI (.var 8) (.var 8))) (.bin .mulI (.var 9) (.var 9))) (.bin .mulI (.var 10) (.var 10))) (.bin .mulI (.var 11) (.var 11))) (.bin .mulI (.var 12) (.var 12))) (.bin .mulI (.var 13) (.var 13))) (.bin .mulI (.var 14) (.var 14))) (.bin .mulI (.var 15) (.var 15)))), (.int .i64 (.bin .mulI (.bin .mulI (.lit 3) (.var 0)) (.var 0)))] (.agg [(.int .i64 (.var 16)), (.int .i64 (.var 17))]) 2 0
   (.ite (.icmp .leq (.lit (-1000000000)) (.var 16))
   (.ite (.icmp .leq (.var 16) (.lit 1000000000))
    (.ite (.icmp .leq (.lit 1) (.var 17))
     (.ite (.icmp .leq (.var 17) (.lit 1000000000))
      (.leaf (.tuple [(.agg [(.int .i64 (.var 16)), (.int .i64 (.var 17))]), (.int .i64 (.lit 0))]))
      (.leaf (.tuple [(.agg [(.int .i64 (.lit 0)), (.int .i64 (.lit 0))]), (.int .i64 (.lit 8))])))
     (.leaf (.tuple [(.agg [(.int .i64 (.lit 0)), (.int .i64 (.lit 0))]), (.int .i64 (.lit 8))])))
    (.leaf (.tuple [(.agg [(.int .i64 (.lit 0)), (.int .i64 (.lit 0))]), (.int .i64 (.lit 8))])))
   (.leaf (.tuple [(.agg [(.int .i64 (.lit 0)), (.int .i64 (.lit 0))]), (.int .i64 (.lit 8))])))))
theorem da {m0 m1 m2 m3 m4 m5 m6 m7 m8 m9 m10 m11 m12 m13 m14 m15 : Int} (r0 : (-10000000) ≤ m0 ∧ m0 ≤ 10000000) (r1 : (-10000000) ≤ m1 ∧ m1 ≤ 10000000) (r2 : (-10000000) ≤ m2 ∧ m2 ≤ 10000000) (r3 : (-10000000) ≤ m3 ∧ m3 ≤ 10000000) (r4 : (-10000000) ≤ m4 ∧ m4 ≤ 10000000) (r5 : (-10000000) ≤ m5 ∧ m5 ≤ 10000000) (r6 : (-10000000) ≤ m6 ∧ m6 ≤ 10000000) (r7 : (-10000000) ≤ m7 ∧ m7 ≤ 10000000) (r8 : (-10000000) ≤ m8 ∧ m8 ≤ 10000000) (r9 : (-10000000) ≤ m9 ∧ m9 ≤ 10000000) (r10 : (-10000000) ≤ m10 ∧ m10 ≤ 10000000) (r11 : (-10000000) ≤ m11 ∧ m11 ≤ 10000000) (r12 : (-10000000) ≤ m12 ∧ m12 ≤ 10000000) (r13 : (-10000000) ≤ m13 ∧ m13 ≤ 10000000) (r14 : (-10000000) ≤ m14 ∧ m14 ≤ 10000000) (r15 : (-10000000) ≤ m15 ∧ m15 ≤ 10000000) {Q : Value → Prop} (H :
  ((((m0 : Int) == 0) = true → Q (.tuple #[.agg #[.int .i64 (0), .int .i64 (0)], .int .i64 (9)])) ∧
   (((m0 : Int) == 0) = false → (∃ v16 : Int, ∃ v17 : Int, (∀ w, Calls Try.prog 135 #[.int .i64 ((((((((((((((((m1 * m1) + (m2 * m2)) + (m3 * m3)) + (m4 * m4)) + (m5 * m5)) + (m6 * m6)) + (m7 * m7)) + (m8 * m8)) + (m9 * m9)) + (m10 * m10)) + (m11 * m11)) + (m12 * m12)) + (m13 * m13)) + (m14 * m14)) + (m15 * m15))), .int .i64 (((3 * m0) * m0))] w fun e w' => e = .returned (.agg #[.int .i64 (v16), .int .i64 (v17)]) ∧ Below w.heap.size w w') ∧
    ((decide (((-1000000000) : Int) ≤ v16) = true → ((decide ((v16 : Int) ≤ 1000000000) = true → ((decide ((1 : Int) ≤ v17) = true → ((decide ((v17 : Int) ≤ 1000000000) = true → Q (.tuple #[.agg #[.int .i64 (v16), .int .i64 (v17)], .int .i64 (0)])) ∧
       (decide ((v17 : Int) ≤ 1000000000) = false → Q (.tuple #[.agg #[.int .i64 (0), .int .i64 (0)], .int .i64 (8)])))) ∧
      (decide ((1 : Int) ≤ v17) = false → Q (.tuple #[.agg #[.int .i64 (0), .int .i64 (0)], .int .i64 (8)])))) ∧
     (decide ((v16 : Int) ≤ 1000000000) = false → Q (.tuple #[.agg #[.int .i64 (0), .int .i64 (0)], .int .i64 (8)])))) ∧
    (decide (((-1000000000) : Int) ≤ v16) = false → Q (.tuple #[.agg #[.int .i64 (0), .int .i64 (0)], .int .i64 (8)]))))))) :
    ∃ v, Q v ∧ ∀ w, Calls Try.prog 69 #[.agg #[.int .i64 (m0), .int .i64 (m1), .int .i64 (m2), .int .i64 (m3), .int .i64 (m4), .int .i64 (m5), .int .i64 (m6), .int .i64 (m7), .int .i64 (m8), .int .i64 (m9), .int .i64 (m10), .int .i64 (m11), .int .i64 (m12), .int .i64 (m13), .int .i64 (m14), .int .i64 (m15)]] w fun e w' => e = .returned v ∧ Below w.heap.size w w' :=
  tree_at mixed names S1_ok (S := S1 Try.prog) (lf := 100000) (d := 60) (args := [(.agg [(.int .i64 (.var 0)), (.int .i64 (.var 1)), (.int .i64 (.var 2)), (.int .i64 (.var 3)), (.int .i64 (.var 4)), (.int .i64 (.var 5)), (.int .i64 (.var 6)), (.int .i64 (.var 7)), (.int .i64 (.var 8)), (.int .i64 (.var 9)), (.int .i64 (.var 10)), (.int .i64 (.var 11)), (.int .i64 (.var 12)), (.int .i64 (.var 13)), (.int .i64 (.var 14)), (.int .i64 (.var 15))])]) da_t { ivs := [(0, (-10000000), 10000000), (1, (-10000000), 10000000), (2, (-10000000), 10000000), (3, (-10000000), 10000000), (4, (-10000000), 10000000), (5, (-10000000), 10000000), (6, (-10000000), 10000000), (7, (-10000000), 10000000), (8, (-10000000), 10000000), (9, (-10000000), 10000000), (10, (-10000000), 10000000), (11, (-10000000), 10000000), (12, (-10000000), 10000000), (13, (-10000000), 10000000), (14, (-10000000), 10000000), (15, (-10000000), 10000000)], whs := [] } [m0, m1, m2, m3, m4, m5, m6, m7, m8, m9, m10, m11, m12, m13, m14, m15] [] 16 0 rfl rfl (by kernel_rfl) (by kernel_rfl) (by kernel_rfl)
    ⟨(fc r0 (fc r1 (fc r2 (fc r3 (fc r4 (fc r5 (fc r6 (fc r7 (fc r8 (fc r9 (fc r10 (fc r11 (fc r12 (fc r13 (fc r14 (fc r15 fz)))))))))))))))), fz⟩ H
def db_t : Tr :=
  (.ite (.icmp .leq (.bin .maxI (.var 0) (.bin .subI (.lit 0) (.var 0))) (.lit 10000000))
  (.ite (.icmp .leq (.bin .maxI (.var 1) (.bin .subI (.lit 0) (.var 1))) (.lit 10000000))
   (.ite (.icmp .leq (.bin .maxI (.var 2) (.bin .subI (.lit 0) (.var 2))) (.lit 10000000))
    (.ite (.icmp .leq (.bin .maxI (.var 3) (.bin .subI (.lit 0) (.var 3))) (.lit 10000000))
     (.ite (.icmp .leq (.bin .maxI (.var 4) (.bin .subI (.lit 0) (.var 4))) (.lit 10000000))
      (.ite (.icmp .leq (.bin .maxI (.var 5) (.bin .subI (.lit 0) (.var 5))) (.lit 10000000))
       (.ite (.icmp .leq (.bin .maxI (.var 6) (.bin .subI (.lit 0) (.var 6))) (.lit 10000000))
        (.ite (.icmp .leq (.bin .maxI (.var 7) (.bin .subI (.lit 0) (.var 7))) (.lit 10000000))
         (.ite (.icmp .leq (.bin .maxI (.var 8) (.bin .subI (.lit 0) (.var 8))) (.lit 10000000))
          (.ite (.icmp .leq (.bin .maxI (.var 9) (.bin .subI (.lit 0) (.var 9))) (.lit 10000000))
           (.ite (.icmp .leq (.bin .maxI (.var 10) (.bin .subI (.lit 0) (.var 10))) (.lit 10000000))
            (.ite (.icmp .leq (.bin .maxI (.var 11) (.bin .subI (.lit 0) (.var 11))) (.lit 10000000))
             (.ite (.icmp .leq (.bin .maxI (.var 12) (.bin .subI (.lit 0) (.var 12))) (.lit 10000000))
              (.ite (.icmp .leq (.bin .maxI (.var 13) (.bin .subI (.lit 0) (.var 13))) (.lit 10000000))
               (.ite (.icmp .leq (.bin .maxI (.var 14) (.bin .subI (.lit 0) (.var 14))) (.lit 10000000))
                (.ite (.icmp .leq (.bin .maxI (.var 15) (.bin .subI (.lit 0) (.var 15))) (.lit 10000000))
                 (.ite (.icmp .eql (.var 0) (.lit 0))
                  (.leaf (.tuple [(.agg [(.int .i64 (.lit 0)), (.int .i64 (.lit 0))]), (.int .i64 (.lit 9))]))
                  .nil)
                 (.leaf (.tuple [(.agg [(.int .i64 (.lit 0)), (.int .i64 (.lit 0))]), (.int .i64 (.lit 8))])))
                (.leaf (.tuple [(.agg [(.int .i64 (.lit 0)), (.int .i64 (.lit 0))]), (.int .i64 (.lit 8))])))
               (.leaf (.tuple [(.agg [(.int .i64 (.lit 0)), (.int .i64 (.lit 0))]), (.int .i64 (.lit 8))])))
              (.leaf (.tuple [(.agg [(.int .i64 (.lit 0)), (.int .i64 (.lit 0))]), (.int .i64 (.lit 8))])))
             (.leaf (.tuple [(.agg [(.int .i64 (.lit 0)), (.int .i64 (.lit 0))]), (.int .i64 (.lit 8))])))
            (.leaf (.tuple [(.agg [(.int .i64 (.lit 0)), (.int .i64 (.lit 0))]), (.int .i64 (.lit 8))])))
           (.leaf (.tuple [(.agg [(.int .i64 (.lit 0)), (.int .i64 (.lit 0))]), (.int .i64 (.lit 8))])))
          (.leaf (.tuple [(.agg [(.int .i64 (.lit 0)), (.int .i64 (.lit 0))]), (.int .i64 (.lit 8))])))
         (.leaf (.tuple [(.agg [(.int .i64 (.lit 0)), (.int .i64 (.lit 0))]), (.int .i64 (.lit 8))])))
        (.leaf (.tuple [(.agg [(.int .i64 (.lit 0)), (.int .i64 (.lit 0))]), (.int .i64 (.lit 8))])))
       (.leaf (.tuple [(.agg [(.int .i64 (.lit 0)), (.int .i64 (.lit 0))]), (.int .i64 (.lit 8))])))
      (.leaf (.tuple [(.agg [(.int .i64 (.lit 0)), (.int .i64 (.lit 0))]), (.int .i64 (.lit 8))])))
     (.leaf (.tuple [(.agg [(.int .i64 (.lit 0)), (.int .i64 (.lit 0))]), (.int .i64 (.lit 8))])))
    (.leaf (.tuple [(.agg [(.int .i64 (.lit 0)), (.int .i64 (.lit 0))]), (.int .i64 (.lit 8))])))
   (.leaf (.tuple [(.agg [(.int .i64 (.lit 0)), (.int .i64 (.lit 0))]), (.int .i64 (.lit 8))])))
  (.leaf (.tuple [(.agg [(.int .i64 (.lit 0)), (.int .i64 (.lit 0))]), (.int .i64 (.lit 8))])))
theorem db {m0 m1 m2 m3 m4 m5 m6 m7 m8 m9 m10 m11 m12 m13 m14 m15 : Int} (r0 : (-1000000000) ≤ m0 ∧ m0 ≤ 1000000000) (r1 : (-1000000000) ≤ m1 ∧ m1 ≤ 1000000000) (r2 : (-1000000000) ≤ m2 ∧ m2 ≤ 1000000000) (r3 : (-1000000000) ≤ m3 ∧ m3 ≤ 1000000000) (r4 : (-1000000000) ≤ m4 ∧ m4 ≤ 1000000000) (r5 : (-1000000000) ≤ m5 ∧ m5 ≤ 1000000000) (r6 : (-1000000000) ≤ m6 ∧ m6 ≤ 1000000000) (r7 : (-1000000000) ≤ m7 ∧ m7 ≤ 1000000000) (r8 : (-1000000000) ≤ m8 ∧ m8 ≤ 1000000000) (r9 : (-1000000000) ≤ m9 ∧ m9 ≤ 1000000000) (r10 : (-1000000000) ≤ m10 ∧ m10 ≤ 1000000000) (r11 : (-1000000000) ≤ m11 ∧ m11 ≤ 1000000000) (r12 : (-1000000000) ≤ m12 ∧ m12 ≤ 1000000000) (r13 : (-1000000000) ≤ m13 ∧ m13 ≤ 1000000000) (r14 : (-1000000000) ≤ m14 ∧ m14 ≤ 1000000000) (r15 : (-1000000000) ≤ m15 ∧ m15 ≤ 1000000000) {Q : Value → Prop} (H :
  ((decide (((if ((0 - m0) : Int) > m0 then (0 - m0) else m0) : Int) ≤ 10000000) = true → ((decide (((if ((0 - m1) : Int) > m1 then (0 - m1) else m1) : Int) ≤ 10000000) = true → ((decide (((if ((0 - m2) : Int) > m2 then (0 - m2) else m2) : Int) ≤ 10000000) = true → ((decide (((if ((0 - m3) : Int) > m3 then (0 - m3) else m3) : Int) ≤ 10000000) = true → ((decide (((if ((0 - m4) : Int) > m4 then (0 - m4) else m4) : Int) ≤ 10000000) = true → ((decide (((if ((0 - m5) : Int) > m5 then (0 - m5) else m5) : Int) ≤ 10000000) = true → ((decide (((if ((0 - m6) : Int) > m6 then (0 - m6) else m6) : Int) ≤ 10000000) = true → ((decide (((if ((0 - m7) : Int) > m7 then (0 - m7) else m7) : Int) ≤ 10000000) = true → ((decide (((if ((0 - m8) : Int) > m8 then (0 - m8) else m8) : Int) ≤ 10000000) = true → ((decide (((if ((0 - m9) : Int) > m9 then (0 - m9) else m9) : Int) ≤ 10000000) = true → ((decide (((if ((0 - m10) : Int) > m10 then (0 - m10) else m10) : Int) ≤ 10000000) = true → ((decide (((if ((0 - m11) : Int) > m11 then (0 - m11) else m11) : Int) ≤ 10000000) = true → ((decide (((if ((0 - m12) : Int) > m12 then (0 - m12) else m12) : Int) ≤ 10000000) = true → ((decide (((if ((0 - m13) : Int) > m13 then (0 - m13) else m13) : Int) ≤ 10000000) = true → ((decide (((if ((0 - m14) : Int) > m14 then (0 - m14) else m14) : Int) ≤ 10000000) = true → ((decide (((if ((0 - m15) : Int) > m15 then (0 - m15) else m15) : Int) ≤ 10000000) = true → ((((m0 : Int) == 0) = true → Q (.tuple #[.agg #[.int .i64 (0), .int .i64 (0)], .int .i64 (9)])) ∧
                   (((m0 : Int) == 0) = false → False))) ∧
                  (decide (((if ((0 - m15) : Int) > m15 then (0 - m15) else m15) : Int) ≤ 10000000) = false → Q (.tuple #[.agg #[.int .i64 (0), .int .i64 (0)], .int .i64 (8)])))) ∧
                 (decide (((if ((0 - m14) : Int) > m14 then (0 - m14) else m14) : Int) ≤ 10000000) = false → Q (.tuple #[.agg #[.int .i64 (0), .int .i64 (0)], .int .i64 (8)])))) ∧
                (decide (((if ((0 - m13) : Int) > m13 then (0 - m13) else m13) : Int) ≤ 10000000) = false → Q (.tuple #[.agg #[.int .i64 (0), .int .i64 (0)], .int .i64 (8)])))) ∧
               (decide (((if ((0 - m12) : Int) > m12 then (0 - m12) else m12) : Int) ≤ 10000000) = false → Q (.tuple #[.agg #[.int .i64 (0), .int .i64 (0)], .int .i64 (8)])))) ∧
              (decide (((if ((0 - m11) : Int) > m11 then (0 - m11) else m11) : Int) ≤ 10000000) = false → Q (.tuple #[.agg #[.int .i64 (0), .int .i64 (0)], .int .i64 (8)])))) ∧
             (decide (((if ((0 - m10) : Int) > m10 then (0 - m10) else m10) : Int) ≤ 10000000) = false → Q (.tuple #[.agg #[.int .i64 (0), .int .i64 (0)], .int .i64 (8)])))) ∧
            (decide (((if ((0 - m9) : Int) > m9 then (0 - m9) else m9) : Int) ≤ 10000000) = false → Q (.tuple #[.agg #[.int .i64 (0), .int .i64 (0)], .int .i64 (8)])))) ∧
           (decide (((if ((0 - m8) : Int) > m8 then (0 - m8) else m8) : Int) ≤ 10000000) = false → Q (.tuple #[.agg #[.int .i64 (0), .int .i64 (0)], .int .i64 (8)])))) ∧
          (decide (((if ((0 - m7) : Int) > m7 then (0 - m7) else m7) : Int) ≤ 10000000) = false → Q (.tuple #[.agg #[.int .i64 (0), .int .i64 (0)], .int .i64 (8)])))) ∧
         (decide (((if ((0 - m6) : Int) > m6 then (0 - m6) else m6) : Int) ≤ 10000000) = false → Q (.tuple #[.agg #[.int .i64 (0), .int .i64 (0)], .int .i64 (8)])))) ∧
        (decide (((if ((0 - m5) : Int) > m5 then (0 - m5) else m5) : Int) ≤ 10000000) = false → Q (.tuple #[.agg #[.int .i64 (0), .int .i64 (0)], .int .i64 (8)])))) ∧
       (decide (((if ((0 - m4) : Int) > m4 then (0 - m4) else m4) : Int) ≤ 10000000) = false → Q (.tuple #[.agg #[.int .i64 (0), .int .i64 (0)], .int .i64 (8)])))) ∧
      (decide (((if ((0 - m3) : Int) > m3 then (0 - m3) else m3) : Int) ≤ 10000000) = false → Q (.tuple #[.agg #[.int .i64 (0), .int .i64 (0)], .int .i64 (8)])))) ∧
     (decide (((if ((0 - m2) : Int) > m2 then (0 - m2) else m2) : Int) ≤ 10000000) = false → Q (.tuple #[.agg #[.int .i64 (0), .int .i64 (0)], .int .i64 (8)])))) ∧
    (decide (((if ((0 - m1) : Int) > m1 then (0 - m1) else m1) : Int) ≤ 10000000) = false → Q (.tuple #[.agg #[.int .i64 (0), .int .i64 (0)], .int .i64 (8)])))) ∧
   (decide (((if ((0 - m0) : Int) > m0 then (0 - m0) else m0) : Int) ≤ 10000000) = false → Q (.tuple #[.agg #[.int .i64 (0), .int .i64 (0)], .int .i64 (8)])))) :
    ∃ v, Q v ∧ ∀ w, Calls Try.prog 69 #[.agg #[.int .i64 (m0), .int .i64 (m1), .int .i64 (m2), .int .i64 (m3), .int .i64 (m4), .int .i64 (m5), .int .i64 (m6), .int .i64 (m7), .int .i64 (m8), .int .i64 (m9), .int .i64 (m10), .int .i64 (m11), .int .i64 (m12), .int .i64 (m13), .int .i64 (m14), .int .i64 (m15)]] w fun e w' => e = .returned v ∧ Below w.heap.size w w' :=
  tree_at mixed names S1_ok (S := S1 Try.prog) (lf := 100000) (d := 60) (args := [(.agg [(.int .i64 (.var 0)), (.int .i64 (.var 1)), (.int .i64 (.var 2)), (.int .i64 (.var 3)), (.int .i64 (.var 4)), (.int .i64 (.var 5)), (.int .i64 (.var 6)), (.int .i64 (.var 7)), (.int .i64 (.var 8)), (.int .i64 (.var 9)), (.int .i64 (.var 10)), (.int .i64 (.var 11)), (.int .i64 (.var 12)), (.int .i64 (.var 13)), (.int .i64 (.var 14)), (.int .i64 (.var 15))])]) db_t { ivs := [(0, (-1000000000), 1000000000), (1, (-1000000000), 1000000000), (2, (-1000000000), 1000000000), (3, (-1000000000), 1000000000), (4, (-1000000000), 1000000000), (5, (-1000000000), 1000000000), (6, (-1000000000), 1000000000), (7, (-1000000000), 1000000000), (8, (-1000000000), 1000000000), (9, (-1000000000), 1000000000), (10, (-1000000000), 1000000000), (11, (-1000000000), 1000000000), (12, (-1000000000), 1000000000), (13, (-1000000000), 1000000000), (14, (-1000000000), 1000000000), (15, (-1000000000), 1000000000)], whs := [] } [m0, m1, m2, m3, m4, m5, m6, m7, m8, m9, m10, m11, m12, m13, m14, m15] [] 16 0 rfl rfl (by kernel_rfl) (by kernel_rfl) (by kernel_rfl)
    ⟨(fc r0 (fc r1 (fc r2 (fc r3 (fc r4 (fc r5 (fc r6 (fc r7 (fc r8 (fc r9 (fc r10 (fc r11 (fc r12 (fc r13 (fc r14 (fc r15 fz)))))))))))))))), fz⟩ H
end Go.Proofs.Ytlondnchmfhenaa.Ev
