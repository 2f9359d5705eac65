/- PolarWitnesses: walked. -/
import Derived.Test.YtlondnchmfhenaaRawf
import Derived.Test.YtlondnchmfhenaaEvu
namespace Go.Proofs.Ytlondnchmfhenaa.Ev
set_option linter.unusedSimpArgs false
open Go Go.RowKit
set_option maxRecDepth 100000
def ck_t : Tr :=
  (.ite (.icmp .leq (.lit (-1000000000)) (.var 0))
  (.ite (.icmp .leq (.var 0) (.lit 1000000000))
   (.ite (.icmp .leq (.lit (-1000000000)) (.var 1))
    (.ite (.icmp .leq (.var 1) (.lit 1000000000))
     (.ite (.icmp .leq (.lit (-1000000000)) (.var 2))
      (.ite (.icmp .leq (.var 2) (.lit 1000000000))
       (.ite (.icmp .leq (.lit (-1000000000)) (.var 3))
        (.ite (.icmp .leq (.var 3) (.lit 1000000000))
         (.ite (.icmp .leq (.lit (-1000000000)) (.var 4))
          (.ite (.icmp .leq (.var 4) (.lit 1000000000))
           (.ite (.icmp .leq (.lit (-1000000000)) (.var 5))
            (.ite (.icmp .leq (.var 5) (.lit 1000000000))
             (.ite (.icmp .leq (.lit (-1000000000)) (.var 6))
              (.ite (.icmp .leq (.var 6) (.lit 1000000000))
               (.ite (.icmp .leq (.lit (-1000000000)) (.var 7))
                (.ite (.icmp .leq (.var 7) (.lit 1000000000))
                 (.ite (.icmp .leq (.lit (-1000000000)) (.var 8))
                  (.ite (.icmp .leq (.var 8) (.lit 1000000000))
                   (.ite (.icmp .leq (.lit (-1000000000)) (.var 9))
                    (.ite (.icmp .leq (.var 9) (.lit 1000000000))
                     (.ite (.icmp .leq (.lit (-1000000000)) (.var 10))
                      (.ite (.icmp .leq (.var 10) (.lit 1000000000))
                       (.ite (.icmp .leq (.lit (-1000000000)) (.var 11))
                        (.ite (.icmp .leq (.var 11) (.lit 1000000000))
                         (.ite (.icmp .leq (.lit (-1000000000)) (.var 12))
                          (.ite (.icmp .leq (.var 12) (.lit 1000000000))
                           (.ite (.icmp .leq (.lit (-1000000000)) (.var 13))
                            (.ite (.icmp .leq (.var 13) (.lit 1000000000))
                             (.ite (.icmp .leq (.lit (-1000000000)) (.var 14))
                              (.ite (.icmp .leq (.var 14) (.lit 1000000000))
                               (.ite (.icmp .leq (.lit (-1000000000)) (.var 15))
                                (.ite (.icmp .leq (.var 15) (.lit 1000000000))
                                 (.ite (.icmp .leq (.lit (-40)) (.var 0))
                                  (.ite (.icmp .leq (.var 0) (.lit 40))
                                   (.ite (.icmp .leq (.lit (-40)) (.var 1))
                                    (.ite (.icmp .leq (.var 1) (.lit 40))
                                     (.ite (.icmp .leq (.lit (-40)) (.var 2))
                                      (.ite (.icmp .leq (.var 2) (.lit 40))
                                       (.ite (.icmp .leq (.lit (-40)) (.var 3))
                                        (.ite (.icmp .leq (.var 3) (.lit 40))
                                         (.ite (.icmp .leq (.lit (-40)) (.var 4))
                                          (.ite (.icmp .leq (.var 4) (.lit 40))
                                           (.ite (.icmp .leq (.lit (-40)) (.var 5))
                                            (.ite (.icmp .leq (.var 5) (.lit 40))
                                             (.ite (.icmp .leq (.lit (-40)) (.var 6))
                                              (.ite (.icmp .leq (.var 6) (.lit 40))
                                               (.ite (.icmp .leq (.lit (-40)) (.var 7))
                                                (.ite (.icmp .leq (.var 7) (.lit 40))
                                                 (.ite (.icmp .leq (.lit (-40)) (.var 8))
                                                  (.ite (.icmp .leq (.var 8) (.lit 40))
                                                   (.ite (.icmp .leq (.lit (-40)) (.var 9))
                                                    (.ite (.icmp .leq (.var 9) (.lit 40))
                                                     (.ite (.icmp .leq (.lit (-40)) (.var 10))
                                                      (.ite (.icmp .leq (.var 10) (.lit 40))
                                                       (.ite (.icmp .leq (.lit (-40)) (.var 11))
                                                        (.ite (.icmp .leq (.var 11) (.lit 40))
                                                         (.ite (.icmp .leq (.lit (-40)) (.var 12))
                                                          (.ite (.icmp .leq (.var 12) (.lit 40))
                                                           (.ite (.icmp .leq (.lit (-40)) (.var 13))
                                                            (.ite (.icmp .leq (.var 13) (.lit 40))
                                                             (.ite (.icmp .leq (.lit (-40)) (.var 14))
                                                              (.ite (.icmp .leq (.var 14) (.lit 40))
                                                               (.ite (.icmp .leq (.lit (-40)) (.var 15))
                                                                (.ite (.icmp .leq (.var 15) (.lit 40))
                                                                 (.leaf (.int .i64 (.lit 0)))
                                                                 (.leaf (.int .i64 (.lit 8))))
                                                                (.leaf (.int .i64 (.lit 8))))
                                                               (.leaf (.int .i64 (.lit 8))))
                                                              (.leaf (.int .i64 (.lit 8))))
                                                             (.leaf (.int .i64 (.lit 8))))
                                                            (.leaf (.int .i64 (.lit 8))))
                                                           (.leaf (.int .i64 (.lit 8))))
                                                          (.leaf (.int .i64 (.lit 8))))
                                                         (.leaf (.int .i64 (.lit 8))))
                                                        (.leaf (.int .i64 (.lit 8))))
                                                       (.leaf (.int .i64 (.lit 8))))
                                                      (.leaf (.int .i64 (.lit 8))))
                                                     (.leaf (.int .i64 (.lit 8))))
                                                    (.leaf (.int .i64 (.lit 8))))
                                                   (.leaf (.int .i64 (.lit 8))))
                                                  (.leaf (.int .i64 (.lit 8))))
                                                 (.leaf (.int .i64 (.lit 8))))
                                                (.leaf (.int .i64 (.lit 8))))
                                               (.leaf (.int .i64 (.lit 8))))
                                              (.leaf (.int .i64 (.lit 8))))
                                             (.leaf (.int .i64 (.lit 8))))
                                            (.leaf (.int .i64 (.lit 8))))
                                           (.leaf (.int .i64 (.lit 8))))
                                          (.leaf (.int .i64 (.lit 8))))
                                         (.leaf (.int .i64 (.lit 8))))
                                        (.leaf (.int .i64 (.lit 8))))
                                       (.leaf (.int .i64 (.lit 8))))
                                      (.leaf (.int .i64 (.lit 8))))
                                     (.leaf (.int .i64 (.lit 8))))
                                    (.leaf (.int .i64 (.lit 8))))
                                   (.leaf (.int .i64 (.lit 8))))
                                  (.leaf (.int .i64 (.lit 8))))
                                 (.leaf (.int .i64 (.lit 2))))
                                (.leaf (.int .i64 (.lit 2))))
                               (.leaf (.int .i64 (.lit 2))))
                              (.leaf (.int .i64 (.lit 2))))
                             (.leaf (.int .i64 (.lit 2))))
                            (.leaf (.int .i64 (.lit 2))))
                           (.leaf (.int .i64 (.lit 2))))
                          (.leaf (.int .i64 (.lit 2))))
                         (.leaf (.int .i64 (.lit 2))))
                        (.leaf (.int .i64 (.lit 2))))
                       (.leaf (.int .i64 (.lit 2))))
                      (.leaf (.int .i64 (.lit 2))))
                     (.leaf (.int .i64 (.lit 2))))
                    (.leaf (.int .i64 (.lit 2))))
                   (.leaf (.int .i64 (.lit 2))))
                  (.leaf (.int .i64 (.lit 2))))
                 (.leaf (.int .i64 (.lit 2))))
                (.leaf (.int .i64 (.lit 2))))
               (.leaf (.int .i64 (.lit 2))))
              (.leaf (.int .i64 (.lit 2))))
             (.leaf (.int .i64 (.lit 2))))
            (.leaf (.int .i64 (.lit 2))))
           (.leaf (.int .i64 (.lit 2))))
          (.leaf (.int .i64 (.lit 2))))
         (.leaf (.int .i64 (.lit 2))))
        (.leaf (.int .i64 (.lit 2))))
       (.leaf (.int .i64 (.lit 2))))
      (.leaf (.int .i64 (.lit 2))))
     (.leaf (.int .i64 (.lit 2))))
    (.leaf (.int .i64 (.lit 2))))
   (.leaf (.int .i64 (.lit 2))))
  (.leaf (.int .i64 (.lit 2))))
set_option maxHeartbeats 8000000 in
theorem ck {m0 m1 m2 m3 m4 m5 m6 m7 m8 m9 m10 m11 m12 m13 m14 m15 : Int} (r0 : (-9223372036854775808) ≤ m0 ∧ m0 ≤ 9223372036854775807) (r1 : (-9223372036854775808) ≤ m1 ∧ m1 ≤ 9223372036854775807) (r2 : (-9223372036854775808) ≤ m2 ∧ m2 ≤ 9223372036854775807) (r3 : (-9223372036854775808) ≤ m3 ∧ m3 ≤ 9223372036854775807) (r4 : (-9223372036854775808) ≤ m4 ∧ m4 ≤ 9223372036854775807) (r5 : (-9223372036854775808) ≤ m5 ∧ m5 ≤ 9223372036854775807) (r6 : (-9223372036854775808) ≤ m6 ∧ m6 ≤ 9223372036854775807) (r7 : (-9223372036854775808) ≤ m7 ∧ m7 ≤ 9223372036854775807) (r8 : (-9223372036854775808) ≤ m8 ∧ m8 ≤ 9223372036854775807) (r9 : (-9223372036854775808) ≤ m9 ∧ m9 ≤ 9223372036854775807) (r10 : (-9223372036854775808) ≤ m10 ∧ m10 ≤ 9223372036854775807) (r11 : (-9223372036854775808) ≤ m11 ∧ m11 ≤ 9223372036854775807) (r12 : (-9223372036854775808) ≤ m12 ∧ m12 ≤ 9223372036854775807) (r13 : (-9223372036854775808) ≤ m13 ∧ m13 ≤ 9223372036854775807) (r14 : (-9223372036854775808) ≤ m14 ∧ m14 ≤ 9223372036854775807) (r15 : (-9223372036854775808) ≤ m15 ∧ m15 ≤ 9223372036854775807) {Q : Value → Prop} (H :
  ((decide (((-1000000000) : Int) ≤ m0) = true → ((decide ((m0 : Int) ≤ 1000000000) = true → ((decide (((-1000000000) : Int) ≤ m1) = true → ((decide ((m1 : Int) ≤ 1000000000) = true → ((decide (((-1000000000) : Int) ≤ m2) = true → ((decide ((m2 : Int) ≤ 1000000000) = true → ((decide (((-1000000000) : Int) ≤ m3) = true → ((decide ((m3 : Int) ≤ 1000000000) = true → ((decide (((-1000000000) : Int) ≤ m4) = true → ((decide ((m4 : Int) ≤ 1000000000) = true → ((decide (((-1000000000) : Int) ≤ m5) = true → ((decide ((m5 : Int) ≤ 1000000000) = true → ((decide (((-1000000000) : Int) ≤ m6) = true → ((decide ((m6 : Int) ≤ 1000000000) = true → ((decide (((-1000000000) : Int) ≤ m7) = true → ((decide ((m7 : Int) ≤ 1000000000) = true → ((decide (((-1000000000) : Int) ≤ m8) = true → ((decide ((m8 : Int) ≤ 1000000000) = true → ((decide (((-1000000000) : Int) ≤ m9) = true → ((decide ((m9 : Int) ≤ 1000000000) = true → ((decide (((-1000000000) : Int) ≤ m10) = true → ((decide ((m10 : Int) ≤ 1000000000) = true → ((decide (((-1000000000) : Int) ≤ m11) = true → ((decide ((m11 : Int) ≤ 1000000000) = true → ((decide (((-1000000000) : Int) ≤ m12) = true → ((decide ((m12 : Int) ≤ 1000000000) = true → ((decide (((-1000000000) : Int) ≤ m13) = true → ((decide ((m13 : Int) ≤ 1000000000) = true → ((decide (((-1000000000) : Int) ≤ m14) = true → ((decide ((m14 : Int) ≤ 1000000000) = true → ((decide (((-1000000000) : Int) ≤ m15) = true → ((decide ((m15 : Int) ≤ 1000000000) = true → ((decide (((-40) : Int) ≤ m0) = true → ((decide ((m0 : Int) ≤ 40) = true → ((decide (((-40) : Int) ≤ m1) = true → ((decide ((m1 : Int) ≤ 40) = true → ((decide (((-40) : Int) ≤ m2) = true → ((decide ((m2 : Int) ≤ 40) = true → ((decide (((-40) : Int) ≤ m3) = true → ((decide ((m3 : Int) ≤ 40) = true → ((decide (((-40) : Int) ≤ m4) = true → ((decide ((m4 : Int) ≤ 40) = true → ((decide (((-40) : Int) ≤ m5) = true → ((decide ((m5 : Int) ≤ 40) = true → ((decide (((-40) : Int) ≤ m6) = true → ((decide ((m6 : Int) ≤ 40) = true → ((decide (((-40) : Int) ≤ m7) = true → ((decide ((m7 : Int) ≤ 40) = true → ((decide (((-40) : Int) ≤ m8) = true → ((decide ((m8 : Int) ≤ 40) = true → ((decide (((-40) : Int) ≤ m9) = true → ((decide ((m9 : Int) ≤ 40) = true → ((decide (((-40) : Int) ≤ m10) = true → ((decide ((m10 : Int) ≤ 40) = true → ((decide (((-40) : Int) ≤ m11) = true → ((decide ((m11 : Int) ≤ 40) = true → ((decide (((-40) : Int) ≤ m12) = true → ((decide ((m12 : Int) ≤ 40) = true → ((decide (((-40) : Int) ≤ m13) = true → ((decide ((m13 : Int) ≤ 40) = true → ((decide (((-40) : Int) ≤ m14) = true → ((decide ((m14 : Int) ≤ 40) = true → ((decide (((-40) : Int) ≤ m15) = true → ((decide ((m15 : Int) ≤ 40) = true → Q (.int .i64 (0))) ∧
                                                                  (decide ((m15 : Int) ≤ 40) = false → Q (.int .i64 (8))))) ∧
                                                                 (decide (((-40) : Int) ≤ m15) = false → Q (.int .i64 (8))))) ∧
                                                                (decide ((m14 : Int) ≤ 40) = false → Q (.int .i64 (8))))) ∧
                                                               (decide (((-40) : Int) ≤ m14) = false → Q (.int .i64 (8))))) ∧
                                                              (decide ((m13 : Int) ≤ 40) = false → Q (.int .i64 (8))))) ∧
                                                             (decide (((-40) : Int) ≤ m13) = false → Q (.int .i64 (8))))) ∧
                                                            (decide ((m12 : Int) ≤ 40) = false → Q (.int .i64 (8))))) ∧
                                                           (decide (((-40) : Int) ≤ m12) = false → Q (.int .i64 (8))))) ∧
                                                          (decide ((m11 : Int) ≤ 40) = false → Q (.int .i64 (8))))) ∧
                                                         (decide (((-40) : Int) ≤ m11) = false → Q (.int .i64 (8))))) ∧
                                                        (decide ((m10 : Int) ≤ 40) = false → Q (.int .i64 (8))))) ∧
                                                       (decide (((-40) : Int) ≤ m10) = false → Q (.int .i64 (8))))) ∧
                                                      (decide ((m9 : Int) ≤ 40) = false → Q (.int .i64 (8))))) ∧
                                                     (decide (((-40) : Int) ≤ m9) = false → Q (.int .i64 (8))))) ∧
                                                    (decide ((m8 : Int) ≤ 40) = false → Q (.int .i64 (8))))) ∧
                                                   (decide (((-40) : Int) ≤ m8) = false → Q (.int .i64 (8))))) ∧
                                                  (decide ((m7 : Int) ≤ 40) = false → Q (.int .i64 (8))))) ∧
                                                 (decide (((-40) : Int) ≤ m7) = false → Q (.int .i64 (8))))) ∧
                                                (decide ((m6 : Int) ≤ 40) = false → Q (.int .i64 (8))))) ∧
                                               (decide (((-40) : Int) ≤ m6) = false → Q (.int .i64 (8))))) ∧
                                              (decide ((m5 : Int) ≤ 40) = false → Q (.int .i64 (8))))) ∧
                                             (decide (((-40) : Int) ≤ m5) = false → Q (.int .i64 (8))))) ∧
                                            (decide ((m4 : Int) ≤ 40) = false → Q (.int .i64 (8))))) ∧
                                           (decide (((-40) : Int) ≤ m4) = false → Q (.int .i64 (8))))) ∧
                                          (decide ((m3 : Int) ≤ 40) = false → Q (.int .i64 (8))))) ∧
                                         (decide (((-40) : Int) ≤ m3) = false → Q (.int .i64 (8))))) ∧
                                        (decide ((m2 : Int) ≤ 40) = false → Q (.int .i64 (8))))) ∧
                                       (decide (((-40) : Int) ≤ m2) = false → Q (.int .i64 (8))))) ∧
                                      (decide ((m1 : Int) ≤ 40) = false → Q (.int .i64 (8))))) ∧
                                     (decide (((-40) : Int) ≤ m1) = false → Q (.int .i64 (8))))) ∧
                                    (decide ((m0 : Int) ≤ 40) = false → Q (.int .i64 (8))))) ∧
                                   (decide (((-40) : Int) ≤ m0) = false → Q (.int .i64 (8))))) ∧
                                  (decide ((m15 : Int) ≤ 1000000000) = false → Q (.int .i64 (2))))) ∧
                                 (decide (((-1000000000) : Int) ≤ m15) = false → Q (.int .i64 (2))))) ∧
                                (decide ((m14 : Int) ≤ 1000000000) = false → Q (.int .i64 (2))))) ∧
                               (decide (((-1000000000) : Int) ≤ m14) = false → Q (.int .i64 (2))))) ∧
                              (decide ((m13 : Int) ≤ 1000000000) = false → Q (.int .i64 (2))))) ∧
                             (decide (((-1000000000) : Int) ≤ m13) = false → Q (.int .i64 (2))))) ∧
                            (decide ((m12 : Int) ≤ 1000000000) = false → Q (.int .i64 (2))))) ∧
                           (decide (((-1000000000) : Int) ≤ m12) = false → Q (.int .i64 (2))))) ∧
                          (decide ((m11 : Int) ≤ 1000000000) = false → Q (.int .i64 (2))))) ∧
                         (decide (((-1000000000) : Int) ≤ m11) = false → Q (.int .i64 (2))))) ∧
                        (decide ((m10 : Int) ≤ 1000000000) = false → Q (.int .i64 (2))))) ∧
                       (decide (((-1000000000) : Int) ≤ m10) = false → Q (.int .i64 (2))))) ∧
                      (decide ((m9 : Int) ≤ 1000000000) = false → Q (.int .i64 (2))))) ∧
                     (decide (((-1000000000) : Int) ≤ m9) = false → Q (.int .i64 (2))))) ∧
                    (decide ((m8 : Int) ≤ 1000000000) = false → Q (.int .i64 (2))))) ∧
                   (decide (((-1000000000) : Int) ≤ m8) = false → Q (.int .i64 (2))))) ∧
                  (decide ((m7 : Int) ≤ 1000000000) = false → Q (.int .i64 (2))))) ∧
                 (decide (((-1000000000) : Int) ≤ m7) = false → Q (.int .i64 (2))))) ∧
                (decide ((m6 : Int) ≤ 1000000000) = false → Q (.int .i64 (2))))) ∧
               (decide (((-1000000000) : Int) ≤ m6) = false → Q (.int .i64 (2))))) ∧
              (decide ((m5 : Int) ≤ 1000000000) = false → Q (.int .i64 (2))))) ∧
             (decide (((-1000000000) : Int) ≤ m5) = false → Q (.int .i64 (2))))) ∧
            (decide ((m4 : Int) ≤ 1000000000) = false → Q (.int .i64 (2))))) ∧
           (decide (((-1000000000) : Int) ≤ m4) = false → Q (.int .i64 (2))))) ∧
          (decide ((m3 : Int) ≤ 1000000000) = false → Q (.int .i64 (2))))) ∧
         (decide (((-1000000000) : Int) ≤ m3) = false → Q (.int .i64 (2))))) ∧
        (decide ((m2 : Int) ≤ 1000000000) = false → Q (.int .i64 (2))))) ∧
       (decide (((-1000000000) : Int) ≤ m2) = false → Q (.int .i64 (2))))) ∧
      (decide ((m1 : Int) ≤ 1000000000) = false → Q (.int .i64 (2))))) ∧
     (decide (((-1000000000) : Int) ≤ m1) = false → Q (.int .i64 (2))))) ∧
    (decide ((m0 : Int) ≤ 1000000000) = false → Q (.int .i64 (2))))) ∧
   (decide (((-1000000000) : Int) ≤ m0) = false → Q (.int .i64 (2))))) :
    ∃ v, Q v ∧ ∀ w, Calls Try.prog 127 #[.agg #[.int .i64 (m0), .int .i64 (m1), .int .i64 (m2), .int .i64 (m3), .int .i64 (m4), .int .i64 (m5), .int .i64 (m6), .int .i64 (m7), .int .i64 (m8), .int .i64 (m9), .int .i64 (m10), .int .i64 (m11), .int .i64 (m12), .int .i64 (m13), .int .i64 (m14), .int .i64 (m15)]] w fun e w' => e = .returned v ∧ Below w.heap.size w w' :=
  tree_at mixed names S1_ok (S := S1 Try.prog) (lf := 100000) (d := 60) (args := [(.agg [(.int .i64 (.var 0)), (.int .i64 (.var 1)), (.int .i64 (.var 2)), (.int .i64 (.var 3)), (.int .i64 (.var 4)), (.int .i64 (.var 5)), (.int .i64 (.var 6)), (.int .i64 (.var 7)), (.int .i64 (.var 8)), (.int .i64 (.var 9)), (.int .i64 (.var 10)), (.int .i64 (.var 11)), (.int .i64 (.var 12)), (.int .i64 (.var 13)), (.int .i64 (.var 14)), (.int .i64 (.var 15))])]) ck_t { ivs := [(0, (-9223372036854775808), 9223372036854775807), (1, (-9223372036854775808), 9223372036854775807), (2, (-9223372036854775808), 9223372036854775807), (3, (-9223372036854775808), 9223372036854775807), (4, (-9223372036854775808), 9223372036854775807), (5, (-9223372036854775808), 9223372036854775807), (6, (-9223372036854775808), 9223372036854775807), (7, (-9223372036854775808), 9223372036854775807), (8, (-9223372036854775808), 9223372036854775807), (9, (-9223372036854775808), 9223372036854775807), (10, (-9223372036854775808), 9223372036854775807), (11, (-9223372036854775808), 9223372036854775807), (12, (-9223372036854775808), 9223372036854775807), (13, (-9223372036854775808), 9223372036854775807), (14, (-9223372036854775808), 9223372036854775807), (15, (-9223372036854775808), 9223372036854775807)], whs := [] } [m0, m1, m2, m3, m4, m5, m6, m7, m8, m9, m10, m11, m12, m13, m14, m15] [] 16 0 rfl rfl (by kernel_rfl) (by kernel_rfl) (by kernel_rfl)
    ⟨(fc r0 (fc r1 (fc r2 (fc r3 (fc r4 (fc r5 (fc r6 (fc r7 (fc r8 (fc r9 (fc r10 (fc r11 (fc r12 (fc r13 (fc r14 (fc r15 fz)))))))))))))))), fz⟩ H
def te_t : Tr :=
  (.ite (.icmp .leq (.lit (-1000000000)) (.var 0))
  (.ite (.icmp .leq (.var 0) (.lit 1000000000))
   (.ite (.icmp .leq (.lit (-1000000000)) (.var 1))
    (.ite (.icmp .leq (.var 1) (.lit 1000000000))
     (.ite (.icmp .leq (.lit (-1000000000)) (.var 2))
      (.ite (.icmp .leq (.var 2) (.lit 1000000000))
       (.ite (.icmp .leq (.lit (-1000000000)) (.var 3))
        (.ite (.icmp .leq (.var 3) (.lit 1000000000))
         (.ite (.icmp .leq (.lit (-1000000000)) (.var 4))
          (.ite (.icmp .leq (.var 4) (.lit 1000000000))
           (.ite (.icmp .leq (.lit (-1000000000)) (.var 5))
            (.ite (.icmp .leq (.var 5) (.lit 1000000000))
             (.ite (.icmp .leq (.lit (-1000000000)) (.var 6))
              (.ite (.icmp .leq (.var 6) (.lit 1000000000))
               (.ite (.icmp .leq (.lit (-1000000000)) (.var 7))
                (.ite (.icmp .leq (.var 7) (.lit 1000000000))
                 (.ite (.icmp .leq (.lit (-1000000000)) (.var 8))
                  (.ite (.icmp .leq (.var 8) (.lit 1000000000))
                   (.ite (.icmp .leq (.lit (-1000000000)) (.var 9))
                    (.ite (.icmp .leq (.var 9) (.lit 1000000000))
                     (.ite (.icmp .leq (.lit (-1000000000)) (.var 10))
                      (.ite (.icmp .leq (.var 10) (.lit 1000000000))
                       (.ite (.icmp .leq (.lit (-1000000000)) (.var 11))
                        (.ite (.icmp .leq (.var 11) (.lit 1000000000))
                         (.ite (.icmp .leq (.lit (-1000000000)) (.var 12))
                          (.ite (.icmp .leq (.var 12) (.lit 1000000000))
                           (.ite (.icmp .leq (.lit (-1000000000)) (.var 13))
                            (.ite (.icmp .leq (.var 13) (.lit 1000000000))
                             (.ite (.icmp .leq (.lit (-1000000000)) (.var 14))
                              (.ite (.icmp .leq (.var 14) (.lit 1000000000))
                               (.ite (.icmp .leq (.lit (-1000000000)) (.var 15))
                                (.ite (.icmp .leq (.var 15) (.lit 1000000000))
                                 (.ite (.icmp .leq (.bin .maxI (.var 0) (.bin .subI (.lit 0) (.var 0))) (.lit 40))
                                  (.ite (.icmp .leq (.bin .maxI (.var 1) (.bin .subI (.lit 0) (.var 1))) (.lit 40))
                                   (.ite (.icmp .leq (.bin .maxI (.var 2) (.bin .subI (.lit 0) (.var 2))) (.lit 40))
                                    (.ite (.icmp .leq (.bin .maxI (.var 3) (.bin .subI (.lit 0) (.var 3))) (.lit 40))
                                     (.ite (.icmp .leq (.bin .maxI (.var 4) (.bin .subI (.lit 0) (.var 4))) (.lit 40))
                                      (.ite (.icmp .leq (.bin .maxI (.var 5) (.bin .subI (.lit 0) (.var 5))) (.lit 40))
                                       (.ite (.icmp .leq (.bin .maxI (.var 6) (.bin .subI (.lit 0) (.var 6))) (.lit 40))
                                        (.ite (.icmp .leq (.bin .maxI (.var 7) (.bin .subI (.lit 0) (.var 7))) (.lit 40))
                                         (.ite (.icmp .leq (.bin .maxI (.var 8) (.bin .subI (.lit 0) (.var 8))) (.lit 40))
                                          (.ite (.icmp .leq (.bin .maxI (.var 9) (.bin .subI (.lit 0) (.var 9))) (.lit 40))
                                           (.ite (.icmp .leq (.bin .maxI (.var 10) (.bin .subI (.lit 0) (.var 10))) (.lit 40))
                                            (.ite (.icmp .leq (.bin .maxI (.var 11) (.bin .subI (.lit 0) (.var 11))) (.lit 40))
                                             (.ite (.icmp .leq (.bin .maxI (.var 12) (.bin .subI (.lit 0) (.var 12))) (.lit 40))
                                              (.ite (.icmp .leq (.bin .maxI (.var 13) (.bin .subI (.lit 0) (.var 13))) (.lit 40))
                                               (.ite (.icmp .leq (.bin .maxI (.var 14) (.bin .subI (.lit 0) (.var 14))) (.lit 40))
                                                (.ite (.icmp .leq (.bin .maxI (.var 15) (.bin .subI (.lit 0) (.var 15))) (.lit 40))
                                                 (.leaf (.int .i64 (.lit 0)))
                                                 (.leaf (.int .i64 (.lit 8))))
                                                (.leaf (.int .i64 (.lit 8))))
                                               (.leaf (.int .i64 (.lit 8))))
                                              (.leaf (.int .i64 (.lit 8))))
                                             (.leaf (.int .i64 (.lit 8))))
                                            (.leaf (.int .i64 (.lit 8))))
                                           (.leaf (.int .i64 (.lit 8))))
                                          (.leaf (.int .i64 (.lit 8))))
                                         (.leaf (.int .i64 (.lit 8))))
                                        (.leaf (.int .i64 (.lit 8))))
                                       (.leaf (.int .i64 (.lit 8))))
                                      (.leaf (.int .i64 (.lit 8))))
                                     (.leaf (.int .i64 (.lit 8))))
                                    (.leaf (.int .i64 (.lit 8))))
                                   (.leaf (.int .i64 (.lit 8))))
                                  (.leaf (.int .i64 (.lit 8))))
                                 (.leaf (.int .i64 (.lit 2))))
                                (.leaf (.int .i64 (.lit 2))))
                               (.leaf (.int .i64 (.lit 2))))
                              (.leaf (.int .i64 (.lit 2))))
                             (.leaf (.int .i64 (.lit 2))))
                            (.leaf (.int .i64 (.lit 2))))
                           (.leaf (.int .i64 (.lit 2))))
                          (.leaf (.int .i64 (.lit 2))))
                         (.leaf (.int .i64 (.lit 2))))
                        (.leaf (.int .i64 (.lit 2))))
                       (.leaf (.int .i64 (.lit 2))))
                      (.leaf (.int .i64 (.lit 2))))
                     (.leaf (.int .i64 (.lit 2))))
                    (.leaf (.int .i64 (.lit 2))))
                   (.leaf (.int .i64 (.lit 2))))
                  (.leaf (.int .i64 (.lit 2))))
                 (.leaf (.int .i64 (.lit 2))))
                (.leaf (.int .i64 (.lit 2))))
               (.leaf (.int .i64 (.lit 2))))
              (.leaf (.int .i64 (.lit 2))))
             (.leaf (.int .i64 (.lit 2))))
            (.leaf (.int .i64 (.lit 2))))
           (.leaf (.int .i64 (.lit 2))))
          (.leaf (.int .i64 (.lit 2))))
         (.leaf (.int .i64 (.lit 2))))
        (.leaf (.int .i64 (.lit 2))))
       (.leaf (.int .i64 (.lit 2))))
      (.leaf (.int .i64 (.lit 2))))
     (.leaf (.int .i64 (.lit 2))))
    (.leaf (.int .i64 (.lit 2))))
   (.leaf (.int .i64 (.lit 2))))
  (.leaf (.int .i64 (.lit 2))))
set_option maxHeartbeats 8000000 in
theorem te {m0 m1 m2 m3 m4 m5 m6 m7 m8 m9 m10 m11 m12 m13 m14 m15 : Int} (r0 : (-9223372036854775808) ≤ m0 ∧ m0 ≤ 9223372036854775807) (r1 : (-9223372036854775808) ≤ m1 ∧ m1 ≤ 9223372036854775807) (r2 : (-9223372036854775808) ≤ m2 ∧ m2 ≤ 9223372036854775807) (r3 : (-9223372036854775808) ≤ m3 ∧ m3 ≤ 9223372036854775807) (r4 : (-9223372036854775808) ≤ m4 ∧ m4 ≤ 9223372036854775807) (r5 : (-9223372036854775808) ≤ m5 ∧ m5 ≤ 9223372036854775807) (r6 : (-9223372036854775808) ≤ m6 ∧ m6 ≤ 9223372036854775807) (r7 : (-9223372036854775808) ≤ m7 ∧ m7 ≤ 9223372036854775807) (r8 : (-9223372036854775808) ≤ m8 ∧ m8 ≤ 9223372036854775807) (r9 : (-9223372036854775808) ≤ m9 ∧ m9 ≤ 9223372036854775807) (r10 : (-9223372036854775808) ≤ m10 ∧ m10 ≤ 9223372036854775807) (r11 : (-9223372036854775808) ≤ m11 ∧ m11 ≤ 9223372036854775807) (r12 : (-9223372036854775808) ≤ m12 ∧ m12 ≤ 9223372036854775807) (r13 : (-9223372036854775808) ≤ m13 ∧ m13 ≤ 9223372036854775807) (r14 : (-9223372036854775808) ≤ m14 ∧ m14 ≤ 9223372036854775807) (r15 : (-9223372036854775808) ≤ m15 ∧ m15 ≤ 9223372036854775807) {Q : Value → Prop} (H :
  ((decide (((-1000000000) : Int) ≤ m0) = true → ((decide ((m0 : Int) ≤ 1000000000) = true → ((decide (((-1000000000) : Int) ≤ m1) = true → ((decide ((m1 : Int) ≤ 1000000000) = true → ((decide (((-1000000000) : Int) ≤ m2) = true → ((decide ((m2 : Int) ≤ 1000000000) = true → ((decide (((-1000000000) : Int) ≤ m3) = true → ((decide ((m3 : Int) ≤ 1000000000) = true → ((decide (((-1000000000) : Int) ≤ m4) = true → ((decide ((m4 : Int) ≤ 1000000000) = true → ((decide (((-1000000000) : Int) ≤ m5) = true → ((decide ((m5 : Int) ≤ 1000000000) = true → ((decide (((-1000000000) : Int) ≤ m6) = true → ((decide ((m6 : Int) ≤ 1000000000) = true → ((decide (((-1000000000) : Int) ≤ m7) = true → ((decide ((m7 : Int) ≤ 1000000000) = true → ((decide (((-1000000000) : Int) ≤ m8) = true → ((decide ((m8 : Int) ≤ 1000000000) = true → ((decide (((-1000000000) : Int) ≤ m9) = true → ((decide ((m9 : Int) ≤ 1000000000) = true → ((decide (((-1000000000) : Int) ≤ m10) = true → ((decide ((m10 : Int) ≤ 1000000000) = true → ((decide (((-1000000000) : Int) ≤ m11) = true → ((decide ((m11 : Int) ≤ 1000000000) = true → ((decide (((-1000000000) : Int) ≤ m12) = true → ((decide ((m12 : Int) ≤ 1000000000) = true → ((decide (((-1000000000) : Int) ≤ m13) = true → ((decide ((m13 : Int) ≤ 1000000000) = true → ((decide (((-1000000000) : Int) ≤ m14) = true → ((decide ((m14 : Int) ≤ 1000000000) = true → ((decide (((-1000000000) : Int) ≤ m15) = true → ((decide ((m15 : Int) ≤ 1000000000) = true → ((decide (((if ((0 - m0) : Int) > m0 then (0 - m0) else m0) : Int) ≤ 40) = true → ((decide (((if ((0 - m1) : Int) > m1 then (0 - m1) else m1) : Int) ≤ 40) = true → ((decide (((if ((0 - m2) : Int) > m2 then (0 - m2) else m2) : Int) ≤ 40) = true → ((decide (((if ((0 - m3) : Int) > m3 then (0 - m3) else m3) : Int) ≤ 40) = true → ((decide (((if ((0 - m4) : Int) > m4 then (0 - m4) else m4) : Int) ≤ 40) = true → ((decide (((if ((0 - m5) : Int) > m5 then (0 - m5) else m5) : Int) ≤ 40) = true → ((decide (((if ((0 - m6) : Int) > m6 then (0 - m6) else m6) : Int) ≤ 40) = true → ((decide (((if ((0 - m7) : Int) > m7 then (0 - m7) else m7) : Int) ≤ 40) = true → ((decide (((if ((0 - m8) : Int) > m8 then (0 - m8) else m8) : Int) ≤ 40) = true → ((decide (((if ((0 - m9) : Int) > m9 then (0 - m9) else m9) : Int) ≤ 40) = true → ((decide (((if ((0 - m10) : Int) > m10 then (0 - m10) else m10) : Int) ≤ 40) = true → ((decide (((if ((0 - m11) : Int) > m11 then (0 - m11) else m11) : Int) ≤ 40) = true → ((decide (((if ((0 - m12) : Int) > m12 then (0 - m12) else m12) : Int) ≤ 40) = true → ((decide (((if ((0 - m13) : Int) > m13 then (0 - m13) else m13) : Int) ≤ 40) = true → ((decide (((if ((0 - m14) : Int) > m14 then (0 - m14) else m14) : Int) ≤ 40) = true → ((decide (((if ((0 - m15) : Int) > m15 then (0 - m15) else m15) : Int) ≤ 40) = true → Q (.int .i64 (0))) ∧
                                                  (decide (((if ((0 - m15) : Int) > m15 then (0 - m15) else m15) : Int) ≤ 40) = false → Q (.int .i64 (8))))) ∧
                                                 (decide (((if ((0 - m14) : Int) > m14 then (0 - m14) else m14) : Int) ≤ 40) = false → Q (.int .i64 (8))))) ∧
                                                (decide (((if ((0 - m13) : Int) > m13 then (0 - m13) else m13) : Int) ≤ 40) = false → Q (.int .i64 (8))))) ∧
                                               (decide (((if ((0 - m12) : Int) > m12 then (0 - m12) else m12) : Int) ≤ 40) = false → Q (.int .i64 (8))))) ∧
                                              (decide (((if ((0 - m11) : Int) > m11 then (0 - m11) else m11) : Int) ≤ 40) = false → Q (.int .i64 (8))))) ∧
                                             (decide (((if ((0 - m10) : Int) > m10 then (0 - m10) else m10) : Int) ≤ 40) = false → Q (.int .i64 (8))))) ∧
                                            (decide (((if ((0 - m9) : Int) > m9 then (0 - m9) else m9) : Int) ≤ 40) = false → Q (.int .i64 (8))))) ∧
                                           (decide (((if ((0 - m8) : Int) > m8 then (0 - m8) else m8) : Int) ≤ 40) = false → Q (.int .i64 (8))))) ∧
                                          (decide (((if ((0 - m7) : Int) > m7 then (0 - m7) else m7) : Int) ≤ 40) = false → Q (.int .i64 (8))))) ∧
                                         (decide (((if ((0 - m6) : Int) > m6 then (0 - m6) else m6) : Int) ≤ 40) = false → Q (.int .i64 (8))))) ∧
                                        (decide (((if ((0 - m5) : Int) > m5 then (0 - m5) else m5) : Int) ≤ 40) = false → Q (.int .i64 (8))))) ∧
                                       (decide (((if ((0 - m4) : Int) > m4 then (0 - m4) else m4) : Int) ≤ 40) = false → Q (.int .i64 (8))))) ∧
                                      (decide (((if ((0 - m3) : Int) > m3 then (0 - m3) else m3) : Int) ≤ 40) = false → Q (.int .i64 (8))))) ∧
                                     (decide (((if ((0 - m2) : Int) > m2 then (0 - m2) else m2) : Int) ≤ 40) = false → Q (.int .i64 (8))))) ∧
                                    (decide (((if ((0 - m1) : Int) > m1 then (0 - m1) else m1) : Int) ≤ 40) = false → Q (.int .i64 (8))))) ∧
                                   (decide (((if ((0 - m0) : Int) > m0 then (0 - m0) else m0) : Int) ≤ 40) = false → Q (.int .i64 (8))))) ∧
                                  (decide ((m15 : Int) ≤ 1000000000) = false → Q (.int .i64 (2))))) ∧
                                 (decide (((-1000000000) : Int) ≤ m15) = false → Q (.int .i64 (2))))) ∧
                                (decide ((m14 : Int) ≤ 1000000000) = false → Q (.int .i64 (2))))) ∧
                               (decide (((-1000000000) : Int) ≤ m14) = false → Q (.int .i64 (2))))) ∧
                              (decide ((m13 : Int) ≤ 1000000000) = false → Q (.int .i64 (2))))) ∧
                             (decide (((-1000000000) : Int) ≤ m13) = false → Q (.int .i64 (2))))) ∧
                            (decide ((m12 : Int) ≤ 1000000000) = false → Q (.int .i64 (2))))) ∧
                           (decide (((-1000000000) : Int) ≤ m12) = false → Q (.int .i64 (2))))) ∧
                          (decide ((m11 : Int) ≤ 1000000000) = false → Q (.int .i64 (2))))) ∧
                         (decide (((-1000000000) : Int) ≤ m11) = false → Q (.int .i64 (2))))) ∧
                        (decide ((m10 : Int) ≤ 1000000000) = false → Q (.int .i64 (2))))) ∧
                       (decide (((-1000000000) : Int) ≤ m10) = false → Q (.int .i64 (2))))) ∧
                      (decide ((m9 : Int) ≤ 1000000000) = false → Q (.int .i64 (2))))) ∧
                     (decide (((-1000000000) : Int) ≤ m9) = false → Q (.int .i64 (2))))) ∧
                    (decide ((m8 : Int) ≤ 1000000000) = false → Q (.int .i64 (2))))) ∧
                   (decide (((-1000000000) : Int) ≤ m8) = false → Q (.int .i64 (2))))) ∧
                  (decide ((m7 : Int) ≤ 1000000000) = false → Q (.int .i64 (2))))) ∧
                 (decide (((-1000000000) : Int) ≤ m7) = false → Q (.int .i64 (2))))) ∧
                (decide ((m6 : Int) ≤ 1000000000) = false → Q (.int .i64 (2))))) ∧
               (decide (((-1000000000) : Int) ≤ m6) = false → Q (.int .i64 (2))))) ∧
              (decide ((m5 : Int) ≤ 1000000000) = false → Q (.int .i64 (2))))) ∧
             (decide (((-1000000000) : Int) ≤ m5) = false → Q (.int .i64 (2))))) ∧
            (decide ((m4 : Int) ≤ 1000000000) = false → Q (.int .i64 (2))))) ∧
           (decide (((-1000000000) : Int) ≤ m4) = false → Q (.int .i64 (2))))) ∧
          (decide ((m3 : Int) ≤ 1000000000) = false → Q (.int .i64 (2))))) ∧
         (decide (((-1000000000) : Int) ≤ m3) = false → Q (.int .i64 (2))))) ∧
        (decide ((m2 : Int) ≤ 1000000000) = false → Q (.int .i64 (2))))) ∧
       (decide (((-1000000000) : Int) ≤ m2) = false → Q (.int .i64 (2))))) ∧
      (decide ((m1 : Int) ≤ 1000000000) = false → Q (.int .i64 (2))))) ∧
     (decide (((-1000000000) : Int) ≤ m1) = false → Q (.int .i64 (2))))) ∧
    (decide ((m0 : Int) ≤ 1000000000) = false → Q (.int .i64 (2))))) ∧
   (decide (((-1000000000) : Int) ≤ m0) = false → Q (.int .i64 (2))))) :
    ∃ v, Q v ∧ ∀ w, Calls Try.prog 73 #[.agg #[.int .i64 (m0), .int .i64 (m1), .int .i64 (m2), .int .i64 (m3), .int .i64 (m4), .int .i64 (m5), .int .i64 (m6), .int .i64 (m7), .int .i64 (m8), .int .i64 (m9), .int .i64 (m10), .int .i64 (m11), .int .i64 (m12), .int .i64 (m13), .int .i64 (m14), .int .i64 (m15)]] w fun e w' => e = .returned v ∧ Below w.heap.size w w' :=
  tree_at mixed names S1_ok (S := S1 Try.prog) (lf := 100000) (d := 60) (args := [(.agg [(.int .i64 (.var 0)), (.int .i64 (.var 1)), (.int .i64 (.var 2)), (.int .i64 (.var 3)), (.int .i64 (.var 4)), (.int .i64 (.var 5)), (.int .i64 (.var 6)), (.int .i64 (.var 7)), (.int .i64 (.var 8)), (.int .i64 (.var 9)), (.int .i64 (.var 10)), (.int .i64 (.var 11)), (.int .i64 (.var 12)), (.int .i64 (.var 13)), (.int .i64 (.var 14)), (.int .i64 (.var 15))])]) te_t { ivs := [(0, (-9223372036854775808), 9223372036854775807), (1, (-9223372036854775808), 9223372036854775807), (2, (-9223372036854775808), 9223372036854775807), (3, (-9223372036854775808), 9223372036854775807), (4, (-9223372036854775808), 9223372036854775807), (5, (-9223372036854775808), 9223372036854775807), (6, (-9223372036854775808), 9223372036854775807), (7, (-9223372036854775808), 9223372036854775807), (8, (-9223372036854775808), 9223372036854775807), (9, (-9223372036854775808), 9223372036854775807), (10, (-9223372036854775808), 9223372036854775807), (11, (-9223372036854775808), 9223372036854775807), (12, (-9223372036854775808), 9223372036854775807), (13, (-9223372036854775808), 9223372036854775807), (14, (-9223372036854775808), 9223372036854775807), (15, (-9223372036854775808), 9223372036854775807)], whs := [] } [m0, m1, m2, m3, m4, m5, m6, m7, m8, m9, m10, m11, m12, m13, m14, m15] [] 16 0 rfl rfl (by kernel_rfl) (by kernel_rfl) (by kernel_rfl)
    ⟨(fc r0 (fc r1 (fc r2 (fc r3 (fc r4 (fc r5 (fc r6 (fc r7 (fc r8 (fc r9 (fc r10 (fc r11 (fc r12 (fc r13 (fc r14 (fc r15 fz)))))))))))))))), fz⟩ H
def vt_t : Tr :=
  (.leaf (.int .i64 (.bin .addI (.bin .addI (.bin .addI (.bin .addI (.bin .mulI (.var 66) (.bin .addI (.bin .addI (.bin .addI (.bin .subI (.bin .mulI (.var 2) (.var 66)) (.bin .mulI (.var 3) (.var 67))) (.bin .subI (.bin .mulI (.var 6) (.var 70)) (.bin .mulI (.var 7) (.var 71)))) (.bin .subI (.bin .mulI (.var 10) (.var 74)) (.bin .mulI (.var 11) (.var 75)))) (.bin .subI (.bin .mulI (.var 14) (.var 78)) (.bin .mulI (.var 15) (.var 79))))) (.bin .mulI (.var 67) (.bin .addI (.bin .addI (.bin .addI (.bin .addI (.bin .mulI (.var 2) (.var 67)) (.bin .mulI (.var 3) (.var 66))) (.bin .addI (.bin .mulI (.var 6) (.var 71)) (.bin .mulI (.var 7) (.var 70)))) (.bin .addI (.bin .mulI (.var 10) (.var 75)) (.bin .mulI (.var 11) (.var 74)))) (.bin .addI (.bin .mulI (.var 14) (.var 79)) (.bin .mulI (.var 15) (.var 78)))))) (.bin .addI (.bin .mulI (.var 70) (.bin .addI (.bin .addI (.bin .addI (.bin .subI (.bin .mulI (.var 18) (.var 66)) (.bin .mulI (.var 19) (.var 67))) (.bin .subI (.bin .mulI (.var 22) (.var 70)) (.bin .mulI (.var 23) (.var 71)))) (.bin .subI (.bin .mulI (.var 26) (.var 74)) (.bin .mulI (.var 27) (.var 75)))) (.bin .subI (.bin .mulI (.var 30) (.var 78)) (.bin .mulI (.var 31) (.var 79))))) (.bin .mulI (.var 71) (.bin .addI (.bin .addI (.bin .addI (.bin .addI (.bin .mulI (.var 18) (.var 67)) (.bin .mulI (.var 19) (.var 66))) (.bin .addI (.bin .mulI (.var 22) (.var 71)) (.bin .mulI (.var 23) (.var 70)))) (.bin .addI (.bin .mulI (.var 26) (.var 75)) (.bin .mulI (.var 27) (.var 74)))) (.bin .addI (.bin .mulI (.var 30) (.var 79)) (.bin .mulI (.var 31) (.var 78))))))) (.bin .addI (.bin .mulI (.var 74) (.bin .addI (.bin .addI (.bin .addI (.bin .subI (.bin .mulI (.var 34) (.var 66)) (.bin .mulI (.var 35) (.var 67))) (.bin .subI (.bin .mulI (.var 38) (.var 70)) (.bin .mulI (.var 39) (.var 71)))) (.bin .subI (.bin .mulI (.var 42) (.var 74)) (.bin .mulI (.var 43) (.var 75)))) (.bin .subI (.bin .mulI (.var 46) (.var 78)) (.bin .mulI (.var 47) (.var 79))))) (.bin .mulI (.var 75) (.bin .addI (.bin .addI (.bin .addI (.bin .addI (.bin .mulI (.var 34) (.var 67)) (.bin .mulI (.var 35) (.var 66))) (.bin .addI (.bin .mulI (.var 38) (.var 71)) (.bin .mulI (.var 39) (.var 70)))) (.bin .addI (.bin .mulI (.var 42) (.var 75)) (.bin .mulI (.var 43) (.var 74)))) (.bin .addI (.bin .mulI (.var 46) (.var 79)) (.bin .mulI (.var 47) (.var 78))))))) (.bin .addI (.bin .mulI (.var 78) (.bin .addI (.bin .addI (.bin .addI (.bin .subI (.bin .mulI (.var 50) (.var 66)) (.bin .mulI (.var 51) (.var 67))) (.bin .subI (.bin .mulI (.var 54) (.var 70)) (.bin .mulI (.var 55) (.var 71)))) (.bin .subI (.bin .mulI (.var 58) (.var 74)) (.bin .mulI (.var 59) (.var 75)))) (.bin .subI (.bin .mulI (.var 62) (.var 78)) (.bin .mulI (.var 63) (.var 79))))) (.bin .mulI (.var 79) (.bin .addI (.bin .addI (.bin .addI (.bin .addI (.bin .mulI (.var 50) (.var 67)) (.bin .mulI (.var 51) (.var 66))) (.bin .addI (.bin .mulI (.var 54) (.var 71)) (.bin .mulI (.var 55) (.var 70)))) (.bin .addI (.bin .mulI (.var 58) (.var 75)) (.bin .mulI (.var 59) (.var 74)))) (.bin .addI (.bin .mulI (.var 62) (.var 79)) (.bin .mulI (.var 63) (.var 78)))))))))
set_option maxHeartbeats 8000000 in
theorem vt {a0 b0 a1 b1 a2 b2 a3 b3 a4 b4 a5 b5 a6 b6 a7 b7 a8 b8 a9 b9 a10 b10 a11 b11 a12 b12 a13 b13 a14 b14 a15 b15 x0 y0 x1 y1 x2 y2 x3 y3 : Nat} {A0 B0 A1 B1 A2 B2 A3 B3 A4 B4 A5 B5 A6 B6 A7 B7 A8 B8 A9 B9 A10 B10 A11 B11 A12 B12 A13 B13 A14 B14 A15 B15 X0 Y0 X1 Y1 X2 Y2 X3 Y3 : Int} (r2 : (-160) ≤ A0 ∧ A0 ≤ 160) (r3 : (-160) ≤ B0 ∧ B0 ≤ 160) (r6 : (-160) ≤ A1 ∧ A1 ≤ 160) (r7 : (-160) ≤ B1 ∧ B1 ≤ 160) (r10 : (-160) ≤ A2 ∧ A2 ≤ 160) (r11 : (-160) ≤ B2 ∧ B2 ≤ 160) (r14 : (-160) ≤ A3 ∧ A3 ≤ 160) (r15 : (-160) ≤ B3 ∧ B3 ≤ 160) (r18 : (-160) ≤ A4 ∧ A4 ≤ 160) (r19 : (-160) ≤ B4 ∧ B4 ≤ 160) (r22 : (-160) ≤ A5 ∧ A5 ≤ 160) (r23 : (-160) ≤ B5 ∧ B5 ≤ 160) (r26 : (-160) ≤ A6 ∧ A6 ≤ 160) (r27 : (-160) ≤ B6 ∧ B6 ≤ 160) (r30 : (-160) ≤ A7 ∧ A7 ≤ 160) (r31 : (-160) ≤ B7 ∧ B7 ≤ 160) (r34 : (-160) ≤ A8 ∧ A8 ≤ 160) (r35 : (-160) ≤ B8 ∧ B8 ≤ 160) (r38 : (-160) ≤ A9 ∧ A9 ≤ 160) (r39 : (-160) ≤ B9 ∧ B9 ≤ 160) (r42 : (-160) ≤ A10 ∧ A10 ≤ 160) (r43 : (-160) ≤ B10 ∧ B10 ≤ 160) (r46 : (-160) ≤ A11 ∧ A11 ≤ 160) (r47 : (-160) ≤ B11 ∧ B11 ≤ 160) (r50 : (-160) ≤ A12 ∧ A12 ≤ 160) (r51 : (-160) ≤ B12 ∧ B12 ≤ 160) (r54 : (-160) ≤ A13 ∧ A13 ≤ 160) (r55 : (-160) ≤ B13 ∧ B13 ≤ 160) (r58 : (-160) ≤ A14 ∧ A14 ≤ 160) (r59 : (-160) ≤ B14 ∧ B14 ≤ 160) (r62 : (-160) ≤ A15 ∧ A15 ≤ 160) (r63 : (-160) ≤ B15 ∧ B15 ≤ 160) (r66 : (-10000000) ≤ X0 ∧ X0 ≤ 10000000) (r67 : (-10000000) ≤ Y0 ∧ Y0 ≤ 10000000) (r70 : (-10000000) ≤ X1 ∧ X1 ≤ 10000000) (r71 : (-10000000) ≤ Y1 ∧ Y1 ≤ 10000000) (r74 : (-10000000) ≤ X2 ∧ X2 ≤ 10000000) (r75 : (-10000000) ≤ Y2 ∧ Y2 ≤ 10000000) (r78 : (-10000000) ≤ X3 ∧ X3 ≤ 10000000) (r79 : (-10000000) ≤ Y3 ∧ Y3 ≤ 10000000) (h0 : Rp a0 A0) (h1 : Rp b0 B0) (h4 : Rp a1 A1) (h5 : Rp b1 B1) (h8 : Rp a2 A2) (h9 : Rp b2 B2) (h12 : Rp a3 A3) (h13 : Rp b3 B3) (h16 : Rp a4 A4) (h17 : Rp b4 B4) (h20 : Rp a5 A5) (h21 : Rp b5 B5) (h24 : Rp a6 A6) (h25 : Rp b6 B6) (h28 : Rp a7 A7) (h29 : Rp b7 B7) (h32 : Rp a8 A8) (h33 : Rp b8 B8) (h36 : Rp a9 A9) (h37 : Rp b9 B9) (h40 : Rp a10 A10) (h41 : Rp b10 B10) (h44 : Rp a11 A11) (h45 : Rp b11 B11) (h48 : Rp a12 A12) (h49 : Rp b12 B12) (h52 : Rp a13 A13) (h53 : Rp b13 B13) (h56 : Rp a14 A14) (h57 : Rp b14 B14) (h60 : Rp a15 A15) (h61 : Rp b15 B15) (h64 : Rp x0 X0) (h65 : Rp y0 Y0) (h68 : Rp x1 X1) (h69 : Rp y1 Y1) (h72 : Rp x2 X2) (h73 : Rp y2 Y2) (h76 : Rp x3 X3) (h77 : Rp y3 Y3) {Q : Value → Prop} (H :
  Q (.int .i64 ((((((X0 * (((((A0 * X0) - (B0 * Y0)) + ((A1 * X1) - (B1 * Y1))) + ((A2 * X2) - (B2 * Y2))) + ((A3 * X3) - (B3 * Y3)))) + (Y0 * (((((A0 * Y0) + (B0 * X0)) + ((A1 * Y1) + (B1 * X1))) + ((A2 * Y2) + (B2 * X2))) + ((A3 * Y3) + (B3 * X3))))) + ((X1 * (((((A4 * X0) - (B4 * Y0)) + ((A5 * X1) - (B5 * Y1))) + ((A6 * X2) - (B6 * Y2))) + ((A7 * X3) - (B7 * Y3)))) + (Y1 * (((((A4 * Y0) + (B4 * X0)) + ((A5 * Y1) + (B5 * X1))) + ((A6 * Y2) + (B6 * X2))) + ((A7 * Y3) + (B7 * X3)))))) + ((X2 * (((((A8 * X0) - (B8 * Y0)) + ((A9 * X1) - (B9 * Y1))) + ((A10 * X2) - (B10 * Y2))) + ((A11 * X3) - (B11 * Y3)))) + (Y2 * (((((A8 * Y0) + (B8 * X0)) + ((A9 * Y1) + (B9 * X1))) + ((A10 * Y2) + (B10 * X2))) + ((A11 * Y3) + (B11 * X3)))))) + ((X3 * (((((A12 * X0) - (B12 * Y0)) + ((A13 * X1) - (B13 * Y1))) + ((A14 * X2) - (B14 * Y2))) + ((A15 * X3) - (B15 * Y3)))) + (Y3 * (((((A12 * Y0) + (B12 * X0)) + ((A13 * Y1) + (B13 * X1))) + ((A14 * Y2) + (B14 * X2))) + ((A15 * Y3) + (B15 * X3))))))))) :
    ∃ v, Q v ∧ ∀ w, Calls Try.prog 130 #[.agg #[.complex .f64 a0 b0, .complex .f64 a1 b1, .complex .f64 a2 b2, .complex .f64 a3 b3, .complex .f64 a4 b4, .complex .f64 a5 b5, .complex .f64 a6 b6, .complex .f64 a7 b7, .complex .f64 a8 b8, .complex .f64 a9 b9, .complex .f64 a10 b10, .complex .f64 a11 b11, .complex .f64 a12 b12, .complex .f64 a13 b13, .complex .f64 a14 b14, .complex .f64 a15 b15], .agg #[.complex .f64 x0 y0, .complex .f64 x1 y1, .complex .f64 x2 y2, .complex .f64 x3 y3]] w fun e w' => e = .returned v ∧ Below w.heap.size w w' :=
  tree_at mixed names S1_ok (S := S1 Try.prog) (lf := 100000) (d := 60) (args := [(.agg [(.complex .f64 (.var 0) (.var 1)), (.complex .f64 (.var 4) (.var 5)), (.complex .f64 (.var 8) (.var 9)), (.complex .f64 (.var 12) (.var 13)), (.complex .f64 (.var 16) (.var 17)), (.complex .f64 (.var 20) (.var 21)), (.complex .f64 (.var 24) (.var 25)), (.complex .f64 (.var 28) (.var 29)), (.complex .f64 (.var 32) (.var 33)), (.complex .f64 (.var 36) (.var 37)), (.complex .f64 (.var 40) (.var 41)), (.complex .f64 (.var 44) (.var 45)), (.complex .f64 (.var 48) (.var 49)), (.complex .f64 (.var 52) (.var 53)), (.complex .f64 (.var 56) (.var 57)), (.complex .f64 (.var 60) (.var 61))]), (.agg [(.complex .f64 (.var 64) (.var 65)), (.complex .f64 (.var 68) (.var 69)), (.complex .f64 (.var 72) (.var 73)), (.complex .f64 (.var 76) (.var 77))])]) vt_t { ivs := [(2, (-160), 160), (3, (-160), 160), (6, (-160), 160), (7, (-160), 160), (10, (-160), 160), (11, (-160), 160), (14, (-160), 160), (15, (-160), 160), (18, (-160), 160), (19, (-160), 160), (22, (-160), 160), (23, (-160), 160), (26, (-160), 160), (27, (-160), 160), (30, (-160), 160), (31, (-160), 160), (34, (-160), 160), (35, (-160), 160), (38, (-160), 160), (39, (-160), 160), (42, (-160), 160), (43, (-160), 160), (46, (-160), 160), (47, (-160), 160), (50, (-160), 160), (51, (-160), 160), (54, (-160), 160), (55, (-160), 160), (58, (-160), 160), (59, (-160), 160), (62, (-160), 160), (63, (-160), 160), (66, (-10000000), 10000000), (67, (-10000000), 10000000), (70, (-10000000), 10000000), (71, (-10000000), 10000000), (74, (-10000000), 10000000), (75, (-10000000), 10000000), (78, (-10000000), 10000000), (79, (-10000000), 10000000)], whs := [(0, (.var 2), 160), (1, (.var 3), 160), (4, (.var 6), 160), (5, (.var 7), 160), (8, (.var 10), 160), (9, (.var 11), 160), (12, (.var 14), 160), (13, (.var 15), 160), (16, (.var 18), 160), (17, (.var 19), 160), (20, (.var 22), 160), (21, (.var 23), 160), (24, (.var 26), 160), (25, (.var 27), 160), (28, (.var 30), 160), (29, (.var 31), 160), (32, (.var 34), 160), (33, (.var 35), 160), (36, (.var 38), 160), (37, (.var 39), 160), (40, (.var 42), 160), (41, (.var 43), 160), (44, (.var 46), 160), (45, (.var 47), 160), (48, (.var 50), 160), (49, (.var 51), 160), (52, (.var 54), 160), (53, (.var 55), 160), (56, (.var 58), 160), (57, (.var 59), 160), (60, (.var 62), 160), (61, (.var 63), 160), (64, (.var 66), 10000000), (65, (.var 67), 10000000), (68, (.var 70), 10000000), (69, (.var 71), 10000000), (72, (.var 74), 10000000), (73, (.var 75), 10000000), (76, (.var 78), 10000000), (77, (.var 79), 10000000)] } [(a0 : Int), (b0 : Int), A0, B0, (a1 : Int), (b1 : Int), A1, B1, (a2 : Int), (b2 : Int), A2, B2, (a3 : Int), (b3 : Int), A3, B3, (a4 : Int), (b4 : Int), A4, B4, (a5 : Int), (b5 : Int), A5, B5, (a6 : Int), (b6 : Int), A6, B6, (a7 : Int), (b7 : Int), A7, B7, (a8 : Int), (b8 : Int), A8, B8, (a9 : Int), (b9 : Int), A9, B9, (a10 : Int), (b10 : Int), A10, B10, (a11 : Int), (b11 : Int), A11, B11, (a12 : Int), (b12 : Int), A12, B12, (a13 : Int), (b13 : Int), A13, B13, (a14 : Int), (b14 : Int), A14, B14, (a15 : Int), (b15 : Int), A15, B15, (x0 : Int), (y0 : Int), X0, Y0, (x1 : Int), (y1 : Int), X1, Y1, (x2 : Int), (y2 : Int), X2, Y2, (x3 : Int), (y3 : Int), X3, Y3] [] 80 0 rfl rfl (by kernel_rfl) (by kernel_rfl) (by kernel_rfl)
    ⟨(fc r2 (fc r3 (fc r6 (fc r7 (fc r10 (fc r11 (fc r14 (fc r15 (fc r18 (fc r19 (fc r22 (fc r23 (fc r26 (fc r27 (fc r30 (fc r31 (fc r34 (fc r35 (fc r38 (fc r39 (fc r42 (fc r43 (fc r46 (fc r47 (fc r50 (fc r51 (fc r54 (fc r55 (fc r58 (fc r59 (fc r62 (fc r63 (fc r66 (fc r67 (fc r70 (fc r71 (fc r74 (fc r75 (fc r78 (fc r79 fz)))))))))))))))))))))))))))))))))))))))), (fc ⟨h0, wh_rng r2, by decide⟩ (fc ⟨h1, wh_rng r3, by decide⟩ (fc ⟨h4, wh_rng r6, by decide⟩ (fc ⟨h5, wh_rng r7, by decide⟩ (fc ⟨h8, wh_rng r10, by decide⟩ (fc ⟨h9, wh_rng r11, by decide⟩ (fc ⟨h12, wh_rng r14, by decide⟩ (fc ⟨h13, wh_rng r15, by decide⟩ (fc ⟨h16, wh_rng r18, by decide⟩ (fc ⟨h17, wh_rng r19, by decide⟩ (fc ⟨h20, wh_rng r22, by decide⟩ (fc ⟨h21, wh_rng r23, by decide⟩ (fc ⟨h24, wh_rng r26, by decide⟩ (fc ⟨h25, wh_rng r27, by decide⟩ (fc ⟨h28, wh_rng r30, by decide⟩ (fc ⟨h29, wh_rng r31, by decide⟩ (fc ⟨h32, wh_rng r34, by decide⟩ (fc ⟨h33, wh_rng r35, by decide⟩ (fc ⟨h36, wh_rng r38, by decide⟩ (fc ⟨h37, wh_rng r39, by decide⟩ (fc ⟨h40, wh_rng r42, by decide⟩ (fc ⟨h41, wh_rng r43, by decide⟩ (fc ⟨h44, wh_rng r46, by decide⟩ (fc ⟨h45, wh_rng r47, by decide⟩ (fc ⟨h48, wh_rng r50, by decide⟩ (fc ⟨h49, wh_rng r51, by decide⟩ (fc ⟨h52, wh_rng r54, by decide⟩ (fc ⟨h53, wh_rng r55, by decide⟩ (fc ⟨h56, wh_rng r58, by decide⟩ (fc ⟨h57, wh_rng r59, by decide⟩ (fc ⟨h60, wh_rng r62, by decide⟩ (fc ⟨h61, wh_rng r63, by decide⟩ (fc ⟨h64, wh_rng r66, by decide⟩ (fc ⟨h65, wh_rng r67, by decide⟩ (fc ⟨h68, wh_rng r70, by decide⟩ (fc ⟨h69, wh_rng r71, by decide⟩ (fc ⟨h72, wh_rng r74, by decide⟩ (fc ⟨h73, wh_rng r75, by decide⟩ (fc ⟨h76, wh_rng r78, by decide⟩ (fc ⟨h77, wh_rng r79, by decide⟩ fz))))))))))))))))))))))))))))))))))))))))⟩ H
def cw_t : Tr :=
  (.call 127 [(.agg [(.int .i64 (.var 0)), (.int .i64 (.var 1)), (.int .i64 (.var 2)), (.int .i64 (.var 3)), (.int .i64 (.var 4)), (.int .i64 (.var 5)), (.int .i64 (.var 6)), (.int .i64 (.var 7)), (.int .i64 (.var 8)), (.int .i64 (.var 9)), (.int .i64 (.var 10)), (.int .i64 (.var 11)), (.int .i64 (.var 12)), (.int .i64 (.var 13)), (.int .i64 (.var 14)), (.int .i64 (.var 15))])] (.int .i64 (.var 24)) 1 0
  (.call 142 [(.complex .f64 (.var 16) (.var 17)), (.float .f64 (.toF .f64 (.lit 10000000)))] (.int .i64 (.var 25)) 1 0
  (.ite (.icmp .eql (.var 25) (.lit 0))
  (.call 142 [(.complex .f64 (.var 18) (.var 19)), (.float .f64 (.toF .f64 (.lit 10000000)))] (.int .i64 (.var 26)) 1 0
   (.ite (.icmp .eql (.var 26) (.lit 0))
   (.call 142 [(.complex .f64 (.var 20) (.var 21)), (.float .f64 (.toF .f64 (.lit 10000000)))] (.int .i64 (.var 27)) 1 0
    (.ite (.icmp .eql (.var 27) (.lit 0))
    (.call 142 [(.complex .f64 (.var 22) (.var 23)), (.float .f64 (.toF .f64 (.lit 10000000)))] (.int .i64 (.var 28)) 1 0
     (.ite (.icmp .eql (.var 28) (.lit 0))
     (.ite (.icmp .eql (.var 24) (.lit 0))
      (.call 120 [(.agg [(.int .i64 (.var 0)), (.int .i64 (.var 1)), (.int .i64 (.var 2)), (.int .i64 (.var 3)), (.int .i64 (.var 4)), (.int .i64 (.var 5)), (.int .i64 (.var 6)), (.int .i64 (.var 7)), (.int .i64 (.var 8)), (.int .i64 (.var 9)), (.int .i64 (.var 10)), (.int .i64 (.var 11)), (.int .i64 (.var 12)), (.int .i64 (.var 13)), (.int .i64 (.var 14)), (.int .i64 (.var 15))])] (.agg [(.complex .f64 (.var 29) (.var 30)), (.complex .f64 (.var 31) (.var 32)), (.complex .f64 (.var 33) (.var 34)), (.complex .f64 (.var 35) (.var 36)), (.complex .f64 (.var 37) (.var 38)), (.complex .f64 (.var 39) (.var 40)), (.complex .f64 (.var 41) (.var 42)), (.complex .f64 (.var 43) (.var 44)), (.complex .f64 (.var 45) (.var 46)), (.complex .f64 (.var 47) (.var 48)), (.complex .f64 (.var 49) (.var 50)), (.complex .f64 (.var 51) (.var 52)), (.complex .f64 (.var 53) (.var 54)), (.complex .f64 (.var 55) (.var 56)), (.complex .f64 (.var 57) (.var 58)), (.complex .f64 (.var 59) (.var 60))]) 32 0
       (.call 130 [(.agg [(.complex .f64 (.var 29) (.var 30)), (.complex .f64 (.var 31) (.var 32)), (.complex .f64 (.var 33) (.var 34)), (.complex .f64 (.var 35) (.var 36)), (.complex .f64 (.var 37) (.var 38)), (.complex .f64 (.var 39) (.var 40)), (.complex .f64 (.var 41) (.var 42)), (.complex .f64 (.var 43) (.var 44)), (.complex .f64 (.var 45) (.var 46)), (.complex .f64 (.var 47) (.var 48)), (.complex .f64 (.var 49) (.var 50)), (.complex .f64 (.var 51) (.var 52)), (.complex .f64 (.var 53) (.var 54)), (.complex .f64 (.var 55) (.var 56)), (.complex .f64 (.var 57) (.var 58)), (.complex .f64 (.var 59) (.var 60))]), (.agg [(.complex .f64 (.var 16) (.var 17)), (.complex .f64 (.var 18) (.var 19)), (.complex .f64 (.var 20) (.var 21)), (.complex .f64 (.var 22) (.var 23))])] (.int .i64 (.var 61)) 1 0
       (.ite (.icmp .leq (.lit 0) (.var 61))
       (.leaf (.tuple [(.int .i64 (.lit 0)), (.int .i64 (.lit 20))]))
       (.leaf (.tuple [(.int .i64 (.var 61)), (.int .i64 (.lit 0))])))))
      (.leaf (.tuple [(.int .i64 (.lit 0)), (.int .i64 (.var 24))])))
     (.ite (.icmp .eql (.var 24) (.lit 0))
      (.leaf (.tuple [(.int .i64 (.lit 0)), (.int .i64 (.var 28))]))
      (.leaf (.tuple [(.int .i64 (.lit 0)), (.int .i64 (.var 24))])))))
    (.ite (.icmp .eql (.var 24) (.lit 0))
     (.leaf (.tuple [(.int .i64 (.lit 0)), (.int .i64 (.var 27))]))
     (.leaf (.tuple [(.int .i64 (.lit 0)), (.int .i64 (.var 24))])))))
   (.ite (.icmp .eql (.var 24) (.lit 0))
    (.leaf (.tuple [(.int .i64 (.lit 0)), (.int .i64 (.var 26))]))
    (.leaf (.tuple [(.int .i64 (.lit 0)), (.int .i64 (.var 24))])))))
  (.ite (.icmp .eql (.var 24) (.lit 0))
   (.leaf (.tuple [(.int .i64 (.lit 0)), (.int .i64 (.var 25))]))
   (.leaf (.tuple [(.int .i64 (.lit 0)), (.int .i64 (.var 24))]))))))
set_option maxHeartbeats 8000000 in
theorem cw {x0 y0 x1 y1 x2 y2 x3 y3 : Nat} {m0 m1 m2 m3 m4 m5 m6 m7 m8 m9 m10 m11 m12 m13 m14 m15 : Int} (r0 : (-9223372036854775808) ≤ m0 ∧ m0 ≤ 9223372036854775807) (r1 : (-9223372036854775808) ≤ m1 ∧ m1 ≤ 9223372036854775807) (r2 : (-9223372036854775808) ≤ m2 ∧ m2 ≤ 9223372036854775807) (r3 : (-9223372036854775808) ≤ m3 ∧ m3 ≤ 9223372036854775807) (r4 : (-9223372036854775808) ≤ m4 ∧ m4 ≤ 9223372036854775807) (r5 : (-9223372036854775808) ≤ m5 ∧ m5 ≤ 9223372036854775807) (r6 : (-9223372036854775808) ≤ m6 ∧ m6 ≤ 9223372036854775807) (r7 : (-9223372036854775808) ≤ m7 ∧ m7 ≤ 9223372036854775807) (r8 : (-9223372036854775808) ≤ m8 ∧ m8 ≤ 9223372036854775807) (r9 : (-9223372036854775808) ≤ m9 ∧ m9 ≤ 9223372036854775807) (r10 : (-9223372036854775808) ≤ m10 ∧ m10 ≤ 9223372036854775807) (r11 : (-9223372036854775808) ≤ m11 ∧ m11 ≤ 9223372036854775807) (r12 : (-9223372036854775808) ≤ m12 ∧ m12 ≤ 9223372036854775807) (r13 : (-9223372036854775808) ≤ m13 ∧ m13 ≤ 9223372036854775807) (r14 : (-9223372036854775808) ≤ m14 ∧ m14 ≤ 9223372036854775807) (r15 : (-9223372036854775808) ≤ m15 ∧ m15 ≤ 9223372036854775807) {Q : Value → Prop} (H :
  (∃ v24 : Int, (∀ w, Calls Try.prog 127 #[.agg #[.int .i64 (m0), .int .i64 (m1), .int .i64 (m2), .int .i64 (m3), .int .i64 (m4), .int .i64 (m5), .int .i64 (m6), .int .i64 (m7), .int .i64 (m8), .int .i64 (m9), .int .i64 (m10), .int .i64 (m11), .int .i64 (m12), .int .i64 (m13), .int .i64 (m14), .int .i64 (m15)]] w fun e w' => e = .returned (.int .i64 (v24)) ∧ Below w.heap.size w w') ∧
   (∃ v25 : Int, (∀ w, Calls Try.prog 142 #[.complex .f64 x0 y0, .float .f64 ((((FloatKind.f64.nearest 10000000 : Nat) : Int)).toNat)] w fun e w' => e = .returned (.int .i64 (v25)) ∧ Below w.heap.size w w') ∧
   ((((v25 : Int) == 0) = true → (∃ v26 : Int, (∀ w, Calls Try.prog 142 #[.complex .f64 x1 y1, .float .f64 ((((FloatKind.f64.nearest 10000000 : Nat) : Int)).toNat)] w fun e w' => e = .returned (.int .i64 (v26)) ∧ Below w.heap.size w w') ∧
    ((((v26 : Int) == 0) = true → (∃ v27 : Int, (∀ w, Calls Try.prog 142 #[.complex .f64 x2 y2, .float .f64 ((((FloatKind.f64.nearest 10000000 : Nat) : Int)).toNat)] w fun e w' => e = .returned (.int .i64 (v27)) ∧ Below w.heap.size w w') ∧
     ((((v27 : Int) == 0) = true → (∃ v28 : Int, (∀ w, Calls Try.prog 142 #[.complex .f64 x3 y3, .float .f64 ((((FloatKind.f64.nearest 10000000 : Nat) : Int)).toNat)] w fun e w' => e = .returned (.int .i64 (v28)) ∧ Below w.heap.size w w') ∧
      ((((v28 : Int) == 0) = true → ((((v24 : Int) == 0) = true → (∃ v29 : Int, ∃ v30 : Int, ∃ v31 : Int, ∃ v32 : Int, ∃ v33 : Int, ∃ v34 : Int, ∃ v35 : Int, ∃ v36 : Int, ∃ v37 : Int, ∃ v38 : Int, ∃ v39 : Int, ∃ v40 : Int, ∃ v41 : Int, ∃ v42 : Int, ∃ v43 : Int, ∃ v44 : Int, ∃ v45 : Int, ∃ v46 : Int, ∃ v47 : Int, ∃ v48 : Int, ∃ v49 : Int, ∃ v50 : Int, ∃ v51 : Int, ∃ v52 : Int, ∃ v53 : Int, ∃ v54 : Int, ∃ v55 : Int, ∃ v56 : Int, ∃ v57 : Int, ∃ v58 : Int, ∃ v59 : Int, ∃ v60 : Int, (∀ w, Calls Try.prog 120 #[.agg #[.int .i64 (m0), .int .i64 (m1), .int .i64 (m2), .int .i64 (m3), .int .i64 (m4), .int .i64 (m5), .int .i64 (m6), .int .i64 (m7), .int .i64 (m8), .int .i64 (m9), .int .i64 (m10), .int .i64 (m11), .int .i64 (m12), .int .i64 (m13), .int .i64 (m14), .int .i64 (m15)]] w fun e w' => e = .returned (.agg #[.complex .f64 (v29 : Int).toNat (v30 : Int).toNat, .complex .f64 (v31 : Int).toNat (v32 : Int).toNat, .complex .f64 (v33 : Int).toNat (v34 : Int).toNat, .complex .f64 (v35 : Int).toNat (v36 : Int).toNat, .complex .f64 (v37 : Int).toNat (v38 : Int).toNat, .complex .f64 (v39 : Int).toNat (v40 : Int).toNat, .complex .f64 (v41 : Int).toNat (v42 : Int).toNat, .complex .f64 (v43 : Int).toNat (v44 : Int).toNat, .complex .f64 (v45 : Int).toNat (v46 : Int).toNat, .complex .f64 (v47 : Int).toNat (v48 : Int).toNat, .complex .f64 (v49 : Int).toNat (v50 : Int).toNat, .complex .f64 (v51 : Int).toNat (v52 : Int).toNat, .complex .f64 (v53 : Int).toNat (v54 : Int).toNat, .complex .f64 (v55 : Int).toNat (v56 : Int).toNat, .complex .f64 (v57 : Int).toNat (v58 : Int).toNat, .complex .f64 (v59 : Int).toNat (v60 : Int).toNat]) ∧ Below w.heap.size w w') ∧
        (∃ v61 : Int, (∀ w, Calls Try.prog 130 #[.agg #[.complex .f64 (v29 : Int).toNat (v30 : Int).toNat, .complex .f64 (v31 : Int).toNat (v32 : Int).toNat, .complex .f64 (v33 : Int).toNat (v34 : Int).toNat, .complex .f64 (v35 : Int).toNat (v36 : Int).toNat, .complex .f64 (v37 : Int).toNat (v38 : Int).toNat, .complex .f64 (v39 : Int).toNat (v40 : Int).toNat, .complex .f64 (v41 : Int).toNat (v42 : Int).toNat, .complex .f64 (v43 : Int).toNat (v44 : Int).toNat, .complex .f64 (v45 : Int).toNat (v46 : Int).toNat, .complex .f64 (v47 : Int).toNat (v48 : Int).toNat, .complex .f64 (v49 : Int).toNat (v50 : Int).toNat, .complex .f64 (v51 : Int).toNat (v52 : Int).toNat, .complex .f64 (v53 : Int).toNat (v54 : Int).toNat, .complex .f64 (v55 : Int).toNat (v56 : Int).toNat, .complex .f64 (v57 : Int).toNat (v58 : Int).toNat, .complex .f64 (v59 : Int).toNat (v60 : Int).toNat], .agg #[.complex .f64 x0 y0, .complex .f64 x1 y1, .complex .f64 x2 y2, .complex .f64 x3 y3]] w fun e w' => e = .returned (.int .i64 (v61)) ∧ Below w.heap.size w w') ∧
        ((decide ((0 : Int) ≤ v61) = true → Q (.tuple #[.int .i64 (0), .int .i64 (20)])) ∧
        (decide ((0 : Int) ≤ v61) = false → Q (.tuple #[.int .i64 (v61), .int .i64 (0)])))))) ∧
       (((v24 : Int) == 0) = false → Q (.tuple #[.int .i64 (0), .int .i64 (v24)])))) ∧
      (((v28 : Int) == 0) = false → ((((v24 : Int) == 0) = true → Q (.tuple #[.int .i64 (0), .int .i64 (v28)])) ∧
       (((v24 : Int) == 0) = false → Q (.tuple #[.int .i64 (0), .int .i64 (v24)]))))))) ∧
     (((v27 : Int) == 0) = false → ((((v24 : Int) == 0) = true → Q (.tuple #[.int .i64 (0), .int .i64 (v27)])) ∧
      (((v24 : Int) == 0) = false → Q (.tuple #[.int .i64 (0), .int .i64 (v24)]))))))) ∧
    (((v26 : Int) == 0) = false → ((((v24 : Int) == 0) = true → Q (.tuple #[.int .i64 (0), .int .i64 (v26)])) ∧
     (((v24 : Int) == 0) = false → Q (.tuple #[.int .i64 (0), .int .i64 (v24)]))))))) ∧
   (((v25 : Int) == 0) = false → ((((v24 : Int) == 0) = true → Q (.tuple #[.int .i64 (0), .int .i64 (v25)])) ∧
    (((v24 : Int) == 0) = false → Q (.tuple #[.int .i64 (0), .int .i64 (v24)])))))))) :
    ∃ v, Q v ∧ ∀ w, Calls Try.prog 77 #[.agg #[.int .i64 (m0), .int .i64 (m1), .int .i64 (m2), .int .i64 (m3), .int .i64 (m4), .int .i64 (m5), .int .i64 (m6), .int .i64 (m7), .int .i64 (m8), .int .i64 (m9), .int .i64 (m10), .int .i64 (m11), .int .i64 (m12), .int .i64 (m13), .int .i64 (m14), .int .i64 (m15)], .agg #[.complex .f64 x0 y0, .complex .f64 x1 y1, .complex .f64 x2 y2, .complex .f64 x3 y3]] w fun e w' => e = .returned v ∧ Below w.heap.size w w' :=
  tree_at mixed names S1_ok (S := S1 Try.prog) (lf := 100000) (d := 60) (args := [(.agg [(.int .i64 (.var 0)), (.int .i64 (.var 1)), (.int .i64 (.var 2)), (.int .i64 (.var 3)), (.int .i64 (.var 4)), (.int .i64 (.var 5)), (.int .i64 (.var 6)), (.int .i64 (.var 7)), (.int .i64 (.var 8)), (.int .i64 (.var 9)), (.int .i64 (.var 10)), (.int .i64 (.var 11)), (.int .i64 (.var 12)), (.int .i64 (.var 13)), (.int .i64 (.var 14)), (.int .i64 (.var 15))]), (.agg [(.complex .f64 (.var 16) (.var 17)), (.complex .f64 (.var 18) (.var 19)), (.complex .f64 (.var 20) (.var 21)), (.complex .f64 (.var 22) (.var 23))])]) cw_t { ivs := [(0, (-9223372036854775808), 9223372036854775807), (1, (-9223372036854775808), 9223372036854775807), (2, (-9223372036854775808), 9223372036854775807), (3, (-9223372036854775808), 9223372036854775807), (4, (-9223372036854775808), 9223372036854775807), (5, (-9223372036854775808), 9223372036854775807), (6, (-9223372036854775808), 9223372036854775807), (7, (-9223372036854775808), 9223372036854775807), (8, (-9223372036854775808), 9223372036854775807), (9, (-9223372036854775808), 9223372036854775807), (10, (-9223372036854775808), 9223372036854775807), (11, (-9223372036854775808), 9223372036854775807), (12, (-9223372036854775808), 9223372036854775807), (13, (-9223372036854775808), 9223372036854775807), (14, (-9223372036854775808), 9223372036854775807), (15, (-9223372036854775808), 9223372036854775807)], whs := [] } [m0, m1, m2, m3, m4, m5, m6, m7, m8, m9, m10, m11, m12, m13, m14, m15, (x0 : Int), (y0 : Int), (x1 : Int), (y1 : Int), (x2 : Int), (y2 : Int), (x3 : Int), (y3 : Int)] [] 24 0 rfl rfl (by kernel_rfl) (by kernel_rfl) (by kernel_rfl)
    ⟨(fc r0 (fc r1 (fc r2 (fc r3 (fc r4 (fc r5 (fc r6 (fc r7 (fc r8 (fc r9 (fc r10 (fc r11 (fc r12 (fc r13 (fc r14 (fc r15 fz)))))))))))))))), fz⟩ H
def rwi_t : Tr :=
  (.call 141 [(.complex .f64 (.var 16) (.var 17)), (.int .i64 (.lit 10000000))] (.tuple [(.agg [(.int .i64 (.var 24)), (.int .i64 (.var 25))]), (.int .i64 (.var 26))]) 3 0
  (.rng 24 (-10000000) 10000000 (.rng 25 (-10000000) 10000000 (.ite (.icmp .eql (.var 26) (.lit 0))
  (.call 141 [(.complex .f64 (.var 18) (.var 19)), (.int .i64 (.lit 10000000))] (.tuple [(.agg [(.int .i64 (.var 27)), (.int .i64 (.var 28))]), (.int .i64 (.var 29))]) 3 0
   (.rng 27 (-10000000) 10000000 (.rng 28 (-10000000) 10000000 (.ite (.icmp .eql (.var 29) (.lit 0))
   (.call 141 [(.complex .f64 (.var 20) (.var 21)), (.int .i64 (.lit 10000000))] (.tuple [(.agg [(.int .i64 (.var 30)), (.int .i64 (.var 31))]), (.int .i64 (.var 32))]) 3 0
    (.rng 30 (-10000000) 10000000 (.rng 31 (-10000000) 10000000 (.ite (.icmp .eql (.var 32) (.lit 0))
    (.call 141 [(.complex .f64 (.var 22) (.var 23)), (.int .i64 (.lit 10000000))] (.tuple [(.agg [(.int .i64 (.var 33)), (.int .i64 (.var 34))]), (.int .i64 (.var 35))]) 3 0
     (.rng 33 (-10000000) 10000000 (.rng 34 (-10000000) 10000000 (.ite (.icmp .eql (.var 35) (.lit 0))
     (.call 70 [(.agg [(.int .i64 (.var 0)), (.int .i64 (.var 1)), (.int .i64 (.var 2)), (.int .i64 (.var 3)), (.int .i64 (.var 4)), (.int .i64 (.var 5)), (.int .i64 (.var 6)), (.int .i64 (.var 7)), (.int .i64 (.var 8)), (.int .i64 (.var 9)), (.int .i64 (.var 10)), (.int .i64 (.var 11)), (.int .i64 (.var 12)), (.int .i64 (.var 13)), (.int .i64 (.var 14)), (.int .i64 (.var 15))])] (.agg [(.int .i64 (.var 36)), (.int .i64 (.var 37)), (.int .i64 (.var 38)), (.int .i64 (.var 39)), (.int .i64 (.var 40)), (.int .i64 (.var 41)), (.int .i64 (.var 42)), (.int .i64 (.var 43)), (.int .i64 (.var 44)), (.int .i64 (.var 45)), (.int .i64 (.var 46)), (.int .i64 (.var 47)), (.int .i64 (.var 48)), (.int .i64 (.var 49)), (.int .i64 (.var 50)), (.int .i64 (.var 51)), (.int .i64 (.var 52)), (.int .i64 (.var 53)), (.int .i64 (.var 54)), (.int .i64 (.var 55)), (.int .i64 (.var 56)), (.int .i64 (.var 57)), (.int .i64 (.var 58)), (.int .i64 (.var 59)), (.int .i64 (.var 60)), (.int .i64 (.var 61)), (.int .i64 (.var 62)), (.int .i64 (.var 63)), (.int .i64 (.var 64)), (.int .i64 (.var 65)), (.int .i64 (.var 66)), (.int .i64 (.var 67))]) 32 0
      (.rng 36 (-160) 160 (.rng 37 (-160) 160 (.rng 38 (-160) 160 (.rng 39 (-160) 160 (.rng 40 (-160) 160 (.rng 41 (-160) 160 (.rng 42 (-160) 160 (.rng 43 (-160) 160 (.rng 44 (-160) 160 (.rng 45 (-160) 160 (.rng 46 (-160) 160 (.rng 47 (-160) 160 (.rng 48 (-160) 160 (.rng 49 (-160) 160 (.rng 50 (-160) 160 (.rng 51 (-160) 160 (.rng 52 (-160) 160 (.rng 53 (-160) 160 (.rng 54 (-160) 160 (.rng 55 (-160) 160 (.rng 56 (-160) 160 (.rng 57 (-160) 160 (.rng 58 (-160) 160 (.rng 59 (-160) 160 (.rng 60 (-160) 160 (.rng 61 (-160) 160 (.rng 62 (-160) 160 (.rng 63 (-160) 160 (.rng 64 (-160) 160 (.rng 65 (-160) 160 (.rng 66 (-160) 160 (.rng 67 (-160) 160 (.ite (.icmp .leq (.lit 0) (.bin .addI (.bin .addI (.bin .addI (.bin .addI (.bin .addI (.bin .addI (.bin .addI (.bin .addI (.bin .addI (.bin .addI (.bin .addI (.bin .addI (.bin .addI (.bin .addI (.bin .addI (.bin .subI (.bin .mulI (.var 24) (.bin .subI (.bin .mulI (.var 36) (.var 24)) (.bin .mulI (.var 37) (.var 25)))) (.bin .mulI (.bin .subI (.lit 0) (.var 25)) (.bin .addI (.bin .mulI (.var 36) (.var 25)) (.bin .mulI (.var 37) (.var 24))))) (.bin .subI (.bin .mulI (.var 24) (.bin .subI (.bin .mulI (.var 38) (.var 27)) (.bin .mulI (.var 39) (.var 28)))) (.bin .mulI (.bin .subI (.lit 0) (.var 25)) (.bin .addI (.bin .mulI (.var 38) (.var 28)) (.bin .mulI (.var 39) (.var 27)))))) (.bin .subI (.bin .mulI (.var 24) (.bin .subI (.bin .mulI (.var 40) (.var 30)) (.bin .mulI (.var 41) (.var 31)))) (.bin .mulI (.bin .subI (.lit 0) (.var 25)) (.bin .addI (.bin .mulI (.var 40) (.var 31)) (.bin .mulI (.var 41) (.var 30)))))) (.bin .subI (.bin .mulI (.var 24) (.bin .subI (.bin .mulI (.var 42) (.var 33)) (.bin .mulI (.var 43) (.var 34)))) (.bin .mulI (.bin .subI (.lit 0) (.var 25)) (.bin .addI (.bin .mulI (.var 42) (.var 34)) (.bin .mulI (.var 43) (.var 33)))))) (.bin .subI (.bin .mulI (.var 27) (.bin .subI (.bin .mulI (.var 44) (.var 24)) (.bin .mulI (.var 45) (.var 25)))) (.bin .mulI (.bin .subI (.lit 0) (.var 28)) (.bin .addI (.bin .mulI (.var 44) (.var 25)) (.bin .mulI (.var 45) (.var 24)))))) (.bin .subI (.bin .mulI (.var 27) (.bin .subI (.bin .mulI (.var 46) (.var 27)) (.bin .mulI (.var 47) (.var 28)))) (.bin .mulI (.bin .subI (.lit 0) (.var 28)) (.bin .addI (.bin .mulI (.var 46) (.var 28)) (.bin .mulI (.var 47) (.var 27)))))) (.bin .subI (.bin .mulI (.var 27) (.bin .subI (.bin .mulI (.var 48) (.var 30)) (.bin .mulI (.var 49) (.var 31)))) (.bin .mulI (.bin .subI (.lit 0) (.var 28)) (.bin .addI (.bin .mulI (.var 48) (.var 31)) (.bin .mulI (.var 49) (.var 30)))))) (.bin .subI (.bin .mulI (.var 27) (.bin .subI (.bin .mulI (.var 50) (.var 33)) (.bin .mulI (.var 51) (.var 34)))) (.bin .mulI (.bin .subI (.lit 0) (.var 28)) (.bin .addI (.bin .mulI (.var 50) (.var 34)) (.bin .mulI (.var 51) (.var 33)))))) (.bin .subI (.bin .mulI (.var 30) (.bin .subI (.bin .mulI (.var 52) (.var 24)) (.bin .mulI (.var 53) (.var 25)))) (.bin .mulI (.bin .subI (.lit 0) (.var 31)) (.bin .addI (.bin .mulI (.var 52) (.var 25)) (.bin .mulI (.var 53) (.var 24)))))) (.bin .subI (.bin .mulI (.var 30) (.bin .subI (.bin .mulI (.var 54) (.var 27)) (.bin .mulI (.var 55) (.var 28)))) (.bin .mulI (.bin .subI (.lit 0) (.var 31)) (.bin .addI (.bin .mulI (.var 54) (.var 28)) (.bin .mulI (.var 55) (.var 27)))))) (.bin .subI (.bin .mulI (.var 30) (.bin .subI (.bin .mulI (.var 56) (.var 30)) (.bin .mulI (.var 57) (.var 31)))) (.bin .mulI (.bin .subI (.lit 0) (.var 31)) (.bin .addI (.bin .mulI (.var 56) (.var 31)) (.bin .mulI (.var 57) (.var 30)))))) (.bin .subI (.bin .mulI (.var 30) (.bin .subI (.bin .mulI (.var 58) (.var 33)) (.bin .mulI (.var 59) (.var 34)))) (.bin .mulI (.bin .subI (.lit 0) (.var 31)) (.bin .addI (.bin .mulI (.var 58) (.var 34)) (.bin .mulI (.var 59) (.var 33)))))) (.bin .subI (.bin .mulI (.var 33) (.bin .subI (.bin .mulI (.var 60) (.var 24)) (.bin .mulI (.var 61) (.var 25)))) (.bin .mulI (.bin .subI (.lit 0) (.var 34)) (.bin .addI (.bin .mulI (.var 60) (.var 25)) (.bin .mulI (.var 61) (.var 24)))))) (.bin .subI (.bin .mulI (.var 33) (.bin .subI (.bin .mulI (.var 62) (.var 27)) (.bin .mulI (.var 63) (.var 28)))) (.bin .mulI (.bin .subI (.lit 0) (.var 34)) (.bin .addI (.bin .mulI (.var 62) (.var 28)) (.bin .mulI (.var 63) (.var 27)))))) (.bin .subI (.bin .mulI (.var 33) (.bin .subI (.bin .mulI (.var 64) (.var 30)) (.bin .mulI (.var 65) (.var 31)))) (.bin .mulI (.bin .subI (.lit 0) (.var 34)) (.bin .addI (.bin .mulI (.var 64) (.var 31)) (.bin .mulI (.var 65) (.var 30)))))) (.bin .subI (.bin .mulI (.var 33) (.bin .subI (.bin .mulI (.var 66) (.var 33)) (.bin .mulI (.var 67) (.var 34)))) (.bin .mulI (.bin .subI (.lit 0) (.var 34)) (.bin .addI (.bin .mulI (.var 66) (.var 34)) (.bin .mulI (.var 67) (.var 33)))))))
      (.leaf (.tuple [(.int .i64 (.lit 0)), (.int .i64 (.lit 20))]))
      (.leaf (.tuple [(.int .i64 (.bin .addI (.bin .addI (.bin .addI (.bin .addI (.bin .addI (.bin .addI (.bin .addI (.bin .addI (.bin .addI (.bin .addI (.bin .addI (.bin .addI (.bin .addI (.bin .addI (.bin .addI (.bin .subI (.bin .mulI (.var 24) (.bin .subI (.bin .mulI (.var 36) (.var 24)) (.bin .mulI (.var 37) (.var 25)))) (.bin .mulI (.bin .subI (.lit 0) (.var 25)) (.bin .addI (.bin .mulI (.var 36) (.var 25)) (.bin .mulI (.var 37) (.var 24))))) (.bin .subI (.bin .mulI (.var 24) (.bin .subI (.bin .mulI (.var 38) (.var 27)) (.bin .mulI (.var 39) (.var 28)))) (.bin .mulI (.bin .subI (.lit 0) (.var 25)) (.bin .addI (.bin .mulI (.var 38) (.var 28)) (.bin .mulI (.var 39) (.var 27)))))) (.bin .subI (.bin .mulI (.var 24) (.bin .subI (.bin .mulI (.var 40) (.var 30)) (.bin .mulI (.var 41) (.var 31)))) (.bin .mulI (.bin .subI (.lit 0) (.var 25)) (.bin .addI (.bin .mulI (.var 40) (.var 31)) (.bin .mulI (.var 41) (.var 30)))))) (.bin .subI (.bin .mulI (.var 24) (.bin .subI (.bin .mulI (.var 42) (.var 33)) (.bin .mulI (.var 43) (.var 34)))) (.bin .mulI (.bin .subI (.lit 0) (.var 25)) (.bin .addI (.bin .mulI (.var 42) (.var 34)) (.bin .mulI (.var 43) (.var 33)))))) (.bin .subI (.bin .mulI (.var 27) (.bin .subI (.bin .mulI (.var 44) (.var 24)) (.bin .mulI (.var 45) (.var 25)))) (.bin .mulI (.bin .subI (.lit 0) (.var 28)) (.bin .addI (.bin .mulI (.var 44) (.var 25)) (.bin .mulI (.var 45) (.var 24)))))) (.bin .subI (.bin .mulI (.var 27) (.bin .subI (.bin .mulI (.var 46) (.var 27)) (.bin .mulI (.var 47) (.var 28)))) (.bin .mulI (.bin .subI (.lit 0) (.var 28)) (.bin .addI (.bin .mulI (.var 46) (.var 28)) (.bin .mulI (.var 47) (.var 27)))))) (.bin .subI (.bin .mulI (.var 27) (.bin .subI (.bin .mulI (.var 48) (.var 30)) (.bin .mulI (.var 49) (.var 31)))) (.bin .mulI (.bin .subI (.lit 0) (.var 28)) (.bin .addI (.bin .mulI (.var 48) (.var 31)) (.bin .mulI (.var 49) (.var 30)))))) (.bin .subI (.bin .mulI (.var 27) (.bin .subI (.bin .mulI (.var 50) (.var 33)) (.bin .mulI (.var 51) (.var 34)))) (.bin .mulI (.bin .subI (.lit 0) (.var 28)) (.bin .addI (.bin .mulI (.var 50) (.var 34)) (.bin .mulI (.var 51) (.var 33)))))) (.bin .subI (.bin .mulI (.var 30) (.bin .subI (.bin .mulI (.var 52) (.var 24)) (.bin .mulI (.var 53) (.var 25)))) (.bin .mulI (.bin .subI (.lit 0) (.var 31)) (.bin .addI (.bin .mulI (.var 52) (.var 25)) (.bin .mulI (.var 53) (.var 24)))))) (.bin .subI (.bin .mulI (.var 30) (.bin .subI (.bin .mulI (.var 54) (.var 27)) (.bin .mulI (.var 55) (.var 28)))) (.bin .mulI (.bin .subI (.lit 0) (.var 31)) (.bin .addI (.bin .mulI (.var 54) (.var 28)) (.bin .mulI (.var 55) (.var 27)))))) (.bin .subI (.bin .mulI (.var 30) (.bin .subI (.bin .mulI (.var 56) (.var 30)) (.bin .mulI (.var 57) (.var 31)))) (.bin .mulI (.bin .subI (.lit 0) (.var 31)) (.bin .addI (.bin .mulI (.var 56) (.var 31)) (.bin .mulI (.var 57) (.var 30)))))) (.bin .subI (.bin .mulI (.var 30) (.bin .subI (.bin .mulI (.var 58) (.var 33)) (.bin .mulI (.var 59) (.var 34)))) (.bin .mulI (.bin .subI (.lit 0) (.var 31)) (.bin .addI (.bin .mulI (.var 58) (.var 34)) (.bin .mulI (.var 59) (.var 33)))))) (.bin .subI (.bin .mulI (.var 33) (.bin .subI (.bin .mulI (.var 60) (.var 24)) (.bin .mulI (.var 61) (.var 25)))) (.bin .mulI (.bin .subI (.lit 0) (.var 34)) (.bin .addI (.bin .mulI (.var 60) (.var 25)) (.bin .mulI (.var 61) (.var 24)))))) (.bin .subI (.bin .mulI (.var 33) (.bin .subI (.bin .mulI (.var 62) (.var 27)) (.bin .mulI (.var 63) (.var 28)))) (.bin .mulI (.bin .subI (.lit 0) (.var 34)) (.bin .addI (.bin .mulI (.var 62) (.var 28)) (.bin .mulI (.var 63) (.var 27)))))) (.bin .subI (.bin .mulI (.var 33) (.bin .subI (.bin .mulI (.var 64) (.var 30)) (.bin .mulI (.var 65) (.var 31)))) (.bin .mulI (.bin .subI (.lit 0) (.var 34)) (.bin .addI (.bin .mulI (.var 64) (.var 31)) (.bin .mulI (.var 65) (.var 30)))))) (.bin .subI (.bin .mulI (.var 33) (.bin .subI (.bin .mulI (.var 66) (.var 33)) (.bin .mulI (.var 67) (.var 34)))) (.bin .mulI (.bin .subI (.lit 0) (.var 34)) (.bin .addI (.bin .mulI (.var 66) (.var 34)) (.bin .mulI (.var 67) (.var 33))))))), (.int .i64 (.lit 0))]))))))))))))))))))))))))))))))))))))
     (.leaf (.tuple [(.int .i64 (.lit 0)), (.int .i64 (.var 35))]))))))
    (.leaf (.tuple [(.int .i64 (.lit 0)), (.int .i64 (.var 32))]))))))
   (.leaf (.tuple [(.int .i64 (.lit 0)), (.int .i64 (.var 29))]))))))
  (.leaf (.tuple [(.int .i64 (.lit 0)), (.int .i64 (.var 26))]))))))
set_option maxHeartbeats 8000000 in
theorem rwi {x0 y0 x1 y1 x2 y2 x3 y3 : Nat} {m0 m1 m2 m3 m4 m5 m6 m7 m8 m9 m10 m11 m12 m13 m14 m15 : Int} (r0 : (-9223372036854775808) ≤ m0 ∧ m0 ≤ 9223372036854775807) (r1 : (-9223372036854775808) ≤ m1 ∧ m1 ≤ 9223372036854775807) (r2 : (-9223372036854775808) ≤ m2 ∧ m2 ≤ 9223372036854775807) (r3 : (-9223372036854775808) ≤ m3 ∧ m3 ≤ 9223372036854775807) (r4 : (-9223372036854775808) ≤ m4 ∧ m4 ≤ 9223372036854775807) (r5 : (-9223372036854775808) ≤ m5 ∧ m5 ≤ 9223372036854775807) (r6 : (-9223372036854775808) ≤ m6 ∧ m6 ≤ 9223372036854775807) (r7 : (-9223372036854775808) ≤ m7 ∧ m7 ≤ 9223372036854775807) (r8 : (-9223372036854775808) ≤ m8 ∧ m8 ≤ 9223372036854775807) (r9 : (-9223372036854775808) ≤ m9 ∧ m9 ≤ 9223372036854775807) (r10 : (-9223372036854775808) ≤ m10 ∧ m10 ≤ 9223372036854775807) (r11 : (-9223372036854775808) ≤ m11 ∧ m11 ≤ 9223372036854775807) (r12 : (-9223372036854775808) ≤ m12 ∧ m12 ≤ 9223372036854775807) (r13 : (-9223372036854775808) ≤ m13 ∧ m13 ≤ 9223372036854775807) (r14 : (-9223372036854775808) ≤ m14 ∧ m14 ≤ 9223372036854775807) (r15 : (-9223372036854775808) ≤ m15 ∧ m15 ≤ 9223372036854775807) {Q : Value → Prop} (H :
  (∃ v24 : Int, ∃ v25 : Int, ∃ v26 : Int, (∀ w, Calls Try.prog 141 #[.complex .f64 x0 y0, .int .i64 (10000000)] w fun e w' => e = .returned (.tuple #[.agg #[.int .i64 (v24), .int .i64 (v25)], .int .i64 (v26)]) ∧ Below w.heap.size w w') ∧
   (((-10000000) ≤ v24 ∧ v24 ≤ 10000000) ∧ (((-10000000) ≤ v25 ∧ v25 ≤ 10000000) ∧ ((((v26 : Int) == 0) = true → (∃ v27 : Int, ∃ v28 : Int, ∃ v29 : Int, (∀ w, Calls Try.prog 141 #[.complex .f64 x1 y1, .int .i64 (10000000)] w fun e w' => e = .returned (.tuple #[.agg #[.int .i64 (v27), .int .i64 (v28)], .int .i64 (v29)]) ∧ Below w.heap.size w w') ∧
    (((-10000000) ≤ v27 ∧ v27 ≤ 10000000) ∧ (((-10000000) ≤ v28 ∧ v28 ≤ 10000000) ∧ ((((v29 : Int) == 0) = true → (∃ v30 : Int, ∃ v31 : Int, ∃ v32 : Int, (∀ w, Calls Try.prog 141 #[.complex .f64 x2 y2, .int .i64 (10000000)] w fun e w' => e = .returned (.tuple #[.agg #[.int .i64 (v30), .int .i64 (v31)], .int .i64 (v32)]) ∧ Below w.heap.size w w') ∧
     (((-10000000) ≤ v30 ∧ v30 ≤ 10000000) ∧ (((-10000000) ≤ v31 ∧ v31 ≤ 10000000) ∧ ((((v32 : Int) == 0) = true → (∃ v33 : Int, ∃ v34 : Int, ∃ v35 : Int, (∀ w, Calls Try.prog 141 #[.complex .f64 x3 y3, .int .i64 (10000000)] w fun e w' => e = .returned (.tuple #[.agg #[.int .i64 (v33), .int .i64 (v34)], .int .i64 (v35)]) ∧ Below w.heap.size w w') ∧
      (((-10000000) ≤ v33 ∧ v33 ≤ 10000000) ∧ (((-10000000) ≤ v34 ∧ v34 ≤ 10000000) ∧ ((((v35 : Int) == 0) = true → (∃ v36 : Int, ∃ v37 : Int, ∃ v38 : Int, ∃ v39 : Int, ∃ v40 : Int, ∃ v41 : Int, ∃ v42 : Int, ∃ v43 : Int, ∃ v44 : Int, ∃ v45 : Int, ∃ v46 : Int, ∃ v47 : Int, ∃ v48 : Int, ∃ v49 : Int, ∃ v50 : Int, ∃ v51 : Int, ∃ v52 : Int, ∃ v53 : Int, ∃ v54 : Int, ∃ v55 : Int, ∃ v56 : Int, ∃ v57 : Int, ∃ v58 : Int, ∃ v59 : Int, ∃ v60 : Int, ∃ v61 : Int, ∃ v62 : Int, ∃ v63 : Int, ∃ v64 : Int, ∃ v65 : Int, ∃ v66 : Int, ∃ v67 : Int, (∀ w, Calls Try.prog 70 #[.agg #[.int .i64 (m0), .int .i64 (m1), .int .i64 (m2), .int .i64 (m3), .int .i64 (m4), .int .i64 (m5), .int .i64 (m6), .int .i64 (m7), .int .i64 (m8), .int .i64 (m9), .int .i64 (m10), .int .i64 (m11), .int .i64 (m12), .int .i64 (m13), .int .i64 (m14), .int .i64 (m15)]] w fun e w' => e = .returned (.agg #[.int .i64 (v36), .int .i64 (v37), .int .i64 (v38), .int .i64 (v39), .int .i64 (v40), .int .i64 (v41), .int .i64 (v42), .int .i64 (v43), .int .i64 (v44), .int .i64 (v45), .int .i64 (v46), .int .i64 (v47), .int .i64 (v48), .int .i64 (v49), .int .i64 (v50), .int .i64 (v51), .int .i64 (v52), .int .i64 (v53), .int .i64 (v54), .int .i64 (v55), .int .i64 (v56), .int .i64 (v57), .int .i64 (v58), .int .i64 (v59), .int .i64 (v60), .int .i64 (v61), .int .i64 (v62), .int .i64 (v63), .int .i64 (v64), .int .i64 (v65), .int .i64 (v66), .int .i64 (v67)]) ∧ Below w.heap.size w w') ∧
       (((-160) ≤ v36 ∧ v36 ≤ 160) ∧ (((-160) ≤ v37 ∧ v37 ≤ 160) ∧ (((-160) ≤ v38 ∧ v38 ≤ 160) ∧ (((-160) ≤ v39 ∧ v39 ≤ 160) ∧ (((-160) ≤ v40 ∧ v40 ≤ 160) ∧ (((-160) ≤ v41 ∧ v41 ≤ 160) ∧ (((-160) ≤ v42 ∧ v42 ≤ 160) ∧ (((-160) ≤ v43 ∧ v43 ≤ 160) ∧ (((-160) ≤ v44 ∧ v44 ≤ 160) ∧ (((-160) ≤ v45 ∧ v45 ≤ 160) ∧ (((-160) ≤ v46 ∧ v46 ≤ 160) ∧ (((-160) ≤ v47 ∧ v47 ≤ 160) ∧ (((-160) ≤ v48 ∧ v48 ≤ 160) ∧ (((-160) ≤ v49 ∧ v49 ≤ 160) ∧ (((-160) ≤ v50 ∧ v50 ≤ 160) ∧ (((-160) ≤ v51 ∧ v51 ≤ 160) ∧ (((-160) ≤ v52 ∧ v52 ≤ 160) ∧ (((-160) ≤ v53 ∧ v53 ≤ 160) ∧ (((-160) ≤ v54 ∧ v54 ≤ 160) ∧ (((-160) ≤ v55 ∧ v55 ≤ 160) ∧ (((-160) ≤ v56 ∧ v56 ≤ 160) ∧ (((-160) ≤ v57 ∧ v57 ≤ 160) ∧ (((-160) ≤ v58 ∧ v58 ≤ 160) ∧ (((-160) ≤ v59 ∧ v59 ≤ 160) ∧ (((-160) ≤ v60 ∧ v60 ≤ 160) ∧ (((-160) ≤ v61 ∧ v61 ≤ 160) ∧ (((-160) ≤ v62 ∧ v62 ≤ 160) ∧ (((-160) ≤ v63 ∧ v63 ≤ 160) ∧ (((-160) ≤ v64 ∧ v64 ≤ 160) ∧ (((-160) ≤ v65 ∧ v65 ≤ 160) ∧ (((-160) ≤ v66 ∧ v66 ≤ 160) ∧ (((-160) ≤ v67 ∧ v67 ≤ 160) ∧ ((decide ((0 : Int) ≤ (((((((((((((((((v24 * ((v36 * v24) - (v37 * v25))) - ((0 - v25) * ((v36 * v25) + (v37 * v24)))) + ((v24 * ((v38 * v27) - (v39 * v28))) - ((0 - v25) * ((v38 * v28) + (v39 * v27))))) + ((v24 * ((v40 * v30) - (v41 * v31))) - ((0 - v25) * ((v40 * v31) + (v41 * v30))))) + ((v24 * ((v42 * v33) - (v43 * v34))) - ((0 - v25) * ((v42 * v34) + (v43 * v33))))) + ((v27 * ((v44 * v24) - (v45 * v25))) - ((0 - v28) * ((v44 * v25) + (v45 * v24))))) + ((v27 * ((v46 * v27) - (v47 * v28))) - ((0 - v28) * ((v46 * v28) + (v47 * v27))))) + ((v27 * ((v48 * v30) - (v49 * v31))) - ((0 - v28) * ((v48 * v31) + (v49 * v30))))) + ((v27 * ((v50 * v33) - (v51 * v34))) - ((0 - v28) * ((v50 * v34) + (v51 * v33))))) + ((v30 * ((v52 * v24) - (v53 * v25))) - ((0 - v31) * ((v52 * v25) + (v53 * v24))))) + ((v30 * ((v54 * v27) - (v55 * v28))) - ((0 - v31) * ((v54 * v28) + (v55 * v27))))) + ((v30 * ((v56 * v30) - (v57 * v31))) - ((0 - v31) * ((v56 * v31) + (v57 * v30))))) + ((v30 * ((v58 * v33) - (v59 * v34))) - ((0 - v31) * ((v58 * v34) + (v59 * v33))))) + ((v33 * ((v60 * v24) - (v61 * v25))) - ((0 - v34) * ((v60 * v25) + (v61 * v24))))) + ((v33 * ((v62 * v27) - (v63 * v28))) - ((0 - v34) * ((v62 * v28) + (v63 * v27))))) + ((v33 * ((v64 * v30) - (v65 * v31))) - ((0 - v34) * ((v64 * v31) + (v65 * v30))))) + ((v33 * ((v66 * v33) - (v67 * v34))) - ((0 - v34) * ((v66 * v34) + (v67 * v33)))))) = true → Q (.tuple #[.int .i64 (0), .int .i64 (20)])) ∧
       (decide ((0 : Int) ≤ (((((((((((((((((v24 * ((v36 * v24) - (v37 * v25))) - ((0 - v25) * ((v36 * v25) + (v37 * v24)))) + ((v24 * ((v38 * v27) - (v39 * v28))) - ((0 - v25) * ((v38 * v28) + (v39 * v27))))) + ((v24 * ((v40 * v30) - (v41 * v31))) - ((0 - v25) * ((v40 * v31) + (v41 * v30))))) + ((v24 * ((v42 * v33) - (v43 * v34))) - ((0 - v25) * ((v42 * v34) + (v43 * v33))))) + ((v27 * ((v44 * v24) - (v45 * v25))) - ((0 - v28) * ((v44 * v25) + (v45 * v24))))) + ((v27 * ((v46 * v27) - (v47 * v28))) - ((0 - v28) * ((v46 * v28) + (v47 * v27))))) + ((v27 * ((v48 * v30) - (v49 * v31))) - ((0 - v28) * ((v48 * v31) + (v49 * v30))))) + ((v27 * ((v50 * v33) - (v51 * v34))) - ((0 - v28) * ((v50 * v34) + (v51 * v33))))) + ((v30 * ((v52 * v24) - (v53 * v25))) - ((0 - v31) * ((v52 * v25) + (v53 * v24))))) + ((v30 * ((v54 * v27) - (v55 * v28))) - ((0 - v31) * ((v54 * v28) + (v55 * v27))))) + ((v30 * ((v56 * v30) - (v57 * v31))) - ((0 - v31) * ((v56 * v31) + (v57 * v30))))) + ((v30 * ((v58 * v33) - (v59 * v34))) - ((0 - v31) * ((v58 * v34) + (v59 * v33))))) + ((v33 * ((v60 * v24) - (v61 * v25))) - ((0 - v34) * ((v60 * v25) + (v61 * v24))))) + ((v33 * ((v62 * v27) - (v63 * v28))) - ((0 - v34) * ((v62 * v28) + (v63 * v27))))) + ((v33 * ((v64 * v30) - (v65 * v31))) - ((0 - v34) * ((v64 * v31) + (v65 * v30))))) + ((v33 * ((v66 * v33) - (v67 * v34))) - ((0 - v34) * ((v66 * v34) + (v67 * v33)))))) = false → Q (.tuple #[.int .i64 ((((((((((((((((((v24 * ((v36 * v24) - (v37 * v25))) - ((0 - v25) * ((v36 * v25) + (v37 * v24)))) + ((v24 * ((v38 * v27) - (v39 * v28))) - ((0 - v25) * ((v38 * v28) + (v39 * v27))))) + ((v24 * ((v40 * v30) - (v41 * v31))) - ((0 - v25) * ((v40 * v31) + (v41 * v30))))) + ((v24 * ((v42 * v33) - (v43 * v34))) - ((0 - v25) * ((v42 * v34) + (v43 * v33))))) + ((v27 * ((v44 * v24) - (v45 * v25))) - ((0 - v28) * ((v44 * v25) + (v45 * v24))))) + ((v27 * ((v46 * v27) - (v47 * v28))) - ((0 - v28) * ((v46 * v28) + (v47 * v27))))) + ((v27 * ((v48 * v30) - (v49 * v31))) - ((0 - v28) * ((v48 * v31) + (v49 * v30))))) + ((v27 * ((v50 * v33) - (v51 * v34))) - ((0 - v28) * ((v50 * v34) + (v51 * v33))))) + ((v30 * ((v52 * v24) - (v53 * v25))) - ((0 - v31) * ((v52 * v25) + (v53 * v24))))) + ((v30 * ((v54 * v27) - (v55 * v28))) - ((0 - v31) * ((v54 * v28) + (v55 * v27))))) + ((v30 * ((v56 * v30) - (v57 * v31))) - ((0 - v31) * ((v56 * v31) + (v57 * v30))))) + ((v30 * ((v58 * v33) - (v59 * v34))) - ((0 - v31) * ((v58 * v34) + (v59 * v33))))) + ((v33 * ((v60 * v24) - (v61 * v25))) - ((0 - v34) * ((v60 * v25) + (v61 * v24))))) + ((v33 * ((v62 * v27) - (v63 * v28))) - ((0 - v34) * ((v62 * v28) + (v63 * v27))))) + ((v33 * ((v64 * v30) - (v65 * v31))) - ((0 - v34) * ((v64 * v31) + (v65 * v30))))) + ((v33 * ((v66 * v33) - (v67 * v34))) - ((0 - v34) * ((v66 * v34) + (v67 * v33)))))), .int .i64 (0)]))))))))))))))))))))))))))))))))))))) ∧
      (((v35 : Int) == 0) = false → Q (.tuple #[.int .i64 (0), .int .i64 (v35)]))))))) ∧
     (((v32 : Int) == 0) = false → Q (.tuple #[.int .i64 (0), .int .i64 (v32)]))))))) ∧
    (((v29 : Int) == 0) = false → Q (.tuple #[.int .i64 (0), .int .i64 (v29)]))))))) ∧
   (((v26 : Int) == 0) = false → Q (.tuple #[.int .i64 (0), .int .i64 (v26)]))))))) :
    ∃ v, Q v ∧ ∀ w, Calls Try.prog 78 #[.agg #[.int .i64 (m0), .int .i64 (m1), .int .i64 (m2), .int .i64 (m3), .int .i64 (m4), .int .i64 (m5), .int .i64 (m6), .int .i64 (m7), .int .i64 (m8), .int .i64 (m9), .int .i64 (m10), .int .i64 (m11), .int .i64 (m12), .int .i64 (m13), .int .i64 (m14), .int .i64 (m15)], .agg #[.complex .f64 x0 y0, .complex .f64 x1 y1, .complex .f64 x2 y2, .complex .f64 x3 y3]] w fun e w' => e = .returned v ∧ Below w.heap.size w w' :=
  tree_at mixed names S1_ok (S := S1 Try.prog) (lf := 100000) (d := 60) (args := [(.agg [(.int .i64 (.var 0)), (.int .i64 (.var 1)), (.int .i64 (.var 2)), (.int .i64 (.var 3)), (.int .i64 (.var 4)), (.int .i64 (.var 5)), (.int .i64 (.var 6)), (.int .i64 (.var 7)), (.int .i64 (.var 8)), (.int .i64 (.var 9)), (.int .i64 (.var 10)), (.int .i64 (.var 11)), (.int .i64 (.var 12)), (.int .i64 (.var 13)), (.int .i64 (.var 14)), (.int .i64 (.var 15))]), (.agg [(.complex .f64 (.var 16) (.var 17)), (.complex .f64 (.var 18) (.var 19)), (.complex .f64 (.var 20) (.var 21)), (.complex .f64 (.var 22) (.var 23))])]) rwi_t { ivs := [(0, (-9223372036854775808), 9223372036854775807), (1, (-9223372036854775808), 9223372036854775807), (2, (-9223372036854775808), 9223372036854775807), (3, (-9223372036854775808), 9223372036854775807), (4, (-9223372036854775808), 9223372036854775807), (5, (-9223372036854775808), 9223372036854775807), (6, (-9223372036854775808), 9223372036854775807), (7, (-9223372036854775808), 9223372036854775807), (8, (-9223372036854775808), 9223372036854775807), (9, (-9223372036854775808), 9223372036854775807), (10, (-9223372036854775808), 9223372036854775807), (11, (-9223372036854775808), 9223372036854775807), (12, (-9223372036854775808), 9223372036854775807), (13, (-9223372036854775808), 9223372036854775807), (14, (-9223372036854775808), 9223372036854775807), (15, (-9223372036854775808), 9223372036854775807)], whs := [] } [m0, m1, m2, m3, m4, m5, m6, m7, m8, m9, m10, m11, m12, m13, m14, m15, (x0 : Int), (y0 : Int), (x1 : Int), (y1 : Int), (x2 : Int), (y2 : Int), (x3 : Int), (y3 : Int)] [] 24 0 rfl rfl (by kernel_rfl) (by kernel_rfl) (by kernel_rfl)
    ⟨(fc r0 (fc r1 (fc r2 (fc r3 (fc r4 (fc r5 (fc r6 (fc r7 (fc r8 (fc r9 (fc r10 (fc r11 (fc r12 (fc r13 (fc r14 (fc r15 fz)))))))))))))))), fz⟩ H
def wl_t : Tr :=
  (.call 20 [] (.bool (.lit true)) 0 0
  (.call 77 [(.agg [(.int .i64 (.var 0)), (.int .i64 (.var 1)), (.int .i64 (.var 2)), (.int .i64 (.var 3)), (.int .i64 (.var 4)), (.int .i64 (.var 5)), (.int .i64 (.var 6)), (.int .i64 (.var 7)), (.int .i64 (.var 8)), (.int .i64 (.var 9)), (.int .i64 (.var 10)), (.int .i64 (.var 11)), (.int .i64 (.var 12)), (.int .i64 (.var 13)), (.int .i64 (.var 14)), (.int .i64 (.var 15))]), (.agg [(.complex .f64 (.var 16) (.var 17)), (.complex .f64 (.var 18) (.var 19)), (.complex .f64 (.var 20) (.var 21)), (.complex .f64 (.var 22) (.var 23))])] (.tuple [(.int .i64 (.var 24)), (.int .i64 (.var 25))]) 2 0
  (.call 73 [(.agg [(.int .i64 (.var 0)), (.int .i64 (.var 1)), (.int .i64 (.var 2)), (.int .i64 (.var 3)), (.int .i64 (.var 4)), (.int .i64 (.var 5)), (.int .i64 (.var 6)), (.int .i64 (.var 7)), (.int .i64 (.var 8)), (.int .i64 (.var 9)), (.int .i64 (.var 10)), (.int .i64 (.var 11)), (.int .i64 (.var 12)), (.int .i64 (.var 13)), (.int .i64 (.var 14)), (.int .i64 (.var 15))])] (.int .i64 (.var 26)) 1 0
  (.ite (.icmp .eql (.var 26) (.lit 0))
  (.call 78 [(.agg [(.int .i64 (.var 0)), (.int .i64 (.var 1)), (.int .i64 (.var 2)), (.int .i64 (.var 3)), (.int .i64 (.var 4)), (.int .i64 (.var 5)), (.int .i64 (.var 6)), (.int .i64 (.var 7)), (.int .i64 (.var 8)), (.int .i64 (.var 9)), (.int .i64 (.var 10)), (.int .i64 (.var 11)), (.int .i64 (.var 12)), (.int .i64 (.var 13)), (.int .i64 (.var 14)), (.int .i64 (.var 15))]), (.agg [(.complex .f64 (.var 16) (.var 17)), (.complex .f64 (.var 18) (.var 19)), (.complex .f64 (.var 20) (.var 21)), (.complex .f64 (.var 22) (.var 23))])] (.tuple [(.int .i64 (.var 27)), (.int .i64 (.var 28))]) 2 0
   (.ite (.icmp .eql (.var 25) (.var 28))
   (.leaf (.bool (.icmp .eql (.var 24) (.var 27))))
   (.leaf (.bool (.lit false)))))
  (.ite (.icmp .eql (.var 25) (.var 26))
   (.leaf (.bool (.icmp .eql (.var 24) (.lit 0))))
   (.leaf (.bool (.lit false))))))))
set_option maxHeartbeats 8000000 in
theorem wl {x0 y0 x1 y1 x2 y2 x3 y3 : Nat} {m0 m1 m2 m3 m4 m5 m6 m7 m8 m9 m10 m11 m12 m13 m14 m15 : Int} (r0 : (-9223372036854775808) ≤ m0 ∧ m0 ≤ 9223372036854775807) (r1 : (-9223372036854775808) ≤ m1 ∧ m1 ≤ 9223372036854775807) (r2 : (-9223372036854775808) ≤ m2 ∧ m2 ≤ 9223372036854775807) (r3 : (-9223372036854775808) ≤ m3 ∧ m3 ≤ 9223372036854775807) (r4 : (-9223372036854775808) ≤ m4 ∧ m4 ≤ 9223372036854775807) (r5 : (-9223372036854775808) ≤ m5 ∧ m5 ≤ 9223372036854775807) (r6 : (-9223372036854775808) ≤ m6 ∧ m6 ≤ 9223372036854775807) (r7 : (-9223372036854775808) ≤ m7 ∧ m7 ≤ 9223372036854775807) (r8 : (-9223372036854775808) ≤ m8 ∧ m8 ≤ 9223372036854775807) (r9 : (-9223372036854775808) ≤ m9 ∧ m9 ≤ 9223372036854775807) (r10 : (-9223372036854775808) ≤ m10 ∧ m10 ≤ 9223372036854775807) (r11 : (-9223372036854775808) ≤ m11 ∧ m11 ≤ 9223372036854775807) (r12 : (-9223372036854775808) ≤ m12 ∧ m12 ≤ 9223372036854775807) (r13 : (-9223372036854775808) ≤ m13 ∧ m13 ≤ 9223372036854775807) (r14 : (-9223372036854775808) ≤ m14 ∧ m14 ≤ 9223372036854775807) (r15 : (-9223372036854775808) ≤ m15 ∧ m15 ≤ 9223372036854775807) {Q : Value → Prop} (H :
  ((∀ w, Calls Try.prog 20 #[] w fun e w' => e = .returned (.bool (true)) ∧ Below w.heap.size w w') ∧
   (∃ v24 : Int, ∃ v25 : Int, (∀ w, Calls Try.prog 77 #[.agg #[.int .i64 (m0), .int .i64 (m1), .int .i64 (m2), .int .i64 (m3), .int .i64 (m4), .int .i64 (m5), .int .i64 (m6), .int .i64 (m7), .int .i64 (m8), .int .i64 (m9), .int .i64 (m10), .int .i64 (m11), .int .i64 (m12), .int .i64 (m13), .int .i64 (m14), .int .i64 (m15)], .agg #[.complex .f64 x0 y0, .complex .f64 x1 y1, .complex .f64 x2 y2, .complex .f64 x3 y3]] w fun e w' => e = .returned (.tuple #[.int .i64 (v24), .int .i64 (v25)]) ∧ Below w.heap.size w w') ∧
   (∃ v26 : Int, (∀ w, Calls Try.prog 73 #[.agg #[.int .i64 (m0), .int .i64 (m1), .int .i64 (m2), .int .i64 (m3), .int .i64 (m4), .int .i64 (m5), .int .i64 (m6), .int .i64 (m7), .int .i64 (m8), .int .i64 (m9), .int .i64 (m10), .int .i64 (m11), .int .i64 (m12), .int .i64 (m13), .int .i64 (m14), .int .i64 (m15)]] w fun e w' => e = .returned (.int .i64 (v26)) ∧ Below w.heap.size w w') ∧
   ((((v26 : Int) == 0) = true → (∃ v27 : Int, ∃ v28 : Int, (∀ w, Calls Try.prog 78 #[.agg #[.int .i64 (m0), .int .i64 (m1), .int .i64 (m2), .int .i64 (m3), .int .i64 (m4), .int .i64 (m5), .int .i64 (m6), .int .i64 (m7), .int .i64 (m8), .int .i64 (m9), .int .i64 (m10), .int .i64 (m11), .int .i64 (m12), .int .i64 (m13), .int .i64 (m14), .int .i64 (m15)], .agg #[.complex .f64 x0 y0, .complex .f64 x1 y1, .complex .f64 x2 y2, .complex .f64 x3 y3]] w fun e w' => e = .returned (.tuple #[.int .i64 (v27), .int .i64 (v28)]) ∧ Below w.heap.size w w') ∧
    ((((v25 : Int) == v28) = true → Q (.bool (((v24 : Int) == v27)))) ∧
    (((v25 : Int) == v28) = false → Q (.bool (false)))))) ∧
   (((v26 : Int) == 0) = false → ((((v25 : Int) == v26) = true → Q (.bool (((v24 : Int) == 0)))) ∧
    (((v25 : Int) == v26) = false → Q (.bool (false)))))))))) :
    ∃ v, Q v ∧ ∀ w, Calls Try.prog 14 #[.agg #[.int .i64 (m0), .int .i64 (m1), .int .i64 (m2), .int .i64 (m3), .int .i64 (m4), .int .i64 (m5), .int .i64 (m6), .int .i64 (m7), .int .i64 (m8), .int .i64 (m9), .int .i64 (m10), .int .i64 (m11), .int .i64 (m12), .int .i64 (m13), .int .i64 (m14), .int .i64 (m15)], .agg #[.float .f64 x0, .float .f64 y0, .float .f64 x1, .float .f64 y1, .float .f64 x2, .float .f64 y2, .float .f64 x3, .float .f64 y3]] w fun e w' => e = .returned v ∧ Below w.heap.size w w' :=
  tree_at mixed names S1_ok (S := S1 Try.prog) (lf := 100000) (d := 60) (args := [(.agg [(.int .i64 (.var 0)), (.int .i64 (.var 1)), (.int .i64 (.var 2)), (.int .i64 (.var 3)), (.int .i64 (.var 4)), (.int .i64 (.var 5)), (.int .i64 (.var 6)), (.int .i64 (.var 7)), (.int .i64 (.var 8)), (.int .i64 (.var 9)), (.int .i64 (.var 10)), (.int .i64 (.var 11)), (.int .i64 (.var 12)), (.int .i64 (.var 13)), (.int .i64 (.var 14)), (.int .i64 (.var 15))]), (.agg [(.float .f64 (.var 16)), (.float .f64 (.var 17)), (.float .f64 (.var 18)), (.float .f64 (.var 19)), (.float .f64 (.var 20)), (.float .f64 (.var 21)), (.float .f64 (.var 22)), (.float .f64 (.var 23))])]) wl_t { ivs := [(0, (-9223372036854775808), 9223372036854775807), (1, (-9223372036854775808), 9223372036854775807), (2, (-9223372036854775808), 9223372036854775807), (3, (-9223372036854775808), 9223372036854775807), (4, (-9223372036854775808), 9223372036854775807), (5, (-9223372036854775808), 9223372036854775807), (6, (-9223372036854775808), 9223372036854775807), (7, (-9223372036854775808), 9223372036854775807), (8, (-9223372036854775808), 9223372036854775807), (9, (-9223372036854775808), 9223372036854775807), (10, (-9223372036854775808), 9223372036854775807), (11, (-9223372036854775808), 9223372036854775807), (12, (-9223372036854775808), 9223372036854775807), (13, (-9223372036854775808), 9223372036854775807), (14, (-9223372036854775808), 9223372036854775807), (15, (-9223372036854775808), 9223372036854775807)], whs := [] } [m0, m1, m2, m3, m4, m5, m6, m7, m8, m9, m10, m11, m12, m13, m14, m15, (x0 : Int), (y0 : Int), (x1 : Int), (y1 : Int), (x2 : Int), (y2 : Int), (x3 : Int), (y3 : Int)] [] 24 0 rfl rfl (by kernel_rfl) (by kernel_rfl) (by kernel_rfl)
    ⟨(fc r0 (fc r1 (fc r2 (fc r3 (fc r4 (fc r5 (fc r6 (fc r7 (fc r8 (fc r9 (fc r10 (fc r11 (fc r12 (fc r13 (fc r14 (fc r15 fz)))))))))))))))), fz⟩ H
end Go.Proofs.Ytlondnchmfhenaa.Ev
