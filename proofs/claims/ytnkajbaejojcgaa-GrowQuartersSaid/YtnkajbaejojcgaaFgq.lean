/- GrowQuarters returns true, whatever the numbers are. -/
import Derived.Test.YtnkajbaejojcgaaFaw8
import Derived.Test.YtnkajbaejojcgaaFgqa
namespace Go.Proofs.Ytnkajbaejojcgaa.Ev
set_option linter.unusedSimpArgs false
open Go Go.RowKit
set_option linter.unusedVariables false
set_option maxRecDepth 100000
def etalonlaw08_GrowQuarters_s : Sig := ⟨8, ⟨7, 0, 0⟩, ⟨0, 1, 0⟩, [(.agg [(.int .i64 (.var 0)), (.int .i64 (.var 1)), (.int .i64 (.var 2))]), (.agg [(.int .i64 (.var 3)), (.int .i64 (.var 4)), (.int .i64 (.var 5)), (.int .i64 (.var 6))])], [], (.bool (.var 0)), []⟩

def gq_t : Tr :=
  (.call etalonlaw08_awake_s ⟨[], [], []⟩ ⟨[], [(.var 0)], []⟩ ⟨15, [], [], [none, none], (.bool (.var 0)), []⟩
  (.ite (.var 0)
  (.call grow_QuarterThick_s ⟨[(.var 0), (.var 1), (.var 2)], [], []⟩ ⟨[(.var 0), (.var 1), (.var 2), (.var 7), (.var 8), (.var 9)], [], []⟩ ⟨38, [(.agg [(.int .i64 (.var 0)), (.int .i64 (.var 1)), (.int .i64 (.var 2))])], [], [none, none], (.tuple [(.agg [(.int .i64 (.var 7)), (.int .i64 (.var 8))]), (.int .i64 (.var 9))]), []⟩
   (.call grow_RateOf_s ⟨[(.var 0), (.var 1), (.var 2), (.var 5), (.var 6)], [], []⟩ ⟨[(.var 0), (.var 1), (.var 2), (.var 5), (.var 6), (.var 10), (.var 11), (.var 12)], [], []⟩ ⟨39, [(.agg [(.int .i64 (.var 0)), (.int .i64 (.var 1)), (.int .i64 (.var 2))]), (.agg [(.int .i64 (.var 5)), (.int .i64 (.var 6))])], [], [none, none, none], (.tuple [(.agg [(.int .i64 (.var 10)), (.int .i64 (.var 11))]), (.int .i64 (.var 12))]), []⟩
   (.call grow_EndAt_s ⟨[(.var 0), (.var 1), (.var 2), (.var 3), (.var 4), (.var 5), (.var 6)], [], []⟩ ⟨[(.var 0), (.var 1), (.var 2), (.var 3), (.var 4), (.var 5), (.var 6), (.var 13), (.var 14), (.var 15)], [], []⟩ ⟨40, [(.agg [(.int .i64 (.var 0)), (.int .i64 (.var 1)), (.int .i64 (.var 2))]), (.agg [(.int .i64 (.var 3)), (.int .i64 (.var 4))]), (.agg [(.int .i64 (.var 5)), (.int .i64 (.var 6))])], [], [none, none, none, none], (.tuple [(.agg [(.int .i64 (.var 13)), (.int .i64 (.var 14))]), (.int .i64 (.var 15))]), []⟩
   (.call etalonref08_QuarterErr_s ⟨[(.var 0), (.var 1), (.var 2)], [], []⟩ ⟨[(.var 0), (.var 1), (.var 2), (.var 16)], [], []⟩ ⟨41, [(.agg [(.int .i64 (.var 0)), (.int .i64 (.var 1)), (.int .i64 (.var 2))])], [], [none, none, none, none, none], (.int .i64 (.var 16)), []⟩
   (.ite (.icmp .eql (.var 16) (.lit 0))
   (.ite (.icmp .eql (.var 9) (.lit 0))
    (.call etalonref08_QuarterThick_s ⟨[(.var 0), (.var 1), (.var 2)], [], []⟩ ⟨[(.var 0), (.var 1), (.var 2), (.var 17), (.var 18)], [], []⟩ ⟨42, [(.agg [(.int .i64 (.var 0)), (.int .i64 (.var 1)), (.int .i64 (.var 2))])], [], [none, none, none, none, none], (.agg [(.int .i64 (.var 17)), (.int .i64 (.var 18))]), []⟩
     (.ite (.icmp .eql (.var 7) (.var 17))
     (.ite (.icmp .eql (.var 8) (.var 18))
      (.call etalonref08_SecondsErr_s ⟨[(.var 5), (.var 6)], [], []⟩ ⟨[(.var 5), (.var 6), (.var 19)], [], []⟩ ⟨19, [(.agg [(.int .i64 (.var 5)), (.int .i64 (.var 6))])], [], [none, none, none, none, none], (.int .i64 (.var 19)), []⟩
       (.ite (.icmp .eql (.var 19) (.lit 0))
       (.ite (.icmp .eql (.var 5) (.lit 0))
        (.ite (.icmp .eql (.var 12) (.lit 9))
         (.ite (.icmp .eql (.var 10) (.lit 0))
          (.ite (.icmp .eql (.var 11) (.lit 0))
           (.call etalonref08_RateErr_s ⟨[(.var 3), (.var 4)], [], []⟩ ⟨[(.var 3), (.var 4), (.var 20)], [], []⟩ ⟨18, [(.agg [(.int .i64 (.var 3)), (.int .i64 (.var 4))])], [], [none, none, none, none, none], (.int .i64 (.var 20)), []⟩
            (.ite (.icmp .eql (.var 20) (.lit 0))
            (.ite (.icmp .eql (.var 15) (.lit 0))
             (.call etalonref08_EndAt_s ⟨[(.var 0), (.var 1), (.var 2), (.var 3), (.var 4), (.var 5), (.var 6)], [], []⟩ ⟨[(.var 0), (.var 1), (.var 2), (.var 3), (.var 4), (.var 5), (.var 6), (.var 21), (.var 22)], [], []⟩ ⟨44, [(.agg [(.int .i64 (.var 0)), (.int .i64 (.var 1)), (.int .i64 (.var 2))]), (.agg [(.int .i64 (.var 3)), (.int .i64 (.var 4))]), (.agg [(.int .i64 (.var 5)), (.int .i64 (.var 6))])], [], [none, none, none, none, none], (.agg [(.int .i64 (.var 21)), (.int .i64 (.var 22))]), []⟩
              (.ite (.icmp .eql (.var 13) (.var 21))
              (.ite (.icmp .eql (.var 14) (.var 22))
               (.ite (.icmp .leq (.var 7) (.var 13))
                (.ret ⟨[], [(.icmp .geq (.var 14) (.var 8))], []⟩ [])
                (.ret ⟨[], [(.lit false)], []⟩ []))
               (.ret ⟨[], [(.lit false)], []⟩ []))
              (.ret ⟨[], [(.lit false)], []⟩ [])))
             (.ret ⟨[], [(.lit false)], []⟩ []))
            (.ite (.icmp .eql (.var 15) (.var 20))
             (.ret ⟨[], [(.and (.icmp .eql (.var 13) (.lit 0)) (.icmp .eql (.var 14) (.lit 0)))], []⟩ [])
             (.ret ⟨[], [(.lit false)], []⟩ []))))
           (.ret ⟨[], [(.lit false)], []⟩ []))
          (.ret ⟨[], [(.lit false)], []⟩ []))
         (.ret ⟨[], [(.lit false)], []⟩ []))
        (.ite (.icmp .eql (.var 12) (.var 19))
         (.call etalonref08_RateOf_s ⟨[(.var 0), (.var 1), (.var 2), (.var 5), (.var 6)], [], []⟩ ⟨[(.var 0), (.var 1), (.var 2), (.var 5), (.var 6), (.var 20), (.var 21)], [], []⟩ ⟨43, [(.agg [(.int .i64 (.var 0)), (.int .i64 (.var 1)), (.int .i64 (.var 2))]), (.agg [(.int .i64 (.var 5)), (.int .i64 (.var 6))])], [], [none, none, none, none, none], (.agg [(.int .i64 (.var 20)), (.int .i64 (.var 21))]), []⟩
          (.ite (.icmp .eql (.var 10) (.var 20))
          (.ite (.icmp .eql (.var 11) (.var 21))
           (.call etalonref08_RateErr_s ⟨[(.var 3), (.var 4)], [], []⟩ ⟨[(.var 3), (.var 4), (.var 22)], [], []⟩ ⟨18, [(.agg [(.int .i64 (.var 3)), (.int .i64 (.var 4))])], [], [none, none, none, none, none], (.int .i64 (.var 22)), []⟩
            (.ite (.icmp .eql (.var 22) (.lit 0))
            (.ite (.icmp .eql (.var 15) (.lit 0))
             (.call etalonref08_EndAt_s ⟨[(.var 0), (.var 1), (.var 2), (.var 3), (.var 4), (.var 5), (.var 6)], [], []⟩ ⟨[(.var 0), (.var 1), (.var 2), (.var 3), (.var 4), (.var 5), (.var 6), (.var 23), (.var 24)], [], []⟩ ⟨44, [(.agg [(.int .i64 (.var 0)), (.int .i64 (.var 1)), (.int .i64 (.var 2))]), (.agg [(.int .i64 (.var 3)), (.int .i64 (.var 4))]), (.agg [(.int .i64 (.var 5)), (.int .i64 (.var 6))])], [], [none, none, none, none, none], (.agg [(.int .i64 (.var 23)), (.int .i64 (.var 24))]), []⟩
              (.ite (.icmp .eql (.var 13) (.var 23))
              (.ite (.icmp .eql (.var 14) (.var 24))
               (.ite (.icmp .leq (.var 7) (.var 13))
                (.ret ⟨[], [(.icmp .geq (.var 14) (.var 8))], []⟩ [])
                (.ret ⟨[], [(.lit false)], []⟩ []))
               (.ret ⟨[], [(.lit false)], []⟩ []))
              (.ret ⟨[], [(.lit false)], []⟩ [])))
             (.ret ⟨[], [(.lit false)], []⟩ []))
            (.ite (.icmp .eql (.var 15) (.var 22))
             (.ret ⟨[], [(.and (.icmp .eql (.var 13) (.lit 0)) (.icmp .eql (.var 14) (.lit 0)))], []⟩ [])
             (.ret ⟨[], [(.lit false)], []⟩ []))))
           (.ret ⟨[], [(.lit false)], []⟩ []))
          (.ret ⟨[], [(.lit false)], []⟩ [])))
         (.ret ⟨[], [(.lit false)], []⟩ [])))
       (.ite (.icmp .eql (.var 12) (.var 19))
        (.ite (.icmp .eql (.var 10) (.lit 0))
         (.ite (.icmp .eql (.var 11) (.lit 0))
          (.call etalonref08_RateErr_s ⟨[(.var 3), (.var 4)], [], []⟩ ⟨[(.var 3), (.var 4), (.var 20)], [], []⟩ ⟨18, [(.agg [(.int .i64 (.var 3)), (.int .i64 (.var 4))])], [], [none, none, none, none, none], (.int .i64 (.var 20)), []⟩
           (.ite (.icmp .eql (.var 20) (.lit 0))
           (.ite (.icmp .eql (.var 15) (.var 19))
            (.ret ⟨[], [(.and (.icmp .eql (.var 13) (.lit 0)) (.icmp .eql (.var 14) (.lit 0)))], []⟩ [])
            (.ret ⟨[], [(.lit false)], []⟩ []))
           (.ite (.icmp .eql (.var 15) (.var 20))
            (.ret ⟨[], [(.and (.icmp .eql (.var 13) (.lit 0)) (.icmp .eql (.var 14) (.lit 0)))], []⟩ [])
            (.ret ⟨[], [(.lit false)], []⟩ []))))
          (.ret ⟨[], [(.lit false)], []⟩ []))
         (.ret ⟨[], [(.lit false)], []⟩ []))
        (.ret ⟨[], [(.lit false)], []⟩ []))))
      (.ret ⟨[], [(.lit false)], []⟩ []))
     (.ret ⟨[], [(.lit false)], []⟩ [])))
    (.ret ⟨[], [(.lit false)], []⟩ []))
   (.ite (.icmp .eql (.var 9) (.var 16))
    (.ite (.icmp .eql (.var 12) (.var 16))
     (.ite (.icmp .eql (.var 15) (.var 16))
      (.ite (.icmp .eql (.var 7) (.lit 0))
       (.ite (.icmp .eql (.var 8) (.lit 0))
        (.ite (.icmp .eql (.var 10) (.lit 0))
         (.ite (.icmp .eql (.var 11) (.lit 0))
          (.ret ⟨[], [(.and (.icmp .eql (.var 13) (.lit 0)) (.icmp .eql (.var 14) (.lit 0)))], []⟩ [])
          (.ret ⟨[], [(.lit false)], []⟩ []))
         (.ret ⟨[], [(.lit false)], []⟩ []))
        (.ret ⟨[], [(.lit false)], []⟩ []))
       (.ret ⟨[], [(.lit false)], []⟩ []))
      (.ret ⟨[], [(.lit false)], []⟩ []))
     (.ret ⟨[], [(.lit false)], []⟩ []))
    (.ret ⟨[], [(.lit false)], []⟩ [])))))))
  (.ret ⟨[], [(.lit false)], []⟩ [])))
theorem gq_p0 : (gq_t.only [true, true, true, true, true, true, true]).chk Try.prog (S1 Try.prog) 100000 60 (.fn etalonlaw08_GrowQuarters_s) { dom := { ivs := [(0, (-9223372036854775808), 9223372036854775807), (1, (-9223372036854775808), 9223372036854775807), (2, (-9223372036854775808), 9223372036854775807), (3, (-9223372036854775808), 9223372036854775807), (4, (-9223372036854775808), 9223372036854775807), (5, (-9223372036854775808), 9223372036854775807), (6, (-9223372036854775808), 9223372036854775807)], aivs := [] } } etalonlaw08_GrowQuarters_s.inp = true := by kernel_rfl
theorem gq_p1 : ((gq_t.but [true, true, true, true, true, true, true]).only [true, true, true, true, true, true]).chk Try.prog (S1 Try.prog) 100000 60 (.fn etalonlaw08_GrowQuarters_s) { dom := { ivs := [(0, (-9223372036854775808), 9223372036854775807), (1, (-9223372036854775808), 9223372036854775807), (2, (-9223372036854775808), 9223372036854775807), (3, (-9223372036854775808), 9223372036854775807), (4, (-9223372036854775808), 9223372036854775807), (5, (-9223372036854775808), 9223372036854775807), (6, (-9223372036854775808), 9223372036854775807)], aivs := [] } } etalonlaw08_GrowQuarters_s.inp = true := by kernel_rfl
theorem gq_p2 : (((gq_t.but [true, true, true, true, true, true, true]).but [true, true, true, true, true, true]).only [true, true]).chk Try.prog (S1 Try.prog) 100000 60 (.fn etalonlaw08_GrowQuarters_s) { dom := { ivs := [(0, (-9223372036854775808), 9223372036854775807), (1, (-9223372036854775808), 9223372036854775807), (2, (-9223372036854775808), 9223372036854775807), (3, (-9223372036854775808), 9223372036854775807), (4, (-9223372036854775808), 9223372036854775807), (5, (-9223372036854775808), 9223372036854775807), (6, (-9223372036854775808), 9223372036854775807)], aivs := [] } } etalonlaw08_GrowQuarters_s.inp = true := by kernel_rfl
theorem gq_p3 : ((((gq_t.but [true, true, true, true, true, true, true]).but [true, true, true, true, true, true]).but [true, true])).chk Try.prog (S1 Try.prog) 100000 60 (.fn etalonlaw08_GrowQuarters_s) { dom := { ivs := [(0, (-9223372036854775808), 9223372036854775807), (1, (-9223372036854775808), 9223372036854775807), (2, (-9223372036854775808), 9223372036854775807), (3, (-9223372036854775808), 9223372036854775807), (4, (-9223372036854775808), 9223372036854775807), (5, (-9223372036854775808), 9223372036854775807), (6, (-9223372036854775808), 9223372036854775807)], aivs := [] } } etalonlaw08_GrowQuarters_s.inp = true := by kernel_rfl
theorem gq {x0 x1 x2 x3 x4 x5 x6 : Int} (r0 : (-9223372036854775808) ≤ x0 ∧ x0 ≤ 9223372036854775807) (r1 : (-9223372036854775808) ≤ x1 ∧ x1 ≤ 9223372036854775807) (r2 : (-9223372036854775808) ≤ x2 ∧ x2 ≤ 9223372036854775807) (r3 : (-9223372036854775808) ≤ x3 ∧ x3 ≤ 9223372036854775807) (r4 : (-9223372036854775808) ≤ x4 ∧ x4 ≤ 9223372036854775807) (r5 : (-9223372036854775808) ≤ x5 ∧ x5 ≤ 9223372036854775807) (r6 : (-9223372036854775808) ≤ x6 ∧ x6 ≤ 9223372036854775807) {R : Bool → Prop}
  (H : (∃ u0 : Bool, Spec Try.prog etalonlaw08_awake_s ⟨[], [], []⟩ [] [u0] [] ∧
   ((u0 = true → (∃ v7 : Int, ∃ v8 : Int, ∃ v9 : Int, Spec Try.prog grow_QuarterThick_s ⟨[x0, x1, x2], [], []⟩ [v7, v8, v9] [] [] ∧
    (∃ v10 : Int, ∃ v11 : Int, ∃ v12 : Int, Spec Try.prog grow_RateOf_s ⟨[x0, x1, x2, x5, x6], [], []⟩ [v10, v11, v12] [] [] ∧
    (∃ v13 : Int, ∃ v14 : Int, ∃ v15 : Int, Spec Try.prog grow_EndAt_s ⟨[x0, x1, x2, x3, x4, x5, x6], [], []⟩ [v13, v14, v15] [] [] ∧
    (∃ v16 : Int, Spec Try.prog etalonref08_QuarterErr_s ⟨[x0, x1, x2], [], []⟩ [v16] [] [] ∧
    ((((v16 : Int) == 0) = true → ((((v9 : Int) == 0) = true → (∃ v17 : Int, ∃ v18 : Int, Spec Try.prog etalonref08_QuarterThick_s ⟨[x0, x1, x2], [], []⟩ [v17, v18] [] [] ∧
      ((((v7 : Int) == v17) = true → ((((v8 : Int) == v18) = true → (∃ v19 : Int, Spec Try.prog etalonref08_SecondsErr_s ⟨[x5, x6], [], []⟩ [v19] [] [] ∧
        ((((v19 : Int) == 0) = true → ((((x5 : Int) == 0) = true → ((((v12 : Int) == 9) = true → ((((v10 : Int) == 0) = true → ((((v11 : Int) == 0) = true → (∃ v20 : Int, Spec Try.prog etalonref08_RateErr_s ⟨[x3, x4], [], []⟩ [v20] [] [] ∧
             ((((v20 : Int) == 0) = true → ((((v15 : Int) == 0) = true → (∃ v21 : Int, ∃ v22 : Int, Spec Try.prog etalonref08_EndAt_s ⟨[x0, x1, x2, x3, x4, x5, x6], [], []⟩ [v21, v22] [] [] ∧
               ((((v13 : Int) == v21) = true → ((((v14 : Int) == v22) = true → ((decide ((v7 : Int) ≤ v13) = true → R (decide ((v14 : Int) ≥ v8))) ∧
                 (decide ((v7 : Int) ≤ v13) = false → R (false)))) ∧
                (((v14 : Int) == v22) = false → R (false)))) ∧
               (((v13 : Int) == v21) = false → R (false))))) ∧
              (((v15 : Int) == 0) = false → R (false)))) ∧
             (((v20 : Int) == 0) = false → ((((v15 : Int) == v20) = true → R ((((v13 : Int) == 0) && ((v14 : Int) == 0)))) ∧
              (((v15 : Int) == v20) = false → R (false))))))) ∧
            (((v11 : Int) == 0) = false → R (false)))) ∧
           (((v10 : Int) == 0) = false → R (false)))) ∧
          (((v12 : Int) == 9) = false → R (false)))) ∧
         (((x5 : Int) == 0) = false → ((((v12 : Int) == v19) = true → (∃ v20 : Int, ∃ v21 : Int, Spec Try.prog etalonref08_RateOf_s ⟨[x0, x1, x2, x5, x6], [], []⟩ [v20, v21] [] [] ∧
           ((((v10 : Int) == v20) = true → ((((v11 : Int) == v21) = true → (∃ v22 : Int, Spec Try.prog etalonref08_RateErr_s ⟨[x3, x4], [], []⟩ [v22] [] [] ∧
             ((((v22 : Int) == 0) = true → ((((v15 : Int) == 0) = true → (∃ v23 : Int, ∃ v24 : Int, Spec Try.prog etalonref08_EndAt_s ⟨[x0, x1, x2, x3, x4, x5, x6], [], []⟩ [v23, v24] [] [] ∧
               ((((v13 : Int) == v23) = true → ((((v14 : Int) == v24) = true → ((decide ((v7 : Int) ≤ v13) = true → R (decide ((v14 : Int) ≥ v8))) ∧
                 (decide ((v7 : Int) ≤ v13) = false → R (false)))) ∧
                (((v14 : Int) == v24) = false → R (false)))) ∧
               (((v13 : Int) == v23) = false → R (false))))) ∧
              (((v15 : Int) == 0) = false → R (false)))) ∧
             (((v22 : Int) == 0) = false → ((((v15 : Int) == v22) = true → R ((((v13 : Int) == 0) && ((v14 : Int) == 0)))) ∧
              (((v15 : Int) == v22) = false → R (false))))))) ∧
            (((v11 : Int) == v21) = false → R (false)))) ∧
           (((v10 : Int) == v20) = false → R (false))))) ∧
          (((v12 : Int) == v19) = false → R (false)))))) ∧
        (((v19 : Int) == 0) = false → ((((v12 : Int) == v19) = true → ((((v10 : Int) == 0) = true → ((((v11 : Int) == 0) = true → (∃ v20 : Int, Spec Try.prog etalonref08_RateErr_s ⟨[x3, x4], [], []⟩ [v20] [] [] ∧
            ((((v20 : Int) == 0) = true → ((((v15 : Int) == v19) = true → R ((((v13 : Int) == 0) && ((v14 : Int) == 0)))) ∧
             (((v15 : Int) == v19) = false → R (false)))) ∧
            (((v20 : Int) == 0) = false → ((((v15 : Int) == v20) = true → R ((((v13 : Int) == 0) && ((v14 : Int) == 0)))) ∧
             (((v15 : Int) == v20) = false → R (false))))))) ∧
           (((v11 : Int) == 0) = false → R (false)))) ∧
          (((v10 : Int) == 0) = false → R (false)))) ∧
         (((v12 : Int) == v19) = false → R (false))))))) ∧
       (((v8 : Int) == v18) = false → R (false)))) ∧
      (((v7 : Int) == v17) = false → R (false))))) ∧
     (((v9 : Int) == 0) = false → R (false)))) ∧
    (((v16 : Int) == 0) = false → ((((v9 : Int) == v16) = true → ((((v12 : Int) == v16) = true → ((((v15 : Int) == v16) = true → ((((v7 : Int) == 0) = true → ((((v8 : Int) == 0) = true → ((((v10 : Int) == 0) = true → ((((v11 : Int) == 0) = true → R ((((v13 : Int) == 0) && ((v14 : Int) == 0)))) ∧
           (((v11 : Int) == 0) = false → R (false)))) ∧
          (((v10 : Int) == 0) = false → R (false)))) ∧
         (((v8 : Int) == 0) = false → R (false)))) ∧
        (((v7 : Int) == 0) = false → R (false)))) ∧
       (((v15 : Int) == v16) = false → R (false)))) ∧
      (((v12 : Int) == v16) = false → R (false)))) ∧
     (((v9 : Int) == v16) = false → R (false)))))))))) ∧
   (u0 = false → R (false))))) :
    ∃ u0 : Bool, R u0 ∧ Spec Try.prog etalonlaw08_GrowQuarters_s ⟨[x0, x1, x2, x3, x4, x5, x6], [], []⟩ [] [u0] [] :=
  Eq.mp (by kernel_rfl) (exV_of (K := fun d => app3 etalonlaw08_GrowQuarters_s.out R d ∧ Spec Try.prog etalonlaw08_GrowQuarters_s ⟨[x0, x1, x2, x3, x4, x5, x6], [], []⟩ d.1 d.2.1 d.2.2) (tree_at mixed names S1_ok (S := S1 Try.prog) (lf := 100000) (d := 60) etalonlaw08_GrowQuarters_s gq_t { ivs := [(0, (-9223372036854775808), 9223372036854775807), (1, (-9223372036854775808), 9223372036854775807), (2, (-9223372036854775808), 9223372036854775807), (3, (-9223372036854775808), 9223372036854775807), (4, (-9223372036854775808), 9223372036854775807), (5, (-9223372036854775808), 9223372036854775807), (6, (-9223372036854775808), 9223372036854775807)], aivs := [] } ⟨[x0, x1, x2, x3, x4, x5, x6], [], []⟩ rfl (by kernel_rfl) (by kernel_rfl) (chk_split _ [true, true, true, true, true, true, true] gq_p0 (chk_split _ [true, true, true, true, true, true] gq_p1 (chk_split _ [true, true] gq_p2 gq_p3))) ⟨(fc r0 (fc r1 (fc r2 (fc r3 (fc r4 (fc r5 (fc r6 fz))))))), fz, fz, fz⟩ (R := fun d => app3 etalonlaw08_GrowQuarters_s.out R d) (Eq.mp (by kernel_rfl) H)))

set_option maxHeartbeats 8000000 in

theorem quarters {x0 x1 x2 x3 x4 x5 x6 : Int} (r0 : (-9223372036854775808) ≤ x0 ∧ x0 ≤ 9223372036854775807) (r1 : (-9223372036854775808) ≤ x1 ∧ x1 ≤ 9223372036854775807) (r2 : (-9223372036854775808) ≤ x2 ∧ x2 ≤ 9223372036854775807) (r3 : (-9223372036854775808) ≤ x3 ∧ x3 ≤ 9223372036854775807) (r4 : (-9223372036854775808) ≤ x4 ∧ x4 ≤ 9223372036854775807) (r5 : (-9223372036854775808) ≤ x5 ∧ x5 ≤ 9223372036854775807) (r6 : (-9223372036854775808) ≤ x6 ∧ x6 ≤ 9223372036854775807) :

    Spec Try.prog etalonlaw08_GrowQuarters_s ⟨[x0, x1, x2, x3, x4, x5, x6], [], []⟩ [] [true] [] := by

  obtain ⟨a0, rfl, ha⟩ := awake

  have hqe := rQuarterErr_s r0 r1 r2

  have hse := rSecondsErr_s r5 r6

  have hre := rRateErr_s r3 r4

  obtain ⟨u, rfl, hs⟩ : ∃ u0 : Bool, u0 = true ∧ Spec Try.prog etalonlaw08_GrowQuarters_s ⟨[x0, x1, x2, x3, x4, x5, x6], [], []⟩ [] [u0] [] := by

    by_cases q : qe x0 x1 x2 = 0

    · obtain ⟨hq, hq'⟩ := quarterThick q

      obtain ⟨b0, b1, b2, hb, hb', kb⟩ : ∃ b0 b1 b2 : Int, Spec Try.prog grow_RateOf_s ⟨[x0, x1, x2, x5, x6], [], []⟩ [b0, b1, b2] [] [] ∧ (re 0 100000 x5 x6 = 0 → x5 ≠ 0 → Spec Try.prog etalonref08_RateOf_s ⟨[x0, x1, x2, x5, x6], [], []⟩ [b0, b1] [] [] ∧ b2 = 0) ∧ (¬ (re 0 100000 x5 x6 = 0 ∧ x5 ≠ 0) → b0 = 0 ∧ b1 = 0 ∧ b2 = if re 0 100000 x5 x6 ≠ 0 then re 0 100000 x5 x6 else 9) := by

        by_cases h : re 0 100000 x5 x6 = 0 ∧ x5 ≠ 0

        · obtain ⟨a, b, h1, h2⟩ := rateOf q h.1 h.2

          exact ⟨a, b, 0, h1, fun _ _ => ⟨h2, rfl⟩, fun h' => absurd h h'⟩

        · have := rateOf_no r0 r1 r2 r5 r6 (fun h' => h h'.2)

          rw [if_neg (by simpa using q)] at this

          exact ⟨_, _, _, this, fun h1 h2 => absurd ⟨h1, h2⟩ h, fun _ => ⟨rfl, rfl, rfl⟩⟩

      obtain ⟨c0, c1, c2, hc, hc', kc⟩ : ∃ c0 c1 c2 : Int, Spec Try.prog grow_EndAt_s ⟨[x0, x1, x2, x3, x4, x5, x6], [], []⟩ [c0, c1, c2] [] [] ∧ (re 1 1000000 x3 x4 = 0 → re 0 100000 x5 x6 = 0 → (Spec Try.prog etalonref08_EndAt_s ⟨[x0, x1, x2, x3, x4, x5, x6], [], []⟩ [c0, c1] [] [] ∧ c2 = 0 ∧ (x2 * x1) * 10000 / (4 * x0) ≤ c0 ∧ cdiv ((x2 * x1) * 10000) (4 * x0) ≤ c1)) ∧ (¬ (re 1 1000000 x3 x4 = 0 ∧ re 0 100000 x5 x6 = 0) → c0 = 0 ∧ c1 = 0 ∧ c2 = if re 1 1000000 x3 x4 ≠ 0 then re 1 1000000 x3 x4 else re 0 100000 x5 x6) := by

        by_cases h : re 1 1000000 x3 x4 = 0 ∧ re 0 100000 x5 x6 = 0

        · obtain ⟨a, b, h1, h2, h3, h4⟩ := endAt q h.1 h.2

          exact ⟨a, b, 0, h3, fun _ _ => ⟨h4, rfl, h1, h2⟩, fun h' => absurd h h'⟩

        · have := endAt_no r0 r1 r2 r3 r4 r5 r6 (fun h' => h h'.2)

          rw [if_neg (by simpa using q)] at this

          exact ⟨_, _, _, this, fun h1 h2 => absurd ⟨h1, h2⟩ h, fun _ => ⟨rfl, rfl, rfl⟩⟩

      rw [q] at hqe

      generalize re 0 100000 x5 x6 = s at *

      generalize re 1 1000000 x3 x4 = t at *

      generalize (x2 * x1) * 10000 / (4 * x0) = a at *

      generalize cdiv ((x2 * x1) * 10000) (4 * x0) = b at *

      refine gq r0 r1 r2 r3 r4 r5 r6 (R := (· = true)) ⟨true, ha, fun _ => ⟨_, _, _, hq, _, _, _, hb, _, _, _, hc, _, hqe, ?_⟩, fun h => by cases h⟩

      by_cases hs : s = 0 <;> by_cases ht : t = 0 <;> by_cases h5 : x5 = 0

      all_goals (try simp [hs, ht, h5] at kb)

      all_goals (try simp [hs, ht, h5] at kc)

      all_goals (try simp [hs, ht, h5] at hb')

      all_goals (try simp [hs, ht] at hc')

      all_goals (repeat' (first

        | exact rfl

        | apply And.intro

        | (intro h; simp only [decide_eq_true_eq, decide_eq_false_iff_not, beq_iff_eq, beq_eq_false_iff_ne, ne_eq, not_true_eq_false, Bool.true_eq_false, Bool.false_eq_true] at h; done)

        | (intro h; simp only [decide_eq_true_eq, decide_eq_false_iff_not, beq_iff_eq, beq_eq_false_iff_ne, ne_eq] at h)

        | intro h

        | refine ⟨_, _, hq', ?_⟩

        | refine ⟨_, hse, ?_⟩

        | refine ⟨_, hre, ?_⟩

        | refine ⟨_, _, hb'.1, ?_⟩

        | refine ⟨_, _, hc'.1, ?_⟩

        | (simp only [decide_eq_true_eq, Bool.and_eq_true, beq_iff_eq]; omega)

        | (exfalso; omega)

        | fail))

    · have hq := quarterThick_no r0 r1 r2 q

      have hb := rateOf_no r0 r1 r2 r5 r6 (fun h' => q h'.1)

      have hc := endAt_no r0 r1 r2 r3 r4 r5 r6 (fun h' => q h'.1)

      rw [if_pos q] at hb hc

      refine gq r0 r1 r2 r3 r4 r5 r6 (R := (· = true)) ⟨true, ha, fun _ => ⟨_, _, _, hq, _, _, _, hb, _, _, _, hc, _, hqe, ?_⟩, fun h => by cases h⟩

      generalize qe x0 x1 x2 = e at *

      refine ⟨fun h => absurd (by simpa using h) q, fun _ => ?_⟩

      simp

  exact hs

end Go.Proofs.Ytnkajbaejojcgaa.Ev
