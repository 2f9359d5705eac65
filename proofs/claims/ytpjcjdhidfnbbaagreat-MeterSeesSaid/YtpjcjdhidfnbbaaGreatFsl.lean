/- MeterSees. -/
import Derived.Test.YtpjcjdhidfnbbaaGreatFsf
import Derived.Test.YtpjcjdhidfnbbaaGreatFaw6
namespace Go.Proofs.YtpjcjdhidfnbbaaGreat.Ev
set_option linter.unusedSimpArgs false
open Go Go.RowKit
set_option linter.unusedVariables false
set_option maxRecDepth 100000
def etalonlaw06_MeterSees_s : Sig := ⟨4, ⟨16, 0, 0⟩, ⟨0, 1, 0⟩, [(.agg [(.int .i64 (.var 0)), (.int .i64 (.var 1)), (.int .i64 (.var 2)), (.int .i64 (.var 3)), (.int .i64 (.var 4)), (.int .i64 (.var 5)), (.int .i64 (.var 6)), (.int .i64 (.var 7)), (.int .i64 (.var 8)), (.int .i64 (.var 9))]), (.agg [(.int .i64 (.var 10)), (.int .i64 (.var 11)), (.int .i64 (.var 12)), (.int .i64 (.var 13)), (.int .i64 (.var 14)), (.int .i64 (.var 15))])], [], (.bool (.var 0)), []⟩

def ms_t : Tr :=
  (.call etalonlaw06_awake_s ⟨[], [], []⟩ ⟨[], [(.var 0)], []⟩ ⟨8, [], [], [none, none], (.bool (.var 0)), []⟩
  (.ite (.var 0)
  (.call meter_Seen_s ⟨[(.var 0), (.var 1), (.var 2), (.var 3), (.var 4), (.var 5), (.var 6), (.var 7), (.var 8), (.var 9), (.var 10), (.var 11), (.var 12), (.var 13), (.var 14), (.var 15)], [], []⟩ ⟨[(.var 0), (.var 1), (.var 2), (.var 3), (.var 4), (.var 5), (.var 6), (.var 7), (.var 8), (.var 9), (.var 10), (.var 11), (.var 12), (.var 13), (.var 14), (.var 15), (.var 16), (.var 17), (.var 18), (.var 19), (.var 20), (.var 21), (.var 22)], [], []⟩ ⟨18, [(.agg [(.int .i64 (.var 0)), (.int .i64 (.var 1)), (.int .i64 (.var 2)), (.int .i64 (.var 3)), (.int .i64 (.var 4)), (.int .i64 (.var 5)), (.int .i64 (.var 6)), (.int .i64 (.var 7)), (.int .i64 (.var 8)), (.int .i64 (.var 9))]), (.agg [(.int .i64 (.var 10)), (.int .i64 (.var 11)), (.int .i64 (.var 12)), (.int .i64 (.var 13)), (.int .i64 (.var 14)), (.int .i64 (.var 15))])], [], [none, none], (.tuple [(.agg [(.int .i64 (.var 16)), (.int .i64 (.var 17)), (.int .i64 (.var 18)), (.int .i64 (.var 19)), (.int .i64 (.var 20)), (.int .i64 (.var 21))]), (.int .i64 (.var 22))]), []⟩
   (.call meter_Corrected_s ⟨[(.var 0), (.var 1), (.var 2), (.var 3), (.var 4), (.var 5), (.var 6), (.var 7), (.var 8), (.var 9), (.var 10), (.var 11), (.var 12), (.var 13), (.var 14), (.var 15)], [], []⟩ ⟨[(.var 0), (.var 1), (.var 2), (.var 3), (.var 4), (.var 5), (.var 6), (.var 7), (.var 8), (.var 9), (.var 10), (.var 11), (.var 12), (.var 13), (.var 14), (.var 15), (.var 23), (.var 24), (.var 25), (.var 26), (.var 27), (.var 28), (.var 29)], [], []⟩ ⟨19, [(.agg [(.int .i64 (.var 0)), (.int .i64 (.var 1)), (.int .i64 (.var 2)), (.int .i64 (.var 3)), (.int .i64 (.var 4)), (.int .i64 (.var 5)), (.int .i64 (.var 6)), (.int .i64 (.var 7)), (.int .i64 (.var 8)), (.int .i64 (.var 9))]), (.agg [(.int .i64 (.var 10)), (.int .i64 (.var 11)), (.int .i64 (.var 12)), (.int .i64 (.var 13)), (.int .i64 (.var 14)), (.int .i64 (.var 15))])], [], [none, none, none], (.tuple [(.agg [(.int .i64 (.var 23)), (.int .i64 (.var 24)), (.int .i64 (.var 25)), (.int .i64 (.var 26)), (.int .i64 (.var 27)), (.int .i64 (.var 28))]), (.int .i64 (.var 29))]), []⟩
   (.call etalonref06_CheckMatrix_s ⟨[(.var 0), (.var 1), (.var 2), (.var 3), (.var 4), (.var 5), (.var 6), (.var 7), (.var 8), (.var 9)], [], []⟩ ⟨[(.var 0), (.var 1), (.var 2), (.var 3), (.var 4), (.var 5), (.var 6), (.var 7), (.var 8), (.var 9), (.var 30)], [], []⟩ ⟨10, [(.agg [(.int .i64 (.var 0)), (.int .i64 (.var 1)), (.int .i64 (.var 2)), (.int .i64 (.var 3)), (.int .i64 (.var 4)), (.int .i64 (.var 5)), (.int .i64 (.var 6)), (.int .i64 (.var 7)), (.int .i64 (.var 8)), (.int .i64 (.var 9))])], [], [none, none, none, none], (.int .i64 (.var 30)), []⟩
   (.ite (.icmp .eql (.var 30) (.lit 0))
   (.call etalonref06_CheckSums_s ⟨[(.var 10), (.var 11), (.var 12), (.var 13), (.var 14), (.var 15)], [], []⟩ ⟨[(.var 10), (.var 11), (.var 12), (.var 13), (.var 14), (.var 15), (.var 31)], [], []⟩ ⟨12, [(.agg [(.int .i64 (.var 10)), (.int .i64 (.var 11)), (.int .i64 (.var 12)), (.int .i64 (.var 13)), (.int .i64 (.var 14)), (.int .i64 (.var 15))])], [], [none, none, none, none], (.int .i64 (.var 31)), []⟩
    (.ite (.icmp .eql (.var 31) (.lit 0))
    (.call etalonref06_Seen_s ⟨[(.var 0), (.var 1), (.var 2), (.var 3), (.var 4), (.var 5), (.var 6), (.var 7), (.var 8), (.var 9), (.var 10), (.var 11), (.var 12), (.var 13), (.var 14), (.var 15)], [], []⟩ ⟨[(.var 0), (.var 1), (.var 2), (.var 3), (.var 4), (.var 5), (.var 6), (.var 7), (.var 8), (.var 9), (.var 10), (.var 11), (.var 12), (.var 13), (.var 14), (.var 15), (.var 32), (.var 33), (.var 34), (.var 35), (.var 36), (.var 37), (.var 38)], [], []⟩ ⟨20, [(.agg [(.int .i64 (.var 0)), (.int .i64 (.var 1)), (.int .i64 (.var 2)), (.int .i64 (.var 3)), (.int .i64 (.var 4)), (.int .i64 (.var 5)), (.int .i64 (.var 6)), (.int .i64 (.var 7)), (.int .i64 (.var 8)), (.int .i64 (.var 9))]), (.agg [(.int .i64 (.var 10)), (.int .i64 (.var 11)), (.int .i64 (.var 12)), (.int .i64 (.var 13)), (.int .i64 (.var 14)), (.int .i64 (.var 15))])], [], [none, none, none, none], (.tuple [(.agg [(.int .i64 (.var 32)), (.int .i64 (.var 33)), (.int .i64 (.var 34)), (.int .i64 (.var 35)), (.int .i64 (.var 36)), (.int .i64 (.var 37))]), (.int .i64 (.var 38))]), []⟩
     (.call etalonref06_Corrected_s ⟨[(.var 0), (.var 1), (.var 2), (.var 3), (.var 4), (.var 5), (.var 6), (.var 7), (.var 8), (.var 9), (.var 10), (.var 11), (.var 12), (.var 13), (.var 14), (.var 15)], [], []⟩ ⟨[(.var 0), (.var 1), (.var 2), (.var 3), (.var 4), (.var 5), (.var 6), (.var 7), (.var 8), (.var 9), (.var 10), (.var 11), (.var 12), (.var 13), (.var 14), (.var 15), (.var 39), (.var 40), (.var 41), (.var 42), (.var 43), (.var 44), (.var 45)], [], []⟩ ⟨21, [(.agg [(.int .i64 (.var 0)), (.int .i64 (.var 1)), (.int .i64 (.var 2)), (.int .i64 (.var 3)), (.int .i64 (.var 4)), (.int .i64 (.var 5)), (.int .i64 (.var 6)), (.int .i64 (.var 7)), (.int .i64 (.var 8)), (.int .i64 (.var 9))]), (.agg [(.int .i64 (.var 10)), (.int .i64 (.var 11)), (.int .i64 (.var 12)), (.int .i64 (.var 13)), (.int .i64 (.var 14)), (.int .i64 (.var 15))])], [], [none, none, none, none, none], (.tuple [(.agg [(.int .i64 (.var 39)), (.int .i64 (.var 40)), (.int .i64 (.var 41)), (.int .i64 (.var 42)), (.int .i64 (.var 43)), (.int .i64 (.var 44))]), (.int .i64 (.var 45))]), []⟩
     (.ite (.icmp .eql (.var 22) (.var 38))
     (.ite (.icmp .eql (.var 16) (.var 32))
      (.ite (.icmp .eql (.var 17) (.var 33))
       (.ite (.icmp .eql (.var 18) (.var 34))
        (.ite (.icmp .eql (.var 19) (.var 35))
         (.ite (.icmp .eql (.var 20) (.var 36))
          (.ite (.icmp .eql (.var 21) (.var 37))
           (.ite (.icmp .eql (.var 29) (.var 45))
            (.ret ⟨[], [(.and (.and (.icmp .eql (.var 23) (.var 39)) (.icmp .eql (.var 24) (.var 40))) (.and (.and (.icmp .eql (.var 25) (.var 41)) (.icmp .eql (.var 26) (.var 42))) (.and (.icmp .eql (.var 27) (.var 43)) (.icmp .eql (.var 28) (.var 44)))))], []⟩ [])
            (.ret ⟨[], [(.lit false)], []⟩ []))
           (.ret ⟨[], [(.lit false)], []⟩ []))
          (.ret ⟨[], [(.lit false)], []⟩ []))
         (.ret ⟨[], [(.lit false)], []⟩ []))
        (.ret ⟨[], [(.lit false)], []⟩ []))
       (.ret ⟨[], [(.lit false)], []⟩ []))
      (.ret ⟨[], [(.lit false)], []⟩ []))
     (.ret ⟨[], [(.lit false)], []⟩ []))))
    (.ite (.icmp .eql (.var 22) (.var 31))
     (.ite (.icmp .eql (.var 29) (.var 31))
      (.ite (.icmp .eql (.var 16) (.lit 0))
       (.ite (.icmp .eql (.var 17) (.lit 0))
        (.ite (.icmp .eql (.var 18) (.lit 0))
         (.ite (.icmp .eql (.var 19) (.lit 0))
          (.ite (.icmp .eql (.var 20) (.lit 0))
           (.ite (.icmp .eql (.var 21) (.lit 0))
            (.ret ⟨[], [(.and (.and (.icmp .eql (.var 23) (.lit 0)) (.icmp .eql (.var 24) (.lit 0))) (.and (.and (.icmp .eql (.var 25) (.lit 0)) (.icmp .eql (.var 26) (.lit 0))) (.and (.icmp .eql (.var 27) (.lit 0)) (.icmp .eql (.var 28) (.lit 0)))))], []⟩ [])
            (.ret ⟨[], [(.lit false)], []⟩ []))
           (.ret ⟨[], [(.lit false)], []⟩ []))
          (.ret ⟨[], [(.lit false)], []⟩ []))
         (.ret ⟨[], [(.lit false)], []⟩ []))
        (.ret ⟨[], [(.lit false)], []⟩ []))
       (.ret ⟨[], [(.lit false)], []⟩ []))
      (.ret ⟨[], [(.lit false)], []⟩ []))
     (.ret ⟨[], [(.lit false)], []⟩ []))))
   (.ite (.icmp .eql (.var 22) (.var 30))
    (.ite (.icmp .eql (.var 29) (.var 30))
     (.ite (.icmp .eql (.var 16) (.lit 0))
      (.ite (.icmp .eql (.var 17) (.lit 0))
       (.ite (.icmp .eql (.var 18) (.lit 0))
        (.ite (.icmp .eql (.var 19) (.lit 0))
         (.ite (.icmp .eql (.var 20) (.lit 0))
          (.ite (.icmp .eql (.var 21) (.lit 0))
           (.ret ⟨[], [(.and (.and (.icmp .eql (.var 23) (.lit 0)) (.icmp .eql (.var 24) (.lit 0))) (.and (.and (.icmp .eql (.var 25) (.lit 0)) (.icmp .eql (.var 26) (.lit 0))) (.and (.icmp .eql (.var 27) (.lit 0)) (.icmp .eql (.var 28) (.lit 0)))))], []⟩ [])
           (.ret ⟨[], [(.lit false)], []⟩ []))
          (.ret ⟨[], [(.lit false)], []⟩ []))
         (.ret ⟨[], [(.lit false)], []⟩ []))
        (.ret ⟨[], [(.lit false)], []⟩ []))
       (.ret ⟨[], [(.lit false)], []⟩ []))
      (.ret ⟨[], [(.lit false)], []⟩ []))
     (.ret ⟨[], [(.lit false)], []⟩ []))
    (.ret ⟨[], [(.lit false)], []⟩ []))))))
  (.ret ⟨[], [(.lit false)], []⟩ [])))
theorem ms_p0 : (ms_t.only [true, true, true]).chk Tryz.prog (S1 Tryz.prog) 100000 60 (.fn etalonlaw06_MeterSees_s) { dom := { ivs := [(0, (-9223372036854775808), 9223372036854775807), (1, (-9223372036854775808), 9223372036854775807), (2, (-9223372036854775808), 9223372036854775807), (3, (-9223372036854775808), 9223372036854775807), (4, (-9223372036854775808), 9223372036854775807), (5, (-9223372036854775808), 9223372036854775807), (6, (-9223372036854775808), 9223372036854775807), (7, (-9223372036854775808), 9223372036854775807), (8, (-9223372036854775808), 9223372036854775807), (9, (-9223372036854775808), 9223372036854775807), (10, (-9223372036854775808), 9223372036854775807), (11, (-9223372036854775808), 9223372036854775807), (12, (-9223372036854775808), 9223372036854775807), (13, (-9223372036854775808), 9223372036854775807), (14, (-9223372036854775808), 9223372036854775807), (15, (-9223372036854775808), 9223372036854775807)], aivs := [] } } etalonlaw06_MeterSees_s.inp = true := by kernel_rfl
theorem ms_p1 : ((ms_t.but [true, true, true]).only [true, true]).chk Tryz.prog (S1 Tryz.prog) 100000 60 (.fn etalonlaw06_MeterSees_s) { dom := { ivs := [(0, (-9223372036854775808), 9223372036854775807), (1, (-9223372036854775808), 9223372036854775807), (2, (-9223372036854775808), 9223372036854775807), (3, (-9223372036854775808), 9223372036854775807), (4, (-9223372036854775808), 9223372036854775807), (5, (-9223372036854775808), 9223372036854775807), (6, (-9223372036854775808), 9223372036854775807), (7, (-9223372036854775808), 9223372036854775807), (8, (-9223372036854775808), 9223372036854775807), (9, (-9223372036854775808), 9223372036854775807), (10, (-9223372036854775808), 9223372036854775807), (11, (-9223372036854775808), 9223372036854775807), (12, (-9223372036854775808), 9223372036854775807), (13, (-9223372036854775808), 9223372036854775807), (14, (-9223372036854775808), 9223372036854775807), (15, (-9223372036854775808), 9223372036854775807)], aivs := [] } } etalonlaw06_MeterSees_s.inp = true := by kernel_rfl
theorem ms_p2 : (((ms_t.but [true, true, true]).but [true, true])).chk Tryz.prog (S1 Tryz.prog) 100000 60 (.fn etalonlaw06_MeterSees_s) { dom := { ivs := [(0, (-9223372036854775808), 9223372036854775807), (1, (-9223372036854775808), 9223372036854775807), (2, (-9223372036854775808), 9223372036854775807), (3, (-9223372036854775808), 9223372036854775807), (4, (-9223372036854775808), 9223372036854775807), (5, (-9223372036854775808), 9223372036854775807), (6, (-9223372036854775808), 9223372036854775807), (7, (-9223372036854775808), 9223372036854775807), (8, (-9223372036854775808), 9223372036854775807), (9, (-9223372036854775808), 9223372036854775807), (10, (-9223372036854775808), 9223372036854775807), (11, (-9223372036854775808), 9223372036854775807), (12, (-9223372036854775808), 9223372036854775807), (13, (-9223372036854775808), 9223372036854775807), (14, (-9223372036854775808), 9223372036854775807), (15, (-9223372036854775808), 9223372036854775807)], aivs := [] } } etalonlaw06_MeterSees_s.inp = true := by kernel_rfl
theorem ms {x0 x1 x2 x3 x4 x5 x6 x7 x8 x9 x10 x11 x12 x13 x14 x15 : Int} (r0 : (-9223372036854775808) ≤ x0 ∧ x0 ≤ 9223372036854775807) (r1 : (-9223372036854775808) ≤ x1 ∧ x1 ≤ 9223372036854775807) (r2 : (-9223372036854775808) ≤ x2 ∧ x2 ≤ 9223372036854775807) (r3 : (-9223372036854775808) ≤ x3 ∧ x3 ≤ 9223372036854775807) (r4 : (-9223372036854775808) ≤ x4 ∧ x4 ≤ 9223372036854775807) (r5 : (-9223372036854775808) ≤ x5 ∧ x5 ≤ 9223372036854775807) (r6 : (-9223372036854775808) ≤ x6 ∧ x6 ≤ 9223372036854775807) (r7 : (-9223372036854775808) ≤ x7 ∧ x7 ≤ 9223372036854775807) (r8 : (-9223372036854775808) ≤ x8 ∧ x8 ≤ 9223372036854775807) (r9 : (-9223372036854775808) ≤ x9 ∧ x9 ≤ 9223372036854775807) (r10 : (-9223372036854775808) ≤ x10 ∧ x10 ≤ 9223372036854775807) (r11 : (-9223372036854775808) ≤ x11 ∧ x11 ≤ 9223372036854775807) (r12 : (-9223372036854775808) ≤ x12 ∧ x12 ≤ 9223372036854775807) (r13 : (-9223372036854775808) ≤ x13 ∧ x13 ≤ 9223372036854775807) (r14 : (-9223372036854775808) ≤ x14 ∧ x14 ≤ 9223372036854775807) (r15 : (-9223372036854775808) ≤ x15 ∧ x15 ≤ 9223372036854775807) {R : Bool → Prop}
  (H : (∃ u0 : Bool, Spec Tryz.prog etalonlaw06_awake_s ⟨[], [], []⟩ [] [u0] [] ∧
   ((u0 = true → (∃ v16 : Int, ∃ v17 : Int, ∃ v18 : Int, ∃ v19 : Int, ∃ v20 : Int, ∃ v21 : Int, ∃ v22 : Int, Spec Tryz.prog meter_Seen_s ⟨[x0, x1, x2, x3, x4, x5, x6, x7, x8, x9, x10, x11, x12, x13, x14, x15], [], []⟩ [v16, v17, v18, v19, v20, v21, v22] [] [] ∧
    (∃ v23 : Int, ∃ v24 : Int, ∃ v25 : Int, ∃ v26 : Int, ∃ v27 : Int, ∃ v28 : Int, ∃ v29 : Int, Spec Tryz.prog meter_Corrected_s ⟨[x0, x1, x2, x3, x4, x5, x6, x7, x8, x9, x10, x11, x12, x13, x14, x15], [], []⟩ [v23, v24, v25, v26, v27, v28, v29] [] [] ∧
    (∃ v30 : Int, Spec Tryz.prog etalonref06_CheckMatrix_s ⟨[x0, x1, x2, x3, x4, x5, x6, x7, x8, x9], [], []⟩ [v30] [] [] ∧
    ((((v30 : Int) == 0) = true → (∃ v31 : Int, Spec Tryz.prog etalonref06_CheckSums_s ⟨[x10, x11, x12, x13, x14, x15], [], []⟩ [v31] [] [] ∧
     ((((v31 : Int) == 0) = true → (∃ v32 : Int, ∃ v33 : Int, ∃ v34 : Int, ∃ v35 : Int, ∃ v36 : Int, ∃ v37 : Int, ∃ v38 : Int, Spec Tryz.prog etalonref06_Seen_s ⟨[x0, x1, x2, x3, x4, x5, x6, x7, x8, x9, x10, x11, x12, x13, x14, x15], [], []⟩ [v32, v33, v34, v35, v36, v37, v38] [] [] ∧
      (∃ v39 : Int, ∃ v40 : Int, ∃ v41 : Int, ∃ v42 : Int, ∃ v43 : Int, ∃ v44 : Int, ∃ v45 : Int, Spec Tryz.prog etalonref06_Corrected_s ⟨[x0, x1, x2, x3, x4, x5, x6, x7, x8, x9, x10, x11, x12, x13, x14, x15], [], []⟩ [v39, v40, v41, v42, v43, v44, v45] [] [] ∧
      ((((v22 : Int) == v38) = true → ((((v16 : Int) == v32) = true → ((((v17 : Int) == v33) = true → ((((v18 : Int) == v34) = true → ((((v19 : Int) == v35) = true → ((((v20 : Int) == v36) = true → ((((v21 : Int) == v37) = true → ((((v29 : Int) == v45) = true → R (((((v23 : Int) == v39) && ((v24 : Int) == v40)) && ((((v25 : Int) == v41) && ((v26 : Int) == v42)) && (((v27 : Int) == v43) && ((v28 : Int) == v44)))))) ∧
             (((v29 : Int) == v45) = false → R (false)))) ∧
            (((v21 : Int) == v37) = false → R (false)))) ∧
           (((v20 : Int) == v36) = false → R (false)))) ∧
          (((v19 : Int) == v35) = false → R (false)))) ∧
         (((v18 : Int) == v34) = false → R (false)))) ∧
        (((v17 : Int) == v33) = false → R (false)))) ∧
       (((v16 : Int) == v32) = false → R (false)))) ∧
      (((v22 : Int) == v38) = false → R (false)))))) ∧
     (((v31 : Int) == 0) = false → ((((v22 : Int) == v31) = true → ((((v29 : Int) == v31) = true → ((((v16 : Int) == 0) = true → ((((v17 : Int) == 0) = true → ((((v18 : Int) == 0) = true → ((((v19 : Int) == 0) = true → ((((v20 : Int) == 0) = true → ((((v21 : Int) == 0) = true → R (((((v23 : Int) == 0) && ((v24 : Int) == 0)) && ((((v25 : Int) == 0) && ((v26 : Int) == 0)) && (((v27 : Int) == 0) && ((v28 : Int) == 0)))))) ∧
             (((v21 : Int) == 0) = false → R (false)))) ∧
            (((v20 : Int) == 0) = false → R (false)))) ∧
           (((v19 : Int) == 0) = false → R (false)))) ∧
          (((v18 : Int) == 0) = false → R (false)))) ∧
         (((v17 : Int) == 0) = false → R (false)))) ∧
        (((v16 : Int) == 0) = false → R (false)))) ∧
       (((v29 : Int) == v31) = false → R (false)))) ∧
      (((v22 : Int) == v31) = false → R (false))))))) ∧
    (((v30 : Int) == 0) = false → ((((v22 : Int) == v30) = true → ((((v29 : Int) == v30) = true → ((((v16 : Int) == 0) = true → ((((v17 : Int) == 0) = true → ((((v18 : Int) == 0) = true → ((((v19 : Int) == 0) = true → ((((v20 : Int) == 0) = true → ((((v21 : Int) == 0) = true → R (((((v23 : Int) == 0) && ((v24 : Int) == 0)) && ((((v25 : Int) == 0) && ((v26 : Int) == 0)) && (((v27 : Int) == 0) && ((v28 : Int) == 0)))))) ∧
            (((v21 : Int) == 0) = false → R (false)))) ∧
           (((v20 : Int) == 0) = false → R (false)))) ∧
          (((v19 : Int) == 0) = false → R (false)))) ∧
         (((v18 : Int) == 0) = false → R (false)))) ∧
        (((v17 : Int) == 0) = false → R (false)))) ∧
       (((v16 : Int) == 0) = false → R (false)))) ∧
      (((v29 : Int) == v30) = false → R (false)))) ∧
     (((v22 : Int) == v30) = false → R (false))))))))) ∧
   (u0 = false → R (false))))) :
    ∃ u0 : Bool, R u0 ∧ Spec Tryz.prog etalonlaw06_MeterSees_s ⟨[x0, x1, x2, x3, x4, x5, x6, x7, x8, x9, x10, x11, x12, x13, x14, x15], [], []⟩ [] [u0] [] :=
  Eq.mp (by kernel_rfl) (exV_of (K := fun d => app3 etalonlaw06_MeterSees_s.out R d ∧ Spec Tryz.prog etalonlaw06_MeterSees_s ⟨[x0, x1, x2, x3, x4, x5, x6, x7, x8, x9, x10, x11, x12, x13, x14, x15], [], []⟩ d.1 d.2.1 d.2.2) (tree_at mixed names S1_ok (S := S1 Tryz.prog) (lf := 100000) (d := 60) etalonlaw06_MeterSees_s ms_t { ivs := [(0, (-9223372036854775808), 9223372036854775807), (1, (-9223372036854775808), 9223372036854775807), (2, (-9223372036854775808), 9223372036854775807), (3, (-9223372036854775808), 9223372036854775807), (4, (-9223372036854775808), 9223372036854775807), (5, (-9223372036854775808), 9223372036854775807), (6, (-9223372036854775808), 9223372036854775807), (7, (-9223372036854775808), 9223372036854775807), (8, (-9223372036854775808), 9223372036854775807), (9, (-9223372036854775808), 9223372036854775807), (10, (-9223372036854775808), 9223372036854775807), (11, (-9223372036854775808), 9223372036854775807), (12, (-9223372036854775808), 9223372036854775807), (13, (-9223372036854775808), 9223372036854775807), (14, (-9223372036854775808), 9223372036854775807), (15, (-9223372036854775808), 9223372036854775807)], aivs := [] } ⟨[x0, x1, x2, x3, x4, x5, x6, x7, x8, x9, x10, x11, x12, x13, x14, x15], [], []⟩ rfl (by kernel_rfl) (by kernel_rfl) (chk_split _ [true, true, true] ms_p0 (chk_split _ [true, true] ms_p1 ms_p2)) ⟨(fc r0 (fc r1 (fc r2 (fc r3 (fc r4 (fc r5 (fc r6 (fc r7 (fc r8 (fc r9 (fc r10 (fc r11 (fc r12 (fc r13 (fc r14 (fc r15 fz)))))))))))))))), fz, fz, fz⟩ (R := fun d => app3 etalonlaw06_MeterSees_s.out R d) (Eq.mp (by kernel_rfl) H)))

set_option maxHeartbeats 8000000 in

theorem meterSees {x0 x1 x2 x3 x4 x5 x6 x7 x8 x9 x10 x11 x12 x13 x14 x15 : Int} (r0 : (-9223372036854775808) ≤ x0 ∧ x0 ≤ 9223372036854775807) (r1 : (-9223372036854775808) ≤ x1 ∧ x1 ≤ 9223372036854775807) (r2 : (-9223372036854775808) ≤ x2 ∧ x2 ≤ 9223372036854775807) (r3 : (-9223372036854775808) ≤ x3 ∧ x3 ≤ 9223372036854775807) (r4 : (-9223372036854775808) ≤ x4 ∧ x4 ≤ 9223372036854775807) (r5 : (-9223372036854775808) ≤ x5 ∧ x5 ≤ 9223372036854775807) (r6 : (-9223372036854775808) ≤ x6 ∧ x6 ≤ 9223372036854775807) (r7 : (-9223372036854775808) ≤ x7 ∧ x7 ≤ 9223372036854775807) (r8 : (-9223372036854775808) ≤ x8 ∧ x8 ≤ 9223372036854775807) (r9 : (-9223372036854775808) ≤ x9 ∧ x9 ≤ 9223372036854775807) (r10 : (-9223372036854775808) ≤ x10 ∧ x10 ≤ 9223372036854775807) (r11 : (-9223372036854775808) ≤ x11 ∧ x11 ≤ 9223372036854775807) (r12 : (-9223372036854775808) ≤ x12 ∧ x12 ≤ 9223372036854775807) (r13 : (-9223372036854775808) ≤ x13 ∧ x13 ≤ 9223372036854775807) (r14 : (-9223372036854775808) ≤ x14 ∧ x14 ≤ 9223372036854775807) (r15 : (-9223372036854775808) ≤ x15 ∧ x15 ≤ 9223372036854775807) :

    Spec Tryz.prog etalonlaw06_MeterSees_s ⟨[x0, x1, x2, x3, x4, x5, x6, x7, x8, x9, x10, x11, x12, x13, x14, x15], [], []⟩ [] [true] [] := by

  obtain ⟨u, rfl, ha⟩ := awake

  obtain ⟨v0, v1, v2, v3, v4, v5, v6, hv, hS⟩ := seen_full r0 r1 r2 r3 r4 r5 r6 r7 r8 r9 r10 r11 r12 r13 r14 r15

  obtain ⟨w0, w1, w2, w3, w4, w5, w6, hw, hC⟩ := corrected_full r0 r1 r2 r3 r4 r5 r6 r7 r8 r9 r10 r11 r12 r13 r14 r15

  have hk := checkMatrix_r r0 r1 r2 r3 r4 r5 r6 r7 r8 r9

  have hm := checkSums_r r10 r11 r12 r13 r14 r15

  obtain ⟨u, rfl, hs⟩ := ms r0 r1 r2 r3 r4 r5 r6 r7 r8 r9 r10 r11 r12 r13 r14 r15 (R := (· = true)) ⟨true, ha, fun _ => ⟨_, _, _, _, _, _, _, hS, _, _, _, _, _, _, _, hC, _, hk, fun h => ⟨_, hm, fun g => by

    have h' : ckE x0 x1 x2 x3 x4 x5 x6 x7 x8 x9 = 0 := by simpa using h

    have g' : smE x10 x11 x12 x13 x14 x15 = 0 := by simpa using g

    unfold seR at hv

    unfold coF at hw

    rw [if_pos ⟨h', g'⟩] at hv hw

    obtain ⟨v0', v1', v2', v3', v4', v5', v6', hv', hS'⟩ := seen_ref h' g'

    obtain ⟨w0', w1', w2', w3', w4', w5', w6', hw', hC'⟩ := corrected_ref h' g'

    obtain ⟨rfl, rfl, rfl, rfl, rfl, rfl, rfl⟩ := lgR_uniq hv hv'

    obtain ⟨rfl, rfl, rfl, rfl, rfl, rfl, rfl⟩ := coR_uniq hw hw'

    refine ⟨_, _, _, _, _, _, _, hS', _, _, _, _, _, _, _, hC', ?_⟩

    simp, fun g => by

    have h' : ckE x0 x1 x2 x3 x4 x5 x6 x7 x8 x9 = 0 := by simpa using h

    have g' := ne_dec g

    unfold seR at hv

    unfold coF at hw

    rw [if_neg (fun q => g' q.2)] at hv hw

    obtain ⟨rfl, rfl, rfl, rfl, rfl, rfl, e1⟩ := hv

    obtain ⟨rfl, rfl, rfl, rfl, rfl, rfl, e2⟩ := hw

    have e : fe (ckE x0 x1 x2 x3 x4 x5 x6 x7 x8 x9) (smE x10 x11 x12 x13 x14 x15) = smE x10 x11 x12 x13 x14 x15 := by unfold fe; rw [if_pos h']

    rw [e] at e1 e2

    subst e1 e2

    simp⟩, fun h => by

    have h' := ne_dec h

    unfold seR at hv

    unfold coF at hw

    rw [if_neg (fun q => h' q.1)] at hv hw

    obtain ⟨rfl, rfl, rfl, rfl, rfl, rfl, e1⟩ := hv

    obtain ⟨rfl, rfl, rfl, rfl, rfl, rfl, e2⟩ := hw

    have e : fe (ckE x0 x1 x2 x3 x4 x5 x6 x7 x8 x9) (smE x10 x11 x12 x13 x14 x15) = ckE x0 x1 x2 x3 x4 x5 x6 x7 x8 x9 := by unfold fe; rw [if_neg h']

    rw [e] at e1 e2

    subst e1 e2

    simp⟩, fun h => by cases h⟩

  exact hs

end Go.Proofs.YtpjcjdhidfnbbaaGreat.Ev
