/- MeterMatrices. -/
import Derived.Test.YtpjcjdhidfnbbaaGreatFch
import Derived.Test.YtpjcjdhidfnbbaaGreatFct
import Derived.Test.YtpjcjdhidfnbbaaGreatFaw6
namespace Go.Proofs.YtpjcjdhidfnbbaaGreat.Ev
set_option linter.unusedSimpArgs false
open Go Go.RowKit
set_option linter.unusedVariables false
set_option maxRecDepth 100000
def etalonlaw06_MeterMatrices_s : Sig := ⟨3, ⟨29, 0, 0⟩, ⟨0, 1, 0⟩, [(.agg [(.int .i64 (.var 0)), (.int .i64 (.var 1)), (.int .i64 (.var 2)), (.int .i64 (.var 3)), (.int .i64 (.var 4)), (.int .i64 (.var 5)), (.int .i64 (.var 6)), (.int .i64 (.var 7)), (.int .i64 (.var 8)), (.int .i64 (.var 9)), (.int .i64 (.var 10)), (.int .i64 (.var 11)), (.int .i64 (.var 12)), (.int .i64 (.var 13)), (.int .i64 (.var 14)), (.int .i64 (.var 15)), (.int .i64 (.var 16)), (.int .i64 (.var 17)), (.int .i64 (.var 18)), (.int .i64 (.var 19))]), (.agg [(.int .i64 (.var 20)), (.int .i64 (.var 21)), (.int .i64 (.var 22))]), (.agg [(.int .i64 (.var 23)), (.int .i64 (.var 24)), (.int .i64 (.var 25)), (.int .i64 (.var 26)), (.int .i64 (.var 27)), (.int .i64 (.var 28))])], [], (.bool (.var 0)), []⟩
def meter_Offset_s : Sig := ⟨14, ⟨3, 0, 0⟩, ⟨11, 0, 0⟩, [(.agg [(.int .i64 (.var 0)), (.int .i64 (.var 1)), (.int .i64 (.var 2))])], [], (.tuple [(.agg [(.int .i64 (.var 3)), (.int .i64 (.var 4)), (.int .i64 (.var 5)), (.int .i64 (.var 6)), (.int .i64 (.var 7)), (.int .i64 (.var 8)), (.int .i64 (.var 9)), (.int .i64 (.var 10)), (.int .i64 (.var 11)), (.int .i64 (.var 12))]), (.int .i64 (.var 13))]), []⟩
def etalonref06_Offset_s : Sig := ⟨17, ⟨3, 0, 0⟩, ⟨10, 0, 0⟩, [(.agg [(.int .i64 (.var 0)), (.int .i64 (.var 1)), (.int .i64 (.var 2))])], [], (.agg [(.int .i64 (.var 3)), (.int .i64 (.var 4)), (.int .i64 (.var 5)), (.int .i64 (.var 6)), (.int .i64 (.var 7)), (.int .i64 (.var 8)), (.int .i64 (.var 9)), (.int .i64 (.var 10)), (.int .i64 (.var 11)), (.int .i64 (.var 12))]), []⟩

def ofp_t : Tr :=
  (.call polar_CheckTurn_s ⟨[(.var 0), (.var 1), (.var 2)], [], []⟩ ⟨[(.var 0), (.var 1), (.var 2), (.var 3)], [], []⟩ ⟨48, [(.agg [(.int .i64 (.var 0)), (.int .i64 (.var 1)), (.int .i64 (.var 2))])], [], [none, none], (.int .i64 (.var 3)), []⟩
  (.ite (.icmp .eql (.var 3) (.lit 0))
  (.ret ⟨[(.var 2), (.lit 0), (.lit 0), (.lit 0), (.var 0), (.bin (.subW .i64) (.lit 0) (.var 1)), (.lit 0), (.var 1), (.var 0), (.var 2), (.lit 0)], [], []⟩ [])
  (.ret ⟨[(.lit 0), (.lit 0), (.lit 0), (.lit 0), (.lit 0), (.lit 0), (.lit 0), (.lit 0), (.lit 0), (.lit 0), (.var 3)], [], []⟩ [])))
theorem ofp {x0 x1 x2 : Int} (r0 : (-9223372036854775808) ≤ x0 ∧ x0 ≤ 9223372036854775807) (r1 : (-9223372036854775808) ≤ x1 ∧ x1 ≤ 9223372036854775807) (r2 : (-9223372036854775808) ≤ x2 ∧ x2 ≤ 9223372036854775807) {R : Int → Int → Int → Int → Int → Int → Int → Int → Int → Int → Int → Prop}
  (H : (∃ v3 : Int, Spec Tryz.prog polar_CheckTurn_s ⟨[x0, x1, x2], [], []⟩ [v3] [] [] ∧
   ((((v3 : Int) == 0) = true → R (x2) (0) (0) (0) (x0) (IntKind.i64.wrap (0 - x1)) (0) (x1) (x0) (x2) (0)) ∧
   (((v3 : Int) == 0) = false → R (0) (0) (0) (0) (0) (0) (0) (0) (0) (0) (v3))))) :
    ∃ v0 : Int, ∃ v1 : Int, ∃ v2 : Int, ∃ v3 : Int, ∃ v4 : Int, ∃ v5 : Int, ∃ v6 : Int, ∃ v7 : Int, ∃ v8 : Int, ∃ v9 : Int, ∃ v10 : Int, R v0 v1 v2 v3 v4 v5 v6 v7 v8 v9 v10 ∧ Spec Tryz.prog meter_Offset_s ⟨[x0, x1, x2], [], []⟩ [v0, v1, v2, v3, v4, v5, v6, v7, v8, v9, v10] [] [] :=
  Eq.mp (by kernel_rfl) (exV_of (K := fun d => app3 meter_Offset_s.out R d ∧ Spec Tryz.prog meter_Offset_s ⟨[x0, x1, x2], [], []⟩ d.1 d.2.1 d.2.2) (tree_at mixed names S1_ok (S := S1 Tryz.prog) (lf := 100000) (d := 60) meter_Offset_s ofp_t { ivs := [(0, (-9223372036854775808), 9223372036854775807), (1, (-9223372036854775808), 9223372036854775807), (2, (-9223372036854775808), 9223372036854775807)], aivs := [] } ⟨[x0, x1, x2], [], []⟩ rfl (by kernel_rfl) (by kernel_rfl) (by kernel_rfl) ⟨(fc r0 (fc r1 (fc r2 fz))), fz, fz, fz⟩ (R := fun d => app3 meter_Offset_s.out R d) (Eq.mp (by kernel_rfl) H)))

def ofr_t : Tr :=
  (.ret ⟨[(.var 2), (.lit 0), (.lit 0), (.lit 0), (.var 0), (.bin (.subW .i64) (.lit 0) (.var 1)), (.lit 0), (.var 1), (.var 0), (.var 2)], [], []⟩ [])
theorem ofr {x0 x1 x2 : Int} (r0 : (-9223372036854775808) ≤ x0 ∧ x0 ≤ 9223372036854775807) (r1 : (-9223372036854775808) ≤ x1 ∧ x1 ≤ 9223372036854775807) (r2 : (-9223372036854775808) ≤ x2 ∧ x2 ≤ 9223372036854775807) {R : Int → Int → Int → Int → Int → Int → Int → Int → Int → Int → Prop}
  (H : R (x2) (0) (0) (0) (x0) (IntKind.i64.wrap (0 - x1)) (0) (x1) (x0) (x2)) :
    ∃ v0 : Int, ∃ v1 : Int, ∃ v2 : Int, ∃ v3 : Int, ∃ v4 : Int, ∃ v5 : Int, ∃ v6 : Int, ∃ v7 : Int, ∃ v8 : Int, ∃ v9 : Int, R v0 v1 v2 v3 v4 v5 v6 v7 v8 v9 ∧ Spec Tryz.prog etalonref06_Offset_s ⟨[x0, x1, x2], [], []⟩ [v0, v1, v2, v3, v4, v5, v6, v7, v8, v9] [] [] :=
  Eq.mp (by kernel_rfl) (exV_of (K := fun d => app3 etalonref06_Offset_s.out R d ∧ Spec Tryz.prog etalonref06_Offset_s ⟨[x0, x1, x2], [], []⟩ d.1 d.2.1 d.2.2) (tree_at mixed names S1_ok (S := S1 Tryz.prog) (lf := 100000) (d := 60) etalonref06_Offset_s ofr_t { ivs := [(0, (-9223372036854775808), 9223372036854775807), (1, (-9223372036854775808), 9223372036854775807), (2, (-9223372036854775808), 9223372036854775807)], aivs := [] } ⟨[x0, x1, x2], [], []⟩ rfl (by kernel_rfl) (by kernel_rfl) (by kernel_rfl) ⟨(fc r0 (fc r1 (fc r2 fz))), fz, fz, fz⟩ (R := fun d => app3 etalonref06_Offset_s.out R d) (Eq.mp (by kernel_rfl) H)))

def mm_t : Tr :=
  (.call etalonlaw06_awake_s ⟨[], [], []⟩ ⟨[], [(.var 0)], []⟩ ⟨8, [], [], [none, none, none], (.bool (.var 0)), []⟩
  (.ite (.var 0)
  (.call meter_CheckMatrix_s ⟨[(.var 0), (.var 1), (.var 2), (.var 3), (.var 4), (.var 5), (.var 6), (.var 7), (.var 8), (.var 9)], [], []⟩ ⟨[(.var 0), (.var 1), (.var 2), (.var 3), (.var 4), (.var 5), (.var 6), (.var 7), (.var 8), (.var 9), (.var 29)], [], []⟩ ⟨9, [(.agg [(.int .i64 (.var 0)), (.int .i64 (.var 1)), (.int .i64 (.var 2)), (.int .i64 (.var 3)), (.int .i64 (.var 4)), (.int .i64 (.var 5)), (.int .i64 (.var 6)), (.int .i64 (.var 7)), (.int .i64 (.var 8)), (.int .i64 (.var 9))])], [], [none, none, none], (.int .i64 (.var 29)), []⟩
   (.call etalonref06_CheckMatrix_s ⟨[(.var 0), (.var 1), (.var 2), (.var 3), (.var 4), (.var 5), (.var 6), (.var 7), (.var 8), (.var 9)], [], []⟩ ⟨[(.var 0), (.var 1), (.var 2), (.var 3), (.var 4), (.var 5), (.var 6), (.var 7), (.var 8), (.var 9), (.var 30)], [], []⟩ ⟨10, [(.agg [(.int .i64 (.var 0)), (.int .i64 (.var 1)), (.int .i64 (.var 2)), (.int .i64 (.var 3)), (.int .i64 (.var 4)), (.int .i64 (.var 5)), (.int .i64 (.var 6)), (.int .i64 (.var 7)), (.int .i64 (.var 8)), (.int .i64 (.var 9))])], [], [none, none, none], (.int .i64 (.var 30)), []⟩
   (.ite (.icmp .eql (.var 29) (.var 30))
   (.call meter_CheckSums_s ⟨[(.var 23), (.var 24), (.var 25), (.var 26), (.var 27), (.var 28)], [], []⟩ ⟨[(.var 23), (.var 24), (.var 25), (.var 26), (.var 27), (.var 28), (.var 31)], [], []⟩ ⟨11, [(.agg [(.int .i64 (.var 23)), (.int .i64 (.var 24)), (.int .i64 (.var 25)), (.int .i64 (.var 26)), (.int .i64 (.var 27)), (.int .i64 (.var 28))])], [], [none, none, none], (.int .i64 (.var 31)), []⟩
    (.call etalonref06_CheckSums_s ⟨[(.var 23), (.var 24), (.var 25), (.var 26), (.var 27), (.var 28)], [], []⟩ ⟨[(.var 23), (.var 24), (.var 25), (.var 26), (.var 27), (.var 28), (.var 32)], [], []⟩ ⟨12, [(.agg [(.int .i64 (.var 23)), (.int .i64 (.var 24)), (.int .i64 (.var 25)), (.int .i64 (.var 26)), (.int .i64 (.var 27)), (.int .i64 (.var 28))])], [], [none, none, none], (.int .i64 (.var 32)), []⟩
    (.ite (.icmp .eql (.var 31) (.var 32))
    (.call meter_Chained_s ⟨[(.var 0), (.var 1), (.var 2), (.var 3), (.var 4), (.var 5), (.var 6), (.var 7), (.var 8), (.var 9), (.var 10), (.var 11), (.var 12), (.var 13), (.var 14), (.var 15), (.var 16), (.var 17), (.var 18), (.var 19)], [], []⟩ ⟨[(.var 0), (.var 1), (.var 2), (.var 3), (.var 4), (.var 5), (.var 6), (.var 7), (.var 8), (.var 9), (.var 10), (.var 11), (.var 12), (.var 13), (.var 14), (.var 15), (.var 16), (.var 17), (.var 18), (.var 19), (.var 33), (.var 34), (.var 35), (.var 36), (.var 37), (.var 38), (.var 39), (.var 40), (.var 41), (.var 42), (.var 43)], [], []⟩ ⟨13, [(.agg [(.int .i64 (.var 0)), (.int .i64 (.var 1)), (.int .i64 (.var 2)), (.int .i64 (.var 3)), (.int .i64 (.var 4)), (.int .i64 (.var 5)), (.int .i64 (.var 6)), (.int .i64 (.var 7)), (.int .i64 (.var 8)), (.int .i64 (.var 9))]), (.agg [(.int .i64 (.var 10)), (.int .i64 (.var 11)), (.int .i64 (.var 12)), (.int .i64 (.var 13)), (.int .i64 (.var 14)), (.int .i64 (.var 15)), (.int .i64 (.var 16)), (.int .i64 (.var 17)), (.int .i64 (.var 18)), (.int .i64 (.var 19))])], [], [none, none, none], (.tuple [(.agg [(.int .i64 (.var 33)), (.int .i64 (.var 34)), (.int .i64 (.var 35)), (.int .i64 (.var 36)), (.int .i64 (.var 37)), (.int .i64 (.var 38)), (.int .i64 (.var 39)), (.int .i64 (.var 40)), (.int .i64 (.var 41)), (.int .i64 (.var 42))]), (.int .i64 (.var 43))]), []⟩
     (.call meter_Offset_s ⟨[(.var 20), (.var 21), (.var 22)], [], []⟩ ⟨[(.var 20), (.var 21), (.var 22), (.var 44), (.var 45), (.var 46), (.var 47), (.var 48), (.var 49), (.var 50), (.var 51), (.var 52), (.var 53), (.var 54)], [], []⟩ ⟨14, [(.agg [(.int .i64 (.var 20)), (.int .i64 (.var 21)), (.int .i64 (.var 22))])], [], [none, none, none, none], (.tuple [(.agg [(.int .i64 (.var 44)), (.int .i64 (.var 45)), (.int .i64 (.var 46)), (.int .i64 (.var 47)), (.int .i64 (.var 48)), (.int .i64 (.var 49)), (.int .i64 (.var 50)), (.int .i64 (.var 51)), (.int .i64 (.var 52)), (.int .i64 (.var 53))]), (.int .i64 (.var 54))]), []⟩
     (.call etalonref06_CheckMatrix_s ⟨[(.var 0), (.var 1), (.var 2), (.var 3), (.var 4), (.var 5), (.var 6), (.var 7), (.var 8), (.var 9)], [], []⟩ ⟨[(.var 0), (.var 1), (.var 2), (.var 3), (.var 4), (.var 5), (.var 6), (.var 7), (.var 8), (.var 9), (.var 55)], [], []⟩ ⟨10, [(.agg [(.int .i64 (.var 0)), (.int .i64 (.var 1)), (.int .i64 (.var 2)), (.int .i64 (.var 3)), (.int .i64 (.var 4)), (.int .i64 (.var 5)), (.int .i64 (.var 6)), (.int .i64 (.var 7)), (.int .i64 (.var 8)), (.int .i64 (.var 9))])], [], [none, none, none, none, none], (.int .i64 (.var 55)), []⟩
     (.ite (.icmp .eql (.var 55) (.lit 0))
     (.call etalonref06_CheckMatrix_s ⟨[(.var 10), (.var 11), (.var 12), (.var 13), (.var 14), (.var 15), (.var 16), (.var 17), (.var 18), (.var 19)], [], []⟩ ⟨[(.var 10), (.var 11), (.var 12), (.var 13), (.var 14), (.var 15), (.var 16), (.var 17), (.var 18), (.var 19), (.var 56)], [], []⟩ ⟨10, [(.agg [(.int .i64 (.var 10)), (.int .i64 (.var 11)), (.int .i64 (.var 12)), (.int .i64 (.var 13)), (.int .i64 (.var 14)), (.int .i64 (.var 15)), (.int .i64 (.var 16)), (.int .i64 (.var 17)), (.int .i64 (.var 18)), (.int .i64 (.var 19))])], [], [none, none, none, none, none], (.int .i64 (.var 56)), []⟩
      (.ite (.icmp .eql (.var 56) (.lit 0))
      (.call etalonref06_Chained_s ⟨[(.var 0), (.var 1), (.var 2), (.var 3), (.var 4), (.var 5), (.var 6), (.var 7), (.var 8), (.var 9), (.var 10), (.var 11), (.var 12), (.var 13), (.var 14), (.var 15), (.var 16), (.var 17), (.var 18), (.var 19)], [], []⟩ ⟨[(.var 0), (.var 1), (.var 2), (.var 3), (.var 4), (.var 5), (.var 6), (.var 7), (.var 8), (.var 9), (.var 10), (.var 11), (.var 12), (.var 13), (.var 14), (.var 15), (.var 16), (.var 17), (.var 18), (.var 19), (.var 57), (.var 58), (.var 59), (.var 60), (.var 61), (.var 62), (.var 63), (.var 64), (.var 65), (.var 66), (.var 67)], [], []⟩ ⟨15, [(.agg [(.int .i64 (.var 0)), (.int .i64 (.var 1)), (.int .i64 (.var 2)), (.int .i64 (.var 3)), (.int .i64 (.var 4)), (.int .i64 (.var 5)), (.int .i64 (.var 6)), (.int .i64 (.var 7)), (.int .i64 (.var 8)), (.int .i64 (.var 9))]), (.agg [(.int .i64 (.var 10)), (.int .i64 (.var 11)), (.int .i64 (.var 12)), (.int .i64 (.var 13)), (.int .i64 (.var 14)), (.int .i64 (.var 15)), (.int .i64 (.var 16)), (.int .i64 (.var 17)), (.int .i64 (.var 18)), (.int .i64 (.var 19))])], [], [none, none, none, none, none, none], (.tuple [(.agg [(.int .i64 (.var 57)), (.int .i64 (.var 58)), (.int .i64 (.var 59)), (.int .i64 (.var 60)), (.int .i64 (.var 61)), (.int .i64 (.var 62)), (.int .i64 (.var 63)), (.int .i64 (.var 64)), (.int .i64 (.var 65)), (.int .i64 (.var 66))]), (.int .i64 (.var 67))]), []⟩
       (.ite (.icmp .eql (.var 43) (.var 67))
       (.ite (.icmp .eql (.var 33) (.var 57))
        (.ite (.icmp .eql (.var 34) (.var 58))
         (.ite (.icmp .eql (.var 35) (.var 59))
          (.ite (.icmp .eql (.var 36) (.var 60))
           (.ite (.icmp .eql (.var 37) (.var 61))
            (.ite (.icmp .eql (.var 38) (.var 62))
             (.ite (.icmp .eql (.var 39) (.var 63))
              (.ite (.icmp .eql (.var 40) (.var 64))
               (.ite (.icmp .eql (.var 41) (.var 65))
                (.ite (.icmp .eql (.var 42) (.var 66))
                 (.call etalonref06_TurnErr_s ⟨[(.var 20), (.var 21), (.var 22)], [], []⟩ ⟨[(.var 20), (.var 21), (.var 22), (.var 68)], [], []⟩ ⟨16, [(.agg [(.int .i64 (.var 20)), (.int .i64 (.var 21)), (.int .i64 (.var 22))])], [], [none, none, none, none, none, none], (.int .i64 (.var 68)), []⟩
                  (.ite (.icmp .eql (.var 68) (.lit 0))
                  (.ite (.icmp .eql (.var 54) (.lit 0))
                   (.call etalonref06_Offset_s ⟨[(.var 20), (.var 21), (.var 22)], [], []⟩ ⟨[(.var 20), (.var 21), (.var 22), (.var 69), (.var 70), (.var 71), (.var 72), (.var 73), (.var 74), (.var 75), (.var 76), (.var 77), (.var 78)], [], []⟩ ⟨17, [(.agg [(.int .i64 (.var 20)), (.int .i64 (.var 21)), (.int .i64 (.var 22))])], [], [none, none, none, none, none, none], (.agg [(.int .i64 (.var 69)), (.int .i64 (.var 70)), (.int .i64 (.var 71)), (.int .i64 (.var 72)), (.int .i64 (.var 73)), (.int .i64 (.var 74)), (.int .i64 (.var 75)), (.int .i64 (.var 76)), (.int .i64 (.var 77)), (.int .i64 (.var 78))]), []⟩
                    (.ret ⟨[], [(.and (.and (.icmp .eql (.var 44) (.var 69)) (.and (.icmp .eql (.var 45) (.var 70)) (.and (.icmp .eql (.var 46) (.var 71)) (.and (.icmp .eql (.var 47) (.var 72)) (.and (.icmp .eql (.var 48) (.var 73)) (.and (.icmp .eql (.var 49) (.var 74)) (.and (.icmp .eql (.var 50) (.var 75)) (.and (.icmp .eql (.var 51) (.var 76)) (.icmp .eql (.var 52) (.var 77)))))))))) (.icmp .eql (.var 53) (.var 78)))], []⟩ []))
                   (.ret ⟨[], [(.lit false)], []⟩ []))
                  (.ite (.icmp .eql (.var 54) (.var 68))
                   (.ret ⟨[], [(.and (.and (.icmp .eql (.var 44) (.lit 0)) (.and (.icmp .eql (.var 45) (.lit 0)) (.and (.icmp .eql (.var 46) (.lit 0)) (.and (.icmp .eql (.var 47) (.lit 0)) (.and (.icmp .eql (.var 48) (.lit 0)) (.and (.icmp .eql (.var 49) (.lit 0)) (.and (.icmp .eql (.var 50) (.lit 0)) (.and (.icmp .eql (.var 51) (.lit 0)) (.icmp .eql (.var 52) (.lit 0)))))))))) (.icmp .eql (.var 53) (.lit 0)))], []⟩ [])
                   (.ret ⟨[], [(.lit false)], []⟩ []))))
                 (.ret ⟨[], [(.lit false)], []⟩ []))
                (.ret ⟨[], [(.lit false)], []⟩ []))
               (.ret ⟨[], [(.lit false)], []⟩ []))
              (.ret ⟨[], [(.lit false)], []⟩ []))
             (.ret ⟨[], [(.lit false)], []⟩ []))
            (.ret ⟨[], [(.lit false)], []⟩ []))
           (.ret ⟨[], [(.lit false)], []⟩ []))
          (.ret ⟨[], [(.lit false)], []⟩ []))
         (.ret ⟨[], [(.lit false)], []⟩ []))
        (.ret ⟨[], [(.lit false)], []⟩ []))
       (.ret ⟨[], [(.lit false)], []⟩ [])))
      (.ite (.icmp .eql (.var 43) (.var 56))
       (.ite (.icmp .eql (.var 33) (.lit 0))
        (.ite (.icmp .eql (.var 34) (.lit 0))
         (.ite (.icmp .eql (.var 35) (.lit 0))
          (.ite (.icmp .eql (.var 36) (.lit 0))
           (.ite (.icmp .eql (.var 37) (.lit 0))
            (.ite (.icmp .eql (.var 38) (.lit 0))
             (.ite (.icmp .eql (.var 39) (.lit 0))
              (.ite (.icmp .eql (.var 40) (.lit 0))
               (.ite (.icmp .eql (.var 41) (.lit 0))
                (.ite (.icmp .eql (.var 42) (.lit 0))
                 (.call etalonref06_TurnErr_s ⟨[(.var 20), (.var 21), (.var 22)], [], []⟩ ⟨[(.var 20), (.var 21), (.var 22), (.var 57)], [], []⟩ ⟨16, [(.agg [(.int .i64 (.var 20)), (.int .i64 (.var 21)), (.int .i64 (.var 22))])], [], [none, none, none, none, none, none], (.int .i64 (.var 57)), []⟩
                  (.ite (.icmp .eql (.var 57) (.lit 0))
                  (.ite (.icmp .eql (.var 54) (.lit 0))
                   (.call etalonref06_Offset_s ⟨[(.var 20), (.var 21), (.var 22)], [], []⟩ ⟨[(.var 20), (.var 21), (.var 22), (.var 58), (.var 59), (.var 60), (.var 61), (.var 62), (.var 63), (.var 64), (.var 65), (.var 66), (.var 67)], [], []⟩ ⟨17, [(.agg [(.int .i64 (.var 20)), (.int .i64 (.var 21)), (.int .i64 (.var 22))])], [], [none, none, none, none, none, none], (.agg [(.int .i64 (.var 58)), (.int .i64 (.var 59)), (.int .i64 (.var 60)), (.int .i64 (.var 61)), (.int .i64 (.var 62)), (.int .i64 (.var 63)), (.int .i64 (.var 64)), (.int .i64 (.var 65)), (.int .i64 (.var 66)), (.int .i64 (.var 67))]), []⟩
                    (.ret ⟨[], [(.and (.and (.icmp .eql (.var 44) (.var 58)) (.and (.icmp .eql (.var 45) (.var 59)) (.and (.icmp .eql (.var 46) (.var 60)) (.and (.icmp .eql (.var 47) (.var 61)) (.and (.icmp .eql (.var 48) (.var 62)) (.and (.icmp .eql (.var 49) (.var 63)) (.and (.icmp .eql (.var 50) (.var 64)) (.and (.icmp .eql (.var 51) (.var 65)) (.icmp .eql (.var 52) (.var 66)))))))))) (.icmp .eql (.var 53) (.var 67)))], []⟩ []))
                   (.ret ⟨[], [(.lit false)], []⟩ []))
                  (.ite (.icmp .eql (.var 54) (.var 57))
                   (.ret ⟨[], [(.and (.and (.icmp .eql (.var 44) (.lit 0)) (.and (.icmp .eql (.var 45) (.lit 0)) (.and (.icmp .eql (.var 46) (.lit 0)) (.and (.icmp .eql (.var 47) (.lit 0)) (.and (.icmp .eql (.var 48) (.lit 0)) (.and (.icmp .eql (.var 49) (.lit 0)) (.and (.icmp .eql (.var 50) (.lit 0)) (.and (.icmp .eql (.var 51) (.lit 0)) (.icmp .eql (.var 52) (.lit 0)))))))))) (.icmp .eql (.var 53) (.lit 0)))], []⟩ [])
                   (.ret ⟨[], [(.lit false)], []⟩ []))))
                 (.ret ⟨[], [(.lit false)], []⟩ []))
                (.ret ⟨[], [(.lit false)], []⟩ []))
               (.ret ⟨[], [(.lit false)], []⟩ []))
              (.ret ⟨[], [(.lit false)], []⟩ []))
             (.ret ⟨[], [(.lit false)], []⟩ []))
            (.ret ⟨[], [(.lit false)], []⟩ []))
           (.ret ⟨[], [(.lit false)], []⟩ []))
          (.ret ⟨[], [(.lit false)], []⟩ []))
         (.ret ⟨[], [(.lit false)], []⟩ []))
        (.ret ⟨[], [(.lit false)], []⟩ []))
       (.ret ⟨[], [(.lit false)], []⟩ []))))
     (.ite (.icmp .eql (.var 43) (.var 55))
      (.ite (.icmp .eql (.var 33) (.lit 0))
       (.ite (.icmp .eql (.var 34) (.lit 0))
        (.ite (.icmp .eql (.var 35) (.lit 0))
         (.ite (.icmp .eql (.var 36) (.lit 0))
          (.ite (.icmp .eql (.var 37) (.lit 0))
           (.ite (.icmp .eql (.var 38) (.lit 0))
            (.ite (.icmp .eql (.var 39) (.lit 0))
             (.ite (.icmp .eql (.var 40) (.lit 0))
              (.ite (.icmp .eql (.var 41) (.lit 0))
               (.ite (.icmp .eql (.var 42) (.lit 0))
                (.call etalonref06_TurnErr_s ⟨[(.var 20), (.var 21), (.var 22)], [], []⟩ ⟨[(.var 20), (.var 21), (.var 22), (.var 56)], [], []⟩ ⟨16, [(.agg [(.int .i64 (.var 20)), (.int .i64 (.var 21)), (.int .i64 (.var 22))])], [], [none, none, none, none, none, none], (.int .i64 (.var 56)), []⟩
                 (.ite (.icmp .eql (.var 56) (.lit 0))
                 (.ite (.icmp .eql (.var 54) (.lit 0))
                  (.call etalonref06_Offset_s ⟨[(.var 20), (.var 21), (.var 22)], [], []⟩ ⟨[(.var 20), (.var 21), (.var 22), (.var 57), (.var 58), (.var 59), (.var 60), (.var 61), (.var 62), (.var 63), (.var 64), (.var 65), (.var 66)], [], []⟩ ⟨17, [(.agg [(.int .i64 (.var 20)), (.int .i64 (.var 21)), (.int .i64 (.var 22))])], [], [none, none, none, none, none, none], (.agg [(.int .i64 (.var 57)), (.int .i64 (.var 58)), (.int .i64 (.var 59)), (.int .i64 (.var 60)), (.int .i64 (.var 61)), (.int .i64 (.var 62)), (.int .i64 (.var 63)), (.int .i64 (.var 64)), (.int .i64 (.var 65)), (.int .i64 (.var 66))]), []⟩
                   (.ret ⟨[], [(.and (.and (.icmp .eql (.var 44) (.var 57)) (.and (.icmp .eql (.var 45) (.var 58)) (.and (.icmp .eql (.var 46) (.var 59)) (.and (.icmp .eql (.var 47) (.var 60)) (.and (.icmp .eql (.var 48) (.var 61)) (.and (.icmp .eql (.var 49) (.var 62)) (.and (.icmp .eql (.var 50) (.var 63)) (.and (.icmp .eql (.var 51) (.var 64)) (.icmp .eql (.var 52) (.var 65)))))))))) (.icmp .eql (.var 53) (.var 66)))], []⟩ []))
                  (.ret ⟨[], [(.lit false)], []⟩ []))
                 (.ite (.icmp .eql (.var 54) (.var 56))
                  (.ret ⟨[], [(.and (.and (.icmp .eql (.var 44) (.lit 0)) (.and (.icmp .eql (.var 45) (.lit 0)) (.and (.icmp .eql (.var 46) (.lit 0)) (.and (.icmp .eql (.var 47) (.lit 0)) (.and (.icmp .eql (.var 48) (.lit 0)) (.and (.icmp .eql (.var 49) (.lit 0)) (.and (.icmp .eql (.var 50) (.lit 0)) (.and (.icmp .eql (.var 51) (.lit 0)) (.icmp .eql (.var 52) (.lit 0)))))))))) (.icmp .eql (.var 53) (.lit 0)))], []⟩ [])
                  (.ret ⟨[], [(.lit false)], []⟩ []))))
                (.ret ⟨[], [(.lit false)], []⟩ []))
               (.ret ⟨[], [(.lit false)], []⟩ []))
              (.ret ⟨[], [(.lit false)], []⟩ []))
             (.ret ⟨[], [(.lit false)], []⟩ []))
            (.ret ⟨[], [(.lit false)], []⟩ []))
           (.ret ⟨[], [(.lit false)], []⟩ []))
          (.ret ⟨[], [(.lit false)], []⟩ []))
         (.ret ⟨[], [(.lit false)], []⟩ []))
        (.ret ⟨[], [(.lit false)], []⟩ []))
       (.ret ⟨[], [(.lit false)], []⟩ []))
      (.ret ⟨[], [(.lit false)], []⟩ []))))))
    (.ret ⟨[], [(.lit false)], []⟩ []))))
   (.ret ⟨[], [(.lit false)], []⟩ []))))
  (.ret ⟨[], [(.lit false)], []⟩ [])))
theorem mm_p0 : (mm_t.only [true, true, true, true, true, true]).chk Tryz.prog (S1 Tryz.prog) 100000 60 (.fn etalonlaw06_MeterMatrices_s) { dom := { ivs := [(0, (-9223372036854775808), 9223372036854775807), (1, (-9223372036854775808), 9223372036854775807), (2, (-9223372036854775808), 9223372036854775807), (3, (-9223372036854775808), 9223372036854775807), (4, (-9223372036854775808), 9223372036854775807), (5, (-9223372036854775808), 9223372036854775807), (6, (-9223372036854775808), 9223372036854775807), (7, (-9223372036854775808), 9223372036854775807), (8, (-9223372036854775808), 9223372036854775807), (9, (-9223372036854775808), 9223372036854775807), (10, (-9223372036854775808), 9223372036854775807), (11, (-9223372036854775808), 9223372036854775807), (12, (-9223372036854775808), 9223372036854775807), (13, (-9223372036854775808), 9223372036854775807), (14, (-9223372036854775808), 9223372036854775807), (15, (-9223372036854775808), 9223372036854775807), (16, (-9223372036854775808), 9223372036854775807), (17, (-9223372036854775808), 9223372036854775807), (18, (-9223372036854775808), 9223372036854775807), (19, (-9223372036854775808), 9223372036854775807), (20, (-9223372036854775808), 9223372036854775807), (21, (-9223372036854775808), 9223372036854775807), (22, (-9223372036854775808), 9223372036854775807), (23, (-9223372036854775808), 9223372036854775807), (24, (-9223372036854775808), 9223372036854775807), (25, (-9223372036854775808), 9223372036854775807), (26, (-9223372036854775808), 9223372036854775807), (27, (-9223372036854775808), 9223372036854775807), (28, (-9223372036854775808), 9223372036854775807)], aivs := [] } } etalonlaw06_MeterMatrices_s.inp = true := by kernel_rfl
theorem mm_p1 : ((mm_t.but [true, true, true, true, true, true]).only [true, true, true, true, false, true]).chk Tryz.prog (S1 Tryz.prog) 100000 60 (.fn etalonlaw06_MeterMatrices_s) { dom := { ivs := [(0, (-9223372036854775808), 9223372036854775807), (1, (-9223372036854775808), 9223372036854775807), (2, (-9223372036854775808), 9223372036854775807), (3, (-9223372036854775808), 9223372036854775807), (4, (-9223372036854775808), 9223372036854775807), (5, (-9223372036854775808), 9223372036854775807), (6, (-9223372036854775808), 9223372036854775807), (7, (-9223372036854775808), 9223372036854775807), (8, (-9223372036854775808), 9223372036854775807), (9, (-9223372036854775808), 9223372036854775807), (10, (-9223372036854775808), 9223372036854775807), (11, (-9223372036854775808), 9223372036854775807), (12, (-9223372036854775808), 9223372036854775807), (13, (-9223372036854775808), 9223372036854775807), (14, (-9223372036854775808), 9223372036854775807), (15, (-9223372036854775808), 9223372036854775807), (16, (-9223372036854775808), 9223372036854775807), (17, (-9223372036854775808), 9223372036854775807), (18, (-9223372036854775808), 9223372036854775807), (19, (-9223372036854775808), 9223372036854775807), (20, (-9223372036854775808), 9223372036854775807), (21, (-9223372036854775808), 9223372036854775807), (22, (-9223372036854775808), 9223372036854775807), (23, (-9223372036854775808), 9223372036854775807), (24, (-9223372036854775808), 9223372036854775807), (25, (-9223372036854775808), 9223372036854775807), (26, (-9223372036854775808), 9223372036854775807), (27, (-9223372036854775808), 9223372036854775807), (28, (-9223372036854775808), 9223372036854775807)], aivs := [] } } etalonlaw06_MeterMatrices_s.inp = true := by kernel_rfl
theorem mm_p2 : (((mm_t.but [true, true, true, true, true, true]).but [true, true, true, true, false, true]).only [true, true, true, false, true]).chk Tryz.prog (S1 Tryz.prog) 100000 60 (.fn etalonlaw06_MeterMatrices_s) { dom := { ivs := [(0, (-9223372036854775808), 9223372036854775807), (1, (-9223372036854775808), 9223372036854775807), (2, (-9223372036854775808), 9223372036854775807), (3, (-9223372036854775808), 9223372036854775807), (4, (-9223372036854775808), 9223372036854775807), (5, (-9223372036854775808), 9223372036854775807), (6, (-9223372036854775808), 9223372036854775807), (7, (-9223372036854775808), 9223372036854775807), (8, (-9223372036854775808), 9223372036854775807), (9, (-9223372036854775808), 9223372036854775807), (10, (-9223372036854775808), 9223372036854775807), (11, (-9223372036854775808), 9223372036854775807), (12, (-9223372036854775808), 9223372036854775807), (13, (-9223372036854775808), 9223372036854775807), (14, (-9223372036854775808), 9223372036854775807), (15, (-9223372036854775808), 9223372036854775807), (16, (-9223372036854775808), 9223372036854775807), (17, (-9223372036854775808), 9223372036854775807), (18, (-9223372036854775808), 9223372036854775807), (19, (-9223372036854775808), 9223372036854775807), (20, (-9223372036854775808), 9223372036854775807), (21, (-9223372036854775808), 9223372036854775807), (22, (-9223372036854775808), 9223372036854775807), (23, (-9223372036854775808), 9223372036854775807), (24, (-9223372036854775808), 9223372036854775807), (25, (-9223372036854775808), 9223372036854775807), (26, (-9223372036854775808), 9223372036854775807), (27, (-9223372036854775808), 9223372036854775807), (28, (-9223372036854775808), 9223372036854775807)], aivs := [] } } etalonlaw06_MeterMatrices_s.inp = true := by kernel_rfl
theorem mm_p3 : ((((mm_t.but [true, true, true, true, true, true]).but [true, true, true, true, false, true]).but [true, true, true, false, true])).chk Tryz.prog (S1 Tryz.prog) 100000 60 (.fn etalonlaw06_MeterMatrices_s) { dom := { ivs := [(0, (-9223372036854775808), 9223372036854775807), (1, (-9223372036854775808), 9223372036854775807), (2, (-9223372036854775808), 9223372036854775807), (3, (-9223372036854775808), 9223372036854775807), (4, (-9223372036854775808), 9223372036854775807), (5, (-9223372036854775808), 9223372036854775807), (6, (-9223372036854775808), 9223372036854775807), (7, (-9223372036854775808), 9223372036854775807), (8, (-9223372036854775808), 9223372036854775807), (9, (-9223372036854775808), 9223372036854775807), (10, (-9223372036854775808), 9223372036854775807), (11, (-9223372036854775808), 9223372036854775807), (12, (-9223372036854775808), 9223372036854775807), (13, (-9223372036854775808), 9223372036854775807), (14, (-9223372036854775808), 9223372036854775807), (15, (-9223372036854775808), 9223372036854775807), (16, (-9223372036854775808), 9223372036854775807), (17, (-9223372036854775808), 9223372036854775807), (18, (-9223372036854775808), 9223372036854775807), (19, (-9223372036854775808), 9223372036854775807), (20, (-9223372036854775808), 9223372036854775807), (21, (-9223372036854775808), 9223372036854775807), (22, (-9223372036854775808), 9223372036854775807), (23, (-9223372036854775808), 9223372036854775807), (24, (-9223372036854775808), 9223372036854775807), (25, (-9223372036854775808), 9223372036854775807), (26, (-9223372036854775808), 9223372036854775807), (27, (-9223372036854775808), 9223372036854775807), (28, (-9223372036854775808), 9223372036854775807)], aivs := [] } } etalonlaw06_MeterMatrices_s.inp = true := by kernel_rfl
theorem mm {x0 x1 x2 x3 x4 x5 x6 x7 x8 x9 x10 x11 x12 x13 x14 x15 x16 x17 x18 x19 x20 x21 x22 x23 x24 x25 x26 x27 x28 : Int} (r0 : (-9223372036854775808) ≤ x0 ∧ x0 ≤ 9223372036854775807) (r1 : (-9223372036854775808) ≤ x1 ∧ x1 ≤ 9223372036854775807) (r2 : (-9223372036854775808) ≤ x2 ∧ x2 ≤ 9223372036854775807) (r3 : (-9223372036854775808) ≤ x3 ∧ x3 ≤ 9223372036854775807) (r4 : (-9223372036854775808) ≤ x4 ∧ x4 ≤ 9223372036854775807) (r5 : (-9223372036854775808) ≤ x5 ∧ x5 ≤ 9223372036854775807) (r6 : (-9223372036854775808) ≤ x6 ∧ x6 ≤ 9223372036854775807) (r7 : (-9223372036854775808) ≤ x7 ∧ x7 ≤ 9223372036854775807) (r8 : (-9223372036854775808) ≤ x8 ∧ x8 ≤ 9223372036854775807) (r9 : (-9223372036854775808) ≤ x9 ∧ x9 ≤ 9223372036854775807) (r10 : (-9223372036854775808) ≤ x10 ∧ x10 ≤ 9223372036854775807) (r11 : (-9223372036854775808) ≤ x11 ∧ x11 ≤ 9223372036854775807) (r12 : (-9223372036854775808) ≤ x12 ∧ x12 ≤ 9223372036854775807) (r13 : (-9223372036854775808) ≤ x13 ∧ x13 ≤ 9223372036854775807) (r14 : (-9223372036854775808) ≤ x14 ∧ x14 ≤ 9223372036854775807) (r15 : (-9223372036854775808) ≤ x15 ∧ x15 ≤ 9223372036854775807) (r16 : (-9223372036854775808) ≤ x16 ∧ x16 ≤ 9223372036854775807) (r17 : (-9223372036854775808) ≤ x17 ∧ x17 ≤ 9223372036854775807) (r18 : (-9223372036854775808) ≤ x18 ∧ x18 ≤ 9223372036854775807) (r19 : (-9223372036854775808) ≤ x19 ∧ x19 ≤ 9223372036854775807) (r20 : (-9223372036854775808) ≤ x20 ∧ x20 ≤ 9223372036854775807) (r21 : (-9223372036854775808) ≤ x21 ∧ x21 ≤ 9223372036854775807) (r22 : (-9223372036854775808) ≤ x22 ∧ x22 ≤ 9223372036854775807) (r23 : (-9223372036854775808) ≤ x23 ∧ x23 ≤ 9223372036854775807) (r24 : (-9223372036854775808) ≤ x24 ∧ x24 ≤ 9223372036854775807) (r25 : (-9223372036854775808) ≤ x25 ∧ x25 ≤ 9223372036854775807) (r26 : (-9223372036854775808) ≤ x26 ∧ x26 ≤ 9223372036854775807) (r27 : (-9223372036854775808) ≤ x27 ∧ x27 ≤ 9223372036854775807) (r28 : (-9223372036854775808) ≤ x28 ∧ x28 ≤ 9223372036854775807) {R : Bool → Prop}
  (H : (∃ u0 : Bool, Spec Tryz.prog etalonlaw06_awake_s ⟨[], [], []⟩ [] [u0] [] ∧
   ((u0 = true → (∃ v29 : Int, Spec Tryz.prog meter_CheckMatrix_s ⟨[x0, x1, x2, x3, x4, x5, x6, x7, x8, x9], [], []⟩ [v29] [] [] ∧
    (∃ v30 : Int, Spec Tryz.prog etalonref06_CheckMatrix_s ⟨[x0, x1, x2, x3, x4, x5, x6, x7, x8, x9], [], []⟩ [v30] [] [] ∧
    ((((v29 : Int) == v30) = true → (∃ v31 : Int, Spec Tryz.prog meter_CheckSums_s ⟨[x23, x24, x25, x26, x27, x28], [], []⟩ [v31] [] [] ∧
     (∃ v32 : Int, Spec Tryz.prog etalonref06_CheckSums_s ⟨[x23, x24, x25, x26, x27, x28], [], []⟩ [v32] [] [] ∧
     ((((v31 : Int) == v32) = true → (∃ v33 : Int, ∃ v34 : Int, ∃ v35 : Int, ∃ v36 : Int, ∃ v37 : Int, ∃ v38 : Int, ∃ v39 : Int, ∃ v40 : Int, ∃ v41 : Int, ∃ v42 : Int, ∃ v43 : Int, Spec Tryz.prog meter_Chained_s ⟨[x0, x1, x2, x3, x4, x5, x6, x7, x8, x9, x10, x11, x12, x13, x14, x15, x16, x17, x18, x19], [], []⟩ [v33, v34, v35, v36, v37, v38, v39, v40, v41, v42, v43] [] [] ∧
      (∃ v44 : Int, ∃ v45 : Int, ∃ v46 : Int, ∃ v47 : Int, ∃ v48 : Int, ∃ v49 : Int, ∃ v50 : Int, ∃ v51 : Int, ∃ v52 : Int, ∃ v53 : Int, ∃ v54 : Int, Spec Tryz.prog meter_Offset_s ⟨[x20, x21, x22], [], []⟩ [v44, v45, v46, v47, v48, v49, v50, v51, v52, v53, v54] [] [] ∧
      (∃ v55 : Int, Spec Tryz.prog etalonref06_CheckMatrix_s ⟨[x0, x1, x2, x3, x4, x5, x6, x7, x8, x9], [], []⟩ [v55] [] [] ∧
      ((((v55 : Int) == 0) = true → (∃ v56 : Int, Spec Tryz.prog etalonref06_CheckMatrix_s ⟨[x10, x11, x12, x13, x14, x15, x16, x17, x18, x19], [], []⟩ [v56] [] [] ∧
       ((((v56 : Int) == 0) = true → (∃ v57 : Int, ∃ v58 : Int, ∃ v59 : Int, ∃ v60 : Int, ∃ v61 : Int, ∃ v62 : Int, ∃ v63 : Int, ∃ v64 : Int, ∃ v65 : Int, ∃ v66 : Int, ∃ v67 : Int, Spec Tryz.prog etalonref06_Chained_s ⟨[x0, x1, x2, x3, x4, x5, x6, x7, x8, x9, x10, x11, x12, x13, x14, x15, x16, x17, x18, x19], [], []⟩ [v57, v58, v59, v60, v61, v62, v63, v64, v65, v66, v67] [] [] ∧
        ((((v43 : Int) == v67) = true → ((((v33 : Int) == v57) = true → ((((v34 : Int) == v58) = true → ((((v35 : Int) == v59) = true → ((((v36 : Int) == v60) = true → ((((v37 : Int) == v61) = true → ((((v38 : Int) == v62) = true → ((((v39 : Int) == v63) = true → ((((v40 : Int) == v64) = true → ((((v41 : Int) == v65) = true → ((((v42 : Int) == v66) = true → (∃ v68 : Int, Spec Tryz.prog etalonref06_TurnErr_s ⟨[x20, x21, x22], [], []⟩ [v68] [] [] ∧
                   ((((v68 : Int) == 0) = true → ((((v54 : Int) == 0) = true → (∃ v69 : Int, ∃ v70 : Int, ∃ v71 : Int, ∃ v72 : Int, ∃ v73 : Int, ∃ v74 : Int, ∃ v75 : Int, ∃ v76 : Int, ∃ v77 : Int, ∃ v78 : Int, Spec Tryz.prog etalonref06_Offset_s ⟨[x20, x21, x22], [], []⟩ [v69, v70, v71, v72, v73, v74, v75, v76, v77, v78] [] [] ∧
                     R (((((v44 : Int) == v69) && (((v45 : Int) == v70) && (((v46 : Int) == v71) && (((v47 : Int) == v72) && (((v48 : Int) == v73) && (((v49 : Int) == v74) && (((v50 : Int) == v75) && (((v51 : Int) == v76) && ((v52 : Int) == v77))))))))) && ((v53 : Int) == v78))))) ∧
                    (((v54 : Int) == 0) = false → R (false)))) ∧
                   (((v68 : Int) == 0) = false → ((((v54 : Int) == v68) = true → R (((((v44 : Int) == 0) && (((v45 : Int) == 0) && (((v46 : Int) == 0) && (((v47 : Int) == 0) && (((v48 : Int) == 0) && (((v49 : Int) == 0) && (((v50 : Int) == 0) && (((v51 : Int) == 0) && ((v52 : Int) == 0))))))))) && ((v53 : Int) == 0)))) ∧
                    (((v54 : Int) == v68) = false → R (false))))))) ∧
                  (((v42 : Int) == v66) = false → R (false)))) ∧
                 (((v41 : Int) == v65) = false → R (false)))) ∧
                (((v40 : Int) == v64) = false → R (false)))) ∧
               (((v39 : Int) == v63) = false → R (false)))) ∧
              (((v38 : Int) == v62) = false → R (false)))) ∧
             (((v37 : Int) == v61) = false → R (false)))) ∧
            (((v36 : Int) == v60) = false → R (false)))) ∧
           (((v35 : Int) == v59) = false → R (false)))) ∧
          (((v34 : Int) == v58) = false → R (false)))) ∧
         (((v33 : Int) == v57) = false → R (false)))) ∧
        (((v43 : Int) == v67) = false → R (false))))) ∧
       (((v56 : Int) == 0) = false → ((((v43 : Int) == v56) = true → ((((v33 : Int) == 0) = true → ((((v34 : Int) == 0) = true → ((((v35 : Int) == 0) = true → ((((v36 : Int) == 0) = true → ((((v37 : Int) == 0) = true → ((((v38 : Int) == 0) = true → ((((v39 : Int) == 0) = true → ((((v40 : Int) == 0) = true → ((((v41 : Int) == 0) = true → ((((v42 : Int) == 0) = true → (∃ v57 : Int, Spec Tryz.prog etalonref06_TurnErr_s ⟨[x20, x21, x22], [], []⟩ [v57] [] [] ∧
                   ((((v57 : Int) == 0) = true → ((((v54 : Int) == 0) = true → (∃ v58 : Int, ∃ v59 : Int, ∃ v60 : Int, ∃ v61 : Int, ∃ v62 : Int, ∃ v63 : Int, ∃ v64 : Int, ∃ v65 : Int, ∃ v66 : Int, ∃ v67 : Int, Spec Tryz.prog etalonref06_Offset_s ⟨[x20, x21, x22], [], []⟩ [v58, v59, v60, v61, v62, v63, v64, v65, v66, v67] [] [] ∧
                     R (((((v44 : Int) == v58) && (((v45 : Int) == v59) && (((v46 : Int) == v60) && (((v47 : Int) == v61) && (((v48 : Int) == v62) && (((v49 : Int) == v63) && (((v50 : Int) == v64) && (((v51 : Int) == v65) && ((v52 : Int) == v66))))))))) && ((v53 : Int) == v67))))) ∧
                    (((v54 : Int) == 0) = false → R (false)))) ∧
                   (((v57 : Int) == 0) = false → ((((v54 : Int) == v57) = true → R (((((v44 : Int) == 0) && (((v45 : Int) == 0) && (((v46 : Int) == 0) && (((v47 : Int) == 0) && (((v48 : Int) == 0) && (((v49 : Int) == 0) && (((v50 : Int) == 0) && (((v51 : Int) == 0) && ((v52 : Int) == 0))))))))) && ((v53 : Int) == 0)))) ∧
                    (((v54 : Int) == v57) = false → R (false))))))) ∧
                  (((v42 : Int) == 0) = false → R (false)))) ∧
                 (((v41 : Int) == 0) = false → R (false)))) ∧
                (((v40 : Int) == 0) = false → R (false)))) ∧
               (((v39 : Int) == 0) = false → R (false)))) ∧
              (((v38 : Int) == 0) = false → R (false)))) ∧
             (((v37 : Int) == 0) = false → R (false)))) ∧
            (((v36 : Int) == 0) = false → R (false)))) ∧
           (((v35 : Int) == 0) = false → R (false)))) ∧
          (((v34 : Int) == 0) = false → R (false)))) ∧
         (((v33 : Int) == 0) = false → R (false)))) ∧
        (((v43 : Int) == v56) = false → R (false))))))) ∧
      (((v55 : Int) == 0) = false → ((((v43 : Int) == v55) = true → ((((v33 : Int) == 0) = true → ((((v34 : Int) == 0) = true → ((((v35 : Int) == 0) = true → ((((v36 : Int) == 0) = true → ((((v37 : Int) == 0) = true → ((((v38 : Int) == 0) = true → ((((v39 : Int) == 0) = true → ((((v40 : Int) == 0) = true → ((((v41 : Int) == 0) = true → ((((v42 : Int) == 0) = true → (∃ v56 : Int, Spec Tryz.prog etalonref06_TurnErr_s ⟨[x20, x21, x22], [], []⟩ [v56] [] [] ∧
                  ((((v56 : Int) == 0) = true → ((((v54 : Int) == 0) = true → (∃ v57 : Int, ∃ v58 : Int, ∃ v59 : Int, ∃ v60 : Int, ∃ v61 : Int, ∃ v62 : Int, ∃ v63 : Int, ∃ v64 : Int, ∃ v65 : Int, ∃ v66 : Int, Spec Tryz.prog etalonref06_Offset_s ⟨[x20, x21, x22], [], []⟩ [v57, v58, v59, v60, v61, v62, v63, v64, v65, v66] [] [] ∧
                    R (((((v44 : Int) == v57) && (((v45 : Int) == v58) && (((v46 : Int) == v59) && (((v47 : Int) == v60) && (((v48 : Int) == v61) && (((v49 : Int) == v62) && (((v50 : Int) == v63) && (((v51 : Int) == v64) && ((v52 : Int) == v65))))))))) && ((v53 : Int) == v66))))) ∧
                   (((v54 : Int) == 0) = false → R (false)))) ∧
                  (((v56 : Int) == 0) = false → ((((v54 : Int) == v56) = true → R (((((v44 : Int) == 0) && (((v45 : Int) == 0) && (((v46 : Int) == 0) && (((v47 : Int) == 0) && (((v48 : Int) == 0) && (((v49 : Int) == 0) && (((v50 : Int) == 0) && (((v51 : Int) == 0) && ((v52 : Int) == 0))))))))) && ((v53 : Int) == 0)))) ∧
                   (((v54 : Int) == v56) = false → R (false))))))) ∧
                 (((v42 : Int) == 0) = false → R (false)))) ∧
                (((v41 : Int) == 0) = false → R (false)))) ∧
               (((v40 : Int) == 0) = false → R (false)))) ∧
              (((v39 : Int) == 0) = false → R (false)))) ∧
             (((v38 : Int) == 0) = false → R (false)))) ∧
            (((v37 : Int) == 0) = false → R (false)))) ∧
           (((v36 : Int) == 0) = false → R (false)))) ∧
          (((v35 : Int) == 0) = false → R (false)))) ∧
         (((v34 : Int) == 0) = false → R (false)))) ∧
        (((v33 : Int) == 0) = false → R (false)))) ∧
       (((v43 : Int) == v55) = false → R (false))))))))) ∧
     (((v31 : Int) == v32) = false → R (false)))))) ∧
    (((v29 : Int) == v30) = false → R (false)))))) ∧
   (u0 = false → R (false))))) :
    ∃ u0 : Bool, R u0 ∧ Spec Tryz.prog etalonlaw06_MeterMatrices_s ⟨[x0, x1, x2, x3, x4, x5, x6, x7, x8, x9, x10, x11, x12, x13, x14, x15, x16, x17, x18, x19, x20, x21, x22, x23, x24, x25, x26, x27, x28], [], []⟩ [] [u0] [] :=
  Eq.mp (by kernel_rfl) (exV_of (K := fun d => app3 etalonlaw06_MeterMatrices_s.out R d ∧ Spec Tryz.prog etalonlaw06_MeterMatrices_s ⟨[x0, x1, x2, x3, x4, x5, x6, x7, x8, x9, x10, x11, x12, x13, x14, x15, x16, x17, x18, x19, x20, x21, x22, x23, x24, x25, x26, x27, x28], [], []⟩ d.1 d.2.1 d.2.2) (tree_at mixed names S1_ok (S := S1 Tryz.prog) (lf := 100000) (d := 60) etalonlaw06_MeterMatrices_s mm_t { ivs := [(0, (-9223372036854775808), 9223372036854775807), (1, (-9223372036854775808), 9223372036854775807), (2, (-9223372036854775808), 9223372036854775807), (3, (-9223372036854775808), 9223372036854775807), (4, (-9223372036854775808), 9223372036854775807), (5, (-9223372036854775808), 9223372036854775807), (6, (-9223372036854775808), 9223372036854775807), (7, (-9223372036854775808), 9223372036854775807), (8, (-9223372036854775808), 9223372036854775807), (9, (-9223372036854775808), 9223372036854775807), (10, (-9223372036854775808), 9223372036854775807), (11, (-9223372036854775808), 9223372036854775807), (12, (-9223372036854775808), 9223372036854775807), (13, (-9223372036854775808), 9223372036854775807), (14, (-9223372036854775808), 9223372036854775807), (15, (-9223372036854775808), 9223372036854775807), (16, (-9223372036854775808), 9223372036854775807), (17, (-9223372036854775808), 9223372036854775807), (18, (-9223372036854775808), 9223372036854775807), (19, (-9223372036854775808), 9223372036854775807), (20, (-9223372036854775808), 9223372036854775807), (21, (-9223372036854775808), 9223372036854775807), (22, (-9223372036854775808), 9223372036854775807), (23, (-9223372036854775808), 9223372036854775807), (24, (-9223372036854775808), 9223372036854775807), (25, (-9223372036854775808), 9223372036854775807), (26, (-9223372036854775808), 9223372036854775807), (27, (-9223372036854775808), 9223372036854775807), (28, (-9223372036854775808), 9223372036854775807)], aivs := [] } ⟨[x0, x1, x2, x3, x4, x5, x6, x7, x8, x9, x10, x11, x12, x13, x14, x15, x16, x17, x18, x19, x20, x21, x22, x23, x24, x25, x26, x27, x28], [], []⟩ rfl (by kernel_rfl) (by kernel_rfl) (chk_split _ [true, true, true, true, true, true] mm_p0 (chk_split _ [true, true, true, true, false, true] mm_p1 (chk_split _ [true, true, true, false, true] mm_p2 mm_p3))) ⟨(fc r0 (fc r1 (fc r2 (fc r3 (fc r4 (fc r5 (fc r6 (fc r7 (fc r8 (fc r9 (fc r10 (fc r11 (fc r12 (fc r13 (fc r14 (fc r15 (fc r16 (fc r17 (fc r18 (fc r19 (fc r20 (fc r21 (fc r22 (fc r23 (fc r24 (fc r25 (fc r26 (fc r27 (fc r28 fz))))))))))))))))))))))))))))), fz, fz, fz⟩ (R := fun d => app3 etalonlaw06_MeterMatrices_s.out R d) (Eq.mp (by kernel_rfl) H)))

def ofR (p q r o0 o1 o2 o3 o4 o5 o6 o7 o8 o9 o10 : Int) : Prop := if tnE p q r = 0 then o0 = r ∧ o1 = 0 ∧ o2 = 0 ∧ o3 = 0 ∧ o4 = p ∧ o5 = IntKind.i64.wrap (0 - q) ∧ o6 = 0 ∧ o7 = q ∧ o8 = p ∧ o9 = r ∧ o10 = 0 else o0 = 0 ∧ o1 = 0 ∧ o2 = 0 ∧ o3 = 0 ∧ o4 = 0 ∧ o5 = 0 ∧ o6 = 0 ∧ o7 = 0 ∧ o8 = 0 ∧ o9 = 0 ∧ o10 = tnE p q r

theorem offset_p {x0 x1 x2 : Int} (r0 : I64 x0) (r1 : I64 x1) (r2 : I64 x2) : ∃ o0 o1 o2 o3 o4 o5 o6 o7 o8 o9 o10 : Int, ofR x0 x1 x2 o0 o1 o2 o3 o4 o5 o6 o7 o8 o9 o10 ∧ Spec Tryz.prog meter_Offset_s ⟨[x0, x1, x2], [], []⟩ [o0, o1, o2, o3, o4, o5, o6, o7, o8, o9, o10] [] [] := by

  refine ofp r0 r1 r2 (R := ofR x0 x1 x2) ⟨_, checkTurn_p r0 r1 r2, fun g => ?_, fun g => ?_⟩

  · unfold ofR; rw [if_pos (eq_of_beq g)]; exact ⟨rfl, rfl, rfl, rfl, rfl, rfl, rfl, rfl, rfl, rfl, rfl⟩

  · unfold ofR; rw [if_neg (ne_dec g)]; exact ⟨rfl, rfl, rfl, rfl, rfl, rfl, rfl, rfl, rfl, rfl, rfl⟩

theorem offset_r {x0 x1 x2 : Int} (r0 : I64 x0) (r1 : I64 x1) (r2 : I64 x2) : Spec Tryz.prog etalonref06_Offset_s ⟨[x0, x1, x2], [], []⟩ [x2, 0, 0, 0, x0, IntKind.i64.wrap (0 - x1), 0, x1, x0, x2] [] [] := by

  obtain ⟨v0, v1, v2, v3, v4, v5, v6, v7, v8, v9, ⟨rfl, rfl, rfl, rfl, rfl, rfl, rfl, rfl, rfl, rfl⟩, hs⟩ := ofr r0 r1 r2 (R := fun v0 v1 v2 v3 v4 v5 v6 v7 v8 v9 => v0 = x2 ∧ v1 = 0 ∧ v2 = 0 ∧ v3 = 0 ∧ v4 = x0 ∧ v5 = IntKind.i64.wrap (0 - x1) ∧ v6 = 0 ∧ v7 = x1 ∧ v8 = x0 ∧ v9 = x2) ⟨rfl, rfl, rfl, rfl, rfl, rfl, rfl, rfl, rfl, rfl⟩

  exact hs

set_option maxHeartbeats 8000000 in

theorem meterMatrices {x0 x1 x2 x3 x4 x5 x6 x7 x8 x9 x10 x11 x12 x13 x14 x15 x16 x17 x18 x19 x20 x21 x22 x23 x24 x25 x26 x27 x28 : Int} (r0 : (-9223372036854775808) ≤ x0 ∧ x0 ≤ 9223372036854775807) (r1 : (-9223372036854775808) ≤ x1 ∧ x1 ≤ 9223372036854775807) (r2 : (-9223372036854775808) ≤ x2 ∧ x2 ≤ 9223372036854775807) (r3 : (-9223372036854775808) ≤ x3 ∧ x3 ≤ 9223372036854775807) (r4 : (-9223372036854775808) ≤ x4 ∧ x4 ≤ 9223372036854775807) (r5 : (-9223372036854775808) ≤ x5 ∧ x5 ≤ 9223372036854775807) (r6 : (-9223372036854775808) ≤ x6 ∧ x6 ≤ 9223372036854775807) (r7 : (-9223372036854775808) ≤ x7 ∧ x7 ≤ 9223372036854775807) (r8 : (-9223372036854775808) ≤ x8 ∧ x8 ≤ 9223372036854775807) (r9 : (-9223372036854775808) ≤ x9 ∧ x9 ≤ 9223372036854775807) (r10 : (-9223372036854775808) ≤ x10 ∧ x10 ≤ 9223372036854775807) (r11 : (-9223372036854775808) ≤ x11 ∧ x11 ≤ 9223372036854775807) (r12 : (-9223372036854775808) ≤ x12 ∧ x12 ≤ 9223372036854775807) (r13 : (-9223372036854775808) ≤ x13 ∧ x13 ≤ 9223372036854775807) (r14 : (-9223372036854775808) ≤ x14 ∧ x14 ≤ 9223372036854775807) (r15 : (-9223372036854775808) ≤ x15 ∧ x15 ≤ 9223372036854775807) (r16 : (-9223372036854775808) ≤ x16 ∧ x16 ≤ 9223372036854775807) (r17 : (-9223372036854775808) ≤ x17 ∧ x17 ≤ 9223372036854775807) (r18 : (-9223372036854775808) ≤ x18 ∧ x18 ≤ 9223372036854775807) (r19 : (-9223372036854775808) ≤ x19 ∧ x19 ≤ 9223372036854775807) (r20 : (-9223372036854775808) ≤ x20 ∧ x20 ≤ 9223372036854775807) (r21 : (-9223372036854775808) ≤ x21 ∧ x21 ≤ 9223372036854775807) (r22 : (-9223372036854775808) ≤ x22 ∧ x22 ≤ 9223372036854775807) (r23 : (-9223372036854775808) ≤ x23 ∧ x23 ≤ 9223372036854775807) (r24 : (-9223372036854775808) ≤ x24 ∧ x24 ≤ 9223372036854775807) (r25 : (-9223372036854775808) ≤ x25 ∧ x25 ≤ 9223372036854775807) (r26 : (-9223372036854775808) ≤ x26 ∧ x26 ≤ 9223372036854775807) (r27 : (-9223372036854775808) ≤ x27 ∧ x27 ≤ 9223372036854775807) (r28 : (-9223372036854775808) ≤ x28 ∧ x28 ≤ 9223372036854775807) :

    Spec Tryz.prog etalonlaw06_MeterMatrices_s ⟨[x0, x1, x2, x3, x4, x5, x6, x7, x8, x9, x10, x11, x12, x13, x14, x15, x16, x17, x18, x19, x20, x21, x22, x23, x24, x25, x26, x27, x28], [], []⟩ [] [true] [] := by

  obtain ⟨u, rfl, ha⟩ := awake

  obtain ⟨v0, v1, v2, v3, v4, v5, v6, v7, v8, v9, v10, hv, hC⟩ := chained_p r0 r1 r2 r3 r4 r5 r6 r7 r8 r9 r10 r11 r12 r13 r14 r15 r16 r17 r18 r19

  obtain ⟨o0, o1, o2, o3, o4, o5, o6, o7, o8, o9, o10, ho, hO⟩ := offset_p r20 r21 r22

  have kp := checkMatrix_p r0 r1 r2 r3 r4 r5 r6 r7 r8 r9

  have kr := checkMatrix_r r0 r1 r2 r3 r4 r5 r6 r7 r8 r9

  have kr' := checkMatrix_r r10 r11 r12 r13 r14 r15 r16 r17 r18 r19

  have sp := checkSums_p r23 r24 r25 r26 r27 r28

  have sr := checkSums_r r23 r24 r25 r26 r27 r28

  have hT := turnErr_r r20 r21 r22

  have hOr := offset_r r20 r21 r22

  unfold chF at hv

  obtain ⟨u, rfl, hs⟩ := mm r0 r1 r2 r3 r4 r5 r6 r7 r8 r9 r10 r11 r12 r13 r14 r15 r16 r17 r18 r19 r20 r21 r22 r23 r24 r25 r26 r27 r28 (R := (· = true)) ⟨true, ha, fun _ => ⟨_, kp, _, kr, fun _ => ⟨_, sp, _, sr, fun _ => ⟨_, _, _, _, _, _, _, _, _, _, _, hC, _, _, _, _, _, _, _, _, _, _, _, hO, _, kr, fun ga => ⟨_, kr', fun gb => by

    rw [if_pos ⟨eq_of_beq ga, eq_of_beq gb⟩] at hv

    obtain ⟨w0, w1, w2, w3, w4, w5, w6, w7, w8, w9, w10, hw, hCr⟩ := chained_r (eq_of_beq ga) (eq_of_beq gb)

    obtain ⟨rfl, rfl, rfl, rfl, rfl, rfl, rfl, rfl, rfl, rfl, rfl⟩ := chV_uniq hv hw

    refine ⟨_, _, _, _, _, _, _, _, _, _, _, hCr, ?_⟩

    (iterate 11 refine ⟨fun _ => ?_, fun h9 => absurd h9 (by simp)⟩)

    refine ⟨_, hT, fun ht => ?_, fun ht => ?_⟩

    · unfold ofR at ho; rw [if_pos (eq_of_beq ht)] at ho

      obtain ⟨rfl, rfl, rfl, rfl, rfl, rfl, rfl, rfl, rfl, rfl, rfl⟩ := ho

      exact ⟨fun _ => ⟨_, _, _, _, _, _, _, _, _, _, hOr, by simp⟩, fun h9 => absurd h9 (by simp)⟩

    · unfold ofR at ho; rw [if_neg (ne_dec ht)] at ho

      obtain ⟨rfl, rfl, rfl, rfl, rfl, rfl, rfl, rfl, rfl, rfl, e9⟩ := ho

      exact ⟨fun _ => by simp, fun h9 => absurd h9 (by simp [e9])⟩, fun gb => by

    rw [if_neg (fun q => ne_dec gb q.2)] at hv

    obtain ⟨rfl, rfl, rfl, rfl, rfl, rfl, rfl, rfl, rfl, rfl, e⟩ := hv

    have e' : fe (ckE x0 x1 x2 x3 x4 x5 x6 x7 x8 x9) (ckE x10 x11 x12 x13 x14 x15 x16 x17 x18 x19) = ckE x10 x11 x12 x13 x14 x15 x16 x17 x18 x19 := by unfold fe; rw [if_pos (eq_of_beq ga)]

    rw [e'] at e

    subst e

    (iterate 11 refine ⟨fun _ => ?_, fun h9 => absurd h9 (by simp)⟩)

    refine ⟨_, hT, fun ht => ?_, fun ht => ?_⟩

    · unfold ofR at ho; rw [if_pos (eq_of_beq ht)] at ho

      obtain ⟨rfl, rfl, rfl, rfl, rfl, rfl, rfl, rfl, rfl, rfl, rfl⟩ := ho

      exact ⟨fun _ => ⟨_, _, _, _, _, _, _, _, _, _, hOr, by simp⟩, fun h9 => absurd h9 (by simp)⟩

    · unfold ofR at ho; rw [if_neg (ne_dec ht)] at ho

      obtain ⟨rfl, rfl, rfl, rfl, rfl, rfl, rfl, rfl, rfl, rfl, e9⟩ := ho

      exact ⟨fun _ => by simp, fun h9 => absurd h9 (by simp [e9])⟩⟩, fun ga => by

    rw [if_neg (fun q => ne_dec ga q.1)] at hv

    obtain ⟨rfl, rfl, rfl, rfl, rfl, rfl, rfl, rfl, rfl, rfl, e⟩ := hv

    have e' : fe (ckE x0 x1 x2 x3 x4 x5 x6 x7 x8 x9) (ckE x10 x11 x12 x13 x14 x15 x16 x17 x18 x19) = ckE x0 x1 x2 x3 x4 x5 x6 x7 x8 x9 := by unfold fe; rw [if_neg (ne_dec ga)]

    rw [e'] at e

    subst e

    (iterate 11 refine ⟨fun _ => ?_, fun h9 => absurd h9 (by simp)⟩)

    refine ⟨_, hT, fun ht => ?_, fun ht => ?_⟩

    · unfold ofR at ho; rw [if_pos (eq_of_beq ht)] at ho

      obtain ⟨rfl, rfl, rfl, rfl, rfl, rfl, rfl, rfl, rfl, rfl, rfl⟩ := ho

      exact ⟨fun _ => ⟨_, _, _, _, _, _, _, _, _, _, hOr, by simp⟩, fun h9 => absurd h9 (by simp)⟩

    · unfold ofR at ho; rw [if_neg (ne_dec ht)] at ho

      obtain ⟨rfl, rfl, rfl, rfl, rfl, rfl, rfl, rfl, rfl, rfl, e9⟩ := ho

      exact ⟨fun _ => by simp, fun h9 => absurd h9 (by simp [e9])⟩⟩, fun h9 => absurd h9 (by simp)⟩, fun h9 => absurd h9 (by simp)⟩, fun h => by cases h⟩

  exact hs

end Go.Proofs.YtpjcjdhidfnbbaaGreat.Ev
