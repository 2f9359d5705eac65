/- MeterCalibrated. -/
import Derived.Test.YtpjcjdhidfnbbaaGreatFcb
import Derived.Test.YtpjcjdhidfnbbaaGreatFch
import Derived.Test.YtpjcjdhidfnbbaaGreatFaw6
namespace Go.Proofs.YtpjcjdhidfnbbaaGreat.Ev
set_option linter.unusedSimpArgs false
open Go Go.RowKit
set_option linter.unusedVariables false
set_option maxRecDepth 100000
def etalonlaw06_MeterCalibrated_s : Sig := ⟨5, ⟨26, 0, 0⟩, ⟨0, 1, 0⟩, [(.agg [(.int .i64 (.var 0)), (.int .i64 (.var 1)), (.int .i64 (.var 2)), (.int .i64 (.var 3)), (.int .i64 (.var 4)), (.int .i64 (.var 5)), (.int .i64 (.var 6)), (.int .i64 (.var 7)), (.int .i64 (.var 8)), (.int .i64 (.var 9))]), (.agg [(.int .i64 (.var 10)), (.int .i64 (.var 11)), (.int .i64 (.var 12)), (.int .i64 (.var 13)), (.int .i64 (.var 14)), (.int .i64 (.var 15)), (.int .i64 (.var 16)), (.int .i64 (.var 17)), (.int .i64 (.var 18)), (.int .i64 (.var 19))]), (.agg [(.int .i64 (.var 20)), (.int .i64 (.var 21)), (.int .i64 (.var 22)), (.int .i64 (.var 23)), (.int .i64 (.var 24)), (.int .i64 (.var 25))])], [], (.bool (.var 0)), []⟩
def etalonlaw06_in_s : Sig := ⟨22, ⟨12, 0, 0⟩, ⟨0, 1, 0⟩, [(.agg [(.int .i64 (.var 0)), (.int .i64 (.var 1)), (.int .i64 (.var 2)), (.int .i64 (.var 3)), (.int .i64 (.var 4)), (.int .i64 (.var 5))]), (.agg [(.int .i64 (.var 6)), (.int .i64 (.var 7)), (.int .i64 (.var 8)), (.int .i64 (.var 9)), (.int .i64 (.var 10)), (.int .i64 (.var 11))])], [], (.bool (.var 0)), []⟩

def inw_t : Tr :=
  (.ite (.icmp .leq (.var 6) (.var 0))
  (.ite (.icmp .leq (.var 1) (.var 7))
   (.ite (.icmp .leq (.var 8) (.var 2))
    (.ite (.icmp .leq (.var 3) (.var 9))
     (.ite (.icmp .leq (.var 10) (.var 4))
      (.ret ⟨[], [(.icmp .leq (.var 5) (.var 11))], []⟩ [])
      (.ret ⟨[], [(.lit false)], []⟩ []))
     (.ret ⟨[], [(.lit false)], []⟩ []))
    (.ret ⟨[], [(.lit false)], []⟩ []))
   (.ret ⟨[], [(.lit false)], []⟩ []))
  (.ret ⟨[], [(.lit false)], []⟩ []))
theorem inw {x0 x1 x2 x3 x4 x5 x6 x7 x8 x9 x10 x11 : Int} (r0 : (-9223372036854775808) ≤ x0 ∧ x0 ≤ 9223372036854775807) (r1 : (-9223372036854775808) ≤ x1 ∧ x1 ≤ 9223372036854775807) (r2 : (-9223372036854775808) ≤ x2 ∧ x2 ≤ 9223372036854775807) (r3 : (-9223372036854775808) ≤ x3 ∧ x3 ≤ 9223372036854775807) (r4 : (-9223372036854775808) ≤ x4 ∧ x4 ≤ 9223372036854775807) (r5 : (-9223372036854775808) ≤ x5 ∧ x5 ≤ 9223372036854775807) (r6 : (-9223372036854775808) ≤ x6 ∧ x6 ≤ 9223372036854775807) (r7 : (-9223372036854775808) ≤ x7 ∧ x7 ≤ 9223372036854775807) (r8 : (-9223372036854775808) ≤ x8 ∧ x8 ≤ 9223372036854775807) (r9 : (-9223372036854775808) ≤ x9 ∧ x9 ≤ 9223372036854775807) (r10 : (-9223372036854775808) ≤ x10 ∧ x10 ≤ 9223372036854775807) (r11 : (-9223372036854775808) ≤ x11 ∧ x11 ≤ 9223372036854775807) {R : Bool → Prop}
  (H : ((decide ((x6 : Int) ≤ x0) = true → ((decide ((x1 : Int) ≤ x7) = true → ((decide ((x8 : Int) ≤ x2) = true → ((decide ((x3 : Int) ≤ x9) = true → ((decide ((x10 : Int) ≤ x4) = true → R (decide ((x5 : Int) ≤ x11))) ∧
       (decide ((x10 : Int) ≤ x4) = false → R (false)))) ∧
      (decide ((x3 : Int) ≤ x9) = false → R (false)))) ∧
     (decide ((x8 : Int) ≤ x2) = false → R (false)))) ∧
    (decide ((x1 : Int) ≤ x7) = false → R (false)))) ∧
   (decide ((x6 : Int) ≤ x0) = false → R (false)))) :
    ∃ u0 : Bool, R u0 ∧ Spec Tryz.prog etalonlaw06_in_s ⟨[x0, x1, x2, x3, x4, x5, x6, x7, x8, x9, x10, x11], [], []⟩ [] [u0] [] :=
  Eq.mp (by kernel_rfl) (exV_of (K := fun d => app3 etalonlaw06_in_s.out R d ∧ Spec Tryz.prog etalonlaw06_in_s ⟨[x0, x1, x2, x3, x4, x5, x6, x7, x8, x9, x10, x11], [], []⟩ d.1 d.2.1 d.2.2) (tree_at mixed names S1_ok (S := S1 Tryz.prog) (lf := 100000) (d := 60) etalonlaw06_in_s inw_t { ivs := [(0, (-9223372036854775808), 9223372036854775807), (1, (-9223372036854775808), 9223372036854775807), (2, (-9223372036854775808), 9223372036854775807), (3, (-9223372036854775808), 9223372036854775807), (4, (-9223372036854775808), 9223372036854775807), (5, (-9223372036854775808), 9223372036854775807), (6, (-9223372036854775808), 9223372036854775807), (7, (-9223372036854775808), 9223372036854775807), (8, (-9223372036854775808), 9223372036854775807), (9, (-9223372036854775808), 9223372036854775807), (10, (-9223372036854775808), 9223372036854775807), (11, (-9223372036854775808), 9223372036854775807)], aivs := [] } ⟨[x0, x1, x2, x3, x4, x5, x6, x7, x8, x9, x10, x11], [], []⟩ rfl (by kernel_rfl) (by kernel_rfl) (by kernel_rfl) ⟨(fc r0 (fc r1 (fc r2 (fc r3 (fc r4 (fc r5 (fc r6 (fc r7 (fc r8 (fc r9 (fc r10 (fc r11 fz)))))))))))), fz, fz, fz⟩ (R := fun d => app3 etalonlaw06_in_s.out R d) (Eq.mp (by kernel_rfl) H)))

def mcw_t : Tr :=
  (.call etalonlaw06_awake_s ⟨[], [], []⟩ ⟨[], [(.var 0)], []⟩ ⟨8, [], [], [none, none, none], (.bool (.var 0)), []⟩
  (.ite (.var 0)
  (.call meter_Seen_s ⟨[(.var 10), (.var 11), (.var 12), (.var 13), (.var 14), (.var 15), (.var 16), (.var 17), (.var 18), (.var 19), (.var 20), (.var 21), (.var 22), (.var 23), (.var 24), (.var 25)], [], []⟩ ⟨[(.var 10), (.var 11), (.var 12), (.var 13), (.var 14), (.var 15), (.var 16), (.var 17), (.var 18), (.var 19), (.var 20), (.var 21), (.var 22), (.var 23), (.var 24), (.var 25), (.var 26), (.var 27), (.var 28), (.var 29), (.var 30), (.var 31), (.var 32)], [], []⟩ ⟨18, [(.agg [(.int .i64 (.var 10)), (.int .i64 (.var 11)), (.int .i64 (.var 12)), (.int .i64 (.var 13)), (.int .i64 (.var 14)), (.int .i64 (.var 15)), (.int .i64 (.var 16)), (.int .i64 (.var 17)), (.int .i64 (.var 18)), (.int .i64 (.var 19))]), (.agg [(.int .i64 (.var 20)), (.int .i64 (.var 21)), (.int .i64 (.var 22)), (.int .i64 (.var 23)), (.int .i64 (.var 24)), (.int .i64 (.var 25))])], [], [none, none, none], (.tuple [(.agg [(.int .i64 (.var 26)), (.int .i64 (.var 27)), (.int .i64 (.var 28)), (.int .i64 (.var 29)), (.int .i64 (.var 30)), (.int .i64 (.var 31))]), (.int .i64 (.var 32))]), []⟩
   (.ite (.icmp .eql (.var 32) (.lit 0))
   (.call meter_Corrected_s ⟨[(.var 10), (.var 11), (.var 12), (.var 13), (.var 14), (.var 15), (.var 16), (.var 17), (.var 18), (.var 19), (.var 26), (.var 27), (.var 28), (.var 29), (.var 30), (.var 31)], [], []⟩ ⟨[(.var 10), (.var 11), (.var 12), (.var 13), (.var 14), (.var 15), (.var 16), (.var 17), (.var 18), (.var 19), (.var 26), (.var 27), (.var 28), (.var 29), (.var 30), (.var 31), (.var 33), (.var 34), (.var 35), (.var 36), (.var 37), (.var 38), (.var 39)], [], []⟩ ⟨19, [(.agg [(.int .i64 (.var 10)), (.int .i64 (.var 11)), (.int .i64 (.var 12)), (.int .i64 (.var 13)), (.int .i64 (.var 14)), (.int .i64 (.var 15)), (.int .i64 (.var 16)), (.int .i64 (.var 17)), (.int .i64 (.var 18)), (.int .i64 (.var 19))]), (.agg [(.int .i64 (.var 26)), (.int .i64 (.var 27)), (.int .i64 (.var 28)), (.int .i64 (.var 29)), (.int .i64 (.var 30)), (.int .i64 (.var 31))])], [], [none, none, none, none], (.tuple [(.agg [(.int .i64 (.var 33)), (.int .i64 (.var 34)), (.int .i64 (.var 35)), (.int .i64 (.var 36)), (.int .i64 (.var 37)), (.int .i64 (.var 38))]), (.int .i64 (.var 39))]), []⟩
    (.ite (.icmp .eql (.var 39) (.lit 0))
    (.call etalonlaw06_in_s ⟨[(.var 20), (.var 21), (.var 22), (.var 23), (.var 24), (.var 25), (.var 33), (.var 34), (.var 35), (.var 36), (.var 37), (.var 38)], [], []⟩ ⟨[(.var 20), (.var 21), (.var 22), (.var 23), (.var 24), (.var 25), (.var 33), (.var 34), (.var 35), (.var 36), (.var 37), (.var 38)], [(.var 1)], []⟩ ⟨22, [(.agg [(.int .i64 (.var 20)), (.int .i64 (.var 21)), (.int .i64 (.var 22)), (.int .i64 (.var 23)), (.int .i64 (.var 24)), (.int .i64 (.var 25))]), (.agg [(.int .i64 (.var 33)), (.int .i64 (.var 34)), (.int .i64 (.var 35)), (.int .i64 (.var 36)), (.int .i64 (.var 37)), (.int .i64 (.var 38))])], [], [none, none, none, none, none], (.bool (.var 1)), []⟩
     (.ite (.var 1)
     (.call meter_Chained_s ⟨[(.var 0), (.var 1), (.var 2), (.var 3), (.var 4), (.var 5), (.var 6), (.var 7), (.var 8), (.var 9), (.var 10), (.var 11), (.var 12), (.var 13), (.var 14), (.var 15), (.var 16), (.var 17), (.var 18), (.var 19)], [], []⟩ ⟨[(.var 0), (.var 1), (.var 2), (.var 3), (.var 4), (.var 5), (.var 6), (.var 7), (.var 8), (.var 9), (.var 10), (.var 11), (.var 12), (.var 13), (.var 14), (.var 15), (.var 16), (.var 17), (.var 18), (.var 19), (.var 40), (.var 41), (.var 42), (.var 43), (.var 44), (.var 45), (.var 46), (.var 47), (.var 48), (.var 49), (.var 50)], [], []⟩ ⟨13, [(.agg [(.int .i64 (.var 0)), (.int .i64 (.var 1)), (.int .i64 (.var 2)), (.int .i64 (.var 3)), (.int .i64 (.var 4)), (.int .i64 (.var 5)), (.int .i64 (.var 6)), (.int .i64 (.var 7)), (.int .i64 (.var 8)), (.int .i64 (.var 9))]), (.agg [(.int .i64 (.var 10)), (.int .i64 (.var 11)), (.int .i64 (.var 12)), (.int .i64 (.var 13)), (.int .i64 (.var 14)), (.int .i64 (.var 15)), (.int .i64 (.var 16)), (.int .i64 (.var 17)), (.int .i64 (.var 18)), (.int .i64 (.var 19))])], [], [none, none, none, none, none], (.tuple [(.agg [(.int .i64 (.var 40)), (.int .i64 (.var 41)), (.int .i64 (.var 42)), (.int .i64 (.var 43)), (.int .i64 (.var 44)), (.int .i64 (.var 45)), (.int .i64 (.var 46)), (.int .i64 (.var 47)), (.int .i64 (.var 48)), (.int .i64 (.var 49))]), (.int .i64 (.var 50))]), []⟩
      (.call meter_Seen_s ⟨[(.var 40), (.var 41), (.var 42), (.var 43), (.var 44), (.var 45), (.var 46), (.var 47), (.var 48), (.var 49), (.var 20), (.var 21), (.var 22), (.var 23), (.var 24), (.var 25)], [], []⟩ ⟨[(.var 40), (.var 41), (.var 42), (.var 43), (.var 44), (.var 45), (.var 46), (.var 47), (.var 48), (.var 49), (.var 20), (.var 21), (.var 22), (.var 23), (.var 24), (.var 25), (.var 51), (.var 52), (.var 53), (.var 54), (.var 55), (.var 56), (.var 57)], [], []⟩ ⟨18, [(.agg [(.int .i64 (.var 40)), (.int .i64 (.var 41)), (.int .i64 (.var 42)), (.int .i64 (.var 43)), (.int .i64 (.var 44)), (.int .i64 (.var 45)), (.int .i64 (.var 46)), (.int .i64 (.var 47)), (.int .i64 (.var 48)), (.int .i64 (.var 49))]), (.agg [(.int .i64 (.var 20)), (.int .i64 (.var 21)), (.int .i64 (.var 22)), (.int .i64 (.var 23)), (.int .i64 (.var 24)), (.int .i64 (.var 25))])], [], [none, none, none, none, none, none], (.tuple [(.agg [(.int .i64 (.var 51)), (.int .i64 (.var 52)), (.int .i64 (.var 53)), (.int .i64 (.var 54)), (.int .i64 (.var 55)), (.int .i64 (.var 56))]), (.int .i64 (.var 57))]), []⟩
      (.call meter_Seen_s ⟨[(.var 0), (.var 1), (.var 2), (.var 3), (.var 4), (.var 5), (.var 6), (.var 7), (.var 8), (.var 9), (.var 26), (.var 27), (.var 28), (.var 29), (.var 30), (.var 31)], [], []⟩ ⟨[(.var 0), (.var 1), (.var 2), (.var 3), (.var 4), (.var 5), (.var 6), (.var 7), (.var 8), (.var 9), (.var 26), (.var 27), (.var 28), (.var 29), (.var 30), (.var 31), (.var 58), (.var 59), (.var 60), (.var 61), (.var 62), (.var 63), (.var 64)], [], []⟩ ⟨18, [(.agg [(.int .i64 (.var 0)), (.int .i64 (.var 1)), (.int .i64 (.var 2)), (.int .i64 (.var 3)), (.int .i64 (.var 4)), (.int .i64 (.var 5)), (.int .i64 (.var 6)), (.int .i64 (.var 7)), (.int .i64 (.var 8)), (.int .i64 (.var 9))]), (.agg [(.int .i64 (.var 26)), (.int .i64 (.var 27)), (.int .i64 (.var 28)), (.int .i64 (.var 29)), (.int .i64 (.var 30)), (.int .i64 (.var 31))])], [], [none, none, none, none, none, none, none], (.tuple [(.agg [(.int .i64 (.var 58)), (.int .i64 (.var 59)), (.int .i64 (.var 60)), (.int .i64 (.var 61)), (.int .i64 (.var 62)), (.int .i64 (.var 63))]), (.int .i64 (.var 64))]), []⟩
      (.ite (.icmp .eql (.var 50) (.lit 0))
      (.ite (.icmp .eql (.var 57) (.lit 0))
       (.ite (.icmp .eql (.var 64) (.lit 0))
        (.call etalonlaw06_in_s ⟨[(.var 51), (.var 52), (.var 53), (.var 54), (.var 55), (.var 56), (.var 58), (.var 59), (.var 60), (.var 61), (.var 62), (.var 63)], [], []⟩ ⟨[(.var 51), (.var 52), (.var 53), (.var 54), (.var 55), (.var 56), (.var 58), (.var 59), (.var 60), (.var 61), (.var 62), (.var 63)], [(.var 2)], []⟩ ⟨22, [(.agg [(.int .i64 (.var 51)), (.int .i64 (.var 52)), (.int .i64 (.var 53)), (.int .i64 (.var 54)), (.int .i64 (.var 55)), (.int .i64 (.var 56))]), (.agg [(.int .i64 (.var 58)), (.int .i64 (.var 59)), (.int .i64 (.var 60)), (.int .i64 (.var 61)), (.int .i64 (.var 62)), (.int .i64 (.var 63))])], [], [none, none, none, none, none, none, none, none], (.bool (.var 2)), []⟩
         (.ret ⟨[], [(.var 2)], []⟩ []))
        (.ret ⟨[], [(.lit true)], []⟩ []))
       (.ret ⟨[], [(.lit true)], []⟩ []))
      (.ret ⟨[], [(.lit true)], []⟩ [])))))
     (.ret ⟨[], [(.lit false)], []⟩ [])))
    (.ite (.icmp .eql (.var 39) (.lit 28))
     (.call meter_Chained_s ⟨[(.var 0), (.var 1), (.var 2), (.var 3), (.var 4), (.var 5), (.var 6), (.var 7), (.var 8), (.var 9), (.var 10), (.var 11), (.var 12), (.var 13), (.var 14), (.var 15), (.var 16), (.var 17), (.var 18), (.var 19)], [], []⟩ ⟨[(.var 0), (.var 1), (.var 2), (.var 3), (.var 4), (.var 5), (.var 6), (.var 7), (.var 8), (.var 9), (.var 10), (.var 11), (.var 12), (.var 13), (.var 14), (.var 15), (.var 16), (.var 17), (.var 18), (.var 19), (.var 40), (.var 41), (.var 42), (.var 43), (.var 44), (.var 45), (.var 46), (.var 47), (.var 48), (.var 49), (.var 50)], [], []⟩ ⟨13, [(.agg [(.int .i64 (.var 0)), (.int .i64 (.var 1)), (.int .i64 (.var 2)), (.int .i64 (.var 3)), (.int .i64 (.var 4)), (.int .i64 (.var 5)), (.int .i64 (.var 6)), (.int .i64 (.var 7)), (.int .i64 (.var 8)), (.int .i64 (.var 9))]), (.agg [(.int .i64 (.var 10)), (.int .i64 (.var 11)), (.int .i64 (.var 12)), (.int .i64 (.var 13)), (.int .i64 (.var 14)), (.int .i64 (.var 15)), (.int .i64 (.var 16)), (.int .i64 (.var 17)), (.int .i64 (.var 18)), (.int .i64 (.var 19))])], [], [none, none, none, none, none], (.tuple [(.agg [(.int .i64 (.var 40)), (.int .i64 (.var 41)), (.int .i64 (.var 42)), (.int .i64 (.var 43)), (.int .i64 (.var 44)), (.int .i64 (.var 45)), (.int .i64 (.var 46)), (.int .i64 (.var 47)), (.int .i64 (.var 48)), (.int .i64 (.var 49))]), (.int .i64 (.var 50))]), []⟩
      (.call meter_Seen_s ⟨[(.var 40), (.var 41), (.var 42), (.var 43), (.var 44), (.var 45), (.var 46), (.var 47), (.var 48), (.var 49), (.var 20), (.var 21), (.var 22), (.var 23), (.var 24), (.var 25)], [], []⟩ ⟨[(.var 40), (.var 41), (.var 42), (.var 43), (.var 44), (.var 45), (.var 46), (.var 47), (.var 48), (.var 49), (.var 20), (.var 21), (.var 22), (.var 23), (.var 24), (.var 25), (.var 51), (.var 52), (.var 53), (.var 54), (.var 55), (.var 56), (.var 57)], [], []⟩ ⟨18, [(.agg [(.int .i64 (.var 40)), (.int .i64 (.var 41)), (.int .i64 (.var 42)), (.int .i64 (.var 43)), (.int .i64 (.var 44)), (.int .i64 (.var 45)), (.int .i64 (.var 46)), (.int .i64 (.var 47)), (.int .i64 (.var 48)), (.int .i64 (.var 49))]), (.agg [(.int .i64 (.var 20)), (.int .i64 (.var 21)), (.int .i64 (.var 22)), (.int .i64 (.var 23)), (.int .i64 (.var 24)), (.int .i64 (.var 25))])], [], [none, none, none, none, none, none], (.tuple [(.agg [(.int .i64 (.var 51)), (.int .i64 (.var 52)), (.int .i64 (.var 53)), (.int .i64 (.var 54)), (.int .i64 (.var 55)), (.int .i64 (.var 56))]), (.int .i64 (.var 57))]), []⟩
      (.call meter_Seen_s ⟨[(.var 0), (.var 1), (.var 2), (.var 3), (.var 4), (.var 5), (.var 6), (.var 7), (.var 8), (.var 9), (.var 26), (.var 27), (.var 28), (.var 29), (.var 30), (.var 31)], [], []⟩ ⟨[(.var 0), (.var 1), (.var 2), (.var 3), (.var 4), (.var 5), (.var 6), (.var 7), (.var 8), (.var 9), (.var 26), (.var 27), (.var 28), (.var 29), (.var 30), (.var 31), (.var 58), (.var 59), (.var 60), (.var 61), (.var 62), (.var 63), (.var 64)], [], []⟩ ⟨18, [(.agg [(.int .i64 (.var 0)), (.int .i64 (.var 1)), (.int .i64 (.var 2)), (.int .i64 (.var 3)), (.int .i64 (.var 4)), (.int .i64 (.var 5)), (.int .i64 (.var 6)), (.int .i64 (.var 7)), (.int .i64 (.var 8)), (.int .i64 (.var 9))]), (.agg [(.int .i64 (.var 26)), (.int .i64 (.var 27)), (.int .i64 (.var 28)), (.int .i64 (.var 29)), (.int .i64 (.var 30)), (.int .i64 (.var 31))])], [], [none, none, none, none, none, none, none], (.tuple [(.agg [(.int .i64 (.var 58)), (.int .i64 (.var 59)), (.int .i64 (.var 60)), (.int .i64 (.var 61)), (.int .i64 (.var 62)), (.int .i64 (.var 63))]), (.int .i64 (.var 64))]), []⟩
      (.ite (.icmp .eql (.var 50) (.lit 0))
      (.ite (.icmp .eql (.var 57) (.lit 0))
       (.ite (.icmp .eql (.var 64) (.lit 0))
        (.call etalonlaw06_in_s ⟨[(.var 51), (.var 52), (.var 53), (.var 54), (.var 55), (.var 56), (.var 58), (.var 59), (.var 60), (.var 61), (.var 62), (.var 63)], [], []⟩ ⟨[(.var 51), (.var 52), (.var 53), (.var 54), (.var 55), (.var 56), (.var 58), (.var 59), (.var 60), (.var 61), (.var 62), (.var 63)], [(.var 1)], []⟩ ⟨22, [(.agg [(.int .i64 (.var 51)), (.int .i64 (.var 52)), (.int .i64 (.var 53)), (.int .i64 (.var 54)), (.int .i64 (.var 55)), (.int .i64 (.var 56))]), (.agg [(.int .i64 (.var 58)), (.int .i64 (.var 59)), (.int .i64 (.var 60)), (.int .i64 (.var 61)), (.int .i64 (.var 62)), (.int .i64 (.var 63))])], [], [none, none, none, none, none, none, none, none], (.bool (.var 1)), []⟩
         (.ret ⟨[], [(.var 1)], []⟩ []))
        (.ret ⟨[], [(.lit true)], []⟩ []))
       (.ret ⟨[], [(.lit true)], []⟩ []))
      (.ret ⟨[], [(.lit true)], []⟩ [])))))
     (.ite (.icmp .eql (.var 39) (.lit 8))
      (.call meter_Chained_s ⟨[(.var 0), (.var 1), (.var 2), (.var 3), (.var 4), (.var 5), (.var 6), (.var 7), (.var 8), (.var 9), (.var 10), (.var 11), (.var 12), (.var 13), (.var 14), (.var 15), (.var 16), (.var 17), (.var 18), (.var 19)], [], []⟩ ⟨[(.var 0), (.var 1), (.var 2), (.var 3), (.var 4), (.var 5), (.var 6), (.var 7), (.var 8), (.var 9), (.var 10), (.var 11), (.var 12), (.var 13), (.var 14), (.var 15), (.var 16), (.var 17), (.var 18), (.var 19), (.var 40), (.var 41), (.var 42), (.var 43), (.var 44), (.var 45), (.var 46), (.var 47), (.var 48), (.var 49), (.var 50)], [], []⟩ ⟨13, [(.agg [(.int .i64 (.var 0)), (.int .i64 (.var 1)), (.int .i64 (.var 2)), (.int .i64 (.var 3)), (.int .i64 (.var 4)), (.int .i64 (.var 5)), (.int .i64 (.var 6)), (.int .i64 (.var 7)), (.int .i64 (.var 8)), (.int .i64 (.var 9))]), (.agg [(.int .i64 (.var 10)), (.int .i64 (.var 11)), (.int .i64 (.var 12)), (.int .i64 (.var 13)), (.int .i64 (.var 14)), (.int .i64 (.var 15)), (.int .i64 (.var 16)), (.int .i64 (.var 17)), (.int .i64 (.var 18)), (.int .i64 (.var 19))])], [], [none, none, none, none, none], (.tuple [(.agg [(.int .i64 (.var 40)), (.int .i64 (.var 41)), (.int .i64 (.var 42)), (.int .i64 (.var 43)), (.int .i64 (.var 44)), (.int .i64 (.var 45)), (.int .i64 (.var 46)), (.int .i64 (.var 47)), (.int .i64 (.var 48)), (.int .i64 (.var 49))]), (.int .i64 (.var 50))]), []⟩
       (.call meter_Seen_s ⟨[(.var 40), (.var 41), (.var 42), (.var 43), (.var 44), (.var 45), (.var 46), (.var 47), (.var 48), (.var 49), (.var 20), (.var 21), (.var 22), (.var 23), (.var 24), (.var 25)], [], []⟩ ⟨[(.var 40), (.var 41), (.var 42), (.var 43), (.var 44), (.var 45), (.var 46), (.var 47), (.var 48), (.var 49), (.var 20), (.var 21), (.var 22), (.var 23), (.var 24), (.var 25), (.var 51), (.var 52), (.var 53), (.var 54), (.var 55), (.var 56), (.var 57)], [], []⟩ ⟨18, [(.agg [(.int .i64 (.var 40)), (.int .i64 (.var 41)), (.int .i64 (.var 42)), (.int .i64 (.var 43)), (.int .i64 (.var 44)), (.int .i64 (.var 45)), (.int .i64 (.var 46)), (.int .i64 (.var 47)), (.int .i64 (.var 48)), (.int .i64 (.var 49))]), (.agg [(.int .i64 (.var 20)), (.int .i64 (.var 21)), (.int .i64 (.var 22)), (.int .i64 (.var 23)), (.int .i64 (.var 24)), (.int .i64 (.var 25))])], [], [none, none, none, none, none, none], (.tuple [(.agg [(.int .i64 (.var 51)), (.int .i64 (.var 52)), (.int .i64 (.var 53)), (.int .i64 (.var 54)), (.int .i64 (.var 55)), (.int .i64 (.var 56))]), (.int .i64 (.var 57))]), []⟩
       (.call meter_Seen_s ⟨[(.var 0), (.var 1), (.var 2), (.var 3), (.var 4), (.var 5), (.var 6), (.var 7), (.var 8), (.var 9), (.var 26), (.var 27), (.var 28), (.var 29), (.var 30), (.var 31)], [], []⟩ ⟨[(.var 0), (.var 1), (.var 2), (.var 3), (.var 4), (.var 5), (.var 6), (.var 7), (.var 8), (.var 9), (.var 26), (.var 27), (.var 28), (.var 29), (.var 30), (.var 31), (.var 58), (.var 59), (.var 60), (.var 61), (.var 62), (.var 63), (.var 64)], [], []⟩ ⟨18, [(.agg [(.int .i64 (.var 0)), (.int .i64 (.var 1)), (.int .i64 (.var 2)), (.int .i64 (.var 3)), (.int .i64 (.var 4)), (.int .i64 (.var 5)), (.int .i64 (.var 6)), (.int .i64 (.var 7)), (.int .i64 (.var 8)), (.int .i64 (.var 9))]), (.agg [(.int .i64 (.var 26)), (.int .i64 (.var 27)), (.int .i64 (.var 28)), (.int .i64 (.var 29)), (.int .i64 (.var 30)), (.int .i64 (.var 31))])], [], [none, none, none, none, none, none, none], (.tuple [(.agg [(.int .i64 (.var 58)), (.int .i64 (.var 59)), (.int .i64 (.var 60)), (.int .i64 (.var 61)), (.int .i64 (.var 62)), (.int .i64 (.var 63))]), (.int .i64 (.var 64))]), []⟩
       (.ite (.icmp .eql (.var 50) (.lit 0))
       (.ite (.icmp .eql (.var 57) (.lit 0))
        (.ite (.icmp .eql (.var 64) (.lit 0))
         (.call etalonlaw06_in_s ⟨[(.var 51), (.var 52), (.var 53), (.var 54), (.var 55), (.var 56), (.var 58), (.var 59), (.var 60), (.var 61), (.var 62), (.var 63)], [], []⟩ ⟨[(.var 51), (.var 52), (.var 53), (.var 54), (.var 55), (.var 56), (.var 58), (.var 59), (.var 60), (.var 61), (.var 62), (.var 63)], [(.var 1)], []⟩ ⟨22, [(.agg [(.int .i64 (.var 51)), (.int .i64 (.var 52)), (.int .i64 (.var 53)), (.int .i64 (.var 54)), (.int .i64 (.var 55)), (.int .i64 (.var 56))]), (.agg [(.int .i64 (.var 58)), (.int .i64 (.var 59)), (.int .i64 (.var 60)), (.int .i64 (.var 61)), (.int .i64 (.var 62)), (.int .i64 (.var 63))])], [], [none, none, none, none, none, none, none, none], (.bool (.var 1)), []⟩
          (.ret ⟨[], [(.var 1)], []⟩ []))
         (.ret ⟨[], [(.lit true)], []⟩ []))
        (.ret ⟨[], [(.lit true)], []⟩ []))
       (.ret ⟨[], [(.lit true)], []⟩ [])))))
      (.ret ⟨[], [(.lit false)], []⟩ [])))))
   (.ret ⟨[], [(.and (.and (.icmp .eql (.var 26) (.lit 0)) (.icmp .eql (.var 27) (.lit 0))) (.and (.and (.icmp .eql (.var 28) (.lit 0)) (.icmp .eql (.var 29) (.lit 0))) (.and (.icmp .eql (.var 30) (.lit 0)) (.icmp .eql (.var 31) (.lit 0)))))], []⟩ [])))
  (.ret ⟨[], [(.lit false)], []⟩ [])))
theorem mcw {x0 x1 x2 x3 x4 x5 x6 x7 x8 x9 x10 x11 x12 x13 x14 x15 x16 x17 x18 x19 x20 x21 x22 x23 x24 x25 : Int} (r0 : (-9223372036854775808) ≤ x0 ∧ x0 ≤ 9223372036854775807) (r1 : (-9223372036854775808) ≤ x1 ∧ x1 ≤ 9223372036854775807) (r2 : (-9223372036854775808) ≤ x2 ∧ x2 ≤ 9223372036854775807) (r3 : (-9223372036854775808) ≤ x3 ∧ x3 ≤ 9223372036854775807) (r4 : (-9223372036854775808) ≤ x4 ∧ x4 ≤ 9223372036854775807) (r5 : (-9223372036854775808) ≤ x5 ∧ x5 ≤ 9223372036854775807) (r6 : (-9223372036854775808) ≤ x6 ∧ x6 ≤ 9223372036854775807) (r7 : (-9223372036854775808) ≤ x7 ∧ x7 ≤ 9223372036854775807) (r8 : (-9223372036854775808) ≤ x8 ∧ x8 ≤ 9223372036854775807) (r9 : (-9223372036854775808) ≤ x9 ∧ x9 ≤ 9223372036854775807) (r10 : (-9223372036854775808) ≤ x10 ∧ x10 ≤ 9223372036854775807) (r11 : (-9223372036854775808) ≤ x11 ∧ x11 ≤ 9223372036854775807) (r12 : (-9223372036854775808) ≤ x12 ∧ x12 ≤ 9223372036854775807) (r13 : (-9223372036854775808) ≤ x13 ∧ x13 ≤ 9223372036854775807) (r14 : (-9223372036854775808) ≤ x14 ∧ x14 ≤ 9223372036854775807) (r15 : (-9223372036854775808) ≤ x15 ∧ x15 ≤ 9223372036854775807) (r16 : (-9223372036854775808) ≤ x16 ∧ x16 ≤ 9223372036854775807) (r17 : (-9223372036854775808) ≤ x17 ∧ x17 ≤ 9223372036854775807) (r18 : (-9223372036854775808) ≤ x18 ∧ x18 ≤ 9223372036854775807) (r19 : (-9223372036854775808) ≤ x19 ∧ x19 ≤ 9223372036854775807) (r20 : (-9223372036854775808) ≤ x20 ∧ x20 ≤ 9223372036854775807) (r21 : (-9223372036854775808) ≤ x21 ∧ x21 ≤ 9223372036854775807) (r22 : (-9223372036854775808) ≤ x22 ∧ x22 ≤ 9223372036854775807) (r23 : (-9223372036854775808) ≤ x23 ∧ x23 ≤ 9223372036854775807) (r24 : (-9223372036854775808) ≤ x24 ∧ x24 ≤ 9223372036854775807) (r25 : (-9223372036854775808) ≤ x25 ∧ x25 ≤ 9223372036854775807) {R : Bool → Prop}
  (H : (∃ u0 : Bool, Spec Tryz.prog etalonlaw06_awake_s ⟨[], [], []⟩ [] [u0] [] ∧
   ((u0 = true → (∃ v26 : Int, ∃ v27 : Int, ∃ v28 : Int, ∃ v29 : Int, ∃ v30 : Int, ∃ v31 : Int, ∃ v32 : Int, Spec Tryz.prog meter_Seen_s ⟨[x10, x11, x12, x13, x14, x15, x16, x17, x18, x19, x20, x21, x22, x23, x24, x25], [], []⟩ [v26, v27, v28, v29, v30, v31, v32] [] [] ∧
    ((((v32 : Int) == 0) = true → (∃ v33 : Int, ∃ v34 : Int, ∃ v35 : Int, ∃ v36 : Int, ∃ v37 : Int, ∃ v38 : Int, ∃ v39 : Int, Spec Tryz.prog meter_Corrected_s ⟨[x10, x11, x12, x13, x14, x15, x16, x17, x18, x19, v26, v27, v28, v29, v30, v31], [], []⟩ [v33, v34, v35, v36, v37, v38, v39] [] [] ∧
     ((((v39 : Int) == 0) = true → (∃ u1 : Bool, Spec Tryz.prog etalonlaw06_in_s ⟨[x20, x21, x22, x23, x24, x25, v33, v34, v35, v36, v37, v38], [], []⟩ [] [u1] [] ∧
      ((u1 = true → (∃ v40 : Int, ∃ v41 : Int, ∃ v42 : Int, ∃ v43 : Int, ∃ v44 : Int, ∃ v45 : Int, ∃ v46 : Int, ∃ v47 : Int, ∃ v48 : Int, ∃ v49 : Int, ∃ v50 : Int, Spec Tryz.prog meter_Chained_s ⟨[x0, x1, x2, x3, x4, x5, x6, x7, x8, x9, x10, x11, x12, x13, x14, x15, x16, x17, x18, x19], [], []⟩ [v40, v41, v42, v43, v44, v45, v46, v47, v48, v49, v50] [] [] ∧
       (∃ v51 : Int, ∃ v52 : Int, ∃ v53 : Int, ∃ v54 : Int, ∃ v55 : Int, ∃ v56 : Int, ∃ v57 : Int, Spec Tryz.prog meter_Seen_s ⟨[v40, v41, v42, v43, v44, v45, v46, v47, v48, v49, x20, x21, x22, x23, x24, x25], [], []⟩ [v51, v52, v53, v54, v55, v56, v57] [] [] ∧
       (∃ v58 : Int, ∃ v59 : Int, ∃ v60 : Int, ∃ v61 : Int, ∃ v62 : Int, ∃ v63 : Int, ∃ v64 : Int, Spec Tryz.prog meter_Seen_s ⟨[x0, x1, x2, x3, x4, x5, x6, x7, x8, x9, v26, v27, v28, v29, v30, v31], [], []⟩ [v58, v59, v60, v61, v62, v63, v64] [] [] ∧
       ((((v50 : Int) == 0) = true → ((((v57 : Int) == 0) = true → ((((v64 : Int) == 0) = true → (∃ u2 : Bool, Spec Tryz.prog etalonlaw06_in_s ⟨[v51, v52, v53, v54, v55, v56, v58, v59, v60, v61, v62, v63], [], []⟩ [] [u2] [] ∧
          R (u2))) ∧
         (((v64 : Int) == 0) = false → R (true)))) ∧
        (((v57 : Int) == 0) = false → R (true)))) ∧
       (((v50 : Int) == 0) = false → R (true))))))) ∧
      (u1 = false → R (false))))) ∧
     (((v39 : Int) == 0) = false → ((((v39 : Int) == 28) = true → (∃ v40 : Int, ∃ v41 : Int, ∃ v42 : Int, ∃ v43 : Int, ∃ v44 : Int, ∃ v45 : Int, ∃ v46 : Int, ∃ v47 : Int, ∃ v48 : Int, ∃ v49 : Int, ∃ v50 : Int, Spec Tryz.prog meter_Chained_s ⟨[x0, x1, x2, x3, x4, x5, x6, x7, x8, x9, x10, x11, x12, x13, x14, x15, x16, x17, x18, x19], [], []⟩ [v40, v41, v42, v43, v44, v45, v46, v47, v48, v49, v50] [] [] ∧
       (∃ v51 : Int, ∃ v52 : Int, ∃ v53 : Int, ∃ v54 : Int, ∃ v55 : Int, ∃ v56 : Int, ∃ v57 : Int, Spec Tryz.prog meter_Seen_s ⟨[v40, v41, v42, v43, v44, v45, v46, v47, v48, v49, x20, x21, x22, x23, x24, x25], [], []⟩ [v51, v52, v53, v54, v55, v56, v57] [] [] ∧
       (∃ v58 : Int, ∃ v59 : Int, ∃ v60 : Int, ∃ v61 : Int, ∃ v62 : Int, ∃ v63 : Int, ∃ v64 : Int, Spec Tryz.prog meter_Seen_s ⟨[x0, x1, x2, x3, x4, x5, x6, x7, x8, x9, v26, v27, v28, v29, v30, v31], [], []⟩ [v58, v59, v60, v61, v62, v63, v64] [] [] ∧
       ((((v50 : Int) == 0) = true → ((((v57 : Int) == 0) = true → ((((v64 : Int) == 0) = true → (∃ u1 : Bool, Spec Tryz.prog etalonlaw06_in_s ⟨[v51, v52, v53, v54, v55, v56, v58, v59, v60, v61, v62, v63], [], []⟩ [] [u1] [] ∧
          R (u1))) ∧
         (((v64 : Int) == 0) = false → R (true)))) ∧
        (((v57 : Int) == 0) = false → R (true)))) ∧
       (((v50 : Int) == 0) = false → R (true))))))) ∧
      (((v39 : Int) == 28) = false → ((((v39 : Int) == 8) = true → (∃ v40 : Int, ∃ v41 : Int, ∃ v42 : Int, ∃ v43 : Int, ∃ v44 : Int, ∃ v45 : Int, ∃ v46 : Int, ∃ v47 : Int, ∃ v48 : Int, ∃ v49 : Int, ∃ v50 : Int, Spec Tryz.prog meter_Chained_s ⟨[x0, x1, x2, x3, x4, x5, x6, x7, x8, x9, x10, x11, x12, x13, x14, x15, x16, x17, x18, x19], [], []⟩ [v40, v41, v42, v43, v44, v45, v46, v47, v48, v49, v50] [] [] ∧
        (∃ v51 : Int, ∃ v52 : Int, ∃ v53 : Int, ∃ v54 : Int, ∃ v55 : Int, ∃ v56 : Int, ∃ v57 : Int, Spec Tryz.prog meter_Seen_s ⟨[v40, v41, v42, v43, v44, v45, v46, v47, v48, v49, x20, x21, x22, x23, x24, x25], [], []⟩ [v51, v52, v53, v54, v55, v56, v57] [] [] ∧
        (∃ v58 : Int, ∃ v59 : Int, ∃ v60 : Int, ∃ v61 : Int, ∃ v62 : Int, ∃ v63 : Int, ∃ v64 : Int, Spec Tryz.prog meter_Seen_s ⟨[x0, x1, x2, x3, x4, x5, x6, x7, x8, x9, v26, v27, v28, v29, v30, v31], [], []⟩ [v58, v59, v60, v61, v62, v63, v64] [] [] ∧
        ((((v50 : Int) == 0) = true → ((((v57 : Int) == 0) = true → ((((v64 : Int) == 0) = true → (∃ u1 : Bool, Spec Tryz.prog etalonlaw06_in_s ⟨[v51, v52, v53, v54, v55, v56, v58, v59, v60, v61, v62, v63], [], []⟩ [] [u1] [] ∧
           R (u1))) ∧
          (((v64 : Int) == 0) = false → R (true)))) ∧
         (((v57 : Int) == 0) = false → R (true)))) ∧
        (((v50 : Int) == 0) = false → R (true))))))) ∧
       (((v39 : Int) == 8) = false → R (false))))))))) ∧
    (((v32 : Int) == 0) = false → R (((((v26 : Int) == 0) && ((v27 : Int) == 0)) && ((((v28 : Int) == 0) && ((v29 : Int) == 0)) && (((v30 : Int) == 0) && ((v31 : Int) == 0))))))))) ∧
   (u0 = false → R (false))))) :
    ∃ u0 : Bool, R u0 ∧ Spec Tryz.prog etalonlaw06_MeterCalibrated_s ⟨[x0, x1, x2, x3, x4, x5, x6, x7, x8, x9, x10, x11, x12, x13, x14, x15, x16, x17, x18, x19, x20, x21, x22, x23, x24, x25], [], []⟩ [] [u0] [] :=
  Eq.mp (by kernel_rfl) (exV_of (K := fun d => app3 etalonlaw06_MeterCalibrated_s.out R d ∧ Spec Tryz.prog etalonlaw06_MeterCalibrated_s ⟨[x0, x1, x2, x3, x4, x5, x6, x7, x8, x9, x10, x11, x12, x13, x14, x15, x16, x17, x18, x19, x20, x21, x22, x23, x24, x25], [], []⟩ d.1 d.2.1 d.2.2) (tree_at mixed names S1_ok (S := S1 Tryz.prog) (lf := 100000) (d := 60) etalonlaw06_MeterCalibrated_s mcw_t { ivs := [(0, (-9223372036854775808), 9223372036854775807), (1, (-9223372036854775808), 9223372036854775807), (2, (-9223372036854775808), 9223372036854775807), (3, (-9223372036854775808), 9223372036854775807), (4, (-9223372036854775808), 9223372036854775807), (5, (-9223372036854775808), 9223372036854775807), (6, (-9223372036854775808), 9223372036854775807), (7, (-9223372036854775808), 9223372036854775807), (8, (-9223372036854775808), 9223372036854775807), (9, (-9223372036854775808), 9223372036854775807), (10, (-9223372036854775808), 9223372036854775807), (11, (-9223372036854775808), 9223372036854775807), (12, (-9223372036854775808), 9223372036854775807), (13, (-9223372036854775808), 9223372036854775807), (14, (-9223372036854775808), 9223372036854775807), (15, (-9223372036854775808), 9223372036854775807), (16, (-9223372036854775808), 9223372036854775807), (17, (-9223372036854775808), 9223372036854775807), (18, (-9223372036854775808), 9223372036854775807), (19, (-9223372036854775808), 9223372036854775807), (20, (-9223372036854775808), 9223372036854775807), (21, (-9223372036854775808), 9223372036854775807), (22, (-9223372036854775808), 9223372036854775807), (23, (-9223372036854775808), 9223372036854775807), (24, (-9223372036854775808), 9223372036854775807), (25, (-9223372036854775808), 9223372036854775807)], aivs := [] } ⟨[x0, x1, x2, x3, x4, x5, x6, x7, x8, x9, x10, x11, x12, x13, x14, x15, x16, x17, x18, x19, x20, x21, x22, x23, x24, x25], [], []⟩ rfl (by kernel_rfl) (by kernel_rfl) (by kernel_rfl) ⟨(fc r0 (fc r1 (fc r2 (fc r3 (fc r4 (fc r5 (fc r6 (fc r7 (fc r8 (fc r9 (fc r10 (fc r11 (fc r12 (fc r13 (fc r14 (fc r15 (fc r16 (fc r17 (fc r18 (fc r19 (fc r20 (fc r21 (fc r22 (fc r23 (fc r24 (fc r25 fz)))))))))))))))))))))))))), fz, fz, fz⟩ (R := fun d => app3 etalonlaw06_MeterCalibrated_s.out R d) (Eq.mp (by kernel_rfl) H)))

theorem ne28 {a b : Int} (h : ((a : Int) == b) = false) : a ≠ b := by simpa using h

theorem fe_ne {a b : Int} (h : ¬ (a = 0 ∧ b = 0)) : fe a b ≠ 0 := by

  unfold fe; split

  · rename_i e; exact fun g => h ⟨e, g⟩

  · assumption

/-- Seen without an error. -/

theorem seR_zero {x0 x1 x2 x3 x4 x5 x6 x7 x8 x9 x10 x11 x12 x13 x14 x15 v0 v1 v2 v3 v4 v5 : Int} (h : seR x0 x1 x2 x3 x4 x5 x6 x7 x8 x9 x10 x11 x12 x13 x14 x15 v0 v1 v2 v3 v4 v5 0) : ckE x0 x1 x2 x3 x4 x5 x6 x7 x8 x9 = 0 ∧ smE x10 x11 x12 x13 x14 x15 = 0 ∧ smE (sL0 x0 x1 x2 x3 x4 x5 x6 x7 x8 x9 x10 x11 x12 x13 x14 x15) (sH0 x0 x1 x2 x3 x4 x5 x6 x7 x8 x9 x10 x11 x12 x13 x14 x15) (sL1 x0 x1 x2 x3 x4 x5 x6 x7 x8 x9 x10 x11 x12 x13 x14 x15) (sH1 x0 x1 x2 x3 x4 x5 x6 x7 x8 x9 x10 x11 x12 x13 x14 x15) (sL2 x0 x1 x2 x3 x4 x5 x6 x7 x8 x9 x10 x11 x12 x13 x14 x15) (sH2 x0 x1 x2 x3 x4 x5 x6 x7 x8 x9 x10 x11 x12 x13 x14 x15) = 0 ∧ v0 = sL0 x0 x1 x2 x3 x4 x5 x6 x7 x8 x9 x10 x11 x12 x13 x14 x15 ∧ v1 = sH0 x0 x1 x2 x3 x4 x5 x6 x7 x8 x9 x10 x11 x12 x13 x14 x15 ∧ v2 = sL1 x0 x1 x2 x3 x4 x5 x6 x7 x8 x9 x10 x11 x12 x13 x14 x15 ∧ v3 = sH1 x0 x1 x2 x3 x4 x5 x6 x7 x8 x9 x10 x11 x12 x13 x14 x15 ∧ v4 = sL2 x0 x1 x2 x3 x4 x5 x6 x7 x8 x9 x10 x11 x12 x13 x14 x15 ∧ v5 = sH2 x0 x1 x2 x3 x4 x5 x6 x7 x8 x9 x10 x11 x12 x13 x14 x15 := by

  unfold seR at h

  split at h

  · rename_i g

    obtain ⟨h0, h1, h2, h3, h4, h5, h6⟩ := h

    unfold lgE at h6

    split at h6

    · rename_i e

      unfold lgV at h0 h1 h2 h3 h4 h5

      rw [if_pos e] at h0 h1 h2 h3 h4 h5

      exact ⟨g.1, g.2, e, h0, h1, h2, h3, h4, h5⟩

    · cases h6

  · rename_i g

    exact absurd h.2.2.2.2.2.2.symm (fe_ne g)

theorem seR_err {x0 x1 x2 x3 x4 x5 x6 x7 x8 x9 x10 x11 x12 x13 x14 x15 v0 v1 v2 v3 v4 v5 v6 : Int} (h : seR x0 x1 x2 x3 x4 x5 x6 x7 x8 x9 x10 x11 x12 x13 x14 x15 v0 v1 v2 v3 v4 v5 v6) (g : v6 ≠ 0) : v0 = 0 ∧ v1 = 0 ∧ v2 = 0 ∧ v3 = 0 ∧ v4 = 0 ∧ v5 = 0 := by

  unfold seR at h

  split at h

  · obtain ⟨h0, h1, h2, h3, h4, h5, h6⟩ := h

    unfold lgE at h6

    split at h6

    · exact absurd h6 g

    · rename_i e

      unfold lgV at h0 h1 h2 h3 h4 h5

      rw [if_neg e] at h0 h1 h2 h3 h4 h5

      exact ⟨h0, h1, h2, h3, h4, h5⟩

  · exact ⟨h.1, h.2.1, h.2.2.1, h.2.2.2.1, h.2.2.2.2.1, h.2.2.2.2.2.1⟩

theorem seR_rng {x0 x1 x2 x3 x4 x5 x6 x7 x8 x9 x10 x11 x12 x13 x14 x15 v0 v1 v2 v3 v4 v5 v6 : Int} (h : seR x0 x1 x2 x3 x4 x5 x6 x7 x8 x9 x10 x11 x12 x13 x14 x15 v0 v1 v2 v3 v4 v5 v6) : I64 v0 ∧ I64 v1 ∧ I64 v2 ∧ I64 v3 ∧ I64 v4 ∧ I64 v5 := by

  by_cases g : v6 = 0

  · subst g

    obtain ⟨_, _, e, h0, h1, h2, h3, h4, h5⟩ := seR_zero h

    rw [← h0, ← h1, ← h2, ← h3, ← h4, ← h5] at e

    obtain ⟨⟨a1, a2, a3⟩, ⟨b1, b2, b3⟩, ⟨c1, c2, c3⟩⟩ := smE_ok e

    unfold I64; omega

  · obtain ⟨h0, h1, h2, h3, h4, h5⟩ := seR_err h g

    unfold I64; omega

theorem chF_rng {x0 x1 x2 x3 x4 x5 x6 x7 x8 x9 x10 x11 x12 x13 x14 x15 x16 x17 x18 x19 v0 v1 v2 v3 v4 v5 v6 v7 v8 v9 v10 : Int} (h : chF x0 x1 x2 x3 x4 x5 x6 x7 x8 x9 x10 x11 x12 x13 x14 x15 x16 x17 x18 x19 v0 v1 v2 v3 v4 v5 v6 v7 v8 v9 v10) : I64 v0 ∧ I64 v1 ∧ I64 v2 ∧ I64 v3 ∧ I64 v4 ∧ I64 v5 ∧ I64 v6 ∧ I64 v7 ∧ I64 v8 ∧ I64 v9 := by

  unfold chF at h

  split at h

  · unfold chR chV at h

    split at h

    · rename_i e

      obtain ⟨h0, h1, h2, h3, h4, h5, h6, h7, h8, h9, _⟩ := h

      rw [← h0, ← h1, ← h2, ← h3, ← h4, ← h5, ← h6, ← h7, ← h8, ← h9] at e

      have q := ckE_ok e

      unfold I64; omega

    · unfold I64; omega

  · unfold I64; omega

theorem chF_zero {x0 x1 x2 x3 x4 x5 x6 x7 x8 x9 x10 x11 x12 x13 x14 x15 x16 x17 x18 x19 v0 v1 v2 v3 v4 v5 v6 v7 v8 v9 : Int} (h : chF x0 x1 x2 x3 x4 x5 x6 x7 x8 x9 x10 x11 x12 x13 x14 x15 x16 x17 x18 x19 v0 v1 v2 v3 v4 v5 v6 v7 v8 v9 0) : ckE x0 x1 x2 x3 x4 x5 x6 x7 x8 x9 = 0 ∧ ckE x10 x11 x12 x13 x14 x15 x16 x17 x18 x19 = 0 ∧ ∃ k : Int, 1 ≤ k ∧ k * v0 = x0 * x10 + x1 * x13 + x2 * x16 ∧ k * v1 = x0 * x11 + x1 * x14 + x2 * x17 ∧ k * v2 = x0 * x12 + x1 * x15 + x2 * x18 ∧ k * v3 = x3 * x10 + x4 * x13 + x5 * x16 ∧ k * v4 = x3 * x11 + x4 * x14 + x5 * x17 ∧ k * v5 = x3 * x12 + x4 * x15 + x5 * x18 ∧ k * v6 = x6 * x10 + x7 * x13 + x8 * x16 ∧ k * v7 = x6 * x11 + x7 * x14 + x8 * x17 ∧ k * v8 = x6 * x12 + x7 * x15 + x8 * x18 ∧ k * v9 = x9 * x19 := by

  unfold chF at h

  split at h

  · rename_i g

    unfold chR chV at h

    split at h

    · obtain ⟨h0, h1, h2, h3, h4, h5, h6, h7, h8, h9, _⟩ := h

      obtain ⟨m9, _⟩ := ckE_ok g.1

      obtain ⟨n9, _⟩ := ckE_ok g.2

      have p9 : 1 ≤ x9 * x19 := Int.mul_pos (by omega) (by omega)

      have hp : 1 ≤ (g10 (x0 * x10 + x1 * x13 + x2 * x16) (x0 * x11 + x1 * x14 + x2 * x17) (x0 * x12 + x1 * x15 + x2 * x18) (x3 * x10 + x4 * x13 + x5 * x16) (x3 * x11 + x4 * x14 + x5 * x17) (x3 * x12 + x4 * x15 + x5 * x18) (x6 * x10 + x7 * x13 + x8 * x16) (x6 * x11 + x7 * x14 + x8 * x17) (x6 * x12 + x7 * x15 + x8 * x18) (x9 * x19)) := g10_pos p9

      have d := g10_dvd (x0 * x10 + x1 * x13 + x2 * x16) (x0 * x11 + x1 * x14 + x2 * x17) (x0 * x12 + x1 * x15 + x2 * x18) (x3 * x10 + x4 * x13 + x5 * x16) (x3 * x11 + x4 * x14 + x5 * x17) (x3 * x12 + x4 * x15 + x5 * x18) (x6 * x10 + x7 * x13 + x8 * x16) (x6 * x11 + x7 * x14 + x8 * x17) (x6 * x12 + x7 * x15 + x8 * x18) (x9 * x19)

      refine ⟨g.1, g.2, (((g10 (x0 * x10 + x1 * x13 + x2 * x16) (x0 * x11 + x1 * x14 + x2 * x17) (x0 * x12 + x1 * x15 + x2 * x18) (x3 * x10 + x4 * x13 + x5 * x16) (x3 * x11 + x4 * x14 + x5 * x17) (x3 * x12 + x4 * x15 + x5 * x18) (x6 * x10 + x7 * x13 + x8 * x16) (x6 * x11 + x7 * x14 + x8 * x17) (x6 * x12 + x7 * x15 + x8 * x18) (x9 * x19)) : Nat) : Int), by omega, ?_⟩

      rw [h0, h1, h2, h3, h4, h5, h6, h7, h8, h9]

      exact ⟨tdiv_dvd hp d.1, tdiv_dvd hp d.2.1, tdiv_dvd hp d.2.2.1, tdiv_dvd hp d.2.2.2.1, tdiv_dvd hp d.2.2.2.2.1, tdiv_dvd hp d.2.2.2.2.2.1, tdiv_dvd hp d.2.2.2.2.2.2.1, tdiv_dvd hp d.2.2.2.2.2.2.2.1, tdiv_dvd hp d.2.2.2.2.2.2.2.2.1, tdiv_dvd hp d.2.2.2.2.2.2.2.2.2⟩

    · exact absurd h.2.2.2.2.2.2.2.2.2.2 (by decide)

  · rename_i g

    exact absurd h.2.2.2.2.2.2.2.2.2.2.symm (fe_ne g)

theorem in_true {x0 x1 x2 x3 x4 x5 x6 x7 x8 x9 x10 x11 : Int} (r0 : I64 x0) (r1 : I64 x1) (r2 : I64 x2) (r3 : I64 x3) (r4 : I64 x4) (r5 : I64 x5) (r6 : I64 x6) (r7 : I64 x7) (r8 : I64 x8) (r9 : I64 x9) (r10 : I64 x10) (r11 : I64 x11) (h0 : x6 ≤ x0) (h1 : x1 ≤ x7) (h2 : x8 ≤ x2) (h3 : x3 ≤ x9) (h4 : x10 ≤ x4) (h5 : x5 ≤ x11) : Spec Tryz.prog etalonlaw06_in_s ⟨[x0, x1, x2, x3, x4, x5, x6, x7, x8, x9, x10, x11], [], []⟩ [] [true] [] := by

  obtain ⟨u, rfl, hs⟩ := inw r0 r1 r2 r3 r4 r5 r6 r7 r8 r9 r10 r11 (R := (· = true)) (by

    simp only [decide_eq_true_eq, decide_eq_false_iff_not]

    (repeat' (first | exact rfl | apply And.intro | intro _ | fail)) <;> first | omega | (simp; omega))

  exact hs

/-- What is seen and corrected contains what it was. -/

theorem back_in {x0 x1 x2 x3 x4 x5 x6 x7 x8 x9 x10 x11 x12 x13 x14 x15 z0 z1 z2 z3 z4 z5 z6 : Int} (hk : ckE x0 x1 x2 x3 x4 x5 x6 x7 x8 x9 = 0) (hs : smE x10 x11 x12 x13 x14 x15 = 0) (hy : smE (sL0 x0 x1 x2 x3 x4 x5 x6 x7 x8 x9 x10 x11 x12 x13 x14 x15) (sH0 x0 x1 x2 x3 x4 x5 x6 x7 x8 x9 x10 x11 x12 x13 x14 x15) (sL1 x0 x1 x2 x3 x4 x5 x6 x7 x8 x9 x10 x11 x12 x13 x14 x15) (sH1 x0 x1 x2 x3 x4 x5 x6 x7 x8 x9 x10 x11 x12 x13 x14 x15) (sL2 x0 x1 x2 x3 x4 x5 x6 x7 x8 x9 x10 x11 x12 x13 x14 x15) (sH2 x0 x1 x2 x3 x4 x5 x6 x7 x8 x9 x10 x11 x12 x13 x14 x15) = 0)

    (h : coF x0 x1 x2 x3 x4 x5 x6 x7 x8 x9 (sL0 x0 x1 x2 x3 x4 x5 x6 x7 x8 x9 x10 x11 x12 x13 x14 x15) (sH0 x0 x1 x2 x3 x4 x5 x6 x7 x8 x9 x10 x11 x12 x13 x14 x15) (sL1 x0 x1 x2 x3 x4 x5 x6 x7 x8 x9 x10 x11 x12 x13 x14 x15) (sH1 x0 x1 x2 x3 x4 x5 x6 x7 x8 x9 x10 x11 x12 x13 x14 x15) (sL2 x0 x1 x2 x3 x4 x5 x6 x7 x8 x9 x10 x11 x12 x13 x14 x15) (sH2 x0 x1 x2 x3 x4 x5 x6 x7 x8 x9 x10 x11 x12 x13 x14 x15) z0 z1 z2 z3 z4 z5 z6) : (z6 = 0 → (z0 ≤ x10 ∧ x11 ≤ z1) ∧ (z2 ≤ x12 ∧ x13 ≤ z3) ∧ (z4 ≤ x14 ∧ x15 ≤ z5) ∧ (I64 z0 ∧ I64 z1 ∧ I64 z2 ∧ I64 z3 ∧ I64 z4 ∧ I64 z5)) ∧ (z6 ≠ 0 → z6 = 28 ∨ z6 = 8) := by

  unfold coF at h

  rw [if_pos ⟨hk, hy⟩] at h

  unfold coR at h

  split at h

  · exact ⟨fun e => by omega, fun _ => .inl h.2.2.2.2.2.2⟩

  · rename_i hd

    obtain ⟨h0, h1, h2, h3, h4, h5, h6⟩ := h

    unfold lgE at h6

    split at h6

    · rename_i e

      unfold lgV at h0 h1 h2 h3 h4 h5

      rw [if_pos e] at h0 h1 h2 h3 h4 h5

      obtain ⟨m9, _⟩ := ckE_ok hk

      obtain ⟨⟨a1, a2, a3⟩, ⟨b1, b2, b3⟩, ⟨c1, c2, c3⟩⟩ := smE_ok hs

      have lo := back_point (e0 := x10) (e1 := x12) (e2 := x14) m9.1 hd ⟨Int.le_refl _, a3⟩ ⟨Int.le_refl _, b3⟩ ⟨Int.le_refl _, c3⟩

      have hi := back_point (e0 := x11) (e1 := x13) (e2 := x15) m9.1 hd ⟨a3, Int.le_refl _⟩ ⟨b3, Int.le_refl _⟩ ⟨c3, Int.le_refl _⟩

      rw [← h0, ← h1, ← h2, ← h3, ← h4, ← h5] at lo hi e

      obtain ⟨⟨a1, a2, a3⟩, ⟨b1, b2, b3⟩, ⟨c1, c2, c3⟩⟩ := smE_ok e

      refine ⟨fun _ => ⟨⟨lo.1.1, hi.1.2⟩, ⟨lo.2.1.1, hi.2.1.2⟩, ⟨lo.2.2.1, hi.2.2.2⟩, ?_⟩, fun g => absurd h6 g⟩

      unfold I64; omega

    · exact ⟨fun e => by omega, fun _ => .inr h6⟩

set_option maxHeartbeats 8000000 in

theorem meterCalibrated {x0 x1 x2 x3 x4 x5 x6 x7 x8 x9 x10 x11 x12 x13 x14 x15 x16 x17 x18 x19 x20 x21 x22 x23 x24 x25 : Int} (r0 : (-9223372036854775808) ≤ x0 ∧ x0 ≤ 9223372036854775807) (r1 : (-9223372036854775808) ≤ x1 ∧ x1 ≤ 9223372036854775807) (r2 : (-9223372036854775808) ≤ x2 ∧ x2 ≤ 9223372036854775807) (r3 : (-9223372036854775808) ≤ x3 ∧ x3 ≤ 9223372036854775807) (r4 : (-9223372036854775808) ≤ x4 ∧ x4 ≤ 9223372036854775807) (r5 : (-9223372036854775808) ≤ x5 ∧ x5 ≤ 9223372036854775807) (r6 : (-9223372036854775808) ≤ x6 ∧ x6 ≤ 9223372036854775807) (r7 : (-9223372036854775808) ≤ x7 ∧ x7 ≤ 9223372036854775807) (r8 : (-9223372036854775808) ≤ x8 ∧ x8 ≤ 9223372036854775807) (r9 : (-9223372036854775808) ≤ x9 ∧ x9 ≤ 9223372036854775807) (r10 : (-9223372036854775808) ≤ x10 ∧ x10 ≤ 9223372036854775807) (r11 : (-9223372036854775808) ≤ x11 ∧ x11 ≤ 9223372036854775807) (r12 : (-9223372036854775808) ≤ x12 ∧ x12 ≤ 9223372036854775807) (r13 : (-9223372036854775808) ≤ x13 ∧ x13 ≤ 9223372036854775807) (r14 : (-9223372036854775808) ≤ x14 ∧ x14 ≤ 9223372036854775807) (r15 : (-9223372036854775808) ≤ x15 ∧ x15 ≤ 9223372036854775807) (r16 : (-9223372036854775808) ≤ x16 ∧ x16 ≤ 9223372036854775807) (r17 : (-9223372036854775808) ≤ x17 ∧ x17 ≤ 9223372036854775807) (r18 : (-9223372036854775808) ≤ x18 ∧ x18 ≤ 9223372036854775807) (r19 : (-9223372036854775808) ≤ x19 ∧ x19 ≤ 9223372036854775807) (r20 : (-9223372036854775808) ≤ x20 ∧ x20 ≤ 9223372036854775807) (r21 : (-9223372036854775808) ≤ x21 ∧ x21 ≤ 9223372036854775807) (r22 : (-9223372036854775808) ≤ x22 ∧ x22 ≤ 9223372036854775807) (r23 : (-9223372036854775808) ≤ x23 ∧ x23 ≤ 9223372036854775807) (r24 : (-9223372036854775808) ≤ x24 ∧ x24 ≤ 9223372036854775807) (r25 : (-9223372036854775808) ≤ x25 ∧ x25 ≤ 9223372036854775807) :

    Spec Tryz.prog etalonlaw06_MeterCalibrated_s ⟨[x0, x1, x2, x3, x4, x5, x6, x7, x8, x9, x10, x11, x12, x13, x14, x15, x16, x17, x18, x19, x20, x21, x22, x23, x24, x25], [], []⟩ [] [true] [] := by

  obtain ⟨u, rfl, ha⟩ := awake

  obtain ⟨y0, y1, y2, y3, y4, y5, y6, hy, hS⟩ := seen_full r10 r11 r12 r13 r14 r15 r16 r17 r18 r19 r20 r21 r22 r23 r24 r25

  obtain ⟨g0, g1, g2, g3, g4, g5⟩ := seR_rng hy

  obtain ⟨z0, z1, z2, z3, z4, z5, z6, hz, hC⟩ := corrected_full r10 r11 r12 r13 r14 r15 r16 r17 r18 r19 g0 g1 g2 g3 g4 g5

  obtain ⟨m0, m1, m2, m3, m4, m5, m6, m7, m8, m9, me, hm, hM⟩ := chained_p r0 r1 r2 r3 r4 r5 r6 r7 r8 r9 r10 r11 r12 r13 r14 r15 r16 r17 r18 r19

  obtain ⟨k0, k1, k2, k3, k4, k5, k6, k7, k8, k9⟩ := chF_rng hm

  obtain ⟨p0, p1, p2, p3, p4, p5, p6, hp, hP⟩ := seen_full k0 k1 k2 k3 k4 k5 k6 k7 k8 k9 r20 r21 r22 r23 r24 r25

  obtain ⟨q0, q1, q2, q3, q4, q5, q6, hq, hQ⟩ := seen_full r0 r1 r2 r3 r4 r5 r6 r7 r8 r9 g0 g1 g2 g3 g4 g5

  have hi : y6 = 0 → me = 0 → p6 = 0 → q6 = 0 → Spec Tryz.prog etalonlaw06_in_s ⟨[p0, p1, p2, p3, p4, p5, q0, q1, q2, q3, q4, q5], [], []⟩ [] [true] [] := fun ey em ep eq => by

    subst ey em ep eq

    obtain ⟨e0, e1, e2, e3, e4, e5⟩ := seR_rng hp

    obtain ⟨f0, f1, f2, f3, f4, f5⟩ := seR_rng hq

    obtain ⟨bk, bs, _, b0, b1, b2, b3, b4, b5⟩ := seR_zero hy

    obtain ⟨ck, cs, _, c0, c1, c2, c3, c4, c5⟩ := seR_zero hp

    obtain ⟨dk, ds, _, d0, d1, d2, d3, d4, d5⟩ := seR_zero hq

    obtain ⟨_, _, k, hk, t0, t1, t2, t3, t4, t5, t6, t7, t8, t9⟩ := chF_zero hm

    obtain ⟨n9, _⟩ := ckE_ok bk

    obtain ⟨o9, _⟩ := ckE_ok ck

    obtain ⟨w9, _⟩ := ckE_ok dk

    obtain ⟨⟨_, _, s0⟩, ⟨_, _, s1⟩, ⟨_, _, s2⟩⟩ := smE_ok bs

    have u0 := chain_row (A := x9) (M := m9) w9.1 n9.1 o9.1 hk s0 s1 s2 t0 t1 t2 t9

    have u1 := chain_row (A := x9) (M := m9) w9.1 n9.1 o9.1 hk s0 s1 s2 t3 t4 t5 t9

    have u2 := chain_row (A := x9) (M := m9) w9.1 n9.1 o9.1 hk s0 s1 s2 t6 t7 t8 t9

    rw [← b0, ← b1, ← b2, ← b3, ← b4, ← b5] at u0 u1 u2

    refine in_true e0 e1 e2 e3 e4 e5 f0 f1 f2 f3 f4 f5 ?_ ?_ ?_ ?_ ?_ ?_

    · rw [c0, d0]; exact u0.1

    · rw [c1, d1]; exact u0.2

    · rw [c2, d2]; exact u1.1

    · rw [c3, d3]; exact u1.2

    · rw [c4, d4]; exact u2.1

    · rw [c5, d5]; exact u2.2

  obtain ⟨u, rfl, hs⟩ := mcw r0 r1 r2 r3 r4 r5 r6 r7 r8 r9 r10 r11 r12 r13 r14 r15 r16 r17 r18 r19 r20 r21 r22 r23 r24 r25 (R := (· = true)) ⟨true, ha, fun _ => ⟨_, _, _, _, _, _, _, hS, fun ey => by

    have ey := eq_of_beq ey

    have hb : (z6 = 0 → (z0 ≤ x20 ∧ x21 ≤ z1) ∧ (z2 ≤ x22 ∧ x23 ≤ z3) ∧ (z4 ≤ x24 ∧ x25 ≤ z5) ∧ (I64 z0 ∧ I64 z1 ∧ I64 z2 ∧ I64 z3 ∧ I64 z4 ∧ I64 z5)) ∧ (z6 ≠ 0 → z6 = 28 ∨ z6 = 8) := by

      subst ey

      obtain ⟨bk, bs, be, b0, b1, b2, b3, b4, b5⟩ := seR_zero hy

      rw [b0, b1, b2, b3, b4, b5] at hz

      exact back_in bk bs be hz

    refine ⟨_, _, _, _, _, _, _, hC, fun ez => ?_, fun ez => ⟨fun e28 => ?_, fun e28 => ⟨fun e8 => ?_, fun e8 => ?_⟩⟩⟩

    · obtain ⟨⟨w0, w1⟩, ⟨w2, w3⟩, ⟨w4, w5⟩, i0, i1, i2, i3, i4, i5⟩ := hb.1 (eq_of_beq ez)

      refine ⟨_, in_true r20 r21 r22 r23 r24 r25 i0 i1 i2 i3 i4 i5 w0 w1 w2 w3 w4 w5, fun _ => ?_, fun h => by cases h⟩

      exact ⟨_, _, _, _, _, _, _, _, _, _, _, hM, _, _, _, _, _, _, _, hP, _, _, _, _, _, _, _, hQ, fun em => ⟨fun ep => ⟨fun eq => ⟨_, hi ey (eq_of_beq em) (eq_of_beq ep) (eq_of_beq eq), rfl⟩, fun _ => rfl⟩, fun _ => rfl⟩, fun _ => rfl⟩

    · exact ⟨_, _, _, _, _, _, _, _, _, _, _, hM, _, _, _, _, _, _, _, hP, _, _, _, _, _, _, _, hQ, fun em => ⟨fun ep => ⟨fun eq => ⟨_, hi ey (eq_of_beq em) (eq_of_beq ep) (eq_of_beq eq), rfl⟩, fun _ => rfl⟩, fun _ => rfl⟩, fun _ => rfl⟩

    · exact ⟨_, _, _, _, _, _, _, _, _, _, _, hM, _, _, _, _, _, _, _, hP, _, _, _, _, _, _, _, hQ, fun em => ⟨fun ep => ⟨fun eq => ⟨_, hi ey (eq_of_beq em) (eq_of_beq ep) (eq_of_beq eq), rfl⟩, fun _ => rfl⟩, fun _ => rfl⟩, fun _ => rfl⟩

    · rcases hb.2 (ne_dec ez) with h | h

      · exact absurd h (ne28 e28)

      · exact absurd h (ne28 e8), fun ey => by

    obtain ⟨h0, h1, h2, h3, h4, h5⟩ := seR_err hy (ne_dec ey)

    rw [h0, h1, h2, h3, h4, h5]; rfl⟩, fun h => by cases h⟩

  exact hs

end Go.Proofs.YtpjcjdhidfnbbaaGreat.Ev
