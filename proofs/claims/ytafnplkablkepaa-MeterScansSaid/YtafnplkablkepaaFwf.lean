/- MeterScans. -/
import Derived.Test.YtafnplkablkepaaFwe
import Derived.Test.YtafnplkablkepaaFaw6
namespace Go.Proofs.Ytafnplkablkepaa.Ev
set_option linter.unusedSimpArgs false
open Go Go.RowKit
set_option linter.unusedVariables false
set_option maxRecDepth 100000
def etalonlaw06_MeterScans_s : Sig := ⟨3, ⟨3, 0, 1⟩, ⟨0, 1, 0⟩, [(.agg [(.asl 0 (.var 0)), (.int .i64 (.var 1)), (.int .i64 (.var 2))])], [(some ⟨[], 65, true, false, (some ⟨(.var 0), [(.float .f32)], [(.avar 0)]⟩)⟩)], (.bool (.var 0)), []⟩

def msc_t : Tr :=
  (.call etalonlaw06_awake_s ⟨[], [], []⟩ ⟨[], [(.var 0)], []⟩ ⟨7, [], [], [none, none], (.bool (.var 0)), []⟩
  (.ite (.var 0)
  (.ite (.icmp .leq (.var 0) (.lit 70))
   (.call meter_CheckScan_s ⟨[(.var 0), (.var 1), (.var 2)], [], [(.avar 0)]⟩ ⟨[(.var 0), (.var 1), (.var 2), (.var 3), (.var 4)], [], [(.avar 0)]⟩ ⟨8, [(.agg [(.asl 5 (.var 0)), (.int .i64 (.var 1)), (.int .i64 (.var 2))])], [5], [none, none, none, none, none, (some ⟨[], 65, false, true, (some ⟨(.var 0), [(.float .f32)], [(.avar 0)]⟩)⟩)], (.tuple [(.int .i64 (.var 3)), (.int .i64 (.var 4))]), []⟩
    (.call meter_Saturated_s ⟨[(.var 0), (.var 1), (.var 2)], [], [(.avar 0)]⟩ ⟨[(.var 0), (.var 1), (.var 2), (.var 5), (.var 6)], [], [(.avar 0), (.avar 1)]⟩ ⟨10, [(.agg [(.asl 9 (.var 0)), (.int .i64 (.var 1)), (.int .i64 (.var 2))])], [9], [none, none, none, none, none, none, none, none, none, (some ⟨[], 65, false, true, (some ⟨(.var 0), [(.float .f32)], [(.avar 0)]⟩)⟩)], (.tuple [(.asl 10 (.var 5)), (.int .i64 (.var 6))]), [(some ⟨[], 3, false, true, (some ⟨(.var 5), [(.int .i64)], [(.avar 1)]⟩)⟩)]⟩
    (.rng 5 0 70 (.call meter_SumsOf_s ⟨[(.var 0), (.var 1), (.var 2)], [], [(.avar 0)]⟩ ⟨[(.var 0), (.var 1), (.var 2), (.var 7), (.var 8), (.var 9), (.var 10), (.var 11), (.var 12), (.var 13)], [], [(.avar 0)]⟩ ⟨11, [(.agg [(.asl 14 (.var 0)), (.int .i64 (.var 1)), (.int .i64 (.var 2))])], [14], [none, none, none, none, none, none, none, none, none, none, none, none, none, none, (some ⟨[], 65, false, true, (some ⟨(.var 0), [(.float .f32)], [(.avar 0)]⟩)⟩)], (.tuple [(.agg [(.int .i64 (.var 7)), (.int .i64 (.var 8)), (.int .i64 (.var 9)), (.int .i64 (.var 10)), (.int .i64 (.var 11)), (.int .i64 (.var 12))]), (.int .i64 (.var 13))]), []⟩
    (.call etalonref06_CheckScan_s ⟨[(.var 0), (.var 1), (.var 2)], [], [(.avar 0)]⟩ ⟨[(.var 0), (.var 1), (.var 2), (.var 14), (.var 15)], [], [(.avar 0)]⟩ ⟨12, [(.agg [(.asl 0 (.var 0)), (.int .i64 (.var 1)), (.int .i64 (.var 2))])], [0], [(some ⟨[], 65, true, false, (some ⟨(.var 0), [(.float .f32)], [(.avar 0)]⟩)⟩), none, none, none, none, none, none, none, none, none, none, none, none, none, none, none], (.tuple [(.int .i64 (.var 14)), (.int .i64 (.var 15))]), []⟩
    (.ite (.icmp .eql (.var 4) (.var 15))
    (.ite (.icmp .eql (.var 3) (.var 14))
     (.ite (.icmp .eql (.var 15) (.lit 0))
      (.call etalonref06_SumsOf_s ⟨[(.var 0), (.var 1), (.var 2)], [], [(.avar 0)]⟩ ⟨[(.var 0), (.var 1), (.var 2), (.var 16), (.var 17), (.var 18), (.var 19), (.var 20), (.var 21), (.var 22)], [], [(.avar 0)]⟩ ⟨13, [(.agg [(.asl 0 (.var 0)), (.int .i64 (.var 1)), (.int .i64 (.var 2))])], [0], [(some ⟨[], 65, true, false, (some ⟨(.var 0), [(.float .f32)], [(.avar 0)]⟩)⟩), none, none, none, none, none, none, none, none, none, none, none, none, none, none, none], (.tuple [(.agg [(.int .i64 (.var 16)), (.int .i64 (.var 17)), (.int .i64 (.var 18)), (.int .i64 (.var 19)), (.int .i64 (.var 20)), (.int .i64 (.var 21))]), (.int .i64 (.var 22))]), []⟩
       (.ite (.icmp .eql (.var 6) (.lit 0))
       (.call etalonref06_Saturated_s ⟨[(.var 0), (.var 1), (.var 2)], [], [(.avar 0)]⟩ ⟨[(.var 0), (.var 1), (.var 2), (.var 23)], [], [(.avar 0), (.avar 2)]⟩ ⟨15, [(.agg [(.asl 0 (.var 0)), (.int .i64 (.var 1)), (.int .i64 (.var 2))])], [0], [(some ⟨[], 65, true, false, (some ⟨(.var 0), [(.float .f32)], [(.avar 0)]⟩)⟩), none, none, none, none, none, none, none, none, none, none, none, none, none, none, none, none], (.asl 17 (.var 23)), [(some ⟨[], 3, false, true, (some ⟨(.var 23), [(.int .i64)], [(.avar 2)]⟩)⟩)]⟩
        (.rng 23 0 64 (.ite (.icmp .eql (.var 5) (.var 23))
        (.loop ⟨14, [0, 1, 0, 1, 1], [(.asl 10 (.var 5)), (.asl 17 (.var 23)), (.tuple []), (.tuple []), (.bool (.lit false)), (.int .i64 (.lit 0)), (.asl 10 (.var 5)), (.int .i64 (.var 5)), (.asl 17 (.var 23)), (.int .i64 (.var 23)), (.bool (.icmp .neq (.var 5) (.var 23))), (.tuple []), (.tuple []), (.tuple []), (.tuple []), (.tuple []), (.tuple []), (.tuple []), (.tuple []), (.tuple []), (.tuple []), (.tuple []), (.tuple []), (.tuple []), (.tuple []), (.tuple [])], [(some ⟨[], 65, true, false, (some ⟨(.var 0), [(.float .f32)], [(.avar 0)]⟩)⟩), (some ⟨[(.asl 0 (.var 0)), (.int .i64 (.var 1)), (.int .i64 (.var 2))], 24, false, false, none⟩), (some ⟨[(.asl 5 (.var 0)), (.int .i64 (.var 1)), (.int .i64 (.var 2))], 24, false, false, none⟩), (some ⟨[(.asl 5 (.var 0)), (.int .i64 (.var 1)), (.int .i64 (.var 2))], 24, false, false, none⟩), (some ⟨[], 65, false, false, none⟩), (some ⟨[], 65, false, true, (some ⟨(.var 0), [(.float .f32)], [(.avar 0)]⟩)⟩), (some ⟨[(.asl 9 (.var 0)), (.int .i64 (.var 1)), (.int .i64 (.var 2))], 24, false, false, none⟩), (some ⟨[(.asl 9 (.var 0)), (.int .i64 (.var 1)), (.int .i64 (.var 2))], 24, false, false, none⟩), (some ⟨[], 65, false, false, none⟩), (some ⟨[], 65, false, true, (some ⟨(.var 0), [(.float .f32)], [(.avar 0)]⟩)⟩), (some ⟨[], 3, false, true, (some ⟨(.var 5), [(.int .i64)], [(.avar 1)]⟩)⟩), (some ⟨[(.asl 14 (.var 0)), (.int .i64 (.var 1)), (.int .i64 (.var 2))], 24, false, false, none⟩), (some ⟨[(.asl 14 (.var 0)), (.int .i64 (.var 1)), (.int .i64 (.var 2))], 24, false, false, none⟩), (some ⟨[], 65, false, false, none⟩), (some ⟨[], 65, false, true, (some ⟨(.var 0), [(.float .f32)], [(.avar 0)]⟩)⟩), (some ⟨[(.int .i64 (.var 7)), (.int .i64 (.var 8)), (.int .i64 (.var 9)), (.int .i64 (.var 10)), (.int .i64 (.var 11)), (.int .i64 (.var 12))], 36, false, false, none⟩), (some ⟨[(.int .i64 (.var 16)), (.int .i64 (.var 17)), (.int .i64 (.var 18)), (.int .i64 (.var 19)), (.int .i64 (.var 20)), (.int .i64 (.var 21))], 36, false, false, none⟩), (some ⟨[], 3, false, true, (some ⟨(.var 23), [(.int .i64)], [(.avar 2)]⟩)⟩)], [], [(.asl 10 (.var 5)), (.asl 17 (.var 23)), (.tuple []), (.tuple []), (.bool (.lit false)), (.int .i64 (.var 24)), (.asl 10 (.var 5)), (.int .i64 (.var 5)), (.asl 17 (.var 23)), (.int .i64 (.var 23)), (.bool (.icmp .neq (.var 5) (.var 23))), (.any 11), (.any 12), (.any 13), (.any 14), (.any 15), (.any 16), (.any 17), (.any 18), (.any 19), (.any 20), (.any 21), (.any 22), (.any 23), (.any 24), (.any 25)], [(some ⟨[], 65, true, false, (some ⟨(.var 0), [(.float .f32)], [(.avar 0)]⟩)⟩), (some ⟨[(.asl 0 (.var 0)), (.int .i64 (.var 1)), (.int .i64 (.var 2))], 24, false, false, none⟩), (some ⟨[(.asl 5 (.var 0)), (.int .i64 (.var 1)), (.int .i64 (.var 2))], 24, false, false, none⟩), (some ⟨[(.asl 5 (.var 0)), (.int .i64 (.var 1)), (.int .i64 (.var 2))], 24, false, false, none⟩), (some ⟨[], 65, false, false, none⟩), (some ⟨[], 65, false, true, (some ⟨(.var 0), [(.float .f32)], [(.avar 0)]⟩)⟩), (some ⟨[(.asl 9 (.var 0)), (.int .i64 (.var 1)), (.int .i64 (.var 2))], 24, false, false, none⟩), (some ⟨[(.asl 9 (.var 0)), (.int .i64 (.var 1)), (.int .i64 (.var 2))], 24, false, false, none⟩), (some ⟨[], 65, false, false, none⟩), (some ⟨[], 65, false, true, (some ⟨(.var 0), [(.float .f32)], [(.avar 0)]⟩)⟩), (some ⟨[], 3, false, true, (some ⟨(.var 5), [(.int .i64)], [(.avar 1)]⟩)⟩), (some ⟨[(.asl 14 (.var 0)), (.int .i64 (.var 1)), (.int .i64 (.var 2))], 24, false, false, none⟩), (some ⟨[(.asl 14 (.var 0)), (.int .i64 (.var 1)), (.int .i64 (.var 2))], 24, false, false, none⟩), (some ⟨[], 65, false, false, none⟩), (some ⟨[], 65, false, true, (some ⟨(.var 0), [(.float .f32)], [(.avar 0)]⟩)⟩), (some ⟨[(.int .i64 (.var 7)), (.int .i64 (.var 8)), (.int .i64 (.var 9)), (.int .i64 (.var 10)), (.int .i64 (.var 11)), (.int .i64 (.var 12))], 36, false, false, none⟩), (some ⟨[(.int .i64 (.var 16)), (.int .i64 (.var 17)), (.int .i64 (.var 18)), (.int .i64 (.var 19)), (.int .i64 (.var 20)), (.int .i64 (.var 21))], 36, false, false, none⟩), (some ⟨[], 3, false, true, (some ⟨(.var 23), [(.int .i64)], [(.avar 2)]⟩)⟩)], [], ⟨1, 0, 0⟩, ⟨[(.lit 0)], [], []⟩, []⟩
         (.rng 24 0 70 (.ite (.icmp .leq (.var 5) (.var 24))
          (.out 1 ⟨[], [], []⟩ [])
          (.ite (.icmp .leq (.var 23) (.var 24))
           .nil
           (.ite (.icmp .eql (.sel (.avar 1) (.var 24)) (.sel (.avar 2) (.var 24)))
            (.next ⟨[(.bin .addI (.var 24) (.lit 1))], [], []⟩ [])
            (.out 0 ⟨[], [], []⟩ [])))))
         (.ex (.ret, [(.asl 10 (.var 5)), (.asl 17 (.var 23)), (.tuple []), (.tuple []), (.bool (.lit false)), (.any 5), (.asl 10 (.var 5)), (.int .i64 (.var 5)), (.asl 17 (.var 23)), (.int .i64 (.var 23)), (.bool (.icmp .neq (.var 5) (.var 23))), (.any 11), (.any 12), (.any 13), (.any 14), (.any 15), (.any 16), (.any 17), (.any 18), (.any 19), (.any 20), (.any 21), (.any 22), (.any 23), (.any 24), (.any 25)], [(some ⟨[], 65, true, false, (some ⟨(.var 0), [(.float .f32)], [(.avar 0)]⟩)⟩), (some ⟨[(.asl 0 (.var 0)), (.int .i64 (.var 1)), (.int .i64 (.var 2))], 24, false, false, none⟩), (some ⟨[(.asl 5 (.var 0)), (.int .i64 (.var 1)), (.int .i64 (.var 2))], 24, false, false, none⟩), (some ⟨[(.asl 5 (.var 0)), (.int .i64 (.var 1)), (.int .i64 (.var 2))], 24, false, false, none⟩), (some ⟨[], 65, false, false, none⟩), (some ⟨[], 65, false, true, (some ⟨(.var 0), [(.float .f32)], [(.avar 0)]⟩)⟩), (some ⟨[(.asl 9 (.var 0)), (.int .i64 (.var 1)), (.int .i64 (.var 2))], 24, false, false, none⟩), (some ⟨[(.asl 9 (.var 0)), (.int .i64 (.var 1)), (.int .i64 (.var 2))], 24, false, false, none⟩), (some ⟨[], 65, false, false, none⟩), (some ⟨[], 65, false, true, (some ⟨(.var 0), [(.float .f32)], [(.avar 0)]⟩)⟩), (some ⟨[], 3, false, true, (some ⟨(.var 5), [(.int .i64)], [(.avar 1)]⟩)⟩), (some ⟨[(.asl 14 (.var 0)), (.int .i64 (.var 1)), (.int .i64 (.var 2))], 24, false, false, none⟩), (some ⟨[(.asl 14 (.var 0)), (.int .i64 (.var 1)), (.int .i64 (.var 2))], 24, false, false, none⟩), (some ⟨[], 65, false, false, none⟩), (some ⟨[], 65, false, true, (some ⟨(.var 0), [(.float .f32)], [(.avar 0)]⟩)⟩), (some ⟨[(.int .i64 (.var 7)), (.int .i64 (.var 8)), (.int .i64 (.var 9)), (.int .i64 (.var 10)), (.int .i64 (.var 11)), (.int .i64 (.var 12))], 36, false, false, none⟩), (some ⟨[(.int .i64 (.var 16)), (.int .i64 (.var 17)), (.int .i64 (.var 18)), (.int .i64 (.var 19)), (.int .i64 (.var 20)), (.int .i64 (.var 21))], 36, false, false, none⟩), (some ⟨[], 3, false, true, (some ⟨(.var 23), [(.int .i64)], [(.avar 2)]⟩)⟩)], []) ⟨0, 0, 0⟩
         (.ret ⟨[], [(.lit false)], []⟩ [])
         (.ex ((.exit 0), [(.asl 10 (.var 5)), (.asl 17 (.var 23)), (.tuple []), (.tuple []), (.bool (.lit false)), (.any 5), (.asl 10 (.var 5)), (.int .i64 (.var 5)), (.asl 17 (.var 23)), (.int .i64 (.var 23)), (.bool (.icmp .neq (.var 5) (.var 23))), (.any 11), (.any 12), (.any 13), (.any 14), (.any 15), (.any 16), (.any 17), (.any 18), (.any 19), (.any 20), (.any 21), (.any 22), (.any 23), (.any 24), (.any 25)], [(some ⟨[], 65, true, false, (some ⟨(.var 0), [(.float .f32)], [(.avar 0)]⟩)⟩), (some ⟨[(.asl 0 (.var 0)), (.int .i64 (.var 1)), (.int .i64 (.var 2))], 24, false, false, none⟩), (some ⟨[(.asl 5 (.var 0)), (.int .i64 (.var 1)), (.int .i64 (.var 2))], 24, false, false, none⟩), (some ⟨[(.asl 5 (.var 0)), (.int .i64 (.var 1)), (.int .i64 (.var 2))], 24, false, false, none⟩), (some ⟨[], 65, false, false, none⟩), (some ⟨[], 65, false, true, (some ⟨(.var 0), [(.float .f32)], [(.avar 0)]⟩)⟩), (some ⟨[(.asl 9 (.var 0)), (.int .i64 (.var 1)), (.int .i64 (.var 2))], 24, false, false, none⟩), (some ⟨[(.asl 9 (.var 0)), (.int .i64 (.var 1)), (.int .i64 (.var 2))], 24, false, false, none⟩), (some ⟨[], 65, false, false, none⟩), (some ⟨[], 65, false, true, (some ⟨(.var 0), [(.float .f32)], [(.avar 0)]⟩)⟩), (some ⟨[], 3, false, true, (some ⟨(.var 5), [(.int .i64)], [(.avar 1)]⟩)⟩), (some ⟨[(.asl 14 (.var 0)), (.int .i64 (.var 1)), (.int .i64 (.var 2))], 24, false, false, none⟩), (some ⟨[(.asl 14 (.var 0)), (.int .i64 (.var 1)), (.int .i64 (.var 2))], 24, false, false, none⟩), (some ⟨[], 65, false, false, none⟩), (some ⟨[], 65, false, true, (some ⟨(.var 0), [(.float .f32)], [(.avar 0)]⟩)⟩), (some ⟨[(.int .i64 (.var 7)), (.int .i64 (.var 8)), (.int .i64 (.var 9)), (.int .i64 (.var 10)), (.int .i64 (.var 11)), (.int .i64 (.var 12))], 36, false, false, none⟩), (some ⟨[(.int .i64 (.var 16)), (.int .i64 (.var 17)), (.int .i64 (.var 18)), (.int .i64 (.var 19)), (.int .i64 (.var 20)), (.int .i64 (.var 21))], 36, false, false, none⟩), (some ⟨[], 3, false, true, (some ⟨(.var 23), [(.int .i64)], [(.avar 2)]⟩)⟩)], []) ⟨0, 0, 0⟩
         (.ite (.icmp .eql (.var 13) (.var 22))
          (.ret ⟨[], [(.and (.and (.icmp .eql (.var 7) (.var 16)) (.icmp .eql (.var 8) (.var 17))) (.and (.and (.icmp .eql (.var 9) (.var 18)) (.icmp .eql (.var 10) (.var 19))) (.and (.icmp .eql (.var 11) (.var 20)) (.icmp .eql (.var 12) (.var 21)))))], []⟩ [])
          (.ret ⟨[], [(.lit false)], []⟩ []))
         .nil)))
        (.ret ⟨[], [(.lit false)], []⟩ []))))
       (.ret ⟨[], [(.lit false)], []⟩ [])))
      (.ite (.icmp .eql (.var 6) (.var 15))
       (.ite (.icmp .eql (.var 13) (.var 15))
        (.ite (.icmp .eql (.var 5) (.lit 0))
         (.ret ⟨[], [(.and (.and (.icmp .eql (.var 7) (.lit 0)) (.icmp .eql (.var 8) (.lit 0))) (.and (.and (.icmp .eql (.var 9) (.lit 0)) (.icmp .eql (.var 10) (.lit 0))) (.and (.icmp .eql (.var 11) (.lit 0)) (.icmp .eql (.var 12) (.lit 0)))))], []⟩ [])
         (.ret ⟨[], [(.lit false)], []⟩ []))
        (.ret ⟨[], [(.lit false)], []⟩ []))
       (.ret ⟨[], [(.lit false)], []⟩ [])))
     (.ret ⟨[], [(.lit false)], []⟩ []))
    (.ret ⟨[], [(.lit false)], []⟩ [])))))))
   (.ret ⟨[], [(.lit true)], []⟩ []))
  (.ret ⟨[], [(.lit false)], []⟩ [])))
theorem msc {x0 x1 x2 : Int} {f0 : Int → Int} (r0 : 0 ≤ x0 ∧ x0 ≤ 9223372036854775807) (r1 : (-9223372036854775808) ≤ x1 ∧ x1 ≤ 9223372036854775807) (r2 : (-9223372036854775808) ≤ x2 ∧ x2 ≤ 9223372036854775807) {R : Bool → Prop}
  (H : (∃ u0 : Bool, Spec Try.prog etalonlaw06_awake_s ⟨[], [], []⟩ [] [u0] [] ∧
   ((u0 = true → ((decide ((x0 : Int) ≤ 70) = true → (∃ v3 : Int, ∃ v4 : Int, Spec Try.prog meter_CheckScan_s ⟨[x0, x1, x2], [], [f0]⟩ [v3, v4] [] [] ∧
     (∃ v5 : Int, ∃ v6 : Int, ∃ g1 : Int → Int, Spec Try.prog meter_Saturated_s ⟨[x0, x1, x2], [], [f0]⟩ [v5, v6] [] [g1] ∧
     ((0 ≤ (v5 : Int) ∧ (v5 : Int) ≤ 70) ∧ (∃ v7 : Int, ∃ v8 : Int, ∃ v9 : Int, ∃ v10 : Int, ∃ v11 : Int, ∃ v12 : Int, ∃ v13 : Int, Spec Try.prog meter_SumsOf_s ⟨[x0, x1, x2], [], [f0]⟩ [v7, v8, v9, v10, v11, v12, v13] [] [] ∧
     (∃ v14 : Int, ∃ v15 : Int, Spec Try.prog etalonref06_CheckScan_s ⟨[x0, x1, x2], [], [f0]⟩ [v14, v15] [] [] ∧
     ((((v4 : Int) == v15) = true → ((((v3 : Int) == v14) = true → ((((v15 : Int) == 0) = true → (∃ v16 : Int, ∃ v17 : Int, ∃ v18 : Int, ∃ v19 : Int, ∃ v20 : Int, ∃ v21 : Int, ∃ v22 : Int, Spec Try.prog etalonref06_SumsOf_s ⟨[x0, x1, x2], [], [f0]⟩ [v16, v17, v18, v19, v20, v21, v22] [] [] ∧
        ((((v6 : Int) == 0) = true → (∃ v23 : Int, ∃ g2 : Int → Int, Spec Try.prog etalonref06_Saturated_s ⟨[x0, x1, x2], [], [f0]⟩ [v23] [] [g2] ∧
         ((0 ≤ (v23 : Int) ∧ (v23 : Int) ≤ 64) ∧ ((((v5 : Int) == v23) = true → (∃ (I24 : Int → Prop) (rk24 : Int → Nat), I24 (0) ∧
          (∀ x24 : Int, I24 x24 → ((0 ≤ (x24 : Int) ∧ (x24 : Int) ≤ 70) ∧ ((decide ((v5 : Int) ≤ x24) = true → ((((v13 : Int) == v22) = true → R (((((v7 : Int) == v16) && ((v8 : Int) == v17)) && ((((v9 : Int) == v18) && ((v10 : Int) == v19)) && (((v11 : Int) == v20) && ((v12 : Int) == v21)))))) ∧
           (((v13 : Int) == v22) = false → R (false)))) ∧
           (decide ((v5 : Int) ≤ x24) = false → ((decide ((v23 : Int) ≤ x24) = true → False) ∧
            (decide ((v23 : Int) ≤ x24) = false → (((((g1 x24) : Int) == (g2 x24)) = true → (I24 ((x24 + 1)) ∧ rk24 ((x24 + 1)) < rk24 x24)) ∧
             ((((g1 x24) : Int) == (g2 x24)) = false → R (false))))))))))) ∧
         (((v5 : Int) == v23) = false → R (false)))))) ∧
        (((v6 : Int) == 0) = false → R (false))))) ∧
       (((v15 : Int) == 0) = false → ((((v6 : Int) == v15) = true → ((((v13 : Int) == v15) = true → ((((v5 : Int) == 0) = true → R (((((v7 : Int) == 0) && ((v8 : Int) == 0)) && ((((v9 : Int) == 0) && ((v10 : Int) == 0)) && (((v11 : Int) == 0) && ((v12 : Int) == 0)))))) ∧
          (((v5 : Int) == 0) = false → R (false)))) ∧
         (((v13 : Int) == v15) = false → R (false)))) ∧
        (((v6 : Int) == v15) = false → R (false)))))) ∧
      (((v3 : Int) == v14) = false → R (false)))) ∧
     (((v4 : Int) == v15) = false → R (false))))))))) ∧
    (decide ((x0 : Int) ≤ 70) = false → R (true)))) ∧
   (u0 = false → R (false))))) :
    ∃ u0 : Bool, R u0 ∧ Spec Try.prog etalonlaw06_MeterScans_s ⟨[x0, x1, x2], [], [f0]⟩ [] [u0] [] :=
  Eq.mp (by kernel_rfl) (exV_of (K := fun d => app3 etalonlaw06_MeterScans_s.out R d ∧ Spec Try.prog etalonlaw06_MeterScans_s ⟨[x0, x1, x2], [], [f0]⟩ d.1 d.2.1 d.2.2) (tree_at mixed names S2_ok (S := S2 Try.prog) (lf := 100000) (d := 60) etalonlaw06_MeterScans_s msc_t { ivs := [(0, 0, 9223372036854775807), (1, (-9223372036854775808), 9223372036854775807), (2, (-9223372036854775808), 9223372036854775807)], aivs := [] } ⟨[x0, x1, x2], [], [f0]⟩ rfl (by kernel_rfl) (by kernel_rfl) (by kernel_rfl) ⟨(fc r0 (fc r1 (fc r2 fz))), fz, fz, fz⟩ (R := fun d => app3 etalonlaw06_MeterScans_s.out R d) (Eq.mp (by kernel_rfl) H)))

set_option maxHeartbeats 8000000 in

theorem scans {x0 x1 x2 : Int} {f0 : Int → Int} (r0 : 0 ≤ x0 ∧ x0 ≤ 9223372036854775807) (r1 : (-9223372036854775808) ≤ x1 ∧ x1 ≤ 9223372036854775807) (r2 : (-9223372036854775808) ≤ x2 ∧ x2 ≤ 9223372036854775807) : Spec Try.prog etalonlaw06_MeterScans_s ⟨[x0, x1, x2], [], [f0]⟩ [] [true] [] := by

  obtain ⟨a0, rfl, ha⟩ := awake

  obtain ⟨w, rfl, hs⟩ : ∃ u0 : Bool, u0 = true ∧ Spec Try.prog etalonlaw06_MeterScans_s ⟨[x0, x1, x2], [], [f0]⟩ [] [u0] [] := by

    have cp (h : x0 ≤ 70) := checkScan_p (x0 := x0) (x1 := x1) (x2 := x2) (f0 := f0) ⟨r0.1, by omega⟩ r1 r2

    have cr (h : x0 ≤ 70) := checkScan_r (x0 := x0) (x1 := x1) (x2 := x2) (f0 := f0) ⟨r0.1, by omega⟩ r1 r2

    refine msc (f0 := f0) r0 r1 r2 (R := (· = true)) ⟨true, ha, fun _ => ?_, fun h => by cases h⟩

    simp only [decide_eq_true_eq, decide_eq_false_iff_not, beq_iff_eq, beq_eq_false_iff_ne, ne_eq]

    refine ⟨fun h70 => ?_, fun _ => by trivial⟩

    by_cases hE : (scE x0 x1 x2 f0).2 = 0

    · have G := scn_ok hE

      have g1 := G.four

      have sp := sat_p G hE

      have sr := sat_r G

      obtain ⟨a, b, c, d, e, f, g, hp, hr⟩ := sums_both G hE

      have sb := stT_bd (nOf f0) x2 x0.toNat

      have cp := cp h70; have cr := cr h70

      rw [hE] at cp cr

      generalize stT (nOf f0) x2 x0.toNat = T at *

      refine ⟨_, _, cp, _, _, _, sp, by omega, _, _, _, _, _, _, _, hp, _, _, cr, fun _ => ⟨fun _ => ⟨fun _ => ⟨_, _, _, _, _, _, _, hr, fun _ => ⟨_, _, sr, by omega, fun _ => ?_, fun g => absurd (by trivial) g⟩, fun g => absurd (by trivial) g⟩, fun g => absurd (by trivial) g⟩, fun g => absurd (by trivial) g⟩, fun g => absurd (by trivial) g⟩

      refine ⟨fun i => 0 ≤ i ∧ i ≤ T.1, fun i => (T.1 - i).toNat, ⟨by omega, by omega⟩, ?_⟩

      rintro i ⟨hi, hi'⟩

      exact ⟨by omega, fun _ => ⟨fun _ => by simp, fun g => absurd (by trivial) g⟩, fun g => ⟨fun g' => by omega, fun _ => ⟨fun _ => ⟨⟨by omega, by omega⟩, by show (T.1 - (i + 1)).toNat < (T.1 - i).toNat; omega⟩, fun g => absurd (by trivial) g⟩⟩⟩

    · have sp := sat_bad hE ⟨r0.1, h70⟩ r1 r2

      have hp := sums_bad hE ⟨r0.1, h70⟩ r1 r2

      exact ⟨_, _, cp h70, _, _, _, sp, by omega, _, _, _, _, _, _, _, hp, _, _, cr h70, fun _ => ⟨fun _ => ⟨fun g => absurd g hE, fun _ => ⟨fun _ => ⟨fun _ => ⟨fun _ => by simp, fun g => absurd (by trivial) g⟩, fun g => absurd (by trivial) g⟩, fun g => absurd (by trivial) g⟩⟩, fun g => absurd (by trivial) g⟩, fun g => absurd (by trivial) g⟩

  exact hs

end Go.Proofs.Ytafnplkablkepaa.Ev
