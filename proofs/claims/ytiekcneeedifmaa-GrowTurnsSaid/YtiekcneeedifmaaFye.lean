/- GrowTurns. -/
import Derived.Test.YtiekcneeedifmaaFyd
import Derived.Test.YtiekcneeedifmaaFaw8
namespace Go.Proofs.Ytiekcneeedifmaa.Ev
set_option linter.unusedSimpArgs false
open Go Go.RowKit
set_option linter.unusedVariables false
set_option maxRecDepth 100000
def etalonlaw08_GrowTurns_s : Sig := ⟨3, ⟨2, 0, 1⟩, ⟨0, 1, 0⟩, [(.agg [(.int .i64 (.var 0)), (.asl 0 (.var 1))])], [(some ⟨[], 41, true, false, (some ⟨(.var 1), [(.float .f32)], [(.avar 0)]⟩)⟩)], (.bool (.var 0)), []⟩

def gtu_t : Tr :=
  (.call etalonlaw08_awake_s ⟨[], [], []⟩ ⟨[], [(.var 0)], []⟩ ⟨5, [], [], [none, none], (.bool (.var 0)), []⟩
  (.ite (.var 0)
  (.ite (.icmp .leq (.var 1) (.lit 60))
   (.call grow_CheckSignal_s ⟨[(.var 0), (.var 1)], [], [(.avar 0)]⟩ ⟨[(.var 0), (.var 1), (.var 2), (.var 3)], [], [(.avar 0)]⟩ ⟨6, [(.agg [(.int .i64 (.var 0)), (.asl 5 (.var 1))])], [5], [none, none, none, none, none, (some ⟨[], 41, false, true, (some ⟨(.var 1), [(.float .f32)], [(.avar 0)]⟩)⟩)], (.tuple [(.int .i64 (.var 2)), (.int .i64 (.var 3))]), []⟩
    (.call grow_Turns_s ⟨[(.var 0), (.var 1)], [], [(.avar 0)]⟩ ⟨[(.var 0), (.var 1), (.var 4), (.var 5)], [], [(.avar 0), (.avar 1), (.avar 2), (.avar 3), (.avar 4)]⟩ ⟨8, [(.agg [(.int .i64 (.var 0)), (.asl 9 (.var 1))])], [9], [none, none, none, none, none, none, none, none, none, (some ⟨[], 41, false, true, (some ⟨(.var 1), [(.float .f32)], [(.avar 0)]⟩)⟩)], (.tuple [(.asl 10 (.var 4)), (.int .i64 (.var 5))]), [(some ⟨[], 37, false, true, (some ⟨(.var 4), [.bool, (.int .i64), (.int .i64), (.int .i64)], [(.avar 1), (.avar 2), (.avar 3), (.avar 4)]⟩)⟩)]⟩
    (.rng 4 0 202 (.call etalonref08_CheckSignal_s ⟨[(.var 0), (.var 1)], [], [(.avar 0)]⟩ ⟨[(.var 0), (.var 1), (.var 6), (.var 7)], [], [(.avar 0)]⟩ ⟨9, [(.agg [(.int .i64 (.var 0)), (.asl 0 (.var 1))])], [0], [(some ⟨[], 41, true, false, (some ⟨(.var 1), [(.float .f32)], [(.avar 0)]⟩)⟩), none, none, none, none, none, none, none, none, none, none], (.tuple [(.int .i64 (.var 6)), (.int .i64 (.var 7))]), []⟩
    (.ite (.icmp .eql (.var 2) (.var 6))
    (.ite (.icmp .eql (.var 3) (.var 7))
     (.ite (.icmp .eql (.var 7) (.lit 0))
      (.call etalonref08_Turns_s ⟨[(.var 0), (.var 1)], [], [(.avar 0)]⟩ ⟨[(.var 0), (.var 1), (.var 8)], [], [(.avar 0), (.avar 5), (.avar 6), (.avar 7), (.avar 8)]⟩ ⟨10, [(.agg [(.int .i64 (.var 0)), (.asl 0 (.var 1))])], [0], [(some ⟨[], 41, true, false, (some ⟨(.var 1), [(.float .f32)], [(.avar 0)]⟩)⟩), none, none, none, none, none, none, none, none, none, none], (.asl 11 (.var 8)), [(some ⟨[], 37, false, true, (some ⟨(.var 8), [.bool, (.int .i64), (.int .i64), (.int .i64)], [(.avar 5), (.avar 6), (.avar 7), (.avar 8)]⟩)⟩)]⟩
       (.rng 8 0 140737488355328 (.ite (.icmp .eql (.var 5) (.lit 0))
       (.ite (.icmp .eql (.var 4) (.var 8))
        (.loop ⟨3, [0, 1, 0, 1, 1, 1, 1, 1, 1, 1, 1, 1, 1], [(.agg [(.int .i64 (.var 0)), (.asl 0 (.var 1))]), (.ptr (some ⟨1, 0, none⟩)), (.bool (.lit false)), (.int .i64 (.var 2)), (.int .i64 (.var 3)), (.asl 10 (.var 4)), (.int .i64 (.var 5)), (.int .i64 (.var 6)), (.int .i64 (.var 7)), (.asl 11 (.var 8)), (.int .i64 (.lit 0)), (.bool (.var 0)), (.bool (.not (.var 0))), (.ptr (some ⟨1, 1, none⟩)), (.asl 0 (.var 1)), (.int .i64 (.var 1)), (.bool (.icmp .gtr (.var 1) (.lit 60))), (.bool (.icmp .gtr (.var 1) (.lit 60))), (.tuple []), (.tuple []), (.tuple []), (.tuple []), (.bool (.lit false)), (.bool (.lit false)), (.ptr (some ⟨1, 1, none⟩)), (.asl 0 (.var 1)), (.int .i64 (.var 1)), (.bool (.icmp .gtr (.var 1) (.lit 202))), (.bool (.icmp .gtr (.var 1) (.lit 202))), (.tuple [(.int .i64 (.var 2)), (.int .i64 (.var 3))]), (.agg [(.int .i64 (.var 0)), (.asl 0 (.var 1))]), (.agg [(.int .i64 (.var 0)), (.asl 5 (.var 1))]), (.tuple [(.int .i64 (.var 2)), (.int .i64 (.var 3))]), (.int .i64 (.var 2)), (.int .i64 (.var 3)), (.tuple [(.asl 10 (.var 4)), (.int .i64 (.var 5))]), (.agg [(.int .i64 (.var 0)), (.asl 0 (.var 1))]), (.agg [(.int .i64 (.var 0)), (.asl 9 (.var 1))]), (.tuple [(.asl 10 (.var 4)), (.int .i64 (.var 5))]), (.asl 10 (.var 4)), (.int .i64 (.var 5)), (.tuple [(.int .i64 (.var 6)), (.int .i64 (.var 7))]), (.agg [(.int .i64 (.var 0)), (.asl 0 (.var 1))]), (.tuple [(.int .i64 (.var 6)), (.int .i64 (.var 7))]), (.int .i64 (.var 6)), (.int .i64 (.var 7)), (.int .i64 (.var 2)), (.int .i64 (.var 6)), (.bool (.icmp .neq (.var 2) (.var 6))), (.bool (.icmp .neq (.var 2) (.var 6))), (.int .i64 (.var 3)), (.int .i64 (.var 7)), (.bool (.icmp .neq (.var 3) (.var 7))), (.bool (.icmp .neq (.var 3) (.var 7))), (.int .i64 (.var 7)), (.bool (.icmp .neq (.var 7) (.lit 0))), (.tuple []), (.tuple []), (.tuple []), (.tuple []), (.tuple []), (.tuple []), (.tuple []), (.tuple []), (.agg [(.int .i64 (.var 0)), (.asl 0 (.var 1))]), (.asl 11 (.var 8)), (.int .i64 (.var 5)), (.bool (.icmp .neq (.var 5) (.lit 0))), (.bool (.icmp .neq (.var 5) (.lit 0))), (.asl 10 (.var 4)), (.int .i64 (.var 4)), (.asl 11 (.var 8)), (.int .i64 (.var 8)), (.bool (.icmp .neq (.var 4) (.var 8))), (.bool (.icmp .neq (.var 4) (.var 8))), (.tuple []), (.tuple []), (.tuple []), (.tuple []), (.tuple []), (.tuple []), (.tuple []), (.tuple []), (.tuple []), (.tuple []), (.tuple []), (.tuple []), (.tuple []), (.tuple []), (.tuple []), (.tuple []), (.tuple []), (.tuple []), (.tuple []), (.tuple []), (.tuple []), (.tuple []), (.tuple []), (.tuple []), (.tuple []), (.tuple []), (.tuple []), (.tuple []), (.tuple []), (.tuple []), (.tuple []), (.tuple []), (.tuple []), (.tuple []), (.tuple []), (.tuple []), (.tuple []), (.tuple []), (.tuple []), (.tuple []), (.tuple []), (.tuple []), (.tuple []), (.tuple []), (.tuple []), (.tuple []), (.tuple [])], [(some ⟨[], 41, true, false, (some ⟨(.var 1), [(.float .f32)], [(.avar 0)]⟩)⟩), (some ⟨[(.int .i64 (.var 0)), (.asl 0 (.var 1))], 24, false, false, none⟩), (some ⟨[(.int .i64 (.var 0)), (.asl 5 (.var 1))], 24, false, false, none⟩), (some ⟨[(.int .i64 (.var 0)), (.asl 5 (.var 1))], 24, false, false, none⟩), (some ⟨[], 41, false, false, none⟩), (some ⟨[], 41, false, true, (some ⟨(.var 1), [(.float .f32)], [(.avar 0)]⟩)⟩), (some ⟨[(.int .i64 (.var 0)), (.asl 9 (.var 1))], 24, false, false, none⟩), (some ⟨[(.int .i64 (.var 0)), (.asl 9 (.var 1))], 24, false, false, none⟩), (some ⟨[], 41, false, false, none⟩), (some ⟨[], 41, false, true, (some ⟨(.var 1), [(.float .f32)], [(.avar 0)]⟩)⟩), (some ⟨[], 37, false, true, (some ⟨(.var 4), [.bool, (.int .i64), (.int .i64), (.int .i64)], [(.avar 1), (.avar 2), (.avar 3), (.avar 4)]⟩)⟩), (some ⟨[], 37, false, true, (some ⟨(.var 8), [.bool, (.int .i64), (.int .i64), (.int .i64)], [(.avar 5), (.avar 6), (.avar 7), (.avar 8)]⟩)⟩)], [], [(.agg [(.int .i64 (.var 0)), (.asl 0 (.var 1))]), (.ptr (some ⟨1, 0, none⟩)), (.bool (.lit false)), (.int .i64 (.var 2)), (.int .i64 (.var 3)), (.asl 10 (.var 4)), (.int .i64 (.var 5)), (.int .i64 (.var 6)), (.int .i64 (.var 7)), (.asl 11 (.var 8)), (.int .i64 (.var 9)), (.bool (.var 0)), (.bool (.not (.var 0))), (.ptr (some ⟨1, 1, none⟩)), (.asl 0 (.var 1)), (.int .i64 (.var 1)), (.bool (.icmp .gtr (.var 1) (.lit 60))), (.bool (.icmp .gtr (.var 1) (.lit 60))), (.tuple []), (.tuple []), (.tuple []), (.tuple []), (.bool (.lit false)), (.bool (.lit false)), (.ptr (some ⟨1, 1, none⟩)), (.asl 0 (.var 1)), (.int .i64 (.var 1)), (.bool (.icmp .gtr (.var 1) (.lit 202))), (.bool (.icmp .gtr (.var 1) (.lit 202))), (.tuple [(.int .i64 (.var 2)), (.int .i64 (.var 3))]), (.agg [(.int .i64 (.var 0)), (.asl 0 (.var 1))]), (.agg [(.int .i64 (.var 0)), (.asl 5 (.var 1))]), (.tuple [(.int .i64 (.var 2)), (.int .i64 (.var 3))]), (.int .i64 (.var 2)), (.int .i64 (.var 3)), (.tuple [(.asl 10 (.var 4)), (.int .i64 (.var 5))]), (.agg [(.int .i64 (.var 0)), (.asl 0 (.var 1))]), (.agg [(.int .i64 (.var 0)), (.asl 9 (.var 1))]), (.tuple [(.asl 10 (.var 4)), (.int .i64 (.var 5))]), (.asl 10 (.var 4)), (.int .i64 (.var 5)), (.tuple [(.int .i64 (.var 6)), (.int .i64 (.var 7))]), (.agg [(.int .i64 (.var 0)), (.asl 0 (.var 1))]), (.tuple [(.int .i64 (.var 6)), (.int .i64 (.var 7))]), (.int .i64 (.var 6)), (.int .i64 (.var 7)), (.int .i64 (.var 2)), (.int .i64 (.var 6)), (.bool (.icmp .neq (.var 2) (.var 6))), (.bool (.icmp .neq (.var 2) (.var 6))), (.int .i64 (.var 3)), (.int .i64 (.var 7)), (.bool (.icmp .neq (.var 3) (.var 7))), (.bool (.icmp .neq (.var 3) (.var 7))), (.int .i64 (.var 7)), (.bool (.icmp .neq (.var 7) (.lit 0))), (.tuple []), (.tuple []), (.tuple []), (.tuple []), (.tuple []), (.tuple []), (.tuple []), (.tuple []), (.agg [(.int .i64 (.var 0)), (.asl 0 (.var 1))]), (.asl 11 (.var 8)), (.int .i64 (.var 5)), (.bool (.icmp .neq (.var 5) (.lit 0))), (.bool (.icmp .neq (.var 5) (.lit 0))), (.asl 10 (.var 4)), (.int .i64 (.var 4)), (.asl 11 (.var 8)), (.int .i64 (.var 8)), (.bool (.icmp .neq (.var 4) (.var 8))), (.bool (.icmp .neq (.var 4) (.var 8))), (.any 75), (.any 76), (.any 77), (.any 78), (.any 79), (.any 80), (.any 81), (.any 82), (.any 83), (.any 84), (.any 85), (.any 86), (.any 87), (.any 88), (.any 89), (.any 90), (.any 91), (.any 92), (.any 93), (.any 94), (.any 95), (.any 96), (.any 97), (.any 98), (.any 99), (.any 100), (.any 101), (.any 102), (.any 103), (.any 104), (.any 105), (.any 106), (.any 107), (.any 108), (.any 109), (.any 110), (.any 111), (.any 112), (.any 113), (.any 114), (.any 115), (.any 116), (.any 117), (.any 118), (.any 119), (.any 120), (.any 121)], [(some ⟨[], 41, true, false, (some ⟨(.var 1), [(.float .f32)], [(.avar 0)]⟩)⟩), (some ⟨[(.int .i64 (.var 0)), (.asl 0 (.var 1))], 24, false, false, none⟩), (some ⟨[(.int .i64 (.var 0)), (.asl 5 (.var 1))], 24, false, false, none⟩), (some ⟨[(.int .i64 (.var 0)), (.asl 5 (.var 1))], 24, false, false, none⟩), (some ⟨[], 41, false, false, none⟩), (some ⟨[], 41, false, true, (some ⟨(.var 1), [(.float .f32)], [(.avar 0)]⟩)⟩), (some ⟨[(.int .i64 (.var 0)), (.asl 9 (.var 1))], 24, false, false, none⟩), (some ⟨[(.int .i64 (.var 0)), (.asl 9 (.var 1))], 24, false, false, none⟩), (some ⟨[], 41, false, false, none⟩), (some ⟨[], 41, false, true, (some ⟨(.var 1), [(.float .f32)], [(.avar 0)]⟩)⟩), (some ⟨[], 37, false, true, (some ⟨(.var 4), [.bool, (.int .i64), (.int .i64), (.int .i64)], [(.avar 1), (.avar 2), (.avar 3), (.avar 4)]⟩)⟩), (some ⟨[], 37, false, true, (some ⟨(.var 8), [.bool, (.int .i64), (.int .i64), (.int .i64)], [(.avar 5), (.avar 6), (.avar 7), (.avar 8)]⟩)⟩)], [], ⟨1, 0, 0⟩, ⟨[(.lit 0)], [], []⟩, []⟩
         (.rng 9 0 202 (.ite (.icmp .leq (.var 4) (.var 9))
          (.out 1 ⟨[], [], []⟩ [])
          (.ite (.icmp .leq (.var 8) (.var 9))
           .nil
           (.ite (.icmp .eql (.sel (.avar 1) (.var 9)) (.lit 0))
            (.ite (.icmp .eql (.sel (.avar 5) (.var 9)) (.lit 0))
             (.ite (.icmp .eql (.sel (.avar 2) (.var 9)) (.sel (.avar 6) (.var 9)))
              (.ite (.icmp .eql (.sel (.avar 3) (.var 9)) (.sel (.avar 7) (.var 9)))
               (.ite (.icmp .eql (.sel (.avar 4) (.var 9)) (.sel (.avar 8) (.var 9)))
                (.ite (.icmp .leq (.var 9) (.lit 0))
                 (.next ⟨[(.bin .addI (.var 9) (.lit 1))], [], []⟩ [])
                 (.ite (.icmp .leq (.var 4) (.bin .subI (.var 9) (.lit 1)))
                  .nil
                  (.ite (.icmp .eql (.sel (.avar 1) (.bin .subI (.var 9) (.lit 1))) (.lit 0))
                   (.out 0 ⟨[], [], []⟩ [])
                   (.ite (.icmp .leq (.sel (.avar 4) (.var 9)) (.sel (.avar 4) (.bin .subI (.var 9) (.lit 1))))
                    (.out 0 ⟨[], [], []⟩ [])
                    (.next ⟨[(.bin .addI (.var 9) (.lit 1))], [], []⟩ [])))))
                (.out 0 ⟨[], [], []⟩ []))
               (.out 0 ⟨[], [], []⟩ []))
              (.out 0 ⟨[], [], []⟩ []))
             (.out 0 ⟨[], [], []⟩ []))
            (.ite (.icmp .eql (.sel (.avar 5) (.var 9)) (.lit 0))
             (.out 0 ⟨[], [], []⟩ [])
             (.ite (.icmp .eql (.sel (.avar 2) (.var 9)) (.sel (.avar 6) (.var 9)))
              (.ite (.icmp .eql (.sel (.avar 3) (.var 9)) (.sel (.avar 7) (.var 9)))
               (.ite (.icmp .eql (.sel (.avar 4) (.var 9)) (.sel (.avar 8) (.var 9)))
                (.ite (.icmp .leq (.var 9) (.lit 0))
                 (.next ⟨[(.bin .addI (.var 9) (.lit 1))], [], []⟩ [])
                 (.ite (.icmp .leq (.var 4) (.bin .subI (.var 9) (.lit 1)))
                  .nil
                  (.ite (.icmp .eql (.sel (.avar 1) (.bin .subI (.var 9) (.lit 1))) (.lit 0))
                   (.ite (.icmp .leq (.sel (.avar 4) (.var 9)) (.sel (.avar 4) (.bin .subI (.var 9) (.lit 1))))
                    (.out 0 ⟨[], [], []⟩ [])
                    (.next ⟨[(.bin .addI (.var 9) (.lit 1))], [], []⟩ []))
                   (.out 0 ⟨[], [], []⟩ []))))
                (.out 0 ⟨[], [], []⟩ []))
               (.out 0 ⟨[], [], []⟩ []))
              (.out 0 ⟨[], [], []⟩ [])))))))
         (.ex (.ret, [(.agg [(.int .i64 (.var 0)), (.asl 0 (.var 1))]), (.ptr (some ⟨1, 0, none⟩)), (.bool (.lit false)), (.int .i64 (.var 2)), (.int .i64 (.var 3)), (.asl 10 (.var 4)), (.int .i64 (.var 5)), (.int .i64 (.var 6)), (.int .i64 (.var 7)), (.asl 11 (.var 8)), (.any 10), (.bool (.var 0)), (.bool (.not (.var 0))), (.ptr (some ⟨1, 1, none⟩)), (.asl 0 (.var 1)), (.int .i64 (.var 1)), (.bool (.icmp .gtr (.var 1) (.lit 60))), (.bool (.icmp .gtr (.var 1) (.lit 60))), (.tuple []), (.tuple []), (.tuple []), (.tuple []), (.bool (.lit false)), (.bool (.lit false)), (.ptr (some ⟨1, 1, none⟩)), (.asl 0 (.var 1)), (.int .i64 (.var 1)), (.bool (.icmp .gtr (.var 1) (.lit 202))), (.bool (.icmp .gtr (.var 1) (.lit 202))), (.tuple [(.int .i64 (.var 2)), (.int .i64 (.var 3))]), (.agg [(.int .i64 (.var 0)), (.asl 0 (.var 1))]), (.agg [(.int .i64 (.var 0)), (.asl 5 (.var 1))]), (.tuple [(.int .i64 (.var 2)), (.int .i64 (.var 3))]), (.int .i64 (.var 2)), (.int .i64 (.var 3)), (.tuple [(.asl 10 (.var 4)), (.int .i64 (.var 5))]), (.agg [(.int .i64 (.var 0)), (.asl 0 (.var 1))]), (.agg [(.int .i64 (.var 0)), (.asl 9 (.var 1))]), (.tuple [(.asl 10 (.var 4)), (.int .i64 (.var 5))]), (.asl 10 (.var 4)), (.int .i64 (.var 5)), (.tuple [(.int .i64 (.var 6)), (.int .i64 (.var 7))]), (.agg [(.int .i64 (.var 0)), (.asl 0 (.var 1))]), (.tuple [(.int .i64 (.var 6)), (.int .i64 (.var 7))]), (.int .i64 (.var 6)), (.int .i64 (.var 7)), (.int .i64 (.var 2)), (.int .i64 (.var 6)), (.bool (.icmp .neq (.var 2) (.var 6))), (.bool (.icmp .neq (.var 2) (.var 6))), (.int .i64 (.var 3)), (.int .i64 (.var 7)), (.bool (.icmp .neq (.var 3) (.var 7))), (.bool (.icmp .neq (.var 3) (.var 7))), (.int .i64 (.var 7)), (.bool (.icmp .neq (.var 7) (.lit 0))), (.tuple []), (.tuple []), (.tuple []), (.tuple []), (.tuple []), (.tuple []), (.tuple []), (.tuple []), (.agg [(.int .i64 (.var 0)), (.asl 0 (.var 1))]), (.asl 11 (.var 8)), (.int .i64 (.var 5)), (.bool (.icmp .neq (.var 5) (.lit 0))), (.bool (.icmp .neq (.var 5) (.lit 0))), (.asl 10 (.var 4)), (.int .i64 (.var 4)), (.asl 11 (.var 8)), (.int .i64 (.var 8)), (.bool (.icmp .neq (.var 4) (.var 8))), (.bool (.icmp .neq (.var 4) (.var 8))), (.any 75), (.any 76), (.any 77), (.any 78), (.any 79), (.any 80), (.any 81), (.any 82), (.any 83), (.any 84), (.any 85), (.any 86), (.any 87), (.any 88), (.any 89), (.any 90), (.any 91), (.any 92), (.any 93), (.any 94), (.any 95), (.any 96), (.any 97), (.any 98), (.any 99), (.any 100), (.any 101), (.any 102), (.any 103), (.any 104), (.any 105), (.any 106), (.any 107), (.any 108), (.any 109), (.any 110), (.any 111), (.any 112), (.any 113), (.any 114), (.any 115), (.any 116), (.any 117), (.any 118), (.any 119), (.any 120), (.any 121)], [(some ⟨[], 41, true, false, (some ⟨(.var 1), [(.float .f32)], [(.avar 0)]⟩)⟩), (some ⟨[(.int .i64 (.var 0)), (.asl 0 (.var 1))], 24, false, false, none⟩), (some ⟨[(.int .i64 (.var 0)), (.asl 5 (.var 1))], 24, false, false, none⟩), (some ⟨[(.int .i64 (.var 0)), (.asl 5 (.var 1))], 24, false, false, none⟩), (some ⟨[], 41, false, false, none⟩), (some ⟨[], 41, false, true, (some ⟨(.var 1), [(.float .f32)], [(.avar 0)]⟩)⟩), (some ⟨[(.int .i64 (.var 0)), (.asl 9 (.var 1))], 24, false, false, none⟩), (some ⟨[(.int .i64 (.var 0)), (.asl 9 (.var 1))], 24, false, false, none⟩), (some ⟨[], 41, false, false, none⟩), (some ⟨[], 41, false, true, (some ⟨(.var 1), [(.float .f32)], [(.avar 0)]⟩)⟩), (some ⟨[], 37, false, true, (some ⟨(.var 4), [.bool, (.int .i64), (.int .i64), (.int .i64)], [(.avar 1), (.avar 2), (.avar 3), (.avar 4)]⟩)⟩), (some ⟨[], 37, false, true, (some ⟨(.var 8), [.bool, (.int .i64), (.int .i64), (.int .i64)], [(.avar 5), (.avar 6), (.avar 7), (.avar 8)]⟩)⟩)], []) ⟨0, 0, 0⟩
         (.ret ⟨[], [(.lit false)], []⟩ [])
         (.ex ((.exit 0), [(.agg [(.int .i64 (.var 0)), (.asl 0 (.var 1))]), (.ptr (some ⟨1, 0, none⟩)), (.bool (.lit false)), (.int .i64 (.var 2)), (.int .i64 (.var 3)), (.asl 10 (.var 4)), (.int .i64 (.var 5)), (.int .i64 (.var 6)), (.int .i64 (.var 7)), (.asl 11 (.var 8)), (.any 10), (.bool (.var 0)), (.bool (.not (.var 0))), (.ptr (some ⟨1, 1, none⟩)), (.asl 0 (.var 1)), (.int .i64 (.var 1)), (.bool (.icmp .gtr (.var 1) (.lit 60))), (.bool (.icmp .gtr (.var 1) (.lit 60))), (.tuple []), (.tuple []), (.tuple []), (.tuple []), (.bool (.lit false)), (.bool (.lit false)), (.ptr (some ⟨1, 1, none⟩)), (.asl 0 (.var 1)), (.int .i64 (.var 1)), (.bool (.icmp .gtr (.var 1) (.lit 202))), (.bool (.icmp .gtr (.var 1) (.lit 202))), (.tuple [(.int .i64 (.var 2)), (.int .i64 (.var 3))]), (.agg [(.int .i64 (.var 0)), (.asl 0 (.var 1))]), (.agg [(.int .i64 (.var 0)), (.asl 5 (.var 1))]), (.tuple [(.int .i64 (.var 2)), (.int .i64 (.var 3))]), (.int .i64 (.var 2)), (.int .i64 (.var 3)), (.tuple [(.asl 10 (.var 4)), (.int .i64 (.var 5))]), (.agg [(.int .i64 (.var 0)), (.asl 0 (.var 1))]), (.agg [(.int .i64 (.var 0)), (.asl 9 (.var 1))]), (.tuple [(.asl 10 (.var 4)), (.int .i64 (.var 5))]), (.asl 10 (.var 4)), (.int .i64 (.var 5)), (.tuple [(.int .i64 (.var 6)), (.int .i64 (.var 7))]), (.agg [(.int .i64 (.var 0)), (.asl 0 (.var 1))]), (.tuple [(.int .i64 (.var 6)), (.int .i64 (.var 7))]), (.int .i64 (.var 6)), (.int .i64 (.var 7)), (.int .i64 (.var 2)), (.int .i64 (.var 6)), (.bool (.icmp .neq (.var 2) (.var 6))), (.bool (.icmp .neq (.var 2) (.var 6))), (.int .i64 (.var 3)), (.int .i64 (.var 7)), (.bool (.icmp .neq (.var 3) (.var 7))), (.bool (.icmp .neq (.var 3) (.var 7))), (.int .i64 (.var 7)), (.bool (.icmp .neq (.var 7) (.lit 0))), (.tuple []), (.tuple []), (.tuple []), (.tuple []), (.tuple []), (.tuple []), (.tuple []), (.tuple []), (.agg [(.int .i64 (.var 0)), (.asl 0 (.var 1))]), (.asl 11 (.var 8)), (.int .i64 (.var 5)), (.bool (.icmp .neq (.var 5) (.lit 0))), (.bool (.icmp .neq (.var 5) (.lit 0))), (.asl 10 (.var 4)), (.int .i64 (.var 4)), (.asl 11 (.var 8)), (.int .i64 (.var 8)), (.bool (.icmp .neq (.var 4) (.var 8))), (.bool (.icmp .neq (.var 4) (.var 8))), (.any 75), (.any 76), (.any 77), (.any 78), (.any 79), (.any 80), (.any 81), (.any 82), (.any 83), (.any 84), (.any 85), (.any 86), (.any 87), (.any 88), (.any 89), (.any 90), (.any 91), (.any 92), (.any 93), (.any 94), (.any 95), (.any 96), (.any 97), (.any 98), (.any 99), (.any 100), (.any 101), (.any 102), (.any 103), (.any 104), (.any 105), (.any 106), (.any 107), (.any 108), (.any 109), (.any 110), (.any 111), (.any 112), (.any 113), (.any 114), (.any 115), (.any 116), (.any 117), (.any 118), (.any 119), (.any 120), (.any 121)], [(some ⟨[], 41, true, false, (some ⟨(.var 1), [(.float .f32)], [(.avar 0)]⟩)⟩), (some ⟨[(.int .i64 (.var 0)), (.asl 0 (.var 1))], 24, false, false, none⟩), (some ⟨[(.int .i64 (.var 0)), (.asl 5 (.var 1))], 24, false, false, none⟩), (some ⟨[(.int .i64 (.var 0)), (.asl 5 (.var 1))], 24, false, false, none⟩), (some ⟨[], 41, false, false, none⟩), (some ⟨[], 41, false, true, (some ⟨(.var 1), [(.float .f32)], [(.avar 0)]⟩)⟩), (some ⟨[(.int .i64 (.var 0)), (.asl 9 (.var 1))], 24, false, false, none⟩), (some ⟨[(.int .i64 (.var 0)), (.asl 9 (.var 1))], 24, false, false, none⟩), (some ⟨[], 41, false, false, none⟩), (some ⟨[], 41, false, true, (some ⟨(.var 1), [(.float .f32)], [(.avar 0)]⟩)⟩), (some ⟨[], 37, false, true, (some ⟨(.var 4), [.bool, (.int .i64), (.int .i64), (.int .i64)], [(.avar 1), (.avar 2), (.avar 3), (.avar 4)]⟩)⟩), (some ⟨[], 37, false, true, (some ⟨(.var 8), [.bool, (.int .i64), (.int .i64), (.int .i64)], [(.avar 5), (.avar 6), (.avar 7), (.avar 8)]⟩)⟩)], []) ⟨0, 0, 0⟩
         (.ret ⟨[], [(.lit true)], []⟩ [])
         .nil)))
        (.ret ⟨[], [(.lit false)], []⟩ []))
       (.ret ⟨[], [(.lit false)], []⟩ []))))
      (.ite (.icmp .eql (.var 5) (.var 7))
       (.ret ⟨[], [(.icmp .eql (.var 4) (.lit 0))], []⟩ [])
       (.ret ⟨[], [(.lit false)], []⟩ [])))
     (.ret ⟨[], [(.lit false)], []⟩ []))
    (.ret ⟨[], [(.lit false)], []⟩ []))))))
   (.ite (.icmp .leq (.var 1) (.lit 200))
    (.ret ⟨[], [(.lit true)], []⟩ [])
    (.ite (.icmp .leq (.var 1) (.lit 202))
     (.call grow_CheckSignal_s ⟨[(.var 0), (.var 1)], [], [(.avar 0)]⟩ ⟨[(.var 0), (.var 1), (.var 2), (.var 3)], [], [(.avar 0)]⟩ ⟨6, [(.agg [(.int .i64 (.var 0)), (.asl 5 (.var 1))])], [5], [none, none, none, none, none, (some ⟨[], 41, false, true, (some ⟨(.var 1), [(.float .f32)], [(.avar 0)]⟩)⟩)], (.tuple [(.int .i64 (.var 2)), (.int .i64 (.var 3))]), []⟩
      (.call grow_Turns_s ⟨[(.var 0), (.var 1)], [], [(.avar 0)]⟩ ⟨[(.var 0), (.var 1), (.var 4), (.var 5)], [], [(.avar 0), (.avar 1), (.avar 2), (.avar 3), (.avar 4)]⟩ ⟨8, [(.agg [(.int .i64 (.var 0)), (.asl 9 (.var 1))])], [9], [none, none, none, none, none, none, none, none, none, (some ⟨[], 41, false, true, (some ⟨(.var 1), [(.float .f32)], [(.avar 0)]⟩)⟩)], (.tuple [(.asl 10 (.var 4)), (.int .i64 (.var 5))]), [(some ⟨[], 37, false, true, (some ⟨(.var 4), [.bool, (.int .i64), (.int .i64), (.int .i64)], [(.avar 1), (.avar 2), (.avar 3), (.avar 4)]⟩)⟩)]⟩
      (.rng 4 0 202 (.call etalonref08_CheckSignal_s ⟨[(.var 0), (.var 1)], [], [(.avar 0)]⟩ ⟨[(.var 0), (.var 1), (.var 6), (.var 7)], [], [(.avar 0)]⟩ ⟨9, [(.agg [(.int .i64 (.var 0)), (.asl 0 (.var 1))])], [0], [(some ⟨[], 41, true, false, (some ⟨(.var 1), [(.float .f32)], [(.avar 0)]⟩)⟩), none, none, none, none, none, none, none, none, none, none], (.tuple [(.int .i64 (.var 6)), (.int .i64 (.var 7))]), []⟩
      (.ite (.icmp .eql (.var 2) (.var 6))
      (.ite (.icmp .eql (.var 3) (.var 7))
       (.ite (.icmp .eql (.var 7) (.lit 0))
        (.call etalonref08_Turns_s ⟨[(.var 0), (.var 1)], [], [(.avar 0)]⟩ ⟨[(.var 0), (.var 1), (.var 8)], [], [(.avar 0), (.avar 5), (.avar 6), (.avar 7), (.avar 8)]⟩ ⟨10, [(.agg [(.int .i64 (.var 0)), (.asl 0 (.var 1))])], [0], [(some ⟨[], 41, true, false, (some ⟨(.var 1), [(.float .f32)], [(.avar 0)]⟩)⟩), none, none, none, none, none, none, none, none, none, none], (.asl 11 (.var 8)), [(some ⟨[], 37, false, true, (some ⟨(.var 8), [.bool, (.int .i64), (.int .i64), (.int .i64)], [(.avar 5), (.avar 6), (.avar 7), (.avar 8)]⟩)⟩)]⟩
         (.rng 8 0 140737488355328 (.ite (.icmp .eql (.var 5) (.lit 0))
         (.ite (.icmp .eql (.var 4) (.var 8))
          (.loop ⟨3, [0, 1, 0, 1, 1, 1, 1, 1, 1, 1, 1, 1, 1], [(.agg [(.int .i64 (.var 0)), (.asl 0 (.var 1))]), (.ptr (some ⟨1, 0, none⟩)), (.bool (.lit false)), (.int .i64 (.var 2)), (.int .i64 (.var 3)), (.asl 10 (.var 4)), (.int .i64 (.var 5)), (.int .i64 (.var 6)), (.int .i64 (.var 7)), (.asl 11 (.var 8)), (.int .i64 (.lit 0)), (.bool (.var 0)), (.bool (.not (.var 0))), (.ptr (some ⟨1, 1, none⟩)), (.asl 0 (.var 1)), (.int .i64 (.var 1)), (.bool (.icmp .gtr (.var 1) (.lit 60))), (.bool (.icmp .gtr (.var 1) (.lit 60))), (.ptr (some ⟨1, 1, none⟩)), (.asl 0 (.var 1)), (.int .i64 (.var 1)), (.bool (.icmp .leq (.var 1) (.lit 200))), (.bool (.icmp .leq (.var 1) (.lit 200))), (.bool (.icmp .leq (.var 1) (.lit 200))), (.ptr (some ⟨1, 1, none⟩)), (.asl 0 (.var 1)), (.int .i64 (.var 1)), (.bool (.icmp .gtr (.var 1) (.lit 202))), (.bool (.icmp .gtr (.var 1) (.lit 202))), (.tuple [(.int .i64 (.var 2)), (.int .i64 (.var 3))]), (.agg [(.int .i64 (.var 0)), (.asl 0 (.var 1))]), (.agg [(.int .i64 (.var 0)), (.asl 5 (.var 1))]), (.tuple [(.int .i64 (.var 2)), (.int .i64 (.var 3))]), (.int .i64 (.var 2)), (.int .i64 (.var 3)), (.tuple [(.asl 10 (.var 4)), (.int .i64 (.var 5))]), (.agg [(.int .i64 (.var 0)), (.asl 0 (.var 1))]), (.agg [(.int .i64 (.var 0)), (.asl 9 (.var 1))]), (.tuple [(.asl 10 (.var 4)), (.int .i64 (.var 5))]), (.asl 10 (.var 4)), (.int .i64 (.var 5)), (.tuple [(.int .i64 (.var 6)), (.int .i64 (.var 7))]), (.agg [(.int .i64 (.var 0)), (.asl 0 (.var 1))]), (.tuple [(.int .i64 (.var 6)), (.int .i64 (.var 7))]), (.int .i64 (.var 6)), (.int .i64 (.var 7)), (.int .i64 (.var 2)), (.int .i64 (.var 6)), (.bool (.icmp .neq (.var 2) (.var 6))), (.bool (.icmp .neq (.var 2) (.var 6))), (.int .i64 (.var 3)), (.int .i64 (.var 7)), (.bool (.icmp .neq (.var 3) (.var 7))), (.bool (.icmp .neq (.var 3) (.var 7))), (.int .i64 (.var 7)), (.bool (.icmp .neq (.var 7) (.lit 0))), (.tuple []), (.tuple []), (.tuple []), (.tuple []), (.tuple []), (.tuple []), (.tuple []), (.tuple []), (.agg [(.int .i64 (.var 0)), (.asl 0 (.var 1))]), (.asl 11 (.var 8)), (.int .i64 (.var 5)), (.bool (.icmp .neq (.var 5) (.lit 0))), (.bool (.icmp .neq (.var 5) (.lit 0))), (.asl 10 (.var 4)), (.int .i64 (.var 4)), (.asl 11 (.var 8)), (.int .i64 (.var 8)), (.bool (.icmp .neq (.var 4) (.var 8))), (.bool (.icmp .neq (.var 4) (.var 8))), (.tuple []), (.tuple []), (.tuple []), (.tuple []), (.tuple []), (.tuple []), (.tuple []), (.tuple []), (.tuple []), (.tuple []), (.tuple []), (.tuple []), (.tuple []), (.tuple []), (.tuple []), (.tuple []), (.tuple []), (.tuple []), (.tuple []), (.tuple []), (.tuple []), (.tuple []), (.tuple []), (.tuple []), (.tuple []), (.tuple []), (.tuple []), (.tuple []), (.tuple []), (.tuple []), (.tuple []), (.tuple []), (.tuple []), (.tuple []), (.tuple []), (.tuple []), (.tuple []), (.tuple []), (.tuple []), (.tuple []), (.tuple []), (.tuple []), (.tuple []), (.tuple []), (.tuple []), (.tuple []), (.tuple [])], [(some ⟨[], 41, true, false, (some ⟨(.var 1), [(.float .f32)], [(.avar 0)]⟩)⟩), (some ⟨[(.int .i64 (.var 0)), (.asl 0 (.var 1))], 24, false, false, none⟩), (some ⟨[(.int .i64 (.var 0)), (.asl 5 (.var 1))], 24, false, false, none⟩), (some ⟨[(.int .i64 (.var 0)), (.asl 5 (.var 1))], 24, false, false, none⟩), (some ⟨[], 41, false, false, none⟩), (some ⟨[], 41, false, true, (some ⟨(.var 1), [(.float .f32)], [(.avar 0)]⟩)⟩), (some ⟨[(.int .i64 (.var 0)), (.asl 9 (.var 1))], 24, false, false, none⟩), (some ⟨[(.int .i64 (.var 0)), (.asl 9 (.var 1))], 24, false, false, none⟩), (some ⟨[], 41, false, false, none⟩), (some ⟨[], 41, false, true, (some ⟨(.var 1), [(.float .f32)], [(.avar 0)]⟩)⟩), (some ⟨[], 37, false, true, (some ⟨(.var 4), [.bool, (.int .i64), (.int .i64), (.int .i64)], [(.avar 1), (.avar 2), (.avar 3), (.avar 4)]⟩)⟩), (some ⟨[], 37, false, true, (some ⟨(.var 8), [.bool, (.int .i64), (.int .i64), (.int .i64)], [(.avar 5), (.avar 6), (.avar 7), (.avar 8)]⟩)⟩)], [], [(.agg [(.int .i64 (.var 0)), (.asl 0 (.var 1))]), (.ptr (some ⟨1, 0, none⟩)), (.bool (.lit false)), (.int .i64 (.var 2)), (.int .i64 (.var 3)), (.asl 10 (.var 4)), (.int .i64 (.var 5)), (.int .i64 (.var 6)), (.int .i64 (.var 7)), (.asl 11 (.var 8)), (.int .i64 (.var 9)), (.bool (.var 0)), (.bool (.not (.var 0))), (.ptr (some ⟨1, 1, none⟩)), (.asl 0 (.var 1)), (.int .i64 (.var 1)), (.bool (.icmp .gtr (.var 1) (.lit 60))), (.bool (.icmp .gtr (.var 1) (.lit 60))), (.ptr (some ⟨1, 1, none⟩)), (.asl 0 (.var 1)), (.int .i64 (.var 1)), (.bool (.icmp .leq (.var 1) (.lit 200))), (.bool (.icmp .leq (.var 1) (.lit 200))), (.bool (.icmp .leq (.var 1) (.lit 200))), (.ptr (some ⟨1, 1, none⟩)), (.asl 0 (.var 1)), (.int .i64 (.var 1)), (.bool (.icmp .gtr (.var 1) (.lit 202))), (.bool (.icmp .gtr (.var 1) (.lit 202))), (.tuple [(.int .i64 (.var 2)), (.int .i64 (.var 3))]), (.agg [(.int .i64 (.var 0)), (.asl 0 (.var 1))]), (.agg [(.int .i64 (.var 0)), (.asl 5 (.var 1))]), (.tuple [(.int .i64 (.var 2)), (.int .i64 (.var 3))]), (.int .i64 (.var 2)), (.int .i64 (.var 3)), (.tuple [(.asl 10 (.var 4)), (.int .i64 (.var 5))]), (.agg [(.int .i64 (.var 0)), (.asl 0 (.var 1))]), (.agg [(.int .i64 (.var 0)), (.asl 9 (.var 1))]), (.tuple [(.asl 10 (.var 4)), (.int .i64 (.var 5))]), (.asl 10 (.var 4)), (.int .i64 (.var 5)), (.tuple [(.int .i64 (.var 6)), (.int .i64 (.var 7))]), (.agg [(.int .i64 (.var 0)), (.asl 0 (.var 1))]), (.tuple [(.int .i64 (.var 6)), (.int .i64 (.var 7))]), (.int .i64 (.var 6)), (.int .i64 (.var 7)), (.int .i64 (.var 2)), (.int .i64 (.var 6)), (.bool (.icmp .neq (.var 2) (.var 6))), (.bool (.icmp .neq (.var 2) (.var 6))), (.int .i64 (.var 3)), (.int .i64 (.var 7)), (.bool (.icmp .neq (.var 3) (.var 7))), (.bool (.icmp .neq (.var 3) (.var 7))), (.int .i64 (.var 7)), (.bool (.icmp .neq (.var 7) (.lit 0))), (.tuple []), (.tuple []), (.tuple []), (.tuple []), (.tuple []), (.tuple []), (.tuple []), (.tuple []), (.agg [(.int .i64 (.var 0)), (.asl 0 (.var 1))]), (.asl 11 (.var 8)), (.int .i64 (.var 5)), (.bool (.icmp .neq (.var 5) (.lit 0))), (.bool (.icmp .neq (.var 5) (.lit 0))), (.asl 10 (.var 4)), (.int .i64 (.var 4)), (.asl 11 (.var 8)), (.int .i64 (.var 8)), (.bool (.icmp .neq (.var 4) (.var 8))), (.bool (.icmp .neq (.var 4) (.var 8))), (.any 75), (.any 76), (.any 77), (.any 78), (.any 79), (.any 80), (.any 81), (.any 82), (.any 83), (.any 84), (.any 85), (.any 86), (.any 87), (.any 88), (.any 89), (.any 90), (.any 91), (.any 92), (.any 93), (.any 94), (.any 95), (.any 96), (.any 97), (.any 98), (.any 99), (.any 100), (.any 101), (.any 102), (.any 103), (.any 104), (.any 105), (.any 106), (.any 107), (.any 108), (.any 109), (.any 110), (.any 111), (.any 112), (.any 113), (.any 114), (.any 115), (.any 116), (.any 117), (.any 118), (.any 119), (.any 120), (.any 121)], [(some ⟨[], 41, true, false, (some ⟨(.var 1), [(.float .f32)], [(.avar 0)]⟩)⟩), (some ⟨[(.int .i64 (.var 0)), (.asl 0 (.var 1))], 24, false, false, none⟩), (some ⟨[(.int .i64 (.var 0)), (.asl 5 (.var 1))], 24, false, false, none⟩), (some ⟨[(.int .i64 (.var 0)), (.asl 5 (.var 1))], 24, false, false, none⟩), (some ⟨[], 41, false, false, none⟩), (some ⟨[], 41, false, true, (some ⟨(.var 1), [(.float .f32)], [(.avar 0)]⟩)⟩), (some ⟨[(.int .i64 (.var 0)), (.asl 9 (.var 1))], 24, false, false, none⟩), (some ⟨[(.int .i64 (.var 0)), (.asl 9 (.var 1))], 24, false, false, none⟩), (some ⟨[], 41, false, false, none⟩), (some ⟨[], 41, false, true, (some ⟨(.var 1), [(.float .f32)], [(.avar 0)]⟩)⟩), (some ⟨[], 37, false, true, (some ⟨(.var 4), [.bool, (.int .i64), (.int .i64), (.int .i64)], [(.avar 1), (.avar 2), (.avar 3), (.avar 4)]⟩)⟩), (some ⟨[], 37, false, true, (some ⟨(.var 8), [.bool, (.int .i64), (.int .i64), (.int .i64)], [(.avar 5), (.avar 6), (.avar 7), (.avar 8)]⟩)⟩)], [], ⟨1, 0, 0⟩, ⟨[(.lit 0)], [], []⟩, []⟩
           (.rng 9 0 202 (.ite (.icmp .leq (.var 4) (.var 9))
            (.out 1 ⟨[], [], []⟩ [])
            (.ite (.icmp .leq (.var 8) (.var 9))
             .nil
             (.ite (.icmp .eql (.sel (.avar 1) (.var 9)) (.lit 0))
              (.ite (.icmp .eql (.sel (.avar 5) (.var 9)) (.lit 0))
               (.ite (.icmp .eql (.sel (.avar 2) (.var 9)) (.sel (.avar 6) (.var 9)))
                (.ite (.icmp .eql (.sel (.avar 3) (.var 9)) (.sel (.avar 7) (.var 9)))
                 (.ite (.icmp .eql (.sel (.avar 4) (.var 9)) (.sel (.avar 8) (.var 9)))
                  (.ite (.icmp .leq (.var 9) (.lit 0))
                   (.next ⟨[(.bin .addI (.var 9) (.lit 1))], [], []⟩ [])
                   (.ite (.icmp .leq (.var 4) (.bin .subI (.var 9) (.lit 1)))
                    .nil
                    (.ite (.icmp .eql (.sel (.avar 1) (.bin .subI (.var 9) (.lit 1))) (.lit 0))
                     (.out 0 ⟨[], [], []⟩ [])
                     (.ite (.icmp .leq (.sel (.avar 4) (.var 9)) (.sel (.avar 4) (.bin .subI (.var 9) (.lit 1))))
                      (.out 0 ⟨[], [], []⟩ [])
                      (.next ⟨[(.bin .addI (.var 9) (.lit 1))], [], []⟩ [])))))
                  (.out 0 ⟨[], [], []⟩ []))
                 (.out 0 ⟨[], [], []⟩ []))
                (.out 0 ⟨[], [], []⟩ []))
               (.out 0 ⟨[], [], []⟩ []))
              (.ite (.icmp .eql (.sel (.avar 5) (.var 9)) (.lit 0))
               (.out 0 ⟨[], [], []⟩ [])
               (.ite (.icmp .eql (.sel (.avar 2) (.var 9)) (.sel (.avar 6) (.var 9)))
                (.ite (.icmp .eql (.sel (.avar 3) (.var 9)) (.sel (.avar 7) (.var 9)))
                 (.ite (.icmp .eql (.sel (.avar 4) (.var 9)) (.sel (.avar 8) (.var 9)))
                  (.ite (.icmp .leq (.var 9) (.lit 0))
                   (.next ⟨[(.bin .addI (.var 9) (.lit 1))], [], []⟩ [])
                   (.ite (.icmp .leq (.var 4) (.bin .subI (.var 9) (.lit 1)))
                    .nil
                    (.ite (.icmp .eql (.sel (.avar 1) (.bin .subI (.var 9) (.lit 1))) (.lit 0))
                     (.ite (.icmp .leq (.sel (.avar 4) (.var 9)) (.sel (.avar 4) (.bin .subI (.var 9) (.lit 1))))
                      (.out 0 ⟨[], [], []⟩ [])
                      (.next ⟨[(.bin .addI (.var 9) (.lit 1))], [], []⟩ []))
                     (.out 0 ⟨[], [], []⟩ []))))
                  (.out 0 ⟨[], [], []⟩ []))
                 (.out 0 ⟨[], [], []⟩ []))
                (.out 0 ⟨[], [], []⟩ [])))))))
           (.ex (.ret, [(.agg [(.int .i64 (.var 0)), (.asl 0 (.var 1))]), (.ptr (some ⟨1, 0, none⟩)), (.bool (.lit false)), (.int .i64 (.var 2)), (.int .i64 (.var 3)), (.asl 10 (.var 4)), (.int .i64 (.var 5)), (.int .i64 (.var 6)), (.int .i64 (.var 7)), (.asl 11 (.var 8)), (.any 10), (.bool (.var 0)), (.bool (.not (.var 0))), (.ptr (some ⟨1, 1, none⟩)), (.asl 0 (.var 1)), (.int .i64 (.var 1)), (.bool (.icmp .gtr (.var 1) (.lit 60))), (.bool (.icmp .gtr (.var 1) (.lit 60))), (.ptr (some ⟨1, 1, none⟩)), (.asl 0 (.var 1)), (.int .i64 (.var 1)), (.bool (.icmp .leq (.var 1) (.lit 200))), (.bool (.icmp .leq (.var 1) (.lit 200))), (.bool (.icmp .leq (.var 1) (.lit 200))), (.ptr (some ⟨1, 1, none⟩)), (.asl 0 (.var 1)), (.int .i64 (.var 1)), (.bool (.icmp .gtr (.var 1) (.lit 202))), (.bool (.icmp .gtr (.var 1) (.lit 202))), (.tuple [(.int .i64 (.var 2)), (.int .i64 (.var 3))]), (.agg [(.int .i64 (.var 0)), (.asl 0 (.var 1))]), (.agg [(.int .i64 (.var 0)), (.asl 5 (.var 1))]), (.tuple [(.int .i64 (.var 2)), (.int .i64 (.var 3))]), (.int .i64 (.var 2)), (.int .i64 (.var 3)), (.tuple [(.asl 10 (.var 4)), (.int .i64 (.var 5))]), (.agg [(.int .i64 (.var 0)), (.asl 0 (.var 1))]), (.agg [(.int .i64 (.var 0)), (.asl 9 (.var 1))]), (.tuple [(.asl 10 (.var 4)), (.int .i64 (.var 5))]), (.asl 10 (.var 4)), (.int .i64 (.var 5)), (.tuple [(.int .i64 (.var 6)), (.int .i64 (.var 7))]), (.agg [(.int .i64 (.var 0)), (.asl 0 (.var 1))]), (.tuple [(.int .i64 (.var 6)), (.int .i64 (.var 7))]), (.int .i64 (.var 6)), (.int .i64 (.var 7)), (.int .i64 (.var 2)), (.int .i64 (.var 6)), (.bool (.icmp .neq (.var 2) (.var 6))), (.bool (.icmp .neq (.var 2) (.var 6))), (.int .i64 (.var 3)), (.int .i64 (.var 7)), (.bool (.icmp .neq (.var 3) (.var 7))), (.bool (.icmp .neq (.var 3) (.var 7))), (.int .i64 (.var 7)), (.bool (.icmp .neq (.var 7) (.lit 0))), (.tuple []), (.tuple []), (.tuple []), (.tuple []), (.tuple []), (.tuple []), (.tuple []), (.tuple []), (.agg [(.int .i64 (.var 0)), (.asl 0 (.var 1))]), (.asl 11 (.var 8)), (.int .i64 (.var 5)), (.bool (.icmp .neq (.var 5) (.lit 0))), (.bool (.icmp .neq (.var 5) (.lit 0))), (.asl 10 (.var 4)), (.int .i64 (.var 4)), (.asl 11 (.var 8)), (.int .i64 (.var 8)), (.bool (.icmp .neq (.var 4) (.var 8))), (.bool (.icmp .neq (.var 4) (.var 8))), (.any 75), (.any 76), (.any 77), (.any 78), (.any 79), (.any 80), (.any 81), (.any 82), (.any 83), (.any 84), (.any 85), (.any 86), (.any 87), (.any 88), (.any 89), (.any 90), (.any 91), (.any 92), (.any 93), (.any 94), (.any 95), (.any 96), (.any 97), (.any 98), (.any 99), (.any 100), (.any 101), (.any 102), (.any 103), (.any 104), (.any 105), (.any 106), (.any 107), (.any 108), (.any 109), (.any 110), (.any 111), (.any 112), (.any 113), (.any 114), (.any 115), (.any 116), (.any 117), (.any 118), (.any 119), (.any 120), (.any 121)], [(some ⟨[], 41, true, false, (some ⟨(.var 1), [(.float .f32)], [(.avar 0)]⟩)⟩), (some ⟨[(.int .i64 (.var 0)), (.asl 0 (.var 1))], 24, false, false, none⟩), (some ⟨[(.int .i64 (.var 0)), (.asl 5 (.var 1))], 24, false, false, none⟩), (some ⟨[(.int .i64 (.var 0)), (.asl 5 (.var 1))], 24, false, false, none⟩), (some ⟨[], 41, false, false, none⟩), (some ⟨[], 41, false, true, (some ⟨(.var 1), [(.float .f32)], [(.avar 0)]⟩)⟩), (some ⟨[(.int .i64 (.var 0)), (.asl 9 (.var 1))], 24, false, false, none⟩), (some ⟨[(.int .i64 (.var 0)), (.asl 9 (.var 1))], 24, false, false, none⟩), (some ⟨[], 41, false, false, none⟩), (some ⟨[], 41, false, true, (some ⟨(.var 1), [(.float .f32)], [(.avar 0)]⟩)⟩), (some ⟨[], 37, false, true, (some ⟨(.var 4), [.bool, (.int .i64), (.int .i64), (.int .i64)], [(.avar 1), (.avar 2), (.avar 3), (.avar 4)]⟩)⟩), (some ⟨[], 37, false, true, (some ⟨(.var 8), [.bool, (.int .i64), (.int .i64), (.int .i64)], [(.avar 5), (.avar 6), (.avar 7), (.avar 8)]⟩)⟩)], []) ⟨0, 0, 0⟩
           (.ret ⟨[], [(.lit false)], []⟩ [])
           (.ex ((.exit 0), [(.agg [(.int .i64 (.var 0)), (.asl 0 (.var 1))]), (.ptr (some ⟨1, 0, none⟩)), (.bool (.lit false)), (.int .i64 (.var 2)), (.int .i64 (.var 3)), (.asl 10 (.var 4)), (.int .i64 (.var 5)), (.int .i64 (.var 6)), (.int .i64 (.var 7)), (.asl 11 (.var 8)), (.any 10), (.bool (.var 0)), (.bool (.not (.var 0))), (.ptr (some ⟨1, 1, none⟩)), (.asl 0 (.var 1)), (.int .i64 (.var 1)), (.bool (.icmp .gtr (.var 1) (.lit 60))), (.bool (.icmp .gtr (.var 1) (.lit 60))), (.ptr (some ⟨1, 1, none⟩)), (.asl 0 (.var 1)), (.int .i64 (.var 1)), (.bool (.icmp .leq (.var 1) (.lit 200))), (.bool (.icmp .leq (.var 1) (.lit 200))), (.bool (.icmp .leq (.var 1) (.lit 200))), (.ptr (some ⟨1, 1, none⟩)), (.asl 0 (.var 1)), (.int .i64 (.var 1)), (.bool (.icmp .gtr (.var 1) (.lit 202))), (.bool (.icmp .gtr (.var 1) (.lit 202))), (.tuple [(.int .i64 (.var 2)), (.int .i64 (.var 3))]), (.agg [(.int .i64 (.var 0)), (.asl 0 (.var 1))]), (.agg [(.int .i64 (.var 0)), (.asl 5 (.var 1))]), (.tuple [(.int .i64 (.var 2)), (.int .i64 (.var 3))]), (.int .i64 (.var 2)), (.int .i64 (.var 3)), (.tuple [(.asl 10 (.var 4)), (.int .i64 (.var 5))]), (.agg [(.int .i64 (.var 0)), (.asl 0 (.var 1))]), (.agg [(.int .i64 (.var 0)), (.asl 9 (.var 1))]), (.tuple [(.asl 10 (.var 4)), (.int .i64 (.var 5))]), (.asl 10 (.var 4)), (.int .i64 (.var 5)), (.tuple [(.int .i64 (.var 6)), (.int .i64 (.var 7))]), (.agg [(.int .i64 (.var 0)), (.asl 0 (.var 1))]), (.tuple [(.int .i64 (.var 6)), (.int .i64 (.var 7))]), (.int .i64 (.var 6)), (.int .i64 (.var 7)), (.int .i64 (.var 2)), (.int .i64 (.var 6)), (.bool (.icmp .neq (.var 2) (.var 6))), (.bool (.icmp .neq (.var 2) (.var 6))), (.int .i64 (.var 3)), (.int .i64 (.var 7)), (.bool (.icmp .neq (.var 3) (.var 7))), (.bool (.icmp .neq (.var 3) (.var 7))), (.int .i64 (.var 7)), (.bool (.icmp .neq (.var 7) (.lit 0))), (.tuple []), (.tuple []), (.tuple []), (.tuple []), (.tuple []), (.tuple []), (.tuple []), (.tuple []), (.agg [(.int .i64 (.var 0)), (.asl 0 (.var 1))]), (.asl 11 (.var 8)), (.int .i64 (.var 5)), (.bool (.icmp .neq (.var 5) (.lit 0))), (.bool (.icmp .neq (.var 5) (.lit 0))), (.asl 10 (.var 4)), (.int .i64 (.var 4)), (.asl 11 (.var 8)), (.int .i64 (.var 8)), (.bool (.icmp .neq (.var 4) (.var 8))), (.bool (.icmp .neq (.var 4) (.var 8))), (.any 75), (.any 76), (.any 77), (.any 78), (.any 79), (.any 80), (.any 81), (.any 82), (.any 83), (.any 84), (.any 85), (.any 86), (.any 87), (.any 88), (.any 89), (.any 90), (.any 91), (.any 92), (.any 93), (.any 94), (.any 95), (.any 96), (.any 97), (.any 98), (.any 99), (.any 100), (.any 101), (.any 102), (.any 103), (.any 104), (.any 105), (.any 106), (.any 107), (.any 108), (.any 109), (.any 110), (.any 111), (.any 112), (.any 113), (.any 114), (.any 115), (.any 116), (.any 117), (.any 118), (.any 119), (.any 120), (.any 121)], [(some ⟨[], 41, true, false, (some ⟨(.var 1), [(.float .f32)], [(.avar 0)]⟩)⟩), (some ⟨[(.int .i64 (.var 0)), (.asl 0 (.var 1))], 24, false, false, none⟩), (some ⟨[(.int .i64 (.var 0)), (.asl 5 (.var 1))], 24, false, false, none⟩), (some ⟨[(.int .i64 (.var 0)), (.asl 5 (.var 1))], 24, false, false, none⟩), (some ⟨[], 41, false, false, none⟩), (some ⟨[], 41, false, true, (some ⟨(.var 1), [(.float .f32)], [(.avar 0)]⟩)⟩), (some ⟨[(.int .i64 (.var 0)), (.asl 9 (.var 1))], 24, false, false, none⟩), (some ⟨[(.int .i64 (.var 0)), (.asl 9 (.var 1))], 24, false, false, none⟩), (some ⟨[], 41, false, false, none⟩), (some ⟨[], 41, false, true, (some ⟨(.var 1), [(.float .f32)], [(.avar 0)]⟩)⟩), (some ⟨[], 37, false, true, (some ⟨(.var 4), [.bool, (.int .i64), (.int .i64), (.int .i64)], [(.avar 1), (.avar 2), (.avar 3), (.avar 4)]⟩)⟩), (some ⟨[], 37, false, true, (some ⟨(.var 8), [.bool, (.int .i64), (.int .i64), (.int .i64)], [(.avar 5), (.avar 6), (.avar 7), (.avar 8)]⟩)⟩)], []) ⟨0, 0, 0⟩
           (.ret ⟨[], [(.lit true)], []⟩ [])
           .nil)))
          (.ret ⟨[], [(.lit false)], []⟩ []))
         (.ret ⟨[], [(.lit false)], []⟩ []))))
        (.ite (.icmp .eql (.var 5) (.var 7))
         (.ret ⟨[], [(.icmp .eql (.var 4) (.lit 0))], []⟩ [])
         (.ret ⟨[], [(.lit false)], []⟩ [])))
       (.ret ⟨[], [(.lit false)], []⟩ []))
      (.ret ⟨[], [(.lit false)], []⟩ []))))))
     (.ret ⟨[], [(.lit true)], []⟩ []))))
  (.ret ⟨[], [(.lit false)], []⟩ [])))
theorem gtu_p0 : (gtu_t.only [true, false]).chk Try.prog (S2 Try.prog) 100000 60 (.fn etalonlaw08_GrowTurns_s) { dom := { ivs := [(0, (-9223372036854775808), 9223372036854775807), (1, 0, 9223372036854775807)], aivs := [] } } etalonlaw08_GrowTurns_s.inp = true := by kernel_rfl
theorem gtu_p1 : ((gtu_t.but [true, false])).chk Try.prog (S2 Try.prog) 100000 60 (.fn etalonlaw08_GrowTurns_s) { dom := { ivs := [(0, (-9223372036854775808), 9223372036854775807), (1, 0, 9223372036854775807)], aivs := [] } } etalonlaw08_GrowTurns_s.inp = true := by kernel_rfl
theorem gtu {x0 x1 : Int} {f0 : Int → Int} (r0 : (-9223372036854775808) ≤ x0 ∧ x0 ≤ 9223372036854775807) (r1 : 0 ≤ x1 ∧ x1 ≤ 9223372036854775807) {R : Bool → Prop}
  (H : (∃ u0 : Bool, Spec Try.prog etalonlaw08_awake_s ⟨[], [], []⟩ [] [u0] [] ∧
   ((u0 = true → ((decide ((x1 : Int) ≤ 60) = true → (∃ v2 : Int, ∃ v3 : Int, Spec Try.prog grow_CheckSignal_s ⟨[x0, x1], [], [f0]⟩ [v2, v3] [] [] ∧
     (∃ v4 : Int, ∃ v5 : Int, ∃ g1 : Int → Int, ∃ g2 : Int → Int, ∃ g3 : Int → Int, ∃ g4 : Int → Int, Spec Try.prog grow_Turns_s ⟨[x0, x1], [], [f0]⟩ [v4, v5] [] [g1, g2, g3, g4] ∧
     ((0 ≤ (v4 : Int) ∧ (v4 : Int) ≤ 202) ∧ (∃ v6 : Int, ∃ v7 : Int, Spec Try.prog etalonref08_CheckSignal_s ⟨[x0, x1], [], [f0]⟩ [v6, v7] [] [] ∧
     ((((v2 : Int) == v6) = true → ((((v3 : Int) == v7) = true → ((((v7 : Int) == 0) = true → (∃ v8 : Int, ∃ g5 : Int → Int, ∃ g6 : Int → Int, ∃ g7 : Int → Int, ∃ g8 : Int → Int, Spec Try.prog etalonref08_Turns_s ⟨[x0, x1], [], [f0]⟩ [v8] [] [g5, g6, g7, g8] ∧
        ((0 ≤ (v8 : Int) ∧ (v8 : Int) ≤ 140737488355328) ∧ ((((v5 : Int) == 0) = true → ((((v4 : Int) == v8) = true → (∃ (I9 : Int → Prop) (rk9 : Int → Nat), I9 (0) ∧
          (∀ x9 : Int, I9 x9 → ((0 ≤ (x9 : Int) ∧ (x9 : Int) ≤ 202) ∧ ((decide ((v4 : Int) ≤ x9) = true → R (true)) ∧
           (decide ((v4 : Int) ≤ x9) = false → ((decide ((v8 : Int) ≤ x9) = true → False) ∧
            (decide ((v8 : Int) ≤ x9) = false → (((((g1 x9) : Int) == 0) = true → (((((g5 x9) : Int) == 0) = true → (((((g2 x9) : Int) == (g6 x9)) = true → (((((g3 x9) : Int) == (g7 x9)) = true → (((((g4 x9) : Int) == (g8 x9)) = true → ((decide ((x9 : Int) ≤ 0) = true → (I9 ((x9 + 1)) ∧ rk9 ((x9 + 1)) < rk9 x9)) ∧
                  (decide ((x9 : Int) ≤ 0) = false → ((decide ((v4 : Int) ≤ (x9 - 1)) = true → False) ∧
                   (decide ((v4 : Int) ≤ (x9 - 1)) = false → (((((g1 (x9 - 1)) : Int) == 0) = true → R (false)) ∧
                    ((((g1 (x9 - 1)) : Int) == 0) = false → ((decide (((g4 x9) : Int) ≤ (g4 (x9 - 1))) = true → R (false)) ∧
                     (decide (((g4 x9) : Int) ≤ (g4 (x9 - 1))) = false → (I9 ((x9 + 1)) ∧ rk9 ((x9 + 1)) < rk9 x9)))))))))) ∧
                 ((((g4 x9) : Int) == (g8 x9)) = false → R (false)))) ∧
                ((((g3 x9) : Int) == (g7 x9)) = false → R (false)))) ∧
               ((((g2 x9) : Int) == (g6 x9)) = false → R (false)))) ∧
              ((((g5 x9) : Int) == 0) = false → R (false)))) ∧
             ((((g1 x9) : Int) == 0) = false → (((((g5 x9) : Int) == 0) = true → R (false)) ∧
              ((((g5 x9) : Int) == 0) = false → (((((g2 x9) : Int) == (g6 x9)) = true → (((((g3 x9) : Int) == (g7 x9)) = true → (((((g4 x9) : Int) == (g8 x9)) = true → ((decide ((x9 : Int) ≤ 0) = true → (I9 ((x9 + 1)) ∧ rk9 ((x9 + 1)) < rk9 x9)) ∧
                  (decide ((x9 : Int) ≤ 0) = false → ((decide ((v4 : Int) ≤ (x9 - 1)) = true → False) ∧
                   (decide ((v4 : Int) ≤ (x9 - 1)) = false → (((((g1 (x9 - 1)) : Int) == 0) = true → ((decide (((g4 x9) : Int) ≤ (g4 (x9 - 1))) = true → R (false)) ∧
                     (decide (((g4 x9) : Int) ≤ (g4 (x9 - 1))) = false → (I9 ((x9 + 1)) ∧ rk9 ((x9 + 1)) < rk9 x9)))) ∧
                    ((((g1 (x9 - 1)) : Int) == 0) = false → R (false)))))))) ∧
                 ((((g4 x9) : Int) == (g8 x9)) = false → R (false)))) ∧
                ((((g3 x9) : Int) == (g7 x9)) = false → R (false)))) ∧
               ((((g2 x9) : Int) == (g6 x9)) = false → R (false))))))))))))))) ∧
         (((v4 : Int) == v8) = false → R (false)))) ∧
        (((v5 : Int) == 0) = false → R (false)))))) ∧
       (((v7 : Int) == 0) = false → ((((v5 : Int) == v7) = true → R (((v4 : Int) == 0))) ∧
        (((v5 : Int) == v7) = false → R (false)))))) ∧
      (((v3 : Int) == v7) = false → R (false)))) ∧
     (((v2 : Int) == v6) = false → R (false)))))))) ∧
    (decide ((x1 : Int) ≤ 60) = false → ((decide ((x1 : Int) ≤ 200) = true → R (true)) ∧
     (decide ((x1 : Int) ≤ 200) = false → ((decide ((x1 : Int) ≤ 202) = true → (∃ v2 : Int, ∃ v3 : Int, Spec Try.prog grow_CheckSignal_s ⟨[x0, x1], [], [f0]⟩ [v2, v3] [] [] ∧
       (∃ v4 : Int, ∃ v5 : Int, ∃ g1 : Int → Int, ∃ g2 : Int → Int, ∃ g3 : Int → Int, ∃ g4 : Int → Int, Spec Try.prog grow_Turns_s ⟨[x0, x1], [], [f0]⟩ [v4, v5] [] [g1, g2, g3, g4] ∧
       ((0 ≤ (v4 : Int) ∧ (v4 : Int) ≤ 202) ∧ (∃ v6 : Int, ∃ v7 : Int, Spec Try.prog etalonref08_CheckSignal_s ⟨[x0, x1], [], [f0]⟩ [v6, v7] [] [] ∧
       ((((v2 : Int) == v6) = true → ((((v3 : Int) == v7) = true → ((((v7 : Int) == 0) = true → (∃ v8 : Int, ∃ g5 : Int → Int, ∃ g6 : Int → Int, ∃ g7 : Int → Int, ∃ g8 : Int → Int, Spec Try.prog etalonref08_Turns_s ⟨[x0, x1], [], [f0]⟩ [v8] [] [g5, g6, g7, g8] ∧
          ((0 ≤ (v8 : Int) ∧ (v8 : Int) ≤ 140737488355328) ∧ ((((v5 : Int) == 0) = true → ((((v4 : Int) == v8) = true → (∃ (I9 : Int → Prop) (rk9 : Int → Nat), I9 (0) ∧
            (∀ x9 : Int, I9 x9 → ((0 ≤ (x9 : Int) ∧ (x9 : Int) ≤ 202) ∧ ((decide ((v4 : Int) ≤ x9) = true → R (true)) ∧
             (decide ((v4 : Int) ≤ x9) = false → ((decide ((v8 : Int) ≤ x9) = true → False) ∧
              (decide ((v8 : Int) ≤ x9) = false → (((((g1 x9) : Int) == 0) = true → (((((g5 x9) : Int) == 0) = true → (((((g2 x9) : Int) == (g6 x9)) = true → (((((g3 x9) : Int) == (g7 x9)) = true → (((((g4 x9) : Int) == (g8 x9)) = true → ((decide ((x9 : Int) ≤ 0) = true → (I9 ((x9 + 1)) ∧ rk9 ((x9 + 1)) < rk9 x9)) ∧
                    (decide ((x9 : Int) ≤ 0) = false → ((decide ((v4 : Int) ≤ (x9 - 1)) = true → False) ∧
                     (decide ((v4 : Int) ≤ (x9 - 1)) = false → (((((g1 (x9 - 1)) : Int) == 0) = true → R (false)) ∧
                      ((((g1 (x9 - 1)) : Int) == 0) = false → ((decide (((g4 x9) : Int) ≤ (g4 (x9 - 1))) = true → R (false)) ∧
                       (decide (((g4 x9) : Int) ≤ (g4 (x9 - 1))) = false → (I9 ((x9 + 1)) ∧ rk9 ((x9 + 1)) < rk9 x9)))))))))) ∧
                   ((((g4 x9) : Int) == (g8 x9)) = false → R (false)))) ∧
                  ((((g3 x9) : Int) == (g7 x9)) = false → R (false)))) ∧
                 ((((g2 x9) : Int) == (g6 x9)) = false → R (false)))) ∧
                ((((g5 x9) : Int) == 0) = false → R (false)))) ∧
               ((((g1 x9) : Int) == 0) = false → (((((g5 x9) : Int) == 0) = true → R (false)) ∧
                ((((g5 x9) : Int) == 0) = false → (((((g2 x9) : Int) == (g6 x9)) = true → (((((g3 x9) : Int) == (g7 x9)) = true → (((((g4 x9) : Int) == (g8 x9)) = true → ((decide ((x9 : Int) ≤ 0) = true → (I9 ((x9 + 1)) ∧ rk9 ((x9 + 1)) < rk9 x9)) ∧
                    (decide ((x9 : Int) ≤ 0) = false → ((decide ((v4 : Int) ≤ (x9 - 1)) = true → False) ∧
                     (decide ((v4 : Int) ≤ (x9 - 1)) = false → (((((g1 (x9 - 1)) : Int) == 0) = true → ((decide (((g4 x9) : Int) ≤ (g4 (x9 - 1))) = true → R (false)) ∧
                       (decide (((g4 x9) : Int) ≤ (g4 (x9 - 1))) = false → (I9 ((x9 + 1)) ∧ rk9 ((x9 + 1)) < rk9 x9)))) ∧
                      ((((g1 (x9 - 1)) : Int) == 0) = false → R (false)))))))) ∧
                   ((((g4 x9) : Int) == (g8 x9)) = false → R (false)))) ∧
                  ((((g3 x9) : Int) == (g7 x9)) = false → R (false)))) ∧
                 ((((g2 x9) : Int) == (g6 x9)) = false → R (false))))))))))))))) ∧
           (((v4 : Int) == v8) = false → R (false)))) ∧
          (((v5 : Int) == 0) = false → R (false)))))) ∧
         (((v7 : Int) == 0) = false → ((((v5 : Int) == v7) = true → R (((v4 : Int) == 0))) ∧
          (((v5 : Int) == v7) = false → R (false)))))) ∧
        (((v3 : Int) == v7) = false → R (false)))) ∧
       (((v2 : Int) == v6) = false → R (false)))))))) ∧
      (decide ((x1 : Int) ≤ 202) = false → R (true)))))))) ∧
   (u0 = false → R (false))))) :
    ∃ u0 : Bool, R u0 ∧ Spec Try.prog etalonlaw08_GrowTurns_s ⟨[x0, x1], [], [f0]⟩ [] [u0] [] :=
  Eq.mp (by kernel_rfl) (exV_of (K := fun d => app3 etalonlaw08_GrowTurns_s.out R d ∧ Spec Try.prog etalonlaw08_GrowTurns_s ⟨[x0, x1], [], [f0]⟩ d.1 d.2.1 d.2.2) (tree_at mixed names S2_ok (S := S2 Try.prog) (lf := 100000) (d := 60) etalonlaw08_GrowTurns_s gtu_t { ivs := [(0, (-9223372036854775808), 9223372036854775807), (1, 0, 9223372036854775807)], aivs := [] } ⟨[x0, x1], [], [f0]⟩ rfl (by kernel_rfl) (by kernel_rfl) (chk_split _ [true, false] gtu_p0 gtu_p1) ⟨(fc r0 (fc r1 fz)), fz, fz, fz⟩ (R := fun d => app3 etalonlaw08_GrowTurns_s.out R d) (Eq.mp (by kernel_rfl) H)))

open Gt

set_option maxHeartbeats 8000000 in

theorem turnses {x0 x1 : Int} {f0 : Int → Int} (r0 : (-9223372036854775808) ≤ x0 ∧ x0 ≤ 9223372036854775807) (r1 : 0 ≤ x1 ∧ x1 ≤ 9223372036854775807) : Spec Try.prog etalonlaw08_GrowTurns_s ⟨[x0, x1], [], [f0]⟩ [] [true] [] := by

  obtain ⟨a0, rfl, ha⟩ := awake

  obtain ⟨w, rfl, hs⟩ : ∃ u0 : Bool, u0 = true ∧ Spec Try.prog etalonlaw08_GrowTurns_s ⟨[x0, x1], [], [f0]⟩ [] [u0] [] := by

    have cp (h : x1 ≤ 202) := checkSignal_p (x0 := x0) (x1 := x1) (f0 := f0) r0 ⟨r1.1, by omega⟩

    have cr (h : x1 ≤ 202) := checkSignal_r (x0 := x0) (x1 := x1) (f0 := f0) r0 ⟨r1.1, by omega⟩

    refine gtu (f0 := f0) r0 r1 (R := (· = true)) ⟨true, ha, fun _ => ?_, fun h => by cases h⟩

    simp only [decide_eq_true_eq, decide_eq_false_iff_not, beq_iff_eq, beq_eq_false_iff_ne, ne_eq]

    by_cases hE : (sgE x0 x1 f0).2 = 0

    · have G := sgn_ok hE

      have gn := G.noise; have gf := G.few

      have tp := turns_p G hE r1.1

      have tr := turns_r G r1.1

      have ok := ts_ok (l := lrow f0 x1.toNat) (far := 2 * x0) (by omega) x1.toNat

      rw [hE] at cp cr

      generalize ts (lrow f0 x1.toNat) (2 * x0) x1.toNat = T at *

      have k3 := ok.nn

      rw [show ((x1.toNat : Nat) : Int) = x1 by omega] at k3

      have b0 := ok.b0; have al := ok.al

      refine ⟨fun g => ⟨_, _, cp (by omega), _, _, _, _, _, _, tp, by omega, _, _, cr (by omega), fun _ => ⟨fun _ => ⟨fun _ => ⟨_, _, _, _, _, tr, by omega, fun _ => ⟨fun _ => ?_, fun g => absurd (by trivial) g⟩, fun g => absurd (by trivial) g⟩, fun g => absurd (by trivial) g⟩, fun g => absurd (by trivial) g⟩, fun g => absurd (by trivial) g⟩, fun g => ⟨fun _ => by trivial, fun g => by omega⟩⟩

      refine ⟨fun i => 0 ≤ i ∧ i ≤ T.n, fun i => (T.n - i).toNat, ⟨by omega, by omega⟩, ?_⟩

      rintro i ⟨hi, hi'⟩

      have nx (h : i < T.n) : (0 ≤ i + 1 ∧ i + 1 ≤ T.n) ∧ (T.n - (i + 1)).toNat < (T.n - i).toNat := by omega

      have c0 := b0 i; have c1 := b0 (i - 1)

      refine ⟨by omega, fun _ => by trivial, fun g => ⟨fun g' => by omega, fun _ => ⟨fun h0 => ⟨fun _ => ⟨fun _ => ⟨fun _ => ⟨fun _ => ⟨fun _ => nx (by omega), fun hp => ?_⟩, fun g => absurd (by trivial) g⟩, fun g => absurd (by trivial) g⟩, fun g => absurd (by trivial) g⟩, fun g => absurd h0 g⟩, fun h0 => ⟨fun g => absurd g h0, fun _ => ⟨fun _ => ⟨fun _ => ⟨fun _ => ⟨fun _ => nx (by omega), fun hp => ?_⟩, fun g => absurd (by trivial) g⟩, fun g => absurd (by trivial) g⟩, fun g => absurd (by trivial) g⟩⟩⟩⟩⟩

      · have a := al i (by omega) (by omega)

        exact ⟨fun g => by omega, fun _ => ⟨fun g => absurd (by omega) a.1, fun _ => ⟨fun g => by omega, fun _ => nx (by omega)⟩⟩⟩

      · have a := al i (by omega) (by omega)

        exact ⟨fun g => by omega, fun _ => ⟨fun g => ⟨fun g => by omega, fun _ => nx (by omega)⟩, fun g => absurd (by omega) a.1⟩⟩

    · refine ⟨fun g => ?_, fun g => ⟨fun _ => by trivial, fun _ => ⟨fun g' => ?_, fun _ => by trivial⟩⟩⟩

      all_goals

        have tb := turns_bad hE r0 (by omega)

        exact ⟨_, _, cp (by omega), _, _, _, _, _, _, tb, by omega, _, _, cr (by omega), fun _ => ⟨fun _ => ⟨fun g => absurd g hE, fun _ => ⟨fun _ => by simp, fun g => absurd (by trivial) g⟩⟩, fun g => absurd (by trivial) g⟩, fun g => absurd (by trivial) g⟩

  exact hs

end Go.Proofs.Ytiekcneeedifmaa.Ev
