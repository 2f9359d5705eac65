/- GrowChambers. -/
import Derived.Test.YtheopgjjkgklpaaFgcb
import Derived.Test.YtheopgjjkgklpaaFaw8
namespace Go.Proofs.Ytheopgjjkgklpaa.Ev
set_option linter.unusedSimpArgs false
open Go Go.RowKit
set_option linter.unusedVariables false
set_option maxRecDepth 100000
def etalonlaw08_GrowChambers_s : Sig := ⟨3, ⟨4, 0, 6⟩, ⟨0, 1, 0⟩, [(.agg [(.asl 0 (.var 0)), (.asl 1 (.var 1))]), (.asl 2 (.var 2)), (.int .i64 (.var 3))], [(some ⟨[], 9, true, false, (some ⟨(.var 0), [.str], [(.avar 0)]⟩)⟩), (some ⟨[], 91, true, false, (some ⟨(.var 1), [(.int .i64), .bool, (.int .i64), .bool], [(.avar 1), (.avar 2), (.avar 3), (.avar 4)]⟩)⟩), (some ⟨[], 4, true, false, (some ⟨(.var 2), [.bool], [(.avar 5)]⟩)⟩)], (.bool (.var 0)), []⟩

def gch_t : Tr :=
  (.call etalonlaw08_awake_s ⟨[], [], []⟩ ⟨[], [(.var 0)], []⟩ ⟨8, [], [], [none, none, none, none], (.bool (.var 0)), []⟩
  (.ite (.var 0)
  (.call etalonlaw08_small_s ⟨[(.var 0), (.var 1)], [], [(.avar 0), (.avar 1), (.avar 2), (.avar 3), (.avar 4)]⟩ ⟨[(.var 0), (.var 1)], [(.var 1)], [(.avar 0), (.avar 1), (.avar 2), (.avar 3), (.avar 4)]⟩ ⟨9, [(.agg [(.asl 0 (.var 0)), (.asl 1 (.var 1))])], [0, 1], [(some ⟨[], 9, true, false, (some ⟨(.var 0), [.str], [(.avar 0)]⟩)⟩), (some ⟨[], 91, true, false, (some ⟨(.var 1), [(.int .i64), .bool, (.int .i64), .bool], [(.avar 1), (.avar 2), (.avar 3), (.avar 4)]⟩)⟩), none, none], (.bool (.var 1)), []⟩
   (.ite (.var 1)
   (.ite (.icmp .leq (.var 2) (.lit 12))
    (.call etalonref08_CopyChamber_s ⟨[(.var 0), (.var 1)], [], [(.avar 0), (.avar 1), (.avar 2), (.avar 3), (.avar 4)]⟩ ⟨[(.var 0), (.var 1), (.var 4), (.var 5)], [], [(.avar 0), (.avar 1), (.avar 2), (.avar 3), (.avar 4), (.avar 6), (.avar 7), (.avar 8), (.avar 9), (.avar 10)]⟩ ⟨11, [(.agg [(.asl 0 (.var 0)), (.asl 1 (.var 1))])], [0, 1], [(some ⟨[], 9, true, false, (some ⟨(.var 0), [.str], [(.avar 0)]⟩)⟩), (some ⟨[], 91, true, false, (some ⟨(.var 1), [(.int .i64), .bool, (.int .i64), .bool], [(.avar 1), (.avar 2), (.avar 3), (.avar 4)]⟩)⟩), none, none], (.agg [(.asl 4 (.var 4)), (.asl 5 (.var 5))]), [(some ⟨[], 9, false, true, (some ⟨(.var 4), [.str], [(.avar 6)]⟩)⟩), (some ⟨[], 91, false, true, (some ⟨(.var 5), [(.int .i64), .bool, (.int .i64), .bool], [(.avar 7), (.avar 8), (.avar 9), (.avar 10)]⟩)⟩)]⟩
     (.rng 4 0 140737488355328 (.rng 5 0 140737488355328 (.call grow_CheckChamber_s ⟨[(.var 4), (.var 5)], [], [(.avar 6), (.avar 7), (.avar 8), (.avar 9), (.avar 10)]⟩ ⟨[(.var 4), (.var 5), (.var 6), (.var 7)], [], [(.avar 6), (.avar 7), (.avar 8), (.avar 9), (.avar 10)]⟩ ⟨10, [(.agg [(.asl 4 (.var 4)), (.asl 5 (.var 5))])], [4, 5], [none, none, none, none, (some ⟨[], 9, false, true, (some ⟨(.var 4), [.str], [(.avar 6)]⟩)⟩), (some ⟨[], 91, false, true, (some ⟨(.var 5), [(.int .i64), .bool, (.int .i64), .bool], [(.avar 7), (.avar 8), (.avar 9), (.avar 10)]⟩)⟩)], (.tuple [(.int .i64 (.var 6)), (.int .i64 (.var 7))]), []⟩
     (.call etalonref08_CopyChamber_s ⟨[(.var 0), (.var 1)], [], [(.avar 0), (.avar 1), (.avar 2), (.avar 3), (.avar 4)]⟩ ⟨[(.var 0), (.var 1), (.var 8), (.var 9)], [], [(.avar 0), (.avar 1), (.avar 2), (.avar 3), (.avar 4), (.avar 11), (.avar 12), (.avar 13), (.avar 14), (.avar 15)]⟩ ⟨11, [(.agg [(.asl 0 (.var 0)), (.asl 1 (.var 1))])], [0, 1], [(some ⟨[], 9, true, false, (some ⟨(.var 0), [.str], [(.avar 0)]⟩)⟩), (some ⟨[], 91, true, false, (some ⟨(.var 1), [(.int .i64), .bool, (.int .i64), .bool], [(.avar 1), (.avar 2), (.avar 3), (.avar 4)]⟩)⟩), none, none, none, none], (.agg [(.asl 6 (.var 8)), (.asl 7 (.var 9))]), [(some ⟨[], 9, false, true, (some ⟨(.var 8), [.str], [(.avar 11)]⟩)⟩), (some ⟨[], 91, false, true, (some ⟨(.var 9), [(.int .i64), .bool, (.int .i64), .bool], [(.avar 12), (.avar 13), (.avar 14), (.avar 15)]⟩)⟩)]⟩
     (.rng 8 0 140737488355328 (.rng 9 0 140737488355328 (.call etalonref08_CopyState_s ⟨[(.var 2)], [], [(.avar 5)]⟩ ⟨[(.var 2), (.var 10)], [], [(.avar 5), (.avar 16)]⟩ ⟨13, [(.asl 2 (.var 2))], [2], [none, none, (some ⟨[], 4, true, false, (some ⟨(.var 2), [.bool], [(.avar 5)]⟩)⟩), none, none, none, none, none], (.asl 8 (.var 10)), [(some ⟨[], 4, false, true, (some ⟨(.var 10), [.bool], [(.avar 16)]⟩)⟩)]⟩
     (.rng 10 0 140737488355328 (.call grow_FirstBroken_s ⟨[(.var 8), (.var 9), (.var 10)], [], [(.avar 11), (.avar 12), (.avar 13), (.avar 14), (.avar 15), (.avar 16)]⟩ ⟨[(.var 8), (.var 9), (.var 10), (.var 11), (.var 12)], [], [(.avar 11), (.avar 12), (.avar 13), (.avar 14), (.avar 15), (.avar 16)]⟩ ⟨12, [(.agg [(.asl 6 (.var 8)), (.asl 7 (.var 9))]), (.asl 8 (.var 10))], [6, 7, 8], [none, none, none, none, none, none, (some ⟨[], 9, false, true, (some ⟨(.var 8), [.str], [(.avar 11)]⟩)⟩), (some ⟨[], 91, false, true, (some ⟨(.var 9), [(.int .i64), .bool, (.int .i64), .bool], [(.avar 12), (.avar 13), (.avar 14), (.avar 15)]⟩)⟩), (some ⟨[], 4, false, true, (some ⟨(.var 10), [.bool], [(.avar 16)]⟩)⟩)], (.tuple [(.int .i64 (.var 11)), (.int .i64 (.var 12))]), []⟩
     (.call etalonref08_CopyChamber_s ⟨[(.var 0), (.var 1)], [], [(.avar 0), (.avar 1), (.avar 2), (.avar 3), (.avar 4)]⟩ ⟨[(.var 0), (.var 1), (.var 13), (.var 14)], [], [(.avar 0), (.avar 1), (.avar 2), (.avar 3), (.avar 4), (.avar 17), (.avar 18), (.avar 19), (.avar 20), (.avar 21)]⟩ ⟨11, [(.agg [(.asl 0 (.var 0)), (.asl 1 (.var 1))])], [0, 1], [(some ⟨[], 9, true, false, (some ⟨(.var 0), [.str], [(.avar 0)]⟩)⟩), (some ⟨[], 91, true, false, (some ⟨(.var 1), [(.int .i64), .bool, (.int .i64), .bool], [(.avar 1), (.avar 2), (.avar 3), (.avar 4)]⟩)⟩), none, none, none, none, none, none, none], (.agg [(.asl 9 (.var 13)), (.asl 10 (.var 14))]), [(some ⟨[], 9, false, true, (some ⟨(.var 13), [.str], [(.avar 17)]⟩)⟩), (some ⟨[], 91, false, true, (some ⟨(.var 14), [(.int .i64), .bool, (.int .i64), .bool], [(.avar 18), (.avar 19), (.avar 20), (.avar 21)]⟩)⟩)]⟩
     (.rng 13 0 140737488355328 (.rng 14 0 140737488355328 (.call etalonref08_CopyState_s ⟨[(.var 2)], [], [(.avar 5)]⟩ ⟨[(.var 2), (.var 15)], [], [(.avar 5), (.avar 22)]⟩ ⟨13, [(.asl 2 (.var 2))], [2], [none, none, (some ⟨[], 4, true, false, (some ⟨(.var 2), [.bool], [(.avar 5)]⟩)⟩), none, none, none, none, none, none, none, none], (.asl 11 (.var 15)), [(some ⟨[], 4, false, true, (some ⟨(.var 15), [.bool], [(.avar 22)]⟩)⟩)]⟩
     (.rng 15 0 140737488355328 (.call grow_Switched_s ⟨[(.var 13), (.var 14), (.var 15), (.var 3)], [], [(.avar 17), (.avar 18), (.avar 19), (.avar 20), (.avar 21), (.avar 22)]⟩ ⟨[(.var 13), (.var 14), (.var 15), (.var 3), (.var 16), (.var 17), (.var 18)], [], [(.avar 17), (.avar 18), (.avar 19), (.avar 20), (.avar 21), (.avar 22), (.avar 23)]⟩ ⟨14, [(.agg [(.asl 9 (.var 13)), (.asl 10 (.var 14))]), (.asl 11 (.var 15)), (.int .i64 (.var 3))], [9, 10, 11], [none, none, none, none, none, none, none, none, none, (some ⟨[], 9, false, true, (some ⟨(.var 13), [.str], [(.avar 17)]⟩)⟩), (some ⟨[], 91, false, true, (some ⟨(.var 14), [(.int .i64), .bool, (.int .i64), .bool], [(.avar 18), (.avar 19), (.avar 20), (.avar 21)]⟩)⟩), (some ⟨[], 4, false, true, (some ⟨(.var 15), [.bool], [(.avar 22)]⟩)⟩)], (.tuple [(.asl 12 (.var 16)), (.int .i64 (.var 17)), (.int .i64 (.var 18))]), [(some ⟨[], 4, false, true, (some ⟨(.var 16), [.bool], [(.avar 23)]⟩)⟩)]⟩
     (.rng 16 0 140737488355328 (.call etalonref08_CheckChamber_s ⟨[(.var 0), (.var 1)], [], [(.avar 0), (.avar 1), (.avar 2), (.avar 3), (.avar 4)]⟩ ⟨[(.var 0), (.var 1), (.var 19), (.var 20)], [], [(.avar 0), (.avar 1), (.avar 2), (.avar 3), (.avar 4)]⟩ ⟨15, [(.agg [(.asl 0 (.var 0)), (.asl 1 (.var 1))])], [0, 1], [(some ⟨[], 9, true, false, (some ⟨(.var 0), [.str], [(.avar 0)]⟩)⟩), (some ⟨[], 91, true, false, (some ⟨(.var 1), [(.int .i64), .bool, (.int .i64), .bool], [(.avar 1), (.avar 2), (.avar 3), (.avar 4)]⟩)⟩), none, none, none, none, none, none, none, none, none, none, none], (.tuple [(.int .i64 (.var 19)), (.int .i64 (.var 20))]), []⟩
     (.ite (.icmp .eql (.var 6) (.var 19))
     (.ite (.icmp .eql (.var 7) (.var 20))
      (.ite (.icmp .eql (.var 20) (.lit 0))
       (.call etalonref08_StateErr_s ⟨[(.var 0), (.var 1), (.var 2)], [], [(.avar 0), (.avar 1), (.avar 2), (.avar 3), (.avar 4), (.avar 5)]⟩ ⟨[(.var 0), (.var 1), (.var 2), (.var 21)], [], [(.avar 0), (.avar 1), (.avar 2), (.avar 3), (.avar 4), (.avar 5)]⟩ ⟨16, [(.agg [(.asl 0 (.var 0)), (.asl 1 (.var 1))]), (.asl 2 (.var 2))], [0, 1, 2], [(some ⟨[], 9, true, false, (some ⟨(.var 0), [.str], [(.avar 0)]⟩)⟩), (some ⟨[], 91, true, false, (some ⟨(.var 1), [(.int .i64), .bool, (.int .i64), .bool], [(.avar 1), (.avar 2), (.avar 3), (.avar 4)]⟩)⟩), (some ⟨[], 4, true, false, (some ⟨(.var 2), [.bool], [(.avar 5)]⟩)⟩), none, none, none, none, none, none, none, none, none, none], (.int .i64 (.var 21)), []⟩
        (.ite (.icmp .eql (.var 21) (.lit 0))
        (.call etalonref08_FirstBroken_s ⟨[(.var 0), (.var 1), (.var 2)], [], [(.avar 0), (.avar 1), (.avar 2), (.avar 3), (.avar 4), (.avar 5)]⟩ ⟨[(.var 0), (.var 1), (.var 2), (.var 22)], [], [(.avar 0), (.avar 1), (.avar 2), (.avar 3), (.avar 4), (.avar 5)]⟩ ⟨17, [(.agg [(.asl 0 (.var 0)), (.asl 1 (.var 1))]), (.asl 2 (.var 2))], [0, 1, 2], [(some ⟨[], 9, true, false, (some ⟨(.var 0), [.str], [(.avar 0)]⟩)⟩), (some ⟨[], 91, true, false, (some ⟨(.var 1), [(.int .i64), .bool, (.int .i64), .bool], [(.avar 1), (.avar 2), (.avar 3), (.avar 4)]⟩)⟩), (some ⟨[], 4, true, false, (some ⟨(.var 2), [.bool], [(.avar 5)]⟩)⟩), none, none, none, none, none, none, none, none, none, none], (.int .i64 (.var 22)), []⟩
         (.ite (.icmp .leq (.lit 0) (.var 22))
         (.ite (.icmp .eql (.var 12) (.lit 0))
          (.ite (.icmp .eql (.var 11) (.var 22))
           (.ite (.icmp .leq (.lit 0) (.var 3))
            (.ite (.icmp .leq (.var 3) (.bin .subI (.var 0) (.lit 1)))
             (.call etalonref08_Switched_s ⟨[(.var 2), (.var 3)], [], [(.avar 5)]⟩ ⟨[(.var 2), (.var 3), (.var 23)], [], [(.avar 5), (.avar 24)]⟩ ⟨19, [(.asl 2 (.var 2)), (.int .i64 (.var 3))], [2], [none, none, (some ⟨[], 4, true, false, (some ⟨(.var 2), [.bool], [(.avar 5)]⟩)⟩), none, none, none, none, none, none, none, none, none, none], (.asl 13 (.var 23)), [(some ⟨[], 4, false, true, (some ⟨(.var 23), [.bool], [(.avar 24)]⟩)⟩)]⟩
              (.rng 23 0 140737488355328 (.call etalonref08_FirstBroken_s ⟨[(.var 0), (.var 1), (.var 23)], [], [(.avar 0), (.avar 1), (.avar 2), (.avar 3), (.avar 4), (.avar 24)]⟩ ⟨[(.var 0), (.var 1), (.var 23), (.var 24)], [], [(.avar 0), (.avar 1), (.avar 2), (.avar 3), (.avar 4), (.avar 24)]⟩ ⟨17, [(.agg [(.asl 0 (.var 0)), (.asl 1 (.var 1))]), (.asl 13 (.var 23))], [0, 1, 13], [(some ⟨[], 9, true, false, (some ⟨(.var 0), [.str], [(.avar 0)]⟩)⟩), (some ⟨[], 91, true, false, (some ⟨(.var 1), [(.int .i64), .bool, (.int .i64), .bool], [(.avar 1), (.avar 2), (.avar 3), (.avar 4)]⟩)⟩), none, none, none, none, none, none, none, none, none, none, none, (some ⟨[], 4, false, true, (some ⟨(.var 23), [.bool], [(.avar 24)]⟩)⟩)], (.int .i64 (.var 24)), []⟩
              (.ite (.icmp .leq (.lit 0) (.var 24))
              (.ite (.icmp .eql (.var 18) (.lit 24))
               (.ite (.icmp .eql (.var 17) (.var 24))
                (.ret ⟨[], [(.icmp .eql (.var 16) (.lit 0))], []⟩ [])
                (.ret ⟨[], [(.lit false)], []⟩ []))
               (.ret ⟨[], [(.lit false)], []⟩ []))
              (.ite (.icmp .eql (.var 18) (.lit 0))
               (.ite (.icmp .eql (.var 17) (.lit 0))
                (.call etalonref08_Same_s ⟨[(.var 16), (.var 23)], [], [(.avar 23), (.avar 24)]⟩ ⟨[(.var 16), (.var 23)], [(.var 2)], [(.avar 23), (.avar 24)]⟩ ⟨20, [(.asl 12 (.var 16)), (.asl 13 (.var 23))], [12, 13], [none, none, none, none, none, none, none, none, none, none, none, none, (some ⟨[], 4, false, true, (some ⟨(.var 16), [.bool], [(.avar 23)]⟩)⟩), (some ⟨[], 4, false, true, (some ⟨(.var 23), [.bool], [(.avar 24)]⟩)⟩)], (.bool (.var 2)), []⟩
                 (.ret ⟨[], [(.var 2)], []⟩ []))
                (.ret ⟨[], [(.lit false)], []⟩ []))
               (.ret ⟨[], [(.lit false)], []⟩ []))))))
             (.ite (.icmp .eql (.var 18) (.lit 6))
              (.ite (.icmp .eql (.var 16) (.lit 0))
               (.ret ⟨[], [(.icmp .eql (.var 17) (.lit 0))], []⟩ [])
               (.ret ⟨[], [(.lit false)], []⟩ []))
              (.ret ⟨[], [(.lit false)], []⟩ [])))
            (.ite (.icmp .eql (.var 18) (.lit 6))
             (.ite (.icmp .eql (.var 16) (.lit 0))
              (.ret ⟨[], [(.icmp .eql (.var 17) (.lit 0))], []⟩ [])
              (.ret ⟨[], [(.lit false)], []⟩ []))
             (.ret ⟨[], [(.lit false)], []⟩ [])))
           (.ret ⟨[], [(.lit false)], []⟩ []))
          (.ret ⟨[], [(.lit false)], []⟩ []))
         (.ite (.icmp .eql (.var 12) (.lit 17))
          (.ite (.icmp .eql (.var 11) (.lit 0))
           (.ite (.icmp .leq (.lit 0) (.var 3))
            (.ite (.icmp .leq (.var 3) (.bin .subI (.var 0) (.lit 1)))
             (.call etalonref08_Switched_s ⟨[(.var 2), (.var 3)], [], [(.avar 5)]⟩ ⟨[(.var 2), (.var 3), (.var 23)], [], [(.avar 5), (.avar 24)]⟩ ⟨19, [(.asl 2 (.var 2)), (.int .i64 (.var 3))], [2], [none, none, (some ⟨[], 4, true, false, (some ⟨(.var 2), [.bool], [(.avar 5)]⟩)⟩), none, none, none, none, none, none, none, none, none, none], (.asl 13 (.var 23)), [(some ⟨[], 4, false, true, (some ⟨(.var 23), [.bool], [(.avar 24)]⟩)⟩)]⟩
              (.rng 23 0 140737488355328 (.call etalonref08_FirstBroken_s ⟨[(.var 0), (.var 1), (.var 23)], [], [(.avar 0), (.avar 1), (.avar 2), (.avar 3), (.avar 4), (.avar 24)]⟩ ⟨[(.var 0), (.var 1), (.var 23), (.var 24)], [], [(.avar 0), (.avar 1), (.avar 2), (.avar 3), (.avar 4), (.avar 24)]⟩ ⟨17, [(.agg [(.asl 0 (.var 0)), (.asl 1 (.var 1))]), (.asl 13 (.var 23))], [0, 1, 13], [(some ⟨[], 9, true, false, (some ⟨(.var 0), [.str], [(.avar 0)]⟩)⟩), (some ⟨[], 91, true, false, (some ⟨(.var 1), [(.int .i64), .bool, (.int .i64), .bool], [(.avar 1), (.avar 2), (.avar 3), (.avar 4)]⟩)⟩), none, none, none, none, none, none, none, none, none, none, none, (some ⟨[], 4, false, true, (some ⟨(.var 23), [.bool], [(.avar 24)]⟩)⟩)], (.int .i64 (.var 24)), []⟩
              (.ite (.icmp .leq (.lit 0) (.var 24))
              (.ite (.icmp .eql (.var 18) (.lit 24))
               (.ite (.icmp .eql (.var 17) (.var 24))
                (.ret ⟨[], [(.icmp .eql (.var 16) (.lit 0))], []⟩ [])
                (.ret ⟨[], [(.lit false)], []⟩ []))
               (.ret ⟨[], [(.lit false)], []⟩ []))
              (.ite (.icmp .eql (.var 18) (.lit 0))
               (.ite (.icmp .eql (.var 17) (.lit 0))
                (.call etalonref08_Same_s ⟨[(.var 16), (.var 23)], [], [(.avar 23), (.avar 24)]⟩ ⟨[(.var 16), (.var 23)], [(.var 2)], [(.avar 23), (.avar 24)]⟩ ⟨20, [(.asl 12 (.var 16)), (.asl 13 (.var 23))], [12, 13], [none, none, none, none, none, none, none, none, none, none, none, none, (some ⟨[], 4, false, true, (some ⟨(.var 16), [.bool], [(.avar 23)]⟩)⟩), (some ⟨[], 4, false, true, (some ⟨(.var 23), [.bool], [(.avar 24)]⟩)⟩)], (.bool (.var 2)), []⟩
                 (.ret ⟨[], [(.var 2)], []⟩ []))
                (.ret ⟨[], [(.lit false)], []⟩ []))
               (.ret ⟨[], [(.lit false)], []⟩ []))))))
             (.ite (.icmp .eql (.var 18) (.lit 6))
              (.ite (.icmp .eql (.var 16) (.lit 0))
               (.ret ⟨[], [(.icmp .eql (.var 17) (.lit 0))], []⟩ [])
               (.ret ⟨[], [(.lit false)], []⟩ []))
              (.ret ⟨[], [(.lit false)], []⟩ [])))
            (.ite (.icmp .eql (.var 18) (.lit 6))
             (.ite (.icmp .eql (.var 16) (.lit 0))
              (.ret ⟨[], [(.icmp .eql (.var 17) (.lit 0))], []⟩ [])
              (.ret ⟨[], [(.lit false)], []⟩ []))
             (.ret ⟨[], [(.lit false)], []⟩ [])))
           (.ret ⟨[], [(.lit false)], []⟩ []))
          (.ret ⟨[], [(.lit false)], []⟩ []))))
        (.ite (.icmp .eql (.var 12) (.var 21))
         (.ite (.icmp .eql (.var 18) (.var 21))
          (.ite (.icmp .eql (.var 11) (.lit 0))
           (.ite (.icmp .eql (.var 16) (.lit 0))
            (.ret ⟨[], [(.icmp .eql (.var 17) (.lit 0))], []⟩ [])
            (.ret ⟨[], [(.lit false)], []⟩ []))
           (.ret ⟨[], [(.lit false)], []⟩ []))
          (.ret ⟨[], [(.lit false)], []⟩ []))
         (.ret ⟨[], [(.lit false)], []⟩ []))))
       (.ite (.icmp .eql (.var 12) (.var 20))
        (.ite (.icmp .eql (.var 18) (.var 20))
         (.ite (.icmp .eql (.var 11) (.lit 0))
          (.ite (.icmp .eql (.var 16) (.lit 0))
           (.ret ⟨[], [(.icmp .eql (.var 17) (.lit 0))], []⟩ [])
           (.ret ⟨[], [(.lit false)], []⟩ []))
          (.ret ⟨[], [(.lit false)], []⟩ []))
         (.ret ⟨[], [(.lit false)], []⟩ []))
        (.ret ⟨[], [(.lit false)], []⟩ [])))
      (.ret ⟨[], [(.lit false)], []⟩ []))
     (.ret ⟨[], [(.lit false)], []⟩ []))))))))))))))))))))
    (.ret ⟨[], [(.lit true)], []⟩ []))
   (.ret ⟨[], [(.lit true)], []⟩ [])))
  (.ret ⟨[], [(.lit false)], []⟩ [])))
theorem gch {x0 x1 x2 x3 : Int} {f0 f1 f2 f3 f4 f5 : Int → Int} (r0 : 0 ≤ x0 ∧ x0 ≤ 9223372036854775807) (r1 : 0 ≤ x1 ∧ x1 ≤ 9223372036854775807) (r2 : 0 ≤ x2 ∧ x2 ≤ 9223372036854775807) (r3 : (-9223372036854775808) ≤ x3 ∧ x3 ≤ 9223372036854775807) (s1 : ∀ q, (-9223372036854775808) ≤ f1 q ∧ f1 q ≤ 9223372036854775807) (s3 : ∀ q, (-9223372036854775808) ≤ f3 q ∧ f3 q ≤ 9223372036854775807) {R : Bool → Prop}
  (H : (∃ u0 : Bool, Spec Try.prog etalonlaw08_awake_s ⟨[], [], []⟩ [] [u0] [] ∧
   ((u0 = true → (∃ u1 : Bool, Spec Try.prog etalonlaw08_small_s ⟨[x0, x1], [], [f0, f1, f2, f3, f4]⟩ [] [u1] [] ∧
    ((u1 = true → ((decide ((x2 : Int) ≤ 12) = true → (∃ v4 : Int, ∃ v5 : Int, ∃ g6 : Int → Int, ∃ g7 : Int → Int, ∃ g8 : Int → Int, ∃ g9 : Int → Int, ∃ g10 : Int → Int, Spec Try.prog etalonref08_CopyChamber_s ⟨[x0, x1], [], [f0, f1, f2, f3, f4]⟩ [v4, v5] [] [g6, g7, g8, g9, g10] ∧
      ((0 ≤ (v4 : Int) ∧ (v4 : Int) ≤ 140737488355328) ∧ ((0 ≤ (v5 : Int) ∧ (v5 : Int) ≤ 140737488355328) ∧ (∃ v6 : Int, ∃ v7 : Int, Spec Try.prog grow_CheckChamber_s ⟨[v4, v5], [], [g6, g7, g8, g9, g10]⟩ [v6, v7] [] [] ∧
      (∃ v8 : Int, ∃ v9 : Int, ∃ g11 : Int → Int, ∃ g12 : Int → Int, ∃ g13 : Int → Int, ∃ g14 : Int → Int, ∃ g15 : Int → Int, Spec Try.prog etalonref08_CopyChamber_s ⟨[x0, x1], [], [f0, f1, f2, f3, f4]⟩ [v8, v9] [] [g11, g12, g13, g14, g15] ∧
      ((0 ≤ (v8 : Int) ∧ (v8 : Int) ≤ 140737488355328) ∧ ((0 ≤ (v9 : Int) ∧ (v9 : Int) ≤ 140737488355328) ∧ (∃ v10 : Int, ∃ g16 : Int → Int, Spec Try.prog etalonref08_CopyState_s ⟨[x2], [], [f5]⟩ [v10] [] [g16] ∧
      ((0 ≤ (v10 : Int) ∧ (v10 : Int) ≤ 140737488355328) ∧ (∃ v11 : Int, ∃ v12 : Int, Spec Try.prog grow_FirstBroken_s ⟨[v8, v9, v10], [], [g11, g12, g13, g14, g15, g16]⟩ [v11, v12] [] [] ∧
      (∃ v13 : Int, ∃ v14 : Int, ∃ g17 : Int → Int, ∃ g18 : Int → Int, ∃ g19 : Int → Int, ∃ g20 : Int → Int, ∃ g21 : Int → Int, Spec Try.prog etalonref08_CopyChamber_s ⟨[x0, x1], [], [f0, f1, f2, f3, f4]⟩ [v13, v14] [] [g17, g18, g19, g20, g21] ∧
      ((0 ≤ (v13 : Int) ∧ (v13 : Int) ≤ 140737488355328) ∧ ((0 ≤ (v14 : Int) ∧ (v14 : Int) ≤ 140737488355328) ∧ (∃ v15 : Int, ∃ g22 : Int → Int, Spec Try.prog etalonref08_CopyState_s ⟨[x2], [], [f5]⟩ [v15] [] [g22] ∧
      ((0 ≤ (v15 : Int) ∧ (v15 : Int) ≤ 140737488355328) ∧ (∃ v16 : Int, ∃ v17 : Int, ∃ v18 : Int, ∃ g23 : Int → Int, Spec Try.prog grow_Switched_s ⟨[v13, v14, v15, x3], [], [g17, g18, g19, g20, g21, g22]⟩ [v16, v17, v18] [] [g23] ∧
      ((0 ≤ (v16 : Int) ∧ (v16 : Int) ≤ 140737488355328) ∧ (∃ v19 : Int, ∃ v20 : Int, Spec Try.prog etalonref08_CheckChamber_s ⟨[x0, x1], [], [f0, f1, f2, f3, f4]⟩ [v19, v20] [] [] ∧
      ((((v6 : Int) == v19) = true → ((((v7 : Int) == v20) = true → ((((v20 : Int) == 0) = true → (∃ v21 : Int, Spec Try.prog etalonref08_StateErr_s ⟨[x0, x1, x2], [], [f0, f1, f2, f3, f4, f5]⟩ [v21] [] [] ∧
         ((((v21 : Int) == 0) = true → (∃ v22 : Int, Spec Try.prog etalonref08_FirstBroken_s ⟨[x0, x1, x2], [], [f0, f1, f2, f3, f4, f5]⟩ [v22] [] [] ∧
          ((decide ((0 : Int) ≤ v22) = true → ((((v12 : Int) == 0) = true → ((((v11 : Int) == v22) = true → ((decide ((0 : Int) ≤ x3) = true → ((decide ((x3 : Int) ≤ (x0 - 1)) = true → (∃ v23 : Int, ∃ g24 : Int → Int, Spec Try.prog etalonref08_Switched_s ⟨[x2, x3], [], [f5]⟩ [v23] [] [g24] ∧
               ((0 ≤ (v23 : Int) ∧ (v23 : Int) ≤ 140737488355328) ∧ (∃ v24 : Int, Spec Try.prog etalonref08_FirstBroken_s ⟨[x0, x1, v23], [], [f0, f1, f2, f3, f4, g24]⟩ [v24] [] [] ∧
               ((decide ((0 : Int) ≤ v24) = true → ((((v18 : Int) == 24) = true → ((((v17 : Int) == v24) = true → R (((v16 : Int) == 0))) ∧
                 (((v17 : Int) == v24) = false → R (false)))) ∧
                (((v18 : Int) == 24) = false → R (false)))) ∧
               (decide ((0 : Int) ≤ v24) = false → ((((v18 : Int) == 0) = true → ((((v17 : Int) == 0) = true → (∃ u2 : Bool, Spec Try.prog etalonref08_Same_s ⟨[v16, v23], [], [g23, g24]⟩ [] [u2] [] ∧
                  R (u2))) ∧
                 (((v17 : Int) == 0) = false → R (false)))) ∧
                (((v18 : Int) == 0) = false → R (false))))))))) ∧
              (decide ((x3 : Int) ≤ (x0 - 1)) = false → ((((v18 : Int) == 6) = true → ((((v16 : Int) == 0) = true → R (((v17 : Int) == 0))) ∧
                (((v16 : Int) == 0) = false → R (false)))) ∧
               (((v18 : Int) == 6) = false → R (false)))))) ∧
             (decide ((0 : Int) ≤ x3) = false → ((((v18 : Int) == 6) = true → ((((v16 : Int) == 0) = true → R (((v17 : Int) == 0))) ∧
               (((v16 : Int) == 0) = false → R (false)))) ∧
              (((v18 : Int) == 6) = false → R (false)))))) ∧
            (((v11 : Int) == v22) = false → R (false)))) ∧
           (((v12 : Int) == 0) = false → R (false)))) ∧
          (decide ((0 : Int) ≤ v22) = false → ((((v12 : Int) == 17) = true → ((((v11 : Int) == 0) = true → ((decide ((0 : Int) ≤ x3) = true → ((decide ((x3 : Int) ≤ (x0 - 1)) = true → (∃ v23 : Int, ∃ g24 : Int → Int, Spec Try.prog etalonref08_Switched_s ⟨[x2, x3], [], [f5]⟩ [v23] [] [g24] ∧
               ((0 ≤ (v23 : Int) ∧ (v23 : Int) ≤ 140737488355328) ∧ (∃ v24 : Int, Spec Try.prog etalonref08_FirstBroken_s ⟨[x0, x1, v23], [], [f0, f1, f2, f3, f4, g24]⟩ [v24] [] [] ∧
               ((decide ((0 : Int) ≤ v24) = true → ((((v18 : Int) == 24) = true → ((((v17 : Int) == v24) = true → R (((v16 : Int) == 0))) ∧
                 (((v17 : Int) == v24) = false → R (false)))) ∧
                (((v18 : Int) == 24) = false → R (false)))) ∧
               (decide ((0 : Int) ≤ v24) = false → ((((v18 : Int) == 0) = true → ((((v17 : Int) == 0) = true → (∃ u2 : Bool, Spec Try.prog etalonref08_Same_s ⟨[v16, v23], [], [g23, g24]⟩ [] [u2] [] ∧
                  R (u2))) ∧
                 (((v17 : Int) == 0) = false → R (false)))) ∧
                (((v18 : Int) == 0) = false → R (false))))))))) ∧
              (decide ((x3 : Int) ≤ (x0 - 1)) = false → ((((v18 : Int) == 6) = true → ((((v16 : Int) == 0) = true → R (((v17 : Int) == 0))) ∧
                (((v16 : Int) == 0) = false → R (false)))) ∧
               (((v18 : Int) == 6) = false → R (false)))))) ∧
             (decide ((0 : Int) ≤ x3) = false → ((((v18 : Int) == 6) = true → ((((v16 : Int) == 0) = true → R (((v17 : Int) == 0))) ∧
               (((v16 : Int) == 0) = false → R (false)))) ∧
              (((v18 : Int) == 6) = false → R (false)))))) ∧
            (((v11 : Int) == 0) = false → R (false)))) ∧
           (((v12 : Int) == 17) = false → R (false))))))) ∧
         (((v21 : Int) == 0) = false → ((((v12 : Int) == v21) = true → ((((v18 : Int) == v21) = true → ((((v11 : Int) == 0) = true → ((((v16 : Int) == 0) = true → R (((v17 : Int) == 0))) ∧
             (((v16 : Int) == 0) = false → R (false)))) ∧
            (((v11 : Int) == 0) = false → R (false)))) ∧
           (((v18 : Int) == v21) = false → R (false)))) ∧
          (((v12 : Int) == v21) = false → R (false))))))) ∧
        (((v20 : Int) == 0) = false → ((((v12 : Int) == v20) = true → ((((v18 : Int) == v20) = true → ((((v11 : Int) == 0) = true → ((((v16 : Int) == 0) = true → R (((v17 : Int) == 0))) ∧
            (((v16 : Int) == 0) = false → R (false)))) ∧
           (((v11 : Int) == 0) = false → R (false)))) ∧
          (((v18 : Int) == v20) = false → R (false)))) ∧
         (((v12 : Int) == v20) = false → R (false)))))) ∧
       (((v7 : Int) == v20) = false → R (false)))) ∧
      (((v6 : Int) == v19) = false → R (false)))))))))))))))))))))) ∧
     (decide ((x2 : Int) ≤ 12) = false → R (true)))) ∧
    (u1 = false → R (true))))) ∧
   (u0 = false → R (false))))) :
    ∃ u0 : Bool, R u0 ∧ Spec Try.prog etalonlaw08_GrowChambers_s ⟨[x0, x1, x2, x3], [], [f0, f1, f2, f3, f4, f5]⟩ [] [u0] [] :=
  Eq.mp (by kernel_rfl) (exV_of (K := fun d => app3 etalonlaw08_GrowChambers_s.out R d ∧ Spec Try.prog etalonlaw08_GrowChambers_s ⟨[x0, x1, x2, x3], [], [f0, f1, f2, f3, f4, f5]⟩ d.1 d.2.1 d.2.2) (tree_at mixed names S1_ok (S := S1 Try.prog) (lf := 100000) (d := 60) etalonlaw08_GrowChambers_s gch_t { ivs := [(0, 0, 9223372036854775807), (1, 0, 9223372036854775807), (2, 0, 9223372036854775807), (3, (-9223372036854775808), 9223372036854775807)], aivs := [(1, (-9223372036854775808), 9223372036854775807), (3, (-9223372036854775808), 9223372036854775807)] } ⟨[x0, x1, x2, x3], [], [f0, f1, f2, f3, f4, f5]⟩ rfl (by kernel_rfl) (by kernel_rfl) (by kernel_rfl) ⟨(fc r0 (fc r1 (fc r2 (fc r3 fz)))), fz, (fc s1 (fc s3 fz)), fz⟩ (R := fun d => app3 etalonlaw08_GrowChambers_s.out R d) (Eq.mp (by kernel_rfl) H)))

theorem small_s {x0 x1 : Int} {f0 f1 f2 f3 f4 : Int → Int} (r0 : 0 ≤ x0 ∧ x0 ≤ 9223372036854775807) (r1 : 0 ≤ x1 ∧ x1 ≤ 9223372036854775807) (s1 : ∀ q, I64 (f1 q)) (s3 : ∀ q, I64 (f3 q)) : ∃ u : Bool, (u = true → x0 ≤ 10 ∧ x1 ≤ 32) ∧ Spec Try.prog etalonlaw08_small_s ⟨[x0, x1], [], [f0, f1, f2, f3, f4]⟩ [] [u] [] := by

  refine sml r0 r1 s1 s3 (R := fun u => u = true → x0 ≤ 10 ∧ x1 ≤ 32) ?_

  simp only [decide_eq_true_eq, decide_eq_false_iff_not]

  refine ⟨fun h g => ⟨by omega, g⟩, fun h => ⟨fun g k => ?_, fun g => ⟨fun i k => ⟨i, k⟩, fun i k => ?_⟩⟩⟩

  · cases k

  · cases k

theorem chamIs_zero {x0 x1 k : Int} {f0 f1 f3 : Int → Int} (h : chamIs x0 x1 f0 f1 f3 k 0) : k = 0 ∧ devsOk x0 f0 ∧ rulesOk x0 x1 f1 f3 := by

  generalize he : (0 : Int) = e at h

  cases h with

  | many g => omega

  | dev g => rcases g.2 with ⟨_, h⟩ | ⟨_, _, h⟩ <;> omega

  | long _ _ => omega

  | rule _ _ => omega

  | ok d r => exact ⟨he.symm, d, r⟩

theorem fb_two {x1 k : Int} {f1 f2 f3 f4 f5 : Int → Int} {kr : Int} {e : Int} (h : fbIs x1 f1 f2 f3 f4 f5 k e) (g : fbIs x1 f1 f2 f3 f4 f5 kr 0 ∨ (kr = -1 ∧ fbIs x1 f1 f2 f3 f4 f5 0 17)) : (0 ≤ kr ∧ k = kr ∧ e = 0) ∨ (kr = -1 ∧ k = 0 ∧ e = 17) := by

  rcases g with g | ⟨g1, g⟩

  · have := fbIs_uniq h g

    refine .inl ⟨?_, this.1, this.2⟩

    rcases g with ⟨_, g, _⟩ | ⟨g, _⟩

    · exact g.1

    · omega

  · have := fbIs_uniq h g

    exact .inr ⟨g1, this.1, this.2⟩

theorem chambersLaw {x0 x1 x2 x3 : Int} {f0 f1 f2 f3 f4 f5 : Int → Int} (r0 : 0 ≤ x0 ∧ x0 ≤ 9223372036854775807) (r1 : 0 ≤ x1 ∧ x1 ≤ 9223372036854775807) (r2 : 0 ≤ x2 ∧ x2 ≤ 9223372036854775807) (r3 : (-9223372036854775808) ≤ x3 ∧ x3 ≤ 9223372036854775807) (s1 : ∀ q, (-9223372036854775808) ≤ f1 q ∧ f1 q ≤ 9223372036854775807) (s3 : ∀ q, (-9223372036854775808) ≤ f3 q ∧ f3 q ≤ 9223372036854775807) :

    Spec Try.prog etalonlaw08_GrowChambers_s ⟨[x0, x1, x2, x3], [], [f0, f1, f2, f3, f4, f5]⟩ [] [true] [] := by

  obtain ⟨a0, rfl, ha⟩ := awake

  obtain ⟨u, hsm, us⟩ := small_s (f0 := f0) (f2 := f2) (f4 := f4) r0 r1 s1 s3

  suffices hh : ∃ b : Bool, b = true ∧ Spec Try.prog etalonlaw08_GrowChambers_s ⟨[x0, x1, x2, x3], [], [f0, f1, f2, f3, f4, f5]⟩ [] [b] [] by

    obtain ⟨b, rfl, hs⟩ := hh

    exact hs

  refine gch r0 r1 r2 r3 s1 s3 (R := (· = true)) ⟨true, ha, fun _ => ⟨u, us, fun hu => ⟨fun h12 => ?_, fun _ => rfl⟩, fun _ => rfl⟩, fun h => by cases h⟩

  obtain ⟨hx0, hx1⟩ := hsm hu

  have h12 := of_decide_eq_true h12

  have q0 : 0 ≤ x0 ∧ x0 ≤ 10 := ⟨r0.1, hx0⟩

  have q1 : 0 ≤ x1 ∧ x1 ≤ 32 := ⟨r1.1, hx1⟩

  have q2 : 0 ≤ x2 ∧ x2 ≤ 12 := ⟨r2.1, h12⟩

  have cc := copyChamber_s (f0 := f0) (f2 := f2) (f4 := f4) q0 q1 s1 s3

  have cs := copyState_s (f0 := f5) q2

  have l0 : 0 ≤ x0 ∧ x0 ≤ 140737488355328 := ⟨r0.1, by omega⟩

  have l1 : 0 ≤ x1 ∧ x1 ≤ 140737488355328 := ⟨r1.1, by omega⟩

  have l2 : 0 ≤ x2 ∧ x2 ≤ 140737488355328 := ⟨r2.1, by omega⟩

  obtain ⟨k, e, hc, hp, hr⟩ := chambers (f2 := f2) (f4 := f4) q0 q1 s1 s3

  have se := stateErr_r (f0 := f0) (f2 := f2) (f4 := f4) (f5 := f5) l0 l1 l2 s1 s3

  by_cases ok : e = 0

  · subst ok

    obtain ⟨hk, dv, rl⟩ := chamIs_zero hc

    subst hk

    by_cases sh : x0 = x2

    · subst sh

      rw [if_pos rfl] at se

      obtain ⟨kf, ef, hf, FB⟩ := firstBroken_p (f2 := f2) (f4 := f4) (f5 := f5) r0.1 r1.1 s1 s3 dv rl

      obtain ⟨kr, hkr, hfr⟩ := firstBroken_r (f2 := f2) (f4 := f4) (f5 := f5) r0.1 r1.1 s1 s3 dv rl

      have two := fb_two hf hkr

      by_cases h3 : 0 ≤ x3 ∧ x3 ≤ x0 - 1

      · obtain ⟨ks, es, hs, hsw⟩ := switched_p (f2 := f2) (f4 := f4) (f5 := f5) r0.1 r1.1 s1 s3 dv rl h3

        obtain ⟨kn, hkn, hfn⟩ := firstBroken_r (f2 := f2) (f4 := f4) (f5 := flip f5 x3) r0.1 r1.1 s1 s3 dv rl

        have two' := fb_two hs hkn

        have rs := switched_r (f0 := f5) (x1 := x3) q2 ⟨h3.1, by omega⟩

        rcases hsw with ⟨h5, SW⟩ | ⟨h5, SW⟩

        · refine ⟨_, _, _, _, _, _, _, cc, l0, l1, _, _, hp, _, _, _, _, _, _, _, cc, l0, l1, _, _, cs, l2, _, _, FB, _, _, _, _, _, _, _, cc, l0, l1, _, _, cs, l2, _, _, _, _, SW, ⟨by omega, by omega⟩, _, _, hr, fun _ => ⟨fun _ => ?_, fun h => by simp at h⟩, fun h => by simp at h⟩

          refine ⟨fun _ => ⟨_, se, fun _ => ⟨_, hfr, ?_⟩, fun h => by simp at h⟩, fun h => by simp at h⟩

          simp only [decide_eq_true_eq, decide_eq_false_iff_not, beq_iff_eq, beq_eq_false_iff_ne, ne_eq]

          rcases two with ⟨t1, t2, t3⟩ | ⟨t1, t2, t3⟩

          · subst t2 t3

            refine ⟨fun _ => ⟨fun _ => ⟨fun _ => ⟨fun a => ⟨fun b => ⟨_, _, rs, l0, _, hfn, ?_⟩, fun b => absurd h3.2 b⟩, fun a => absurd h3.1 a⟩, fun h => absurd (by trivial) h⟩, fun h => absurd (by trivial) h⟩, fun h => absurd t1 h⟩

            rcases two' with ⟨t4, t5, t6⟩ | ⟨t4, t5, t6⟩

            · subst t5

              exact ⟨fun _ => ⟨fun _ => ⟨fun _ => by simp, fun h => absurd (by trivial) h⟩, fun h => absurd (by trivial) h⟩, fun h => absurd t4 h⟩

            · omega

          · subst t1 t2 t3

            refine ⟨fun h => by omega, fun _ => ⟨fun _ => ⟨fun _ => ⟨fun a => ⟨fun b => ⟨_, _, rs, l0, _, hfn, ?_⟩, fun b => absurd h3.2 b⟩, fun a => absurd h3.1 a⟩, fun h => absurd (by trivial) h⟩, fun h => absurd (by trivial) h⟩⟩

            rcases two' with ⟨t4, t5, t6⟩ | ⟨t4, t5, t6⟩

            · subst t5

              exact ⟨fun _ => ⟨fun _ => ⟨fun _ => by simp, fun h => absurd (by trivial) h⟩, fun h => absurd (by trivial) h⟩, fun h => absurd t4 h⟩

            · omega

        · refine ⟨_, _, _, _, _, _, _, cc, l0, l1, _, _, hp, _, _, _, _, _, _, _, cc, l0, l1, _, _, cs, l2, _, _, FB, _, _, _, _, _, _, _, cc, l0, l1, _, _, cs, l2, _, _, _, _, SW, ⟨by omega, by omega⟩, _, _, hr, fun _ => ⟨fun _ => ?_, fun h => by simp at h⟩, fun h => by simp at h⟩

          refine ⟨fun _ => ⟨_, se, fun _ => ⟨_, hfr, ?_⟩, fun h => by simp at h⟩, fun h => by simp at h⟩

          simp only [decide_eq_true_eq, decide_eq_false_iff_not, beq_iff_eq, beq_eq_false_iff_ne, ne_eq]

          rcases two with ⟨t1, t2, t3⟩ | ⟨t1, t2, t3⟩

          · subst t2 t3

            refine ⟨fun _ => ⟨fun _ => ⟨fun _ => ⟨fun a => ⟨fun b => ⟨_, _, rs, l0, _, hfn, ?_⟩, fun b => absurd h3.2 b⟩, fun a => absurd h3.1 a⟩, fun h => absurd (by trivial) h⟩, fun h => absurd (by trivial) h⟩, fun h => absurd t1 h⟩

            rcases two' with ⟨t4, t5, t6⟩ | ⟨t4, t5, t6⟩

            · omega

            · subst t4

              exact ⟨fun h => by omega, fun _ => ⟨fun _ => ⟨fun _ => ⟨_, same_r q2, rfl⟩, fun h => absurd (by trivial) h⟩, fun h => absurd (by trivial) h⟩⟩

          · subst t1 t2 t3

            refine ⟨fun h => by omega, fun _ => ⟨fun _ => ⟨fun _ => ⟨fun a => ⟨fun b => ⟨_, _, rs, l0, _, hfn, ?_⟩, fun b => absurd h3.2 b⟩, fun a => absurd h3.1 a⟩, fun h => absurd (by trivial) h⟩, fun h => absurd (by trivial) h⟩⟩

            rcases two' with ⟨t4, t5, t6⟩ | ⟨t4, t5, t6⟩

            · omega

            · subst t4

              exact ⟨fun h => by omega, fun _ => ⟨fun _ => ⟨fun _ => ⟨_, same_r q2, rfl⟩, fun h => absurd (by trivial) h⟩, fun h => absurd (by trivial) h⟩⟩

      · have SW := switched_no (f2 := f2) (f4 := f4) (f5 := f5) q0 q1 q2 r3 s1 s3 hc (fun g => h3 ⟨g.2.2.1, g.2.2.2⟩)

        rw [if_pos rfl, if_pos rfl] at SW

        refine ⟨_, _, _, _, _, _, _, cc, l0, l1, _, _, hp, _, _, _, _, _, _, _, cc, l0, l1, _, _, cs, l2, _, _, FB, _, _, _, _, _, _, _, cc, l0, l1, _, _, cs, l2, _, _, _, _, SW, ⟨by omega, by omega⟩, _, _, hr, fun _ => ⟨fun _ => ?_, fun h => by simp at h⟩, fun h => by simp at h⟩

        refine ⟨fun _ => ⟨_, se, fun _ => ⟨_, hfr, ?_⟩, fun h => by simp at h⟩, fun h => by simp at h⟩

        simp only [decide_eq_true_eq, decide_eq_false_iff_not, beq_iff_eq, beq_eq_false_iff_ne, ne_eq]

        rcases two with ⟨t1, t2, t3⟩ | ⟨t1, t2, t3⟩

        · subst t2 t3

          refine ⟨fun _ => ⟨fun _ => ⟨fun _ => ⟨fun a => ⟨fun b => absurd ⟨a, b⟩ h3, fun _ => by simp⟩, fun _ => by simp⟩, fun h => absurd (by trivial) h⟩, fun h => absurd (by trivial) h⟩, fun h => absurd t1 h⟩

        · subst t1 t2 t3

          refine ⟨fun h => by omega, fun _ => ⟨fun _ => ⟨fun _ => ⟨fun a => ⟨fun b => absurd ⟨a, b⟩ h3, fun _ => by simp⟩, fun _ => by simp⟩, fun h => absurd (by trivial) h⟩, fun h => absurd (by trivial) h⟩⟩

    · have FB := shape_no (f2 := f2) (f4 := f4) (f5 := f5) q0 q1 q2 s1 s3 hc (fun g => sh g.2.symm)

      have SW := switched_no (f2 := f2) (f4 := f4) (f5 := f5) q0 q1 q2 r3 s1 s3 hc (fun g => sh g.2.1.symm)

      have sh' : ¬ x2 = x0 := fun g => sh g.symm

      rw [if_pos rfl] at FB SW

      rw [if_neg sh'] at SW se

      refine ⟨_, _, _, _, _, _, _, cc, l0, l1, _, _, hp, _, _, _, _, _, _, _, cc, l0, l1, _, _, cs, l2, _, _, FB, _, _, _, _, _, _, _, cc, l0, l1, _, _, cs, l2, _, _, _, _, SW, ⟨by omega, by omega⟩, _, _, hr, fun _ => ⟨fun _ => ?_, fun h => by simp at h⟩, fun h => by simp at h⟩

      exact ⟨fun _ => ⟨_, se, fun h => by simp at h, fun _ => by simp⟩, fun h => by simp at h⟩

  · have FB := shape_no (f2 := f2) (f4 := f4) (f5 := f5) q0 q1 q2 s1 s3 hc (fun g => ok g.1)

    have SW := switched_no (f2 := f2) (f4 := f4) (f5 := f5) q0 q1 q2 r3 s1 s3 hc (fun g => ok g.1)

    rw [if_neg ok] at FB SW

    refine ⟨_, _, _, _, _, _, _, cc, l0, l1, _, _, hp, _, _, _, _, _, _, _, cc, l0, l1, _, _, cs, l2, _, _, FB, _, _, _, _, _, _, _, cc, l0, l1, _, _, cs, l2, _, _, _, _, SW, ⟨by omega, by omega⟩, _, _, hr, fun _ => ⟨fun _ => ?_, fun h => by simp at h⟩, fun h => by simp at h⟩

    exact ⟨fun h => absurd (eq_of_beq h) ok, fun _ => by simp⟩

end Go.Proofs.Ytheopgjjkgklpaa.Ev
