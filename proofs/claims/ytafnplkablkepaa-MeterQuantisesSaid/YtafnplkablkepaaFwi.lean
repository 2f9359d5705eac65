/- MeterQuantises. -/
import Derived.Test.YtafnplkablkepaaFwh
import Derived.Test.YtafnplkablkepaaFaw6
namespace Go.Proofs.Ytafnplkablkepaa.Ev
set_option linter.unusedSimpArgs false
open Go Go.RowKit
set_option linter.unusedVariables false
set_option maxRecDepth 100000
def etalonlaw06_MeterQuantises_s : Sig := ⟨5, ⟨2, 0, 1⟩, ⟨0, 1, 0⟩, [(.asl 0 (.var 0)), (.int .i64 (.var 1))], [(some ⟨[], 3, true, false, (some ⟨(.var 0), [(.int .i64)], [(.avar 0)]⟩)⟩)], (.bool (.var 0)), []⟩

def mqu_t : Tr :=
  (.call etalonlaw06_awake_s ⟨[], [], []⟩ ⟨[], [(.var 0)], []⟩ ⟨7, [], [], [none], (.bool (.var 0)), []⟩
  (.ite (.var 0)
  (.ite (.icmp .leq (.var 0) (.lit 70))
   (.call meter_Quantised_s ⟨[(.var 0), (.var 1)], [], [(.avar 0)]⟩ ⟨[(.var 0), (.var 1), (.var 2), (.var 3)], [], [(.avar 0), (.avar 1)]⟩ ⟨20, [(.asl 2 (.var 0)), (.int .i64 (.var 1))], [2], [none, none, (some ⟨[], 3, false, true, (some ⟨(.var 0), [(.int .i64)], [(.avar 0)]⟩)⟩)], (.tuple [(.asl 3 (.var 2)), (.int .i64 (.var 3))]), [(some ⟨[], 65, false, true, (some ⟨(.var 2), [(.float .f32)], [(.avar 1)]⟩)⟩)]⟩
    (.rng 2 0 64 (.call etalonref06_Quantised_s ⟨[(.var 0), (.var 1)], [], [(.avar 0)]⟩ ⟨[(.var 0), (.var 1), (.var 4), (.var 5)], [], [(.avar 0), (.avar 2)]⟩ ⟨22, [(.asl 0 (.var 0)), (.int .i64 (.var 1))], [0], [(some ⟨[], 3, true, false, (some ⟨(.var 0), [(.int .i64)], [(.avar 0)]⟩)⟩), none, none, none], (.tuple [(.asl 4 (.var 4)), (.int .i64 (.var 5))]), [(some ⟨[], 65, false, true, (some ⟨(.var 4), [(.float .f32)], [(.avar 2)]⟩)⟩)]⟩
    (.rng 4 0 140737488355328 (.ite (.icmp .eql (.var 3) (.var 5))
    (.ite (.icmp .eql (.var 2) (.var 4))
     (.loop ⟨23, [0, 1, 0, 1, 1], [(.asl 3 (.var 2)), (.asl 4 (.var 4)), (.tuple []), (.tuple []), (.bool (.lit false)), (.int .i64 (.lit 0)), (.asl 3 (.var 2)), (.int .i64 (.var 2)), (.asl 4 (.var 4)), (.int .i64 (.var 4)), (.bool (.icmp .neq (.var 2) (.var 4))), (.tuple []), (.tuple []), (.tuple []), (.tuple []), (.tuple []), (.tuple []), (.tuple []), (.tuple []), (.tuple []), (.tuple []), (.tuple []), (.tuple []), (.tuple []), (.tuple []), (.tuple []), (.tuple []), (.tuple [])], [(some ⟨[], 3, true, false, (some ⟨(.var 0), [(.int .i64)], [(.avar 0)]⟩)⟩), (some ⟨[], 3, false, false, none⟩), (some ⟨[], 3, false, true, (some ⟨(.var 0), [(.int .i64)], [(.avar 0)]⟩)⟩), (some ⟨[], 65, false, true, (some ⟨(.var 2), [(.float .f32)], [(.avar 1)]⟩)⟩), (some ⟨[], 65, false, true, (some ⟨(.var 4), [(.float .f32)], [(.avar 2)]⟩)⟩)], [], [(.asl 3 (.var 2)), (.asl 4 (.var 4)), (.tuple []), (.tuple []), (.bool (.lit false)), (.int .i64 (.var 6)), (.asl 3 (.var 2)), (.int .i64 (.var 2)), (.asl 4 (.var 4)), (.int .i64 (.var 4)), (.bool (.icmp .neq (.var 2) (.var 4))), (.any 11), (.any 12), (.any 13), (.any 14), (.any 15), (.any 16), (.any 17), (.any 18), (.any 19), (.any 20), (.any 21), (.any 22), (.any 23), (.any 24), (.any 25), (.any 26), (.any 27)], [(some ⟨[], 3, true, false, (some ⟨(.var 0), [(.int .i64)], [(.avar 0)]⟩)⟩), (some ⟨[], 3, false, false, none⟩), (some ⟨[], 3, false, true, (some ⟨(.var 0), [(.int .i64)], [(.avar 0)]⟩)⟩), (some ⟨[], 65, false, true, (some ⟨(.var 2), [(.float .f32)], [(.avar 1)]⟩)⟩), (some ⟨[], 65, false, true, (some ⟨(.var 4), [(.float .f32)], [(.avar 2)]⟩)⟩)], [], ⟨1, 0, 0⟩, ⟨[(.lit 0)], [], []⟩, []⟩
      (.rng 6 0 70 (.ite (.icmp .leq (.var 2) (.var 6))
       (.out 1 ⟨[], [], []⟩ [])
       (.ite (.icmp .leq (.var 4) (.var 6))
        .nil
        (.ite (.icmp .eql (.bin .maxI (.sel (.avar 1) (.var 6)) (.lit 0)) (.bin .maxI (.sel (.avar 2) (.var 6)) (.lit 0)))
         (.next ⟨[(.bin .addI (.var 6) (.lit 1))], [], []⟩ [])
         (.out 0 ⟨[], [], []⟩ [])))))
      (.ex (.ret, [(.asl 3 (.var 2)), (.asl 4 (.var 4)), (.tuple []), (.tuple []), (.bool (.lit false)), (.any 5), (.asl 3 (.var 2)), (.int .i64 (.var 2)), (.asl 4 (.var 4)), (.int .i64 (.var 4)), (.bool (.icmp .neq (.var 2) (.var 4))), (.any 11), (.any 12), (.any 13), (.any 14), (.any 15), (.any 16), (.any 17), (.any 18), (.any 19), (.any 20), (.any 21), (.any 22), (.any 23), (.any 24), (.any 25), (.any 26), (.any 27)], [(some ⟨[], 3, true, false, (some ⟨(.var 0), [(.int .i64)], [(.avar 0)]⟩)⟩), (some ⟨[], 3, false, false, none⟩), (some ⟨[], 3, false, true, (some ⟨(.var 0), [(.int .i64)], [(.avar 0)]⟩)⟩), (some ⟨[], 65, false, true, (some ⟨(.var 2), [(.float .f32)], [(.avar 1)]⟩)⟩), (some ⟨[], 65, false, true, (some ⟨(.var 4), [(.float .f32)], [(.avar 2)]⟩)⟩)], []) ⟨0, 0, 0⟩
      (.ret ⟨[], [(.lit false)], []⟩ [])
      (.ex ((.exit 0), [(.asl 3 (.var 2)), (.asl 4 (.var 4)), (.tuple []), (.tuple []), (.bool (.lit false)), (.any 5), (.asl 3 (.var 2)), (.int .i64 (.var 2)), (.asl 4 (.var 4)), (.int .i64 (.var 4)), (.bool (.icmp .neq (.var 2) (.var 4))), (.any 11), (.any 12), (.any 13), (.any 14), (.any 15), (.any 16), (.any 17), (.any 18), (.any 19), (.any 20), (.any 21), (.any 22), (.any 23), (.any 24), (.any 25), (.any 26), (.any 27)], [(some ⟨[], 3, true, false, (some ⟨(.var 0), [(.int .i64)], [(.avar 0)]⟩)⟩), (some ⟨[], 3, false, false, none⟩), (some ⟨[], 3, false, true, (some ⟨(.var 0), [(.int .i64)], [(.avar 0)]⟩)⟩), (some ⟨[], 65, false, true, (some ⟨(.var 2), [(.float .f32)], [(.avar 1)]⟩)⟩), (some ⟨[], 65, false, true, (some ⟨(.var 4), [(.float .f32)], [(.avar 2)]⟩)⟩)], []) ⟨0, 0, 0⟩
      (.ite (.icmp .eql (.var 5) (.lit 0))
       (.ite (.icmp .eql (.var 0) (.lit 0))
        (.ret ⟨[], [(.lit true)], []⟩ [])
        (.ite (.icmp .eql (.bin .remK (.var 0) (.lit 4)) (.lit 0))
         (.call etalonbase_Ceil_s ⟨[(.var 1), (.lit 2)], [], []⟩ ⟨[(.var 1), (.lit 2), (.var 6)], [], []⟩ ⟨24, [(.int .i64 (.var 1)), (.int .i64 (.lit 2))], [], [none, none, none, none, none, none, none], (.int .i64 (.var 6)), []⟩
          (.rng 6 0 10000000 (.call meter_SumsOf_s ⟨[(.var 2), (.var 6), (.lit 65536)], [], [(.avar 1)]⟩ ⟨[(.var 2), (.var 6), (.lit 65536), (.var 7), (.var 8), (.var 9), (.var 10), (.var 11), (.var 12), (.var 13)], [], [(.avar 1)]⟩ ⟨11, [(.agg [(.asl 6 (.var 2)), (.int .i64 (.var 6)), (.int .i64 (.lit 65536))])], [6], [none, none, none, none, none, none, (some ⟨[], 65, false, true, (some ⟨(.var 2), [(.float .f32)], [(.avar 1)]⟩)⟩)], (.tuple [(.agg [(.int .i64 (.var 7)), (.int .i64 (.var 8)), (.int .i64 (.var 9)), (.int .i64 (.var 10)), (.int .i64 (.var 11)), (.int .i64 (.var 12))]), (.int .i64 (.var 13))]), []⟩
          (.loop ⟨5, [0, 1, 0, 1, 1, 1, 1, 1, 1, 1, 1, 1], [(.asl 0 (.var 0)), (.int .i64 (.var 1)), (.tuple []), (.tuple []), (.bool (.lit false)), (.asl 3 (.var 2)), (.int .i64 (.var 3)), (.asl 4 (.var 4)), (.int .i64 (.var 5)), (.ptr (some ⟨7, 0, none⟩)), (.int .i64 (.var 13)), (.int .i64 (.lit 0)), (.int .i64 (.lit 0)), (.int .i64 (.lit 0)), (.int .i64 (.lit 0)), (.bool (.var 0)), (.bool (.not (.var 0))), (.asl 0 (.var 0)), (.int .i64 (.var 0)), (.bool (.icmp .gtr (.var 0) (.lit 70))), (.tuple [(.asl 3 (.var 2)), (.int .i64 (.var 3))]), (.asl 0 (.var 0)), (.asl 2 (.var 0)), (.int .i64 (.var 1)), (.tuple [(.asl 3 (.var 2)), (.int .i64 (.var 3))]), (.asl 3 (.var 2)), (.int .i64 (.var 3)), (.tuple [(.asl 4 (.var 4)), (.int .i64 (.var 5))]), (.asl 0 (.var 0)), (.int .i64 (.var 1)), (.tuple [(.asl 4 (.var 4)), (.int .i64 (.var 5))]), (.asl 4 (.var 4)), (.int .i64 (.var 5)), (.int .i64 (.var 3)), (.int .i64 (.var 5)), (.bool (.icmp .neq (.var 3) (.var 5))), (.bool (.icmp .neq (.var 3) (.var 5))), (.asl 3 (.var 2)), (.asl 4 (.var 4)), (.bool (.lit true)), (.bool (.lit false)), (.bool (.lit false)), (.int .i64 (.var 5)), (.bool (.icmp .neq (.var 5) (.lit 0))), (.bool (.icmp .neq (.var 5) (.lit 0))), (.asl 0 (.var 0)), (.int .i64 (.var 0)), (.bool (.icmp .eql (.var 0) (.lit 0))), (.bool (.icmp .eql (.var 0) (.lit 0))), (.bool (.icmp .eql (.var 0) (.lit 0))), (.asl 0 (.var 0)), (.int .i64 (.var 0)), (.int .i64 (.bin .remK (.var 0) (.lit 4))), (.bool (.icmp .neq (.bin .remK (.var 0) (.lit 4)) (.lit 0))), (.bool (.icmp .neq (.bin .remK (.var 0) (.lit 4)) (.lit 0))), (.tuple [(.agg [(.int .i64 (.var 7)), (.int .i64 (.var 8)), (.int .i64 (.var 9)), (.int .i64 (.var 10)), (.int .i64 (.var 11)), (.int .i64 (.var 12))]), (.int .i64 (.var 13))]), (.slice (some ⟨5, 0, none⟩) 0 0), (.asl 3 (.var 2)), (.asl 6 (.var 2)), (.int .i64 (.var 1)), (.int .i64 (.var 6)), (.agg [(.asl 6 (.var 2)), (.int .i64 (.var 6)), (.int .i64 (.lit 65536))]), (.tuple [(.agg [(.int .i64 (.var 7)), (.int .i64 (.var 8)), (.int .i64 (.var 9)), (.int .i64 (.var 10)), (.int .i64 (.var 11)), (.int .i64 (.var 12))]), (.int .i64 (.var 13))]), (.agg [(.int .i64 (.var 7)), (.int .i64 (.var 8)), (.int .i64 (.var 9)), (.int .i64 (.var 10)), (.int .i64 (.var 11)), (.int .i64 (.var 12))]), (.int .i64 (.var 13)), (.tuple []), (.tuple []), (.tuple []), (.tuple []), (.tuple []), (.tuple []), (.tuple []), (.tuple []), (.tuple []), (.tuple []), (.tuple []), (.tuple []), (.tuple []), (.tuple []), (.tuple []), (.tuple []), (.tuple []), (.tuple []), (.tuple []), (.tuple []), (.tuple []), (.tuple []), (.tuple []), (.tuple []), (.tuple []), (.tuple []), (.tuple []), (.tuple []), (.tuple []), (.tuple []), (.tuple []), (.tuple []), (.tuple []), (.tuple []), (.tuple []), (.tuple []), (.tuple []), (.tuple []), (.tuple []), (.tuple []), (.tuple []), (.tuple []), (.tuple []), (.tuple []), (.tuple []), (.tuple []), (.tuple []), (.tuple []), (.tuple []), (.tuple []), (.tuple []), (.tuple []), (.tuple []), (.tuple []), (.tuple []), (.tuple []), (.tuple []), (.tuple []), (.tuple []), (.tuple []), (.tuple []), (.tuple []), (.tuple []), (.tuple []), (.tuple []), (.tuple []), (.tuple []), (.tuple []), (.tuple []), (.tuple []), (.tuple []), (.tuple []), (.tuple []), (.tuple []), (.tuple []), (.tuple []), (.tuple []), (.tuple []), (.tuple []), (.tuple []), (.tuple []), (.tuple []), (.tuple []), (.tuple []), (.tuple []), (.tuple []), (.tuple [])], [(some ⟨[], 3, true, false, (some ⟨(.var 0), [(.int .i64)], [(.avar 0)]⟩)⟩), (some ⟨[], 3, false, false, none⟩), (some ⟨[], 3, false, true, (some ⟨(.var 0), [(.int .i64)], [(.avar 0)]⟩)⟩), (some ⟨[], 65, false, true, (some ⟨(.var 2), [(.float .f32)], [(.avar 1)]⟩)⟩), (some ⟨[], 65, false, true, (some ⟨(.var 4), [(.float .f32)], [(.avar 2)]⟩)⟩), (some ⟨[], 65, false, false, none⟩), (some ⟨[], 65, false, true, (some ⟨(.var 2), [(.float .f32)], [(.avar 1)]⟩)⟩), (some ⟨[(.int .i64 (.var 7)), (.int .i64 (.var 8)), (.int .i64 (.var 9)), (.int .i64 (.var 10)), (.int .i64 (.var 11)), (.int .i64 (.var 12))], 36, false, false, none⟩)], [], [(.asl 0 (.var 0)), (.int .i64 (.var 1)), (.tuple []), (.tuple []), (.bool (.lit false)), (.asl 3 (.var 2)), (.int .i64 (.var 3)), (.asl 4 (.var 4)), (.int .i64 (.var 5)), (.ptr (some ⟨7, 0, none⟩)), (.int .i64 (.var 13)), (.int .i64 (.var 14)), (.int .i64 (.var 15)), (.int .i64 (.var 16)), (.int .i64 (.var 17)), (.bool (.var 0)), (.bool (.not (.var 0))), (.asl 0 (.var 0)), (.int .i64 (.var 0)), (.bool (.icmp .gtr (.var 0) (.lit 70))), (.tuple [(.asl 3 (.var 2)), (.int .i64 (.var 3))]), (.asl 0 (.var 0)), (.asl 2 (.var 0)), (.int .i64 (.var 1)), (.tuple [(.asl 3 (.var 2)), (.int .i64 (.var 3))]), (.asl 3 (.var 2)), (.int .i64 (.var 3)), (.tuple [(.asl 4 (.var 4)), (.int .i64 (.var 5))]), (.asl 0 (.var 0)), (.int .i64 (.var 1)), (.tuple [(.asl 4 (.var 4)), (.int .i64 (.var 5))]), (.asl 4 (.var 4)), (.int .i64 (.var 5)), (.int .i64 (.var 3)), (.int .i64 (.var 5)), (.bool (.icmp .neq (.var 3) (.var 5))), (.bool (.icmp .neq (.var 3) (.var 5))), (.asl 3 (.var 2)), (.asl 4 (.var 4)), (.bool (.lit true)), (.bool (.lit false)), (.bool (.lit false)), (.int .i64 (.var 5)), (.bool (.icmp .neq (.var 5) (.lit 0))), (.bool (.icmp .neq (.var 5) (.lit 0))), (.asl 0 (.var 0)), (.int .i64 (.var 0)), (.bool (.icmp .eql (.var 0) (.lit 0))), (.bool (.icmp .eql (.var 0) (.lit 0))), (.bool (.icmp .eql (.var 0) (.lit 0))), (.asl 0 (.var 0)), (.int .i64 (.var 0)), (.int .i64 (.bin .remK (.var 0) (.lit 4))), (.bool (.icmp .neq (.bin .remK (.var 0) (.lit 4)) (.lit 0))), (.bool (.icmp .neq (.bin .remK (.var 0) (.lit 4)) (.lit 0))), (.tuple [(.agg [(.int .i64 (.var 7)), (.int .i64 (.var 8)), (.int .i64 (.var 9)), (.int .i64 (.var 10)), (.int .i64 (.var 11)), (.int .i64 (.var 12))]), (.int .i64 (.var 13))]), (.slice (some ⟨5, 0, none⟩) 0 0), (.asl 3 (.var 2)), (.asl 6 (.var 2)), (.int .i64 (.var 1)), (.int .i64 (.var 6)), (.agg [(.asl 6 (.var 2)), (.int .i64 (.var 6)), (.int .i64 (.lit 65536))]), (.tuple [(.agg [(.int .i64 (.var 7)), (.int .i64 (.var 8)), (.int .i64 (.var 9)), (.int .i64 (.var 10)), (.int .i64 (.var 11)), (.int .i64 (.var 12))]), (.int .i64 (.var 13))]), (.agg [(.int .i64 (.var 7)), (.int .i64 (.var 8)), (.int .i64 (.var 9)), (.int .i64 (.var 10)), (.int .i64 (.var 11)), (.int .i64 (.var 12))]), (.int .i64 (.var 13)), (.any 65), (.any 66), (.any 67), (.any 68), (.any 69), (.any 70), (.any 71), (.any 72), (.any 73), (.any 74), (.any 75), (.any 76), (.any 77), (.any 78), (.any 79), (.any 80), (.any 81), (.any 82), (.any 83), (.any 84), (.any 85), (.any 86), (.any 87), (.any 88), (.any 89), (.any 90), (.any 91), (.any 92), (.any 93), (.any 94), (.any 95), (.any 96), (.any 97), (.any 98), (.any 99), (.any 100), (.any 101), (.any 102), (.any 103), (.any 104), (.any 105), (.any 106), (.any 107), (.any 108), (.any 109), (.any 110), (.any 111), (.any 112), (.any 113), (.any 114), (.any 115), (.any 116), (.any 117), (.any 118), (.any 119), (.tuple []), (.tuple []), (.tuple []), (.tuple []), (.tuple []), (.tuple []), (.tuple []), (.tuple []), (.tuple []), (.tuple []), (.tuple []), (.tuple []), (.tuple []), (.tuple []), (.tuple []), (.tuple []), (.tuple []), (.tuple []), (.tuple []), (.tuple []), (.tuple []), (.tuple []), (.tuple []), (.tuple []), (.tuple []), (.tuple []), (.tuple []), (.tuple []), (.tuple []), (.tuple []), (.tuple []), (.tuple [])], [(some ⟨[], 3, true, false, (some ⟨(.var 0), [(.int .i64)], [(.avar 0)]⟩)⟩), (some ⟨[], 3, false, false, none⟩), (some ⟨[], 3, false, true, (some ⟨(.var 0), [(.int .i64)], [(.avar 0)]⟩)⟩), (some ⟨[], 65, false, true, (some ⟨(.var 2), [(.float .f32)], [(.avar 1)]⟩)⟩), (some ⟨[], 65, false, true, (some ⟨(.var 4), [(.float .f32)], [(.avar 2)]⟩)⟩), (some ⟨[], 65, false, false, none⟩), (some ⟨[], 65, false, true, (some ⟨(.var 2), [(.float .f32)], [(.avar 1)]⟩)⟩), (some ⟨[(.int .i64 (.var 7)), (.int .i64 (.var 8)), (.int .i64 (.var 9)), (.int .i64 (.var 10)), (.int .i64 (.var 11)), (.int .i64 (.var 12))], 36, false, false, none⟩)], [], ⟨4, 0, 0⟩, ⟨[(.lit 0), (.lit 0), (.lit 0), (.lit 0)], [], []⟩, []⟩
          (.rng 14 (-100000000) 100000000 (.rng 15 (-100000000) 100000000 (.rng 16 (-100000000) 100000000 (.rng 17 0 70 (.ite (.icmp .leq (.var 0) (.var 17))
           (.out 0 ⟨[(.var 14), (.var 15), (.var 16)], [], []⟩ [])
           (.ite (.icmp .leq (.var 0) (.bin .addI (.var 17) (.lit 1)))
            .nil
            (.ite (.icmp .leq (.var 0) (.bin .addI (.var 17) (.lit 2)))
             .nil
             (.ite (.icmp .leq (.var 0) (.bin .addI (.var 17) (.lit 3)))
              .nil
              (.next ⟨[(.bin (.addW .i64) (.bin (.addW .i64) (.bin (.addW .i64) (.bin (.addW .i64) (.var 14) (.sel (.avar 0) (.var 17))) (.sel (.avar 0) (.bin .addI (.var 17) (.lit 1)))) (.sel (.avar 0) (.bin .addI (.var 17) (.lit 2)))) (.sel (.avar 0) (.bin .addI (.var 17) (.lit 3)))), (.bin (.subW .i64) (.bin (.addW .i64) (.var 15) (.sel (.avar 0) (.var 17))) (.sel (.avar 0) (.bin .addI (.var 17) (.lit 2)))), (.bin (.subW .i64) (.bin (.addW .i64) (.var 16) (.sel (.avar 0) (.bin .addI (.var 17) (.lit 1)))) (.sel (.avar 0) (.bin .addI (.var 17) (.lit 3)))), (.bin .addI (.var 17) (.lit 4))], [], []⟩ [])))))))))
          (.ex ((.exit 0), [(.asl 0 (.var 0)), (.int .i64 (.var 1)), (.tuple []), (.tuple []), (.bool (.lit false)), (.asl 3 (.var 2)), (.int .i64 (.var 3)), (.asl 4 (.var 4)), (.int .i64 (.var 5)), (.ptr (some ⟨7, 0, none⟩)), (.int .i64 (.var 13)), (.int .i64 (.var 14)), (.int .i64 (.var 15)), (.int .i64 (.var 16)), (.any 14), (.bool (.var 0)), (.bool (.not (.var 0))), (.asl 0 (.var 0)), (.int .i64 (.var 0)), (.bool (.icmp .gtr (.var 0) (.lit 70))), (.tuple [(.asl 3 (.var 2)), (.int .i64 (.var 3))]), (.asl 0 (.var 0)), (.asl 2 (.var 0)), (.int .i64 (.var 1)), (.tuple [(.asl 3 (.var 2)), (.int .i64 (.var 3))]), (.asl 3 (.var 2)), (.int .i64 (.var 3)), (.tuple [(.asl 4 (.var 4)), (.int .i64 (.var 5))]), (.asl 0 (.var 0)), (.int .i64 (.var 1)), (.tuple [(.asl 4 (.var 4)), (.int .i64 (.var 5))]), (.asl 4 (.var 4)), (.int .i64 (.var 5)), (.int .i64 (.var 3)), (.int .i64 (.var 5)), (.bool (.icmp .neq (.var 3) (.var 5))), (.bool (.icmp .neq (.var 3) (.var 5))), (.asl 3 (.var 2)), (.asl 4 (.var 4)), (.bool (.lit true)), (.bool (.lit false)), (.bool (.lit false)), (.int .i64 (.var 5)), (.bool (.icmp .neq (.var 5) (.lit 0))), (.bool (.icmp .neq (.var 5) (.lit 0))), (.asl 0 (.var 0)), (.int .i64 (.var 0)), (.bool (.icmp .eql (.var 0) (.lit 0))), (.bool (.icmp .eql (.var 0) (.lit 0))), (.bool (.icmp .eql (.var 0) (.lit 0))), (.asl 0 (.var 0)), (.int .i64 (.var 0)), (.int .i64 (.bin .remK (.var 0) (.lit 4))), (.bool (.icmp .neq (.bin .remK (.var 0) (.lit 4)) (.lit 0))), (.bool (.icmp .neq (.bin .remK (.var 0) (.lit 4)) (.lit 0))), (.tuple [(.agg [(.int .i64 (.var 7)), (.int .i64 (.var 8)), (.int .i64 (.var 9)), (.int .i64 (.var 10)), (.int .i64 (.var 11)), (.int .i64 (.var 12))]), (.int .i64 (.var 13))]), (.slice (some ⟨5, 0, none⟩) 0 0), (.asl 3 (.var 2)), (.asl 6 (.var 2)), (.int .i64 (.var 1)), (.int .i64 (.var 6)), (.agg [(.asl 6 (.var 2)), (.int .i64 (.var 6)), (.int .i64 (.lit 65536))]), (.tuple [(.agg [(.int .i64 (.var 7)), (.int .i64 (.var 8)), (.int .i64 (.var 9)), (.int .i64 (.var 10)), (.int .i64 (.var 11)), (.int .i64 (.var 12))]), (.int .i64 (.var 13))]), (.agg [(.int .i64 (.var 7)), (.int .i64 (.var 8)), (.int .i64 (.var 9)), (.int .i64 (.var 10)), (.int .i64 (.var 11)), (.int .i64 (.var 12))]), (.int .i64 (.var 13)), (.any 65), (.any 66), (.any 67), (.any 68), (.any 69), (.any 70), (.any 71), (.any 72), (.any 73), (.any 74), (.any 75), (.any 76), (.any 77), (.any 78), (.any 79), (.any 80), (.any 81), (.any 82), (.any 83), (.any 84), (.any 85), (.any 86), (.any 87), (.any 88), (.any 89), (.any 90), (.any 91), (.any 92), (.any 93), (.any 94), (.any 95), (.any 96), (.any 97), (.any 98), (.any 99), (.any 100), (.any 101), (.any 102), (.any 103), (.any 104), (.any 105), (.any 106), (.any 107), (.any 108), (.any 109), (.any 110), (.any 111), (.any 112), (.any 113), (.any 114), (.any 115), (.any 116), (.any 117), (.any 118), (.any 119), (.tuple []), (.tuple []), (.tuple []), (.tuple []), (.tuple []), (.tuple []), (.tuple []), (.tuple []), (.tuple []), (.tuple []), (.tuple []), (.tuple []), (.tuple []), (.tuple []), (.tuple []), (.tuple []), (.tuple []), (.tuple []), (.tuple []), (.tuple []), (.tuple []), (.tuple []), (.tuple []), (.tuple []), (.tuple []), (.tuple []), (.tuple []), (.tuple []), (.tuple []), (.tuple []), (.tuple []), (.tuple [])], [(some ⟨[], 3, true, false, (some ⟨(.var 0), [(.int .i64)], [(.avar 0)]⟩)⟩), (some ⟨[], 3, false, false, none⟩), (some ⟨[], 3, false, true, (some ⟨(.var 0), [(.int .i64)], [(.avar 0)]⟩)⟩), (some ⟨[], 65, false, true, (some ⟨(.var 2), [(.float .f32)], [(.avar 1)]⟩)⟩), (some ⟨[], 65, false, true, (some ⟨(.var 4), [(.float .f32)], [(.avar 2)]⟩)⟩), (some ⟨[], 65, false, false, none⟩), (some ⟨[], 65, false, true, (some ⟨(.var 2), [(.float .f32)], [(.avar 1)]⟩)⟩), (some ⟨[(.int .i64 (.var 7)), (.int .i64 (.var 8)), (.int .i64 (.var 9)), (.int .i64 (.var 10)), (.int .i64 (.var 11)), (.int .i64 (.var 12))], 36, false, false, none⟩)], []) ⟨3, 0, 0⟩
          (.rng 14 (-9223372036854775808) 9223372036854775807 (.rng 15 (-9223372036854775808) 9223372036854775807 (.rng 16 (-9223372036854775808) 9223372036854775807 (.ite (.icmp .eql (.var 13) (.lit 0))
           (.ite (.icmp .leq (.var 7) (.var 14))
            (.ite (.icmp .leq (.var 14) (.var 8))
             (.ite (.icmp .leq (.var 9) (.var 15))
              (.ite (.icmp .leq (.var 15) (.var 10))
               (.ite (.icmp .leq (.var 11) (.var 16))
                (.ret ⟨[], [(.icmp .leq (.var 16) (.var 12))], []⟩ [])
                (.ret ⟨[], [(.lit false)], []⟩ []))
               (.ret ⟨[], [(.lit false)], []⟩ []))
              (.ret ⟨[], [(.lit false)], []⟩ []))
             (.ret ⟨[], [(.lit false)], []⟩ []))
            (.ret ⟨[], [(.lit false)], []⟩ []))
           (.ret ⟨[], [(.lit false)], []⟩ [])))))
          .nil)))))
         (.ret ⟨[], [(.lit true)], []⟩ [])))
       (.ret ⟨[], [(.lit true)], []⟩ []))
      .nil)))
     (.ret ⟨[], [(.lit false)], []⟩ []))
    (.ret ⟨[], [(.lit false)], []⟩ []))))))
   (.ret ⟨[], [(.lit true)], []⟩ []))
  (.ret ⟨[], [(.lit false)], []⟩ [])))
theorem mqu {x0 x1 : Int} {f0 : Int → Int} (r0 : 0 ≤ x0 ∧ x0 ≤ 9223372036854775807) (r1 : (-9223372036854775808) ≤ x1 ∧ x1 ≤ 9223372036854775807) (s0 : ∀ q, (-9223372036854775808) ≤ f0 q ∧ f0 q ≤ 9223372036854775807) {R : Bool → Prop}
  (H : (∃ u0 : Bool, Spec Try.prog etalonlaw06_awake_s ⟨[], [], []⟩ [] [u0] [] ∧
   ((u0 = true → ((decide ((x0 : Int) ≤ 70) = true → (∃ v2 : Int, ∃ v3 : Int, ∃ g1 : Int → Int, Spec Try.prog meter_Quantised_s ⟨[x0, x1], [], [f0]⟩ [v2, v3] [] [g1] ∧
     ((0 ≤ (v2 : Int) ∧ (v2 : Int) ≤ 64) ∧ (∃ v4 : Int, ∃ v5 : Int, ∃ g2 : Int → Int, Spec Try.prog etalonref06_Quantised_s ⟨[x0, x1], [], [f0]⟩ [v4, v5] [] [g2] ∧
     ((0 ≤ (v4 : Int) ∧ (v4 : Int) ≤ 140737488355328) ∧ ((((v3 : Int) == v5) = true → ((((v2 : Int) == v4) = true → (∃ (I6 : Int → Prop) (rk6 : Int → Nat), I6 (0) ∧
       (∀ x6 : Int, I6 x6 → ((0 ≤ (x6 : Int) ∧ (x6 : Int) ≤ 70) ∧ ((decide ((v2 : Int) ≤ x6) = true → ((((v5 : Int) == 0) = true → ((((x0 : Int) == 0) = true → R (true)) ∧
         (((x0 : Int) == 0) = false → ((((((x0 : Int).tmod (4)) : Int) == 0) = true → (∃ v6' : Int, Spec Try.prog etalonbase_Ceil_s ⟨[x1, 2], [], []⟩ [v6'] [] [] ∧
           ((0 ≤ (v6' : Int) ∧ (v6' : Int) ≤ 10000000) ∧ (∃ v7' : Int, ∃ v8' : Int, ∃ v9' : Int, ∃ v10' : Int, ∃ v11' : Int, ∃ v12' : Int, ∃ v13' : Int, Spec Try.prog meter_SumsOf_s ⟨[v2, v6', 65536], [], [g1]⟩ [v7', v8', v9', v10', v11', v12', v13'] [] [] ∧
           (∃ (I14' : Int → Int → Int → Int → Prop) (rk14' : Int → Int → Int → Int → Nat), I14' (0) (0) (0) (0) ∧
           (∀ x14' : Int, ∀ x15' : Int, ∀ x16' : Int, ∀ x17' : Int, I14' x14' x15' x16' x17' → (((-100000000) ≤ (x14' : Int) ∧ (x14' : Int) ≤ 100000000) ∧ (((-100000000) ≤ (x15' : Int) ∧ (x15' : Int) ≤ 100000000) ∧ (((-100000000) ≤ (x16' : Int) ∧ (x16' : Int) ≤ 100000000) ∧ ((0 ≤ (x17' : Int) ∧ (x17' : Int) ≤ 70) ∧ ((decide ((x0 : Int) ≤ x17') = true → (((-9223372036854775808) ≤ ((x14') : Int) ∧ ((x14') : Int) ≤ 9223372036854775807) ∧ (((-9223372036854775808) ≤ ((x15') : Int) ∧ ((x15') : Int) ≤ 9223372036854775807) ∧ (((-9223372036854775808) ≤ ((x16') : Int) ∧ ((x16') : Int) ≤ 9223372036854775807) ∧ ((((v13' : Int) == 0) = true → ((decide ((v7' : Int) ≤ (x14')) = true → ((decide (((x14') : Int) ≤ v8') = true → ((decide ((v9' : Int) ≤ (x15')) = true → ((decide (((x15') : Int) ≤ v10') = true → ((decide ((v11' : Int) ≤ (x16')) = true → R (decide (((x16') : Int) ≤ v12'))) ∧
                 (decide ((v11' : Int) ≤ (x16')) = false → R (false)))) ∧
                (decide (((x15') : Int) ≤ v10') = false → R (false)))) ∧
               (decide ((v9' : Int) ≤ (x15')) = false → R (false)))) ∧
              (decide (((x14') : Int) ≤ v8') = false → R (false)))) ∧
             (decide ((v7' : Int) ≤ (x14')) = false → R (false)))) ∧
            (((v13' : Int) == 0) = false → R (false))))))) ∧
            (decide ((x0 : Int) ≤ x17') = false → ((decide ((x0 : Int) ≤ (x17' + 1)) = true → False) ∧
             (decide ((x0 : Int) ≤ (x17' + 1)) = false → ((decide ((x0 : Int) ≤ (x17' + 2)) = true → False) ∧
              (decide ((x0 : Int) ≤ (x17' + 2)) = false → ((decide ((x0 : Int) ≤ (x17' + 3)) = true → False) ∧
               (decide ((x0 : Int) ≤ (x17' + 3)) = false → (I14' (IntKind.i64.wrap (IntKind.i64.wrap (IntKind.i64.wrap (IntKind.i64.wrap (x14' + (f0 x17')) + (f0 (x17' + 1))) + (f0 (x17' + 2))) + (f0 (x17' + 3)))) (IntKind.i64.wrap (IntKind.i64.wrap (x15' + (f0 x17')) - (f0 (x17' + 2)))) (IntKind.i64.wrap (IntKind.i64.wrap (x16' + (f0 (x17' + 1))) - (f0 (x17' + 3)))) ((x17' + 4)) ∧ rk14' (IntKind.i64.wrap (IntKind.i64.wrap (IntKind.i64.wrap (IntKind.i64.wrap (x14' + (f0 x17')) + (f0 (x17' + 1))) + (f0 (x17' + 2))) + (f0 (x17' + 3)))) (IntKind.i64.wrap (IntKind.i64.wrap (x15' + (f0 x17')) - (f0 (x17' + 2)))) (IntKind.i64.wrap (IntKind.i64.wrap (x16' + (f0 (x17' + 1))) - (f0 (x17' + 3)))) ((x17' + 4)) < rk14' x14' x15' x16' x17'))))))))))))))))))) ∧
          (((((x0 : Int).tmod (4)) : Int) == 0) = false → R (true)))))) ∧
        (((v5 : Int) == 0) = false → R (true)))) ∧
        (decide ((v2 : Int) ≤ x6) = false → ((decide ((v4 : Int) ≤ x6) = true → False) ∧
         (decide ((v4 : Int) ≤ x6) = false → (((((if (0 : Int) > ((g1 x6)) then 0 else (g1 x6)) : Int) == (if (0 : Int) > ((g2 x6)) then 0 else (g2 x6))) = true → (I6 ((x6 + 1)) ∧ rk6 ((x6 + 1)) < rk6 x6)) ∧
          ((((if (0 : Int) > ((g1 x6)) then 0 else (g1 x6)) : Int) == (if (0 : Int) > ((g2 x6)) then 0 else (g2 x6))) = false → R (false))))))))))) ∧
      (((v2 : Int) == v4) = false → R (false)))) ∧
     (((v3 : Int) == v5) = false → R (false)))))))) ∧
    (decide ((x0 : Int) ≤ 70) = false → R (true)))) ∧
   (u0 = false → R (false))))) :
    ∃ u0 : Bool, R u0 ∧ Spec Try.prog etalonlaw06_MeterQuantises_s ⟨[x0, x1], [], [f0]⟩ [] [u0] [] :=
  Eq.mp (by kernel_rfl) (exV_of (K := fun d => app3 etalonlaw06_MeterQuantises_s.out R d ∧ Spec Try.prog etalonlaw06_MeterQuantises_s ⟨[x0, x1], [], [f0]⟩ d.1 d.2.1 d.2.2) (tree_at mixed names S3_ok (S := S3 Try.prog) (lf := 100000) (d := 60) etalonlaw06_MeterQuantises_s mqu_t { ivs := [(0, 0, 9223372036854775807), (1, (-9223372036854775808), 9223372036854775807)], aivs := [(0, (-9223372036854775808), 9223372036854775807)] } ⟨[x0, x1], [], [f0]⟩ rfl (by kernel_rfl) (by kernel_rfl) (by kernel_rfl) ⟨(fc r0 (fc r1 fz)), fz, (fc s0 fz), fz⟩ (R := fun d => app3 etalonlaw06_MeterQuantises_s.out R d) (Eq.mp (by kernel_rfl) H)))

section

variable {x0 x1 x2 : Int} {f0 : Int → Int}

theorem stT_none' (G : Scn x0 x1 65536 f0) : ∀ k : Nat, (k : Int) ≤ x0 → (stT (nOf f0) 65536 k).1 = 0

  | 0, _ => rfl

  | k + 1, h => by

    have b := G.bd k (by omega) (by omega)

    unfold stT

    rw [if_neg (by omega)]

    exact stT_none' G k (by omega)

set_option maxHeartbeats 4000000 in

theorem sums_full (G : Scn x0 x1 65536 f0) (hE : (scE x0 x1 65536 f0).2 = 0) : Spec Try.prog meter_SumsOf_s ⟨[x0, x1, 65536], [], [f0]⟩ [reT (lrow f0 x0.toNat) 0 x0.toNat - x0 * x1, reT (lrow f0 x0.toNat) 0 x0.toNat + x0 * x1, reT (lrow f0 x0.toNat) 1 x0.toNat - (x0 * x1).tdiv 2, reT (lrow f0 x0.toNat) 1 x0.toNat + (x0 * x1).tdiv 2, (0 - imT (lrow f0 x0.toNat) 1 x0.toNat) - (x0 * x1).tdiv 2, (0 - imT (lrow f0 x0.toNat) 1 x0.toNat) + (x0 * x1).tdiv 2, 0] [] [] := by

  have g1 := G.four; have g2 := G.marg

  have hm := harm_p G hE

  have lb := lrow_bd G x0.toNat (by omega)

  generalize lrow f0 x0.toNat = L at *

  have cast : ((x0.toNat : Nat) : Int) = x0 := by omega

  have b0 := reT_bd lb 0 x0.toNat; have c0 := imT_bd lb 0 x0.toNat; have b1 := reT_bd lb 1 x0.toNat; have c1 := imT_bd lb 1 x0.toNat

  rw [cast] at b0 c0 b1 c1

  have mm : 0 ≤ x0 * x1 ∧ x0 * x1 ≤ 4194240 := ⟨Int.mul_nonneg (by omega) (by omega), Int.mul_le_mul (a := x0) (b := x1) (c := 64) (d := 65535) (by omega) (by omega) (by omega) (by decide)⟩

  have rpn (n : Int) (h : -5000000 ≤ n ∧ n ≤ 5000000) : Rp (FF n).toNat n ∧ n.natAbs ≤ 10000000 := ⟨rp_n n, by omega⟩

  have st0 := stT_none' G x0.toNat (by omega)

  have w1 : IntKind.i64.wrap (x0 * x1) = x0 * x1 := ws (by omega) (by omega)

  have w2 : IntKind.i64.wrap (reT L 0 x0.toNat - x0 * x1) = reT L 0 x0.toNat - x0 * x1 := ws (by omega) (by omega)

  have w3 : IntKind.i64.wrap (reT L 0 x0.toNat + x0 * x1) = reT L 0 x0.toNat + x0 * x1 := ws (by omega) (by omega)

  obtain ⟨_, _, _, _, _, _, _, ⟨rfl, rfl, rfl, rfl, rfl, rfl, rfl⟩, hs⟩ := sms0 (x0 := x0) (x1 := x1) (x2 := 65536) (f0 := f0) (by omega) (by omega) (by omega) (R := fun a b c d e f g => a = reT L 0 x0.toNat - x0 * x1 ∧ b = reT L 0 x0.toNat + x0 * x1 ∧ c = reT L 1 x0.toNat - (x0 * x1).tdiv 2 ∧ d = reT L 1 x0.toNat + (x0 * x1).tdiv 2 ∧ e = (0 - imT L 1 x0.toNat) - (x0 * x1).tdiv 2 ∧ f = (0 - imT L 1 x0.toNat) + (x0 * x1).tdiv 2 ∧ g = 0) (by

    refine ⟨_, _, _, _, _, _, _, _, _, hm, reT L 0 x0.toNat, rpn _ (by omega), by omega, imT L 0 x0.toNat, rpn _ (by omega), by omega, reT L 1 x0.toNat, rpn _ (by omega), by omega, imT L 1 x0.toNat, rpn _ (by omega), by omega, fun _ => ?_, fun g => absurd g (by decide)⟩

    simp only [decide_eq_true_eq, decide_eq_false_iff_not, beq_iff_eq, beq_eq_false_iff_ne, ne_eq]

    rw [w1]

    refine ⟨fun i n g => (0 ≤ i ∧ i ≤ x0) ∧ n = (stT (nOf f0) 65536 i.toNat).1 ∧ g = (stT (nOf f0) 65536 i.toNat).2, fun i _ _ => (x0 - i).toNat, ⟨⟨by omega, by omega⟩, rfl, rfl⟩, ?_⟩

    rintro i n g ⟨hi, rfl, rfl⟩

    have b := stT_bd (nOf f0) 65536 i.toNat

    refine ⟨fun q => by have := b.2 q; omega, by omega, by omega, fun h => ?_, fun h => ⟨fun _ => ⟨fun c => ⟨⟨⟨by omega, by omega⟩, ?_⟩, ?_⟩, fun c => ⟨⟨⟨by omega, by omega⟩, ?_⟩, ?_⟩⟩, fun h' => h' (G.one i hi.1 (by omega))⟩⟩

    · have e : i = x0 := by omega

      rw [e]

      have b' := stT_bd (nOf f0) 65536 x0.toNat

      refine ⟨fun q => by have := b'.2 q; omega, by omega, fun _ => ?_, fun g => by omega⟩

      rw [w2, w3]

      exact ⟨rfl, rfl, by trivial, by trivial, by trivial, by trivial, by trivial⟩

    · rw [stT_step hi.1, if_pos (show 65536 ≤ nOf f0 i from c)]; exact ⟨rfl, rfl⟩

    · show (x0 - (i + 1)).toNat < (x0 - i).toNat; omega

    · rw [stT_step hi.1, if_neg (show ¬ 65536 ≤ nOf f0 i from c)]; exact ⟨rfl, rfl⟩

    · show (x0 - (i + 1)).toNat < (x0 - i).toNat; omega)

  exact hs

end

set_option maxHeartbeats 16000000 in

theorem quantises {x0 x1 : Int} {f0 : Int → Int} (r0 : 0 ≤ x0 ∧ x0 ≤ 9223372036854775807) (r1 : (-9223372036854775808) ≤ x1 ∧ x1 ≤ 9223372036854775807) (s0 : ∀ q, (-9223372036854775808) ≤ f0 q ∧ f0 q ≤ 9223372036854775807) : Spec Try.prog etalonlaw06_MeterQuantises_s ⟨[x0, x1], [], [f0]⟩ [] [true] [] := by

  obtain ⟨a0, rfl, ha⟩ := awake

  obtain ⟨w, rfl, hs⟩ : ∃ u0 : Bool, u0 = true ∧ Spec Try.prog etalonlaw06_MeterQuantises_s ⟨[x0, x1], [], [f0]⟩ [] [u0] [] := by

    refine mqu r0 r1 s0 (R := (· = true)) ⟨true, ha, fun _ => ?_, fun h => by cases h⟩

    simp only [decide_eq_true_eq, decide_eq_false_iff_not, beq_iff_eq, beq_eq_false_iff_ne, ne_eq]

    refine ⟨fun h70 => ?_, fun _ => by trivial⟩

    obtain ⟨v, e, g, ⟨q1, q2, q3⟩, hp⟩ := quant_p (x0 := x0) (x1 := x1) (f0 := f0) ⟨r0.1, h70⟩ r1 s0

    obtain ⟨v', e', g', ⟨p1, p2, p3⟩, hr⟩ := quant_r (x0 := x0) (x1 := x1) (f0 := f0) ⟨r0.1, h70⟩ r1 s0

    by_cases hE : quE x0 x1 f0 = 0

    · obtain ⟨rfl, rfl⟩ := q2 hE

      obtain ⟨rfl, rfl⟩ := p2 hE

      have K := qu_ok hE

      have kf := K.few; have ks := K.stp

      rw [hE] at q1 p1

      subst q1; subst p1

      refine ⟨_, _, _, hp, by omega, _, _, _, hr, by omega, fun _ => ⟨fun _ => ?_, fun g => absurd (by trivial) g⟩, fun g => absurd (by trivial) g⟩

      refine ⟨fun i => 0 ≤ i ∧ i ≤ v', fun i => (v' - i).toNat, ⟨by omega, by omega⟩, ?_⟩

      rintro i0 ⟨hi0, hi0'⟩

      refine ⟨by omega, fun _ => ⟨fun _ => ⟨fun _ => by trivial, fun h0 => ⟨fun h4 => ?_, fun _ => by trivial⟩⟩, fun g => absurd (by trivial) g⟩, fun g => ⟨fun g' => by omega, fun _ => ⟨fun _ => ⟨⟨by omega, by omega⟩, by show (v' - (i0 + 1)).toNat < (v' - i0).toNat; omega⟩, fun g => absurd (by trivial) g⟩⟩⟩

      have h4' : v' % 4 = 0 := by rw [← Int.tmod_eq_emod_of_nonneg r0.1]; exact h4

      obtain ⟨M, hM⟩ : ∃ M, M = cdiv x1 2 := ⟨_, rfl⟩

      have cM := cdiv_spec' x1 (show (0 : Int) < 2 by decide)

      rw [← hM] at cM

      have bM : 0 ≤ M ∧ M ≤ 65535 := by omega

      have ce := ceil_s (n := x1) (d := 2) (by omega) (by decide)

      rw [← hM] at ce

      obtain ⟨hs2, hn⟩ := quant_sc K ⟨h4', by omega⟩ bM

      have G := scn_ok hs2

      have sf := sums_full G hs2

      have L1 (q : Int) (a : 0 ≤ q) (b : q < v') : lrow (qrow f0 x1 v'.toNat) v'.toNat q = qz (f0 q) x1 := by rw [lrow_at _ q a (by omega), hn q a b]

      generalize lrow (qrow f0 x1 v'.toNat) v'.toNat = L at *

      have mm : 0 ≤ v' * M := Int.mul_nonneg (by omega) bM.1

      have hh := half (m := M) h4' (by omega) bM.1

      have h2 : 2 * (v' * M).tdiv 2 = v' * M := by

        rw [hh, Int.tdiv_eq_ediv_of_nonneg (by omega), ← Int.mul_assoc]

        congr 1; omega

      refine ⟨_, ce, by omega, _, _, _, _, _, _, _, sf, ?_⟩

      generalize (v' * M).tdiv 2 = H at *

      refine ⟨fun a c d i => ((0 ≤ i ∧ i ≤ v') ∧ i % 4 = 0) ∧ (-(M * i) ≤ a - reT L 0 i.toNat ∧ a - reT L 0 i.toNat ≤ M * i) ∧ (-(M * i) ≤ 2 * (c - reT L 1 i.toNat) ∧ 2 * (c - reT L 1 i.toNat) ≤ M * i) ∧ (-(M * i) ≤ 2 * (d + imT L 1 i.toNat) ∧ 2 * (d + imT L 1 i.toNat) ≤ M * i) ∧ (-(65535 * i) ≤ a ∧ a ≤ 65535 * i) ∧ (-(65535 * i) ≤ c ∧ c ≤ 65535 * i) ∧ (-(65535 * i) ≤ d ∧ d ≤ 65535 * i), fun _ _ _ i => (v' - i).toNat, ⟨⟨⟨by omega, by omega⟩, by decide⟩, ?_⟩, ?_⟩

      · have z1 : reT L 0 (0 : Int).toNat = 0 := rfl

        have z2 : reT L 1 (0 : Int).toNat = 0 := rfl

        have z3 : imT L 1 (0 : Int).toNat = 0 := rfl

        rw [z1, z2, z3]; omega

      · rintro a c d i ⟨⟨hi, hi4⟩, e0, e1, e2, k0, k1, k2⟩

        refine ⟨by omega, by omega, by omega, by omega, fun g => ?_, fun g => ⟨fun g => by omega, fun _ => ⟨fun g => by omega, fun _ => ⟨fun g => by omega, fun _ => ?_⟩⟩⟩⟩

        · have ei : i = v' := by omega

          rw [ei, Int.mul_comm M v'] at e0 e1 e2

          refine ⟨by omega, by omega, by omega, fun _ => ⟨fun _ => ⟨fun _ => ⟨fun _ => ⟨fun _ => ⟨fun _ => ?_, fun g => by omega⟩, fun g => by omega⟩, fun g => by omega⟩, fun g => by omega⟩, fun g => by omega⟩, fun g => absurd (by trivial) g⟩

          first | exact decide_eq_true (by omega) | omega

        · have f4 := four_0 (L := L) hi.1

          have f5 := four_1 (L := L) hi.1 hi4

          rw [L1 i hi.1 (by omega), L1 (i + 1) (by omega) (by omega), L1 (i + 2) (by omega) (by omega), L1 (i + 3) (by omega) (by omega)] at f4

          rw [L1 i hi.1 (by omega), L1 (i + 1) (by omega) (by omega), L1 (i + 2) (by omega) (by omega), L1 (i + 3) (by omega) (by omega)] at f5

          have d0 := qz_bd (l := f0 i) (s := x1) ks.1; have d1 := qz_bd (l := f0 (i + 1)) (s := x1) ks.1; have d2 := qz_bd (l := f0 (i + 2)) (s := x1) ks.1; have d3 := qz_bd (l := f0 (i + 3)) (s := x1) ks.1

          have t0 := (K.bd i hi.1 (by omega)).1; have t1 := (K.bd (i + 1) (by omega) (by omega)).1; have t2 := (K.bd (i + 2) (by omega) (by omega)).1; have t3 := (K.bd (i + 3) (by omega) (by omega)).1

          have hMi : M * (i + 4) = M * i + 4 * M := by rw [Int.mul_add, Int.mul_comm M 4]

          rw [ws (n := a + f0 i) (by omega) (by omega), ws (n := a + f0 i + f0 (i + 1)) (by omega) (by omega), ws (n := a + f0 i + f0 (i + 1) + f0 (i + 2)) (by omega) (by omega), ws (n := a + f0 i + f0 (i + 1) + f0 (i + 2) + f0 (i + 3)) (by omega) (by omega), ws (n := c + f0 i) (by omega) (by omega), ws (n := c + f0 i - f0 (i + 2)) (by omega) (by omega), ws (n := d + f0 (i + 1)) (by omega) (by omega), ws (n := d + f0 (i + 1) - f0 (i + 3)) (by omega) (by omega)]

          dsimp only

          rw [f4, f5.1, f5.2, hMi]

          generalize reT L 0 i.toNat = A at *

          generalize reT L 1 i.toNat = C at *

          generalize imT L 1 i.toNat = D at *

          generalize M * i = P at *

          generalize qz (f0 i) x1 = z0 at *

          generalize qz (f0 (i + 1)) x1 = z1 at *

          generalize qz (f0 (i + 2)) x1 = z2 at *

          generalize qz (f0 (i + 3)) x1 = z3 at *

          exact ⟨⟨⟨⟨by omega, by omega⟩, by omega⟩, by omega, by omega, by omega, by omega, by omega, by omega⟩, by omega⟩

    · obtain ⟨rfl, rfl⟩ := q3 hE

      obtain ⟨rfl, rfl⟩ := p3 hE

      rw [← p1] at q1 hE

      subst q1

      refine ⟨_, _, _, hp, by decide, _, _, _, hr, by decide, fun _ => ⟨fun _ => ?_, fun g => absurd (by trivial) g⟩, fun g => absurd (by trivial) g⟩

      refine ⟨fun i => i = 0, fun _ => 0, rfl, ?_⟩

      rintro i rfl

      exact ⟨by decide, fun _ => ⟨fun g => absurd g hE, fun _ => by trivial⟩, fun g => absurd (Int.le_refl 0) g⟩

  exact hs

end Go.Proofs.Ytafnplkablkepaa.Ev
