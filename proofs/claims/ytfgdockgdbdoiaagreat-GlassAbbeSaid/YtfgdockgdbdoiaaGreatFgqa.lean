/- GlassAbbe. -/
import Derived.Test.YtfgdockgdbdoiaaGreatFgq
import Derived.Test.YtfgdockgdbdoiaaGreatFaw2
namespace Go.Proofs.YtfgdockgdbdoiaaGreat.Ev
set_option linter.unusedSimpArgs false
open Go Go.RowKit
set_option linter.unusedVariables false
set_option maxRecDepth 100000
def etalonlaw02_GlassAbbe_s : Sig := ⟨4, ⟨7, 0, 3⟩, ⟨0, 1, 0⟩, [(.agg [(.strn (.var 0)), (.int .i64 (.var 1)), (.asl 0 (.var 2)), (.asl 1 (.var 3)), (.asl 2 (.var 4)), (.int .i64 (.var 5)), (.int .i64 (.var 6))])], [(some ⟨[], 3, true, false, (some ⟨(.var 2), [(.int .i64)], [(.avar 0)]⟩)⟩), (some ⟨[], 98, true, false, (some ⟨(.var 3), [(.float .f32)], [(.avar 1)]⟩)⟩), (some ⟨[], 98, true, false, (some ⟨(.var 4), [(.float .f32)], [(.avar 2)]⟩)⟩)], (.bool (.var 0)), []⟩

def gab_t : Tr :=
  (.call etalonlaw02_awake_s ⟨[], [], []⟩ ⟨[], [(.var 0)], []⟩ ⟨7, [], [], [none, none, none, none], (.bool (.var 0)), []⟩
  (.ite (.var 0)
  (.ite (.icmp .leq (.var 2) (.lit 12))
   (.ite (.icmp .leq (.var 3) (.lit 12))
    (.ite (.icmp .leq (.var 4) (.lit 12))
     (.ite (.icmp .leq (.bin .sLen (.var 0) (.lit 0)) (.lit 20))
      (.call glass_Abbe_s ⟨[(.var 0), (.var 1), (.var 2), (.var 3), (.var 4), (.var 5), (.var 6)], [], [(.avar 0), (.avar 1), (.avar 2)]⟩ ⟨[(.var 0), (.var 1), (.var 2), (.var 3), (.var 4), (.var 5), (.var 6), (.var 7), (.var 8), (.var 9)], [], [(.avar 0), (.avar 1), (.avar 2)]⟩ ⟨20, [(.agg [(.strn (.var 0)), (.int .i64 (.var 1)), (.asl 7 (.var 2)), (.asl 9 (.var 3)), (.asl 11 (.var 4)), (.int .i64 (.var 5)), (.int .i64 (.var 6))])], [7, 9, 11], [none, none, none, none, none, none, none, (some ⟨[], 3, false, true, (some ⟨(.var 2), [(.int .i64)], [(.avar 0)]⟩)⟩), none, (some ⟨[], 98, false, true, (some ⟨(.var 3), [(.float .f32)], [(.avar 1)]⟩)⟩), none, (some ⟨[], 98, false, true, (some ⟨(.var 4), [(.float .f32)], [(.avar 2)]⟩)⟩)], (.tuple [(.agg [(.int .i64 (.var 7)), (.int .i64 (.var 8))]), (.int .i64 (.var 9))]), []⟩
       (.call etalonref02_CheckGlass_s ⟨[(.var 0), (.var 1), (.var 2), (.var 3), (.var 4), (.var 5), (.var 6)], [], [(.avar 0), (.avar 1), (.avar 2)]⟩ ⟨[(.var 0), (.var 1), (.var 2), (.var 3), (.var 4), (.var 5), (.var 6), (.var 10), (.var 11)], [], [(.avar 0), (.avar 1), (.avar 2)]⟩ ⟨13, [(.agg [(.strn (.var 0)), (.int .i64 (.var 1)), (.asl 0 (.var 2)), (.asl 1 (.var 3)), (.asl 2 (.var 4)), (.int .i64 (.var 5)), (.int .i64 (.var 6))])], [0, 1, 2], [(some ⟨[], 3, true, false, (some ⟨(.var 2), [(.int .i64)], [(.avar 0)]⟩)⟩), (some ⟨[], 98, true, false, (some ⟨(.var 3), [(.float .f32)], [(.avar 1)]⟩)⟩), (some ⟨[], 98, true, false, (some ⟨(.var 4), [(.float .f32)], [(.avar 2)]⟩)⟩), none, none, none, none, none, none, none, none, none, none], (.tuple [(.int .i64 (.var 10)), (.int .i64 (.var 11))]), []⟩
       (.ite (.icmp .eql (.var 11) (.lit 0))
       (.call etalonref02_Abbe_s ⟨[(.var 0), (.var 1), (.var 2), (.var 3), (.var 4), (.var 5), (.var 6)], [], [(.avar 0), (.avar 1), (.avar 2)]⟩ ⟨[(.var 0), (.var 1), (.var 2), (.var 3), (.var 4), (.var 5), (.var 6), (.var 12), (.var 13), (.var 14)], [], [(.avar 0), (.avar 1), (.avar 2)]⟩ ⟨21, [(.agg [(.strn (.var 0)), (.int .i64 (.var 1)), (.asl 0 (.var 2)), (.asl 1 (.var 3)), (.asl 2 (.var 4)), (.int .i64 (.var 5)), (.int .i64 (.var 6))])], [0, 1, 2], [(some ⟨[], 3, true, false, (some ⟨(.var 2), [(.int .i64)], [(.avar 0)]⟩)⟩), (some ⟨[], 98, true, false, (some ⟨(.var 3), [(.float .f32)], [(.avar 1)]⟩)⟩), (some ⟨[], 98, true, false, (some ⟨(.var 4), [(.float .f32)], [(.avar 2)]⟩)⟩), none, none, none, none, none, none, none, none, none, none, none], (.tuple [(.agg [(.int .i64 (.var 12)), (.int .i64 (.var 13))]), (.int .i64 (.var 14))]), []⟩
        (.ite (.icmp .eql (.var 9) (.var 14))
        (.ret ⟨[], [(.and (.icmp .eql (.var 7) (.var 12)) (.icmp .eql (.var 8) (.var 13)))], []⟩ [])
        (.ret ⟨[], [(.lit false)], []⟩ [])))
       (.ite (.icmp .eql (.var 9) (.var 11))
        (.ret ⟨[], [(.and (.icmp .eql (.var 7) (.lit 0)) (.icmp .eql (.var 8) (.lit 0)))], []⟩ [])
        (.ret ⟨[], [(.lit false)], []⟩ [])))))
      (.ret ⟨[], [(.lit true)], []⟩ []))
     (.ite (.icmp .leq (.lit 64) (.var 4))
      (.ite (.icmp .leq (.var 4) (.lit 66))
       (.ite (.icmp .leq (.bin .sLen (.var 0) (.lit 0)) (.lit 20))
        (.call glass_Abbe_s ⟨[(.var 0), (.var 1), (.var 2), (.var 3), (.var 4), (.var 5), (.var 6)], [], [(.avar 0), (.avar 1), (.avar 2)]⟩ ⟨[(.var 0), (.var 1), (.var 2), (.var 3), (.var 4), (.var 5), (.var 6), (.var 7), (.var 8), (.var 9)], [], [(.avar 0), (.avar 1), (.avar 2)]⟩ ⟨20, [(.agg [(.strn (.var 0)), (.int .i64 (.var 1)), (.asl 7 (.var 2)), (.asl 9 (.var 3)), (.asl 11 (.var 4)), (.int .i64 (.var 5)), (.int .i64 (.var 6))])], [7, 9, 11], [none, none, none, none, none, none, none, (some ⟨[], 3, false, true, (some ⟨(.var 2), [(.int .i64)], [(.avar 0)]⟩)⟩), none, (some ⟨[], 98, false, true, (some ⟨(.var 3), [(.float .f32)], [(.avar 1)]⟩)⟩), none, (some ⟨[], 98, false, true, (some ⟨(.var 4), [(.float .f32)], [(.avar 2)]⟩)⟩)], (.tuple [(.agg [(.int .i64 (.var 7)), (.int .i64 (.var 8))]), (.int .i64 (.var 9))]), []⟩
         (.call etalonref02_CheckGlass_s ⟨[(.var 0), (.var 1), (.var 2), (.var 3), (.var 4), (.var 5), (.var 6)], [], [(.avar 0), (.avar 1), (.avar 2)]⟩ ⟨[(.var 0), (.var 1), (.var 2), (.var 3), (.var 4), (.var 5), (.var 6), (.var 10), (.var 11)], [], [(.avar 0), (.avar 1), (.avar 2)]⟩ ⟨13, [(.agg [(.strn (.var 0)), (.int .i64 (.var 1)), (.asl 0 (.var 2)), (.asl 1 (.var 3)), (.asl 2 (.var 4)), (.int .i64 (.var 5)), (.int .i64 (.var 6))])], [0, 1, 2], [(some ⟨[], 3, true, false, (some ⟨(.var 2), [(.int .i64)], [(.avar 0)]⟩)⟩), (some ⟨[], 98, true, false, (some ⟨(.var 3), [(.float .f32)], [(.avar 1)]⟩)⟩), (some ⟨[], 98, true, false, (some ⟨(.var 4), [(.float .f32)], [(.avar 2)]⟩)⟩), none, none, none, none, none, none, none, none, none, none], (.tuple [(.int .i64 (.var 10)), (.int .i64 (.var 11))]), []⟩
         (.ite (.icmp .eql (.var 11) (.lit 0))
         (.call etalonref02_Abbe_s ⟨[(.var 0), (.var 1), (.var 2), (.var 3), (.var 4), (.var 5), (.var 6)], [], [(.avar 0), (.avar 1), (.avar 2)]⟩ ⟨[(.var 0), (.var 1), (.var 2), (.var 3), (.var 4), (.var 5), (.var 6), (.var 12), (.var 13), (.var 14)], [], [(.avar 0), (.avar 1), (.avar 2)]⟩ ⟨21, [(.agg [(.strn (.var 0)), (.int .i64 (.var 1)), (.asl 0 (.var 2)), (.asl 1 (.var 3)), (.asl 2 (.var 4)), (.int .i64 (.var 5)), (.int .i64 (.var 6))])], [0, 1, 2], [(some ⟨[], 3, true, false, (some ⟨(.var 2), [(.int .i64)], [(.avar 0)]⟩)⟩), (some ⟨[], 98, true, false, (some ⟨(.var 3), [(.float .f32)], [(.avar 1)]⟩)⟩), (some ⟨[], 98, true, false, (some ⟨(.var 4), [(.float .f32)], [(.avar 2)]⟩)⟩), none, none, none, none, none, none, none, none, none, none, none], (.tuple [(.agg [(.int .i64 (.var 12)), (.int .i64 (.var 13))]), (.int .i64 (.var 14))]), []⟩
          (.ite (.icmp .eql (.var 9) (.var 14))
          (.ret ⟨[], [(.and (.icmp .eql (.var 7) (.var 12)) (.icmp .eql (.var 8) (.var 13)))], []⟩ [])
          (.ret ⟨[], [(.lit false)], []⟩ [])))
         (.ite (.icmp .eql (.var 9) (.var 11))
          (.ret ⟨[], [(.and (.icmp .eql (.var 7) (.lit 0)) (.icmp .eql (.var 8) (.lit 0)))], []⟩ [])
          (.ret ⟨[], [(.lit false)], []⟩ [])))))
        (.ret ⟨[], [(.lit true)], []⟩ []))
       (.ret ⟨[], [(.lit true)], []⟩ []))
      (.ret ⟨[], [(.lit true)], []⟩ [])))
    (.ite (.icmp .leq (.lit 64) (.var 3))
     (.ite (.icmp .leq (.var 3) (.lit 66))
      (.ite (.icmp .leq (.var 4) (.lit 12))
       (.ite (.icmp .leq (.bin .sLen (.var 0) (.lit 0)) (.lit 20))
        (.call glass_Abbe_s ⟨[(.var 0), (.var 1), (.var 2), (.var 3), (.var 4), (.var 5), (.var 6)], [], [(.avar 0), (.avar 1), (.avar 2)]⟩ ⟨[(.var 0), (.var 1), (.var 2), (.var 3), (.var 4), (.var 5), (.var 6), (.var 7), (.var 8), (.var 9)], [], [(.avar 0), (.avar 1), (.avar 2)]⟩ ⟨20, [(.agg [(.strn (.var 0)), (.int .i64 (.var 1)), (.asl 7 (.var 2)), (.asl 9 (.var 3)), (.asl 11 (.var 4)), (.int .i64 (.var 5)), (.int .i64 (.var 6))])], [7, 9, 11], [none, none, none, none, none, none, none, (some ⟨[], 3, false, true, (some ⟨(.var 2), [(.int .i64)], [(.avar 0)]⟩)⟩), none, (some ⟨[], 98, false, true, (some ⟨(.var 3), [(.float .f32)], [(.avar 1)]⟩)⟩), none, (some ⟨[], 98, false, true, (some ⟨(.var 4), [(.float .f32)], [(.avar 2)]⟩)⟩)], (.tuple [(.agg [(.int .i64 (.var 7)), (.int .i64 (.var 8))]), (.int .i64 (.var 9))]), []⟩
         (.call etalonref02_CheckGlass_s ⟨[(.var 0), (.var 1), (.var 2), (.var 3), (.var 4), (.var 5), (.var 6)], [], [(.avar 0), (.avar 1), (.avar 2)]⟩ ⟨[(.var 0), (.var 1), (.var 2), (.var 3), (.var 4), (.var 5), (.var 6), (.var 10), (.var 11)], [], [(.avar 0), (.avar 1), (.avar 2)]⟩ ⟨13, [(.agg [(.strn (.var 0)), (.int .i64 (.var 1)), (.asl 0 (.var 2)), (.asl 1 (.var 3)), (.asl 2 (.var 4)), (.int .i64 (.var 5)), (.int .i64 (.var 6))])], [0, 1, 2], [(some ⟨[], 3, true, false, (some ⟨(.var 2), [(.int .i64)], [(.avar 0)]⟩)⟩), (some ⟨[], 98, true, false, (some ⟨(.var 3), [(.float .f32)], [(.avar 1)]⟩)⟩), (some ⟨[], 98, true, false, (some ⟨(.var 4), [(.float .f32)], [(.avar 2)]⟩)⟩), none, none, none, none, none, none, none, none, none, none], (.tuple [(.int .i64 (.var 10)), (.int .i64 (.var 11))]), []⟩
         (.ite (.icmp .eql (.var 11) (.lit 0))
         (.call etalonref02_Abbe_s ⟨[(.var 0), (.var 1), (.var 2), (.var 3), (.var 4), (.var 5), (.var 6)], [], [(.avar 0), (.avar 1), (.avar 2)]⟩ ⟨[(.var 0), (.var 1), (.var 2), (.var 3), (.var 4), (.var 5), (.var 6), (.var 12), (.var 13), (.var 14)], [], [(.avar 0), (.avar 1), (.avar 2)]⟩ ⟨21, [(.agg [(.strn (.var 0)), (.int .i64 (.var 1)), (.asl 0 (.var 2)), (.asl 1 (.var 3)), (.asl 2 (.var 4)), (.int .i64 (.var 5)), (.int .i64 (.var 6))])], [0, 1, 2], [(some ⟨[], 3, true, false, (some ⟨(.var 2), [(.int .i64)], [(.avar 0)]⟩)⟩), (some ⟨[], 98, true, false, (some ⟨(.var 3), [(.float .f32)], [(.avar 1)]⟩)⟩), (some ⟨[], 98, true, false, (some ⟨(.var 4), [(.float .f32)], [(.avar 2)]⟩)⟩), none, none, none, none, none, none, none, none, none, none, none], (.tuple [(.agg [(.int .i64 (.var 12)), (.int .i64 (.var 13))]), (.int .i64 (.var 14))]), []⟩
          (.ite (.icmp .eql (.var 9) (.var 14))
          (.ret ⟨[], [(.and (.icmp .eql (.var 7) (.var 12)) (.icmp .eql (.var 8) (.var 13)))], []⟩ [])
          (.ret ⟨[], [(.lit false)], []⟩ [])))
         (.ite (.icmp .eql (.var 9) (.var 11))
          (.ret ⟨[], [(.and (.icmp .eql (.var 7) (.lit 0)) (.icmp .eql (.var 8) (.lit 0)))], []⟩ [])
          (.ret ⟨[], [(.lit false)], []⟩ [])))))
        (.ret ⟨[], [(.lit true)], []⟩ []))
       (.ite (.icmp .leq (.lit 64) (.var 4))
        (.ite (.icmp .leq (.var 4) (.lit 66))
         (.ite (.icmp .leq (.bin .sLen (.var 0) (.lit 0)) (.lit 20))
          (.call glass_Abbe_s ⟨[(.var 0), (.var 1), (.var 2), (.var 3), (.var 4), (.var 5), (.var 6)], [], [(.avar 0), (.avar 1), (.avar 2)]⟩ ⟨[(.var 0), (.var 1), (.var 2), (.var 3), (.var 4), (.var 5), (.var 6), (.var 7), (.var 8), (.var 9)], [], [(.avar 0), (.avar 1), (.avar 2)]⟩ ⟨20, [(.agg [(.strn (.var 0)), (.int .i64 (.var 1)), (.asl 7 (.var 2)), (.asl 9 (.var 3)), (.asl 11 (.var 4)), (.int .i64 (.var 5)), (.int .i64 (.var 6))])], [7, 9, 11], [none, none, none, none, none, none, none, (some ⟨[], 3, false, true, (some ⟨(.var 2), [(.int .i64)], [(.avar 0)]⟩)⟩), none, (some ⟨[], 98, false, true, (some ⟨(.var 3), [(.float .f32)], [(.avar 1)]⟩)⟩), none, (some ⟨[], 98, false, true, (some ⟨(.var 4), [(.float .f32)], [(.avar 2)]⟩)⟩)], (.tuple [(.agg [(.int .i64 (.var 7)), (.int .i64 (.var 8))]), (.int .i64 (.var 9))]), []⟩
           (.call etalonref02_CheckGlass_s ⟨[(.var 0), (.var 1), (.var 2), (.var 3), (.var 4), (.var 5), (.var 6)], [], [(.avar 0), (.avar 1), (.avar 2)]⟩ ⟨[(.var 0), (.var 1), (.var 2), (.var 3), (.var 4), (.var 5), (.var 6), (.var 10), (.var 11)], [], [(.avar 0), (.avar 1), (.avar 2)]⟩ ⟨13, [(.agg [(.strn (.var 0)), (.int .i64 (.var 1)), (.asl 0 (.var 2)), (.asl 1 (.var 3)), (.asl 2 (.var 4)), (.int .i64 (.var 5)), (.int .i64 (.var 6))])], [0, 1, 2], [(some ⟨[], 3, true, false, (some ⟨(.var 2), [(.int .i64)], [(.avar 0)]⟩)⟩), (some ⟨[], 98, true, false, (some ⟨(.var 3), [(.float .f32)], [(.avar 1)]⟩)⟩), (some ⟨[], 98, true, false, (some ⟨(.var 4), [(.float .f32)], [(.avar 2)]⟩)⟩), none, none, none, none, none, none, none, none, none, none], (.tuple [(.int .i64 (.var 10)), (.int .i64 (.var 11))]), []⟩
           (.ite (.icmp .eql (.var 11) (.lit 0))
           (.call etalonref02_Abbe_s ⟨[(.var 0), (.var 1), (.var 2), (.var 3), (.var 4), (.var 5), (.var 6)], [], [(.avar 0), (.avar 1), (.avar 2)]⟩ ⟨[(.var 0), (.var 1), (.var 2), (.var 3), (.var 4), (.var 5), (.var 6), (.var 12), (.var 13), (.var 14)], [], [(.avar 0), (.avar 1), (.avar 2)]⟩ ⟨21, [(.agg [(.strn (.var 0)), (.int .i64 (.var 1)), (.asl 0 (.var 2)), (.asl 1 (.var 3)), (.asl 2 (.var 4)), (.int .i64 (.var 5)), (.int .i64 (.var 6))])], [0, 1, 2], [(some ⟨[], 3, true, false, (some ⟨(.var 2), [(.int .i64)], [(.avar 0)]⟩)⟩), (some ⟨[], 98, true, false, (some ⟨(.var 3), [(.float .f32)], [(.avar 1)]⟩)⟩), (some ⟨[], 98, true, false, (some ⟨(.var 4), [(.float .f32)], [(.avar 2)]⟩)⟩), none, none, none, none, none, none, none, none, none, none, none], (.tuple [(.agg [(.int .i64 (.var 12)), (.int .i64 (.var 13))]), (.int .i64 (.var 14))]), []⟩
            (.ite (.icmp .eql (.var 9) (.var 14))
            (.ret ⟨[], [(.and (.icmp .eql (.var 7) (.var 12)) (.icmp .eql (.var 8) (.var 13)))], []⟩ [])
            (.ret ⟨[], [(.lit false)], []⟩ [])))
           (.ite (.icmp .eql (.var 9) (.var 11))
            (.ret ⟨[], [(.and (.icmp .eql (.var 7) (.lit 0)) (.icmp .eql (.var 8) (.lit 0)))], []⟩ [])
            (.ret ⟨[], [(.lit false)], []⟩ [])))))
          (.ret ⟨[], [(.lit true)], []⟩ []))
         (.ret ⟨[], [(.lit true)], []⟩ []))
        (.ret ⟨[], [(.lit true)], []⟩ [])))
      (.ret ⟨[], [(.lit true)], []⟩ []))
     (.ret ⟨[], [(.lit true)], []⟩ [])))
   (.ite (.icmp .leq (.lit 64) (.var 2))
    (.ite (.icmp .leq (.var 2) (.lit 66))
     (.ite (.icmp .leq (.var 3) (.lit 12))
      (.ite (.icmp .leq (.var 4) (.lit 12))
       (.ite (.icmp .leq (.bin .sLen (.var 0) (.lit 0)) (.lit 20))
        (.call glass_Abbe_s ⟨[(.var 0), (.var 1), (.var 2), (.var 3), (.var 4), (.var 5), (.var 6)], [], [(.avar 0), (.avar 1), (.avar 2)]⟩ ⟨[(.var 0), (.var 1), (.var 2), (.var 3), (.var 4), (.var 5), (.var 6), (.var 7), (.var 8), (.var 9)], [], [(.avar 0), (.avar 1), (.avar 2)]⟩ ⟨20, [(.agg [(.strn (.var 0)), (.int .i64 (.var 1)), (.asl 7 (.var 2)), (.asl 9 (.var 3)), (.asl 11 (.var 4)), (.int .i64 (.var 5)), (.int .i64 (.var 6))])], [7, 9, 11], [none, none, none, none, none, none, none, (some ⟨[], 3, false, true, (some ⟨(.var 2), [(.int .i64)], [(.avar 0)]⟩)⟩), none, (some ⟨[], 98, false, true, (some ⟨(.var 3), [(.float .f32)], [(.avar 1)]⟩)⟩), none, (some ⟨[], 98, false, true, (some ⟨(.var 4), [(.float .f32)], [(.avar 2)]⟩)⟩)], (.tuple [(.agg [(.int .i64 (.var 7)), (.int .i64 (.var 8))]), (.int .i64 (.var 9))]), []⟩
         (.call etalonref02_CheckGlass_s ⟨[(.var 0), (.var 1), (.var 2), (.var 3), (.var 4), (.var 5), (.var 6)], [], [(.avar 0), (.avar 1), (.avar 2)]⟩ ⟨[(.var 0), (.var 1), (.var 2), (.var 3), (.var 4), (.var 5), (.var 6), (.var 10), (.var 11)], [], [(.avar 0), (.avar 1), (.avar 2)]⟩ ⟨13, [(.agg [(.strn (.var 0)), (.int .i64 (.var 1)), (.asl 0 (.var 2)), (.asl 1 (.var 3)), (.asl 2 (.var 4)), (.int .i64 (.var 5)), (.int .i64 (.var 6))])], [0, 1, 2], [(some ⟨[], 3, true, false, (some ⟨(.var 2), [(.int .i64)], [(.avar 0)]⟩)⟩), (some ⟨[], 98, true, false, (some ⟨(.var 3), [(.float .f32)], [(.avar 1)]⟩)⟩), (some ⟨[], 98, true, false, (some ⟨(.var 4), [(.float .f32)], [(.avar 2)]⟩)⟩), none, none, none, none, none, none, none, none, none, none], (.tuple [(.int .i64 (.var 10)), (.int .i64 (.var 11))]), []⟩
         (.ite (.icmp .eql (.var 11) (.lit 0))
         (.call etalonref02_Abbe_s ⟨[(.var 0), (.var 1), (.var 2), (.var 3), (.var 4), (.var 5), (.var 6)], [], [(.avar 0), (.avar 1), (.avar 2)]⟩ ⟨[(.var 0), (.var 1), (.var 2), (.var 3), (.var 4), (.var 5), (.var 6), (.var 12), (.var 13), (.var 14)], [], [(.avar 0), (.avar 1), (.avar 2)]⟩ ⟨21, [(.agg [(.strn (.var 0)), (.int .i64 (.var 1)), (.asl 0 (.var 2)), (.asl 1 (.var 3)), (.asl 2 (.var 4)), (.int .i64 (.var 5)), (.int .i64 (.var 6))])], [0, 1, 2], [(some ⟨[], 3, true, false, (some ⟨(.var 2), [(.int .i64)], [(.avar 0)]⟩)⟩), (some ⟨[], 98, true, false, (some ⟨(.var 3), [(.float .f32)], [(.avar 1)]⟩)⟩), (some ⟨[], 98, true, false, (some ⟨(.var 4), [(.float .f32)], [(.avar 2)]⟩)⟩), none, none, none, none, none, none, none, none, none, none, none], (.tuple [(.agg [(.int .i64 (.var 12)), (.int .i64 (.var 13))]), (.int .i64 (.var 14))]), []⟩
          (.ite (.icmp .eql (.var 9) (.var 14))
          (.ret ⟨[], [(.and (.icmp .eql (.var 7) (.var 12)) (.icmp .eql (.var 8) (.var 13)))], []⟩ [])
          (.ret ⟨[], [(.lit false)], []⟩ [])))
         (.ite (.icmp .eql (.var 9) (.var 11))
          (.ret ⟨[], [(.and (.icmp .eql (.var 7) (.lit 0)) (.icmp .eql (.var 8) (.lit 0)))], []⟩ [])
          (.ret ⟨[], [(.lit false)], []⟩ [])))))
        (.ret ⟨[], [(.lit true)], []⟩ []))
       (.ite (.icmp .leq (.lit 64) (.var 4))
        (.ite (.icmp .leq (.var 4) (.lit 66))
         (.ite (.icmp .leq (.bin .sLen (.var 0) (.lit 0)) (.lit 20))
          (.call glass_Abbe_s ⟨[(.var 0), (.var 1), (.var 2), (.var 3), (.var 4), (.var 5), (.var 6)], [], [(.avar 0), (.avar 1), (.avar 2)]⟩ ⟨[(.var 0), (.var 1), (.var 2), (.var 3), (.var 4), (.var 5), (.var 6), (.var 7), (.var 8), (.var 9)], [], [(.avar 0), (.avar 1), (.avar 2)]⟩ ⟨20, [(.agg [(.strn (.var 0)), (.int .i64 (.var 1)), (.asl 7 (.var 2)), (.asl 9 (.var 3)), (.asl 11 (.var 4)), (.int .i64 (.var 5)), (.int .i64 (.var 6))])], [7, 9, 11], [none, none, none, none, none, none, none, (some ⟨[], 3, false, true, (some ⟨(.var 2), [(.int .i64)], [(.avar 0)]⟩)⟩), none, (some ⟨[], 98, false, true, (some ⟨(.var 3), [(.float .f32)], [(.avar 1)]⟩)⟩), none, (some ⟨[], 98, false, true, (some ⟨(.var 4), [(.float .f32)], [(.avar 2)]⟩)⟩)], (.tuple [(.agg [(.int .i64 (.var 7)), (.int .i64 (.var 8))]), (.int .i64 (.var 9))]), []⟩
           (.call etalonref02_CheckGlass_s ⟨[(.var 0), (.var 1), (.var 2), (.var 3), (.var 4), (.var 5), (.var 6)], [], [(.avar 0), (.avar 1), (.avar 2)]⟩ ⟨[(.var 0), (.var 1), (.var 2), (.var 3), (.var 4), (.var 5), (.var 6), (.var 10), (.var 11)], [], [(.avar 0), (.avar 1), (.avar 2)]⟩ ⟨13, [(.agg [(.strn (.var 0)), (.int .i64 (.var 1)), (.asl 0 (.var 2)), (.asl 1 (.var 3)), (.asl 2 (.var 4)), (.int .i64 (.var 5)), (.int .i64 (.var 6))])], [0, 1, 2], [(some ⟨[], 3, true, false, (some ⟨(.var 2), [(.int .i64)], [(.avar 0)]⟩)⟩), (some ⟨[], 98, true, false, (some ⟨(.var 3), [(.float .f32)], [(.avar 1)]⟩)⟩), (some ⟨[], 98, true, false, (some ⟨(.var 4), [(.float .f32)], [(.avar 2)]⟩)⟩), none, none, none, none, none, none, none, none, none, none], (.tuple [(.int .i64 (.var 10)), (.int .i64 (.var 11))]), []⟩
           (.ite (.icmp .eql (.var 11) (.lit 0))
           (.call etalonref02_Abbe_s ⟨[(.var 0), (.var 1), (.var 2), (.var 3), (.var 4), (.var 5), (.var 6)], [], [(.avar 0), (.avar 1), (.avar 2)]⟩ ⟨[(.var 0), (.var 1), (.var 2), (.var 3), (.var 4), (.var 5), (.var 6), (.var 12), (.var 13), (.var 14)], [], [(.avar 0), (.avar 1), (.avar 2)]⟩ ⟨21, [(.agg [(.strn (.var 0)), (.int .i64 (.var 1)), (.asl 0 (.var 2)), (.asl 1 (.var 3)), (.asl 2 (.var 4)), (.int .i64 (.var 5)), (.int .i64 (.var 6))])], [0, 1, 2], [(some ⟨[], 3, true, false, (some ⟨(.var 2), [(.int .i64)], [(.avar 0)]⟩)⟩), (some ⟨[], 98, true, false, (some ⟨(.var 3), [(.float .f32)], [(.avar 1)]⟩)⟩), (some ⟨[], 98, true, false, (some ⟨(.var 4), [(.float .f32)], [(.avar 2)]⟩)⟩), none, none, none, none, none, none, none, none, none, none, none], (.tuple [(.agg [(.int .i64 (.var 12)), (.int .i64 (.var 13))]), (.int .i64 (.var 14))]), []⟩
            (.ite (.icmp .eql (.var 9) (.var 14))
            (.ret ⟨[], [(.and (.icmp .eql (.var 7) (.var 12)) (.icmp .eql (.var 8) (.var 13)))], []⟩ [])
            (.ret ⟨[], [(.lit false)], []⟩ [])))
           (.ite (.icmp .eql (.var 9) (.var 11))
            (.ret ⟨[], [(.and (.icmp .eql (.var 7) (.lit 0)) (.icmp .eql (.var 8) (.lit 0)))], []⟩ [])
            (.ret ⟨[], [(.lit false)], []⟩ [])))))
          (.ret ⟨[], [(.lit true)], []⟩ []))
         (.ret ⟨[], [(.lit true)], []⟩ []))
        (.ret ⟨[], [(.lit true)], []⟩ [])))
      (.ite (.icmp .leq (.lit 64) (.var 3))
       (.ite (.icmp .leq (.var 3) (.lit 66))
        (.ite (.icmp .leq (.var 4) (.lit 12))
         (.ite (.icmp .leq (.bin .sLen (.var 0) (.lit 0)) (.lit 20))
          (.call glass_Abbe_s ⟨[(.var 0), (.var 1), (.var 2), (.var 3), (.var 4), (.var 5), (.var 6)], [], [(.avar 0), (.avar 1), (.avar 2)]⟩ ⟨[(.var 0), (.var 1), (.var 2), (.var 3), (.var 4), (.var 5), (.var 6), (.var 7), (.var 8), (.var 9)], [], [(.avar 0), (.avar 1), (.avar 2)]⟩ ⟨20, [(.agg [(.strn (.var 0)), (.int .i64 (.var 1)), (.asl 7 (.var 2)), (.asl 9 (.var 3)), (.asl 11 (.var 4)), (.int .i64 (.var 5)), (.int .i64 (.var 6))])], [7, 9, 11], [none, none, none, none, none, none, none, (some ⟨[], 3, false, true, (some ⟨(.var 2), [(.int .i64)], [(.avar 0)]⟩)⟩), none, (some ⟨[], 98, false, true, (some ⟨(.var 3), [(.float .f32)], [(.avar 1)]⟩)⟩), none, (some ⟨[], 98, false, true, (some ⟨(.var 4), [(.float .f32)], [(.avar 2)]⟩)⟩)], (.tuple [(.agg [(.int .i64 (.var 7)), (.int .i64 (.var 8))]), (.int .i64 (.var 9))]), []⟩
           (.call etalonref02_CheckGlass_s ⟨[(.var 0), (.var 1), (.var 2), (.var 3), (.var 4), (.var 5), (.var 6)], [], [(.avar 0), (.avar 1), (.avar 2)]⟩ ⟨[(.var 0), (.var 1), (.var 2), (.var 3), (.var 4), (.var 5), (.var 6), (.var 10), (.var 11)], [], [(.avar 0), (.avar 1), (.avar 2)]⟩ ⟨13, [(.agg [(.strn (.var 0)), (.int .i64 (.var 1)), (.asl 0 (.var 2)), (.asl 1 (.var 3)), (.asl 2 (.var 4)), (.int .i64 (.var 5)), (.int .i64 (.var 6))])], [0, 1, 2], [(some ⟨[], 3, true, false, (some ⟨(.var 2), [(.int .i64)], [(.avar 0)]⟩)⟩), (some ⟨[], 98, true, false, (some ⟨(.var 3), [(.float .f32)], [(.avar 1)]⟩)⟩), (some ⟨[], 98, true, false, (some ⟨(.var 4), [(.float .f32)], [(.avar 2)]⟩)⟩), none, none, none, none, none, none, none, none, none, none], (.tuple [(.int .i64 (.var 10)), (.int .i64 (.var 11))]), []⟩
           (.ite (.icmp .eql (.var 11) (.lit 0))
           (.call etalonref02_Abbe_s ⟨[(.var 0), (.var 1), (.var 2), (.var 3), (.var 4), (.var 5), (.var 6)], [], [(.avar 0), (.avar 1), (.avar 2)]⟩ ⟨[(.var 0), (.var 1), (.var 2), (.var 3), (.var 4), (.var 5), (.var 6), (.var 12), (.var 13), (.var 14)], [], [(.avar 0), (.avar 1), (.avar 2)]⟩ ⟨21, [(.agg [(.strn (.var 0)), (.int .i64 (.var 1)), (.asl 0 (.var 2)), (.asl 1 (.var 3)), (.asl 2 (.var 4)), (.int .i64 (.var 5)), (.int .i64 (.var 6))])], [0, 1, 2], [(some ⟨[], 3, true, false, (some ⟨(.var 2), [(.int .i64)], [(.avar 0)]⟩)⟩), (some ⟨[], 98, true, false, (some ⟨(.var 3), [(.float .f32)], [(.avar 1)]⟩)⟩), (some ⟨[], 98, true, false, (some ⟨(.var 4), [(.float .f32)], [(.avar 2)]⟩)⟩), none, none, none, none, none, none, none, none, none, none, none], (.tuple [(.agg [(.int .i64 (.var 12)), (.int .i64 (.var 13))]), (.int .i64 (.var 14))]), []⟩
            (.ite (.icmp .eql (.var 9) (.var 14))
            (.ret ⟨[], [(.and (.icmp .eql (.var 7) (.var 12)) (.icmp .eql (.var 8) (.var 13)))], []⟩ [])
            (.ret ⟨[], [(.lit false)], []⟩ [])))
           (.ite (.icmp .eql (.var 9) (.var 11))
            (.ret ⟨[], [(.and (.icmp .eql (.var 7) (.lit 0)) (.icmp .eql (.var 8) (.lit 0)))], []⟩ [])
            (.ret ⟨[], [(.lit false)], []⟩ [])))))
          (.ret ⟨[], [(.lit true)], []⟩ []))
         (.ite (.icmp .leq (.lit 64) (.var 4))
          (.ite (.icmp .leq (.var 4) (.lit 66))
           (.ite (.icmp .leq (.bin .sLen (.var 0) (.lit 0)) (.lit 20))
            (.call glass_Abbe_s ⟨[(.var 0), (.var 1), (.var 2), (.var 3), (.var 4), (.var 5), (.var 6)], [], [(.avar 0), (.avar 1), (.avar 2)]⟩ ⟨[(.var 0), (.var 1), (.var 2), (.var 3), (.var 4), (.var 5), (.var 6), (.var 7), (.var 8), (.var 9)], [], [(.avar 0), (.avar 1), (.avar 2)]⟩ ⟨20, [(.agg [(.strn (.var 0)), (.int .i64 (.var 1)), (.asl 7 (.var 2)), (.asl 9 (.var 3)), (.asl 11 (.var 4)), (.int .i64 (.var 5)), (.int .i64 (.var 6))])], [7, 9, 11], [none, none, none, none, none, none, none, (some ⟨[], 3, false, true, (some ⟨(.var 2), [(.int .i64)], [(.avar 0)]⟩)⟩), none, (some ⟨[], 98, false, true, (some ⟨(.var 3), [(.float .f32)], [(.avar 1)]⟩)⟩), none, (some ⟨[], 98, false, true, (some ⟨(.var 4), [(.float .f32)], [(.avar 2)]⟩)⟩)], (.tuple [(.agg [(.int .i64 (.var 7)), (.int .i64 (.var 8))]), (.int .i64 (.var 9))]), []⟩
             (.call etalonref02_CheckGlass_s ⟨[(.var 0), (.var 1), (.var 2), (.var 3), (.var 4), (.var 5), (.var 6)], [], [(.avar 0), (.avar 1), (.avar 2)]⟩ ⟨[(.var 0), (.var 1), (.var 2), (.var 3), (.var 4), (.var 5), (.var 6), (.var 10), (.var 11)], [], [(.avar 0), (.avar 1), (.avar 2)]⟩ ⟨13, [(.agg [(.strn (.var 0)), (.int .i64 (.var 1)), (.asl 0 (.var 2)), (.asl 1 (.var 3)), (.asl 2 (.var 4)), (.int .i64 (.var 5)), (.int .i64 (.var 6))])], [0, 1, 2], [(some ⟨[], 3, true, false, (some ⟨(.var 2), [(.int .i64)], [(.avar 0)]⟩)⟩), (some ⟨[], 98, true, false, (some ⟨(.var 3), [(.float .f32)], [(.avar 1)]⟩)⟩), (some ⟨[], 98, true, false, (some ⟨(.var 4), [(.float .f32)], [(.avar 2)]⟩)⟩), none, none, none, none, none, none, none, none, none, none], (.tuple [(.int .i64 (.var 10)), (.int .i64 (.var 11))]), []⟩
             (.ite (.icmp .eql (.var 11) (.lit 0))
             (.call etalonref02_Abbe_s ⟨[(.var 0), (.var 1), (.var 2), (.var 3), (.var 4), (.var 5), (.var 6)], [], [(.avar 0), (.avar 1), (.avar 2)]⟩ ⟨[(.var 0), (.var 1), (.var 2), (.var 3), (.var 4), (.var 5), (.var 6), (.var 12), (.var 13), (.var 14)], [], [(.avar 0), (.avar 1), (.avar 2)]⟩ ⟨21, [(.agg [(.strn (.var 0)), (.int .i64 (.var 1)), (.asl 0 (.var 2)), (.asl 1 (.var 3)), (.asl 2 (.var 4)), (.int .i64 (.var 5)), (.int .i64 (.var 6))])], [0, 1, 2], [(some ⟨[], 3, true, false, (some ⟨(.var 2), [(.int .i64)], [(.avar 0)]⟩)⟩), (some ⟨[], 98, true, false, (some ⟨(.var 3), [(.float .f32)], [(.avar 1)]⟩)⟩), (some ⟨[], 98, true, false, (some ⟨(.var 4), [(.float .f32)], [(.avar 2)]⟩)⟩), none, none, none, none, none, none, none, none, none, none, none], (.tuple [(.agg [(.int .i64 (.var 12)), (.int .i64 (.var 13))]), (.int .i64 (.var 14))]), []⟩
              (.ite (.icmp .eql (.var 9) (.var 14))
              (.ret ⟨[], [(.and (.icmp .eql (.var 7) (.var 12)) (.icmp .eql (.var 8) (.var 13)))], []⟩ [])
              (.ret ⟨[], [(.lit false)], []⟩ [])))
             (.ite (.icmp .eql (.var 9) (.var 11))
              (.ret ⟨[], [(.and (.icmp .eql (.var 7) (.lit 0)) (.icmp .eql (.var 8) (.lit 0)))], []⟩ [])
              (.ret ⟨[], [(.lit false)], []⟩ [])))))
            (.ret ⟨[], [(.lit true)], []⟩ []))
           (.ret ⟨[], [(.lit true)], []⟩ []))
          (.ret ⟨[], [(.lit true)], []⟩ [])))
        (.ret ⟨[], [(.lit true)], []⟩ []))
       (.ret ⟨[], [(.lit true)], []⟩ [])))
     (.ret ⟨[], [(.lit true)], []⟩ []))
    (.ret ⟨[], [(.lit true)], []⟩ [])))
  (.ret ⟨[], [(.lit false)], []⟩ [])))
theorem gab {x0 x1 x2 x3 x4 x5 x6 : Int} {f0 f1 f2 : Int → Int} (r1 : (-9223372036854775808) ≤ x1 ∧ x1 ≤ 9223372036854775807) (r2 : 0 ≤ x2 ∧ x2 ≤ 9223372036854775807) (r3 : 0 ≤ x3 ∧ x3 ≤ 9223372036854775807) (r4 : 0 ≤ x4 ∧ x4 ≤ 9223372036854775807) (r5 : (-9223372036854775808) ≤ x5 ∧ x5 ≤ 9223372036854775807) (r6 : (-9223372036854775808) ≤ x6 ∧ x6 ≤ 9223372036854775807) (s0 : ∀ q, (-9223372036854775808) ≤ f0 q ∧ f0 q ≤ 9223372036854775807) {R : Bool → Prop}
  (H : (∃ u0 : Bool, Spec Tryz.prog etalonlaw02_awake_s ⟨[], [], []⟩ [] [u0] [] ∧
   ((u0 = true → ((decide ((x2 : Int) ≤ 12) = true → ((decide ((x3 : Int) ≤ 12) = true → ((decide ((x4 : Int) ≤ 12) = true → ((decide (((NOp.den .sLen x0 0) : Int) ≤ 20) = true → (∃ v7 : Int, ∃ v8 : Int, ∃ v9 : Int, Spec Tryz.prog glass_Abbe_s ⟨[x0, x1, x2, x3, x4, x5, x6], [], [f0, f1, f2]⟩ [v7, v8, v9] [] [] ∧
        (∃ v10 : Int, ∃ v11 : Int, Spec Tryz.prog etalonref02_CheckGlass_s ⟨[x0, x1, x2, x3, x4, x5, x6], [], [f0, f1, f2]⟩ [v10, v11] [] [] ∧
        ((((v11 : Int) == 0) = true → (∃ v12 : Int, ∃ v13 : Int, ∃ v14 : Int, Spec Tryz.prog etalonref02_Abbe_s ⟨[x0, x1, x2, x3, x4, x5, x6], [], [f0, f1, f2]⟩ [v12, v13, v14] [] [] ∧
         ((((v9 : Int) == v14) = true → R ((((v7 : Int) == v12) && ((v8 : Int) == v13)))) ∧
         (((v9 : Int) == v14) = false → R (false))))) ∧
        (((v11 : Int) == 0) = false → ((((v9 : Int) == v11) = true → R ((((v7 : Int) == 0) && ((v8 : Int) == 0)))) ∧
         (((v9 : Int) == v11) = false → R (false)))))))) ∧
       (decide (((NOp.den .sLen x0 0) : Int) ≤ 20) = false → R (true)))) ∧
      (decide ((x4 : Int) ≤ 12) = false → ((decide ((64 : Int) ≤ x4) = true → ((decide ((x4 : Int) ≤ 66) = true → ((decide (((NOp.den .sLen x0 0) : Int) ≤ 20) = true → (∃ v7 : Int, ∃ v8 : Int, ∃ v9 : Int, Spec Tryz.prog glass_Abbe_s ⟨[x0, x1, x2, x3, x4, x5, x6], [], [f0, f1, f2]⟩ [v7, v8, v9] [] [] ∧
          (∃ v10 : Int, ∃ v11 : Int, Spec Tryz.prog etalonref02_CheckGlass_s ⟨[x0, x1, x2, x3, x4, x5, x6], [], [f0, f1, f2]⟩ [v10, v11] [] [] ∧
          ((((v11 : Int) == 0) = true → (∃ v12 : Int, ∃ v13 : Int, ∃ v14 : Int, Spec Tryz.prog etalonref02_Abbe_s ⟨[x0, x1, x2, x3, x4, x5, x6], [], [f0, f1, f2]⟩ [v12, v13, v14] [] [] ∧
           ((((v9 : Int) == v14) = true → R ((((v7 : Int) == v12) && ((v8 : Int) == v13)))) ∧
           (((v9 : Int) == v14) = false → R (false))))) ∧
          (((v11 : Int) == 0) = false → ((((v9 : Int) == v11) = true → R ((((v7 : Int) == 0) && ((v8 : Int) == 0)))) ∧
           (((v9 : Int) == v11) = false → R (false)))))))) ∧
         (decide (((NOp.den .sLen x0 0) : Int) ≤ 20) = false → R (true)))) ∧
        (decide ((x4 : Int) ≤ 66) = false → R (true)))) ∧
       (decide ((64 : Int) ≤ x4) = false → R (true)))))) ∧
     (decide ((x3 : Int) ≤ 12) = false → ((decide ((64 : Int) ≤ x3) = true → ((decide ((x3 : Int) ≤ 66) = true → ((decide ((x4 : Int) ≤ 12) = true → ((decide (((NOp.den .sLen x0 0) : Int) ≤ 20) = true → (∃ v7 : Int, ∃ v8 : Int, ∃ v9 : Int, Spec Tryz.prog glass_Abbe_s ⟨[x0, x1, x2, x3, x4, x5, x6], [], [f0, f1, f2]⟩ [v7, v8, v9] [] [] ∧
          (∃ v10 : Int, ∃ v11 : Int, Spec Tryz.prog etalonref02_CheckGlass_s ⟨[x0, x1, x2, x3, x4, x5, x6], [], [f0, f1, f2]⟩ [v10, v11] [] [] ∧
          ((((v11 : Int) == 0) = true → (∃ v12 : Int, ∃ v13 : Int, ∃ v14 : Int, Spec Tryz.prog etalonref02_Abbe_s ⟨[x0, x1, x2, x3, x4, x5, x6], [], [f0, f1, f2]⟩ [v12, v13, v14] [] [] ∧
           ((((v9 : Int) == v14) = true → R ((((v7 : Int) == v12) && ((v8 : Int) == v13)))) ∧
           (((v9 : Int) == v14) = false → R (false))))) ∧
          (((v11 : Int) == 0) = false → ((((v9 : Int) == v11) = true → R ((((v7 : Int) == 0) && ((v8 : Int) == 0)))) ∧
           (((v9 : Int) == v11) = false → R (false)))))))) ∧
         (decide (((NOp.den .sLen x0 0) : Int) ≤ 20) = false → R (true)))) ∧
        (decide ((x4 : Int) ≤ 12) = false → ((decide ((64 : Int) ≤ x4) = true → ((decide ((x4 : Int) ≤ 66) = true → ((decide (((NOp.den .sLen x0 0) : Int) ≤ 20) = true → (∃ v7 : Int, ∃ v8 : Int, ∃ v9 : Int, Spec Tryz.prog glass_Abbe_s ⟨[x0, x1, x2, x3, x4, x5, x6], [], [f0, f1, f2]⟩ [v7, v8, v9] [] [] ∧
            (∃ v10 : Int, ∃ v11 : Int, Spec Tryz.prog etalonref02_CheckGlass_s ⟨[x0, x1, x2, x3, x4, x5, x6], [], [f0, f1, f2]⟩ [v10, v11] [] [] ∧
            ((((v11 : Int) == 0) = true → (∃ v12 : Int, ∃ v13 : Int, ∃ v14 : Int, Spec Tryz.prog etalonref02_Abbe_s ⟨[x0, x1, x2, x3, x4, x5, x6], [], [f0, f1, f2]⟩ [v12, v13, v14] [] [] ∧
             ((((v9 : Int) == v14) = true → R ((((v7 : Int) == v12) && ((v8 : Int) == v13)))) ∧
             (((v9 : Int) == v14) = false → R (false))))) ∧
            (((v11 : Int) == 0) = false → ((((v9 : Int) == v11) = true → R ((((v7 : Int) == 0) && ((v8 : Int) == 0)))) ∧
             (((v9 : Int) == v11) = false → R (false)))))))) ∧
           (decide (((NOp.den .sLen x0 0) : Int) ≤ 20) = false → R (true)))) ∧
          (decide ((x4 : Int) ≤ 66) = false → R (true)))) ∧
         (decide ((64 : Int) ≤ x4) = false → R (true)))))) ∧
       (decide ((x3 : Int) ≤ 66) = false → R (true)))) ∧
      (decide ((64 : Int) ≤ x3) = false → R (true)))))) ∧
    (decide ((x2 : Int) ≤ 12) = false → ((decide ((64 : Int) ≤ x2) = true → ((decide ((x2 : Int) ≤ 66) = true → ((decide ((x3 : Int) ≤ 12) = true → ((decide ((x4 : Int) ≤ 12) = true → ((decide (((NOp.den .sLen x0 0) : Int) ≤ 20) = true → (∃ v7 : Int, ∃ v8 : Int, ∃ v9 : Int, Spec Tryz.prog glass_Abbe_s ⟨[x0, x1, x2, x3, x4, x5, x6], [], [f0, f1, f2]⟩ [v7, v8, v9] [] [] ∧
          (∃ v10 : Int, ∃ v11 : Int, Spec Tryz.prog etalonref02_CheckGlass_s ⟨[x0, x1, x2, x3, x4, x5, x6], [], [f0, f1, f2]⟩ [v10, v11] [] [] ∧
          ((((v11 : Int) == 0) = true → (∃ v12 : Int, ∃ v13 : Int, ∃ v14 : Int, Spec Tryz.prog etalonref02_Abbe_s ⟨[x0, x1, x2, x3, x4, x5, x6], [], [f0, f1, f2]⟩ [v12, v13, v14] [] [] ∧
           ((((v9 : Int) == v14) = true → R ((((v7 : Int) == v12) && ((v8 : Int) == v13)))) ∧
           (((v9 : Int) == v14) = false → R (false))))) ∧
          (((v11 : Int) == 0) = false → ((((v9 : Int) == v11) = true → R ((((v7 : Int) == 0) && ((v8 : Int) == 0)))) ∧
           (((v9 : Int) == v11) = false → R (false)))))))) ∧
         (decide (((NOp.den .sLen x0 0) : Int) ≤ 20) = false → R (true)))) ∧
        (decide ((x4 : Int) ≤ 12) = false → ((decide ((64 : Int) ≤ x4) = true → ((decide ((x4 : Int) ≤ 66) = true → ((decide (((NOp.den .sLen x0 0) : Int) ≤ 20) = true → (∃ v7 : Int, ∃ v8 : Int, ∃ v9 : Int, Spec Tryz.prog glass_Abbe_s ⟨[x0, x1, x2, x3, x4, x5, x6], [], [f0, f1, f2]⟩ [v7, v8, v9] [] [] ∧
            (∃ v10 : Int, ∃ v11 : Int, Spec Tryz.prog etalonref02_CheckGlass_s ⟨[x0, x1, x2, x3, x4, x5, x6], [], [f0, f1, f2]⟩ [v10, v11] [] [] ∧
            ((((v11 : Int) == 0) = true → (∃ v12 : Int, ∃ v13 : Int, ∃ v14 : Int, Spec Tryz.prog etalonref02_Abbe_s ⟨[x0, x1, x2, x3, x4, x5, x6], [], [f0, f1, f2]⟩ [v12, v13, v14] [] [] ∧
             ((((v9 : Int) == v14) = true → R ((((v7 : Int) == v12) && ((v8 : Int) == v13)))) ∧
             (((v9 : Int) == v14) = false → R (false))))) ∧
            (((v11 : Int) == 0) = false → ((((v9 : Int) == v11) = true → R ((((v7 : Int) == 0) && ((v8 : Int) == 0)))) ∧
             (((v9 : Int) == v11) = false → R (false)))))))) ∧
           (decide (((NOp.den .sLen x0 0) : Int) ≤ 20) = false → R (true)))) ∧
          (decide ((x4 : Int) ≤ 66) = false → R (true)))) ∧
         (decide ((64 : Int) ≤ x4) = false → R (true)))))) ∧
       (decide ((x3 : Int) ≤ 12) = false → ((decide ((64 : Int) ≤ x3) = true → ((decide ((x3 : Int) ≤ 66) = true → ((decide ((x4 : Int) ≤ 12) = true → ((decide (((NOp.den .sLen x0 0) : Int) ≤ 20) = true → (∃ v7 : Int, ∃ v8 : Int, ∃ v9 : Int, Spec Tryz.prog glass_Abbe_s ⟨[x0, x1, x2, x3, x4, x5, x6], [], [f0, f1, f2]⟩ [v7, v8, v9] [] [] ∧
            (∃ v10 : Int, ∃ v11 : Int, Spec Tryz.prog etalonref02_CheckGlass_s ⟨[x0, x1, x2, x3, x4, x5, x6], [], [f0, f1, f2]⟩ [v10, v11] [] [] ∧
            ((((v11 : Int) == 0) = true → (∃ v12 : Int, ∃ v13 : Int, ∃ v14 : Int, Spec Tryz.prog etalonref02_Abbe_s ⟨[x0, x1, x2, x3, x4, x5, x6], [], [f0, f1, f2]⟩ [v12, v13, v14] [] [] ∧
             ((((v9 : Int) == v14) = true → R ((((v7 : Int) == v12) && ((v8 : Int) == v13)))) ∧
             (((v9 : Int) == v14) = false → R (false))))) ∧
            (((v11 : Int) == 0) = false → ((((v9 : Int) == v11) = true → R ((((v7 : Int) == 0) && ((v8 : Int) == 0)))) ∧
             (((v9 : Int) == v11) = false → R (false)))))))) ∧
           (decide (((NOp.den .sLen x0 0) : Int) ≤ 20) = false → R (true)))) ∧
          (decide ((x4 : Int) ≤ 12) = false → ((decide ((64 : Int) ≤ x4) = true → ((decide ((x4 : Int) ≤ 66) = true → ((decide (((NOp.den .sLen x0 0) : Int) ≤ 20) = true → (∃ v7 : Int, ∃ v8 : Int, ∃ v9 : Int, Spec Tryz.prog glass_Abbe_s ⟨[x0, x1, x2, x3, x4, x5, x6], [], [f0, f1, f2]⟩ [v7, v8, v9] [] [] ∧
              (∃ v10 : Int, ∃ v11 : Int, Spec Tryz.prog etalonref02_CheckGlass_s ⟨[x0, x1, x2, x3, x4, x5, x6], [], [f0, f1, f2]⟩ [v10, v11] [] [] ∧
              ((((v11 : Int) == 0) = true → (∃ v12 : Int, ∃ v13 : Int, ∃ v14 : Int, Spec Tryz.prog etalonref02_Abbe_s ⟨[x0, x1, x2, x3, x4, x5, x6], [], [f0, f1, f2]⟩ [v12, v13, v14] [] [] ∧
               ((((v9 : Int) == v14) = true → R ((((v7 : Int) == v12) && ((v8 : Int) == v13)))) ∧
               (((v9 : Int) == v14) = false → R (false))))) ∧
              (((v11 : Int) == 0) = false → ((((v9 : Int) == v11) = true → R ((((v7 : Int) == 0) && ((v8 : Int) == 0)))) ∧
               (((v9 : Int) == v11) = false → R (false)))))))) ∧
             (decide (((NOp.den .sLen x0 0) : Int) ≤ 20) = false → R (true)))) ∧
            (decide ((x4 : Int) ≤ 66) = false → R (true)))) ∧
           (decide ((64 : Int) ≤ x4) = false → R (true)))))) ∧
         (decide ((x3 : Int) ≤ 66) = false → R (true)))) ∧
        (decide ((64 : Int) ≤ x3) = false → R (true)))))) ∧
      (decide ((x2 : Int) ≤ 66) = false → R (true)))) ∧
     (decide ((64 : Int) ≤ x2) = false → R (true)))))) ∧
   (u0 = false → R (false))))) :
    ∃ u0 : Bool, R u0 ∧ Spec Tryz.prog etalonlaw02_GlassAbbe_s ⟨[x0, x1, x2, x3, x4, x5, x6], [], [f0, f1, f2]⟩ [] [u0] [] :=
  Eq.mp (by kernel_rfl) (exV_of (K := fun d => app3 etalonlaw02_GlassAbbe_s.out R d ∧ Spec Tryz.prog etalonlaw02_GlassAbbe_s ⟨[x0, x1, x2, x3, x4, x5, x6], [], [f0, f1, f2]⟩ d.1 d.2.1 d.2.2) (tree_at mixed names S2_ok (S := S2 Tryz.prog) (lf := 100000) (d := 60) etalonlaw02_GlassAbbe_s gab_t { ivs := [(1, (-9223372036854775808), 9223372036854775807), (2, 0, 9223372036854775807), (3, 0, 9223372036854775807), (4, 0, 9223372036854775807), (5, (-9223372036854775808), 9223372036854775807), (6, (-9223372036854775808), 9223372036854775807)], aivs := [(0, (-9223372036854775808), 9223372036854775807)] } ⟨[x0, x1, x2, x3, x4, x5, x6], [], [f0, f1, f2]⟩ rfl (by kernel_rfl) (by kernel_rfl) (by kernel_rfl) ⟨(fc r1 (fc r2 (fc r3 (fc r4 (fc r5 (fc r6 fz)))))), fz, (fc s0 fz), fz⟩ (R := fun d => app3 etalonlaw02_GlassAbbe_s.out R d) (Eq.mp (by kernel_rfl) H)))

set_option maxHeartbeats 8000000 in

theorem abbes {x0 x1 x2 x3 x4 x5 x6 : Int} {f0 f1 f2 : Int → Int} (r1 : (-9223372036854775808) ≤ x1 ∧ x1 ≤ 9223372036854775807) (r2 : 0 ≤ x2 ∧ x2 ≤ 9223372036854775807) (r3 : 0 ≤ x3 ∧ x3 ≤ 9223372036854775807) (r4 : 0 ≤ x4 ∧ x4 ≤ 9223372036854775807) (r5 : (-9223372036854775808) ≤ x5 ∧ x5 ≤ 9223372036854775807) (r6 : (-9223372036854775808) ≤ x6 ∧ x6 ≤ 9223372036854775807) (s0 : ∀ q, (-9223372036854775808) ≤ f0 q ∧ f0 q ≤ 9223372036854775807) :

    Spec Tryz.prog etalonlaw02_GlassAbbe_s ⟨[x0, x1, x2, x3, x4, x5, x6], [], [f0, f1, f2]⟩ [] [true] [] := by

  obtain ⟨a0, rfl, ha⟩ := awake

  obtain ⟨u, _, hp, hr⟩ := isName_s x0

  obtain ⟨w, rfl, hs⟩ : ∃ u0 : Bool, u0 = true ∧ Spec Tryz.prog etalonlaw02_GlassAbbe_s ⟨[x0, x1, x2, x3, x4, x5, x6], [], [f0, f1, f2]⟩ [] [u0] [] := by

    have cr (h2 : x2 ≤ 140737488355328) (h3 : x3 ≤ 140737488355328) (h4 : x4 ≤ 140737488355328) := checkGlass_r (f1 := f1) (f2 := f2) hr r1 ⟨r2.1, h2⟩ ⟨r3.1, h3⟩ ⟨r4.1, h4⟩ r5 r6 s0

    by_cases hE : (glE u x1 x2 x3 x4 x5 x6 f0 f1 f2).2 = 0

    · have key (h2 : x2 ≤ 140737488355328) (h3 : x3 ≤ 140737488355328) (h4 : x4 ≤ 140737488355328) := abbe (f1 := f1) (f2 := f2) hp hE r1 ⟨r2.1, h2⟩ ⟨r3.1, h3⟩ ⟨r4.1, h4⟩ r5 r6 s0

      refine gab (x0 := x0) (f1 := f1) (f2 := f2) r1 r2 r3 r4 r5 r6 s0 (R := (· = true)) ⟨true, ha, fun _ => ?_, fun h => by cases h⟩

      simp only [decide_eq_true_eq, decide_eq_false_iff_not, beq_iff_eq, beq_eq_false_iff_ne, ne_eq]

      repeat' (first | (refine ⟨fun _ => ?_, fun _ => ?_⟩) | fail)

      all_goals first

        | exact trivial

        | (obtain ⟨n, d, e, h1, h2⟩ := key (by omega) (by omega) (by omega)

           have c := cr (by omega) (by omega) (by omega)

           rw [hE] at c

           exact ⟨_, _, _, h1, _, _, c, fun _ => ⟨_, _, _, h2, fun _ => by simp, fun g => absurd rfl g⟩, fun g => absurd rfl g⟩)

    · have key (h2 : x2 ≤ 140737488355328) (h3 : x3 ≤ 140737488355328) (h4 : x4 ≤ 140737488355328) := abbe_bad (f1 := f1) (f2 := f2) hp hE r1 ⟨r2.1, h2⟩ ⟨r3.1, h3⟩ ⟨r4.1, h4⟩ r5 r6 s0

      refine gab (x0 := x0) (f1 := f1) (f2 := f2) r1 r2 r3 r4 r5 r6 s0 (R := (· = true)) ⟨true, ha, fun _ => ?_, fun h => by cases h⟩

      simp only [decide_eq_true_eq, decide_eq_false_iff_not, beq_iff_eq, beq_eq_false_iff_ne, ne_eq]

      repeat' (first | (refine ⟨fun _ => ?_, fun _ => ?_⟩) | fail)

      all_goals first

        | exact trivial

        | (have h1 := key (by omega) (by omega) (by omega)

           have c := cr (by omega) (by omega) (by omega)

           exact ⟨_, _, _, h1, _, _, c, fun g => absurd g hE, fun _ => ⟨fun _ => by simp, fun g => absurd rfl g⟩⟩)

  exact hs

end Go.Proofs.YtfgdockgdbdoiaaGreat.Ev
