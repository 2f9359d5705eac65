/- GlassIndices. -/
import Derived.Test.YtfgdockgdbdoiaaGreatFgs
import Derived.Test.YtfgdockgdbdoiaaGreatFaw2
namespace Go.Proofs.YtfgdockgdbdoiaaGreat.Ev
set_option linter.unusedSimpArgs false
open Go Go.RowKit
set_option linter.unusedVariables false
set_option maxRecDepth 100000
def etalonlaw02_GlassIndices_s : Sig := ⟨3, ⟨8, 0, 3⟩, ⟨0, 1, 0⟩, [(.agg [(.strn (.var 0)), (.int .i64 (.var 1)), (.asl 0 (.var 2)), (.asl 1 (.var 3)), (.asl 2 (.var 4)), (.int .i64 (.var 5)), (.int .i64 (.var 6))]), (.int .i64 (.var 7))], [(some ⟨[], 3, true, false, (some ⟨(.var 2), [(.int .i64)], [(.avar 0)]⟩)⟩), (some ⟨[], 98, true, false, (some ⟨(.var 3), [(.float .f32)], [(.avar 1)]⟩)⟩), (some ⟨[], 98, true, false, (some ⟨(.var 4), [(.float .f32)], [(.avar 2)]⟩)⟩)], (.bool (.var 0)), []⟩

def gix_t : Tr :=
  (.call etalonlaw02_awake_s ⟨[], [], []⟩ ⟨[], [(.var 0)], []⟩ ⟨7, [], [], [none, none, none, none], (.bool (.var 0)), []⟩
  (.ite (.var 0)
  (.ite (.icmp .leq (.var 2) (.lit 12))
   (.ite (.icmp .leq (.var 3) (.lit 12))
    (.ite (.icmp .leq (.var 4) (.lit 12))
     (.ite (.icmp .leq (.bin .sLen (.var 0) (.lit 0)) (.lit 20))
      (.call glass_At_s ⟨[(.var 0), (.var 1), (.var 2), (.var 3), (.var 4), (.var 5), (.var 6), (.var 7)], [], [(.avar 0), (.avar 1), (.avar 2)]⟩ ⟨[(.var 0), (.var 1), (.var 2), (.var 3), (.var 4), (.var 5), (.var 6), (.var 7), (.var 8), (.var 9), (.var 10)], [], [(.avar 0), (.avar 1), (.avar 2)]⟩ ⟨9, [(.agg [(.strn (.var 0)), (.int .i64 (.var 1)), (.asl 7 (.var 2)), (.asl 9 (.var 3)), (.asl 11 (.var 4)), (.int .i64 (.var 5)), (.int .i64 (.var 6))]), (.int .i64 (.var 7))], [7, 9, 11], [none, none, none, none, none, none, none, (some ⟨[], 3, false, true, (some ⟨(.var 2), [(.int .i64)], [(.avar 0)]⟩)⟩), none, (some ⟨[], 98, false, true, (some ⟨(.var 3), [(.float .f32)], [(.avar 1)]⟩)⟩), none, (some ⟨[], 98, false, true, (some ⟨(.var 4), [(.float .f32)], [(.avar 2)]⟩)⟩)], (.tuple [(.agg [(.int .i64 (.var 8)), (.int .i64 (.var 9))]), (.int .i64 (.var 10))]), []⟩
       (.call glass_Permittivity_s ⟨[(.var 0), (.var 1), (.var 2), (.var 3), (.var 4), (.var 5), (.var 6), (.var 7)], [], [(.avar 0), (.avar 1), (.avar 2)]⟩ ⟨[(.var 0), (.var 1), (.var 2), (.var 3), (.var 4), (.var 5), (.var 6), (.var 7), (.var 11), (.var 12), (.var 13), (.var 14)], [], [(.avar 0), (.avar 1), (.avar 2)]⟩ ⟨11, [(.agg [(.strn (.var 0)), (.int .i64 (.var 1)), (.asl 16 (.var 2)), (.asl 18 (.var 3)), (.asl 20 (.var 4)), (.int .i64 (.var 5)), (.int .i64 (.var 6))]), (.int .i64 (.var 7))], [16, 18, 20], [none, none, none, none, none, none, none, none, none, none, none, none, none, none, none, none, (some ⟨[], 3, false, true, (some ⟨(.var 2), [(.int .i64)], [(.avar 0)]⟩)⟩), none, (some ⟨[], 98, false, true, (some ⟨(.var 3), [(.float .f32)], [(.avar 1)]⟩)⟩), none, (some ⟨[], 98, false, true, (some ⟨(.var 4), [(.float .f32)], [(.avar 2)]⟩)⟩)], (.tuple [(.agg [(.complex .f64 (.var 11) (.var 12)), (.int .i64 (.var 13))]), (.int .i64 (.var 14))]), []⟩
       (.call glass_GroupIndex_s ⟨[(.var 0), (.var 1), (.var 2), (.var 3), (.var 4), (.var 5), (.var 6), (.var 7)], [], [(.avar 0), (.avar 1), (.avar 2)]⟩ ⟨[(.var 0), (.var 1), (.var 2), (.var 3), (.var 4), (.var 5), (.var 6), (.var 7), (.var 15), (.var 16), (.var 17)], [], [(.avar 0), (.avar 1), (.avar 2)]⟩ ⟨12, [(.agg [(.strn (.var 0)), (.int .i64 (.var 1)), (.asl 25 (.var 2)), (.asl 27 (.var 3)), (.asl 29 (.var 4)), (.int .i64 (.var 5)), (.int .i64 (.var 6))]), (.int .i64 (.var 7))], [25, 27, 29], [none, none, none, none, none, none, none, none, none, none, none, none, none, none, none, none, none, none, none, none, none, none, none, none, none, (some ⟨[], 3, false, true, (some ⟨(.var 2), [(.int .i64)], [(.avar 0)]⟩)⟩), none, (some ⟨[], 98, false, true, (some ⟨(.var 3), [(.float .f32)], [(.avar 1)]⟩)⟩), none, (some ⟨[], 98, false, true, (some ⟨(.var 4), [(.float .f32)], [(.avar 2)]⟩)⟩)], (.tuple [(.agg [(.int .i64 (.var 15)), (.int .i64 (.var 16))]), (.int .i64 (.var 17))]), []⟩
       (.call etalonref02_CheckGlass_s ⟨[(.var 0), (.var 1), (.var 2), (.var 3), (.var 4), (.var 5), (.var 6)], [], [(.avar 0), (.avar 1), (.avar 2)]⟩ ⟨[(.var 0), (.var 1), (.var 2), (.var 3), (.var 4), (.var 5), (.var 6), (.var 18), (.var 19)], [], [(.avar 0), (.avar 1), (.avar 2)]⟩ ⟨13, [(.agg [(.strn (.var 0)), (.int .i64 (.var 1)), (.asl 0 (.var 2)), (.asl 1 (.var 3)), (.asl 2 (.var 4)), (.int .i64 (.var 5)), (.int .i64 (.var 6))])], [0, 1, 2], [(some ⟨[], 3, true, false, (some ⟨(.var 2), [(.int .i64)], [(.avar 0)]⟩)⟩), (some ⟨[], 98, true, false, (some ⟨(.var 3), [(.float .f32)], [(.avar 1)]⟩)⟩), (some ⟨[], 98, true, false, (some ⟨(.var 4), [(.float .f32)], [(.avar 2)]⟩)⟩), none, none, none, none, none, none, none, none, none, none, none, none, none, none, none, none, none, none, none, none, none, none, none, none, none, none, none, none], (.tuple [(.int .i64 (.var 18)), (.int .i64 (.var 19))]), []⟩
       (.ite (.icmp .eql (.var 19) (.lit 0))
       (.call etalonref02_WaveErr_s ⟨[(.var 0), (.var 1), (.var 2), (.var 3), (.var 4), (.var 5), (.var 6), (.var 7)], [], [(.avar 0), (.avar 1), (.avar 2)]⟩ ⟨[(.var 0), (.var 1), (.var 2), (.var 3), (.var 4), (.var 5), (.var 6), (.var 7), (.var 20)], [], [(.avar 0), (.avar 1), (.avar 2)]⟩ ⟨14, [(.agg [(.strn (.var 0)), (.int .i64 (.var 1)), (.asl 0 (.var 2)), (.asl 1 (.var 3)), (.asl 2 (.var 4)), (.int .i64 (.var 5)), (.int .i64 (.var 6))]), (.int .i64 (.var 7))], [0, 1, 2], [(some ⟨[], 3, true, false, (some ⟨(.var 2), [(.int .i64)], [(.avar 0)]⟩)⟩), (some ⟨[], 98, true, false, (some ⟨(.var 3), [(.float .f32)], [(.avar 1)]⟩)⟩), (some ⟨[], 98, true, false, (some ⟨(.var 4), [(.float .f32)], [(.avar 2)]⟩)⟩), none, none, none, none, none, none, none, none, none, none, none, none, none, none, none, none, none, none, none, none, none, none, none, none, none, none, none, none], (.int .i64 (.var 20)), []⟩
        (.ite (.icmp .eql (.var 20) (.lit 0))
        (.call etalonref02_At_s ⟨[(.var 0), (.var 1), (.var 2), (.var 3), (.var 4), (.var 5), (.var 6), (.var 7)], [], [(.avar 0), (.avar 1), (.avar 2)]⟩ ⟨[(.var 0), (.var 1), (.var 2), (.var 3), (.var 4), (.var 5), (.var 6), (.var 7), (.var 21), (.var 22)], [], [(.avar 0), (.avar 1), (.avar 2)]⟩ ⟨17, [(.agg [(.strn (.var 0)), (.int .i64 (.var 1)), (.asl 0 (.var 2)), (.asl 1 (.var 3)), (.asl 2 (.var 4)), (.int .i64 (.var 5)), (.int .i64 (.var 6))]), (.int .i64 (.var 7))], [0, 1, 2], [(some ⟨[], 3, true, false, (some ⟨(.var 2), [(.int .i64)], [(.avar 0)]⟩)⟩), (some ⟨[], 98, true, false, (some ⟨(.var 3), [(.float .f32)], [(.avar 1)]⟩)⟩), (some ⟨[], 98, true, false, (some ⟨(.var 4), [(.float .f32)], [(.avar 2)]⟩)⟩), none, none, none, none, none, none, none, none, none, none, none, none, none, none, none, none, none, none, none, none, none, none, none, none, none, none, none, none], (.agg [(.int .i64 (.var 21)), (.int .i64 (.var 22))]), []⟩
         (.call etalonref02_Permittivity_s ⟨[(.var 21), (.var 22)], [], []⟩ ⟨[(.var 21), (.var 22), (.var 23), (.var 24), (.var 25), (.var 26)], [], []⟩ ⟨16, [(.agg [(.int .i64 (.var 21)), (.int .i64 (.var 22))])], [], [none, none, none, none, none, none, none, none, none, none, none, none, none, none, none, none, none, none, none, none, none, none, none, none, none, none, none, none, none, none, none], (.tuple [(.agg [(.int .i64 (.var 23)), (.int .i64 (.var 24)), (.int .i64 (.var 25))]), (.int .i64 (.var 26))]), []⟩
         (.call etalonref02_GroupIndex_s ⟨[(.var 0), (.var 1), (.var 2), (.var 3), (.var 4), (.var 5), (.var 6), (.var 7)], [], [(.avar 0), (.avar 1), (.avar 2)]⟩ ⟨[(.var 0), (.var 1), (.var 2), (.var 3), (.var 4), (.var 5), (.var 6), (.var 7), (.var 27), (.var 28), (.var 29)], [], [(.avar 0), (.avar 1), (.avar 2)]⟩ ⟨18, [(.agg [(.strn (.var 0)), (.int .i64 (.var 1)), (.asl 0 (.var 2)), (.asl 1 (.var 3)), (.asl 2 (.var 4)), (.int .i64 (.var 5)), (.int .i64 (.var 6))]), (.int .i64 (.var 7))], [0, 1, 2], [(some ⟨[], 3, true, false, (some ⟨(.var 2), [(.int .i64)], [(.avar 0)]⟩)⟩), (some ⟨[], 98, true, false, (some ⟨(.var 3), [(.float .f32)], [(.avar 1)]⟩)⟩), (some ⟨[], 98, true, false, (some ⟨(.var 4), [(.float .f32)], [(.avar 2)]⟩)⟩), none, none, none, none, none, none, none, none, none, none, none, none, none, none, none, none, none, none, none, none, none, none, none, none, none, none, none, none, none], (.tuple [(.agg [(.int .i64 (.var 27)), (.int .i64 (.var 28))]), (.int .i64 (.var 29))]), []⟩
         (.ite (.icmp .eql (.var 10) (.lit 0))
         (.call etalonref02_At_s ⟨[(.var 0), (.var 1), (.var 2), (.var 3), (.var 4), (.var 5), (.var 6), (.var 7)], [], [(.avar 0), (.avar 1), (.avar 2)]⟩ ⟨[(.var 0), (.var 1), (.var 2), (.var 3), (.var 4), (.var 5), (.var 6), (.var 7), (.var 30), (.var 31)], [], [(.avar 0), (.avar 1), (.avar 2)]⟩ ⟨17, [(.agg [(.strn (.var 0)), (.int .i64 (.var 1)), (.asl 0 (.var 2)), (.asl 1 (.var 3)), (.asl 2 (.var 4)), (.int .i64 (.var 5)), (.int .i64 (.var 6))]), (.int .i64 (.var 7))], [0, 1, 2], [(some ⟨[], 3, true, false, (some ⟨(.var 2), [(.int .i64)], [(.avar 0)]⟩)⟩), (some ⟨[], 98, true, false, (some ⟨(.var 3), [(.float .f32)], [(.avar 1)]⟩)⟩), (some ⟨[], 98, true, false, (some ⟨(.var 4), [(.float .f32)], [(.avar 2)]⟩)⟩), none, none, none, none, none, none, none, none, none, none, none, none, none, none, none, none, none, none, none, none, none, none, none, none, none, none, none, none, none, none], (.agg [(.int .i64 (.var 30)), (.int .i64 (.var 31))]), []⟩
          (.ite (.icmp .eql (.var 8) (.var 30))
          (.ite (.icmp .eql (.var 9) (.var 31))
           (.ite (.icmp .eql (.var 14) (.var 26))
            (.ite (.icmp .eql (.bin .maxI (.var 11) (.lit 0)) (.toF .f64 (.var 23)))
             (.ite (.icmp .eql (.bin .maxI (.var 12) (.lit 0)) (.toF .f64 (.var 24)))
              (.ite (.icmp .eql (.var 13) (.var 25))
               (.ite (.icmp .eql (.var 17) (.var 29))
                (.ret ⟨[], [(.and (.icmp .eql (.var 15) (.var 27)) (.icmp .eql (.var 16) (.var 28)))], []⟩ [])
                (.ret ⟨[], [(.lit false)], []⟩ []))
               (.ret ⟨[], [(.lit false)], []⟩ []))
              (.ret ⟨[], [(.lit false)], []⟩ []))
             (.ret ⟨[], [(.lit false)], []⟩ []))
            (.ret ⟨[], [(.lit false)], []⟩ []))
           (.ret ⟨[], [(.lit false)], []⟩ []))
          (.ret ⟨[], [(.lit false)], []⟩ [])))
         (.ret ⟨[], [(.lit false)], []⟩ [])))))
        (.ite (.icmp .eql (.var 10) (.var 20))
         (.ite (.icmp .eql (.var 14) (.var 20))
          (.ite (.icmp .eql (.var 17) (.var 20))
           (.ite (.icmp .eql (.var 8) (.lit 0))
            (.ite (.icmp .eql (.var 9) (.lit 0))
             (.ite (.icmp .eql (.bin .maxI (.var 11) (.lit 0)) (.lit 0))
              (.ite (.icmp .eql (.bin .maxI (.var 12) (.lit 0)) (.lit 0))
               (.ite (.icmp .eql (.var 13) (.lit 0))
                (.ret ⟨[], [(.and (.icmp .eql (.var 15) (.lit 0)) (.icmp .eql (.var 16) (.lit 0)))], []⟩ [])
                (.ret ⟨[], [(.lit false)], []⟩ []))
               (.ret ⟨[], [(.lit false)], []⟩ []))
              (.ret ⟨[], [(.lit false)], []⟩ []))
             (.ret ⟨[], [(.lit false)], []⟩ []))
            (.ret ⟨[], [(.lit false)], []⟩ []))
           (.ret ⟨[], [(.lit false)], []⟩ []))
          (.ret ⟨[], [(.lit false)], []⟩ []))
         (.ret ⟨[], [(.lit false)], []⟩ []))))
       (.ite (.icmp .eql (.var 10) (.var 19))
        (.ite (.icmp .eql (.var 14) (.var 19))
         (.ite (.icmp .eql (.var 17) (.var 19))
          (.ite (.icmp .eql (.var 8) (.lit 0))
           (.ite (.icmp .eql (.var 9) (.lit 0))
            (.ite (.icmp .eql (.bin .maxI (.var 11) (.lit 0)) (.lit 0))
             (.ite (.icmp .eql (.bin .maxI (.var 12) (.lit 0)) (.lit 0))
              (.ite (.icmp .eql (.var 13) (.lit 0))
               (.ret ⟨[], [(.and (.icmp .eql (.var 15) (.lit 0)) (.icmp .eql (.var 16) (.lit 0)))], []⟩ [])
               (.ret ⟨[], [(.lit false)], []⟩ []))
              (.ret ⟨[], [(.lit false)], []⟩ []))
             (.ret ⟨[], [(.lit false)], []⟩ []))
            (.ret ⟨[], [(.lit false)], []⟩ []))
           (.ret ⟨[], [(.lit false)], []⟩ []))
          (.ret ⟨[], [(.lit false)], []⟩ []))
         (.ret ⟨[], [(.lit false)], []⟩ []))
        (.ret ⟨[], [(.lit false)], []⟩ [])))))))
      (.ret ⟨[], [(.lit true)], []⟩ []))
     (.ite (.icmp .leq (.lit 64) (.var 4))
      (.ite (.icmp .leq (.var 4) (.lit 66))
       (.ite (.icmp .leq (.bin .sLen (.var 0) (.lit 0)) (.lit 20))
        (.call glass_At_s ⟨[(.var 0), (.var 1), (.var 2), (.var 3), (.var 4), (.var 5), (.var 6), (.var 7)], [], [(.avar 0), (.avar 1), (.avar 2)]⟩ ⟨[(.var 0), (.var 1), (.var 2), (.var 3), (.var 4), (.var 5), (.var 6), (.var 7), (.var 8), (.var 9), (.var 10)], [], [(.avar 0), (.avar 1), (.avar 2)]⟩ ⟨9, [(.agg [(.strn (.var 0)), (.int .i64 (.var 1)), (.asl 7 (.var 2)), (.asl 9 (.var 3)), (.asl 11 (.var 4)), (.int .i64 (.var 5)), (.int .i64 (.var 6))]), (.int .i64 (.var 7))], [7, 9, 11], [none, none, none, none, none, none, none, (some ⟨[], 3, false, true, (some ⟨(.var 2), [(.int .i64)], [(.avar 0)]⟩)⟩), none, (some ⟨[], 98, false, true, (some ⟨(.var 3), [(.float .f32)], [(.avar 1)]⟩)⟩), none, (some ⟨[], 98, false, true, (some ⟨(.var 4), [(.float .f32)], [(.avar 2)]⟩)⟩)], (.tuple [(.agg [(.int .i64 (.var 8)), (.int .i64 (.var 9))]), (.int .i64 (.var 10))]), []⟩
         (.call glass_Permittivity_s ⟨[(.var 0), (.var 1), (.var 2), (.var 3), (.var 4), (.var 5), (.var 6), (.var 7)], [], [(.avar 0), (.avar 1), (.avar 2)]⟩ ⟨[(.var 0), (.var 1), (.var 2), (.var 3), (.var 4), (.var 5), (.var 6), (.var 7), (.var 11), (.var 12), (.var 13), (.var 14)], [], [(.avar 0), (.avar 1), (.avar 2)]⟩ ⟨11, [(.agg [(.strn (.var 0)), (.int .i64 (.var 1)), (.asl 16 (.var 2)), (.asl 18 (.var 3)), (.asl 20 (.var 4)), (.int .i64 (.var 5)), (.int .i64 (.var 6))]), (.int .i64 (.var 7))], [16, 18, 20], [none, none, none, none, none, none, none, none, none, none, none, none, none, none, none, none, (some ⟨[], 3, false, true, (some ⟨(.var 2), [(.int .i64)], [(.avar 0)]⟩)⟩), none, (some ⟨[], 98, false, true, (some ⟨(.var 3), [(.float .f32)], [(.avar 1)]⟩)⟩), none, (some ⟨[], 98, false, true, (some ⟨(.var 4), [(.float .f32)], [(.avar 2)]⟩)⟩)], (.tuple [(.agg [(.complex .f64 (.var 11) (.var 12)), (.int .i64 (.var 13))]), (.int .i64 (.var 14))]), []⟩
         (.call glass_GroupIndex_s ⟨[(.var 0), (.var 1), (.var 2), (.var 3), (.var 4), (.var 5), (.var 6), (.var 7)], [], [(.avar 0), (.avar 1), (.avar 2)]⟩ ⟨[(.var 0), (.var 1), (.var 2), (.var 3), (.var 4), (.var 5), (.var 6), (.var 7), (.var 15), (.var 16), (.var 17)], [], [(.avar 0), (.avar 1), (.avar 2)]⟩ ⟨12, [(.agg [(.strn (.var 0)), (.int .i64 (.var 1)), (.asl 25 (.var 2)), (.asl 27 (.var 3)), (.asl 29 (.var 4)), (.int .i64 (.var 5)), (.int .i64 (.var 6))]), (.int .i64 (.var 7))], [25, 27, 29], [none, none, none, none, none, none, none, none, none, none, none, none, none, none, none, none, none, none, none, none, none, none, none, none, none, (some ⟨[], 3, false, true, (some ⟨(.var 2), [(.int .i64)], [(.avar 0)]⟩)⟩), none, (some ⟨[], 98, false, true, (some ⟨(.var 3), [(.float .f32)], [(.avar 1)]⟩)⟩), none, (some ⟨[], 98, false, true, (some ⟨(.var 4), [(.float .f32)], [(.avar 2)]⟩)⟩)], (.tuple [(.agg [(.int .i64 (.var 15)), (.int .i64 (.var 16))]), (.int .i64 (.var 17))]), []⟩
         (.call etalonref02_CheckGlass_s ⟨[(.var 0), (.var 1), (.var 2), (.var 3), (.var 4), (.var 5), (.var 6)], [], [(.avar 0), (.avar 1), (.avar 2)]⟩ ⟨[(.var 0), (.var 1), (.var 2), (.var 3), (.var 4), (.var 5), (.var 6), (.var 18), (.var 19)], [], [(.avar 0), (.avar 1), (.avar 2)]⟩ ⟨13, [(.agg [(.strn (.var 0)), (.int .i64 (.var 1)), (.asl 0 (.var 2)), (.asl 1 (.var 3)), (.asl 2 (.var 4)), (.int .i64 (.var 5)), (.int .i64 (.var 6))])], [0, 1, 2], [(some ⟨[], 3, true, false, (some ⟨(.var 2), [(.int .i64)], [(.avar 0)]⟩)⟩), (some ⟨[], 98, true, false, (some ⟨(.var 3), [(.float .f32)], [(.avar 1)]⟩)⟩), (some ⟨[], 98, true, false, (some ⟨(.var 4), [(.float .f32)], [(.avar 2)]⟩)⟩), none, none, none, none, none, none, none, none, none, none, none, none, none, none, none, none, none, none, none, none, none, none, none, none, none, none, none, none], (.tuple [(.int .i64 (.var 18)), (.int .i64 (.var 19))]), []⟩
         (.ite (.icmp .eql (.var 19) (.lit 0))
         (.call etalonref02_WaveErr_s ⟨[(.var 0), (.var 1), (.var 2), (.var 3), (.var 4), (.var 5), (.var 6), (.var 7)], [], [(.avar 0), (.avar 1), (.avar 2)]⟩ ⟨[(.var 0), (.var 1), (.var 2), (.var 3), (.var 4), (.var 5), (.var 6), (.var 7), (.var 20)], [], [(.avar 0), (.avar 1), (.avar 2)]⟩ ⟨14, [(.agg [(.strn (.var 0)), (.int .i64 (.var 1)), (.asl 0 (.var 2)), (.asl 1 (.var 3)), (.asl 2 (.var 4)), (.int .i64 (.var 5)), (.int .i64 (.var 6))]), (.int .i64 (.var 7))], [0, 1, 2], [(some ⟨[], 3, true, false, (some ⟨(.var 2), [(.int .i64)], [(.avar 0)]⟩)⟩), (some ⟨[], 98, true, false, (some ⟨(.var 3), [(.float .f32)], [(.avar 1)]⟩)⟩), (some ⟨[], 98, true, false, (some ⟨(.var 4), [(.float .f32)], [(.avar 2)]⟩)⟩), none, none, none, none, none, none, none, none, none, none, none, none, none, none, none, none, none, none, none, none, none, none, none, none, none, none, none, none], (.int .i64 (.var 20)), []⟩
          (.ite (.icmp .eql (.var 20) (.lit 0))
          (.call etalonref02_At_s ⟨[(.var 0), (.var 1), (.var 2), (.var 3), (.var 4), (.var 5), (.var 6), (.var 7)], [], [(.avar 0), (.avar 1), (.avar 2)]⟩ ⟨[(.var 0), (.var 1), (.var 2), (.var 3), (.var 4), (.var 5), (.var 6), (.var 7), (.var 21), (.var 22)], [], [(.avar 0), (.avar 1), (.avar 2)]⟩ ⟨17, [(.agg [(.strn (.var 0)), (.int .i64 (.var 1)), (.asl 0 (.var 2)), (.asl 1 (.var 3)), (.asl 2 (.var 4)), (.int .i64 (.var 5)), (.int .i64 (.var 6))]), (.int .i64 (.var 7))], [0, 1, 2], [(some ⟨[], 3, true, false, (some ⟨(.var 2), [(.int .i64)], [(.avar 0)]⟩)⟩), (some ⟨[], 98, true, false, (some ⟨(.var 3), [(.float .f32)], [(.avar 1)]⟩)⟩), (some ⟨[], 98, true, false, (some ⟨(.var 4), [(.float .f32)], [(.avar 2)]⟩)⟩), none, none, none, none, none, none, none, none, none, none, none, none, none, none, none, none, none, none, none, none, none, none, none, none, none, none, none, none], (.agg [(.int .i64 (.var 21)), (.int .i64 (.var 22))]), []⟩
           (.call etalonref02_Permittivity_s ⟨[(.var 21), (.var 22)], [], []⟩ ⟨[(.var 21), (.var 22), (.var 23), (.var 24), (.var 25), (.var 26)], [], []⟩ ⟨16, [(.agg [(.int .i64 (.var 21)), (.int .i64 (.var 22))])], [], [none, none, none, none, none, none, none, none, none, none, none, none, none, none, none, none, none, none, none, none, none, none, none, none, none, none, none, none, none, none, none], (.tuple [(.agg [(.int .i64 (.var 23)), (.int .i64 (.var 24)), (.int .i64 (.var 25))]), (.int .i64 (.var 26))]), []⟩
           (.call etalonref02_GroupIndex_s ⟨[(.var 0), (.var 1), (.var 2), (.var 3), (.var 4), (.var 5), (.var 6), (.var 7)], [], [(.avar 0), (.avar 1), (.avar 2)]⟩ ⟨[(.var 0), (.var 1), (.var 2), (.var 3), (.var 4), (.var 5), (.var 6), (.var 7), (.var 27), (.var 28), (.var 29)], [], [(.avar 0), (.avar 1), (.avar 2)]⟩ ⟨18, [(.agg [(.strn (.var 0)), (.int .i64 (.var 1)), (.asl 0 (.var 2)), (.asl 1 (.var 3)), (.asl 2 (.var 4)), (.int .i64 (.var 5)), (.int .i64 (.var 6))]), (.int .i64 (.var 7))], [0, 1, 2], [(some ⟨[], 3, true, false, (some ⟨(.var 2), [(.int .i64)], [(.avar 0)]⟩)⟩), (some ⟨[], 98, true, false, (some ⟨(.var 3), [(.float .f32)], [(.avar 1)]⟩)⟩), (some ⟨[], 98, true, false, (some ⟨(.var 4), [(.float .f32)], [(.avar 2)]⟩)⟩), none, none, none, none, none, none, none, none, none, none, none, none, none, none, none, none, none, none, none, none, none, none, none, none, none, none, none, none, none], (.tuple [(.agg [(.int .i64 (.var 27)), (.int .i64 (.var 28))]), (.int .i64 (.var 29))]), []⟩
           (.ite (.icmp .eql (.var 10) (.lit 0))
           (.call etalonref02_At_s ⟨[(.var 0), (.var 1), (.var 2), (.var 3), (.var 4), (.var 5), (.var 6), (.var 7)], [], [(.avar 0), (.avar 1), (.avar 2)]⟩ ⟨[(.var 0), (.var 1), (.var 2), (.var 3), (.var 4), (.var 5), (.var 6), (.var 7), (.var 30), (.var 31)], [], [(.avar 0), (.avar 1), (.avar 2)]⟩ ⟨17, [(.agg [(.strn (.var 0)), (.int .i64 (.var 1)), (.asl 0 (.var 2)), (.asl 1 (.var 3)), (.asl 2 (.var 4)), (.int .i64 (.var 5)), (.int .i64 (.var 6))]), (.int .i64 (.var 7))], [0, 1, 2], [(some ⟨[], 3, true, false, (some ⟨(.var 2), [(.int .i64)], [(.avar 0)]⟩)⟩), (some ⟨[], 98, true, false, (some ⟨(.var 3), [(.float .f32)], [(.avar 1)]⟩)⟩), (some ⟨[], 98, true, false, (some ⟨(.var 4), [(.float .f32)], [(.avar 2)]⟩)⟩), none, none, none, none, none, none, none, none, none, none, none, none, none, none, none, none, none, none, none, none, none, none, none, none, none, none, none, none, none, none], (.agg [(.int .i64 (.var 30)), (.int .i64 (.var 31))]), []⟩
            (.ite (.icmp .eql (.var 8) (.var 30))
            (.ite (.icmp .eql (.var 9) (.var 31))
             (.ite (.icmp .eql (.var 14) (.var 26))
              (.ite (.icmp .eql (.bin .maxI (.var 11) (.lit 0)) (.toF .f64 (.var 23)))
               (.ite (.icmp .eql (.bin .maxI (.var 12) (.lit 0)) (.toF .f64 (.var 24)))
                (.ite (.icmp .eql (.var 13) (.var 25))
                 (.ite (.icmp .eql (.var 17) (.var 29))
                  (.ret ⟨[], [(.and (.icmp .eql (.var 15) (.var 27)) (.icmp .eql (.var 16) (.var 28)))], []⟩ [])
                  (.ret ⟨[], [(.lit false)], []⟩ []))
                 (.ret ⟨[], [(.lit false)], []⟩ []))
                (.ret ⟨[], [(.lit false)], []⟩ []))
               (.ret ⟨[], [(.lit false)], []⟩ []))
              (.ret ⟨[], [(.lit false)], []⟩ []))
             (.ret ⟨[], [(.lit false)], []⟩ []))
            (.ret ⟨[], [(.lit false)], []⟩ [])))
           (.ret ⟨[], [(.lit false)], []⟩ [])))))
          (.ite (.icmp .eql (.var 10) (.var 20))
           (.ite (.icmp .eql (.var 14) (.var 20))
            (.ite (.icmp .eql (.var 17) (.var 20))
             (.ite (.icmp .eql (.var 8) (.lit 0))
              (.ite (.icmp .eql (.var 9) (.lit 0))
               (.ite (.icmp .eql (.bin .maxI (.var 11) (.lit 0)) (.lit 0))
                (.ite (.icmp .eql (.bin .maxI (.var 12) (.lit 0)) (.lit 0))
                 (.ite (.icmp .eql (.var 13) (.lit 0))
                  (.ret ⟨[], [(.and (.icmp .eql (.var 15) (.lit 0)) (.icmp .eql (.var 16) (.lit 0)))], []⟩ [])
                  (.ret ⟨[], [(.lit false)], []⟩ []))
                 (.ret ⟨[], [(.lit false)], []⟩ []))
                (.ret ⟨[], [(.lit false)], []⟩ []))
               (.ret ⟨[], [(.lit false)], []⟩ []))
              (.ret ⟨[], [(.lit false)], []⟩ []))
             (.ret ⟨[], [(.lit false)], []⟩ []))
            (.ret ⟨[], [(.lit false)], []⟩ []))
           (.ret ⟨[], [(.lit false)], []⟩ []))))
         (.ite (.icmp .eql (.var 10) (.var 19))
          (.ite (.icmp .eql (.var 14) (.var 19))
           (.ite (.icmp .eql (.var 17) (.var 19))
            (.ite (.icmp .eql (.var 8) (.lit 0))
             (.ite (.icmp .eql (.var 9) (.lit 0))
              (.ite (.icmp .eql (.bin .maxI (.var 11) (.lit 0)) (.lit 0))
               (.ite (.icmp .eql (.bin .maxI (.var 12) (.lit 0)) (.lit 0))
                (.ite (.icmp .eql (.var 13) (.lit 0))
                 (.ret ⟨[], [(.and (.icmp .eql (.var 15) (.lit 0)) (.icmp .eql (.var 16) (.lit 0)))], []⟩ [])
                 (.ret ⟨[], [(.lit false)], []⟩ []))
                (.ret ⟨[], [(.lit false)], []⟩ []))
               (.ret ⟨[], [(.lit false)], []⟩ []))
              (.ret ⟨[], [(.lit false)], []⟩ []))
             (.ret ⟨[], [(.lit false)], []⟩ []))
            (.ret ⟨[], [(.lit false)], []⟩ []))
           (.ret ⟨[], [(.lit false)], []⟩ []))
          (.ret ⟨[], [(.lit false)], []⟩ [])))))))
        (.ret ⟨[], [(.lit true)], []⟩ []))
       (.ret ⟨[], [(.lit true)], []⟩ []))
      (.ret ⟨[], [(.lit true)], []⟩ [])))
    (.ite (.icmp .leq (.lit 64) (.var 3))
     (.ite (.icmp .leq (.var 3) (.lit 66))
      (.ite (.icmp .leq (.var 4) (.lit 12))
       (.ite (.icmp .leq (.bin .sLen (.var 0) (.lit 0)) (.lit 20))
        (.call glass_At_s ⟨[(.var 0), (.var 1), (.var 2), (.var 3), (.var 4), (.var 5), (.var 6), (.var 7)], [], [(.avar 0), (.avar 1), (.avar 2)]⟩ ⟨[(.var 0), (.var 1), (.var 2), (.var 3), (.var 4), (.var 5), (.var 6), (.var 7), (.var 8), (.var 9), (.var 10)], [], [(.avar 0), (.avar 1), (.avar 2)]⟩ ⟨9, [(.agg [(.strn (.var 0)), (.int .i64 (.var 1)), (.asl 7 (.var 2)), (.asl 9 (.var 3)), (.asl 11 (.var 4)), (.int .i64 (.var 5)), (.int .i64 (.var 6))]), (.int .i64 (.var 7))], [7, 9, 11], [none, none, none, none, none, none, none, (some ⟨[], 3, false, true, (some ⟨(.var 2), [(.int .i64)], [(.avar 0)]⟩)⟩), none, (some ⟨[], 98, false, true, (some ⟨(.var 3), [(.float .f32)], [(.avar 1)]⟩)⟩), none, (some ⟨[], 98, false, true, (some ⟨(.var 4), [(.float .f32)], [(.avar 2)]⟩)⟩)], (.tuple [(.agg [(.int .i64 (.var 8)), (.int .i64 (.var 9))]), (.int .i64 (.var 10))]), []⟩
         (.call glass_Permittivity_s ⟨[(.var 0), (.var 1), (.var 2), (.var 3), (.var 4), (.var 5), (.var 6), (.var 7)], [], [(.avar 0), (.avar 1), (.avar 2)]⟩ ⟨[(.var 0), (.var 1), (.var 2), (.var 3), (.var 4), (.var 5), (.var 6), (.var 7), (.var 11), (.var 12), (.var 13), (.var 14)], [], [(.avar 0), (.avar 1), (.avar 2)]⟩ ⟨11, [(.agg [(.strn (.var 0)), (.int .i64 (.var 1)), (.asl 16 (.var 2)), (.asl 18 (.var 3)), (.asl 20 (.var 4)), (.int .i64 (.var 5)), (.int .i64 (.var 6))]), (.int .i64 (.var 7))], [16, 18, 20], [none, none, none, none, none, none, none, none, none, none, none, none, none, none, none, none, (some ⟨[], 3, false, true, (some ⟨(.var 2), [(.int .i64)], [(.avar 0)]⟩)⟩), none, (some ⟨[], 98, false, true, (some ⟨(.var 3), [(.float .f32)], [(.avar 1)]⟩)⟩), none, (some ⟨[], 98, false, true, (some ⟨(.var 4), [(.float .f32)], [(.avar 2)]⟩)⟩)], (.tuple [(.agg [(.complex .f64 (.var 11) (.var 12)), (.int .i64 (.var 13))]), (.int .i64 (.var 14))]), []⟩
         (.call glass_GroupIndex_s ⟨[(.var 0), (.var 1), (.var 2), (.var 3), (.var 4), (.var 5), (.var 6), (.var 7)], [], [(.avar 0), (.avar 1), (.avar 2)]⟩ ⟨[(.var 0), (.var 1), (.var 2), (.var 3), (.var 4), (.var 5), (.var 6), (.var 7), (.var 15), (.var 16), (.var 17)], [], [(.avar 0), (.avar 1), (.avar 2)]⟩ ⟨12, [(.agg [(.strn (.var 0)), (.int .i64 (.var 1)), (.asl 25 (.var 2)), (.asl 27 (.var 3)), (.asl 29 (.var 4)), (.int .i64 (.var 5)), (.int .i64 (.var 6))]), (.int .i64 (.var 7))], [25, 27, 29], [none, none, none, none, none, none, none, none, none, none, none, none, none, none, none, none, none, none, none, none, none, none, none, none, none, (some ⟨[], 3, false, true, (some ⟨(.var 2), [(.int .i64)], [(.avar 0)]⟩)⟩), none, (some ⟨[], 98, false, true, (some ⟨(.var 3), [(.float .f32)], [(.avar 1)]⟩)⟩), none, (some ⟨[], 98, false, true, (some ⟨(.var 4), [(.float .f32)], [(.avar 2)]⟩)⟩)], (.tuple [(.agg [(.int .i64 (.var 15)), (.int .i64 (.var 16))]), (.int .i64 (.var 17))]), []⟩
         (.call etalonref02_CheckGlass_s ⟨[(.var 0), (.var 1), (.var 2), (.var 3), (.var 4), (.var 5), (.var 6)], [], [(.avar 0), (.avar 1), (.avar 2)]⟩ ⟨[(.var 0), (.var 1), (.var 2), (.var 3), (.var 4), (.var 5), (.var 6), (.var 18), (.var 19)], [], [(.avar 0), (.avar 1), (.avar 2)]⟩ ⟨13, [(.agg [(.strn (.var 0)), (.int .i64 (.var 1)), (.asl 0 (.var 2)), (.asl 1 (.var 3)), (.asl 2 (.var 4)), (.int .i64 (.var 5)), (.int .i64 (.var 6))])], [0, 1, 2], [(some ⟨[], 3, true, false, (some ⟨(.var 2), [(.int .i64)], [(.avar 0)]⟩)⟩), (some ⟨[], 98, true, false, (some ⟨(.var 3), [(.float .f32)], [(.avar 1)]⟩)⟩), (some ⟨[], 98, true, false, (some ⟨(.var 4), [(.float .f32)], [(.avar 2)]⟩)⟩), none, none, none, none, none, none, none, none, none, none, none, none, none, none, none, none, none, none, none, none, none, none, none, none, none, none, none, none], (.tuple [(.int .i64 (.var 18)), (.int .i64 (.var 19))]), []⟩
         (.ite (.icmp .eql (.var 19) (.lit 0))
         (.call etalonref02_WaveErr_s ⟨[(.var 0), (.var 1), (.var 2), (.var 3), (.var 4), (.var 5), (.var 6), (.var 7)], [], [(.avar 0), (.avar 1), (.avar 2)]⟩ ⟨[(.var 0), (.var 1), (.var 2), (.var 3), (.var 4), (.var 5), (.var 6), (.var 7), (.var 20)], [], [(.avar 0), (.avar 1), (.avar 2)]⟩ ⟨14, [(.agg [(.strn (.var 0)), (.int .i64 (.var 1)), (.asl 0 (.var 2)), (.asl 1 (.var 3)), (.asl 2 (.var 4)), (.int .i64 (.var 5)), (.int .i64 (.var 6))]), (.int .i64 (.var 7))], [0, 1, 2], [(some ⟨[], 3, true, false, (some ⟨(.var 2), [(.int .i64)], [(.avar 0)]⟩)⟩), (some ⟨[], 98, true, false, (some ⟨(.var 3), [(.float .f32)], [(.avar 1)]⟩)⟩), (some ⟨[], 98, true, false, (some ⟨(.var 4), [(.float .f32)], [(.avar 2)]⟩)⟩), none, none, none, none, none, none, none, none, none, none, none, none, none, none, none, none, none, none, none, none, none, none, none, none, none, none, none, none], (.int .i64 (.var 20)), []⟩
          (.ite (.icmp .eql (.var 20) (.lit 0))
          (.call etalonref02_At_s ⟨[(.var 0), (.var 1), (.var 2), (.var 3), (.var 4), (.var 5), (.var 6), (.var 7)], [], [(.avar 0), (.avar 1), (.avar 2)]⟩ ⟨[(.var 0), (.var 1), (.var 2), (.var 3), (.var 4), (.var 5), (.var 6), (.var 7), (.var 21), (.var 22)], [], [(.avar 0), (.avar 1), (.avar 2)]⟩ ⟨17, [(.agg [(.strn (.var 0)), (.int .i64 (.var 1)), (.asl 0 (.var 2)), (.asl 1 (.var 3)), (.asl 2 (.var 4)), (.int .i64 (.var 5)), (.int .i64 (.var 6))]), (.int .i64 (.var 7))], [0, 1, 2], [(some ⟨[], 3, true, false, (some ⟨(.var 2), [(.int .i64)], [(.avar 0)]⟩)⟩), (some ⟨[], 98, true, false, (some ⟨(.var 3), [(.float .f32)], [(.avar 1)]⟩)⟩), (some ⟨[], 98, true, false, (some ⟨(.var 4), [(.float .f32)], [(.avar 2)]⟩)⟩), none, none, none, none, none, none, none, none, none, none, none, none, none, none, none, none, none, none, none, none, none, none, none, none, none, none, none, none], (.agg [(.int .i64 (.var 21)), (.int .i64 (.var 22))]), []⟩
           (.call etalonref02_Permittivity_s ⟨[(.var 21), (.var 22)], [], []⟩ ⟨[(.var 21), (.var 22), (.var 23), (.var 24), (.var 25), (.var 26)], [], []⟩ ⟨16, [(.agg [(.int .i64 (.var 21)), (.int .i64 (.var 22))])], [], [none, none, none, none, none, none, none, none, none, none, none, none, none, none, none, none, none, none, none, none, none, none, none, none, none, none, none, none, none, none, none], (.tuple [(.agg [(.int .i64 (.var 23)), (.int .i64 (.var 24)), (.int .i64 (.var 25))]), (.int .i64 (.var 26))]), []⟩
           (.call etalonref02_GroupIndex_s ⟨[(.var 0), (.var 1), (.var 2), (.var 3), (.var 4), (.var 5), (.var 6), (.var 7)], [], [(.avar 0), (.avar 1), (.avar 2)]⟩ ⟨[(.var 0), (.var 1), (.var 2), (.var 3), (.var 4), (.var 5), (.var 6), (.var 7), (.var 27), (.var 28), (.var 29)], [], [(.avar 0), (.avar 1), (.avar 2)]⟩ ⟨18, [(.agg [(.strn (.var 0)), (.int .i64 (.var 1)), (.asl 0 (.var 2)), (.asl 1 (.var 3)), (.asl 2 (.var 4)), (.int .i64 (.var 5)), (.int .i64 (.var 6))]), (.int .i64 (.var 7))], [0, 1, 2], [(some ⟨[], 3, true, false, (some ⟨(.var 2), [(.int .i64)], [(.avar 0)]⟩)⟩), (some ⟨[], 98, true, false, (some ⟨(.var 3), [(.float .f32)], [(.avar 1)]⟩)⟩), (some ⟨[], 98, true, false, (some ⟨(.var 4), [(.float .f32)], [(.avar 2)]⟩)⟩), none, none, none, none, none, none, none, none, none, none, none, none, none, none, none, none, none, none, none, none, none, none, none, none, none, none, none, none, none], (.tuple [(.agg [(.int .i64 (.var 27)), (.int .i64 (.var 28))]), (.int .i64 (.var 29))]), []⟩
           (.ite (.icmp .eql (.var 10) (.lit 0))
           (.call etalonref02_At_s ⟨[(.var 0), (.var 1), (.var 2), (.var 3), (.var 4), (.var 5), (.var 6), (.var 7)], [], [(.avar 0), (.avar 1), (.avar 2)]⟩ ⟨[(.var 0), (.var 1), (.var 2), (.var 3), (.var 4), (.var 5), (.var 6), (.var 7), (.var 30), (.var 31)], [], [(.avar 0), (.avar 1), (.avar 2)]⟩ ⟨17, [(.agg [(.strn (.var 0)), (.int .i64 (.var 1)), (.asl 0 (.var 2)), (.asl 1 (.var 3)), (.asl 2 (.var 4)), (.int .i64 (.var 5)), (.int .i64 (.var 6))]), (.int .i64 (.var 7))], [0, 1, 2], [(some ⟨[], 3, true, false, (some ⟨(.var 2), [(.int .i64)], [(.avar 0)]⟩)⟩), (some ⟨[], 98, true, false, (some ⟨(.var 3), [(.float .f32)], [(.avar 1)]⟩)⟩), (some ⟨[], 98, true, false, (some ⟨(.var 4), [(.float .f32)], [(.avar 2)]⟩)⟩), none, none, none, none, none, none, none, none, none, none, none, none, none, none, none, none, none, none, none, none, none, none, none, none, none, none, none, none, none, none], (.agg [(.int .i64 (.var 30)), (.int .i64 (.var 31))]), []⟩
            (.ite (.icmp .eql (.var 8) (.var 30))
            (.ite (.icmp .eql (.var 9) (.var 31))
             (.ite (.icmp .eql (.var 14) (.var 26))
              (.ite (.icmp .eql (.bin .maxI (.var 11) (.lit 0)) (.toF .f64 (.var 23)))
               (.ite (.icmp .eql (.bin .maxI (.var 12) (.lit 0)) (.toF .f64 (.var 24)))
                (.ite (.icmp .eql (.var 13) (.var 25))
                 (.ite (.icmp .eql (.var 17) (.var 29))
                  (.ret ⟨[], [(.and (.icmp .eql (.var 15) (.var 27)) (.icmp .eql (.var 16) (.var 28)))], []⟩ [])
                  (.ret ⟨[], [(.lit false)], []⟩ []))
                 (.ret ⟨[], [(.lit false)], []⟩ []))
                (.ret ⟨[], [(.lit false)], []⟩ []))
               (.ret ⟨[], [(.lit false)], []⟩ []))
              (.ret ⟨[], [(.lit false)], []⟩ []))
             (.ret ⟨[], [(.lit false)], []⟩ []))
            (.ret ⟨[], [(.lit false)], []⟩ [])))
           (.ret ⟨[], [(.lit false)], []⟩ [])))))
          (.ite (.icmp .eql (.var 10) (.var 20))
           (.ite (.icmp .eql (.var 14) (.var 20))
            (.ite (.icmp .eql (.var 17) (.var 20))
             (.ite (.icmp .eql (.var 8) (.lit 0))
              (.ite (.icmp .eql (.var 9) (.lit 0))
               (.ite (.icmp .eql (.bin .maxI (.var 11) (.lit 0)) (.lit 0))
                (.ite (.icmp .eql (.bin .maxI (.var 12) (.lit 0)) (.lit 0))
                 (.ite (.icmp .eql (.var 13) (.lit 0))
                  (.ret ⟨[], [(.and (.icmp .eql (.var 15) (.lit 0)) (.icmp .eql (.var 16) (.lit 0)))], []⟩ [])
                  (.ret ⟨[], [(.lit false)], []⟩ []))
                 (.ret ⟨[], [(.lit false)], []⟩ []))
                (.ret ⟨[], [(.lit false)], []⟩ []))
               (.ret ⟨[], [(.lit false)], []⟩ []))
              (.ret ⟨[], [(.lit false)], []⟩ []))
             (.ret ⟨[], [(.lit false)], []⟩ []))
            (.ret ⟨[], [(.lit false)], []⟩ []))
           (.ret ⟨[], [(.lit false)], []⟩ []))))
         (.ite (.icmp .eql (.var 10) (.var 19))
          (.ite (.icmp .eql (.var 14) (.var 19))
           (.ite (.icmp .eql (.var 17) (.var 19))
            (.ite (.icmp .eql (.var 8) (.lit 0))
             (.ite (.icmp .eql (.var 9) (.lit 0))
              (.ite (.icmp .eql (.bin .maxI (.var 11) (.lit 0)) (.lit 0))
               (.ite (.icmp .eql (.bin .maxI (.var 12) (.lit 0)) (.lit 0))
                (.ite (.icmp .eql (.var 13) (.lit 0))
                 (.ret ⟨[], [(.and (.icmp .eql (.var 15) (.lit 0)) (.icmp .eql (.var 16) (.lit 0)))], []⟩ [])
                 (.ret ⟨[], [(.lit false)], []⟩ []))
                (.ret ⟨[], [(.lit false)], []⟩ []))
               (.ret ⟨[], [(.lit false)], []⟩ []))
              (.ret ⟨[], [(.lit false)], []⟩ []))
             (.ret ⟨[], [(.lit false)], []⟩ []))
            (.ret ⟨[], [(.lit false)], []⟩ []))
           (.ret ⟨[], [(.lit false)], []⟩ []))
          (.ret ⟨[], [(.lit false)], []⟩ [])))))))
        (.ret ⟨[], [(.lit true)], []⟩ []))
       (.ite (.icmp .leq (.lit 64) (.var 4))
        (.ite (.icmp .leq (.var 4) (.lit 66))
         (.ite (.icmp .leq (.bin .sLen (.var 0) (.lit 0)) (.lit 20))
          (.call glass_At_s ⟨[(.var 0), (.var 1), (.var 2), (.var 3), (.var 4), (.var 5), (.var 6), (.var 7)], [], [(.avar 0), (.avar 1), (.avar 2)]⟩ ⟨[(.var 0), (.var 1), (.var 2), (.var 3), (.var 4), (.var 5), (.var 6), (.var 7), (.var 8), (.var 9), (.var 10)], [], [(.avar 0), (.avar 1), (.avar 2)]⟩ ⟨9, [(.agg [(.strn (.var 0)), (.int .i64 (.var 1)), (.asl 7 (.var 2)), (.asl 9 (.var 3)), (.asl 11 (.var 4)), (.int .i64 (.var 5)), (.int .i64 (.var 6))]), (.int .i64 (.var 7))], [7, 9, 11], [none, none, none, none, none, none, none, (some ⟨[], 3, false, true, (some ⟨(.var 2), [(.int .i64)], [(.avar 0)]⟩)⟩), none, (some ⟨[], 98, false, true, (some ⟨(.var 3), [(.float .f32)], [(.avar 1)]⟩)⟩), none, (some ⟨[], 98, false, true, (some ⟨(.var 4), [(.float .f32)], [(.avar 2)]⟩)⟩)], (.tuple [(.agg [(.int .i64 (.var 8)), (.int .i64 (.var 9))]), (.int .i64 (.var 10))]), []⟩
           (.call glass_Permittivity_s ⟨[(.var 0), (.var 1), (.var 2), (.var 3), (.var 4), (.var 5), (.var 6), (.var 7)], [], [(.avar 0), (.avar 1), (.avar 2)]⟩ ⟨[(.var 0), (.var 1), (.var 2), (.var 3), (.var 4), (.var 5), (.var 6), (.var 7), (.var 11), (.var 12), (.var 13), (.var 14)], [], [(.avar 0), (.avar 1), (.avar 2)]⟩ ⟨11, [(.agg [(.strn (.var 0)), (.int .i64 (.var 1)), (.asl 16 (.var 2)), (.asl 18 (.var 3)), (.asl 20 (.var 4)), (.int .i64 (.var 5)), (.int .i64 (.var 6))]), (.int .i64 (.var 7))], [16, 18, 20], [none, none, none, none, none, none, none, none, none, none, none, none, none, none, none, none, (some ⟨[], 3, false, true, (some ⟨(.var 2), [(.int .i64)], [(.avar 0)]⟩)⟩), none, (some ⟨[], 98, false, true, (some ⟨(.var 3), [(.float .f32)], [(.avar 1)]⟩)⟩), none, (some ⟨[], 98, false, true, (some ⟨(.var 4), [(.float .f32)], [(.avar 2)]⟩)⟩)], (.tuple [(.agg [(.complex .f64 (.var 11) (.var 12)), (.int .i64 (.var 13))]), (.int .i64 (.var 14))]), []⟩
           (.call glass_GroupIndex_s ⟨[(.var 0), (.var 1), (.var 2), (.var 3), (.var 4), (.var 5), (.var 6), (.var 7)], [], [(.avar 0), (.avar 1), (.avar 2)]⟩ ⟨[(.var 0), (.var 1), (.var 2), (.var 3), (.var 4), (.var 5), (.var 6), (.var 7), (.var 15), (.var 16), (.var 17)], [], [(.avar 0), (.avar 1), (.avar 2)]⟩ ⟨12, [(.agg [(.strn (.var 0)), (.int .i64 (.var 1)), (.asl 25 (.var 2)), (.asl 27 (.var 3)), (.asl 29 (.var 4)), (.int .i64 (.var 5)), (.int .i64 (.var 6))]), (.int .i64 (.var 7))], [25, 27, 29], [none, none, none, none, none, none, none, none, none, none, none, none, none, none, none, none, none, none, none, none, none, none, none, none, none, (some ⟨[], 3, false, true, (some ⟨(.var 2), [(.int .i64)], [(.avar 0)]⟩)⟩), none, (some ⟨[], 98, false, true, (some ⟨(.var 3), [(.float .f32)], [(.avar 1)]⟩)⟩), none, (some ⟨[], 98, false, true, (some ⟨(.var 4), [(.float .f32)], [(.avar 2)]⟩)⟩)], (.tuple [(.agg [(.int .i64 (.var 15)), (.int .i64 (.var 16))]), (.int .i64 (.var 17))]), []⟩
           (.call etalonref02_CheckGlass_s ⟨[(.var 0), (.var 1), (.var 2), (.var 3), (.var 4), (.var 5), (.var 6)], [], [(.avar 0), (.avar 1), (.avar 2)]⟩ ⟨[(.var 0), (.var 1), (.var 2), (.var 3), (.var 4), (.var 5), (.var 6), (.var 18), (.var 19)], [], [(.avar 0), (.avar 1), (.avar 2)]⟩ ⟨13, [(.agg [(.strn (.var 0)), (.int .i64 (.var 1)), (.asl 0 (.var 2)), (.asl 1 (.var 3)), (.asl 2 (.var 4)), (.int .i64 (.var 5)), (.int .i64 (.var 6))])], [0, 1, 2], [(some ⟨[], 3, true, false, (some ⟨(.var 2), [(.int .i64)], [(.avar 0)]⟩)⟩), (some ⟨[], 98, true, false, (some ⟨(.var 3), [(.float .f32)], [(.avar 1)]⟩)⟩), (some ⟨[], 98, true, false, (some ⟨(.var 4), [(.float .f32)], [(.avar 2)]⟩)⟩), none, none, none, none, none, none, none, none, none, none, none, none, none, none, none, none, none, none, none, none, none, none, none, none, none, none, none, none], (.tuple [(.int .i64 (.var 18)), (.int .i64 (.var 19))]), []⟩
           (.ite (.icmp .eql (.var 19) (.lit 0))
           (.call etalonref02_WaveErr_s ⟨[(.var 0), (.var 1), (.var 2), (.var 3), (.var 4), (.var 5), (.var 6), (.var 7)], [], [(.avar 0), (.avar 1), (.avar 2)]⟩ ⟨[(.var 0), (.var 1), (.var 2), (.var 3), (.var 4), (.var 5), (.var 6), (.var 7), (.var 20)], [], [(.avar 0), (.avar 1), (.avar 2)]⟩ ⟨14, [(.agg [(.strn (.var 0)), (.int .i64 (.var 1)), (.asl 0 (.var 2)), (.asl 1 (.var 3)), (.asl 2 (.var 4)), (.int .i64 (.var 5)), (.int .i64 (.var 6))]), (.int .i64 (.var 7))], [0, 1, 2], [(some ⟨[], 3, true, false, (some ⟨(.var 2), [(.int .i64)], [(.avar 0)]⟩)⟩), (some ⟨[], 98, true, false, (some ⟨(.var 3), [(.float .f32)], [(.avar 1)]⟩)⟩), (some ⟨[], 98, true, false, (some ⟨(.var 4), [(.float .f32)], [(.avar 2)]⟩)⟩), none, none, none, none, none, none, none, none, none, none, none, none, none, none, none, none, none, none, none, none, none, none, none, none, none, none, none, none], (.int .i64 (.var 20)), []⟩
            (.ite (.icmp .eql (.var 20) (.lit 0))
            (.call etalonref02_At_s ⟨[(.var 0), (.var 1), (.var 2), (.var 3), (.var 4), (.var 5), (.var 6), (.var 7)], [], [(.avar 0), (.avar 1), (.avar 2)]⟩ ⟨[(.var 0), (.var 1), (.var 2), (.var 3), (.var 4), (.var 5), (.var 6), (.var 7), (.var 21), (.var 22)], [], [(.avar 0), (.avar 1), (.avar 2)]⟩ ⟨17, [(.agg [(.strn (.var 0)), (.int .i64 (.var 1)), (.asl 0 (.var 2)), (.asl 1 (.var 3)), (.asl 2 (.var 4)), (.int .i64 (.var 5)), (.int .i64 (.var 6))]), (.int .i64 (.var 7))], [0, 1, 2], [(some ⟨[], 3, true, false, (some ⟨(.var 2), [(.int .i64)], [(.avar 0)]⟩)⟩), (some ⟨[], 98, true, false, (some ⟨(.var 3), [(.float .f32)], [(.avar 1)]⟩)⟩), (some ⟨[], 98, true, false, (some ⟨(.var 4), [(.float .f32)], [(.avar 2)]⟩)⟩), none, none, none, none, none, none, none, none, none, none, none, none, none, none, none, none, none, none, none, none, none, none, none, none, none, none, none, none], (.agg [(.int .i64 (.var 21)), (.int .i64 (.var 22))]), []⟩
             (.call etalonref02_Permittivity_s ⟨[(.var 21), (.var 22)], [], []⟩ ⟨[(.var 21), (.var 22), (.var 23), (.var 24), (.var 25), (.var 26)], [], []⟩ ⟨16, [(.agg [(.int .i64 (.var 21)), (.int .i64 (.var 22))])], [], [none, none, none, none, none, none, none, none, none, none, none, none, none, none, none, none, none, none, none, none, none, none, none, none, none, none, none, none, none, none, none], (.tuple [(.agg [(.int .i64 (.var 23)), (.int .i64 (.var 24)), (.int .i64 (.var 25))]), (.int .i64 (.var 26))]), []⟩
             (.call etalonref02_GroupIndex_s ⟨[(.var 0), (.var 1), (.var 2), (.var 3), (.var 4), (.var 5), (.var 6), (.var 7)], [], [(.avar 0), (.avar 1), (.avar 2)]⟩ ⟨[(.var 0), (.var 1), (.var 2), (.var 3), (.var 4), (.var 5), (.var 6), (.var 7), (.var 27), (.var 28), (.var 29)], [], [(.avar 0), (.avar 1), (.avar 2)]⟩ ⟨18, [(.agg [(.strn (.var 0)), (.int .i64 (.var 1)), (.asl 0 (.var 2)), (.asl 1 (.var 3)), (.asl 2 (.var 4)), (.int .i64 (.var 5)), (.int .i64 (.var 6))]), (.int .i64 (.var 7))], [0, 1, 2], [(some ⟨[], 3, true, false, (some ⟨(.var 2), [(.int .i64)], [(.avar 0)]⟩)⟩), (some ⟨[], 98, true, false, (some ⟨(.var 3), [(.float .f32)], [(.avar 1)]⟩)⟩), (some ⟨[], 98, true, false, (some ⟨(.var 4), [(.float .f32)], [(.avar 2)]⟩)⟩), none, none, none, none, none, none, none, none, none, none, none, none, none, none, none, none, none, none, none, none, none, none, none, none, none, none, none, none, none], (.tuple [(.agg [(.int .i64 (.var 27)), (.int .i64 (.var 28))]), (.int .i64 (.var 29))]), []⟩
             (.ite (.icmp .eql (.var 10) (.lit 0))
             (.call etalonref02_At_s ⟨[(.var 0), (.var 1), (.var 2), (.var 3), (.var 4), (.var 5), (.var 6), (.var 7)], [], [(.avar 0), (.avar 1), (.avar 2)]⟩ ⟨[(.var 0), (.var 1), (.var 2), (.var 3), (.var 4), (.var 5), (.var 6), (.var 7), (.var 30), (.var 31)], [], [(.avar 0), (.avar 1), (.avar 2)]⟩ ⟨17, [(.agg [(.strn (.var 0)), (.int .i64 (.var 1)), (.asl 0 (.var 2)), (.asl 1 (.var 3)), (.asl 2 (.var 4)), (.int .i64 (.var 5)), (.int .i64 (.var 6))]), (.int .i64 (.var 7))], [0, 1, 2], [(some ⟨[], 3, true, false, (some ⟨(.var 2), [(.int .i64)], [(.avar 0)]⟩)⟩), (some ⟨[], 98, true, false, (some ⟨(.var 3), [(.float .f32)], [(.avar 1)]⟩)⟩), (some ⟨[], 98, true, false, (some ⟨(.var 4), [(.float .f32)], [(.avar 2)]⟩)⟩), none, none, none, none, none, none, none, none, none, none, none, none, none, none, none, none, none, none, none, none, none, none, none, none, none, none, none, none, none, none], (.agg [(.int .i64 (.var 30)), (.int .i64 (.var 31))]), []⟩
              (.ite (.icmp .eql (.var 8) (.var 30))
              (.ite (.icmp .eql (.var 9) (.var 31))
               (.ite (.icmp .eql (.var 14) (.var 26))
                (.ite (.icmp .eql (.bin .maxI (.var 11) (.lit 0)) (.toF .f64 (.var 23)))
                 (.ite (.icmp .eql (.bin .maxI (.var 12) (.lit 0)) (.toF .f64 (.var 24)))
                  (.ite (.icmp .eql (.var 13) (.var 25))
                   (.ite (.icmp .eql (.var 17) (.var 29))
                    (.ret ⟨[], [(.and (.icmp .eql (.var 15) (.var 27)) (.icmp .eql (.var 16) (.var 28)))], []⟩ [])
                    (.ret ⟨[], [(.lit false)], []⟩ []))
                   (.ret ⟨[], [(.lit false)], []⟩ []))
                  (.ret ⟨[], [(.lit false)], []⟩ []))
                 (.ret ⟨[], [(.lit false)], []⟩ []))
                (.ret ⟨[], [(.lit false)], []⟩ []))
               (.ret ⟨[], [(.lit false)], []⟩ []))
              (.ret ⟨[], [(.lit false)], []⟩ [])))
             (.ret ⟨[], [(.lit false)], []⟩ [])))))
            (.ite (.icmp .eql (.var 10) (.var 20))
             (.ite (.icmp .eql (.var 14) (.var 20))
              (.ite (.icmp .eql (.var 17) (.var 20))
               (.ite (.icmp .eql (.var 8) (.lit 0))
                (.ite (.icmp .eql (.var 9) (.lit 0))
                 (.ite (.icmp .eql (.bin .maxI (.var 11) (.lit 0)) (.lit 0))
                  (.ite (.icmp .eql (.bin .maxI (.var 12) (.lit 0)) (.lit 0))
                   (.ite (.icmp .eql (.var 13) (.lit 0))
                    (.ret ⟨[], [(.and (.icmp .eql (.var 15) (.lit 0)) (.icmp .eql (.var 16) (.lit 0)))], []⟩ [])
                    (.ret ⟨[], [(.lit false)], []⟩ []))
                   (.ret ⟨[], [(.lit false)], []⟩ []))
                  (.ret ⟨[], [(.lit false)], []⟩ []))
                 (.ret ⟨[], [(.lit false)], []⟩ []))
                (.ret ⟨[], [(.lit false)], []⟩ []))
               (.ret ⟨[], [(.lit false)], []⟩ []))
              (.ret ⟨[], [(.lit false)], []⟩ []))
             (.ret ⟨[], [(.lit false)], []⟩ []))))
           (.ite (.icmp .eql (.var 10) (.var 19))
            (.ite (.icmp .eql (.var 14) (.var 19))
             (.ite (.icmp .eql (.var 17) (.var 19))
              (.ite (.icmp .eql (.var 8) (.lit 0))
               (.ite (.icmp .eql (.var 9) (.lit 0))
                (.ite (.icmp .eql (.bin .maxI (.var 11) (.lit 0)) (.lit 0))
                 (.ite (.icmp .eql (.bin .maxI (.var 12) (.lit 0)) (.lit 0))
                  (.ite (.icmp .eql (.var 13) (.lit 0))
                   (.ret ⟨[], [(.and (.icmp .eql (.var 15) (.lit 0)) (.icmp .eql (.var 16) (.lit 0)))], []⟩ [])
                   (.ret ⟨[], [(.lit false)], []⟩ []))
                  (.ret ⟨[], [(.lit false)], []⟩ []))
                 (.ret ⟨[], [(.lit false)], []⟩ []))
                (.ret ⟨[], [(.lit false)], []⟩ []))
               (.ret ⟨[], [(.lit false)], []⟩ []))
              (.ret ⟨[], [(.lit false)], []⟩ []))
             (.ret ⟨[], [(.lit false)], []⟩ []))
            (.ret ⟨[], [(.lit false)], []⟩ [])))))))
          (.ret ⟨[], [(.lit true)], []⟩ []))
         (.ret ⟨[], [(.lit true)], []⟩ []))
        (.ret ⟨[], [(.lit true)], []⟩ [])))
      (.ret ⟨[], [(.lit true)], []⟩ []))
     (.ret ⟨[], [(.lit true)], []⟩ [])))
   (.ite (.icmp .leq (.lit 64) (.var 2))
    (.ite (.icmp .leq (.var 2) (.lit 66))
     (.ite (.icmp .leq (.var 3) (.lit 12))
      (.ite (.icmp .leq (.var 4) (.lit 12))
       (.ite (.icmp .leq (.bin .sLen (.var 0) (.lit 0)) (.lit 20))
        (.call glass_At_s ⟨[(.var 0), (.var 1), (.var 2), (.var 3), (.var 4), (.var 5), (.var 6), (.var 7)], [], [(.avar 0), (.avar 1), (.avar 2)]⟩ ⟨[(.var 0), (.var 1), (.var 2), (.var 3), (.var 4), (.var 5), (.var 6), (.var 7), (.var 8), (.var 9), (.var 10)], [], [(.avar 0), (.avar 1), (.avar 2)]⟩ ⟨9, [(.agg [(.strn (.var 0)), (.int .i64 (.var 1)), (.asl 7 (.var 2)), (.asl 9 (.var 3)), (.asl 11 (.var 4)), (.int .i64 (.var 5)), (.int .i64 (.var 6))]), (.int .i64 (.var 7))], [7, 9, 11], [none, none, none, none, none, none, none, (some ⟨[], 3, false, true, (some ⟨(.var 2), [(.int .i64)], [(.avar 0)]⟩)⟩), none, (some ⟨[], 98, false, true, (some ⟨(.var 3), [(.float .f32)], [(.avar 1)]⟩)⟩), none, (some ⟨[], 98, false, true, (some ⟨(.var 4), [(.float .f32)], [(.avar 2)]⟩)⟩)], (.tuple [(.agg [(.int .i64 (.var 8)), (.int .i64 (.var 9))]), (.int .i64 (.var 10))]), []⟩
         (.call glass_Permittivity_s ⟨[(.var 0), (.var 1), (.var 2), (.var 3), (.var 4), (.var 5), (.var 6), (.var 7)], [], [(.avar 0), (.avar 1), (.avar 2)]⟩ ⟨[(.var 0), (.var 1), (.var 2), (.var 3), (.var 4), (.var 5), (.var 6), (.var 7), (.var 11), (.var 12), (.var 13), (.var 14)], [], [(.avar 0), (.avar 1), (.avar 2)]⟩ ⟨11, [(.agg [(.strn (.var 0)), (.int .i64 (.var 1)), (.asl 16 (.var 2)), (.asl 18 (.var 3)), (.asl 20 (.var 4)), (.int .i64 (.var 5)), (.int .i64 (.var 6))]), (.int .i64 (.var 7))], [16, 18, 20], [none, none, none, none, none, none, none, none, none, none, none, none, none, none, none, none, (some ⟨[], 3, false, true, (some ⟨(.var 2), [(.int .i64)], [(.avar 0)]⟩)⟩), none, (some ⟨[], 98, false, true, (some ⟨(.var 3), [(.float .f32)], [(.avar 1)]⟩)⟩), none, (some ⟨[], 98, false, true, (some ⟨(.var 4), [(.float .f32)], [(.avar 2)]⟩)⟩)], (.tuple [(.agg [(.complex .f64 (.var 11) (.var 12)), (.int .i64 (.var 13))]), (.int .i64 (.var 14))]), []⟩
         (.call glass_GroupIndex_s ⟨[(.var 0), (.var 1), (.var 2), (.var 3), (.var 4), (.var 5), (.var 6), (.var 7)], [], [(.avar 0), (.avar 1), (.avar 2)]⟩ ⟨[(.var 0), (.var 1), (.var 2), (.var 3), (.var 4), (.var 5), (.var 6), (.var 7), (.var 15), (.var 16), (.var 17)], [], [(.avar 0), (.avar 1), (.avar 2)]⟩ ⟨12, [(.agg [(.strn (.var 0)), (.int .i64 (.var 1)), (.asl 25 (.var 2)), (.asl 27 (.var 3)), (.asl 29 (.var 4)), (.int .i64 (.var 5)), (.int .i64 (.var 6))]), (.int .i64 (.var 7))], [25, 27, 29], [none, none, none, none, none, none, none, none, none, none, none, none, none, none, none, none, none, none, none, none, none, none, none, none, none, (some ⟨[], 3, false, true, (some ⟨(.var 2), [(.int .i64)], [(.avar 0)]⟩)⟩), none, (some ⟨[], 98, false, true, (some ⟨(.var 3), [(.float .f32)], [(.avar 1)]⟩)⟩), none, (some ⟨[], 98, false, true, (some ⟨(.var 4), [(.float .f32)], [(.avar 2)]⟩)⟩)], (.tuple [(.agg [(.int .i64 (.var 15)), (.int .i64 (.var 16))]), (.int .i64 (.var 17))]), []⟩
         (.call etalonref02_CheckGlass_s ⟨[(.var 0), (.var 1), (.var 2), (.var 3), (.var 4), (.var 5), (.var 6)], [], [(.avar 0), (.avar 1), (.avar 2)]⟩ ⟨[(.var 0), (.var 1), (.var 2), (.var 3), (.var 4), (.var 5), (.var 6), (.var 18), (.var 19)], [], [(.avar 0), (.avar 1), (.avar 2)]⟩ ⟨13, [(.agg [(.strn (.var 0)), (.int .i64 (.var 1)), (.asl 0 (.var 2)), (.asl 1 (.var 3)), (.asl 2 (.var 4)), (.int .i64 (.var 5)), (.int .i64 (.var 6))])], [0, 1, 2], [(some ⟨[], 3, true, false, (some ⟨(.var 2), [(.int .i64)], [(.avar 0)]⟩)⟩), (some ⟨[], 98, true, false, (some ⟨(.var 3), [(.float .f32)], [(.avar 1)]⟩)⟩), (some ⟨[], 98, true, false, (some ⟨(.var 4), [(.float .f32)], [(.avar 2)]⟩)⟩), none, none, none, none, none, none, none, none, none, none, none, none, none, none, none, none, none, none, none, none, none, none, none, none, none, none, none, none], (.tuple [(.int .i64 (.var 18)), (.int .i64 (.var 19))]), []⟩
         (.ite (.icmp .eql (.var 19) (.lit 0))
         (.call etalonref02_WaveErr_s ⟨[(.var 0), (.var 1), (.var 2), (.var 3), (.var 4), (.var 5), (.var 6), (.var 7)], [], [(.avar 0), (.avar 1), (.avar 2)]⟩ ⟨[(.var 0), (.var 1), (.var 2), (.var 3), (.var 4), (.var 5), (.var 6), (.var 7), (.var 20)], [], [(.avar 0), (.avar 1), (.avar 2)]⟩ ⟨14, [(.agg [(.strn (.var 0)), (.int .i64 (.var 1)), (.asl 0 (.var 2)), (.asl 1 (.var 3)), (.asl 2 (.var 4)), (.int .i64 (.var 5)), (.int .i64 (.var 6))]), (.int .i64 (.var 7))], [0, 1, 2], [(some ⟨[], 3, true, false, (some ⟨(.var 2), [(.int .i64)], [(.avar 0)]⟩)⟩), (some ⟨[], 98, true, false, (some ⟨(.var 3), [(.float .f32)], [(.avar 1)]⟩)⟩), (some ⟨[], 98, true, false, (some ⟨(.var 4), [(.float .f32)], [(.avar 2)]⟩)⟩), none, none, none, none, none, none, none, none, none, none, none, none, none, none, none, none, none, none, none, none, none, none, none, none, none, none, none, none], (.int .i64 (.var 20)), []⟩
          (.ite (.icmp .eql (.var 20) (.lit 0))
          (.call etalonref02_At_s ⟨[(.var 0), (.var 1), (.var 2), (.var 3), (.var 4), (.var 5), (.var 6), (.var 7)], [], [(.avar 0), (.avar 1), (.avar 2)]⟩ ⟨[(.var 0), (.var 1), (.var 2), (.var 3), (.var 4), (.var 5), (.var 6), (.var 7), (.var 21), (.var 22)], [], [(.avar 0), (.avar 1), (.avar 2)]⟩ ⟨17, [(.agg [(.strn (.var 0)), (.int .i64 (.var 1)), (.asl 0 (.var 2)), (.asl 1 (.var 3)), (.asl 2 (.var 4)), (.int .i64 (.var 5)), (.int .i64 (.var 6))]), (.int .i64 (.var 7))], [0, 1, 2], [(some ⟨[], 3, true, false, (some ⟨(.var 2), [(.int .i64)], [(.avar 0)]⟩)⟩), (some ⟨[], 98, true, false, (some ⟨(.var 3), [(.float .f32)], [(.avar 1)]⟩)⟩), (some ⟨[], 98, true, false, (some ⟨(.var 4), [(.float .f32)], [(.avar 2)]⟩)⟩), none, none, none, none, none, none, none, none, none, none, none, none, none, none, none, none, none, none, none, none, none, none, none, none, none, none, none, none], (.agg [(.int .i64 (.var 21)), (.int .i64 (.var 22))]), []⟩
           (.call etalonref02_Permittivity_s ⟨[(.var 21), (.var 22)], [], []⟩ ⟨[(.var 21), (.var 22), (.var 23), (.var 24), (.var 25), (.var 26)], [], []⟩ ⟨16, [(.agg [(.int .i64 (.var 21)), (.int .i64 (.var 22))])], [], [none, none, none, none, none, none, none, none, none, none, none, none, none, none, none, none, none, none, none, none, none, none, none, none, none, none, none, none, none, none, none], (.tuple [(.agg [(.int .i64 (.var 23)), (.int .i64 (.var 24)), (.int .i64 (.var 25))]), (.int .i64 (.var 26))]), []⟩
           (.call etalonref02_GroupIndex_s ⟨[(.var 0), (.var 1), (.var 2), (.var 3), (.var 4), (.var 5), (.var 6), (.var 7)], [], [(.avar 0), (.avar 1), (.avar 2)]⟩ ⟨[(.var 0), (.var 1), (.var 2), (.var 3), (.var 4), (.var 5), (.var 6), (.var 7), (.var 27), (.var 28), (.var 29)], [], [(.avar 0), (.avar 1), (.avar 2)]⟩ ⟨18, [(.agg [(.strn (.var 0)), (.int .i64 (.var 1)), (.asl 0 (.var 2)), (.asl 1 (.var 3)), (.asl 2 (.var 4)), (.int .i64 (.var 5)), (.int .i64 (.var 6))]), (.int .i64 (.var 7))], [0, 1, 2], [(some ⟨[], 3, true, false, (some ⟨(.var 2), [(.int .i64)], [(.avar 0)]⟩)⟩), (some ⟨[], 98, true, false, (some ⟨(.var 3), [(.float .f32)], [(.avar 1)]⟩)⟩), (some ⟨[], 98, true, false, (some ⟨(.var 4), [(.float .f32)], [(.avar 2)]⟩)⟩), none, none, none, none, none, none, none, none, none, none, none, none, none, none, none, none, none, none, none, none, none, none, none, none, none, none, none, none, none], (.tuple [(.agg [(.int .i64 (.var 27)), (.int .i64 (.var 28))]), (.int .i64 (.var 29))]), []⟩
           (.ite (.icmp .eql (.var 10) (.lit 0))
           (.call etalonref02_At_s ⟨[(.var 0), (.var 1), (.var 2), (.var 3), (.var 4), (.var 5), (.var 6), (.var 7)], [], [(.avar 0), (.avar 1), (.avar 2)]⟩ ⟨[(.var 0), (.var 1), (.var 2), (.var 3), (.var 4), (.var 5), (.var 6), (.var 7), (.var 30), (.var 31)], [], [(.avar 0), (.avar 1), (.avar 2)]⟩ ⟨17, [(.agg [(.strn (.var 0)), (.int .i64 (.var 1)), (.asl 0 (.var 2)), (.asl 1 (.var 3)), (.asl 2 (.var 4)), (.int .i64 (.var 5)), (.int .i64 (.var 6))]), (.int .i64 (.var 7))], [0, 1, 2], [(some ⟨[], 3, true, false, (some ⟨(.var 2), [(.int .i64)], [(.avar 0)]⟩)⟩), (some ⟨[], 98, true, false, (some ⟨(.var 3), [(.float .f32)], [(.avar 1)]⟩)⟩), (some ⟨[], 98, true, false, (some ⟨(.var 4), [(.float .f32)], [(.avar 2)]⟩)⟩), none, none, none, none, none, none, none, none, none, none, none, none, none, none, none, none, none, none, none, none, none, none, none, none, none, none, none, none, none, none], (.agg [(.int .i64 (.var 30)), (.int .i64 (.var 31))]), []⟩
            (.ite (.icmp .eql (.var 8) (.var 30))
            (.ite (.icmp .eql (.var 9) (.var 31))
             (.ite (.icmp .eql (.var 14) (.var 26))
              (.ite (.icmp .eql (.bin .maxI (.var 11) (.lit 0)) (.toF .f64 (.var 23)))
               (.ite (.icmp .eql (.bin .maxI (.var 12) (.lit 0)) (.toF .f64 (.var 24)))
                (.ite (.icmp .eql (.var 13) (.var 25))
                 (.ite (.icmp .eql (.var 17) (.var 29))
                  (.ret ⟨[], [(.and (.icmp .eql (.var 15) (.var 27)) (.icmp .eql (.var 16) (.var 28)))], []⟩ [])
                  (.ret ⟨[], [(.lit false)], []⟩ []))
                 (.ret ⟨[], [(.lit false)], []⟩ []))
                (.ret ⟨[], [(.lit false)], []⟩ []))
               (.ret ⟨[], [(.lit false)], []⟩ []))
              (.ret ⟨[], [(.lit false)], []⟩ []))
             (.ret ⟨[], [(.lit false)], []⟩ []))
            (.ret ⟨[], [(.lit false)], []⟩ [])))
           (.ret ⟨[], [(.lit false)], []⟩ [])))))
          (.ite (.icmp .eql (.var 10) (.var 20))
           (.ite (.icmp .eql (.var 14) (.var 20))
            (.ite (.icmp .eql (.var 17) (.var 20))
             (.ite (.icmp .eql (.var 8) (.lit 0))
              (.ite (.icmp .eql (.var 9) (.lit 0))
               (.ite (.icmp .eql (.bin .maxI (.var 11) (.lit 0)) (.lit 0))
                (.ite (.icmp .eql (.bin .maxI (.var 12) (.lit 0)) (.lit 0))
                 (.ite (.icmp .eql (.var 13) (.lit 0))
                  (.ret ⟨[], [(.and (.icmp .eql (.var 15) (.lit 0)) (.icmp .eql (.var 16) (.lit 0)))], []⟩ [])
                  (.ret ⟨[], [(.lit false)], []⟩ []))
                 (.ret ⟨[], [(.lit false)], []⟩ []))
                (.ret ⟨[], [(.lit false)], []⟩ []))
               (.ret ⟨[], [(.lit false)], []⟩ []))
              (.ret ⟨[], [(.lit false)], []⟩ []))
             (.ret ⟨[], [(.lit false)], []⟩ []))
            (.ret ⟨[], [(.lit false)], []⟩ []))
           (.ret ⟨[], [(.lit false)], []⟩ []))))
         (.ite (.icmp .eql (.var 10) (.var 19))
          (.ite (.icmp .eql (.var 14) (.var 19))
           (.ite (.icmp .eql (.var 17) (.var 19))
            (.ite (.icmp .eql (.var 8) (.lit 0))
             (.ite (.icmp .eql (.var 9) (.lit 0))
              (.ite (.icmp .eql (.bin .maxI (.var 11) (.lit 0)) (.lit 0))
               (.ite (.icmp .eql (.bin .maxI (.var 12) (.lit 0)) (.lit 0))
                (.ite (.icmp .eql (.var 13) (.lit 0))
                 (.ret ⟨[], [(.and (.icmp .eql (.var 15) (.lit 0)) (.icmp .eql (.var 16) (.lit 0)))], []⟩ [])
                 (.ret ⟨[], [(.lit false)], []⟩ []))
                (.ret ⟨[], [(.lit false)], []⟩ []))
               (.ret ⟨[], [(.lit false)], []⟩ []))
              (.ret ⟨[], [(.lit false)], []⟩ []))
             (.ret ⟨[], [(.lit false)], []⟩ []))
            (.ret ⟨[], [(.lit false)], []⟩ []))
           (.ret ⟨[], [(.lit false)], []⟩ []))
          (.ret ⟨[], [(.lit false)], []⟩ [])))))))
        (.ret ⟨[], [(.lit true)], []⟩ []))
       (.ite (.icmp .leq (.lit 64) (.var 4))
        (.ite (.icmp .leq (.var 4) (.lit 66))
         (.ite (.icmp .leq (.bin .sLen (.var 0) (.lit 0)) (.lit 20))
          (.call glass_At_s ⟨[(.var 0), (.var 1), (.var 2), (.var 3), (.var 4), (.var 5), (.var 6), (.var 7)], [], [(.avar 0), (.avar 1), (.avar 2)]⟩ ⟨[(.var 0), (.var 1), (.var 2), (.var 3), (.var 4), (.var 5), (.var 6), (.var 7), (.var 8), (.var 9), (.var 10)], [], [(.avar 0), (.avar 1), (.avar 2)]⟩ ⟨9, [(.agg [(.strn (.var 0)), (.int .i64 (.var 1)), (.asl 7 (.var 2)), (.asl 9 (.var 3)), (.asl 11 (.var 4)), (.int .i64 (.var 5)), (.int .i64 (.var 6))]), (.int .i64 (.var 7))], [7, 9, 11], [none, none, none, none, none, none, none, (some ⟨[], 3, false, true, (some ⟨(.var 2), [(.int .i64)], [(.avar 0)]⟩)⟩), none, (some ⟨[], 98, false, true, (some ⟨(.var 3), [(.float .f32)], [(.avar 1)]⟩)⟩), none, (some ⟨[], 98, false, true, (some ⟨(.var 4), [(.float .f32)], [(.avar 2)]⟩)⟩)], (.tuple [(.agg [(.int .i64 (.var 8)), (.int .i64 (.var 9))]), (.int .i64 (.var 10))]), []⟩
           (.call glass_Permittivity_s ⟨[(.var 0), (.var 1), (.var 2), (.var 3), (.var 4), (.var 5), (.var 6), (.var 7)], [], [(.avar 0), (.avar 1), (.avar 2)]⟩ ⟨[(.var 0), (.var 1), (.var 2), (.var 3), (.var 4), (.var 5), (.var 6), (.var 7), (.var 11), (.var 12), (.var 13), (.var 14)], [], [(.avar 0), (.avar 1), (.avar 2)]⟩ ⟨11, [(.agg [(.strn (.var 0)), (.int .i64 (.var 1)), (.asl 16 (.var 2)), (.asl 18 (.var 3)), (.asl 20 (.var 4)), (.int .i64 (.var 5)), (.int .i64 (.var 6))]), (.int .i64 (.var 7))], [16, 18, 20], [none, none, none, none, none, none, none, none, none, none, none, none, none, none, none, none, (some ⟨[], 3, false, true, (some ⟨(.var 2), [(.int .i64)], [(.avar 0)]⟩)⟩), none, (some ⟨[], 98, false, true, (some ⟨(.var 3), [(.float .f32)], [(.avar 1)]⟩)⟩), none, (some ⟨[], 98, false, true, (some ⟨(.var 4), [(.float .f32)], [(.avar 2)]⟩)⟩)], (.tuple [(.agg [(.complex .f64 (.var 11) (.var 12)), (.int .i64 (.var 13))]), (.int .i64 (.var 14))]), []⟩
           (.call glass_GroupIndex_s ⟨[(.var 0), (.var 1), (.var 2), (.var 3), (.var 4), (.var 5), (.var 6), (.var 7)], [], [(.avar 0), (.avar 1), (.avar 2)]⟩ ⟨[(.var 0), (.var 1), (.var 2), (.var 3), (.var 4), (.var 5), (.var 6), (.var 7), (.var 15), (.var 16), (.var 17)], [], [(.avar 0), (.avar 1), (.avar 2)]⟩ ⟨12, [(.agg [(.strn (.var 0)), (.int .i64 (.var 1)), (.asl 25 (.var 2)), (.asl 27 (.var 3)), (.asl 29 (.var 4)), (.int .i64 (.var 5)), (.int .i64 (.var 6))]), (.int .i64 (.var 7))], [25, 27, 29], [none, none, none, none, none, none, none, none, none, none, none, none, none, none, none, none, none, none, none, none, none, none, none, none, none, (some ⟨[], 3, false, true, (some ⟨(.var 2), [(.int .i64)], [(.avar 0)]⟩)⟩), none, (some ⟨[], 98, false, true, (some ⟨(.var 3), [(.float .f32)], [(.avar 1)]⟩)⟩), none, (some ⟨[], 98, false, true, (some ⟨(.var 4), [(.float .f32)], [(.avar 2)]⟩)⟩)], (.tuple [(.agg [(.int .i64 (.var 15)), (.int .i64 (.var 16))]), (.int .i64 (.var 17))]), []⟩
           (.call etalonref02_CheckGlass_s ⟨[(.var 0), (.var 1), (.var 2), (.var 3), (.var 4), (.var 5), (.var 6)], [], [(.avar 0), (.avar 1), (.avar 2)]⟩ ⟨[(.var 0), (.var 1), (.var 2), (.var 3), (.var 4), (.var 5), (.var 6), (.var 18), (.var 19)], [], [(.avar 0), (.avar 1), (.avar 2)]⟩ ⟨13, [(.agg [(.strn (.var 0)), (.int .i64 (.var 1)), (.asl 0 (.var 2)), (.asl 1 (.var 3)), (.asl 2 (.var 4)), (.int .i64 (.var 5)), (.int .i64 (.var 6))])], [0, 1, 2], [(some ⟨[], 3, true, false, (some ⟨(.var 2), [(.int .i64)], [(.avar 0)]⟩)⟩), (some ⟨[], 98, true, false, (some ⟨(.var 3), [(.float .f32)], [(.avar 1)]⟩)⟩), (some ⟨[], 98, true, false, (some ⟨(.var 4), [(.float .f32)], [(.avar 2)]⟩)⟩), none, none, none, none, none, none, none, none, none, none, none, none, none, none, none, none, none, none, none, none, none, none, none, none, none, none, none, none], (.tuple [(.int .i64 (.var 18)), (.int .i64 (.var 19))]), []⟩
           (.ite (.icmp .eql (.var 19) (.lit 0))
           (.call etalonref02_WaveErr_s ⟨[(.var 0), (.var 1), (.var 2), (.var 3), (.var 4), (.var 5), (.var 6), (.var 7)], [], [(.avar 0), (.avar 1), (.avar 2)]⟩ ⟨[(.var 0), (.var 1), (.var 2), (.var 3), (.var 4), (.var 5), (.var 6), (.var 7), (.var 20)], [], [(.avar 0), (.avar 1), (.avar 2)]⟩ ⟨14, [(.agg [(.strn (.var 0)), (.int .i64 (.var 1)), (.asl 0 (.var 2)), (.asl 1 (.var 3)), (.asl 2 (.var 4)), (.int .i64 (.var 5)), (.int .i64 (.var 6))]), (.int .i64 (.var 7))], [0, 1, 2], [(some ⟨[], 3, true, false, (some ⟨(.var 2), [(.int .i64)], [(.avar 0)]⟩)⟩), (some ⟨[], 98, true, false, (some ⟨(.var 3), [(.float .f32)], [(.avar 1)]⟩)⟩), (some ⟨[], 98, true, false, (some ⟨(.var 4), [(.float .f32)], [(.avar 2)]⟩)⟩), none, none, none, none, none, none, none, none, none, none, none, none, none, none, none, none, none, none, none, none, none, none, none, none, none, none, none, none], (.int .i64 (.var 20)), []⟩
            (.ite (.icmp .eql (.var 20) (.lit 0))
            (.call etalonref02_At_s ⟨[(.var 0), (.var 1), (.var 2), (.var 3), (.var 4), (.var 5), (.var 6), (.var 7)], [], [(.avar 0), (.avar 1), (.avar 2)]⟩ ⟨[(.var 0), (.var 1), (.var 2), (.var 3), (.var 4), (.var 5), (.var 6), (.var 7), (.var 21), (.var 22)], [], [(.avar 0), (.avar 1), (.avar 2)]⟩ ⟨17, [(.agg [(.strn (.var 0)), (.int .i64 (.var 1)), (.asl 0 (.var 2)), (.asl 1 (.var 3)), (.asl 2 (.var 4)), (.int .i64 (.var 5)), (.int .i64 (.var 6))]), (.int .i64 (.var 7))], [0, 1, 2], [(some ⟨[], 3, true, false, (some ⟨(.var 2), [(.int .i64)], [(.avar 0)]⟩)⟩), (some ⟨[], 98, true, false, (some ⟨(.var 3), [(.float .f32)], [(.avar 1)]⟩)⟩), (some ⟨[], 98, true, false, (some ⟨(.var 4), [(.float .f32)], [(.avar 2)]⟩)⟩), none, none, none, none, none, none, none, none, none, none, none, none, none, none, none, none, none, none, none, none, none, none, none, none, none, none, none, none], (.agg [(.int .i64 (.var 21)), (.int .i64 (.var 22))]), []⟩
             (.call etalonref02_Permittivity_s ⟨[(.var 21), (.var 22)], [], []⟩ ⟨[(.var 21), (.var 22), (.var 23), (.var 24), (.var 25), (.var 26)], [], []⟩ ⟨16, [(.agg [(.int .i64 (.var 21)), (.int .i64 (.var 22))])], [], [none, none, none, none, none, none, none, none, none, none, none, none, none, none, none, none, none, none, none, none, none, none, none, none, none, none, none, none, none, none, none], (.tuple [(.agg [(.int .i64 (.var 23)), (.int .i64 (.var 24)), (.int .i64 (.var 25))]), (.int .i64 (.var 26))]), []⟩
             (.call etalonref02_GroupIndex_s ⟨[(.var 0), (.var 1), (.var 2), (.var 3), (.var 4), (.var 5), (.var 6), (.var 7)], [], [(.avar 0), (.avar 1), (.avar 2)]⟩ ⟨[(.var 0), (.var 1), (.var 2), (.var 3), (.var 4), (.var 5), (.var 6), (.var 7), (.var 27), (.var 28), (.var 29)], [], [(.avar 0), (.avar 1), (.avar 2)]⟩ ⟨18, [(.agg [(.strn (.var 0)), (.int .i64 (.var 1)), (.asl 0 (.var 2)), (.asl 1 (.var 3)), (.asl 2 (.var 4)), (.int .i64 (.var 5)), (.int .i64 (.var 6))]), (.int .i64 (.var 7))], [0, 1, 2], [(some ⟨[], 3, true, false, (some ⟨(.var 2), [(.int .i64)], [(.avar 0)]⟩)⟩), (some ⟨[], 98, true, false, (some ⟨(.var 3), [(.float .f32)], [(.avar 1)]⟩)⟩), (some ⟨[], 98, true, false, (some ⟨(.var 4), [(.float .f32)], [(.avar 2)]⟩)⟩), none, none, none, none, none, none, none, none, none, none, none, none, none, none, none, none, none, none, none, none, none, none, none, none, none, none, none, none, none], (.tuple [(.agg [(.int .i64 (.var 27)), (.int .i64 (.var 28))]), (.int .i64 (.var 29))]), []⟩
             (.ite (.icmp .eql (.var 10) (.lit 0))
             (.call etalonref02_At_s ⟨[(.var 0), (.var 1), (.var 2), (.var 3), (.var 4), (.var 5), (.var 6), (.var 7)], [], [(.avar 0), (.avar 1), (.avar 2)]⟩ ⟨[(.var 0), (.var 1), (.var 2), (.var 3), (.var 4), (.var 5), (.var 6), (.var 7), (.var 30), (.var 31)], [], [(.avar 0), (.avar 1), (.avar 2)]⟩ ⟨17, [(.agg [(.strn (.var 0)), (.int .i64 (.var 1)), (.asl 0 (.var 2)), (.asl 1 (.var 3)), (.asl 2 (.var 4)), (.int .i64 (.var 5)), (.int .i64 (.var 6))]), (.int .i64 (.var 7))], [0, 1, 2], [(some ⟨[], 3, true, false, (some ⟨(.var 2), [(.int .i64)], [(.avar 0)]⟩)⟩), (some ⟨[], 98, true, false, (some ⟨(.var 3), [(.float .f32)], [(.avar 1)]⟩)⟩), (some ⟨[], 98, true, false, (some ⟨(.var 4), [(.float .f32)], [(.avar 2)]⟩)⟩), none, none, none, none, none, none, none, none, none, none, none, none, none, none, none, none, none, none, none, none, none, none, none, none, none, none, none, none, none, none], (.agg [(.int .i64 (.var 30)), (.int .i64 (.var 31))]), []⟩
              (.ite (.icmp .eql (.var 8) (.var 30))
              (.ite (.icmp .eql (.var 9) (.var 31))
               (.ite (.icmp .eql (.var 14) (.var 26))
                (.ite (.icmp .eql (.bin .maxI (.var 11) (.lit 0)) (.toF .f64 (.var 23)))
                 (.ite (.icmp .eql (.bin .maxI (.var 12) (.lit 0)) (.toF .f64 (.var 24)))
                  (.ite (.icmp .eql (.var 13) (.var 25))
                   (.ite (.icmp .eql (.var 17) (.var 29))
                    (.ret ⟨[], [(.and (.icmp .eql (.var 15) (.var 27)) (.icmp .eql (.var 16) (.var 28)))], []⟩ [])
                    (.ret ⟨[], [(.lit false)], []⟩ []))
                   (.ret ⟨[], [(.lit false)], []⟩ []))
                  (.ret ⟨[], [(.lit false)], []⟩ []))
                 (.ret ⟨[], [(.lit false)], []⟩ []))
                (.ret ⟨[], [(.lit false)], []⟩ []))
               (.ret ⟨[], [(.lit false)], []⟩ []))
              (.ret ⟨[], [(.lit false)], []⟩ [])))
             (.ret ⟨[], [(.lit false)], []⟩ [])))))
            (.ite (.icmp .eql (.var 10) (.var 20))
             (.ite (.icmp .eql (.var 14) (.var 20))
              (.ite (.icmp .eql (.var 17) (.var 20))
               (.ite (.icmp .eql (.var 8) (.lit 0))
                (.ite (.icmp .eql (.var 9) (.lit 0))
                 (.ite (.icmp .eql (.bin .maxI (.var 11) (.lit 0)) (.lit 0))
                  (.ite (.icmp .eql (.bin .maxI (.var 12) (.lit 0)) (.lit 0))
                   (.ite (.icmp .eql (.var 13) (.lit 0))
                    (.ret ⟨[], [(.and (.icmp .eql (.var 15) (.lit 0)) (.icmp .eql (.var 16) (.lit 0)))], []⟩ [])
                    (.ret ⟨[], [(.lit false)], []⟩ []))
                   (.ret ⟨[], [(.lit false)], []⟩ []))
                  (.ret ⟨[], [(.lit false)], []⟩ []))
                 (.ret ⟨[], [(.lit false)], []⟩ []))
                (.ret ⟨[], [(.lit false)], []⟩ []))
               (.ret ⟨[], [(.lit false)], []⟩ []))
              (.ret ⟨[], [(.lit false)], []⟩ []))
             (.ret ⟨[], [(.lit false)], []⟩ []))))
           (.ite (.icmp .eql (.var 10) (.var 19))
            (.ite (.icmp .eql (.var 14) (.var 19))
             (.ite (.icmp .eql (.var 17) (.var 19))
              (.ite (.icmp .eql (.var 8) (.lit 0))
               (.ite (.icmp .eql (.var 9) (.lit 0))
                (.ite (.icmp .eql (.bin .maxI (.var 11) (.lit 0)) (.lit 0))
                 (.ite (.icmp .eql (.bin .maxI (.var 12) (.lit 0)) (.lit 0))
                  (.ite (.icmp .eql (.var 13) (.lit 0))
                   (.ret ⟨[], [(.and (.icmp .eql (.var 15) (.lit 0)) (.icmp .eql (.var 16) (.lit 0)))], []⟩ [])
                   (.ret ⟨[], [(.lit false)], []⟩ []))
                  (.ret ⟨[], [(.lit false)], []⟩ []))
                 (.ret ⟨[], [(.lit false)], []⟩ []))
                (.ret ⟨[], [(.lit false)], []⟩ []))
               (.ret ⟨[], [(.lit false)], []⟩ []))
              (.ret ⟨[], [(.lit false)], []⟩ []))
             (.ret ⟨[], [(.lit false)], []⟩ []))
            (.ret ⟨[], [(.lit false)], []⟩ [])))))))
          (.ret ⟨[], [(.lit true)], []⟩ []))
         (.ret ⟨[], [(.lit true)], []⟩ []))
        (.ret ⟨[], [(.lit true)], []⟩ [])))
      (.ite (.icmp .leq (.lit 64) (.var 3))
       (.ite (.icmp .leq (.var 3) (.lit 66))
        (.ite (.icmp .leq (.var 4) (.lit 12))
         (.ite (.icmp .leq (.bin .sLen (.var 0) (.lit 0)) (.lit 20))
          (.call glass_At_s ⟨[(.var 0), (.var 1), (.var 2), (.var 3), (.var 4), (.var 5), (.var 6), (.var 7)], [], [(.avar 0), (.avar 1), (.avar 2)]⟩ ⟨[(.var 0), (.var 1), (.var 2), (.var 3), (.var 4), (.var 5), (.var 6), (.var 7), (.var 8), (.var 9), (.var 10)], [], [(.avar 0), (.avar 1), (.avar 2)]⟩ ⟨9, [(.agg [(.strn (.var 0)), (.int .i64 (.var 1)), (.asl 7 (.var 2)), (.asl 9 (.var 3)), (.asl 11 (.var 4)), (.int .i64 (.var 5)), (.int .i64 (.var 6))]), (.int .i64 (.var 7))], [7, 9, 11], [none, none, none, none, none, none, none, (some ⟨[], 3, false, true, (some ⟨(.var 2), [(.int .i64)], [(.avar 0)]⟩)⟩), none, (some ⟨[], 98, false, true, (some ⟨(.var 3), [(.float .f32)], [(.avar 1)]⟩)⟩), none, (some ⟨[], 98, false, true, (some ⟨(.var 4), [(.float .f32)], [(.avar 2)]⟩)⟩)], (.tuple [(.agg [(.int .i64 (.var 8)), (.int .i64 (.var 9))]), (.int .i64 (.var 10))]), []⟩
           (.call glass_Permittivity_s ⟨[(.var 0), (.var 1), (.var 2), (.var 3), (.var 4), (.var 5), (.var 6), (.var 7)], [], [(.avar 0), (.avar 1), (.avar 2)]⟩ ⟨[(.var 0), (.var 1), (.var 2), (.var 3), (.var 4), (.var 5), (.var 6), (.var 7), (.var 11), (.var 12), (.var 13), (.var 14)], [], [(.avar 0), (.avar 1), (.avar 2)]⟩ ⟨11, [(.agg [(.strn (.var 0)), (.int .i64 (.var 1)), (.asl 16 (.var 2)), (.asl 18 (.var 3)), (.asl 20 (.var 4)), (.int .i64 (.var 5)), (.int .i64 (.var 6))]), (.int .i64 (.var 7))], [16, 18, 20], [none, none, none, none, none, none, none, none, none, none, none, none, none, none, none, none, (some ⟨[], 3, false, true, (some ⟨(.var 2), [(.int .i64)], [(.avar 0)]⟩)⟩), none, (some ⟨[], 98, false, true, (some ⟨(.var 3), [(.float .f32)], [(.avar 1)]⟩)⟩), none, (some ⟨[], 98, false, true, (some ⟨(.var 4), [(.float .f32)], [(.avar 2)]⟩)⟩)], (.tuple [(.agg [(.complex .f64 (.var 11) (.var 12)), (.int .i64 (.var 13))]), (.int .i64 (.var 14))]), []⟩
           (.call glass_GroupIndex_s ⟨[(.var 0), (.var 1), (.var 2), (.var 3), (.var 4), (.var 5), (.var 6), (.var 7)], [], [(.avar 0), (.avar 1), (.avar 2)]⟩ ⟨[(.var 0), (.var 1), (.var 2), (.var 3), (.var 4), (.var 5), (.var 6), (.var 7), (.var 15), (.var 16), (.var 17)], [], [(.avar 0), (.avar 1), (.avar 2)]⟩ ⟨12, [(.agg [(.strn (.var 0)), (.int .i64 (.var 1)), (.asl 25 (.var 2)), (.asl 27 (.var 3)), (.asl 29 (.var 4)), (.int .i64 (.var 5)), (.int .i64 (.var 6))]), (.int .i64 (.var 7))], [25, 27, 29], [none, none, none, none, none, none, none, none, none, none, none, none, none, none, none, none, none, none, none, none, none, none, none, none, none, (some ⟨[], 3, false, true, (some ⟨(.var 2), [(.int .i64)], [(.avar 0)]⟩)⟩), none, (some ⟨[], 98, false, true, (some ⟨(.var 3), [(.float .f32)], [(.avar 1)]⟩)⟩), none, (some ⟨[], 98, false, true, (some ⟨(.var 4), [(.float .f32)], [(.avar 2)]⟩)⟩)], (.tuple [(.agg [(.int .i64 (.var 15)), (.int .i64 (.var 16))]), (.int .i64 (.var 17))]), []⟩
           (.call etalonref02_CheckGlass_s ⟨[(.var 0), (.var 1), (.var 2), (.var 3), (.var 4), (.var 5), (.var 6)], [], [(.avar 0), (.avar 1), (.avar 2)]⟩ ⟨[(.var 0), (.var 1), (.var 2), (.var 3), (.var 4), (.var 5), (.var 6), (.var 18), (.var 19)], [], [(.avar 0), (.avar 1), (.avar 2)]⟩ ⟨13, [(.agg [(.strn (.var 0)), (.int .i64 (.var 1)), (.asl 0 (.var 2)), (.asl 1 (.var 3)), (.asl 2 (.var 4)), (.int .i64 (.var 5)), (.int .i64 (.var 6))])], [0, 1, 2], [(some ⟨[], 3, true, false, (some ⟨(.var 2), [(.int .i64)], [(.avar 0)]⟩)⟩), (some ⟨[], 98, true, false, (some ⟨(.var 3), [(.float .f32)], [(.avar 1)]⟩)⟩), (some ⟨[], 98, true, false, (some ⟨(.var 4), [(.float .f32)], [(.avar 2)]⟩)⟩), none, none, none, none, none, none, none, none, none, none, none, none, none, none, none, none, none, none, none, none, none, none, none, none, none, none, none, none], (.tuple [(.int .i64 (.var 18)), (.int .i64 (.var 19))]), []⟩
           (.ite (.icmp .eql (.var 19) (.lit 0))
           (.call etalonref02_WaveErr_s ⟨[(.var 0), (.var 1), (.var 2), (.var 3), (.var 4), (.var 5), (.var 6), (.var 7)], [], [(.avar 0), (.avar 1), (.avar 2)]⟩ ⟨[(.var 0), (.var 1), (.var 2), (.var 3), (.var 4), (.var 5), (.var 6), (.var 7), (.var 20)], [], [(.avar 0), (.avar 1), (.avar 2)]⟩ ⟨14, [(.agg [(.strn (.var 0)), (.int .i64 (.var 1)), (.asl 0 (.var 2)), (.asl 1 (.var 3)), (.asl 2 (.var 4)), (.int .i64 (.var 5)), (.int .i64 (.var 6))]), (.int .i64 (.var 7))], [0, 1, 2], [(some ⟨[], 3, true, false, (some ⟨(.var 2), [(.int .i64)], [(.avar 0)]⟩)⟩), (some ⟨[], 98, true, false, (some ⟨(.var 3), [(.float .f32)], [(.avar 1)]⟩)⟩), (some ⟨[], 98, true, false, (some ⟨(.var 4), [(.float .f32)], [(.avar 2)]⟩)⟩), none, none, none, none, none, none, none, none, none, none, none, none, none, none, none, none, none, none, none, none, none, none, none, none, none, none, none, none], (.int .i64 (.var 20)), []⟩
            (.ite (.icmp .eql (.var 20) (.lit 0))
            (.call etalonref02_At_s ⟨[(.var 0), (.var 1), (.var 2), (.var 3), (.var 4), (.var 5), (.var 6), (.var 7)], [], [(.avar 0), (.avar 1), (.avar 2)]⟩ ⟨[(.var 0), (.var 1), (.var 2), (.var 3), (.var 4), (.var 5), (.var 6), (.var 7), (.var 21), (.var 22)], [], [(.avar 0), (.avar 1), (.avar 2)]⟩ ⟨17, [(.agg [(.strn (.var 0)), (.int .i64 (.var 1)), (.asl 0 (.var 2)), (.asl 1 (.var 3)), (.asl 2 (.var 4)), (.int .i64 (.var 5)), (.int .i64 (.var 6))]), (.int .i64 (.var 7))], [0, 1, 2], [(some ⟨[], 3, true, false, (some ⟨(.var 2), [(.int .i64)], [(.avar 0)]⟩)⟩), (some ⟨[], 98, true, false, (some ⟨(.var 3), [(.float .f32)], [(.avar 1)]⟩)⟩), (some ⟨[], 98, true, false, (some ⟨(.var 4), [(.float .f32)], [(.avar 2)]⟩)⟩), none, none, none, none, none, none, none, none, none, none, none, none, none, none, none, none, none, none, none, none, none, none, none, none, none, none, none, none], (.agg [(.int .i64 (.var 21)), (.int .i64 (.var 22))]), []⟩
             (.call etalonref02_Permittivity_s ⟨[(.var 21), (.var 22)], [], []⟩ ⟨[(.var 21), (.var 22), (.var 23), (.var 24), (.var 25), (.var 26)], [], []⟩ ⟨16, [(.agg [(.int .i64 (.var 21)), (.int .i64 (.var 22))])], [], [none, none, none, none, none, none, none, none, none, none, none, none, none, none, none, none, none, none, none, none, none, none, none, none, none, none, none, none, none, none, none], (.tuple [(.agg [(.int .i64 (.var 23)), (.int .i64 (.var 24)), (.int .i64 (.var 25))]), (.int .i64 (.var 26))]), []⟩
             (.call etalonref02_GroupIndex_s ⟨[(.var 0), (.var 1), (.var 2), (.var 3), (.var 4), (.var 5), (.var 6), (.var 7)], [], [(.avar 0), (.avar 1), (.avar 2)]⟩ ⟨[(.var 0), (.var 1), (.var 2), (.var 3), (.var 4), (.var 5), (.var 6), (.var 7), (.var 27), (.var 28), (.var 29)], [], [(.avar 0), (.avar 1), (.avar 2)]⟩ ⟨18, [(.agg [(.strn (.var 0)), (.int .i64 (.var 1)), (.asl 0 (.var 2)), (.asl 1 (.var 3)), (.asl 2 (.var 4)), (.int .i64 (.var 5)), (.int .i64 (.var 6))]), (.int .i64 (.var 7))], [0, 1, 2], [(some ⟨[], 3, true, false, (some ⟨(.var 2), [(.int .i64)], [(.avar 0)]⟩)⟩), (some ⟨[], 98, true, false, (some ⟨(.var 3), [(.float .f32)], [(.avar 1)]⟩)⟩), (some ⟨[], 98, true, false, (some ⟨(.var 4), [(.float .f32)], [(.avar 2)]⟩)⟩), none, none, none, none, none, none, none, none, none, none, none, none, none, none, none, none, none, none, none, none, none, none, none, none, none, none, none, none, none], (.tuple [(.agg [(.int .i64 (.var 27)), (.int .i64 (.var 28))]), (.int .i64 (.var 29))]), []⟩
             (.ite (.icmp .eql (.var 10) (.lit 0))
             (.call etalonref02_At_s ⟨[(.var 0), (.var 1), (.var 2), (.var 3), (.var 4), (.var 5), (.var 6), (.var 7)], [], [(.avar 0), (.avar 1), (.avar 2)]⟩ ⟨[(.var 0), (.var 1), (.var 2), (.var 3), (.var 4), (.var 5), (.var 6), (.var 7), (.var 30), (.var 31)], [], [(.avar 0), (.avar 1), (.avar 2)]⟩ ⟨17, [(.agg [(.strn (.var 0)), (.int .i64 (.var 1)), (.asl 0 (.var 2)), (.asl 1 (.var 3)), (.asl 2 (.var 4)), (.int .i64 (.var 5)), (.int .i64 (.var 6))]), (.int .i64 (.var 7))], [0, 1, 2], [(some ⟨[], 3, true, false, (some ⟨(.var 2), [(.int .i64)], [(.avar 0)]⟩)⟩), (some ⟨[], 98, true, false, (some ⟨(.var 3), [(.float .f32)], [(.avar 1)]⟩)⟩), (some ⟨[], 98, true, false, (some ⟨(.var 4), [(.float .f32)], [(.avar 2)]⟩)⟩), none, none, none, none, none, none, none, none, none, none, none, none, none, none, none, none, none, none, none, none, none, none, none, none, none, none, none, none, none, none], (.agg [(.int .i64 (.var 30)), (.int .i64 (.var 31))]), []⟩
              (.ite (.icmp .eql (.var 8) (.var 30))
              (.ite (.icmp .eql (.var 9) (.var 31))
               (.ite (.icmp .eql (.var 14) (.var 26))
                (.ite (.icmp .eql (.bin .maxI (.var 11) (.lit 0)) (.toF .f64 (.var 23)))
                 (.ite (.icmp .eql (.bin .maxI (.var 12) (.lit 0)) (.toF .f64 (.var 24)))
                  (.ite (.icmp .eql (.var 13) (.var 25))
                   (.ite (.icmp .eql (.var 17) (.var 29))
                    (.ret ⟨[], [(.and (.icmp .eql (.var 15) (.var 27)) (.icmp .eql (.var 16) (.var 28)))], []⟩ [])
                    (.ret ⟨[], [(.lit false)], []⟩ []))
                   (.ret ⟨[], [(.lit false)], []⟩ []))
                  (.ret ⟨[], [(.lit false)], []⟩ []))
                 (.ret ⟨[], [(.lit false)], []⟩ []))
                (.ret ⟨[], [(.lit false)], []⟩ []))
               (.ret ⟨[], [(.lit false)], []⟩ []))
              (.ret ⟨[], [(.lit false)], []⟩ [])))
             (.ret ⟨[], [(.lit false)], []⟩ [])))))
            (.ite (.icmp .eql (.var 10) (.var 20))
             (.ite (.icmp .eql (.var 14) (.var 20))
              (.ite (.icmp .eql (.var 17) (.var 20))
               (.ite (.icmp .eql (.var 8) (.lit 0))
                (.ite (.icmp .eql (.var 9) (.lit 0))
                 (.ite (.icmp .eql (.bin .maxI (.var 11) (.lit 0)) (.lit 0))
                  (.ite (.icmp .eql (.bin .maxI (.var 12) (.lit 0)) (.lit 0))
                   (.ite (.icmp .eql (.var 13) (.lit 0))
                    (.ret ⟨[], [(.and (.icmp .eql (.var 15) (.lit 0)) (.icmp .eql (.var 16) (.lit 0)))], []⟩ [])
                    (.ret ⟨[], [(.lit false)], []⟩ []))
                   (.ret ⟨[], [(.lit false)], []⟩ []))
                  (.ret ⟨[], [(.lit false)], []⟩ []))
                 (.ret ⟨[], [(.lit false)], []⟩ []))
                (.ret ⟨[], [(.lit false)], []⟩ []))
               (.ret ⟨[], [(.lit false)], []⟩ []))
              (.ret ⟨[], [(.lit false)], []⟩ []))
             (.ret ⟨[], [(.lit false)], []⟩ []))))
           (.ite (.icmp .eql (.var 10) (.var 19))
            (.ite (.icmp .eql (.var 14) (.var 19))
             (.ite (.icmp .eql (.var 17) (.var 19))
              (.ite (.icmp .eql (.var 8) (.lit 0))
               (.ite (.icmp .eql (.var 9) (.lit 0))
                (.ite (.icmp .eql (.bin .maxI (.var 11) (.lit 0)) (.lit 0))
                 (.ite (.icmp .eql (.bin .maxI (.var 12) (.lit 0)) (.lit 0))
                  (.ite (.icmp .eql (.var 13) (.lit 0))
                   (.ret ⟨[], [(.and (.icmp .eql (.var 15) (.lit 0)) (.icmp .eql (.var 16) (.lit 0)))], []⟩ [])
                   (.ret ⟨[], [(.lit false)], []⟩ []))
                  (.ret ⟨[], [(.lit false)], []⟩ []))
                 (.ret ⟨[], [(.lit false)], []⟩ []))
                (.ret ⟨[], [(.lit false)], []⟩ []))
               (.ret ⟨[], [(.lit false)], []⟩ []))
              (.ret ⟨[], [(.lit false)], []⟩ []))
             (.ret ⟨[], [(.lit false)], []⟩ []))
            (.ret ⟨[], [(.lit false)], []⟩ [])))))))
          (.ret ⟨[], [(.lit true)], []⟩ []))
         (.ite (.icmp .leq (.lit 64) (.var 4))
          (.ite (.icmp .leq (.var 4) (.lit 66))
           (.ite (.icmp .leq (.bin .sLen (.var 0) (.lit 0)) (.lit 20))
            (.call glass_At_s ⟨[(.var 0), (.var 1), (.var 2), (.var 3), (.var 4), (.var 5), (.var 6), (.var 7)], [], [(.avar 0), (.avar 1), (.avar 2)]⟩ ⟨[(.var 0), (.var 1), (.var 2), (.var 3), (.var 4), (.var 5), (.var 6), (.var 7), (.var 8), (.var 9), (.var 10)], [], [(.avar 0), (.avar 1), (.avar 2)]⟩ ⟨9, [(.agg [(.strn (.var 0)), (.int .i64 (.var 1)), (.asl 7 (.var 2)), (.asl 9 (.var 3)), (.asl 11 (.var 4)), (.int .i64 (.var 5)), (.int .i64 (.var 6))]), (.int .i64 (.var 7))], [7, 9, 11], [none, none, none, none, none, none, none, (some ⟨[], 3, false, true, (some ⟨(.var 2), [(.int .i64)], [(.avar 0)]⟩)⟩), none, (some ⟨[], 98, false, true, (some ⟨(.var 3), [(.float .f32)], [(.avar 1)]⟩)⟩), none, (some ⟨[], 98, false, true, (some ⟨(.var 4), [(.float .f32)], [(.avar 2)]⟩)⟩)], (.tuple [(.agg [(.int .i64 (.var 8)), (.int .i64 (.var 9))]), (.int .i64 (.var 10))]), []⟩
             (.call glass_Permittivity_s ⟨[(.var 0), (.var 1), (.var 2), (.var 3), (.var 4), (.var 5), (.var 6), (.var 7)], [], [(.avar 0), (.avar 1), (.avar 2)]⟩ ⟨[(.var 0), (.var 1), (.var 2), (.var 3), (.var 4), (.var 5), (.var 6), (.var 7), (.var 11), (.var 12), (.var 13), (.var 14)], [], [(.avar 0), (.avar 1), (.avar 2)]⟩ ⟨11, [(.agg [(.strn (.var 0)), (.int .i64 (.var 1)), (.asl 16 (.var 2)), (.asl 18 (.var 3)), (.asl 20 (.var 4)), (.int .i64 (.var 5)), (.int .i64 (.var 6))]), (.int .i64 (.var 7))], [16, 18, 20], [none, none, none, none, none, none, none, none, none, none, none, none, none, none, none, none, (some ⟨[], 3, false, true, (some ⟨(.var 2), [(.int .i64)], [(.avar 0)]⟩)⟩), none, (some ⟨[], 98, false, true, (some ⟨(.var 3), [(.float .f32)], [(.avar 1)]⟩)⟩), none, (some ⟨[], 98, false, true, (some ⟨(.var 4), [(.float .f32)], [(.avar 2)]⟩)⟩)], (.tuple [(.agg [(.complex .f64 (.var 11) (.var 12)), (.int .i64 (.var 13))]), (.int .i64 (.var 14))]), []⟩
             (.call glass_GroupIndex_s ⟨[(.var 0), (.var 1), (.var 2), (.var 3), (.var 4), (.var 5), (.var 6), (.var 7)], [], [(.avar 0), (.avar 1), (.avar 2)]⟩ ⟨[(.var 0), (.var 1), (.var 2), (.var 3), (.var 4), (.var 5), (.var 6), (.var 7), (.var 15), (.var 16), (.var 17)], [], [(.avar 0), (.avar 1), (.avar 2)]⟩ ⟨12, [(.agg [(.strn (.var 0)), (.int .i64 (.var 1)), (.asl 25 (.var 2)), (.asl 27 (.var 3)), (.asl 29 (.var 4)), (.int .i64 (.var 5)), (.int .i64 (.var 6))]), (.int .i64 (.var 7))], [25, 27, 29], [none, none, none, none, none, none, none, none, none, none, none, none, none, none, none, none, none, none, none, none, none, none, none, none, none, (some ⟨[], 3, false, true, (some ⟨(.var 2), [(.int .i64)], [(.avar 0)]⟩)⟩), none, (some ⟨[], 98, false, true, (some ⟨(.var 3), [(.float .f32)], [(.avar 1)]⟩)⟩), none, (some ⟨[], 98, false, true, (some ⟨(.var 4), [(.float .f32)], [(.avar 2)]⟩)⟩)], (.tuple [(.agg [(.int .i64 (.var 15)), (.int .i64 (.var 16))]), (.int .i64 (.var 17))]), []⟩
             (.call etalonref02_CheckGlass_s ⟨[(.var 0), (.var 1), (.var 2), (.var 3), (.var 4), (.var 5), (.var 6)], [], [(.avar 0), (.avar 1), (.avar 2)]⟩ ⟨[(.var 0), (.var 1), (.var 2), (.var 3), (.var 4), (.var 5), (.var 6), (.var 18), (.var 19)], [], [(.avar 0), (.avar 1), (.avar 2)]⟩ ⟨13, [(.agg [(.strn (.var 0)), (.int .i64 (.var 1)), (.asl 0 (.var 2)), (.asl 1 (.var 3)), (.asl 2 (.var 4)), (.int .i64 (.var 5)), (.int .i64 (.var 6))])], [0, 1, 2], [(some ⟨[], 3, true, false, (some ⟨(.var 2), [(.int .i64)], [(.avar 0)]⟩)⟩), (some ⟨[], 98, true, false, (some ⟨(.var 3), [(.float .f32)], [(.avar 1)]⟩)⟩), (some ⟨[], 98, true, false, (some ⟨(.var 4), [(.float .f32)], [(.avar 2)]⟩)⟩), none, none, none, none, none, none, none, none, none, none, none, none, none, none, none, none, none, none, none, none, none, none, none, none, none, none, none, none], (.tuple [(.int .i64 (.var 18)), (.int .i64 (.var 19))]), []⟩
             (.ite (.icmp .eql (.var 19) (.lit 0))
             (.call etalonref02_WaveErr_s ⟨[(.var 0), (.var 1), (.var 2), (.var 3), (.var 4), (.var 5), (.var 6), (.var 7)], [], [(.avar 0), (.avar 1), (.avar 2)]⟩ ⟨[(.var 0), (.var 1), (.var 2), (.var 3), (.var 4), (.var 5), (.var 6), (.var 7), (.var 20)], [], [(.avar 0), (.avar 1), (.avar 2)]⟩ ⟨14, [(.agg [(.strn (.var 0)), (.int .i64 (.var 1)), (.asl 0 (.var 2)), (.asl 1 (.var 3)), (.asl 2 (.var 4)), (.int .i64 (.var 5)), (.int .i64 (.var 6))]), (.int .i64 (.var 7))], [0, 1, 2], [(some ⟨[], 3, true, false, (some ⟨(.var 2), [(.int .i64)], [(.avar 0)]⟩)⟩), (some ⟨[], 98, true, false, (some ⟨(.var 3), [(.float .f32)], [(.avar 1)]⟩)⟩), (some ⟨[], 98, true, false, (some ⟨(.var 4), [(.float .f32)], [(.avar 2)]⟩)⟩), none, none, none, none, none, none, none, none, none, none, none, none, none, none, none, none, none, none, none, none, none, none, none, none, none, none, none, none], (.int .i64 (.var 20)), []⟩
              (.ite (.icmp .eql (.var 20) (.lit 0))
              (.call etalonref02_At_s ⟨[(.var 0), (.var 1), (.var 2), (.var 3), (.var 4), (.var 5), (.var 6), (.var 7)], [], [(.avar 0), (.avar 1), (.avar 2)]⟩ ⟨[(.var 0), (.var 1), (.var 2), (.var 3), (.var 4), (.var 5), (.var 6), (.var 7), (.var 21), (.var 22)], [], [(.avar 0), (.avar 1), (.avar 2)]⟩ ⟨17, [(.agg [(.strn (.var 0)), (.int .i64 (.var 1)), (.asl 0 (.var 2)), (.asl 1 (.var 3)), (.asl 2 (.var 4)), (.int .i64 (.var 5)), (.int .i64 (.var 6))]), (.int .i64 (.var 7))], [0, 1, 2], [(some ⟨[], 3, true, false, (some ⟨(.var 2), [(.int .i64)], [(.avar 0)]⟩)⟩), (some ⟨[], 98, true, false, (some ⟨(.var 3), [(.float .f32)], [(.avar 1)]⟩)⟩), (some ⟨[], 98, true, false, (some ⟨(.var 4), [(.float .f32)], [(.avar 2)]⟩)⟩), none, none, none, none, none, none, none, none, none, none, none, none, none, none, none, none, none, none, none, none, none, none, none, none, none, none, none, none], (.agg [(.int .i64 (.var 21)), (.int .i64 (.var 22))]), []⟩
               (.call etalonref02_Permittivity_s ⟨[(.var 21), (.var 22)], [], []⟩ ⟨[(.var 21), (.var 22), (.var 23), (.var 24), (.var 25), (.var 26)], [], []⟩ ⟨16, [(.agg [(.int .i64 (.var 21)), (.int .i64 (.var 22))])], [], [none, none, none, none, none, none, none, none, none, none, none, none, none, none, none, none, none, none, none, none, none, none, none, none, none, none, none, none, none, none, none], (.tuple [(.agg [(.int .i64 (.var 23)), (.int .i64 (.var 24)), (.int .i64 (.var 25))]), (.int .i64 (.var 26))]), []⟩
               (.call etalonref02_GroupIndex_s ⟨[(.var 0), (.var 1), (.var 2), (.var 3), (.var 4), (.var 5), (.var 6), (.var 7)], [], [(.avar 0), (.avar 1), (.avar 2)]⟩ ⟨[(.var 0), (.var 1), (.var 2), (.var 3), (.var 4), (.var 5), (.var 6), (.var 7), (.var 27), (.var 28), (.var 29)], [], [(.avar 0), (.avar 1), (.avar 2)]⟩ ⟨18, [(.agg [(.strn (.var 0)), (.int .i64 (.var 1)), (.asl 0 (.var 2)), (.asl 1 (.var 3)), (.asl 2 (.var 4)), (.int .i64 (.var 5)), (.int .i64 (.var 6))]), (.int .i64 (.var 7))], [0, 1, 2], [(some ⟨[], 3, true, false, (some ⟨(.var 2), [(.int .i64)], [(.avar 0)]⟩)⟩), (some ⟨[], 98, true, false, (some ⟨(.var 3), [(.float .f32)], [(.avar 1)]⟩)⟩), (some ⟨[], 98, true, false, (some ⟨(.var 4), [(.float .f32)], [(.avar 2)]⟩)⟩), none, none, none, none, none, none, none, none, none, none, none, none, none, none, none, none, none, none, none, none, none, none, none, none, none, none, none, none, none], (.tuple [(.agg [(.int .i64 (.var 27)), (.int .i64 (.var 28))]), (.int .i64 (.var 29))]), []⟩
               (.ite (.icmp .eql (.var 10) (.lit 0))
               (.call etalonref02_At_s ⟨[(.var 0), (.var 1), (.var 2), (.var 3), (.var 4), (.var 5), (.var 6), (.var 7)], [], [(.avar 0), (.avar 1), (.avar 2)]⟩ ⟨[(.var 0), (.var 1), (.var 2), (.var 3), (.var 4), (.var 5), (.var 6), (.var 7), (.var 30), (.var 31)], [], [(.avar 0), (.avar 1), (.avar 2)]⟩ ⟨17, [(.agg [(.strn (.var 0)), (.int .i64 (.var 1)), (.asl 0 (.var 2)), (.asl 1 (.var 3)), (.asl 2 (.var 4)), (.int .i64 (.var 5)), (.int .i64 (.var 6))]), (.int .i64 (.var 7))], [0, 1, 2], [(some ⟨[], 3, true, false, (some ⟨(.var 2), [(.int .i64)], [(.avar 0)]⟩)⟩), (some ⟨[], 98, true, false, (some ⟨(.var 3), [(.float .f32)], [(.avar 1)]⟩)⟩), (some ⟨[], 98, true, false, (some ⟨(.var 4), [(.float .f32)], [(.avar 2)]⟩)⟩), none, none, none, none, none, none, none, none, none, none, none, none, none, none, none, none, none, none, none, none, none, none, none, none, none, none, none, none, none, none], (.agg [(.int .i64 (.var 30)), (.int .i64 (.var 31))]), []⟩
                (.ite (.icmp .eql (.var 8) (.var 30))
                (.ite (.icmp .eql (.var 9) (.var 31))
                 (.ite (.icmp .eql (.var 14) (.var 26))
                  (.ite (.icmp .eql (.bin .maxI (.var 11) (.lit 0)) (.toF .f64 (.var 23)))
                   (.ite (.icmp .eql (.bin .maxI (.var 12) (.lit 0)) (.toF .f64 (.var 24)))
                    (.ite (.icmp .eql (.var 13) (.var 25))
                     (.ite (.icmp .eql (.var 17) (.var 29))
                      (.ret ⟨[], [(.and (.icmp .eql (.var 15) (.var 27)) (.icmp .eql (.var 16) (.var 28)))], []⟩ [])
                      (.ret ⟨[], [(.lit false)], []⟩ []))
                     (.ret ⟨[], [(.lit false)], []⟩ []))
                    (.ret ⟨[], [(.lit false)], []⟩ []))
                   (.ret ⟨[], [(.lit false)], []⟩ []))
                  (.ret ⟨[], [(.lit false)], []⟩ []))
                 (.ret ⟨[], [(.lit false)], []⟩ []))
                (.ret ⟨[], [(.lit false)], []⟩ [])))
               (.ret ⟨[], [(.lit false)], []⟩ [])))))
              (.ite (.icmp .eql (.var 10) (.var 20))
               (.ite (.icmp .eql (.var 14) (.var 20))
                (.ite (.icmp .eql (.var 17) (.var 20))
                 (.ite (.icmp .eql (.var 8) (.lit 0))
                  (.ite (.icmp .eql (.var 9) (.lit 0))
                   (.ite (.icmp .eql (.bin .maxI (.var 11) (.lit 0)) (.lit 0))
                    (.ite (.icmp .eql (.bin .maxI (.var 12) (.lit 0)) (.lit 0))
                     (.ite (.icmp .eql (.var 13) (.lit 0))
                      (.ret ⟨[], [(.and (.icmp .eql (.var 15) (.lit 0)) (.icmp .eql (.var 16) (.lit 0)))], []⟩ [])
                      (.ret ⟨[], [(.lit false)], []⟩ []))
                     (.ret ⟨[], [(.lit false)], []⟩ []))
                    (.ret ⟨[], [(.lit false)], []⟩ []))
                   (.ret ⟨[], [(.lit false)], []⟩ []))
                  (.ret ⟨[], [(.lit false)], []⟩ []))
                 (.ret ⟨[], [(.lit false)], []⟩ []))
                (.ret ⟨[], [(.lit false)], []⟩ []))
               (.ret ⟨[], [(.lit false)], []⟩ []))))
             (.ite (.icmp .eql (.var 10) (.var 19))
              (.ite (.icmp .eql (.var 14) (.var 19))
               (.ite (.icmp .eql (.var 17) (.var 19))
                (.ite (.icmp .eql (.var 8) (.lit 0))
                 (.ite (.icmp .eql (.var 9) (.lit 0))
                  (.ite (.icmp .eql (.bin .maxI (.var 11) (.lit 0)) (.lit 0))
                   (.ite (.icmp .eql (.bin .maxI (.var 12) (.lit 0)) (.lit 0))
                    (.ite (.icmp .eql (.var 13) (.lit 0))
                     (.ret ⟨[], [(.and (.icmp .eql (.var 15) (.lit 0)) (.icmp .eql (.var 16) (.lit 0)))], []⟩ [])
                     (.ret ⟨[], [(.lit false)], []⟩ []))
                    (.ret ⟨[], [(.lit false)], []⟩ []))
                   (.ret ⟨[], [(.lit false)], []⟩ []))
                  (.ret ⟨[], [(.lit false)], []⟩ []))
                 (.ret ⟨[], [(.lit false)], []⟩ []))
                (.ret ⟨[], [(.lit false)], []⟩ []))
               (.ret ⟨[], [(.lit false)], []⟩ []))
              (.ret ⟨[], [(.lit false)], []⟩ [])))))))
            (.ret ⟨[], [(.lit true)], []⟩ []))
           (.ret ⟨[], [(.lit true)], []⟩ []))
          (.ret ⟨[], [(.lit true)], []⟩ [])))
        (.ret ⟨[], [(.lit true)], []⟩ []))
       (.ret ⟨[], [(.lit true)], []⟩ [])))
     (.ret ⟨[], [(.lit true)], []⟩ []))
    (.ret ⟨[], [(.lit true)], []⟩ [])))
  (.ret ⟨[], [(.lit false)], []⟩ [])))
theorem gix_p0 : (gix_t.only [true, true, true, false]).chk Tryz.prog (S2 Tryz.prog) 100000 60 (.fn etalonlaw02_GlassIndices_s) { dom := { ivs := [(1, (-9223372036854775808), 9223372036854775807), (2, 0, 9223372036854775807), (3, 0, 9223372036854775807), (4, 0, 9223372036854775807), (5, (-9223372036854775808), 9223372036854775807), (6, (-9223372036854775808), 9223372036854775807), (7, (-9223372036854775808), 9223372036854775807)], aivs := [(0, (-9223372036854775808), 9223372036854775807)] } } etalonlaw02_GlassIndices_s.inp = true := by kernel_rfl
theorem gix_p1 : ((gix_t.but [true, true, true, false]).only [true, true, false, true, true, false]).chk Tryz.prog (S2 Tryz.prog) 100000 60 (.fn etalonlaw02_GlassIndices_s) { dom := { ivs := [(1, (-9223372036854775808), 9223372036854775807), (2, 0, 9223372036854775807), (3, 0, 9223372036854775807), (4, 0, 9223372036854775807), (5, (-9223372036854775808), 9223372036854775807), (6, (-9223372036854775808), 9223372036854775807), (7, (-9223372036854775808), 9223372036854775807)], aivs := [(0, (-9223372036854775808), 9223372036854775807)] } } etalonlaw02_GlassIndices_s.inp = true := by kernel_rfl
theorem gix_p2 : (((gix_t.but [true, true, true, false]).but [true, true, false, true, true, false]).only [true, true, false]).chk Tryz.prog (S2 Tryz.prog) 100000 60 (.fn etalonlaw02_GlassIndices_s) { dom := { ivs := [(1, (-9223372036854775808), 9223372036854775807), (2, 0, 9223372036854775807), (3, 0, 9223372036854775807), (4, 0, 9223372036854775807), (5, (-9223372036854775808), 9223372036854775807), (6, (-9223372036854775808), 9223372036854775807), (7, (-9223372036854775808), 9223372036854775807)], aivs := [(0, (-9223372036854775808), 9223372036854775807)] } } etalonlaw02_GlassIndices_s.inp = true := by kernel_rfl
theorem gix_p3 : ((((gix_t.but [true, true, true, false]).but [true, true, false, true, true, false]).but [true, true, false]).only [true, false, true, true, true, false]).chk Tryz.prog (S2 Tryz.prog) 100000 60 (.fn etalonlaw02_GlassIndices_s) { dom := { ivs := [(1, (-9223372036854775808), 9223372036854775807), (2, 0, 9223372036854775807), (3, 0, 9223372036854775807), (4, 0, 9223372036854775807), (5, (-9223372036854775808), 9223372036854775807), (6, (-9223372036854775808), 9223372036854775807), (7, (-9223372036854775808), 9223372036854775807)], aivs := [(0, (-9223372036854775808), 9223372036854775807)] } } etalonlaw02_GlassIndices_s.inp = true := by kernel_rfl
theorem gix_p4 : (((((gix_t.but [true, true, true, false]).but [true, true, false, true, true, false]).but [true, true, false]).but [true, false, true, true, true, false]).only [true, false, true, true, false, true, true, false]).chk Tryz.prog (S2 Tryz.prog) 100000 60 (.fn etalonlaw02_GlassIndices_s) { dom := { ivs := [(1, (-9223372036854775808), 9223372036854775807), (2, 0, 9223372036854775807), (3, 0, 9223372036854775807), (4, 0, 9223372036854775807), (5, (-9223372036854775808), 9223372036854775807), (6, (-9223372036854775808), 9223372036854775807), (7, (-9223372036854775808), 9223372036854775807)], aivs := [(0, (-9223372036854775808), 9223372036854775807)] } } etalonlaw02_GlassIndices_s.inp = true := by kernel_rfl
theorem gix_p5 : ((((((gix_t.but [true, true, true, false]).but [true, true, false, true, true, false]).but [true, true, false]).but [true, false, true, true, true, false]).but [true, false, true, true, false, true, true, false]).only [true, false, true, true, false]).chk Tryz.prog (S2 Tryz.prog) 100000 60 (.fn etalonlaw02_GlassIndices_s) { dom := { ivs := [(1, (-9223372036854775808), 9223372036854775807), (2, 0, 9223372036854775807), (3, 0, 9223372036854775807), (4, 0, 9223372036854775807), (5, (-9223372036854775808), 9223372036854775807), (6, (-9223372036854775808), 9223372036854775807), (7, (-9223372036854775808), 9223372036854775807)], aivs := [(0, (-9223372036854775808), 9223372036854775807)] } } etalonlaw02_GlassIndices_s.inp = true := by kernel_rfl
theorem gix_p6 : (((((((gix_t.but [true, true, true, false]).but [true, true, false, true, true, false]).but [true, true, false]).but [true, false, true, true, true, false]).but [true, false, true, true, false, true, true, false]).but [true, false, true, true, false]).only [true, false]).chk Tryz.prog (S2 Tryz.prog) 100000 60 (.fn etalonlaw02_GlassIndices_s) { dom := { ivs := [(1, (-9223372036854775808), 9223372036854775807), (2, 0, 9223372036854775807), (3, 0, 9223372036854775807), (4, 0, 9223372036854775807), (5, (-9223372036854775808), 9223372036854775807), (6, (-9223372036854775808), 9223372036854775807), (7, (-9223372036854775808), 9223372036854775807)], aivs := [(0, (-9223372036854775808), 9223372036854775807)] } } etalonlaw02_GlassIndices_s.inp = true := by kernel_rfl
theorem gix_p7 : ((((((((gix_t.but [true, true, true, false]).but [true, true, false, true, true, false]).but [true, true, false]).but [true, false, true, true, true, false]).but [true, false, true, true, false, true, true, false]).but [true, false, true, true, false]).but [true, false])).chk Tryz.prog (S2 Tryz.prog) 100000 60 (.fn etalonlaw02_GlassIndices_s) { dom := { ivs := [(1, (-9223372036854775808), 9223372036854775807), (2, 0, 9223372036854775807), (3, 0, 9223372036854775807), (4, 0, 9223372036854775807), (5, (-9223372036854775808), 9223372036854775807), (6, (-9223372036854775808), 9223372036854775807), (7, (-9223372036854775808), 9223372036854775807)], aivs := [(0, (-9223372036854775808), 9223372036854775807)] } } etalonlaw02_GlassIndices_s.inp = true := by kernel_rfl
theorem gix {x0 x1 x2 x3 x4 x5 x6 x7 : Int} {f0 f1 f2 : Int → Int} (r1 : (-9223372036854775808) ≤ x1 ∧ x1 ≤ 9223372036854775807) (r2 : 0 ≤ x2 ∧ x2 ≤ 9223372036854775807) (r3 : 0 ≤ x3 ∧ x3 ≤ 9223372036854775807) (r4 : 0 ≤ x4 ∧ x4 ≤ 9223372036854775807) (r5 : (-9223372036854775808) ≤ x5 ∧ x5 ≤ 9223372036854775807) (r6 : (-9223372036854775808) ≤ x6 ∧ x6 ≤ 9223372036854775807) (r7 : (-9223372036854775808) ≤ x7 ∧ x7 ≤ 9223372036854775807) (s0 : ∀ q, (-9223372036854775808) ≤ f0 q ∧ f0 q ≤ 9223372036854775807) {R : Bool → Prop}
  (H : (∃ u0 : Bool, Spec Tryz.prog etalonlaw02_awake_s ⟨[], [], []⟩ [] [u0] [] ∧
   ((u0 = true → ((decide ((x2 : Int) ≤ 12) = true → ((decide ((x3 : Int) ≤ 12) = true → ((decide ((x4 : Int) ≤ 12) = true → ((decide (((NOp.den .sLen x0 0) : Int) ≤ 20) = true → (∃ v8 : Int, ∃ v9 : Int, ∃ v10 : Int, Spec Tryz.prog glass_At_s ⟨[x0, x1, x2, x3, x4, x5, x6, x7], [], [f0, f1, f2]⟩ [v8, v9, v10] [] [] ∧
        (∃ v11 : Int, ∃ v12 : Int, ∃ v13 : Int, ∃ v14 : Int, Spec Tryz.prog glass_Permittivity_s ⟨[x0, x1, x2, x3, x4, x5, x6, x7], [], [f0, f1, f2]⟩ [v11, v12, v13, v14] [] [] ∧
        (∃ v15 : Int, ∃ v16 : Int, ∃ v17 : Int, Spec Tryz.prog glass_GroupIndex_s ⟨[x0, x1, x2, x3, x4, x5, x6, x7], [], [f0, f1, f2]⟩ [v15, v16, v17] [] [] ∧
        (∃ v18 : Int, ∃ v19 : Int, Spec Tryz.prog etalonref02_CheckGlass_s ⟨[x0, x1, x2, x3, x4, x5, x6], [], [f0, f1, f2]⟩ [v18, v19] [] [] ∧
        ((((v19 : Int) == 0) = true → (∃ v20 : Int, Spec Tryz.prog etalonref02_WaveErr_s ⟨[x0, x1, x2, x3, x4, x5, x6, x7], [], [f0, f1, f2]⟩ [v20] [] [] ∧
         ((((v20 : Int) == 0) = true → (∃ v21 : Int, ∃ v22 : Int, Spec Tryz.prog etalonref02_At_s ⟨[x0, x1, x2, x3, x4, x5, x6, x7], [], [f0, f1, f2]⟩ [v21, v22] [] [] ∧
          (∃ v23 : Int, ∃ v24 : Int, ∃ v25 : Int, ∃ v26 : Int, Spec Tryz.prog etalonref02_Permittivity_s ⟨[v21, v22], [], []⟩ [v23, v24, v25, v26] [] [] ∧
          (∃ v27 : Int, ∃ v28 : Int, ∃ v29 : Int, Spec Tryz.prog etalonref02_GroupIndex_s ⟨[x0, x1, x2, x3, x4, x5, x6, x7], [], [f0, f1, f2]⟩ [v27, v28, v29] [] [] ∧
          ((((v10 : Int) == 0) = true → (∃ v30 : Int, ∃ v31 : Int, Spec Tryz.prog etalonref02_At_s ⟨[x0, x1, x2, x3, x4, x5, x6, x7], [], [f0, f1, f2]⟩ [v30, v31] [] [] ∧
           ((((v8 : Int) == v30) = true → ((((v9 : Int) == v31) = true → ((((v14 : Int) == v26) = true → (((((if (0 : Int) > (v11) then 0 else v11) : Int) == ((FloatKind.f64.nearest v23 : Nat) : Int)) = true → (((((if (0 : Int) > (v12) then 0 else v12) : Int) == ((FloatKind.f64.nearest v24 : Nat) : Int)) = true → ((((v13 : Int) == v25) = true → ((((v17 : Int) == v29) = true → R ((((v15 : Int) == v27) && ((v16 : Int) == v28)))) ∧
                 (((v17 : Int) == v29) = false → R (false)))) ∧
                (((v13 : Int) == v25) = false → R (false)))) ∧
               ((((if (0 : Int) > (v12) then 0 else v12) : Int) == ((FloatKind.f64.nearest v24 : Nat) : Int)) = false → R (false)))) ∧
              ((((if (0 : Int) > (v11) then 0 else v11) : Int) == ((FloatKind.f64.nearest v23 : Nat) : Int)) = false → R (false)))) ∧
             (((v14 : Int) == v26) = false → R (false)))) ∧
            (((v9 : Int) == v31) = false → R (false)))) ∧
           (((v8 : Int) == v30) = false → R (false))))) ∧
          (((v10 : Int) == 0) = false → R (false))))))) ∧
         (((v20 : Int) == 0) = false → ((((v10 : Int) == v20) = true → ((((v14 : Int) == v20) = true → ((((v17 : Int) == v20) = true → ((((v8 : Int) == 0) = true → ((((v9 : Int) == 0) = true → (((((if (0 : Int) > (v11) then 0 else v11) : Int) == 0) = true → (((((if (0 : Int) > (v12) then 0 else v12) : Int) == 0) = true → ((((v13 : Int) == 0) = true → R ((((v15 : Int) == 0) && ((v16 : Int) == 0)))) ∧
                 (((v13 : Int) == 0) = false → R (false)))) ∧
                ((((if (0 : Int) > (v12) then 0 else v12) : Int) == 0) = false → R (false)))) ∧
               ((((if (0 : Int) > (v11) then 0 else v11) : Int) == 0) = false → R (false)))) ∧
              (((v9 : Int) == 0) = false → R (false)))) ∧
             (((v8 : Int) == 0) = false → R (false)))) ∧
            (((v17 : Int) == v20) = false → R (false)))) ∧
           (((v14 : Int) == v20) = false → R (false)))) ∧
          (((v10 : Int) == v20) = false → R (false))))))) ∧
        (((v19 : Int) == 0) = false → ((((v10 : Int) == v19) = true → ((((v14 : Int) == v19) = true → ((((v17 : Int) == v19) = true → ((((v8 : Int) == 0) = true → ((((v9 : Int) == 0) = true → (((((if (0 : Int) > (v11) then 0 else v11) : Int) == 0) = true → (((((if (0 : Int) > (v12) then 0 else v12) : Int) == 0) = true → ((((v13 : Int) == 0) = true → R ((((v15 : Int) == 0) && ((v16 : Int) == 0)))) ∧
                (((v13 : Int) == 0) = false → R (false)))) ∧
               ((((if (0 : Int) > (v12) then 0 else v12) : Int) == 0) = false → R (false)))) ∧
              ((((if (0 : Int) > (v11) then 0 else v11) : Int) == 0) = false → R (false)))) ∧
             (((v9 : Int) == 0) = false → R (false)))) ∧
            (((v8 : Int) == 0) = false → R (false)))) ∧
           (((v17 : Int) == v19) = false → R (false)))) ∧
          (((v14 : Int) == v19) = false → R (false)))) ∧
         (((v10 : Int) == v19) = false → R (false)))))))))) ∧
       (decide (((NOp.den .sLen x0 0) : Int) ≤ 20) = false → R (true)))) ∧
      (decide ((x4 : Int) ≤ 12) = false → ((decide ((64 : Int) ≤ x4) = true → ((decide ((x4 : Int) ≤ 66) = true → ((decide (((NOp.den .sLen x0 0) : Int) ≤ 20) = true → (∃ v8 : Int, ∃ v9 : Int, ∃ v10 : Int, Spec Tryz.prog glass_At_s ⟨[x0, x1, x2, x3, x4, x5, x6, x7], [], [f0, f1, f2]⟩ [v8, v9, v10] [] [] ∧
          (∃ v11 : Int, ∃ v12 : Int, ∃ v13 : Int, ∃ v14 : Int, Spec Tryz.prog glass_Permittivity_s ⟨[x0, x1, x2, x3, x4, x5, x6, x7], [], [f0, f1, f2]⟩ [v11, v12, v13, v14] [] [] ∧
          (∃ v15 : Int, ∃ v16 : Int, ∃ v17 : Int, Spec Tryz.prog glass_GroupIndex_s ⟨[x0, x1, x2, x3, x4, x5, x6, x7], [], [f0, f1, f2]⟩ [v15, v16, v17] [] [] ∧
          (∃ v18 : Int, ∃ v19 : Int, Spec Tryz.prog etalonref02_CheckGlass_s ⟨[x0, x1, x2, x3, x4, x5, x6], [], [f0, f1, f2]⟩ [v18, v19] [] [] ∧
          ((((v19 : Int) == 0) = true → (∃ v20 : Int, Spec Tryz.prog etalonref02_WaveErr_s ⟨[x0, x1, x2, x3, x4, x5, x6, x7], [], [f0, f1, f2]⟩ [v20] [] [] ∧
           ((((v20 : Int) == 0) = true → (∃ v21 : Int, ∃ v22 : Int, Spec Tryz.prog etalonref02_At_s ⟨[x0, x1, x2, x3, x4, x5, x6, x7], [], [f0, f1, f2]⟩ [v21, v22] [] [] ∧
            (∃ v23 : Int, ∃ v24 : Int, ∃ v25 : Int, ∃ v26 : Int, Spec Tryz.prog etalonref02_Permittivity_s ⟨[v21, v22], [], []⟩ [v23, v24, v25, v26] [] [] ∧
            (∃ v27 : Int, ∃ v28 : Int, ∃ v29 : Int, Spec Tryz.prog etalonref02_GroupIndex_s ⟨[x0, x1, x2, x3, x4, x5, x6, x7], [], [f0, f1, f2]⟩ [v27, v28, v29] [] [] ∧
            ((((v10 : Int) == 0) = true → (∃ v30 : Int, ∃ v31 : Int, Spec Tryz.prog etalonref02_At_s ⟨[x0, x1, x2, x3, x4, x5, x6, x7], [], [f0, f1, f2]⟩ [v30, v31] [] [] ∧
             ((((v8 : Int) == v30) = true → ((((v9 : Int) == v31) = true → ((((v14 : Int) == v26) = true → (((((if (0 : Int) > (v11) then 0 else v11) : Int) == ((FloatKind.f64.nearest v23 : Nat) : Int)) = true → (((((if (0 : Int) > (v12) then 0 else v12) : Int) == ((FloatKind.f64.nearest v24 : Nat) : Int)) = true → ((((v13 : Int) == v25) = true → ((((v17 : Int) == v29) = true → R ((((v15 : Int) == v27) && ((v16 : Int) == v28)))) ∧
                   (((v17 : Int) == v29) = false → R (false)))) ∧
                  (((v13 : Int) == v25) = false → R (false)))) ∧
                 ((((if (0 : Int) > (v12) then 0 else v12) : Int) == ((FloatKind.f64.nearest v24 : Nat) : Int)) = false → R (false)))) ∧
                ((((if (0 : Int) > (v11) then 0 else v11) : Int) == ((FloatKind.f64.nearest v23 : Nat) : Int)) = false → R (false)))) ∧
               (((v14 : Int) == v26) = false → R (false)))) ∧
              (((v9 : Int) == v31) = false → R (false)))) ∧
             (((v8 : Int) == v30) = false → R (false))))) ∧
            (((v10 : Int) == 0) = false → R (false))))))) ∧
           (((v20 : Int) == 0) = false → ((((v10 : Int) == v20) = true → ((((v14 : Int) == v20) = true → ((((v17 : Int) == v20) = true → ((((v8 : Int) == 0) = true → ((((v9 : Int) == 0) = true → (((((if (0 : Int) > (v11) then 0 else v11) : Int) == 0) = true → (((((if (0 : Int) > (v12) then 0 else v12) : Int) == 0) = true → ((((v13 : Int) == 0) = true → R ((((v15 : Int) == 0) && ((v16 : Int) == 0)))) ∧
                   (((v13 : Int) == 0) = false → R (false)))) ∧
                  ((((if (0 : Int) > (v12) then 0 else v12) : Int) == 0) = false → R (false)))) ∧
                 ((((if (0 : Int) > (v11) then 0 else v11) : Int) == 0) = false → R (false)))) ∧
                (((v9 : Int) == 0) = false → R (false)))) ∧
               (((v8 : Int) == 0) = false → R (false)))) ∧
              (((v17 : Int) == v20) = false → R (false)))) ∧
             (((v14 : Int) == v20) = false → R (false)))) ∧
            (((v10 : Int) == v20) = false → R (false))))))) ∧
          (((v19 : Int) == 0) = false → ((((v10 : Int) == v19) = true → ((((v14 : Int) == v19) = true → ((((v17 : Int) == v19) = true → ((((v8 : Int) == 0) = true → ((((v9 : Int) == 0) = true → (((((if (0 : Int) > (v11) then 0 else v11) : Int) == 0) = true → (((((if (0 : Int) > (v12) then 0 else v12) : Int) == 0) = true → ((((v13 : Int) == 0) = true → R ((((v15 : Int) == 0) && ((v16 : Int) == 0)))) ∧
                  (((v13 : Int) == 0) = false → R (false)))) ∧
                 ((((if (0 : Int) > (v12) then 0 else v12) : Int) == 0) = false → R (false)))) ∧
                ((((if (0 : Int) > (v11) then 0 else v11) : Int) == 0) = false → R (false)))) ∧
               (((v9 : Int) == 0) = false → R (false)))) ∧
              (((v8 : Int) == 0) = false → R (false)))) ∧
             (((v17 : Int) == v19) = false → R (false)))) ∧
            (((v14 : Int) == v19) = false → R (false)))) ∧
           (((v10 : Int) == v19) = false → R (false)))))))))) ∧
         (decide (((NOp.den .sLen x0 0) : Int) ≤ 20) = false → R (true)))) ∧
        (decide ((x4 : Int) ≤ 66) = false → R (true)))) ∧
       (decide ((64 : Int) ≤ x4) = false → R (true)))))) ∧
     (decide ((x3 : Int) ≤ 12) = false → ((decide ((64 : Int) ≤ x3) = true → ((decide ((x3 : Int) ≤ 66) = true → ((decide ((x4 : Int) ≤ 12) = true → ((decide (((NOp.den .sLen x0 0) : Int) ≤ 20) = true → (∃ v8 : Int, ∃ v9 : Int, ∃ v10 : Int, Spec Tryz.prog glass_At_s ⟨[x0, x1, x2, x3, x4, x5, x6, x7], [], [f0, f1, f2]⟩ [v8, v9, v10] [] [] ∧
          (∃ v11 : Int, ∃ v12 : Int, ∃ v13 : Int, ∃ v14 : Int, Spec Tryz.prog glass_Permittivity_s ⟨[x0, x1, x2, x3, x4, x5, x6, x7], [], [f0, f1, f2]⟩ [v11, v12, v13, v14] [] [] ∧
          (∃ v15 : Int, ∃ v16 : Int, ∃ v17 : Int, Spec Tryz.prog glass_GroupIndex_s ⟨[x0, x1, x2, x3, x4, x5, x6, x7], [], [f0, f1, f2]⟩ [v15, v16, v17] [] [] ∧
          (∃ v18 : Int, ∃ v19 : Int, Spec Tryz.prog etalonref02_CheckGlass_s ⟨[x0, x1, x2, x3, x4, x5, x6], [], [f0, f1, f2]⟩ [v18, v19] [] [] ∧
          ((((v19 : Int) == 0) = true → (∃ v20 : Int, Spec Tryz.prog etalonref02_WaveErr_s ⟨[x0, x1, x2, x3, x4, x5, x6, x7], [], [f0, f1, f2]⟩ [v20] [] [] ∧
           ((((v20 : Int) == 0) = true → (∃ v21 : Int, ∃ v22 : Int, Spec Tryz.prog etalonref02_At_s ⟨[x0, x1, x2, x3, x4, x5, x6, x7], [], [f0, f1, f2]⟩ [v21, v22] [] [] ∧
            (∃ v23 : Int, ∃ v24 : Int, ∃ v25 : Int, ∃ v26 : Int, Spec Tryz.prog etalonref02_Permittivity_s ⟨[v21, v22], [], []⟩ [v23, v24, v25, v26] [] [] ∧
            (∃ v27 : Int, ∃ v28 : Int, ∃ v29 : Int, Spec Tryz.prog etalonref02_GroupIndex_s ⟨[x0, x1, x2, x3, x4, x5, x6, x7], [], [f0, f1, f2]⟩ [v27, v28, v29] [] [] ∧
            ((((v10 : Int) == 0) = true → (∃ v30 : Int, ∃ v31 : Int, Spec Tryz.prog etalonref02_At_s ⟨[x0, x1, x2, x3, x4, x5, x6, x7], [], [f0, f1, f2]⟩ [v30, v31] [] [] ∧
             ((((v8 : Int) == v30) = true → ((((v9 : Int) == v31) = true → ((((v14 : Int) == v26) = true → (((((if (0 : Int) > (v11) then 0 else v11) : Int) == ((FloatKind.f64.nearest v23 : Nat) : Int)) = true → (((((if (0 : Int) > (v12) then 0 else v12) : Int) == ((FloatKind.f64.nearest v24 : Nat) : Int)) = true → ((((v13 : Int) == v25) = true → ((((v17 : Int) == v29) = true → R ((((v15 : Int) == v27) && ((v16 : Int) == v28)))) ∧
                   (((v17 : Int) == v29) = false → R (false)))) ∧
                  (((v13 : Int) == v25) = false → R (false)))) ∧
                 ((((if (0 : Int) > (v12) then 0 else v12) : Int) == ((FloatKind.f64.nearest v24 : Nat) : Int)) = false → R (false)))) ∧
                ((((if (0 : Int) > (v11) then 0 else v11) : Int) == ((FloatKind.f64.nearest v23 : Nat) : Int)) = false → R (false)))) ∧
               (((v14 : Int) == v26) = false → R (false)))) ∧
              (((v9 : Int) == v31) = false → R (false)))) ∧
             (((v8 : Int) == v30) = false → R (false))))) ∧
            (((v10 : Int) == 0) = false → R (false))))))) ∧
           (((v20 : Int) == 0) = false → ((((v10 : Int) == v20) = true → ((((v14 : Int) == v20) = true → ((((v17 : Int) == v20) = true → ((((v8 : Int) == 0) = true → ((((v9 : Int) == 0) = true → (((((if (0 : Int) > (v11) then 0 else v11) : Int) == 0) = true → (((((if (0 : Int) > (v12) then 0 else v12) : Int) == 0) = true → ((((v13 : Int) == 0) = true → R ((((v15 : Int) == 0) && ((v16 : Int) == 0)))) ∧
                   (((v13 : Int) == 0) = false → R (false)))) ∧
                  ((((if (0 : Int) > (v12) then 0 else v12) : Int) == 0) = false → R (false)))) ∧
                 ((((if (0 : Int) > (v11) then 0 else v11) : Int) == 0) = false → R (false)))) ∧
                (((v9 : Int) == 0) = false → R (false)))) ∧
               (((v8 : Int) == 0) = false → R (false)))) ∧
              (((v17 : Int) == v20) = false → R (false)))) ∧
             (((v14 : Int) == v20) = false → R (false)))) ∧
            (((v10 : Int) == v20) = false → R (false))))))) ∧
          (((v19 : Int) == 0) = false → ((((v10 : Int) == v19) = true → ((((v14 : Int) == v19) = true → ((((v17 : Int) == v19) = true → ((((v8 : Int) == 0) = true → ((((v9 : Int) == 0) = true → (((((if (0 : Int) > (v11) then 0 else v11) : Int) == 0) = true → (((((if (0 : Int) > (v12) then 0 else v12) : Int) == 0) = true → ((((v13 : Int) == 0) = true → R ((((v15 : Int) == 0) && ((v16 : Int) == 0)))) ∧
                  (((v13 : Int) == 0) = false → R (false)))) ∧
                 ((((if (0 : Int) > (v12) then 0 else v12) : Int) == 0) = false → R (false)))) ∧
                ((((if (0 : Int) > (v11) then 0 else v11) : Int) == 0) = false → R (false)))) ∧
               (((v9 : Int) == 0) = false → R (false)))) ∧
              (((v8 : Int) == 0) = false → R (false)))) ∧
             (((v17 : Int) == v19) = false → R (false)))) ∧
            (((v14 : Int) == v19) = false → R (false)))) ∧
           (((v10 : Int) == v19) = false → R (false)))))))))) ∧
         (decide (((NOp.den .sLen x0 0) : Int) ≤ 20) = false → R (true)))) ∧
        (decide ((x4 : Int) ≤ 12) = false → ((decide ((64 : Int) ≤ x4) = true → ((decide ((x4 : Int) ≤ 66) = true → ((decide (((NOp.den .sLen x0 0) : Int) ≤ 20) = true → (∃ v8 : Int, ∃ v9 : Int, ∃ v10 : Int, Spec Tryz.prog glass_At_s ⟨[x0, x1, x2, x3, x4, x5, x6, x7], [], [f0, f1, f2]⟩ [v8, v9, v10] [] [] ∧
            (∃ v11 : Int, ∃ v12 : Int, ∃ v13 : Int, ∃ v14 : Int, Spec Tryz.prog glass_Permittivity_s ⟨[x0, x1, x2, x3, x4, x5, x6, x7], [], [f0, f1, f2]⟩ [v11, v12, v13, v14] [] [] ∧
            (∃ v15 : Int, ∃ v16 : Int, ∃ v17 : Int, Spec Tryz.prog glass_GroupIndex_s ⟨[x0, x1, x2, x3, x4, x5, x6, x7], [], [f0, f1, f2]⟩ [v15, v16, v17] [] [] ∧
            (∃ v18 : Int, ∃ v19 : Int, Spec Tryz.prog etalonref02_CheckGlass_s ⟨[x0, x1, x2, x3, x4, x5, x6], [], [f0, f1, f2]⟩ [v18, v19] [] [] ∧
            ((((v19 : Int) == 0) = true → (∃ v20 : Int, Spec Tryz.prog etalonref02_WaveErr_s ⟨[x0, x1, x2, x3, x4, x5, x6, x7], [], [f0, f1, f2]⟩ [v20] [] [] ∧
             ((((v20 : Int) == 0) = true → (∃ v21 : Int, ∃ v22 : Int, Spec Tryz.prog etalonref02_At_s ⟨[x0, x1, x2, x3, x4, x5, x6, x7], [], [f0, f1, f2]⟩ [v21, v22] [] [] ∧
              (∃ v23 : Int, ∃ v24 : Int, ∃ v25 : Int, ∃ v26 : Int, Spec Tryz.prog etalonref02_Permittivity_s ⟨[v21, v22], [], []⟩ [v23, v24, v25, v26] [] [] ∧
              (∃ v27 : Int, ∃ v28 : Int, ∃ v29 : Int, Spec Tryz.prog etalonref02_GroupIndex_s ⟨[x0, x1, x2, x3, x4, x5, x6, x7], [], [f0, f1, f2]⟩ [v27, v28, v29] [] [] ∧
              ((((v10 : Int) == 0) = true → (∃ v30 : Int, ∃ v31 : Int, Spec Tryz.prog etalonref02_At_s ⟨[x0, x1, x2, x3, x4, x5, x6, x7], [], [f0, f1, f2]⟩ [v30, v31] [] [] ∧
               ((((v8 : Int) == v30) = true → ((((v9 : Int) == v31) = true → ((((v14 : Int) == v26) = true → (((((if (0 : Int) > (v11) then 0 else v11) : Int) == ((FloatKind.f64.nearest v23 : Nat) : Int)) = true → (((((if (0 : Int) > (v12) then 0 else v12) : Int) == ((FloatKind.f64.nearest v24 : Nat) : Int)) = true → ((((v13 : Int) == v25) = true → ((((v17 : Int) == v29) = true → R ((((v15 : Int) == v27) && ((v16 : Int) == v28)))) ∧
                     (((v17 : Int) == v29) = false → R (false)))) ∧
                    (((v13 : Int) == v25) = false → R (false)))) ∧
                   ((((if (0 : Int) > (v12) then 0 else v12) : Int) == ((FloatKind.f64.nearest v24 : Nat) : Int)) = false → R (false)))) ∧
                  ((((if (0 : Int) > (v11) then 0 else v11) : Int) == ((FloatKind.f64.nearest v23 : Nat) : Int)) = false → R (false)))) ∧
                 (((v14 : Int) == v26) = false → R (false)))) ∧
                (((v9 : Int) == v31) = false → R (false)))) ∧
               (((v8 : Int) == v30) = false → R (false))))) ∧
              (((v10 : Int) == 0) = false → R (false))))))) ∧
             (((v20 : Int) == 0) = false → ((((v10 : Int) == v20) = true → ((((v14 : Int) == v20) = true → ((((v17 : Int) == v20) = true → ((((v8 : Int) == 0) = true → ((((v9 : Int) == 0) = true → (((((if (0 : Int) > (v11) then 0 else v11) : Int) == 0) = true → (((((if (0 : Int) > (v12) then 0 else v12) : Int) == 0) = true → ((((v13 : Int) == 0) = true → R ((((v15 : Int) == 0) && ((v16 : Int) == 0)))) ∧
                     (((v13 : Int) == 0) = false → R (false)))) ∧
                    ((((if (0 : Int) > (v12) then 0 else v12) : Int) == 0) = false → R (false)))) ∧
                   ((((if (0 : Int) > (v11) then 0 else v11) : Int) == 0) = false → R (false)))) ∧
                  (((v9 : Int) == 0) = false → R (false)))) ∧
                 (((v8 : Int) == 0) = false → R (false)))) ∧
                (((v17 : Int) == v20) = false → R (false)))) ∧
               (((v14 : Int) == v20) = false → R (false)))) ∧
              (((v10 : Int) == v20) = false → R (false))))))) ∧
            (((v19 : Int) == 0) = false → ((((v10 : Int) == v19) = true → ((((v14 : Int) == v19) = true → ((((v17 : Int) == v19) = true → ((((v8 : Int) == 0) = true → ((((v9 : Int) == 0) = true → (((((if (0 : Int) > (v11) then 0 else v11) : Int) == 0) = true → (((((if (0 : Int) > (v12) then 0 else v12) : Int) == 0) = true → ((((v13 : Int) == 0) = true → R ((((v15 : Int) == 0) && ((v16 : Int) == 0)))) ∧
                    (((v13 : Int) == 0) = false → R (false)))) ∧
                   ((((if (0 : Int) > (v12) then 0 else v12) : Int) == 0) = false → R (false)))) ∧
                  ((((if (0 : Int) > (v11) then 0 else v11) : Int) == 0) = false → R (false)))) ∧
                 (((v9 : Int) == 0) = false → R (false)))) ∧
                (((v8 : Int) == 0) = false → R (false)))) ∧
               (((v17 : Int) == v19) = false → R (false)))) ∧
              (((v14 : Int) == v19) = false → R (false)))) ∧
             (((v10 : Int) == v19) = false → R (false)))))))))) ∧
           (decide (((NOp.den .sLen x0 0) : Int) ≤ 20) = false → R (true)))) ∧
          (decide ((x4 : Int) ≤ 66) = false → R (true)))) ∧
         (decide ((64 : Int) ≤ x4) = false → R (true)))))) ∧
       (decide ((x3 : Int) ≤ 66) = false → R (true)))) ∧
      (decide ((64 : Int) ≤ x3) = false → R (true)))))) ∧
    (decide ((x2 : Int) ≤ 12) = false → ((decide ((64 : Int) ≤ x2) = true → ((decide ((x2 : Int) ≤ 66) = true → ((decide ((x3 : Int) ≤ 12) = true → ((decide ((x4 : Int) ≤ 12) = true → ((decide (((NOp.den .sLen x0 0) : Int) ≤ 20) = true → (∃ v8 : Int, ∃ v9 : Int, ∃ v10 : Int, Spec Tryz.prog glass_At_s ⟨[x0, x1, x2, x3, x4, x5, x6, x7], [], [f0, f1, f2]⟩ [v8, v9, v10] [] [] ∧
          (∃ v11 : Int, ∃ v12 : Int, ∃ v13 : Int, ∃ v14 : Int, Spec Tryz.prog glass_Permittivity_s ⟨[x0, x1, x2, x3, x4, x5, x6, x7], [], [f0, f1, f2]⟩ [v11, v12, v13, v14] [] [] ∧
          (∃ v15 : Int, ∃ v16 : Int, ∃ v17 : Int, Spec Tryz.prog glass_GroupIndex_s ⟨[x0, x1, x2, x3, x4, x5, x6, x7], [], [f0, f1, f2]⟩ [v15, v16, v17] [] [] ∧
          (∃ v18 : Int, ∃ v19 : Int, Spec Tryz.prog etalonref02_CheckGlass_s ⟨[x0, x1, x2, x3, x4, x5, x6], [], [f0, f1, f2]⟩ [v18, v19] [] [] ∧
          ((((v19 : Int) == 0) = true → (∃ v20 : Int, Spec Tryz.prog etalonref02_WaveErr_s ⟨[x0, x1, x2, x3, x4, x5, x6, x7], [], [f0, f1, f2]⟩ [v20] [] [] ∧
           ((((v20 : Int) == 0) = true → (∃ v21 : Int, ∃ v22 : Int, Spec Tryz.prog etalonref02_At_s ⟨[x0, x1, x2, x3, x4, x5, x6, x7], [], [f0, f1, f2]⟩ [v21, v22] [] [] ∧
            (∃ v23 : Int, ∃ v24 : Int, ∃ v25 : Int, ∃ v26 : Int, Spec Tryz.prog etalonref02_Permittivity_s ⟨[v21, v22], [], []⟩ [v23, v24, v25, v26] [] [] ∧
            (∃ v27 : Int, ∃ v28 : Int, ∃ v29 : Int, Spec Tryz.prog etalonref02_GroupIndex_s ⟨[x0, x1, x2, x3, x4, x5, x6, x7], [], [f0, f1, f2]⟩ [v27, v28, v29] [] [] ∧
            ((((v10 : Int) == 0) = true → (∃ v30 : Int, ∃ v31 : Int, Spec Tryz.prog etalonref02_At_s ⟨[x0, x1, x2, x3, x4, x5, x6, x7], [], [f0, f1, f2]⟩ [v30, v31] [] [] ∧
             ((((v8 : Int) == v30) = true → ((((v9 : Int) == v31) = true → ((((v14 : Int) == v26) = true → (((((if (0 : Int) > (v11) then 0 else v11) : Int) == ((FloatKind.f64.nearest v23 : Nat) : Int)) = true → (((((if (0 : Int) > (v12) then 0 else v12) : Int) == ((FloatKind.f64.nearest v24 : Nat) : Int)) = true → ((((v13 : Int) == v25) = true → ((((v17 : Int) == v29) = true → R ((((v15 : Int) == v27) && ((v16 : Int) == v28)))) ∧
                   (((v17 : Int) == v29) = false → R (false)))) ∧
                  (((v13 : Int) == v25) = false → R (false)))) ∧
                 ((((if (0 : Int) > (v12) then 0 else v12) : Int) == ((FloatKind.f64.nearest v24 : Nat) : Int)) = false → R (false)))) ∧
                ((((if (0 : Int) > (v11) then 0 else v11) : Int) == ((FloatKind.f64.nearest v23 : Nat) : Int)) = false → R (false)))) ∧
               (((v14 : Int) == v26) = false → R (false)))) ∧
              (((v9 : Int) == v31) = false → R (false)))) ∧
             (((v8 : Int) == v30) = false → R (false))))) ∧
            (((v10 : Int) == 0) = false → R (false))))))) ∧
           (((v20 : Int) == 0) = false → ((((v10 : Int) == v20) = true → ((((v14 : Int) == v20) = true → ((((v17 : Int) == v20) = true → ((((v8 : Int) == 0) = true → ((((v9 : Int) == 0) = true → (((((if (0 : Int) > (v11) then 0 else v11) : Int) == 0) = true → (((((if (0 : Int) > (v12) then 0 else v12) : Int) == 0) = true → ((((v13 : Int) == 0) = true → R ((((v15 : Int) == 0) && ((v16 : Int) == 0)))) ∧
                   (((v13 : Int) == 0) = false → R (false)))) ∧
                  ((((if (0 : Int) > (v12) then 0 else v12) : Int) == 0) = false → R (false)))) ∧
                 ((((if (0 : Int) > (v11) then 0 else v11) : Int) == 0) = false → R (false)))) ∧
                (((v9 : Int) == 0) = false → R (false)))) ∧
               (((v8 : Int) == 0) = false → R (false)))) ∧
              (((v17 : Int) == v20) = false → R (false)))) ∧
             (((v14 : Int) == v20) = false → R (false)))) ∧
            (((v10 : Int) == v20) = false → R (false))))))) ∧
          (((v19 : Int) == 0) = false → ((((v10 : Int) == v19) = true → ((((v14 : Int) == v19) = true → ((((v17 : Int) == v19) = true → ((((v8 : Int) == 0) = true → ((((v9 : Int) == 0) = true → (((((if (0 : Int) > (v11) then 0 else v11) : Int) == 0) = true → (((((if (0 : Int) > (v12) then 0 else v12) : Int) == 0) = true → ((((v13 : Int) == 0) = true → R ((((v15 : Int) == 0) && ((v16 : Int) == 0)))) ∧
                  (((v13 : Int) == 0) = false → R (false)))) ∧
                 ((((if (0 : Int) > (v12) then 0 else v12) : Int) == 0) = false → R (false)))) ∧
                ((((if (0 : Int) > (v11) then 0 else v11) : Int) == 0) = false → R (false)))) ∧
               (((v9 : Int) == 0) = false → R (false)))) ∧
              (((v8 : Int) == 0) = false → R (false)))) ∧
             (((v17 : Int) == v19) = false → R (false)))) ∧
            (((v14 : Int) == v19) = false → R (false)))) ∧
           (((v10 : Int) == v19) = false → R (false)))))))))) ∧
         (decide (((NOp.den .sLen x0 0) : Int) ≤ 20) = false → R (true)))) ∧
        (decide ((x4 : Int) ≤ 12) = false → ((decide ((64 : Int) ≤ x4) = true → ((decide ((x4 : Int) ≤ 66) = true → ((decide (((NOp.den .sLen x0 0) : Int) ≤ 20) = true → (∃ v8 : Int, ∃ v9 : Int, ∃ v10 : Int, Spec Tryz.prog glass_At_s ⟨[x0, x1, x2, x3, x4, x5, x6, x7], [], [f0, f1, f2]⟩ [v8, v9, v10] [] [] ∧
            (∃ v11 : Int, ∃ v12 : Int, ∃ v13 : Int, ∃ v14 : Int, Spec Tryz.prog glass_Permittivity_s ⟨[x0, x1, x2, x3, x4, x5, x6, x7], [], [f0, f1, f2]⟩ [v11, v12, v13, v14] [] [] ∧
            (∃ v15 : Int, ∃ v16 : Int, ∃ v17 : Int, Spec Tryz.prog glass_GroupIndex_s ⟨[x0, x1, x2, x3, x4, x5, x6, x7], [], [f0, f1, f2]⟩ [v15, v16, v17] [] [] ∧
            (∃ v18 : Int, ∃ v19 : Int, Spec Tryz.prog etalonref02_CheckGlass_s ⟨[x0, x1, x2, x3, x4, x5, x6], [], [f0, f1, f2]⟩ [v18, v19] [] [] ∧
            ((((v19 : Int) == 0) = true → (∃ v20 : Int, Spec Tryz.prog etalonref02_WaveErr_s ⟨[x0, x1, x2, x3, x4, x5, x6, x7], [], [f0, f1, f2]⟩ [v20] [] [] ∧
             ((((v20 : Int) == 0) = true → (∃ v21 : Int, ∃ v22 : Int, Spec Tryz.prog etalonref02_At_s ⟨[x0, x1, x2, x3, x4, x5, x6, x7], [], [f0, f1, f2]⟩ [v21, v22] [] [] ∧
              (∃ v23 : Int, ∃ v24 : Int, ∃ v25 : Int, ∃ v26 : Int, Spec Tryz.prog etalonref02_Permittivity_s ⟨[v21, v22], [], []⟩ [v23, v24, v25, v26] [] [] ∧
              (∃ v27 : Int, ∃ v28 : Int, ∃ v29 : Int, Spec Tryz.prog etalonref02_GroupIndex_s ⟨[x0, x1, x2, x3, x4, x5, x6, x7], [], [f0, f1, f2]⟩ [v27, v28, v29] [] [] ∧
              ((((v10 : Int) == 0) = true → (∃ v30 : Int, ∃ v31 : Int, Spec Tryz.prog etalonref02_At_s ⟨[x0, x1, x2, x3, x4, x5, x6, x7], [], [f0, f1, f2]⟩ [v30, v31] [] [] ∧
               ((((v8 : Int) == v30) = true → ((((v9 : Int) == v31) = true → ((((v14 : Int) == v26) = true → (((((if (0 : Int) > (v11) then 0 else v11) : Int) == ((FloatKind.f64.nearest v23 : Nat) : Int)) = true → (((((if (0 : Int) > (v12) then 0 else v12) : Int) == ((FloatKind.f64.nearest v24 : Nat) : Int)) = true → ((((v13 : Int) == v25) = true → ((((v17 : Int) == v29) = true → R ((((v15 : Int) == v27) && ((v16 : Int) == v28)))) ∧
                     (((v17 : Int) == v29) = false → R (false)))) ∧
                    (((v13 : Int) == v25) = false → R (false)))) ∧
                   ((((if (0 : Int) > (v12) then 0 else v12) : Int) == ((FloatKind.f64.nearest v24 : Nat) : Int)) = false → R (false)))) ∧
                  ((((if (0 : Int) > (v11) then 0 else v11) : Int) == ((FloatKind.f64.nearest v23 : Nat) : Int)) = false → R (false)))) ∧
                 (((v14 : Int) == v26) = false → R (false)))) ∧
                (((v9 : Int) == v31) = false → R (false)))) ∧
               (((v8 : Int) == v30) = false → R (false))))) ∧
              (((v10 : Int) == 0) = false → R (false))))))) ∧
             (((v20 : Int) == 0) = false → ((((v10 : Int) == v20) = true → ((((v14 : Int) == v20) = true → ((((v17 : Int) == v20) = true → ((((v8 : Int) == 0) = true → ((((v9 : Int) == 0) = true → (((((if (0 : Int) > (v11) then 0 else v11) : Int) == 0) = true → (((((if (0 : Int) > (v12) then 0 else v12) : Int) == 0) = true → ((((v13 : Int) == 0) = true → R ((((v15 : Int) == 0) && ((v16 : Int) == 0)))) ∧
                     (((v13 : Int) == 0) = false → R (false)))) ∧
                    ((((if (0 : Int) > (v12) then 0 else v12) : Int) == 0) = false → R (false)))) ∧
                   ((((if (0 : Int) > (v11) then 0 else v11) : Int) == 0) = false → R (false)))) ∧
                  (((v9 : Int) == 0) = false → R (false)))) ∧
                 (((v8 : Int) == 0) = false → R (false)))) ∧
                (((v17 : Int) == v20) = false → R (false)))) ∧
               (((v14 : Int) == v20) = false → R (false)))) ∧
              (((v10 : Int) == v20) = false → R (false))))))) ∧
            (((v19 : Int) == 0) = false → ((((v10 : Int) == v19) = true → ((((v14 : Int) == v19) = true → ((((v17 : Int) == v19) = true → ((((v8 : Int) == 0) = true → ((((v9 : Int) == 0) = true → (((((if (0 : Int) > (v11) then 0 else v11) : Int) == 0) = true → (((((if (0 : Int) > (v12) then 0 else v12) : Int) == 0) = true → ((((v13 : Int) == 0) = true → R ((((v15 : Int) == 0) && ((v16 : Int) == 0)))) ∧
                    (((v13 : Int) == 0) = false → R (false)))) ∧
                   ((((if (0 : Int) > (v12) then 0 else v12) : Int) == 0) = false → R (false)))) ∧
                  ((((if (0 : Int) > (v11) then 0 else v11) : Int) == 0) = false → R (false)))) ∧
                 (((v9 : Int) == 0) = false → R (false)))) ∧
                (((v8 : Int) == 0) = false → R (false)))) ∧
               (((v17 : Int) == v19) = false → R (false)))) ∧
              (((v14 : Int) == v19) = false → R (false)))) ∧
             (((v10 : Int) == v19) = false → R (false)))))))))) ∧
           (decide (((NOp.den .sLen x0 0) : Int) ≤ 20) = false → R (true)))) ∧
          (decide ((x4 : Int) ≤ 66) = false → R (true)))) ∧
         (decide ((64 : Int) ≤ x4) = false → R (true)))))) ∧
       (decide ((x3 : Int) ≤ 12) = false → ((decide ((64 : Int) ≤ x3) = true → ((decide ((x3 : Int) ≤ 66) = true → ((decide ((x4 : Int) ≤ 12) = true → ((decide (((NOp.den .sLen x0 0) : Int) ≤ 20) = true → (∃ v8 : Int, ∃ v9 : Int, ∃ v10 : Int, Spec Tryz.prog glass_At_s ⟨[x0, x1, x2, x3, x4, x5, x6, x7], [], [f0, f1, f2]⟩ [v8, v9, v10] [] [] ∧
            (∃ v11 : Int, ∃ v12 : Int, ∃ v13 : Int, ∃ v14 : Int, Spec Tryz.prog glass_Permittivity_s ⟨[x0, x1, x2, x3, x4, x5, x6, x7], [], [f0, f1, f2]⟩ [v11, v12, v13, v14] [] [] ∧
            (∃ v15 : Int, ∃ v16 : Int, ∃ v17 : Int, Spec Tryz.prog glass_GroupIndex_s ⟨[x0, x1, x2, x3, x4, x5, x6, x7], [], [f0, f1, f2]⟩ [v15, v16, v17] [] [] ∧
            (∃ v18 : Int, ∃ v19 : Int, Spec Tryz.prog etalonref02_CheckGlass_s ⟨[x0, x1, x2, x3, x4, x5, x6], [], [f0, f1, f2]⟩ [v18, v19] [] [] ∧
            ((((v19 : Int) == 0) = true → (∃ v20 : Int, Spec Tryz.prog etalonref02_WaveErr_s ⟨[x0, x1, x2, x3, x4, x5, x6, x7], [], [f0, f1, f2]⟩ [v20] [] [] ∧
             ((((v20 : Int) == 0) = true → (∃ v21 : Int, ∃ v22 : Int, Spec Tryz.prog etalonref02_At_s ⟨[x0, x1, x2, x3, x4, x5, x6, x7], [], [f0, f1, f2]⟩ [v21, v22] [] [] ∧
              (∃ v23 : Int, ∃ v24 : Int, ∃ v25 : Int, ∃ v26 : Int, Spec Tryz.prog etalonref02_Permittivity_s ⟨[v21, v22], [], []⟩ [v23, v24, v25, v26] [] [] ∧
              (∃ v27 : Int, ∃ v28 : Int, ∃ v29 : Int, Spec Tryz.prog etalonref02_GroupIndex_s ⟨[x0, x1, x2, x3, x4, x5, x6, x7], [], [f0, f1, f2]⟩ [v27, v28, v29] [] [] ∧
              ((((v10 : Int) == 0) = true → (∃ v30 : Int, ∃ v31 : Int, Spec Tryz.prog etalonref02_At_s ⟨[x0, x1, x2, x3, x4, x5, x6, x7], [], [f0, f1, f2]⟩ [v30, v31] [] [] ∧
               ((((v8 : Int) == v30) = true → ((((v9 : Int) == v31) = true → ((((v14 : Int) == v26) = true → (((((if (0 : Int) > (v11) then 0 else v11) : Int) == ((FloatKind.f64.nearest v23 : Nat) : Int)) = true → (((((if (0 : Int) > (v12) then 0 else v12) : Int) == ((FloatKind.f64.nearest v24 : Nat) : Int)) = true → ((((v13 : Int) == v25) = true → ((((v17 : Int) == v29) = true → R ((((v15 : Int) == v27) && ((v16 : Int) == v28)))) ∧
                     (((v17 : Int) == v29) = false → R (false)))) ∧
                    (((v13 : Int) == v25) = false → R (false)))) ∧
                   ((((if (0 : Int) > (v12) then 0 else v12) : Int) == ((FloatKind.f64.nearest v24 : Nat) : Int)) = false → R (false)))) ∧
                  ((((if (0 : Int) > (v11) then 0 else v11) : Int) == ((FloatKind.f64.nearest v23 : Nat) : Int)) = false → R (false)))) ∧
                 (((v14 : Int) == v26) = false → R (false)))) ∧
                (((v9 : Int) == v31) = false → R (false)))) ∧
               (((v8 : Int) == v30) = false → R (false))))) ∧
              (((v10 : Int) == 0) = false → R (false))))))) ∧
             (((v20 : Int) == 0) = false → ((((v10 : Int) == v20) = true → ((((v14 : Int) == v20) = true → ((((v17 : Int) == v20) = true → ((((v8 : Int) == 0) = true → ((((v9 : Int) == 0) = true → (((((if (0 : Int) > (v11) then 0 else v11) : Int) == 0) = true → (((((if (0 : Int) > (v12) then 0 else v12) : Int) == 0) = true → ((((v13 : Int) == 0) = true → R ((((v15 : Int) == 0) && ((v16 : Int) == 0)))) ∧
                     (((v13 : Int) == 0) = false → R (false)))) ∧
                    ((((if (0 : Int) > (v12) then 0 else v12) : Int) == 0) = false → R (false)))) ∧
                   ((((if (0 : Int) > (v11) then 0 else v11) : Int) == 0) = false → R (false)))) ∧
                  (((v9 : Int) == 0) = false → R (false)))) ∧
                 (((v8 : Int) == 0) = false → R (false)))) ∧
                (((v17 : Int) == v20) = false → R (false)))) ∧
               (((v14 : Int) == v20) = false → R (false)))) ∧
              (((v10 : Int) == v20) = false → R (false))))))) ∧
            (((v19 : Int) == 0) = false → ((((v10 : Int) == v19) = true → ((((v14 : Int) == v19) = true → ((((v17 : Int) == v19) = true → ((((v8 : Int) == 0) = true → ((((v9 : Int) == 0) = true → (((((if (0 : Int) > (v11) then 0 else v11) : Int) == 0) = true → (((((if (0 : Int) > (v12) then 0 else v12) : Int) == 0) = true → ((((v13 : Int) == 0) = true → R ((((v15 : Int) == 0) && ((v16 : Int) == 0)))) ∧
                    (((v13 : Int) == 0) = false → R (false)))) ∧
                   ((((if (0 : Int) > (v12) then 0 else v12) : Int) == 0) = false → R (false)))) ∧
                  ((((if (0 : Int) > (v11) then 0 else v11) : Int) == 0) = false → R (false)))) ∧
                 (((v9 : Int) == 0) = false → R (false)))) ∧
                (((v8 : Int) == 0) = false → R (false)))) ∧
               (((v17 : Int) == v19) = false → R (false)))) ∧
              (((v14 : Int) == v19) = false → R (false)))) ∧
             (((v10 : Int) == v19) = false → R (false)))))))))) ∧
           (decide (((NOp.den .sLen x0 0) : Int) ≤ 20) = false → R (true)))) ∧
          (decide ((x4 : Int) ≤ 12) = false → ((decide ((64 : Int) ≤ x4) = true → ((decide ((x4 : Int) ≤ 66) = true → ((decide (((NOp.den .sLen x0 0) : Int) ≤ 20) = true → (∃ v8 : Int, ∃ v9 : Int, ∃ v10 : Int, Spec Tryz.prog glass_At_s ⟨[x0, x1, x2, x3, x4, x5, x6, x7], [], [f0, f1, f2]⟩ [v8, v9, v10] [] [] ∧
              (∃ v11 : Int, ∃ v12 : Int, ∃ v13 : Int, ∃ v14 : Int, Spec Tryz.prog glass_Permittivity_s ⟨[x0, x1, x2, x3, x4, x5, x6, x7], [], [f0, f1, f2]⟩ [v11, v12, v13, v14] [] [] ∧
              (∃ v15 : Int, ∃ v16 : Int, ∃ v17 : Int, Spec Tryz.prog glass_GroupIndex_s ⟨[x0, x1, x2, x3, x4, x5, x6, x7], [], [f0, f1, f2]⟩ [v15, v16, v17] [] [] ∧
              (∃ v18 : Int, ∃ v19 : Int, Spec Tryz.prog etalonref02_CheckGlass_s ⟨[x0, x1, x2, x3, x4, x5, x6], [], [f0, f1, f2]⟩ [v18, v19] [] [] ∧
              ((((v19 : Int) == 0) = true → (∃ v20 : Int, Spec Tryz.prog etalonref02_WaveErr_s ⟨[x0, x1, x2, x3, x4, x5, x6, x7], [], [f0, f1, f2]⟩ [v20] [] [] ∧
               ((((v20 : Int) == 0) = true → (∃ v21 : Int, ∃ v22 : Int, Spec Tryz.prog etalonref02_At_s ⟨[x0, x1, x2, x3, x4, x5, x6, x7], [], [f0, f1, f2]⟩ [v21, v22] [] [] ∧
                (∃ v23 : Int, ∃ v24 : Int, ∃ v25 : Int, ∃ v26 : Int, Spec Tryz.prog etalonref02_Permittivity_s ⟨[v21, v22], [], []⟩ [v23, v24, v25, v26] [] [] ∧
                (∃ v27 : Int, ∃ v28 : Int, ∃ v29 : Int, Spec Tryz.prog etalonref02_GroupIndex_s ⟨[x0, x1, x2, x3, x4, x5, x6, x7], [], [f0, f1, f2]⟩ [v27, v28, v29] [] [] ∧
                ((((v10 : Int) == 0) = true → (∃ v30 : Int, ∃ v31 : Int, Spec Tryz.prog etalonref02_At_s ⟨[x0, x1, x2, x3, x4, x5, x6, x7], [], [f0, f1, f2]⟩ [v30, v31] [] [] ∧
                 ((((v8 : Int) == v30) = true → ((((v9 : Int) == v31) = true → ((((v14 : Int) == v26) = true → (((((if (0 : Int) > (v11) then 0 else v11) : Int) == ((FloatKind.f64.nearest v23 : Nat) : Int)) = true → (((((if (0 : Int) > (v12) then 0 else v12) : Int) == ((FloatKind.f64.nearest v24 : Nat) : Int)) = true → ((((v13 : Int) == v25) = true → ((((v17 : Int) == v29) = true → R ((((v15 : Int) == v27) && ((v16 : Int) == v28)))) ∧
                       (((v17 : Int) == v29) = false → R (false)))) ∧
                      (((v13 : Int) == v25) = false → R (false)))) ∧
                     ((((if (0 : Int) > (v12) then 0 else v12) : Int) == ((FloatKind.f64.nearest v24 : Nat) : Int)) = false → R (false)))) ∧
                    ((((if (0 : Int) > (v11) then 0 else v11) : Int) == ((FloatKind.f64.nearest v23 : Nat) : Int)) = false → R (false)))) ∧
                   (((v14 : Int) == v26) = false → R (false)))) ∧
                  (((v9 : Int) == v31) = false → R (false)))) ∧
                 (((v8 : Int) == v30) = false → R (false))))) ∧
                (((v10 : Int) == 0) = false → R (false))))))) ∧
               (((v20 : Int) == 0) = false → ((((v10 : Int) == v20) = true → ((((v14 : Int) == v20) = true → ((((v17 : Int) == v20) = true → ((((v8 : Int) == 0) = true → ((((v9 : Int) == 0) = true → (((((if (0 : Int) > (v11) then 0 else v11) : Int) == 0) = true → (((((if (0 : Int) > (v12) then 0 else v12) : Int) == 0) = true → ((((v13 : Int) == 0) = true → R ((((v15 : Int) == 0) && ((v16 : Int) == 0)))) ∧
                       (((v13 : Int) == 0) = false → R (false)))) ∧
                      ((((if (0 : Int) > (v12) then 0 else v12) : Int) == 0) = false → R (false)))) ∧
                     ((((if (0 : Int) > (v11) then 0 else v11) : Int) == 0) = false → R (false)))) ∧
                    (((v9 : Int) == 0) = false → R (false)))) ∧
                   (((v8 : Int) == 0) = false → R (false)))) ∧
                  (((v17 : Int) == v20) = false → R (false)))) ∧
                 (((v14 : Int) == v20) = false → R (false)))) ∧
                (((v10 : Int) == v20) = false → R (false))))))) ∧
              (((v19 : Int) == 0) = false → ((((v10 : Int) == v19) = true → ((((v14 : Int) == v19) = true → ((((v17 : Int) == v19) = true → ((((v8 : Int) == 0) = true → ((((v9 : Int) == 0) = true → (((((if (0 : Int) > (v11) then 0 else v11) : Int) == 0) = true → (((((if (0 : Int) > (v12) then 0 else v12) : Int) == 0) = true → ((((v13 : Int) == 0) = true → R ((((v15 : Int) == 0) && ((v16 : Int) == 0)))) ∧
                      (((v13 : Int) == 0) = false → R (false)))) ∧
                     ((((if (0 : Int) > (v12) then 0 else v12) : Int) == 0) = false → R (false)))) ∧
                    ((((if (0 : Int) > (v11) then 0 else v11) : Int) == 0) = false → R (false)))) ∧
                   (((v9 : Int) == 0) = false → R (false)))) ∧
                  (((v8 : Int) == 0) = false → R (false)))) ∧
                 (((v17 : Int) == v19) = false → R (false)))) ∧
                (((v14 : Int) == v19) = false → R (false)))) ∧
               (((v10 : Int) == v19) = false → R (false)))))))))) ∧
             (decide (((NOp.den .sLen x0 0) : Int) ≤ 20) = false → R (true)))) ∧
            (decide ((x4 : Int) ≤ 66) = false → R (true)))) ∧
           (decide ((64 : Int) ≤ x4) = false → R (true)))))) ∧
         (decide ((x3 : Int) ≤ 66) = false → R (true)))) ∧
        (decide ((64 : Int) ≤ x3) = false → R (true)))))) ∧
      (decide ((x2 : Int) ≤ 66) = false → R (true)))) ∧
     (decide ((64 : Int) ≤ x2) = false → R (true)))))) ∧
   (u0 = false → R (false))))) :
    ∃ u0 : Bool, R u0 ∧ Spec Tryz.prog etalonlaw02_GlassIndices_s ⟨[x0, x1, x2, x3, x4, x5, x6, x7], [], [f0, f1, f2]⟩ [] [u0] [] :=
  Eq.mp (by kernel_rfl) (exV_of (K := fun d => app3 etalonlaw02_GlassIndices_s.out R d ∧ Spec Tryz.prog etalonlaw02_GlassIndices_s ⟨[x0, x1, x2, x3, x4, x5, x6, x7], [], [f0, f1, f2]⟩ d.1 d.2.1 d.2.2) (tree_at mixed names S2_ok (S := S2 Tryz.prog) (lf := 100000) (d := 60) etalonlaw02_GlassIndices_s gix_t { ivs := [(1, (-9223372036854775808), 9223372036854775807), (2, 0, 9223372036854775807), (3, 0, 9223372036854775807), (4, 0, 9223372036854775807), (5, (-9223372036854775808), 9223372036854775807), (6, (-9223372036854775808), 9223372036854775807), (7, (-9223372036854775808), 9223372036854775807)], aivs := [(0, (-9223372036854775808), 9223372036854775807)] } ⟨[x0, x1, x2, x3, x4, x5, x6, x7], [], [f0, f1, f2]⟩ rfl (by kernel_rfl) (by kernel_rfl) (chk_split _ [true, true, true, false] gix_p0 (chk_split _ [true, true, false, true, true, false] gix_p1 (chk_split _ [true, true, false] gix_p2 (chk_split _ [true, false, true, true, true, false] gix_p3 (chk_split _ [true, false, true, true, false, true, true, false] gix_p4 (chk_split _ [true, false, true, true, false] gix_p5 (chk_split _ [true, false] gix_p6 gix_p7))))))) ⟨(fc r1 (fc r2 (fc r3 (fc r4 (fc r5 (fc r6 (fc r7 fz))))))), fz, (fc s0 fz), fz⟩ (R := fun d => app3 etalonlaw02_GlassIndices_s.out R d) (Eq.mp (by kernel_rfl) H)))

section

variable {x0 x1 x2 x3 x4 x5 x6 x7 : Int} {f0 f1 f2 : Int → Int}

theorem perm_bad {d : Int} (hd : d ≠ 0) (hat : Spec Tryz.prog glass_At_s ⟨[x0, x1, x2, x3, x4, x5, x6, x7], [], [f0, f1, f2]⟩ [0, 0, d] [] []) (r1 : (-9223372036854775808) ≤ x1 ∧ x1 ≤ 9223372036854775807) (r2 : 0 ≤ x2 ∧ x2 ≤ 140737488355328) (r3 : 0 ≤ x3 ∧ x3 ≤ 140737488355328) (r4 : 0 ≤ x4 ∧ x4 ≤ 140737488355328) (r5 : (-9223372036854775808) ≤ x5 ∧ x5 ≤ 9223372036854775807) (r6 : (-9223372036854775808) ≤ x6 ∧ x6 ≤ 9223372036854775807) (r7 : (-9223372036854775808) ≤ x7 ∧ x7 ≤ 9223372036854775807) (s0 : ∀ q, (-9223372036854775808) ≤ f0 q ∧ f0 q ≤ 9223372036854775807) :

    Spec Tryz.prog glass_Permittivity_s ⟨[x0, x1, x2, x3, x4, x5, x6, x7], [], [f0, f1, f2]⟩ [0, 0, 0, d] [] [] := by

  obtain ⟨_, _, _, _, ⟨rfl, rfl, rfl, rfl⟩, hs⟩ := per0 (x0 := x0) (x7 := x7) (f1 := f1) (f2 := f2) r1 r2 r3 r4 r5 r6 r7 s0 (R := fun v0 v1 v2 v3 => v0 = 0 ∧ v1 = 0 ∧ v2 = 0 ∧ v3 = d) (by

    refine ⟨_, _, _, hat, by decide, by decide, fun g => absurd (by simpa using g) hd, fun _ => ⟨rfl, rfl, rfl, rfl⟩⟩)

  exact hs

theorem group_bad {u : Bool} (hu : Spec Tryz.prog text_IsName_s ⟨[x0], [], []⟩ [] [u] []) (hE : gwE (glE u x1 x2 x3 x4 x5 x6 f0 f1 f2).2 (wvE x1 x2 f0 x7) ≠ 0) (r1 : (-9223372036854775808) ≤ x1 ∧ x1 ≤ 9223372036854775807) (r2 : 0 ≤ x2 ∧ x2 ≤ 140737488355328) (r3 : 0 ≤ x3 ∧ x3 ≤ 140737488355328) (r4 : 0 ≤ x4 ∧ x4 ≤ 140737488355328) (r5 : (-9223372036854775808) ≤ x5 ∧ x5 ≤ 9223372036854775807) (r6 : (-9223372036854775808) ≤ x6 ∧ x6 ≤ 9223372036854775807) (r7 : (-9223372036854775808) ≤ x7 ∧ x7 ≤ 9223372036854775807) (s0 : ∀ q, (-9223372036854775808) ≤ f0 q ∧ f0 q ≤ 9223372036854775807) :

    Spec Tryz.prog glass_GroupIndex_s ⟨[x0, x1, x2, x3, x4, x5, x6, x7], [], [f0, f1, f2]⟩ [0, 0, gwE (glE u x1 x2 x3 x4 x5 x6 f0 f1 f2).2 (wvE x1 x2 f0 x7)] [] [] := by

  have hc := checkGlass_p (f1 := f1) (f2 := f2) hu r1 r2 r3 r4 r5 r6 s0

  have hk : (glE u x1 x2 x3 x4 x5 x6 f0 f1 f2).2 = 0 → (x1 = 1 ∨ x1 = 2) ∧ (x1 = 1 → 1 ≤ x2) := fun h => ⟨kind_ok h, fun g => by subst g; exact (tab_ok r2.1 h).2.2.one⟩

  obtain ⟨v, hv⟩ : ∃ v, v = (glE u x1 x2 x3 x4 x5 x6 f0 f1 f2).2 := ⟨_, rfl⟩

  rw [← hv] at hc hE hk ⊢

  obtain ⟨a, l, d, ⟨rfl, rfl, rfl⟩, hs⟩ := gin0 (x0 := x0) (x1 := x1) (x2 := x2) (x3 := x3) (x4 := x4) (x5 := x5) (x6 := x6) (x7 := x7) (f1 := f1) (f2 := f2) r1 r2 r3 r4 r5 r6 r7 s0 (R := fun a l d => a = 0 ∧ l = 0 ∧ d = gwE v (wvE x1 x2 f0 x7)) (by

    refine ⟨_, _, hc, ?_⟩

    simp only [decide_eq_true_eq, decide_eq_false_iff_not, beq_iff_eq, beq_eq_false_iff_ne, ne_eq]

    have key (h : v = 0) : wvE x1 x2 f0 x7 ≠ 0 := fun g => hE (by unfold gwE; rw [if_pos h, g])

    unfold gwE

    refine ⟨fun hv0 => ?_, fun hv0 => by rw [if_neg hv0]; exact ⟨by trivial, by trivial, by trivial⟩⟩

    obtain ⟨k1, k2⟩ := hk hv0

    rw [if_pos hv0]

    have key := key hv0

    unfold wvE at key ⊢

    repeat' (first | (refine ⟨fun _ => ?_, fun _ => ?_⟩) | (refine ⟨?_, fun _ => ?_, fun _ => ?_⟩) | fail)

    all_goals first

      | omega

      | (exfalso; apply key; (repeat (first | rw [if_pos (by omega)] | rw [if_neg (by omega)])); done)

      | ((repeat (first | rw [if_pos (by omega)] | rw [if_neg (by omega)])); exact ⟨by trivial, by trivial, by trivial⟩))

  exact hs

theorem bad_all {u : Bool} {d : Int} (hu : Spec Tryz.prog text_IsName_s ⟨[x0], [], []⟩ [] [u] []) (hd : d = gwE (glE u x1 x2 x3 x4 x5 x6 f0 f1 f2).2 (wvE x1 x2 f0 x7)) (h0 : d ≠ 0) (r1 : (-9223372036854775808) ≤ x1 ∧ x1 ≤ 9223372036854775807) (r2 : 0 ≤ x2 ∧ x2 ≤ 140737488355328) (r3 : 0 ≤ x3 ∧ x3 ≤ 140737488355328) (r4 : 0 ≤ x4 ∧ x4 ≤ 140737488355328) (r5 : (-9223372036854775808) ≤ x5 ∧ x5 ≤ 9223372036854775807) (r6 : (-9223372036854775808) ≤ x6 ∧ x6 ≤ 9223372036854775807) (r7 : (-9223372036854775808) ≤ x7 ∧ x7 ≤ 9223372036854775807) (s0 : ∀ q, (-9223372036854775808) ≤ f0 q ∧ f0 q ≤ 9223372036854775807) :

    Spec Tryz.prog glass_At_s ⟨[x0, x1, x2, x3, x4, x5, x6, x7], [], [f0, f1, f2]⟩ [0, 0, d] [] [] ∧ Spec Tryz.prog glass_Permittivity_s ⟨[x0, x1, x2, x3, x4, x5, x6, x7], [], [f0, f1, f2]⟩ [0, 0, 0, d] [] [] ∧ Spec Tryz.prog glass_GroupIndex_s ⟨[x0, x1, x2, x3, x4, x5, x6, x7], [], [f0, f1, f2]⟩ [0, 0, d] [] [] := by

  have a := at_bad (x7 := x7) hu (by rw [← hd]; exact h0) r1 r2 r3 r4 r5 r6 r7 s0

  have g := group_bad (x7 := x7) hu (by rw [← hd]; exact h0) r1 r2 r3 r4 r5 r6 r7 s0

  rw [← hd] at a g

  exact ⟨a, perm_bad h0 a r1 r2 r3 r4 r5 r6 r7 s0, g⟩

end

set_option maxHeartbeats 16000000 in

theorem indices {x0 x1 x2 x3 x4 x5 x6 x7 : Int} {f0 f1 f2 : Int → Int} (r1 : (-9223372036854775808) ≤ x1 ∧ x1 ≤ 9223372036854775807) (r2 : 0 ≤ x2 ∧ x2 ≤ 9223372036854775807) (r3 : 0 ≤ x3 ∧ x3 ≤ 9223372036854775807) (r4 : 0 ≤ x4 ∧ x4 ≤ 9223372036854775807) (r5 : (-9223372036854775808) ≤ x5 ∧ x5 ≤ 9223372036854775807) (r6 : (-9223372036854775808) ≤ x6 ∧ x6 ≤ 9223372036854775807) (r7 : (-9223372036854775808) ≤ x7 ∧ x7 ≤ 9223372036854775807) (s0 : ∀ q, (-9223372036854775808) ≤ f0 q ∧ f0 q ≤ 9223372036854775807) :

    Spec Tryz.prog etalonlaw02_GlassIndices_s ⟨[x0, x1, x2, x3, x4, x5, x6, x7], [], [f0, f1, f2]⟩ [] [true] [] := by

  obtain ⟨a0, rfl, ha⟩ := awake

  obtain ⟨u, _, hp, hr⟩ := isName_s x0

  obtain ⟨w, rfl, hs⟩ : ∃ u0 : Bool, u0 = true ∧ Spec Tryz.prog etalonlaw02_GlassIndices_s ⟨[x0, x1, x2, x3, x4, x5, x6, x7], [], [f0, f1, f2]⟩ [] [u0] [] := by

    have cr (h2 : x2 ≤ 140737488355328) (h3 : x3 ≤ 140737488355328) (h4 : x4 ≤ 140737488355328) := checkGlass_r (f1 := f1) (f2 := f2) hr r1 ⟨r2.1, h2⟩ ⟨r3.1, h3⟩ ⟨r4.1, h4⟩ r5 r6 s0

    by_cases hE : (glE u x1 x2 x3 x4 x5 x6 f0 f1 f2).2 = 0

    · have key (h2 : x2 ≤ 140737488355328) (h3 : x3 ≤ 140737488355328) (h4 : x4 ≤ 140737488355328) := at_or (f1 := f1) (f2 := f2) x7 hp hE r1 ⟨r2.1, h2⟩ ⟨r3.1, h3⟩ ⟨r4.1, h4⟩ r5 r6 r7 s0

      by_cases hW : wvE x1 x2 f0 x7 = 0

      · have grp (h2 : x2 ≤ 140737488355328) (h3 : x3 ≤ 140737488355328) (h4 : x4 ≤ 140737488355328) := group_s (f1 := f1) (f2 := f2) hp hE hW r1 ⟨r2.1, h2⟩ ⟨r3.1, h3⟩ ⟨r4.1, h4⟩ r5 r6 s0

        refine gix (x0 := x0) (f1 := f1) (f2 := f2) r1 r2 r3 r4 r5 r6 r7 s0 (R := (· = true)) ⟨true, ha, fun _ => ?_, fun h => by cases h⟩

        simp only [decide_eq_true_eq, decide_eq_false_iff_not, beq_iff_eq, beq_eq_false_iff_ne, ne_eq]

        repeat' (first | (refine ⟨fun _ => ?_, fun _ => ?_⟩) | fail)

        all_goals first

          | exact trivial

          | (obtain ⟨_, wv, o⟩ := key (by omega) (by omega) (by omega)

             rcases o with ⟨_, a, l, ba, bl, p, q⟩ | ⟨z, _⟩

             · obtain ⟨X, Y, r, e, q1, q2⟩ := perm_s ba bl p r1 ⟨r2.1, by omega⟩ ⟨r3.1, by omega⟩ ⟨r4.1, by omega⟩ r5 r6 r7 s0

               obtain ⟨lo, hi, k, g1, g2⟩ := grp (by omega) (by omega) (by omega)

               have c := cr (by omega) (by omega) (by omega)

               rw [hE] at c

               rw [hW] at wv

               have n1 : (if (0 : Int) > ((FloatKind.f64.nearest X : Nat) : Int) then 0 else ((FloatKind.f64.nearest X : Nat) : Int)) = ((FloatKind.f64.nearest X : Nat) : Int) := if_neg (by omega)

               have n2 : (if (0 : Int) > ((FloatKind.f64.nearest Y : Nat) : Int) then 0 else ((FloatKind.f64.nearest Y : Nat) : Int)) = ((FloatKind.f64.nearest Y : Nat) : Int) := if_neg (by omega)

               exact ⟨_, _, _, p, _, _, _, _, q1, _, _, _, g1, _, _, c, fun _ => ⟨_, wv, fun _ => ⟨_, _, q, _, _, _, _, q2, _, _, _, g2, fun _ => ⟨_, _, q, fun _ => ⟨fun _ => ⟨fun _ => ⟨fun _ => ⟨fun _ => ⟨fun _ => ⟨fun _ => by simp, fun g => absurd rfl g⟩, fun g => absurd rfl g⟩, fun g => absurd n2 g⟩, fun g => absurd n1 g⟩, fun g => absurd rfl g⟩, fun g => absurd rfl g⟩, fun g => absurd rfl g⟩, fun g => absurd rfl g⟩, fun g => absurd rfl g⟩, fun g => absurd rfl g⟩

             · exact absurd hW z)

      · have ev : wvE x1 x2 f0 x7 = gwE (glE u x1 x2 x3 x4 x5 x6 f0 f1 f2).2 (wvE x1 x2 f0 x7) := by unfold gwE; rw [if_pos hE]

        have bad (h2 : x2 ≤ 140737488355328) (h3 : x3 ≤ 140737488355328) (h4 : x4 ≤ 140737488355328) := bad_all (f1 := f1) (f2 := f2) hp ev hW r1 ⟨r2.1, h2⟩ ⟨r3.1, h3⟩ ⟨r4.1, h4⟩ r5 r6 r7 s0

        refine gix (x0 := x0) (f1 := f1) (f2 := f2) r1 r2 r3 r4 r5 r6 r7 s0 (R := (· = true)) ⟨true, ha, fun _ => ?_, fun h => by cases h⟩

        simp only [decide_eq_true_eq, decide_eq_false_iff_not, beq_iff_eq, beq_eq_false_iff_ne, ne_eq]

        repeat' (first | (refine ⟨fun _ => ?_, fun _ => ?_⟩) | fail)

        all_goals first

          | exact trivial

          | (obtain ⟨_, wv, _⟩ := key (by omega) (by omega) (by omega)

             obtain ⟨p, q1, g1⟩ := bad (by omega) (by omega) (by omega)

             have c := cr (by omega) (by omega) (by omega)

             rw [hE] at c

             exact ⟨_, _, _, p, _, _, _, _, q1, _, _, _, g1, _, _, c, fun _ => ⟨_, wv, fun g => absurd g hW, fun _ => ⟨fun _ => ⟨fun _ => ⟨fun _ => ⟨fun _ => ⟨fun _ => ⟨fun _ => ⟨fun _ => ⟨fun _ => by simp, fun g => absurd rfl g⟩, fun g => by simp at g⟩, fun g => by simp at g⟩, fun g => absurd rfl g⟩, fun g => absurd rfl g⟩, fun g => absurd rfl g⟩, fun g => absurd rfl g⟩, fun g => absurd rfl g⟩⟩, fun g => absurd rfl g⟩)

    · have ev : (glE u x1 x2 x3 x4 x5 x6 f0 f1 f2).2 = gwE (glE u x1 x2 x3 x4 x5 x6 f0 f1 f2).2 (wvE x1 x2 f0 x7) := by unfold gwE; rw [if_neg hE]

      have bad (h2 : x2 ≤ 140737488355328) (h3 : x3 ≤ 140737488355328) (h4 : x4 ≤ 140737488355328) := bad_all (f1 := f1) (f2 := f2) hp ev hE r1 ⟨r2.1, h2⟩ ⟨r3.1, h3⟩ ⟨r4.1, h4⟩ r5 r6 r7 s0

      refine gix (x0 := x0) (f1 := f1) (f2 := f2) r1 r2 r3 r4 r5 r6 r7 s0 (R := (· = true)) ⟨true, ha, fun _ => ?_, fun h => by cases h⟩

      simp only [decide_eq_true_eq, decide_eq_false_iff_not, beq_iff_eq, beq_eq_false_iff_ne, ne_eq]

      repeat' (first | (refine ⟨fun _ => ?_, fun _ => ?_⟩) | fail)

      all_goals first

        | exact trivial

        | (obtain ⟨p, q1, g1⟩ := bad (by omega) (by omega) (by omega)

           have c := cr (by omega) (by omega) (by omega)

           exact ⟨_, _, _, p, _, _, _, _, q1, _, _, _, g1, _, _, c, fun g => absurd g hE, fun _ => ⟨fun _ => ⟨fun _ => ⟨fun _ => ⟨fun _ => ⟨fun _ => ⟨fun _ => ⟨fun _ => ⟨fun _ => by simp, fun g => absurd rfl g⟩, fun g => by simp at g⟩, fun g => by simp at g⟩, fun g => absurd rfl g⟩, fun g => absurd rfl g⟩, fun g => absurd rfl g⟩, fun g => absurd rfl g⟩, fun g => absurd rfl g⟩⟩)

  exact hs

end Go.Proofs.YtfgdockgdbdoiaaGreat.Ev
