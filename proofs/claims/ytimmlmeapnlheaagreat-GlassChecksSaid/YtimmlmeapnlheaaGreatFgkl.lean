/- GlassChecks. -/
import Derived.Test.YtimmlmeapnlheaaGreatFgk
import Derived.Test.YtimmlmeapnlheaaGreatFaw2
namespace Go.Proofs.YtimmlmeapnlheaaGreat.Ev
set_option linter.unusedSimpArgs false
open Go Go.RowKit
set_option linter.unusedVariables false
set_option maxRecDepth 100000
def etalonlaw02_GlassChecks_s : Sig := ⟨3, ⟨7, 0, 3⟩, ⟨0, 1, 0⟩, [(.agg [(.strn (.var 0)), (.int .i64 (.var 1)), (.asl 0 (.var 2)), (.asl 1 (.var 3)), (.asl 2 (.var 4)), (.int .i64 (.var 5)), (.int .i64 (.var 6))])], [(some ⟨[], 3, true, false, (some ⟨(.var 2), [(.int .i64)], [(.avar 0)]⟩)⟩), (some ⟨[], 61, true, false, (some ⟨(.var 3), [(.float .f32)], [(.avar 1)]⟩)⟩), (some ⟨[], 61, true, false, (some ⟨(.var 4), [(.float .f32)], [(.avar 2)]⟩)⟩)], (.bool (.var 0)), []⟩

def gck_t : Tr :=
  (.call etalonlaw02_awake_s ⟨[], [], []⟩ ⟨[], [(.var 0)], []⟩ ⟨4, [], [], [none, none, none, none], (.bool (.var 0)), []⟩
  (.ite (.var 0)
  (.ite (.icmp .leq (.var 2) (.lit 12))
   (.ite (.icmp .leq (.var 3) (.lit 12))
    (.ite (.icmp .leq (.var 4) (.lit 12))
     (.ite (.icmp .leq (.bin .sLen (.var 0) (.lit 0)) (.lit 20))
      (.call glass_CheckGlass_s ⟨[(.var 0), (.var 1), (.var 2), (.var 3), (.var 4), (.var 5), (.var 6)], [], [(.avar 0), (.avar 1), (.avar 2)]⟩ ⟨[(.var 0), (.var 1), (.var 2), (.var 3), (.var 4), (.var 5), (.var 6), (.var 7), (.var 8)], [], [(.avar 0), (.avar 1), (.avar 2)]⟩ ⟨6, [(.agg [(.strn (.var 0)), (.int .i64 (.var 1)), (.asl 7 (.var 2)), (.asl 9 (.var 3)), (.asl 11 (.var 4)), (.int .i64 (.var 5)), (.int .i64 (.var 6))])], [7, 9, 11], [none, none, none, none, none, none, none, (some ⟨[], 3, false, true, (some ⟨(.var 2), [(.int .i64)], [(.avar 0)]⟩)⟩), none, (some ⟨[], 61, false, true, (some ⟨(.var 3), [(.float .f32)], [(.avar 1)]⟩)⟩), none, (some ⟨[], 61, false, true, (some ⟨(.var 4), [(.float .f32)], [(.avar 2)]⟩)⟩)], (.tuple [(.int .i64 (.var 7)), (.int .i64 (.var 8))]), []⟩
       (.call etalonref02_CheckGlass_s ⟨[(.var 0), (.var 1), (.var 2), (.var 3), (.var 4), (.var 5), (.var 6)], [], [(.avar 0), (.avar 1), (.avar 2)]⟩ ⟨[(.var 0), (.var 1), (.var 2), (.var 3), (.var 4), (.var 5), (.var 6), (.var 9), (.var 10)], [], [(.avar 0), (.avar 1), (.avar 2)]⟩ ⟨8, [(.agg [(.strn (.var 0)), (.int .i64 (.var 1)), (.asl 0 (.var 2)), (.asl 1 (.var 3)), (.asl 2 (.var 4)), (.int .i64 (.var 5)), (.int .i64 (.var 6))])], [0, 1, 2], [(some ⟨[], 3, true, false, (some ⟨(.var 2), [(.int .i64)], [(.avar 0)]⟩)⟩), (some ⟨[], 61, true, false, (some ⟨(.var 3), [(.float .f32)], [(.avar 1)]⟩)⟩), (some ⟨[], 61, true, false, (some ⟨(.var 4), [(.float .f32)], [(.avar 2)]⟩)⟩), none, none, none, none, none, none, none, none, none], (.tuple [(.int .i64 (.var 9)), (.int .i64 (.var 10))]), []⟩
       (.ite (.icmp .eql (.var 8) (.var 10))
       (.ret ⟨[], [(.icmp .eql (.var 7) (.var 9))], []⟩ [])
       (.ret ⟨[], [(.lit false)], []⟩ []))))
      (.ret ⟨[], [(.lit true)], []⟩ []))
     (.ite (.icmp .leq (.lit 64) (.var 4))
      (.ite (.icmp .leq (.var 4) (.lit 66))
       (.ite (.icmp .leq (.bin .sLen (.var 0) (.lit 0)) (.lit 20))
        (.call glass_CheckGlass_s ⟨[(.var 0), (.var 1), (.var 2), (.var 3), (.var 4), (.var 5), (.var 6)], [], [(.avar 0), (.avar 1), (.avar 2)]⟩ ⟨[(.var 0), (.var 1), (.var 2), (.var 3), (.var 4), (.var 5), (.var 6), (.var 7), (.var 8)], [], [(.avar 0), (.avar 1), (.avar 2)]⟩ ⟨6, [(.agg [(.strn (.var 0)), (.int .i64 (.var 1)), (.asl 7 (.var 2)), (.asl 9 (.var 3)), (.asl 11 (.var 4)), (.int .i64 (.var 5)), (.int .i64 (.var 6))])], [7, 9, 11], [none, none, none, none, none, none, none, (some ⟨[], 3, false, true, (some ⟨(.var 2), [(.int .i64)], [(.avar 0)]⟩)⟩), none, (some ⟨[], 61, false, true, (some ⟨(.var 3), [(.float .f32)], [(.avar 1)]⟩)⟩), none, (some ⟨[], 61, false, true, (some ⟨(.var 4), [(.float .f32)], [(.avar 2)]⟩)⟩)], (.tuple [(.int .i64 (.var 7)), (.int .i64 (.var 8))]), []⟩
         (.call etalonref02_CheckGlass_s ⟨[(.var 0), (.var 1), (.var 2), (.var 3), (.var 4), (.var 5), (.var 6)], [], [(.avar 0), (.avar 1), (.avar 2)]⟩ ⟨[(.var 0), (.var 1), (.var 2), (.var 3), (.var 4), (.var 5), (.var 6), (.var 9), (.var 10)], [], [(.avar 0), (.avar 1), (.avar 2)]⟩ ⟨8, [(.agg [(.strn (.var 0)), (.int .i64 (.var 1)), (.asl 0 (.var 2)), (.asl 1 (.var 3)), (.asl 2 (.var 4)), (.int .i64 (.var 5)), (.int .i64 (.var 6))])], [0, 1, 2], [(some ⟨[], 3, true, false, (some ⟨(.var 2), [(.int .i64)], [(.avar 0)]⟩)⟩), (some ⟨[], 61, true, false, (some ⟨(.var 3), [(.float .f32)], [(.avar 1)]⟩)⟩), (some ⟨[], 61, true, false, (some ⟨(.var 4), [(.float .f32)], [(.avar 2)]⟩)⟩), none, none, none, none, none, none, none, none, none], (.tuple [(.int .i64 (.var 9)), (.int .i64 (.var 10))]), []⟩
         (.ite (.icmp .eql (.var 8) (.var 10))
         (.ret ⟨[], [(.icmp .eql (.var 7) (.var 9))], []⟩ [])
         (.ret ⟨[], [(.lit false)], []⟩ []))))
        (.ret ⟨[], [(.lit true)], []⟩ []))
       (.ret ⟨[], [(.lit true)], []⟩ []))
      (.ret ⟨[], [(.lit true)], []⟩ [])))
    (.ite (.icmp .leq (.lit 64) (.var 3))
     (.ite (.icmp .leq (.var 3) (.lit 66))
      (.ite (.icmp .leq (.var 4) (.lit 12))
       (.ite (.icmp .leq (.bin .sLen (.var 0) (.lit 0)) (.lit 20))
        (.call glass_CheckGlass_s ⟨[(.var 0), (.var 1), (.var 2), (.var 3), (.var 4), (.var 5), (.var 6)], [], [(.avar 0), (.avar 1), (.avar 2)]⟩ ⟨[(.var 0), (.var 1), (.var 2), (.var 3), (.var 4), (.var 5), (.var 6), (.var 7), (.var 8)], [], [(.avar 0), (.avar 1), (.avar 2)]⟩ ⟨6, [(.agg [(.strn (.var 0)), (.int .i64 (.var 1)), (.asl 7 (.var 2)), (.asl 9 (.var 3)), (.asl 11 (.var 4)), (.int .i64 (.var 5)), (.int .i64 (.var 6))])], [7, 9, 11], [none, none, none, none, none, none, none, (some ⟨[], 3, false, true, (some ⟨(.var 2), [(.int .i64)], [(.avar 0)]⟩)⟩), none, (some ⟨[], 61, false, true, (some ⟨(.var 3), [(.float .f32)], [(.avar 1)]⟩)⟩), none, (some ⟨[], 61, false, true, (some ⟨(.var 4), [(.float .f32)], [(.avar 2)]⟩)⟩)], (.tuple [(.int .i64 (.var 7)), (.int .i64 (.var 8))]), []⟩
         (.call etalonref02_CheckGlass_s ⟨[(.var 0), (.var 1), (.var 2), (.var 3), (.var 4), (.var 5), (.var 6)], [], [(.avar 0), (.avar 1), (.avar 2)]⟩ ⟨[(.var 0), (.var 1), (.var 2), (.var 3), (.var 4), (.var 5), (.var 6), (.var 9), (.var 10)], [], [(.avar 0), (.avar 1), (.avar 2)]⟩ ⟨8, [(.agg [(.strn (.var 0)), (.int .i64 (.var 1)), (.asl 0 (.var 2)), (.asl 1 (.var 3)), (.asl 2 (.var 4)), (.int .i64 (.var 5)), (.int .i64 (.var 6))])], [0, 1, 2], [(some ⟨[], 3, true, false, (some ⟨(.var 2), [(.int .i64)], [(.avar 0)]⟩)⟩), (some ⟨[], 61, true, false, (some ⟨(.var 3), [(.float .f32)], [(.avar 1)]⟩)⟩), (some ⟨[], 61, true, false, (some ⟨(.var 4), [(.float .f32)], [(.avar 2)]⟩)⟩), none, none, none, none, none, none, none, none, none], (.tuple [(.int .i64 (.var 9)), (.int .i64 (.var 10))]), []⟩
         (.ite (.icmp .eql (.var 8) (.var 10))
         (.ret ⟨[], [(.icmp .eql (.var 7) (.var 9))], []⟩ [])
         (.ret ⟨[], [(.lit false)], []⟩ []))))
        (.ret ⟨[], [(.lit true)], []⟩ []))
       (.ite (.icmp .leq (.lit 64) (.var 4))
        (.ite (.icmp .leq (.var 4) (.lit 66))
         (.ite (.icmp .leq (.bin .sLen (.var 0) (.lit 0)) (.lit 20))
          (.call glass_CheckGlass_s ⟨[(.var 0), (.var 1), (.var 2), (.var 3), (.var 4), (.var 5), (.var 6)], [], [(.avar 0), (.avar 1), (.avar 2)]⟩ ⟨[(.var 0), (.var 1), (.var 2), (.var 3), (.var 4), (.var 5), (.var 6), (.var 7), (.var 8)], [], [(.avar 0), (.avar 1), (.avar 2)]⟩ ⟨6, [(.agg [(.strn (.var 0)), (.int .i64 (.var 1)), (.asl 7 (.var 2)), (.asl 9 (.var 3)), (.asl 11 (.var 4)), (.int .i64 (.var 5)), (.int .i64 (.var 6))])], [7, 9, 11], [none, none, none, none, none, none, none, (some ⟨[], 3, false, true, (some ⟨(.var 2), [(.int .i64)], [(.avar 0)]⟩)⟩), none, (some ⟨[], 61, false, true, (some ⟨(.var 3), [(.float .f32)], [(.avar 1)]⟩)⟩), none, (some ⟨[], 61, false, true, (some ⟨(.var 4), [(.float .f32)], [(.avar 2)]⟩)⟩)], (.tuple [(.int .i64 (.var 7)), (.int .i64 (.var 8))]), []⟩
           (.call etalonref02_CheckGlass_s ⟨[(.var 0), (.var 1), (.var 2), (.var 3), (.var 4), (.var 5), (.var 6)], [], [(.avar 0), (.avar 1), (.avar 2)]⟩ ⟨[(.var 0), (.var 1), (.var 2), (.var 3), (.var 4), (.var 5), (.var 6), (.var 9), (.var 10)], [], [(.avar 0), (.avar 1), (.avar 2)]⟩ ⟨8, [(.agg [(.strn (.var 0)), (.int .i64 (.var 1)), (.asl 0 (.var 2)), (.asl 1 (.var 3)), (.asl 2 (.var 4)), (.int .i64 (.var 5)), (.int .i64 (.var 6))])], [0, 1, 2], [(some ⟨[], 3, true, false, (some ⟨(.var 2), [(.int .i64)], [(.avar 0)]⟩)⟩), (some ⟨[], 61, true, false, (some ⟨(.var 3), [(.float .f32)], [(.avar 1)]⟩)⟩), (some ⟨[], 61, true, false, (some ⟨(.var 4), [(.float .f32)], [(.avar 2)]⟩)⟩), none, none, none, none, none, none, none, none, none], (.tuple [(.int .i64 (.var 9)), (.int .i64 (.var 10))]), []⟩
           (.ite (.icmp .eql (.var 8) (.var 10))
           (.ret ⟨[], [(.icmp .eql (.var 7) (.var 9))], []⟩ [])
           (.ret ⟨[], [(.lit false)], []⟩ []))))
          (.ret ⟨[], [(.lit true)], []⟩ []))
         (.ret ⟨[], [(.lit true)], []⟩ []))
        (.ret ⟨[], [(.lit true)], []⟩ [])))
      (.ret ⟨[], [(.lit true)], []⟩ []))
     (.ret ⟨[], [(.lit true)], []⟩ [])))
   (.ite (.icmp .leq (.lit 64) (.var 2))
    (.ite (.icmp .leq (.var 2) (.lit 66))
     (.ite (.icmp .leq (.var 3) (.lit 12))
      (.ite (.icmp .leq (.var 4) (.lit 12))
       (.ite (.icmp .leq (.bin .sLen (.var 0) (.lit 0)) (.lit 20))
        (.call glass_CheckGlass_s ⟨[(.var 0), (.var 1), (.var 2), (.var 3), (.var 4), (.var 5), (.var 6)], [], [(.avar 0), (.avar 1), (.avar 2)]⟩ ⟨[(.var 0), (.var 1), (.var 2), (.var 3), (.var 4), (.var 5), (.var 6), (.var 7), (.var 8)], [], [(.avar 0), (.avar 1), (.avar 2)]⟩ ⟨6, [(.agg [(.strn (.var 0)), (.int .i64 (.var 1)), (.asl 7 (.var 2)), (.asl 9 (.var 3)), (.asl 11 (.var 4)), (.int .i64 (.var 5)), (.int .i64 (.var 6))])], [7, 9, 11], [none, none, none, none, none, none, none, (some ⟨[], 3, false, true, (some ⟨(.var 2), [(.int .i64)], [(.avar 0)]⟩)⟩), none, (some ⟨[], 61, false, true, (some ⟨(.var 3), [(.float .f32)], [(.avar 1)]⟩)⟩), none, (some ⟨[], 61, false, true, (some ⟨(.var 4), [(.float .f32)], [(.avar 2)]⟩)⟩)], (.tuple [(.int .i64 (.var 7)), (.int .i64 (.var 8))]), []⟩
         (.call etalonref02_CheckGlass_s ⟨[(.var 0), (.var 1), (.var 2), (.var 3), (.var 4), (.var 5), (.var 6)], [], [(.avar 0), (.avar 1), (.avar 2)]⟩ ⟨[(.var 0), (.var 1), (.var 2), (.var 3), (.var 4), (.var 5), (.var 6), (.var 9), (.var 10)], [], [(.avar 0), (.avar 1), (.avar 2)]⟩ ⟨8, [(.agg [(.strn (.var 0)), (.int .i64 (.var 1)), (.asl 0 (.var 2)), (.asl 1 (.var 3)), (.asl 2 (.var 4)), (.int .i64 (.var 5)), (.int .i64 (.var 6))])], [0, 1, 2], [(some ⟨[], 3, true, false, (some ⟨(.var 2), [(.int .i64)], [(.avar 0)]⟩)⟩), (some ⟨[], 61, true, false, (some ⟨(.var 3), [(.float .f32)], [(.avar 1)]⟩)⟩), (some ⟨[], 61, true, false, (some ⟨(.var 4), [(.float .f32)], [(.avar 2)]⟩)⟩), none, none, none, none, none, none, none, none, none], (.tuple [(.int .i64 (.var 9)), (.int .i64 (.var 10))]), []⟩
         (.ite (.icmp .eql (.var 8) (.var 10))
         (.ret ⟨[], [(.icmp .eql (.var 7) (.var 9))], []⟩ [])
         (.ret ⟨[], [(.lit false)], []⟩ []))))
        (.ret ⟨[], [(.lit true)], []⟩ []))
       (.ite (.icmp .leq (.lit 64) (.var 4))
        (.ite (.icmp .leq (.var 4) (.lit 66))
         (.ite (.icmp .leq (.bin .sLen (.var 0) (.lit 0)) (.lit 20))
          (.call glass_CheckGlass_s ⟨[(.var 0), (.var 1), (.var 2), (.var 3), (.var 4), (.var 5), (.var 6)], [], [(.avar 0), (.avar 1), (.avar 2)]⟩ ⟨[(.var 0), (.var 1), (.var 2), (.var 3), (.var 4), (.var 5), (.var 6), (.var 7), (.var 8)], [], [(.avar 0), (.avar 1), (.avar 2)]⟩ ⟨6, [(.agg [(.strn (.var 0)), (.int .i64 (.var 1)), (.asl 7 (.var 2)), (.asl 9 (.var 3)), (.asl 11 (.var 4)), (.int .i64 (.var 5)), (.int .i64 (.var 6))])], [7, 9, 11], [none, none, none, none, none, none, none, (some ⟨[], 3, false, true, (some ⟨(.var 2), [(.int .i64)], [(.avar 0)]⟩)⟩), none, (some ⟨[], 61, false, true, (some ⟨(.var 3), [(.float .f32)], [(.avar 1)]⟩)⟩), none, (some ⟨[], 61, false, true, (some ⟨(.var 4), [(.float .f32)], [(.avar 2)]⟩)⟩)], (.tuple [(.int .i64 (.var 7)), (.int .i64 (.var 8))]), []⟩
           (.call etalonref02_CheckGlass_s ⟨[(.var 0), (.var 1), (.var 2), (.var 3), (.var 4), (.var 5), (.var 6)], [], [(.avar 0), (.avar 1), (.avar 2)]⟩ ⟨[(.var 0), (.var 1), (.var 2), (.var 3), (.var 4), (.var 5), (.var 6), (.var 9), (.var 10)], [], [(.avar 0), (.avar 1), (.avar 2)]⟩ ⟨8, [(.agg [(.strn (.var 0)), (.int .i64 (.var 1)), (.asl 0 (.var 2)), (.asl 1 (.var 3)), (.asl 2 (.var 4)), (.int .i64 (.var 5)), (.int .i64 (.var 6))])], [0, 1, 2], [(some ⟨[], 3, true, false, (some ⟨(.var 2), [(.int .i64)], [(.avar 0)]⟩)⟩), (some ⟨[], 61, true, false, (some ⟨(.var 3), [(.float .f32)], [(.avar 1)]⟩)⟩), (some ⟨[], 61, true, false, (some ⟨(.var 4), [(.float .f32)], [(.avar 2)]⟩)⟩), none, none, none, none, none, none, none, none, none], (.tuple [(.int .i64 (.var 9)), (.int .i64 (.var 10))]), []⟩
           (.ite (.icmp .eql (.var 8) (.var 10))
           (.ret ⟨[], [(.icmp .eql (.var 7) (.var 9))], []⟩ [])
           (.ret ⟨[], [(.lit false)], []⟩ []))))
          (.ret ⟨[], [(.lit true)], []⟩ []))
         (.ret ⟨[], [(.lit true)], []⟩ []))
        (.ret ⟨[], [(.lit true)], []⟩ [])))
      (.ite (.icmp .leq (.lit 64) (.var 3))
       (.ite (.icmp .leq (.var 3) (.lit 66))
        (.ite (.icmp .leq (.var 4) (.lit 12))
         (.ite (.icmp .leq (.bin .sLen (.var 0) (.lit 0)) (.lit 20))
          (.call glass_CheckGlass_s ⟨[(.var 0), (.var 1), (.var 2), (.var 3), (.var 4), (.var 5), (.var 6)], [], [(.avar 0), (.avar 1), (.avar 2)]⟩ ⟨[(.var 0), (.var 1), (.var 2), (.var 3), (.var 4), (.var 5), (.var 6), (.var 7), (.var 8)], [], [(.avar 0), (.avar 1), (.avar 2)]⟩ ⟨6, [(.agg [(.strn (.var 0)), (.int .i64 (.var 1)), (.asl 7 (.var 2)), (.asl 9 (.var 3)), (.asl 11 (.var 4)), (.int .i64 (.var 5)), (.int .i64 (.var 6))])], [7, 9, 11], [none, none, none, none, none, none, none, (some ⟨[], 3, false, true, (some ⟨(.var 2), [(.int .i64)], [(.avar 0)]⟩)⟩), none, (some ⟨[], 61, false, true, (some ⟨(.var 3), [(.float .f32)], [(.avar 1)]⟩)⟩), none, (some ⟨[], 61, false, true, (some ⟨(.var 4), [(.float .f32)], [(.avar 2)]⟩)⟩)], (.tuple [(.int .i64 (.var 7)), (.int .i64 (.var 8))]), []⟩
           (.call etalonref02_CheckGlass_s ⟨[(.var 0), (.var 1), (.var 2), (.var 3), (.var 4), (.var 5), (.var 6)], [], [(.avar 0), (.avar 1), (.avar 2)]⟩ ⟨[(.var 0), (.var 1), (.var 2), (.var 3), (.var 4), (.var 5), (.var 6), (.var 9), (.var 10)], [], [(.avar 0), (.avar 1), (.avar 2)]⟩ ⟨8, [(.agg [(.strn (.var 0)), (.int .i64 (.var 1)), (.asl 0 (.var 2)), (.asl 1 (.var 3)), (.asl 2 (.var 4)), (.int .i64 (.var 5)), (.int .i64 (.var 6))])], [0, 1, 2], [(some ⟨[], 3, true, false, (some ⟨(.var 2), [(.int .i64)], [(.avar 0)]⟩)⟩), (some ⟨[], 61, true, false, (some ⟨(.var 3), [(.float .f32)], [(.avar 1)]⟩)⟩), (some ⟨[], 61, true, false, (some ⟨(.var 4), [(.float .f32)], [(.avar 2)]⟩)⟩), none, none, none, none, none, none, none, none, none], (.tuple [(.int .i64 (.var 9)), (.int .i64 (.var 10))]), []⟩
           (.ite (.icmp .eql (.var 8) (.var 10))
           (.ret ⟨[], [(.icmp .eql (.var 7) (.var 9))], []⟩ [])
           (.ret ⟨[], [(.lit false)], []⟩ []))))
          (.ret ⟨[], [(.lit true)], []⟩ []))
         (.ite (.icmp .leq (.lit 64) (.var 4))
          (.ite (.icmp .leq (.var 4) (.lit 66))
           (.ite (.icmp .leq (.bin .sLen (.var 0) (.lit 0)) (.lit 20))
            (.call glass_CheckGlass_s ⟨[(.var 0), (.var 1), (.var 2), (.var 3), (.var 4), (.var 5), (.var 6)], [], [(.avar 0), (.avar 1), (.avar 2)]⟩ ⟨[(.var 0), (.var 1), (.var 2), (.var 3), (.var 4), (.var 5), (.var 6), (.var 7), (.var 8)], [], [(.avar 0), (.avar 1), (.avar 2)]⟩ ⟨6, [(.agg [(.strn (.var 0)), (.int .i64 (.var 1)), (.asl 7 (.var 2)), (.asl 9 (.var 3)), (.asl 11 (.var 4)), (.int .i64 (.var 5)), (.int .i64 (.var 6))])], [7, 9, 11], [none, none, none, none, none, none, none, (some ⟨[], 3, false, true, (some ⟨(.var 2), [(.int .i64)], [(.avar 0)]⟩)⟩), none, (some ⟨[], 61, false, true, (some ⟨(.var 3), [(.float .f32)], [(.avar 1)]⟩)⟩), none, (some ⟨[], 61, false, true, (some ⟨(.var 4), [(.float .f32)], [(.avar 2)]⟩)⟩)], (.tuple [(.int .i64 (.var 7)), (.int .i64 (.var 8))]), []⟩
             (.call etalonref02_CheckGlass_s ⟨[(.var 0), (.var 1), (.var 2), (.var 3), (.var 4), (.var 5), (.var 6)], [], [(.avar 0), (.avar 1), (.avar 2)]⟩ ⟨[(.var 0), (.var 1), (.var 2), (.var 3), (.var 4), (.var 5), (.var 6), (.var 9), (.var 10)], [], [(.avar 0), (.avar 1), (.avar 2)]⟩ ⟨8, [(.agg [(.strn (.var 0)), (.int .i64 (.var 1)), (.asl 0 (.var 2)), (.asl 1 (.var 3)), (.asl 2 (.var 4)), (.int .i64 (.var 5)), (.int .i64 (.var 6))])], [0, 1, 2], [(some ⟨[], 3, true, false, (some ⟨(.var 2), [(.int .i64)], [(.avar 0)]⟩)⟩), (some ⟨[], 61, true, false, (some ⟨(.var 3), [(.float .f32)], [(.avar 1)]⟩)⟩), (some ⟨[], 61, true, false, (some ⟨(.var 4), [(.float .f32)], [(.avar 2)]⟩)⟩), none, none, none, none, none, none, none, none, none], (.tuple [(.int .i64 (.var 9)), (.int .i64 (.var 10))]), []⟩
             (.ite (.icmp .eql (.var 8) (.var 10))
             (.ret ⟨[], [(.icmp .eql (.var 7) (.var 9))], []⟩ [])
             (.ret ⟨[], [(.lit false)], []⟩ []))))
            (.ret ⟨[], [(.lit true)], []⟩ []))
           (.ret ⟨[], [(.lit true)], []⟩ []))
          (.ret ⟨[], [(.lit true)], []⟩ [])))
        (.ret ⟨[], [(.lit true)], []⟩ []))
       (.ret ⟨[], [(.lit true)], []⟩ [])))
     (.ret ⟨[], [(.lit true)], []⟩ []))
    (.ret ⟨[], [(.lit true)], []⟩ [])))
  (.ret ⟨[], [(.lit false)], []⟩ [])))
theorem gck {x0 x1 x2 x3 x4 x5 x6 : Int} {f0 f1 f2 : Int → Int} (r1 : (-9223372036854775808) ≤ x1 ∧ x1 ≤ 9223372036854775807) (r2 : 0 ≤ x2 ∧ x2 ≤ 9223372036854775807) (r3 : 0 ≤ x3 ∧ x3 ≤ 9223372036854775807) (r4 : 0 ≤ x4 ∧ x4 ≤ 9223372036854775807) (r5 : (-9223372036854775808) ≤ x5 ∧ x5 ≤ 9223372036854775807) (r6 : (-9223372036854775808) ≤ x6 ∧ x6 ≤ 9223372036854775807) (s0 : ∀ q, (-9223372036854775808) ≤ f0 q ∧ f0 q ≤ 9223372036854775807) {R : Bool → Prop}
  (H : (∃ u0 : Bool, Spec Tryz.prog etalonlaw02_awake_s ⟨[], [], []⟩ [] [u0] [] ∧
   ((u0 = true → ((decide ((x2 : Int) ≤ 12) = true → ((decide ((x3 : Int) ≤ 12) = true → ((decide ((x4 : Int) ≤ 12) = true → ((decide (((NOp.den .sLen x0 0) : Int) ≤ 20) = true → (∃ v7 : Int, ∃ v8 : Int, Spec Tryz.prog glass_CheckGlass_s ⟨[x0, x1, x2, x3, x4, x5, x6], [], [f0, f1, f2]⟩ [v7, v8] [] [] ∧
        (∃ v9 : Int, ∃ v10 : Int, Spec Tryz.prog etalonref02_CheckGlass_s ⟨[x0, x1, x2, x3, x4, x5, x6], [], [f0, f1, f2]⟩ [v9, v10] [] [] ∧
        ((((v8 : Int) == v10) = true → R (((v7 : Int) == v9))) ∧
        (((v8 : Int) == v10) = false → R (false)))))) ∧
       (decide (((NOp.den .sLen x0 0) : Int) ≤ 20) = false → R (true)))) ∧
      (decide ((x4 : Int) ≤ 12) = false → ((decide ((64 : Int) ≤ x4) = true → ((decide ((x4 : Int) ≤ 66) = true → ((decide (((NOp.den .sLen x0 0) : Int) ≤ 20) = true → (∃ v7 : Int, ∃ v8 : Int, Spec Tryz.prog glass_CheckGlass_s ⟨[x0, x1, x2, x3, x4, x5, x6], [], [f0, f1, f2]⟩ [v7, v8] [] [] ∧
          (∃ v9 : Int, ∃ v10 : Int, Spec Tryz.prog etalonref02_CheckGlass_s ⟨[x0, x1, x2, x3, x4, x5, x6], [], [f0, f1, f2]⟩ [v9, v10] [] [] ∧
          ((((v8 : Int) == v10) = true → R (((v7 : Int) == v9))) ∧
          (((v8 : Int) == v10) = false → R (false)))))) ∧
         (decide (((NOp.den .sLen x0 0) : Int) ≤ 20) = false → R (true)))) ∧
        (decide ((x4 : Int) ≤ 66) = false → R (true)))) ∧
       (decide ((64 : Int) ≤ x4) = false → R (true)))))) ∧
     (decide ((x3 : Int) ≤ 12) = false → ((decide ((64 : Int) ≤ x3) = true → ((decide ((x3 : Int) ≤ 66) = true → ((decide ((x4 : Int) ≤ 12) = true → ((decide (((NOp.den .sLen x0 0) : Int) ≤ 20) = true → (∃ v7 : Int, ∃ v8 : Int, Spec Tryz.prog glass_CheckGlass_s ⟨[x0, x1, x2, x3, x4, x5, x6], [], [f0, f1, f2]⟩ [v7, v8] [] [] ∧
          (∃ v9 : Int, ∃ v10 : Int, Spec Tryz.prog etalonref02_CheckGlass_s ⟨[x0, x1, x2, x3, x4, x5, x6], [], [f0, f1, f2]⟩ [v9, v10] [] [] ∧
          ((((v8 : Int) == v10) = true → R (((v7 : Int) == v9))) ∧
          (((v8 : Int) == v10) = false → R (false)))))) ∧
         (decide (((NOp.den .sLen x0 0) : Int) ≤ 20) = false → R (true)))) ∧
        (decide ((x4 : Int) ≤ 12) = false → ((decide ((64 : Int) ≤ x4) = true → ((decide ((x4 : Int) ≤ 66) = true → ((decide (((NOp.den .sLen x0 0) : Int) ≤ 20) = true → (∃ v7 : Int, ∃ v8 : Int, Spec Tryz.prog glass_CheckGlass_s ⟨[x0, x1, x2, x3, x4, x5, x6], [], [f0, f1, f2]⟩ [v7, v8] [] [] ∧
            (∃ v9 : Int, ∃ v10 : Int, Spec Tryz.prog etalonref02_CheckGlass_s ⟨[x0, x1, x2, x3, x4, x5, x6], [], [f0, f1, f2]⟩ [v9, v10] [] [] ∧
            ((((v8 : Int) == v10) = true → R (((v7 : Int) == v9))) ∧
            (((v8 : Int) == v10) = false → R (false)))))) ∧
           (decide (((NOp.den .sLen x0 0) : Int) ≤ 20) = false → R (true)))) ∧
          (decide ((x4 : Int) ≤ 66) = false → R (true)))) ∧
         (decide ((64 : Int) ≤ x4) = false → R (true)))))) ∧
       (decide ((x3 : Int) ≤ 66) = false → R (true)))) ∧
      (decide ((64 : Int) ≤ x3) = false → R (true)))))) ∧
    (decide ((x2 : Int) ≤ 12) = false → ((decide ((64 : Int) ≤ x2) = true → ((decide ((x2 : Int) ≤ 66) = true → ((decide ((x3 : Int) ≤ 12) = true → ((decide ((x4 : Int) ≤ 12) = true → ((decide (((NOp.den .sLen x0 0) : Int) ≤ 20) = true → (∃ v7 : Int, ∃ v8 : Int, Spec Tryz.prog glass_CheckGlass_s ⟨[x0, x1, x2, x3, x4, x5, x6], [], [f0, f1, f2]⟩ [v7, v8] [] [] ∧
          (∃ v9 : Int, ∃ v10 : Int, Spec Tryz.prog etalonref02_CheckGlass_s ⟨[x0, x1, x2, x3, x4, x5, x6], [], [f0, f1, f2]⟩ [v9, v10] [] [] ∧
          ((((v8 : Int) == v10) = true → R (((v7 : Int) == v9))) ∧
          (((v8 : Int) == v10) = false → R (false)))))) ∧
         (decide (((NOp.den .sLen x0 0) : Int) ≤ 20) = false → R (true)))) ∧
        (decide ((x4 : Int) ≤ 12) = false → ((decide ((64 : Int) ≤ x4) = true → ((decide ((x4 : Int) ≤ 66) = true → ((decide (((NOp.den .sLen x0 0) : Int) ≤ 20) = true → (∃ v7 : Int, ∃ v8 : Int, Spec Tryz.prog glass_CheckGlass_s ⟨[x0, x1, x2, x3, x4, x5, x6], [], [f0, f1, f2]⟩ [v7, v8] [] [] ∧
            (∃ v9 : Int, ∃ v10 : Int, Spec Tryz.prog etalonref02_CheckGlass_s ⟨[x0, x1, x2, x3, x4, x5, x6], [], [f0, f1, f2]⟩ [v9, v10] [] [] ∧
            ((((v8 : Int) == v10) = true → R (((v7 : Int) == v9))) ∧
            (((v8 : Int) == v10) = false → R (false)))))) ∧
           (decide (((NOp.den .sLen x0 0) : Int) ≤ 20) = false → R (true)))) ∧
          (decide ((x4 : Int) ≤ 66) = false → R (true)))) ∧
         (decide ((64 : Int) ≤ x4) = false → R (true)))))) ∧
       (decide ((x3 : Int) ≤ 12) = false → ((decide ((64 : Int) ≤ x3) = true → ((decide ((x3 : Int) ≤ 66) = true → ((decide ((x4 : Int) ≤ 12) = true → ((decide (((NOp.den .sLen x0 0) : Int) ≤ 20) = true → (∃ v7 : Int, ∃ v8 : Int, Spec Tryz.prog glass_CheckGlass_s ⟨[x0, x1, x2, x3, x4, x5, x6], [], [f0, f1, f2]⟩ [v7, v8] [] [] ∧
            (∃ v9 : Int, ∃ v10 : Int, Spec Tryz.prog etalonref02_CheckGlass_s ⟨[x0, x1, x2, x3, x4, x5, x6], [], [f0, f1, f2]⟩ [v9, v10] [] [] ∧
            ((((v8 : Int) == v10) = true → R (((v7 : Int) == v9))) ∧
            (((v8 : Int) == v10) = false → R (false)))))) ∧
           (decide (((NOp.den .sLen x0 0) : Int) ≤ 20) = false → R (true)))) ∧
          (decide ((x4 : Int) ≤ 12) = false → ((decide ((64 : Int) ≤ x4) = true → ((decide ((x4 : Int) ≤ 66) = true → ((decide (((NOp.den .sLen x0 0) : Int) ≤ 20) = true → (∃ v7 : Int, ∃ v8 : Int, Spec Tryz.prog glass_CheckGlass_s ⟨[x0, x1, x2, x3, x4, x5, x6], [], [f0, f1, f2]⟩ [v7, v8] [] [] ∧
              (∃ v9 : Int, ∃ v10 : Int, Spec Tryz.prog etalonref02_CheckGlass_s ⟨[x0, x1, x2, x3, x4, x5, x6], [], [f0, f1, f2]⟩ [v9, v10] [] [] ∧
              ((((v8 : Int) == v10) = true → R (((v7 : Int) == v9))) ∧
              (((v8 : Int) == v10) = false → R (false)))))) ∧
             (decide (((NOp.den .sLen x0 0) : Int) ≤ 20) = false → R (true)))) ∧
            (decide ((x4 : Int) ≤ 66) = false → R (true)))) ∧
           (decide ((64 : Int) ≤ x4) = false → R (true)))))) ∧
         (decide ((x3 : Int) ≤ 66) = false → R (true)))) ∧
        (decide ((64 : Int) ≤ x3) = false → R (true)))))) ∧
      (decide ((x2 : Int) ≤ 66) = false → R (true)))) ∧
     (decide ((64 : Int) ≤ x2) = false → R (true)))))) ∧
   (u0 = false → R (false))))) :
    ∃ u0 : Bool, R u0 ∧ Spec Tryz.prog etalonlaw02_GlassChecks_s ⟨[x0, x1, x2, x3, x4, x5, x6], [], [f0, f1, f2]⟩ [] [u0] [] :=
  Eq.mp (by kernel_rfl) (exV_of (K := fun d => app3 etalonlaw02_GlassChecks_s.out R d ∧ Spec Tryz.prog etalonlaw02_GlassChecks_s ⟨[x0, x1, x2, x3, x4, x5, x6], [], [f0, f1, f2]⟩ d.1 d.2.1 d.2.2) (tree_at mixed names S2_ok (S := S2 Tryz.prog) (lf := 100000) (d := 60) etalonlaw02_GlassChecks_s gck_t { ivs := [(1, (-9223372036854775808), 9223372036854775807), (2, 0, 9223372036854775807), (3, 0, 9223372036854775807), (4, 0, 9223372036854775807), (5, (-9223372036854775808), 9223372036854775807), (6, (-9223372036854775808), 9223372036854775807)], aivs := [(0, (-9223372036854775808), 9223372036854775807)] } ⟨[x0, x1, x2, x3, x4, x5, x6], [], [f0, f1, f2]⟩ rfl (by kernel_rfl) (by kernel_rfl) (by kernel_rfl) ⟨(fc r1 (fc r2 (fc r3 (fc r4 (fc r5 (fc r6 fz)))))), fz, (fc s0 fz), fz⟩ (R := fun d => app3 etalonlaw02_GlassChecks_s.out R d) (Eq.mp (by kernel_rfl) H)))

set_option maxHeartbeats 8000000 in

theorem checks {x0 x1 x2 x3 x4 x5 x6 : Int} {f0 f1 f2 : Int → Int} (r1 : (-9223372036854775808) ≤ x1 ∧ x1 ≤ 9223372036854775807) (r2 : 0 ≤ x2 ∧ x2 ≤ 9223372036854775807) (r3 : 0 ≤ x3 ∧ x3 ≤ 9223372036854775807) (r4 : 0 ≤ x4 ∧ x4 ≤ 9223372036854775807) (r5 : (-9223372036854775808) ≤ x5 ∧ x5 ≤ 9223372036854775807) (r6 : (-9223372036854775808) ≤ x6 ∧ x6 ≤ 9223372036854775807) (s0 : ∀ q, (-9223372036854775808) ≤ f0 q ∧ f0 q ≤ 9223372036854775807) :

    Spec Tryz.prog etalonlaw02_GlassChecks_s ⟨[x0, x1, x2, x3, x4, x5, x6], [], [f0, f1, f2]⟩ [] [true] [] := by

  obtain ⟨a0, rfl, ha⟩ := awake

  obtain ⟨u, _, hp, hr⟩ := isName_s x0

  obtain ⟨w, rfl, hs⟩ : ∃ u0 : Bool, u0 = true ∧ Spec Tryz.prog etalonlaw02_GlassChecks_s ⟨[x0, x1, x2, x3, x4, x5, x6], [], [f0, f1, f2]⟩ [] [u0] [] := by

    have cp (h2 : x2 ≤ 140737488355328) (h3 : x3 ≤ 140737488355328) (h4 : x4 ≤ 140737488355328) := checkGlass_p (f1 := f1) (f2 := f2) hp r1 ⟨r2.1, h2⟩ ⟨r3.1, h3⟩ ⟨r4.1, h4⟩ r5 r6 s0

    have cr (h2 : x2 ≤ 140737488355328) (h3 : x3 ≤ 140737488355328) (h4 : x4 ≤ 140737488355328) := checkGlass_r (f1 := f1) (f2 := f2) hr r1 ⟨r2.1, h2⟩ ⟨r3.1, h3⟩ ⟨r4.1, h4⟩ r5 r6 s0

    refine gck (x0 := x0) (f1 := f1) (f2 := f2) r1 r2 r3 r4 r5 r6 s0 (R := (· = true)) ⟨true, ha, fun _ => ?_, fun h => by cases h⟩

    simp only [decide_eq_true_eq, decide_eq_false_iff_not]

    repeat' (first | (refine ⟨fun _ => ?_, fun _ => ?_⟩) | fail)

    all_goals first

      | exact trivial

      | (refine ⟨_, _, cp (by omega) (by omega) (by omega), _, _, cr (by omega) (by omega) (by omega), ?_⟩; simp; done)

  exact hs

end Go.Proofs.YtimmlmeapnlheaaGreat.Ev
