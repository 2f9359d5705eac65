/- GlassWithin. -/
import Derived.Test.YtfgdockgdbdoiaaGreatFxc
namespace Go.Proofs.YtfgdockgdbdoiaaGreat.Ev
set_option linter.unusedSimpArgs false
open Go Go.RowKit
set_option linter.unusedVariables false
set_option maxRecDepth 100000
def etalonlaw02_GlassWithin_s : Sig := ⟨6, ⟨10, 0, 3⟩, ⟨0, 1, 0⟩, [(.agg [(.strn (.var 0)), (.int .i64 (.var 1)), (.asl 0 (.var 2)), (.asl 1 (.var 3)), (.asl 2 (.var 4)), (.int .i64 (.var 5)), (.int .i64 (.var 6))]), (.agg [(.int .i64 (.var 7)), (.int .i64 (.var 8))]), (.int .i64 (.var 9))], [(some ⟨[], 3, true, false, (some ⟨(.var 2), [(.int .i64)], [(.avar 0)]⟩)⟩), (some ⟨[], 98, true, false, (some ⟨(.var 3), [(.float .f32)], [(.avar 1)]⟩)⟩), (some ⟨[], 98, true, false, (some ⟨(.var 4), [(.float .f32)], [(.avar 2)]⟩)⟩)], (.bool (.var 0)), []⟩

def fxd_q0 : Option Blk := (some ⟨[], 98, false, true, (some ⟨(.var 3), [(.float .f32)], [(.avar 1)]⟩)⟩)
def fxd_q1 : Option Blk := (some ⟨[], 98, false, true, (some ⟨(.var 4), [(.float .f32)], [(.avar 2)]⟩)⟩)
def fxd_q2 : Option Blk := (some ⟨[], 3, false, true, (some ⟨(.var 2), [(.int .i64)], [(.avar 0)]⟩)⟩)
def fxd_q3 : List SV := [(.agg [(.strn (.var 0)), (.int .i64 (.var 1)), (.asl 26 (.var 2)), (.asl 28 (.var 3)), (.asl 30 (.var 4)), (.int .i64 (.var 5)), (.int .i64 (.var 6))]), (.agg [(.int .i64 (.var 9)), (.int .i64 (.var 8))])]
def fxd_q4 : List SV := [(.agg [(.strn (.var 0)), (.int .i64 (.var 1)), (.asl 8 (.var 2)), (.asl 10 (.var 3)), (.asl 12 (.var 4)), (.int .i64 (.var 5)), (.int .i64 (.var 6))]), (.agg [(.int .i64 (.var 7)), (.int .i64 (.var 8))])]
def fxd_q5 : List SV := [(.agg [(.strn (.var 0)), (.int .i64 (.var 1)), (.asl 17 (.var 2)), (.asl 19 (.var 3)), (.asl 21 (.var 4)), (.int .i64 (.var 5)), (.int .i64 (.var 6))]), (.int .i64 (.var 9))]
def fxd_q6 : BE := (.and (.and (.icmp .eql (.var 10) (.lit 0)) (.icmp .eql (.var 11) (.lit 0))) (.and (.icmp .eql (.var 12) (.lit 0)) (.icmp .eql (.var 13) (.lit 0))))
def fxd_q7 : SV := (.tuple [(.agg [(.int .i64 (.var 10)), (.int .i64 (.var 11)), (.int .i64 (.var 12)), (.int .i64 (.var 13))]), (.int .i64 (.var 14))])
def fxd_q8 : SV := (.tuple [(.agg [(.int .i64 (.var 18)), (.int .i64 (.var 19)), (.int .i64 (.var 20)), (.int .i64 (.var 21))]), (.int .i64 (.var 22))])
def fxd_q9 : SV := (.tuple [(.agg [(.int .i64 (.var 15)), (.int .i64 (.var 16))]), (.int .i64 (.var 17))])
def fxd_q10 : BE := (.icmp .leq (.bin .sLen (.var 0) (.lit 0)) (.lit 20))
def gwi_t : Tr :=
 (.call etalonlaw02_awake_s ⟨[], [], []⟩ ⟨[], [(.var 0)], []⟩ ⟨7, [], [], [none, none, none, none, none], (.bool (.var 0)), []⟩
 (.ite (.var 0)
 (.ite (.icmp .leq (.var 2) (.lit 12))
 (.ite (.icmp .leq (.var 3) (.lit 12))
 (.ite (.icmp .leq (.var 4) (.lit 12))
 (.ite fxd_q10
 (.call glass_Between_s ⟨[(.var 0), (.var 1), (.var 2), (.var 3), (.var 4), (.var 5), (.var 6), (.var 7), (.var 8)], [], [(.avar 0), (.avar 1), (.avar 2)]⟩ ⟨[(.var 0), (.var 1), (.var 2), (.var 3), (.var 4), (.var 5), (.var 6), (.var 7), (.var 8), (.var 10), (.var 11), (.var 12), (.var 13), (.var 14)], [], [(.avar 0), (.avar 1), (.avar 2)]⟩ ⟨22, fxd_q4, [8, 10, 12], [none, none, none, none, none, none, none, none, fxd_q2, none, fxd_q0, none, fxd_q1], fxd_q7, []⟩
 (.ite (.icmp .eql (.var 14) (.lit 0))
 (.ite (.icmp .leq (.var 7) (.var 9))
 (.ite (.icmp .leq (.var 9) (.var 8))
 (.call glass_At_s ⟨[(.var 0), (.var 1), (.var 2), (.var 3), (.var 4), (.var 5), (.var 6), (.var 9)], [], [(.avar 0), (.avar 1), (.avar 2)]⟩ ⟨[(.var 0), (.var 1), (.var 2), (.var 3), (.var 4), (.var 5), (.var 6), (.var 9), (.var 15), (.var 16), (.var 17)], [], [(.avar 0), (.avar 1), (.avar 2)]⟩ ⟨9, fxd_q5, [17, 19, 21], [none, none, none, none, none, none, none, none, none, none, none, none, none, none, none, none, none, fxd_q2, none, fxd_q0, none, fxd_q1], fxd_q9, []⟩
 (.call glass_Between_s ⟨[(.var 0), (.var 1), (.var 2), (.var 3), (.var 4), (.var 5), (.var 6), (.var 9), (.var 8)], [], [(.avar 0), (.avar 1), (.avar 2)]⟩ ⟨[(.var 0), (.var 1), (.var 2), (.var 3), (.var 4), (.var 5), (.var 6), (.var 9), (.var 8), (.var 18), (.var 19), (.var 20), (.var 21), (.var 22)], [], [(.avar 0), (.avar 1), (.avar 2)]⟩ ⟨22, fxd_q3, [26, 28, 30], [none, none, none, none, none, none, none, none, none, none, none, none, none, none, none, none, none, none, none, none, none, none, none, none, none, none, fxd_q2, none, fxd_q0, none, fxd_q1], fxd_q8, []⟩
 (.ite (.icmp .eql (.var 17) (.lit 0))
 (.ite (.icmp .eql (.var 22) (.lit 0))
 (.ite (.icmp .leq (.var 10) (.var 15))
 (.ite (.icmp .leq (.var 15) (.var 11))
 (.ite (.icmp .leq (.var 10) (.var 18))
 (.ite (.icmp .leq (.var 19) (.var 11))
 (.ite (.icmp .leq (.var 18) (.var 15))
 (.ite (.icmp .leq (.var 15) (.var 19))
 (.ite (.icmp .leq (.var 12) (.var 16))
 (.ite (.icmp .leq (.var 16) (.var 13))
 (.ite (.icmp .leq (.var 12) (.var 20))
 (.ite (.icmp .leq (.var 21) (.var 13))
 (.ite (.icmp .leq (.var 20) (.var 16))
 (.ite (.icmp .leq (.var 16) (.var 21))
 (.ret ⟨[], [(.lit true)], []⟩ [])
 (.ret ⟨[], [(.lit false)], []⟩ []))
 (.ret ⟨[], [(.lit false)], []⟩ []))
 (.ret ⟨[], [(.lit false)], []⟩ []))
 (.ret ⟨[], [(.lit false)], []⟩ []))
 (.ret ⟨[], [(.lit false)], []⟩ []))
 (.ret ⟨[], [(.lit false)], []⟩ []))
 (.ret ⟨[], [(.lit false)], []⟩ []))
 (.ret ⟨[], [(.lit false)], []⟩ []))
 (.ret ⟨[], [(.lit false)], []⟩ []))
 (.ret ⟨[], [(.lit false)], []⟩ []))
 (.ret ⟨[], [(.lit false)], []⟩ []))
 (.ret ⟨[], [(.lit false)], []⟩ []))
 (.ret ⟨[], [(.lit false)], []⟩ []))
 (.ret ⟨[], [(.lit false)], []⟩ []))))
 (.ret ⟨[], [(.lit true)], []⟩ []))
 (.ret ⟨[], [(.lit true)], []⟩ []))
 (.ret ⟨[], [fxd_q6], []⟩ [])))
 (.ret ⟨[], [(.lit true)], []⟩ []))
 (.ite (.icmp .leq (.lit 64) (.var 4))
 (.ite (.icmp .leq (.var 4) (.lit 66))
 (.ite fxd_q10
 (.call glass_Between_s ⟨[(.var 0), (.var 1), (.var 2), (.var 3), (.var 4), (.var 5), (.var 6), (.var 7), (.var 8)], [], [(.avar 0), (.avar 1), (.avar 2)]⟩ ⟨[(.var 0), (.var 1), (.var 2), (.var 3), (.var 4), (.var 5), (.var 6), (.var 7), (.var 8), (.var 10), (.var 11), (.var 12), (.var 13), (.var 14)], [], [(.avar 0), (.avar 1), (.avar 2)]⟩ ⟨22, fxd_q4, [8, 10, 12], [none, none, none, none, none, none, none, none, fxd_q2, none, fxd_q0, none, fxd_q1], fxd_q7, []⟩
 (.ite (.icmp .eql (.var 14) (.lit 0))
 (.ite (.icmp .leq (.var 7) (.var 9))
 (.ite (.icmp .leq (.var 9) (.var 8))
 (.call glass_At_s ⟨[(.var 0), (.var 1), (.var 2), (.var 3), (.var 4), (.var 5), (.var 6), (.var 9)], [], [(.avar 0), (.avar 1), (.avar 2)]⟩ ⟨[(.var 0), (.var 1), (.var 2), (.var 3), (.var 4), (.var 5), (.var 6), (.var 9), (.var 15), (.var 16), (.var 17)], [], [(.avar 0), (.avar 1), (.avar 2)]⟩ ⟨9, fxd_q5, [17, 19, 21], [none, none, none, none, none, none, none, none, none, none, none, none, none, none, none, none, none, fxd_q2, none, fxd_q0, none, fxd_q1], fxd_q9, []⟩
 (.call glass_Between_s ⟨[(.var 0), (.var 1), (.var 2), (.var 3), (.var 4), (.var 5), (.var 6), (.var 9), (.var 8)], [], [(.avar 0), (.avar 1), (.avar 2)]⟩ ⟨[(.var 0), (.var 1), (.var 2), (.var 3), (.var 4), (.var 5), (.var 6), (.var 9), (.var 8), (.var 18), (.var 19), (.var 20), (.var 21), (.var 22)], [], [(.avar 0), (.avar 1), (.avar 2)]⟩ ⟨22, fxd_q3, [26, 28, 30], [none, none, none, none, none, none, none, none, none, none, none, none, none, none, none, none, none, none, none, none, none, none, none, none, none, none, fxd_q2, none, fxd_q0, none, fxd_q1], fxd_q8, []⟩
 (.ite (.icmp .eql (.var 17) (.lit 0))
 (.ite (.icmp .eql (.var 22) (.lit 0))
 (.ite (.icmp .leq (.var 10) (.var 15))
 (.ite (.icmp .leq (.var 15) (.var 11))
 (.ite (.icmp .leq (.var 10) (.var 18))
 (.ite (.icmp .leq (.var 19) (.var 11))
 (.ite (.icmp .leq (.var 18) (.var 15))
 (.ite (.icmp .leq (.var 15) (.var 19))
 (.ite (.icmp .leq (.var 12) (.var 16))
 (.ite (.icmp .leq (.var 16) (.var 13))
 (.ite (.icmp .leq (.var 12) (.var 20))
 (.ite (.icmp .leq (.var 21) (.var 13))
 (.ite (.icmp .leq (.var 20) (.var 16))
 (.ite (.icmp .leq (.var 16) (.var 21))
 (.ret ⟨[], [(.lit true)], []⟩ [])
 (.ret ⟨[], [(.lit false)], []⟩ []))
 (.ret ⟨[], [(.lit false)], []⟩ []))
 (.ret ⟨[], [(.lit false)], []⟩ []))
 (.ret ⟨[], [(.lit false)], []⟩ []))
 (.ret ⟨[], [(.lit false)], []⟩ []))
 (.ret ⟨[], [(.lit false)], []⟩ []))
 (.ret ⟨[], [(.lit false)], []⟩ []))
 (.ret ⟨[], [(.lit false)], []⟩ []))
 (.ret ⟨[], [(.lit false)], []⟩ []))
 (.ret ⟨[], [(.lit false)], []⟩ []))
 (.ret ⟨[], [(.lit false)], []⟩ []))
 (.ret ⟨[], [(.lit false)], []⟩ []))
 (.ret ⟨[], [(.lit false)], []⟩ []))
 (.ret ⟨[], [(.lit false)], []⟩ []))))
 (.ret ⟨[], [(.lit true)], []⟩ []))
 (.ret ⟨[], [(.lit true)], []⟩ []))
 (.ret ⟨[], [fxd_q6], []⟩ [])))
 (.ret ⟨[], [(.lit true)], []⟩ []))
 (.ret ⟨[], [(.lit true)], []⟩ []))
 (.ret ⟨[], [(.lit true)], []⟩ [])))
 (.ite (.icmp .leq (.lit 64) (.var 3))
 (.ite (.icmp .leq (.var 3) (.lit 66))
 (.ite (.icmp .leq (.var 4) (.lit 12))
 (.ite fxd_q10
 (.call glass_Between_s ⟨[(.var 0), (.var 1), (.var 2), (.var 3), (.var 4), (.var 5), (.var 6), (.var 7), (.var 8)], [], [(.avar 0), (.avar 1), (.avar 2)]⟩ ⟨[(.var 0), (.var 1), (.var 2), (.var 3), (.var 4), (.var 5), (.var 6), (.var 7), (.var 8), (.var 10), (.var 11), (.var 12), (.var 13), (.var 14)], [], [(.avar 0), (.avar 1), (.avar 2)]⟩ ⟨22, fxd_q4, [8, 10, 12], [none, none, none, none, none, none, none, none, fxd_q2, none, fxd_q0, none, fxd_q1], fxd_q7, []⟩
 (.ite (.icmp .eql (.var 14) (.lit 0))
 (.ite (.icmp .leq (.var 7) (.var 9))
 (.ite (.icmp .leq (.var 9) (.var 8))
 (.call glass_At_s ⟨[(.var 0), (.var 1), (.var 2), (.var 3), (.var 4), (.var 5), (.var 6), (.var 9)], [], [(.avar 0), (.avar 1), (.avar 2)]⟩ ⟨[(.var 0), (.var 1), (.var 2), (.var 3), (.var 4), (.var 5), (.var 6), (.var 9), (.var 15), (.var 16), (.var 17)], [], [(.avar 0), (.avar 1), (.avar 2)]⟩ ⟨9, fxd_q5, [17, 19, 21], [none, none, none, none, none, none, none, none, none, none, none, none, none, none, none, none, none, fxd_q2, none, fxd_q0, none, fxd_q1], fxd_q9, []⟩
 (.call glass_Between_s ⟨[(.var 0), (.var 1), (.var 2), (.var 3), (.var 4), (.var 5), (.var 6), (.var 9), (.var 8)], [], [(.avar 0), (.avar 1), (.avar 2)]⟩ ⟨[(.var 0), (.var 1), (.var 2), (.var 3), (.var 4), (.var 5), (.var 6), (.var 9), (.var 8), (.var 18), (.var 19), (.var 20), (.var 21), (.var 22)], [], [(.avar 0), (.avar 1), (.avar 2)]⟩ ⟨22, fxd_q3, [26, 28, 30], [none, none, none, none, none, none, none, none, none, none, none, none, none, none, none, none, none, none, none, none, none, none, none, none, none, none, fxd_q2, none, fxd_q0, none, fxd_q1], fxd_q8, []⟩
 (.ite (.icmp .eql (.var 17) (.lit 0))
 (.ite (.icmp .eql (.var 22) (.lit 0))
 (.ite (.icmp .leq (.var 10) (.var 15))
 (.ite (.icmp .leq (.var 15) (.var 11))
 (.ite (.icmp .leq (.var 10) (.var 18))
 (.ite (.icmp .leq (.var 19) (.var 11))
 (.ite (.icmp .leq (.var 18) (.var 15))
 (.ite (.icmp .leq (.var 15) (.var 19))
 (.ite (.icmp .leq (.var 12) (.var 16))
 (.ite (.icmp .leq (.var 16) (.var 13))
 (.ite (.icmp .leq (.var 12) (.var 20))
 (.ite (.icmp .leq (.var 21) (.var 13))
 (.ite (.icmp .leq (.var 20) (.var 16))
 (.ite (.icmp .leq (.var 16) (.var 21))
 (.ret ⟨[], [(.lit true)], []⟩ [])
 (.ret ⟨[], [(.lit false)], []⟩ []))
 (.ret ⟨[], [(.lit false)], []⟩ []))
 (.ret ⟨[], [(.lit false)], []⟩ []))
 (.ret ⟨[], [(.lit false)], []⟩ []))
 (.ret ⟨[], [(.lit false)], []⟩ []))
 (.ret ⟨[], [(.lit false)], []⟩ []))
 (.ret ⟨[], [(.lit false)], []⟩ []))
 (.ret ⟨[], [(.lit false)], []⟩ []))
 (.ret ⟨[], [(.lit false)], []⟩ []))
 (.ret ⟨[], [(.lit false)], []⟩ []))
 (.ret ⟨[], [(.lit false)], []⟩ []))
 (.ret ⟨[], [(.lit false)], []⟩ []))
 (.ret ⟨[], [(.lit false)], []⟩ []))
 (.ret ⟨[], [(.lit false)], []⟩ []))))
 (.ret ⟨[], [(.lit true)], []⟩ []))
 (.ret ⟨[], [(.lit true)], []⟩ []))
 (.ret ⟨[], [fxd_q6], []⟩ [])))
 (.ret ⟨[], [(.lit true)], []⟩ []))
 (.ite (.icmp .leq (.lit 64) (.var 4))
 (.ite (.icmp .leq (.var 4) (.lit 66))
 (.ite fxd_q10
 (.call glass_Between_s ⟨[(.var 0), (.var 1), (.var 2), (.var 3), (.var 4), (.var 5), (.var 6), (.var 7), (.var 8)], [], [(.avar 0), (.avar 1), (.avar 2)]⟩ ⟨[(.var 0), (.var 1), (.var 2), (.var 3), (.var 4), (.var 5), (.var 6), (.var 7), (.var 8), (.var 10), (.var 11), (.var 12), (.var 13), (.var 14)], [], [(.avar 0), (.avar 1), (.avar 2)]⟩ ⟨22, fxd_q4, [8, 10, 12], [none, none, none, none, none, none, none, none, fxd_q2, none, fxd_q0, none, fxd_q1], fxd_q7, []⟩
 (.ite (.icmp .eql (.var 14) (.lit 0))
 (.ite (.icmp .leq (.var 7) (.var 9))
 (.ite (.icmp .leq (.var 9) (.var 8))
 (.call glass_At_s ⟨[(.var 0), (.var 1), (.var 2), (.var 3), (.var 4), (.var 5), (.var 6), (.var 9)], [], [(.avar 0), (.avar 1), (.avar 2)]⟩ ⟨[(.var 0), (.var 1), (.var 2), (.var 3), (.var 4), (.var 5), (.var 6), (.var 9), (.var 15), (.var 16), (.var 17)], [], [(.avar 0), (.avar 1), (.avar 2)]⟩ ⟨9, fxd_q5, [17, 19, 21], [none, none, none, none, none, none, none, none, none, none, none, none, none, none, none, none, none, fxd_q2, none, fxd_q0, none, fxd_q1], fxd_q9, []⟩
 (.call glass_Between_s ⟨[(.var 0), (.var 1), (.var 2), (.var 3), (.var 4), (.var 5), (.var 6), (.var 9), (.var 8)], [], [(.avar 0), (.avar 1), (.avar 2)]⟩ ⟨[(.var 0), (.var 1), (.var 2), (.var 3), (.var 4), (.var 5), (.var 6), (.var 9), (.var 8), (.var 18), (.var 19), (.var 20), (.var 21), (.var 22)], [], [(.avar 0), (.avar 1), (.avar 2)]⟩ ⟨22, fxd_q3, [26, 28, 30], [none, none, none, none, none, none, none, none, none, none, none, none, none, none, none, none, none, none, none, none, none, none, none, none, none, none, fxd_q2, none, fxd_q0, none, fxd_q1], fxd_q8, []⟩
 (.ite (.icmp .eql (.var 17) (.lit 0))
 (.ite (.icmp .eql (.var 22) (.lit 0))
 (.ite (.icmp .leq (.var 10) (.var 15))
 (.ite (.icmp .leq (.var 15) (.var 11))
 (.ite (.icmp .leq (.var 10) (.var 18))
 (.ite (.icmp .leq (.var 19) (.var 11))
 (.ite (.icmp .leq (.var 18) (.var 15))
 (.ite (.icmp .leq (.var 15) (.var 19))
 (.ite (.icmp .leq (.var 12) (.var 16))
 (.ite (.icmp .leq (.var 16) (.var 13))
 (.ite (.icmp .leq (.var 12) (.var 20))
 (.ite (.icmp .leq (.var 21) (.var 13))
 (.ite (.icmp .leq (.var 20) (.var 16))
 (.ite (.icmp .leq (.var 16) (.var 21))
 (.ret ⟨[], [(.lit true)], []⟩ [])
 (.ret ⟨[], [(.lit false)], []⟩ []))
 (.ret ⟨[], [(.lit false)], []⟩ []))
 (.ret ⟨[], [(.lit false)], []⟩ []))
 (.ret ⟨[], [(.lit false)], []⟩ []))
 (.ret ⟨[], [(.lit false)], []⟩ []))
 (.ret ⟨[], [(.lit false)], []⟩ []))
 (.ret ⟨[], [(.lit false)], []⟩ []))
 (.ret ⟨[], [(.lit false)], []⟩ []))
 (.ret ⟨[], [(.lit false)], []⟩ []))
 (.ret ⟨[], [(.lit false)], []⟩ []))
 (.ret ⟨[], [(.lit false)], []⟩ []))
 (.ret ⟨[], [(.lit false)], []⟩ []))
 (.ret ⟨[], [(.lit false)], []⟩ []))
 (.ret ⟨[], [(.lit false)], []⟩ []))))
 (.ret ⟨[], [(.lit true)], []⟩ []))
 (.ret ⟨[], [(.lit true)], []⟩ []))
 (.ret ⟨[], [fxd_q6], []⟩ [])))
 (.ret ⟨[], [(.lit true)], []⟩ []))
 (.ret ⟨[], [(.lit true)], []⟩ []))
 (.ret ⟨[], [(.lit true)], []⟩ [])))
 (.ret ⟨[], [(.lit true)], []⟩ []))
 (.ret ⟨[], [(.lit true)], []⟩ [])))
 (.ite (.icmp .leq (.lit 64) (.var 2))
 (.ite (.icmp .leq (.var 2) (.lit 66))
 (.ite (.icmp .leq (.var 3) (.lit 12))
 (.ite (.icmp .leq (.var 4) (.lit 12))
 (.ite fxd_q10
 (.call glass_Between_s ⟨[(.var 0), (.var 1), (.var 2), (.var 3), (.var 4), (.var 5), (.var 6), (.var 7), (.var 8)], [], [(.avar 0), (.avar 1), (.avar 2)]⟩ ⟨[(.var 0), (.var 1), (.var 2), (.var 3), (.var 4), (.var 5), (.var 6), (.var 7), (.var 8), (.var 10), (.var 11), (.var 12), (.var 13), (.var 14)], [], [(.avar 0), (.avar 1), (.avar 2)]⟩ ⟨22, fxd_q4, [8, 10, 12], [none, none, none, none, none, none, none, none, fxd_q2, none, fxd_q0, none, fxd_q1], fxd_q7, []⟩
 (.ite (.icmp .eql (.var 14) (.lit 0))
 (.ite (.icmp .leq (.var 7) (.var 9))
 (.ite (.icmp .leq (.var 9) (.var 8))
 (.call glass_At_s ⟨[(.var 0), (.var 1), (.var 2), (.var 3), (.var 4), (.var 5), (.var 6), (.var 9)], [], [(.avar 0), (.avar 1), (.avar 2)]⟩ ⟨[(.var 0), (.var 1), (.var 2), (.var 3), (.var 4), (.var 5), (.var 6), (.var 9), (.var 15), (.var 16), (.var 17)], [], [(.avar 0), (.avar 1), (.avar 2)]⟩ ⟨9, fxd_q5, [17, 19, 21], [none, none, none, none, none, none, none, none, none, none, none, none, none, none, none, none, none, fxd_q2, none, fxd_q0, none, fxd_q1], fxd_q9, []⟩
 (.call glass_Between_s ⟨[(.var 0), (.var 1), (.var 2), (.var 3), (.var 4), (.var 5), (.var 6), (.var 9), (.var 8)], [], [(.avar 0), (.avar 1), (.avar 2)]⟩ ⟨[(.var 0), (.var 1), (.var 2), (.var 3), (.var 4), (.var 5), (.var 6), (.var 9), (.var 8), (.var 18), (.var 19), (.var 20), (.var 21), (.var 22)], [], [(.avar 0), (.avar 1), (.avar 2)]⟩ ⟨22, fxd_q3, [26, 28, 30], [none, none, none, none, none, none, none, none, none, none, none, none, none, none, none, none, none, none, none, none, none, none, none, none, none, none, fxd_q2, none, fxd_q0, none, fxd_q1], fxd_q8, []⟩
 (.ite (.icmp .eql (.var 17) (.lit 0))
 (.ite (.icmp .eql (.var 22) (.lit 0))
 (.ite (.icmp .leq (.var 10) (.var 15))
 (.ite (.icmp .leq (.var 15) (.var 11))
 (.ite (.icmp .leq (.var 10) (.var 18))
 (.ite (.icmp .leq (.var 19) (.var 11))
 (.ite (.icmp .leq (.var 18) (.var 15))
 (.ite (.icmp .leq (.var 15) (.var 19))
 (.ite (.icmp .leq (.var 12) (.var 16))
 (.ite (.icmp .leq (.var 16) (.var 13))
 (.ite (.icmp .leq (.var 12) (.var 20))
 (.ite (.icmp .leq (.var 21) (.var 13))
 (.ite (.icmp .leq (.var 20) (.var 16))
 (.ite (.icmp .leq (.var 16) (.var 21))
 (.ret ⟨[], [(.lit true)], []⟩ [])
 (.ret ⟨[], [(.lit false)], []⟩ []))
 (.ret ⟨[], [(.lit false)], []⟩ []))
 (.ret ⟨[], [(.lit false)], []⟩ []))
 (.ret ⟨[], [(.lit false)], []⟩ []))
 (.ret ⟨[], [(.lit false)], []⟩ []))
 (.ret ⟨[], [(.lit false)], []⟩ []))
 (.ret ⟨[], [(.lit false)], []⟩ []))
 (.ret ⟨[], [(.lit false)], []⟩ []))
 (.ret ⟨[], [(.lit false)], []⟩ []))
 (.ret ⟨[], [(.lit false)], []⟩ []))
 (.ret ⟨[], [(.lit false)], []⟩ []))
 (.ret ⟨[], [(.lit false)], []⟩ []))
 (.ret ⟨[], [(.lit false)], []⟩ []))
 (.ret ⟨[], [(.lit false)], []⟩ []))))
 (.ret ⟨[], [(.lit true)], []⟩ []))
 (.ret ⟨[], [(.lit true)], []⟩ []))
 (.ret ⟨[], [fxd_q6], []⟩ [])))
 (.ret ⟨[], [(.lit true)], []⟩ []))
 (.ite (.icmp .leq (.lit 64) (.var 4))
 (.ite (.icmp .leq (.var 4) (.lit 66))
 (.ite fxd_q10
 (.call glass_Between_s ⟨[(.var 0), (.var 1), (.var 2), (.var 3), (.var 4), (.var 5), (.var 6), (.var 7), (.var 8)], [], [(.avar 0), (.avar 1), (.avar 2)]⟩ ⟨[(.var 0), (.var 1), (.var 2), (.var 3), (.var 4), (.var 5), (.var 6), (.var 7), (.var 8), (.var 10), (.var 11), (.var 12), (.var 13), (.var 14)], [], [(.avar 0), (.avar 1), (.avar 2)]⟩ ⟨22, fxd_q4, [8, 10, 12], [none, none, none, none, none, none, none, none, fxd_q2, none, fxd_q0, none, fxd_q1], fxd_q7, []⟩
 (.ite (.icmp .eql (.var 14) (.lit 0))
 (.ite (.icmp .leq (.var 7) (.var 9))
 (.ite (.icmp .leq (.var 9) (.var 8))
 (.call glass_At_s ⟨[(.var 0), (.var 1), (.var 2), (.var 3), (.var 4), (.var 5), (.var 6), (.var 9)], [], [(.avar 0), (.avar 1), (.avar 2)]⟩ ⟨[(.var 0), (.var 1), (.var 2), (.var 3), (.var 4), (.var 5), (.var 6), (.var 9), (.var 15), (.var 16), (.var 17)], [], [(.avar 0), (.avar 1), (.avar 2)]⟩ ⟨9, fxd_q5, [17, 19, 21], [none, none, none, none, none, none, none, none, none, none, none, none, none, none, none, none, none, fxd_q2, none, fxd_q0, none, fxd_q1], fxd_q9, []⟩
 (.call glass_Between_s ⟨[(.var 0), (.var 1), (.var 2), (.var 3), (.var 4), (.var 5), (.var 6), (.var 9), (.var 8)], [], [(.avar 0), (.avar 1), (.avar 2)]⟩ ⟨[(.var 0), (.var 1), (.var 2), (.var 3), (.var 4), (.var 5), (.var 6), (.var 9), (.var 8), (.var 18), (.var 19), (.var 20), (.var 21), (.var 22)], [], [(.avar 0), (.avar 1), (.avar 2)]⟩ ⟨22, fxd_q3, [26, 28, 30], [none, none, none, none, none, none, none, none, none, none, none, none, none, none, none, none, none, none, none, none, none, none, none, none, none, none, fxd_q2, none, fxd_q0, none, fxd_q1], fxd_q8, []⟩
 (.ite (.icmp .eql (.var 17) (.lit 0))
 (.ite (.icmp .eql (.var 22) (.lit 0))
 (.ite (.icmp .leq (.var 10) (.var 15))
 (.ite (.icmp .leq (.var 15) (.var 11))
 (.ite (.icmp .leq (.var 10) (.var 18))
 (.ite (.icmp .leq (.var 19) (.var 11))
 (.ite (.icmp .leq (.var 18) (.var 15))
 (.ite (.icmp .leq (.var 15) (.var 19))
 (.ite (.icmp .leq (.var 12) (.var 16))
 (.ite (.icmp .leq (.var 16) (.var 13))
 (.ite (.icmp .leq (.var 12) (.var 20))
 (.ite (.icmp .leq (.var 21) (.var 13))
 (.ite (.icmp .leq (.var 20) (.var 16))
 (.ite (.icmp .leq (.var 16) (.var 21))
 (.ret ⟨[], [(.lit true)], []⟩ [])
 (.ret ⟨[], [(.lit false)], []⟩ []))
 (.ret ⟨[], [(.lit false)], []⟩ []))
 (.ret ⟨[], [(.lit false)], []⟩ []))
 (.ret ⟨[], [(.lit false)], []⟩ []))
 (.ret ⟨[], [(.lit false)], []⟩ []))
 (.ret ⟨[], [(.lit false)], []⟩ []))
 (.ret ⟨[], [(.lit false)], []⟩ []))
 (.ret ⟨[], [(.lit false)], []⟩ []))
 (.ret ⟨[], [(.lit false)], []⟩ []))
 (.ret ⟨[], [(.lit false)], []⟩ []))
 (.ret ⟨[], [(.lit false)], []⟩ []))
 (.ret ⟨[], [(.lit false)], []⟩ []))
 (.ret ⟨[], [(.lit false)], []⟩ []))
 (.ret ⟨[], [(.lit false)], []⟩ []))))
 (.ret ⟨[], [(.lit true)], []⟩ []))
 (.ret ⟨[], [(.lit true)], []⟩ []))
 (.ret ⟨[], [fxd_q6], []⟩ [])))
 (.ret ⟨[], [(.lit true)], []⟩ []))
 (.ret ⟨[], [(.lit true)], []⟩ []))
 (.ret ⟨[], [(.lit true)], []⟩ [])))
 (.ite (.icmp .leq (.lit 64) (.var 3))
 (.ite (.icmp .leq (.var 3) (.lit 66))
 (.ite (.icmp .leq (.var 4) (.lit 12))
 (.ite fxd_q10
 (.call glass_Between_s ⟨[(.var 0), (.var 1), (.var 2), (.var 3), (.var 4), (.var 5), (.var 6), (.var 7), (.var 8)], [], [(.avar 0), (.avar 1), (.avar 2)]⟩ ⟨[(.var 0), (.var 1), (.var 2), (.var 3), (.var 4), (.var 5), (.var 6), (.var 7), (.var 8), (.var 10), (.var 11), (.var 12), (.var 13), (.var 14)], [], [(.avar 0), (.avar 1), (.avar 2)]⟩ ⟨22, fxd_q4, [8, 10, 12], [none, none, none, none, none, none, none, none, fxd_q2, none, fxd_q0, none, fxd_q1], fxd_q7, []⟩
 (.ite (.icmp .eql (.var 14) (.lit 0))
 (.ite (.icmp .leq (.var 7) (.var 9))
 (.ite (.icmp .leq (.var 9) (.var 8))
 (.call glass_At_s ⟨[(.var 0), (.var 1), (.var 2), (.var 3), (.var 4), (.var 5), (.var 6), (.var 9)], [], [(.avar 0), (.avar 1), (.avar 2)]⟩ ⟨[(.var 0), (.var 1), (.var 2), (.var 3), (.var 4), (.var 5), (.var 6), (.var 9), (.var 15), (.var 16), (.var 17)], [], [(.avar 0), (.avar 1), (.avar 2)]⟩ ⟨9, fxd_q5, [17, 19, 21], [none, none, none, none, none, none, none, none, none, none, none, none, none, none, none, none, none, fxd_q2, none, fxd_q0, none, fxd_q1], fxd_q9, []⟩
 (.call glass_Between_s ⟨[(.var 0), (.var 1), (.var 2), (.var 3), (.var 4), (.var 5), (.var 6), (.var 9), (.var 8)], [], [(.avar 0), (.avar 1), (.avar 2)]⟩ ⟨[(.var 0), (.var 1), (.var 2), (.var 3), (.var 4), (.var 5), (.var 6), (.var 9), (.var 8), (.var 18), (.var 19), (.var 20), (.var 21), (.var 22)], [], [(.avar 0), (.avar 1), (.avar 2)]⟩ ⟨22, fxd_q3, [26, 28, 30], [none, none, none, none, none, none, none, none, none, none, none, none, none, none, none, none, none, none, none, none, none, none, none, none, none, none, fxd_q2, none, fxd_q0, none, fxd_q1], fxd_q8, []⟩
 (.ite (.icmp .eql (.var 17) (.lit 0))
 (.ite (.icmp .eql (.var 22) (.lit 0))
 (.ite (.icmp .leq (.var 10) (.var 15))
 (.ite (.icmp .leq (.var 15) (.var 11))
 (.ite (.icmp .leq (.var 10) (.var 18))
 (.ite (.icmp .leq (.var 19) (.var 11))
 (.ite (.icmp .leq (.var 18) (.var 15))
 (.ite (.icmp .leq (.var 15) (.var 19))
 (.ite (.icmp .leq (.var 12) (.var 16))
 (.ite (.icmp .leq (.var 16) (.var 13))
 (.ite (.icmp .leq (.var 12) (.var 20))
 (.ite (.icmp .leq (.var 21) (.var 13))
 (.ite (.icmp .leq (.var 20) (.var 16))
 (.ite (.icmp .leq (.var 16) (.var 21))
 (.ret ⟨[], [(.lit true)], []⟩ [])
 (.ret ⟨[], [(.lit false)], []⟩ []))
 (.ret ⟨[], [(.lit false)], []⟩ []))
 (.ret ⟨[], [(.lit false)], []⟩ []))
 (.ret ⟨[], [(.lit false)], []⟩ []))
 (.ret ⟨[], [(.lit false)], []⟩ []))
 (.ret ⟨[], [(.lit false)], []⟩ []))
 (.ret ⟨[], [(.lit false)], []⟩ []))
 (.ret ⟨[], [(.lit false)], []⟩ []))
 (.ret ⟨[], [(.lit false)], []⟩ []))
 (.ret ⟨[], [(.lit false)], []⟩ []))
 (.ret ⟨[], [(.lit false)], []⟩ []))
 (.ret ⟨[], [(.lit false)], []⟩ []))
 (.ret ⟨[], [(.lit false)], []⟩ []))
 (.ret ⟨[], [(.lit false)], []⟩ []))))
 (.ret ⟨[], [(.lit true)], []⟩ []))
 (.ret ⟨[], [(.lit true)], []⟩ []))
 (.ret ⟨[], [fxd_q6], []⟩ [])))
 (.ret ⟨[], [(.lit true)], []⟩ []))
 (.ite (.icmp .leq (.lit 64) (.var 4))
 (.ite (.icmp .leq (.var 4) (.lit 66))
 (.ite fxd_q10
 (.call glass_Between_s ⟨[(.var 0), (.var 1), (.var 2), (.var 3), (.var 4), (.var 5), (.var 6), (.var 7), (.var 8)], [], [(.avar 0), (.avar 1), (.avar 2)]⟩ ⟨[(.var 0), (.var 1), (.var 2), (.var 3), (.var 4), (.var 5), (.var 6), (.var 7), (.var 8), (.var 10), (.var 11), (.var 12), (.var 13), (.var 14)], [], [(.avar 0), (.avar 1), (.avar 2)]⟩ ⟨22, fxd_q4, [8, 10, 12], [none, none, none, none, none, none, none, none, fxd_q2, none, fxd_q0, none, fxd_q1], fxd_q7, []⟩
 (.ite (.icmp .eql (.var 14) (.lit 0))
 (.ite (.icmp .leq (.var 7) (.var 9))
 (.ite (.icmp .leq (.var 9) (.var 8))
 (.call glass_At_s ⟨[(.var 0), (.var 1), (.var 2), (.var 3), (.var 4), (.var 5), (.var 6), (.var 9)], [], [(.avar 0), (.avar 1), (.avar 2)]⟩ ⟨[(.var 0), (.var 1), (.var 2), (.var 3), (.var 4), (.var 5), (.var 6), (.var 9), (.var 15), (.var 16), (.var 17)], [], [(.avar 0), (.avar 1), (.avar 2)]⟩ ⟨9, fxd_q5, [17, 19, 21], [none, none, none, none, none, none, none, none, none, none, none, none, none, none, none, none, none, fxd_q2, none, fxd_q0, none, fxd_q1], fxd_q9, []⟩
 (.call glass_Between_s ⟨[(.var 0), (.var 1), (.var 2), (.var 3), (.var 4), (.var 5), (.var 6), (.var 9), (.var 8)], [], [(.avar 0), (.avar 1), (.avar 2)]⟩ ⟨[(.var 0), (.var 1), (.var 2), (.var 3), (.var 4), (.var 5), (.var 6), (.var 9), (.var 8), (.var 18), (.var 19), (.var 20), (.var 21), (.var 22)], [], [(.avar 0), (.avar 1), (.avar 2)]⟩ ⟨22, fxd_q3, [26, 28, 30], [none, none, none, none, none, none, none, none, none, none, none, none, none, none, none, none, none, none, none, none, none, none, none, none, none, none, fxd_q2, none, fxd_q0, none, fxd_q1], fxd_q8, []⟩
 (.ite (.icmp .eql (.var 17) (.lit 0))
 (.ite (.icmp .eql (.var 22) (.lit 0))
 (.ite (.icmp .leq (.var 10) (.var 15))
 (.ite (.icmp .leq (.var 15) (.var 11))
 (.ite (.icmp .leq (.var 10) (.var 18))
 (.ite (.icmp .leq (.var 19) (.var 11))
 (.ite (.icmp .leq (.var 18) (.var 15))
 (.ite (.icmp .leq (.var 15) (.var 19))
 (.ite (.icmp .leq (.var 12) (.var 16))
 (.ite (.icmp .leq (.var 16) (.var 13))
 (.ite (.icmp .leq (.var 12) (.var 20))
 (.ite (.icmp .leq (.var 21) (.var 13))
 (.ite (.icmp .leq (.var 20) (.var 16))
 (.ite (.icmp .leq (.var 16) (.var 21))
 (.ret ⟨[], [(.lit true)], []⟩ [])
 (.ret ⟨[], [(.lit false)], []⟩ []))
 (.ret ⟨[], [(.lit false)], []⟩ []))
 (.ret ⟨[], [(.lit false)], []⟩ []))
 (.ret ⟨[], [(.lit false)], []⟩ []))
 (.ret ⟨[], [(.lit false)], []⟩ []))
 (.ret ⟨[], [(.lit false)], []⟩ []))
 (.ret ⟨[], [(.lit false)], []⟩ []))
 (.ret ⟨[], [(.lit false)], []⟩ []))
 (.ret ⟨[], [(.lit false)], []⟩ []))
 (.ret ⟨[], [(.lit false)], []⟩ []))
 (.ret ⟨[], [(.lit false)], []⟩ []))
 (.ret ⟨[], [(.lit false)], []⟩ []))
 (.ret ⟨[], [(.lit false)], []⟩ []))
 (.ret ⟨[], [(.lit false)], []⟩ []))))
 (.ret ⟨[], [(.lit true)], []⟩ []))
 (.ret ⟨[], [(.lit true)], []⟩ []))
 (.ret ⟨[], [fxd_q6], []⟩ [])))
 (.ret ⟨[], [(.lit true)], []⟩ []))
 (.ret ⟨[], [(.lit true)], []⟩ []))
 (.ret ⟨[], [(.lit true)], []⟩ [])))
 (.ret ⟨[], [(.lit true)], []⟩ []))
 (.ret ⟨[], [(.lit true)], []⟩ [])))
 (.ret ⟨[], [(.lit true)], []⟩ []))
 (.ret ⟨[], [(.lit true)], []⟩ [])))
 (.ret ⟨[], [(.lit false)], []⟩ [])))
theorem gwi_p0 : (gwi_t.only [true, true, true]).chk Tryz.prog (S2 Tryz.prog) 100000 60 (.fn etalonlaw02_GlassWithin_s) { dom := { ivs := [(1, (-9223372036854775808), 9223372036854775807), (2, 0, 9223372036854775807), (3, 0, 9223372036854775807), (4, 0, 9223372036854775807), (5, (-9223372036854775808), 9223372036854775807), (6, (-9223372036854775808), 9223372036854775807), (7, (-9223372036854775808), 9223372036854775807), (8, (-9223372036854775808), 9223372036854775807), (9, (-9223372036854775808), 9223372036854775807)], aivs := [(0, (-9223372036854775808), 9223372036854775807)] } } etalonlaw02_GlassWithin_s.inp = true := by kernel_rfl
theorem gwi_p1 : ((gwi_t.but [true, true, true]).only [true, true, false, true, true]).chk Tryz.prog (S2 Tryz.prog) 100000 60 (.fn etalonlaw02_GlassWithin_s) { dom := { ivs := [(1, (-9223372036854775808), 9223372036854775807), (2, 0, 9223372036854775807), (3, 0, 9223372036854775807), (4, 0, 9223372036854775807), (5, (-9223372036854775808), 9223372036854775807), (6, (-9223372036854775808), 9223372036854775807), (7, (-9223372036854775808), 9223372036854775807), (8, (-9223372036854775808), 9223372036854775807), (9, (-9223372036854775808), 9223372036854775807)], aivs := [(0, (-9223372036854775808), 9223372036854775807)] } } etalonlaw02_GlassWithin_s.inp = true := by kernel_rfl
theorem gwi_p2 : (((gwi_t.but [true, true, true]).but [true, true, false, true, true]).only [true, false, true, true, true]).chk Tryz.prog (S2 Tryz.prog) 100000 60 (.fn etalonlaw02_GlassWithin_s) { dom := { ivs := [(1, (-9223372036854775808), 9223372036854775807), (2, 0, 9223372036854775807), (3, 0, 9223372036854775807), (4, 0, 9223372036854775807), (5, (-9223372036854775808), 9223372036854775807), (6, (-9223372036854775808), 9223372036854775807), (7, (-9223372036854775808), 9223372036854775807), (8, (-9223372036854775808), 9223372036854775807), (9, (-9223372036854775808), 9223372036854775807)], aivs := [(0, (-9223372036854775808), 9223372036854775807)] } } etalonlaw02_GlassWithin_s.inp = true := by kernel_rfl
theorem gwi_p3 : ((((gwi_t.but [true, true, true]).but [true, true, false, true, true]).but [true, false, true, true, true]).only [true, false, true, true, false, true, true]).chk Tryz.prog (S2 Tryz.prog) 100000 60 (.fn etalonlaw02_GlassWithin_s) { dom := { ivs := [(1, (-9223372036854775808), 9223372036854775807), (2, 0, 9223372036854775807), (3, 0, 9223372036854775807), (4, 0, 9223372036854775807), (5, (-9223372036854775808), 9223372036854775807), (6, (-9223372036854775808), 9223372036854775807), (7, (-9223372036854775808), 9223372036854775807), (8, (-9223372036854775808), 9223372036854775807), (9, (-9223372036854775808), 9223372036854775807)], aivs := [(0, (-9223372036854775808), 9223372036854775807)] } } etalonlaw02_GlassWithin_s.inp = true := by kernel_rfl
theorem gwi_p4 : (((((gwi_t.but [true, true, true]).but [true, true, false, true, true]).but [true, false, true, true, true]).but [true, false, true, true, false, true, true])).chk Tryz.prog (S2 Tryz.prog) 100000 60 (.fn etalonlaw02_GlassWithin_s) { dom := { ivs := [(1, (-9223372036854775808), 9223372036854775807), (2, 0, 9223372036854775807), (3, 0, 9223372036854775807), (4, 0, 9223372036854775807), (5, (-9223372036854775808), 9223372036854775807), (6, (-9223372036854775808), 9223372036854775807), (7, (-9223372036854775808), 9223372036854775807), (8, (-9223372036854775808), 9223372036854775807), (9, (-9223372036854775808), 9223372036854775807)], aivs := [(0, (-9223372036854775808), 9223372036854775807)] } } etalonlaw02_GlassWithin_s.inp = true := by kernel_rfl
theorem gwi {x0 x1 x2 x3 x4 x5 x6 x7 x8 x9 : Int} {f0 f1 f2 : Int → Int} (r1 : (-9223372036854775808) ≤ x1 ∧ x1 ≤ 9223372036854775807) (r2 : 0 ≤ x2 ∧ x2 ≤ 9223372036854775807) (r3 : 0 ≤ x3 ∧ x3 ≤ 9223372036854775807) (r4 : 0 ≤ x4 ∧ x4 ≤ 9223372036854775807) (r5 : (-9223372036854775808) ≤ x5 ∧ x5 ≤ 9223372036854775807) (r6 : (-9223372036854775808) ≤ x6 ∧ x6 ≤ 9223372036854775807) (r7 : (-9223372036854775808) ≤ x7 ∧ x7 ≤ 9223372036854775807) (r8 : (-9223372036854775808) ≤ x8 ∧ x8 ≤ 9223372036854775807) (r9 : (-9223372036854775808) ≤ x9 ∧ x9 ≤ 9223372036854775807) (s0 : ∀ q, (-9223372036854775808) ≤ f0 q ∧ f0 q ≤ 9223372036854775807) {R : Bool → Prop}
 (H : (∃ u0 : Bool, Spec Tryz.prog etalonlaw02_awake_s ⟨[], [], []⟩ [] [u0] [] ∧
 ((u0 = true → ((decide ((x2 : Int) ≤ 12) = true → ((decide ((x3 : Int) ≤ 12) = true → ((decide ((x4 : Int) ≤ 12) = true → ((decide (((NOp.den .sLen x0 0) : Int) ≤ 20) = true → (∃ v10 : Int, ∃ v11 : Int, ∃ v12 : Int, ∃ v13 : Int, ∃ v14 : Int, Spec Tryz.prog glass_Between_s ⟨[x0, x1, x2, x3, x4, x5, x6, x7, x8], [], [f0, f1, f2]⟩ [v10, v11, v12, v13, v14] [] [] ∧
 ((((v14 : Int) == 0) = true → ((decide ((x7 : Int) ≤ x9) = true → ((decide ((x9 : Int) ≤ x8) = true → (∃ v15 : Int, ∃ v16 : Int, ∃ v17 : Int, Spec Tryz.prog glass_At_s ⟨[x0, x1, x2, x3, x4, x5, x6, x9], [], [f0, f1, f2]⟩ [v15, v16, v17] [] [] ∧
 (∃ v18 : Int, ∃ v19 : Int, ∃ v20 : Int, ∃ v21 : Int, ∃ v22 : Int, Spec Tryz.prog glass_Between_s ⟨[x0, x1, x2, x3, x4, x5, x6, x9, x8], [], [f0, f1, f2]⟩ [v18, v19, v20, v21, v22] [] [] ∧
 ((((v17 : Int) == 0) = true → ((((v22 : Int) == 0) = true → ((decide ((v10 : Int) ≤ v15) = true → ((decide ((v15 : Int) ≤ v11) = true → ((decide ((v10 : Int) ≤ v18) = true → ((decide ((v19 : Int) ≤ v11) = true → ((decide ((v18 : Int) ≤ v15) = true → ((decide ((v15 : Int) ≤ v19) = true → ((decide ((v12 : Int) ≤ v16) = true → ((decide ((v16 : Int) ≤ v13) = true → ((decide ((v12 : Int) ≤ v20) = true → ((decide ((v21 : Int) ≤ v13) = true → ((decide ((v20 : Int) ≤ v16) = true → ((decide ((v16 : Int) ≤ v21) = true → R (true)) ∧
 (decide ((v16 : Int) ≤ v21) = false → R (false)))) ∧
 (decide ((v20 : Int) ≤ v16) = false → R (false)))) ∧
 (decide ((v21 : Int) ≤ v13) = false → R (false)))) ∧
 (decide ((v12 : Int) ≤ v20) = false → R (false)))) ∧
 (decide ((v16 : Int) ≤ v13) = false → R (false)))) ∧
 (decide ((v12 : Int) ≤ v16) = false → R (false)))) ∧
 (decide ((v15 : Int) ≤ v19) = false → R (false)))) ∧
 (decide ((v18 : Int) ≤ v15) = false → R (false)))) ∧
 (decide ((v19 : Int) ≤ v11) = false → R (false)))) ∧
 (decide ((v10 : Int) ≤ v18) = false → R (false)))) ∧
 (decide ((v15 : Int) ≤ v11) = false → R (false)))) ∧
 (decide ((v10 : Int) ≤ v15) = false → R (false)))) ∧
 (((v22 : Int) == 0) = false → R (false)))) ∧
 (((v17 : Int) == 0) = false → R (false)))))) ∧
 (decide ((x9 : Int) ≤ x8) = false → R (true)))) ∧
 (decide ((x7 : Int) ≤ x9) = false → R (true)))) ∧
 (((v14 : Int) == 0) = false → R (((((v10 : Int) == 0) && ((v11 : Int) == 0)) && (((v12 : Int) == 0) && ((v13 : Int) == 0)))))))) ∧
 (decide (((NOp.den .sLen x0 0) : Int) ≤ 20) = false → R (true)))) ∧
 (decide ((x4 : Int) ≤ 12) = false → ((decide ((64 : Int) ≤ x4) = true → ((decide ((x4 : Int) ≤ 66) = true → ((decide (((NOp.den .sLen x0 0) : Int) ≤ 20) = true → (∃ v10 : Int, ∃ v11 : Int, ∃ v12 : Int, ∃ v13 : Int, ∃ v14 : Int, Spec Tryz.prog glass_Between_s ⟨[x0, x1, x2, x3, x4, x5, x6, x7, x8], [], [f0, f1, f2]⟩ [v10, v11, v12, v13, v14] [] [] ∧
 ((((v14 : Int) == 0) = true → ((decide ((x7 : Int) ≤ x9) = true → ((decide ((x9 : Int) ≤ x8) = true → (∃ v15 : Int, ∃ v16 : Int, ∃ v17 : Int, Spec Tryz.prog glass_At_s ⟨[x0, x1, x2, x3, x4, x5, x6, x9], [], [f0, f1, f2]⟩ [v15, v16, v17] [] [] ∧
 (∃ v18 : Int, ∃ v19 : Int, ∃ v20 : Int, ∃ v21 : Int, ∃ v22 : Int, Spec Tryz.prog glass_Between_s ⟨[x0, x1, x2, x3, x4, x5, x6, x9, x8], [], [f0, f1, f2]⟩ [v18, v19, v20, v21, v22] [] [] ∧
 ((((v17 : Int) == 0) = true → ((((v22 : Int) == 0) = true → ((decide ((v10 : Int) ≤ v15) = true → ((decide ((v15 : Int) ≤ v11) = true → ((decide ((v10 : Int) ≤ v18) = true → ((decide ((v19 : Int) ≤ v11) = true → ((decide ((v18 : Int) ≤ v15) = true → ((decide ((v15 : Int) ≤ v19) = true → ((decide ((v12 : Int) ≤ v16) = true → ((decide ((v16 : Int) ≤ v13) = true → ((decide ((v12 : Int) ≤ v20) = true → ((decide ((v21 : Int) ≤ v13) = true → ((decide ((v20 : Int) ≤ v16) = true → ((decide ((v16 : Int) ≤ v21) = true → R (true)) ∧
 (decide ((v16 : Int) ≤ v21) = false → R (false)))) ∧
 (decide ((v20 : Int) ≤ v16) = false → R (false)))) ∧
 (decide ((v21 : Int) ≤ v13) = false → R (false)))) ∧
 (decide ((v12 : Int) ≤ v20) = false → R (false)))) ∧
 (decide ((v16 : Int) ≤ v13) = false → R (false)))) ∧
 (decide ((v12 : Int) ≤ v16) = false → R (false)))) ∧
 (decide ((v15 : Int) ≤ v19) = false → R (false)))) ∧
 (decide ((v18 : Int) ≤ v15) = false → R (false)))) ∧
 (decide ((v19 : Int) ≤ v11) = false → R (false)))) ∧
 (decide ((v10 : Int) ≤ v18) = false → R (false)))) ∧
 (decide ((v15 : Int) ≤ v11) = false → R (false)))) ∧
 (decide ((v10 : Int) ≤ v15) = false → R (false)))) ∧
 (((v22 : Int) == 0) = false → R (false)))) ∧
 (((v17 : Int) == 0) = false → R (false)))))) ∧
 (decide ((x9 : Int) ≤ x8) = false → R (true)))) ∧
 (decide ((x7 : Int) ≤ x9) = false → R (true)))) ∧
 (((v14 : Int) == 0) = false → R (((((v10 : Int) == 0) && ((v11 : Int) == 0)) && (((v12 : Int) == 0) && ((v13 : Int) == 0)))))))) ∧
 (decide (((NOp.den .sLen x0 0) : Int) ≤ 20) = false → R (true)))) ∧
 (decide ((x4 : Int) ≤ 66) = false → R (true)))) ∧
 (decide ((64 : Int) ≤ x4) = false → R (true)))))) ∧
 (decide ((x3 : Int) ≤ 12) = false → ((decide ((64 : Int) ≤ x3) = true → ((decide ((x3 : Int) ≤ 66) = true → ((decide ((x4 : Int) ≤ 12) = true → ((decide (((NOp.den .sLen x0 0) : Int) ≤ 20) = true → (∃ v10 : Int, ∃ v11 : Int, ∃ v12 : Int, ∃ v13 : Int, ∃ v14 : Int, Spec Tryz.prog glass_Between_s ⟨[x0, x1, x2, x3, x4, x5, x6, x7, x8], [], [f0, f1, f2]⟩ [v10, v11, v12, v13, v14] [] [] ∧
 ((((v14 : Int) == 0) = true → ((decide ((x7 : Int) ≤ x9) = true → ((decide ((x9 : Int) ≤ x8) = true → (∃ v15 : Int, ∃ v16 : Int, ∃ v17 : Int, Spec Tryz.prog glass_At_s ⟨[x0, x1, x2, x3, x4, x5, x6, x9], [], [f0, f1, f2]⟩ [v15, v16, v17] [] [] ∧
 (∃ v18 : Int, ∃ v19 : Int, ∃ v20 : Int, ∃ v21 : Int, ∃ v22 : Int, Spec Tryz.prog glass_Between_s ⟨[x0, x1, x2, x3, x4, x5, x6, x9, x8], [], [f0, f1, f2]⟩ [v18, v19, v20, v21, v22] [] [] ∧
 ((((v17 : Int) == 0) = true → ((((v22 : Int) == 0) = true → ((decide ((v10 : Int) ≤ v15) = true → ((decide ((v15 : Int) ≤ v11) = true → ((decide ((v10 : Int) ≤ v18) = true → ((decide ((v19 : Int) ≤ v11) = true → ((decide ((v18 : Int) ≤ v15) = true → ((decide ((v15 : Int) ≤ v19) = true → ((decide ((v12 : Int) ≤ v16) = true → ((decide ((v16 : Int) ≤ v13) = true → ((decide ((v12 : Int) ≤ v20) = true → ((decide ((v21 : Int) ≤ v13) = true → ((decide ((v20 : Int) ≤ v16) = true → ((decide ((v16 : Int) ≤ v21) = true → R (true)) ∧
 (decide ((v16 : Int) ≤ v21) = false → R (false)))) ∧
 (decide ((v20 : Int) ≤ v16) = false → R (false)))) ∧
 (decide ((v21 : Int) ≤ v13) = false → R (false)))) ∧
 (decide ((v12 : Int) ≤ v20) = false → R (false)))) ∧
 (decide ((v16 : Int) ≤ v13) = false → R (false)))) ∧
 (decide ((v12 : Int) ≤ v16) = false → R (false)))) ∧
 (decide ((v15 : Int) ≤ v19) = false → R (false)))) ∧
 (decide ((v18 : Int) ≤ v15) = false → R (false)))) ∧
 (decide ((v19 : Int) ≤ v11) = false → R (false)))) ∧
 (decide ((v10 : Int) ≤ v18) = false → R (false)))) ∧
 (decide ((v15 : Int) ≤ v11) = false → R (false)))) ∧
 (decide ((v10 : Int) ≤ v15) = false → R (false)))) ∧
 (((v22 : Int) == 0) = false → R (false)))) ∧
 (((v17 : Int) == 0) = false → R (false)))))) ∧
 (decide ((x9 : Int) ≤ x8) = false → R (true)))) ∧
 (decide ((x7 : Int) ≤ x9) = false → R (true)))) ∧
 (((v14 : Int) == 0) = false → R (((((v10 : Int) == 0) && ((v11 : Int) == 0)) && (((v12 : Int) == 0) && ((v13 : Int) == 0)))))))) ∧
 (decide (((NOp.den .sLen x0 0) : Int) ≤ 20) = false → R (true)))) ∧
 (decide ((x4 : Int) ≤ 12) = false → ((decide ((64 : Int) ≤ x4) = true → ((decide ((x4 : Int) ≤ 66) = true → ((decide (((NOp.den .sLen x0 0) : Int) ≤ 20) = true → (∃ v10 : Int, ∃ v11 : Int, ∃ v12 : Int, ∃ v13 : Int, ∃ v14 : Int, Spec Tryz.prog glass_Between_s ⟨[x0, x1, x2, x3, x4, x5, x6, x7, x8], [], [f0, f1, f2]⟩ [v10, v11, v12, v13, v14] [] [] ∧
 ((((v14 : Int) == 0) = true → ((decide ((x7 : Int) ≤ x9) = true → ((decide ((x9 : Int) ≤ x8) = true → (∃ v15 : Int, ∃ v16 : Int, ∃ v17 : Int, Spec Tryz.prog glass_At_s ⟨[x0, x1, x2, x3, x4, x5, x6, x9], [], [f0, f1, f2]⟩ [v15, v16, v17] [] [] ∧
 (∃ v18 : Int, ∃ v19 : Int, ∃ v20 : Int, ∃ v21 : Int, ∃ v22 : Int, Spec Tryz.prog glass_Between_s ⟨[x0, x1, x2, x3, x4, x5, x6, x9, x8], [], [f0, f1, f2]⟩ [v18, v19, v20, v21, v22] [] [] ∧
 ((((v17 : Int) == 0) = true → ((((v22 : Int) == 0) = true → ((decide ((v10 : Int) ≤ v15) = true → ((decide ((v15 : Int) ≤ v11) = true → ((decide ((v10 : Int) ≤ v18) = true → ((decide ((v19 : Int) ≤ v11) = true → ((decide ((v18 : Int) ≤ v15) = true → ((decide ((v15 : Int) ≤ v19) = true → ((decide ((v12 : Int) ≤ v16) = true → ((decide ((v16 : Int) ≤ v13) = true → ((decide ((v12 : Int) ≤ v20) = true → ((decide ((v21 : Int) ≤ v13) = true → ((decide ((v20 : Int) ≤ v16) = true → ((decide ((v16 : Int) ≤ v21) = true → R (true)) ∧
 (decide ((v16 : Int) ≤ v21) = false → R (false)))) ∧
 (decide ((v20 : Int) ≤ v16) = false → R (false)))) ∧
 (decide ((v21 : Int) ≤ v13) = false → R (false)))) ∧
 (decide ((v12 : Int) ≤ v20) = false → R (false)))) ∧
 (decide ((v16 : Int) ≤ v13) = false → R (false)))) ∧
 (decide ((v12 : Int) ≤ v16) = false → R (false)))) ∧
 (decide ((v15 : Int) ≤ v19) = false → R (false)))) ∧
 (decide ((v18 : Int) ≤ v15) = false → R (false)))) ∧
 (decide ((v19 : Int) ≤ v11) = false → R (false)))) ∧
 (decide ((v10 : Int) ≤ v18) = false → R (false)))) ∧
 (decide ((v15 : Int) ≤ v11) = false → R (false)))) ∧
 (decide ((v10 : Int) ≤ v15) = false → R (false)))) ∧
 (((v22 : Int) == 0) = false → R (false)))) ∧
 (((v17 : Int) == 0) = false → R (false)))))) ∧
 (decide ((x9 : Int) ≤ x8) = false → R (true)))) ∧
 (decide ((x7 : Int) ≤ x9) = false → R (true)))) ∧
 (((v14 : Int) == 0) = false → R (((((v10 : Int) == 0) && ((v11 : Int) == 0)) && (((v12 : Int) == 0) && ((v13 : Int) == 0)))))))) ∧
 (decide (((NOp.den .sLen x0 0) : Int) ≤ 20) = false → R (true)))) ∧
 (decide ((x4 : Int) ≤ 66) = false → R (true)))) ∧
 (decide ((64 : Int) ≤ x4) = false → R (true)))))) ∧
 (decide ((x3 : Int) ≤ 66) = false → R (true)))) ∧
 (decide ((64 : Int) ≤ x3) = false → R (true)))))) ∧
 (decide ((x2 : Int) ≤ 12) = false → ((decide ((64 : Int) ≤ x2) = true → ((decide ((x2 : Int) ≤ 66) = true → ((decide ((x3 : Int) ≤ 12) = true → ((decide ((x4 : Int) ≤ 12) = true → ((decide (((NOp.den .sLen x0 0) : Int) ≤ 20) = true → (∃ v10 : Int, ∃ v11 : Int, ∃ v12 : Int, ∃ v13 : Int, ∃ v14 : Int, Spec Tryz.prog glass_Between_s ⟨[x0, x1, x2, x3, x4, x5, x6, x7, x8], [], [f0, f1, f2]⟩ [v10, v11, v12, v13, v14] [] [] ∧
 ((((v14 : Int) == 0) = true → ((decide ((x7 : Int) ≤ x9) = true → ((decide ((x9 : Int) ≤ x8) = true → (∃ v15 : Int, ∃ v16 : Int, ∃ v17 : Int, Spec Tryz.prog glass_At_s ⟨[x0, x1, x2, x3, x4, x5, x6, x9], [], [f0, f1, f2]⟩ [v15, v16, v17] [] [] ∧
 (∃ v18 : Int, ∃ v19 : Int, ∃ v20 : Int, ∃ v21 : Int, ∃ v22 : Int, Spec Tryz.prog glass_Between_s ⟨[x0, x1, x2, x3, x4, x5, x6, x9, x8], [], [f0, f1, f2]⟩ [v18, v19, v20, v21, v22] [] [] ∧
 ((((v17 : Int) == 0) = true → ((((v22 : Int) == 0) = true → ((decide ((v10 : Int) ≤ v15) = true → ((decide ((v15 : Int) ≤ v11) = true → ((decide ((v10 : Int) ≤ v18) = true → ((decide ((v19 : Int) ≤ v11) = true → ((decide ((v18 : Int) ≤ v15) = true → ((decide ((v15 : Int) ≤ v19) = true → ((decide ((v12 : Int) ≤ v16) = true → ((decide ((v16 : Int) ≤ v13) = true → ((decide ((v12 : Int) ≤ v20) = true → ((decide ((v21 : Int) ≤ v13) = true → ((decide ((v20 : Int) ≤ v16) = true → ((decide ((v16 : Int) ≤ v21) = true → R (true)) ∧
 (decide ((v16 : Int) ≤ v21) = false → R (false)))) ∧
 (decide ((v20 : Int) ≤ v16) = false → R (false)))) ∧
 (decide ((v21 : Int) ≤ v13) = false → R (false)))) ∧
 (decide ((v12 : Int) ≤ v20) = false → R (false)))) ∧
 (decide ((v16 : Int) ≤ v13) = false → R (false)))) ∧
 (decide ((v12 : Int) ≤ v16) = false → R (false)))) ∧
 (decide ((v15 : Int) ≤ v19) = false → R (false)))) ∧
 (decide ((v18 : Int) ≤ v15) = false → R (false)))) ∧
 (decide ((v19 : Int) ≤ v11) = false → R (false)))) ∧
 (decide ((v10 : Int) ≤ v18) = false → R (false)))) ∧
 (decide ((v15 : Int) ≤ v11) = false → R (false)))) ∧
 (decide ((v10 : Int) ≤ v15) = false → R (false)))) ∧
 (((v22 : Int) == 0) = false → R (false)))) ∧
 (((v17 : Int) == 0) = false → R (false)))))) ∧
 (decide ((x9 : Int) ≤ x8) = false → R (true)))) ∧
 (decide ((x7 : Int) ≤ x9) = false → R (true)))) ∧
 (((v14 : Int) == 0) = false → R (((((v10 : Int) == 0) && ((v11 : Int) == 0)) && (((v12 : Int) == 0) && ((v13 : Int) == 0)))))))) ∧
 (decide (((NOp.den .sLen x0 0) : Int) ≤ 20) = false → R (true)))) ∧
 (decide ((x4 : Int) ≤ 12) = false → ((decide ((64 : Int) ≤ x4) = true → ((decide ((x4 : Int) ≤ 66) = true → ((decide (((NOp.den .sLen x0 0) : Int) ≤ 20) = true → (∃ v10 : Int, ∃ v11 : Int, ∃ v12 : Int, ∃ v13 : Int, ∃ v14 : Int, Spec Tryz.prog glass_Between_s ⟨[x0, x1, x2, x3, x4, x5, x6, x7, x8], [], [f0, f1, f2]⟩ [v10, v11, v12, v13, v14] [] [] ∧
 ((((v14 : Int) == 0) = true → ((decide ((x7 : Int) ≤ x9) = true → ((decide ((x9 : Int) ≤ x8) = true → (∃ v15 : Int, ∃ v16 : Int, ∃ v17 : Int, Spec Tryz.prog glass_At_s ⟨[x0, x1, x2, x3, x4, x5, x6, x9], [], [f0, f1, f2]⟩ [v15, v16, v17] [] [] ∧
 (∃ v18 : Int, ∃ v19 : Int, ∃ v20 : Int, ∃ v21 : Int, ∃ v22 : Int, Spec Tryz.prog glass_Between_s ⟨[x0, x1, x2, x3, x4, x5, x6, x9, x8], [], [f0, f1, f2]⟩ [v18, v19, v20, v21, v22] [] [] ∧
 ((((v17 : Int) == 0) = true → ((((v22 : Int) == 0) = true → ((decide ((v10 : Int) ≤ v15) = true → ((decide ((v15 : Int) ≤ v11) = true → ((decide ((v10 : Int) ≤ v18) = true → ((decide ((v19 : Int) ≤ v11) = true → ((decide ((v18 : Int) ≤ v15) = true → ((decide ((v15 : Int) ≤ v19) = true → ((decide ((v12 : Int) ≤ v16) = true → ((decide ((v16 : Int) ≤ v13) = true → ((decide ((v12 : Int) ≤ v20) = true → ((decide ((v21 : Int) ≤ v13) = true → ((decide ((v20 : Int) ≤ v16) = true → ((decide ((v16 : Int) ≤ v21) = true → R (true)) ∧
 (decide ((v16 : Int) ≤ v21) = false → R (false)))) ∧
 (decide ((v20 : Int) ≤ v16) = false → R (false)))) ∧
 (decide ((v21 : Int) ≤ v13) = false → R (false)))) ∧
 (decide ((v12 : Int) ≤ v20) = false → R (false)))) ∧
 (decide ((v16 : Int) ≤ v13) = false → R (false)))) ∧
 (decide ((v12 : Int) ≤ v16) = false → R (false)))) ∧
 (decide ((v15 : Int) ≤ v19) = false → R (false)))) ∧
 (decide ((v18 : Int) ≤ v15) = false → R (false)))) ∧
 (decide ((v19 : Int) ≤ v11) = false → R (false)))) ∧
 (decide ((v10 : Int) ≤ v18) = false → R (false)))) ∧
 (decide ((v15 : Int) ≤ v11) = false → R (false)))) ∧
 (decide ((v10 : Int) ≤ v15) = false → R (false)))) ∧
 (((v22 : Int) == 0) = false → R (false)))) ∧
 (((v17 : Int) == 0) = false → R (false)))))) ∧
 (decide ((x9 : Int) ≤ x8) = false → R (true)))) ∧
 (decide ((x7 : Int) ≤ x9) = false → R (true)))) ∧
 (((v14 : Int) == 0) = false → R (((((v10 : Int) == 0) && ((v11 : Int) == 0)) && (((v12 : Int) == 0) && ((v13 : Int) == 0)))))))) ∧
 (decide (((NOp.den .sLen x0 0) : Int) ≤ 20) = false → R (true)))) ∧
 (decide ((x4 : Int) ≤ 66) = false → R (true)))) ∧
 (decide ((64 : Int) ≤ x4) = false → R (true)))))) ∧
 (decide ((x3 : Int) ≤ 12) = false → ((decide ((64 : Int) ≤ x3) = true → ((decide ((x3 : Int) ≤ 66) = true → ((decide ((x4 : Int) ≤ 12) = true → ((decide (((NOp.den .sLen x0 0) : Int) ≤ 20) = true → (∃ v10 : Int, ∃ v11 : Int, ∃ v12 : Int, ∃ v13 : Int, ∃ v14 : Int, Spec Tryz.prog glass_Between_s ⟨[x0, x1, x2, x3, x4, x5, x6, x7, x8], [], [f0, f1, f2]⟩ [v10, v11, v12, v13, v14] [] [] ∧
 ((((v14 : Int) == 0) = true → ((decide ((x7 : Int) ≤ x9) = true → ((decide ((x9 : Int) ≤ x8) = true → (∃ v15 : Int, ∃ v16 : Int, ∃ v17 : Int, Spec Tryz.prog glass_At_s ⟨[x0, x1, x2, x3, x4, x5, x6, x9], [], [f0, f1, f2]⟩ [v15, v16, v17] [] [] ∧
 (∃ v18 : Int, ∃ v19 : Int, ∃ v20 : Int, ∃ v21 : Int, ∃ v22 : Int, Spec Tryz.prog glass_Between_s ⟨[x0, x1, x2, x3, x4, x5, x6, x9, x8], [], [f0, f1, f2]⟩ [v18, v19, v20, v21, v22] [] [] ∧
 ((((v17 : Int) == 0) = true → ((((v22 : Int) == 0) = true → ((decide ((v10 : Int) ≤ v15) = true → ((decide ((v15 : Int) ≤ v11) = true → ((decide ((v10 : Int) ≤ v18) = true → ((decide ((v19 : Int) ≤ v11) = true → ((decide ((v18 : Int) ≤ v15) = true → ((decide ((v15 : Int) ≤ v19) = true → ((decide ((v12 : Int) ≤ v16) = true → ((decide ((v16 : Int) ≤ v13) = true → ((decide ((v12 : Int) ≤ v20) = true → ((decide ((v21 : Int) ≤ v13) = true → ((decide ((v20 : Int) ≤ v16) = true → ((decide ((v16 : Int) ≤ v21) = true → R (true)) ∧
 (decide ((v16 : Int) ≤ v21) = false → R (false)))) ∧
 (decide ((v20 : Int) ≤ v16) = false → R (false)))) ∧
 (decide ((v21 : Int) ≤ v13) = false → R (false)))) ∧
 (decide ((v12 : Int) ≤ v20) = false → R (false)))) ∧
 (decide ((v16 : Int) ≤ v13) = false → R (false)))) ∧
 (decide ((v12 : Int) ≤ v16) = false → R (false)))) ∧
 (decide ((v15 : Int) ≤ v19) = false → R (false)))) ∧
 (decide ((v18 : Int) ≤ v15) = false → R (false)))) ∧
 (decide ((v19 : Int) ≤ v11) = false → R (false)))) ∧
 (decide ((v10 : Int) ≤ v18) = false → R (false)))) ∧
 (decide ((v15 : Int) ≤ v11) = false → R (false)))) ∧
 (decide ((v10 : Int) ≤ v15) = false → R (false)))) ∧
 (((v22 : Int) == 0) = false → R (false)))) ∧
 (((v17 : Int) == 0) = false → R (false)))))) ∧
 (decide ((x9 : Int) ≤ x8) = false → R (true)))) ∧
 (decide ((x7 : Int) ≤ x9) = false → R (true)))) ∧
 (((v14 : Int) == 0) = false → R (((((v10 : Int) == 0) && ((v11 : Int) == 0)) && (((v12 : Int) == 0) && ((v13 : Int) == 0)))))))) ∧
 (decide (((NOp.den .sLen x0 0) : Int) ≤ 20) = false → R (true)))) ∧
 (decide ((x4 : Int) ≤ 12) = false → ((decide ((64 : Int) ≤ x4) = true → ((decide ((x4 : Int) ≤ 66) = true → ((decide (((NOp.den .sLen x0 0) : Int) ≤ 20) = true → (∃ v10 : Int, ∃ v11 : Int, ∃ v12 : Int, ∃ v13 : Int, ∃ v14 : Int, Spec Tryz.prog glass_Between_s ⟨[x0, x1, x2, x3, x4, x5, x6, x7, x8], [], [f0, f1, f2]⟩ [v10, v11, v12, v13, v14] [] [] ∧
 ((((v14 : Int) == 0) = true → ((decide ((x7 : Int) ≤ x9) = true → ((decide ((x9 : Int) ≤ x8) = true → (∃ v15 : Int, ∃ v16 : Int, ∃ v17 : Int, Spec Tryz.prog glass_At_s ⟨[x0, x1, x2, x3, x4, x5, x6, x9], [], [f0, f1, f2]⟩ [v15, v16, v17] [] [] ∧
 (∃ v18 : Int, ∃ v19 : Int, ∃ v20 : Int, ∃ v21 : Int, ∃ v22 : Int, Spec Tryz.prog glass_Between_s ⟨[x0, x1, x2, x3, x4, x5, x6, x9, x8], [], [f0, f1, f2]⟩ [v18, v19, v20, v21, v22] [] [] ∧
 ((((v17 : Int) == 0) = true → ((((v22 : Int) == 0) = true → ((decide ((v10 : Int) ≤ v15) = true → ((decide ((v15 : Int) ≤ v11) = true → ((decide ((v10 : Int) ≤ v18) = true → ((decide ((v19 : Int) ≤ v11) = true → ((decide ((v18 : Int) ≤ v15) = true → ((decide ((v15 : Int) ≤ v19) = true → ((decide ((v12 : Int) ≤ v16) = true → ((decide ((v16 : Int) ≤ v13) = true → ((decide ((v12 : Int) ≤ v20) = true → ((decide ((v21 : Int) ≤ v13) = true → ((decide ((v20 : Int) ≤ v16) = true → ((decide ((v16 : Int) ≤ v21) = true → R (true)) ∧
 (decide ((v16 : Int) ≤ v21) = false → R (false)))) ∧
 (decide ((v20 : Int) ≤ v16) = false → R (false)))) ∧
 (decide ((v21 : Int) ≤ v13) = false → R (false)))) ∧
 (decide ((v12 : Int) ≤ v20) = false → R (false)))) ∧
 (decide ((v16 : Int) ≤ v13) = false → R (false)))) ∧
 (decide ((v12 : Int) ≤ v16) = false → R (false)))) ∧
 (decide ((v15 : Int) ≤ v19) = false → R (false)))) ∧
 (decide ((v18 : Int) ≤ v15) = false → R (false)))) ∧
 (decide ((v19 : Int) ≤ v11) = false → R (false)))) ∧
 (decide ((v10 : Int) ≤ v18) = false → R (false)))) ∧
 (decide ((v15 : Int) ≤ v11) = false → R (false)))) ∧
 (decide ((v10 : Int) ≤ v15) = false → R (false)))) ∧
 (((v22 : Int) == 0) = false → R (false)))) ∧
 (((v17 : Int) == 0) = false → R (false)))))) ∧
 (decide ((x9 : Int) ≤ x8) = false → R (true)))) ∧
 (decide ((x7 : Int) ≤ x9) = false → R (true)))) ∧
 (((v14 : Int) == 0) = false → R (((((v10 : Int) == 0) && ((v11 : Int) == 0)) && (((v12 : Int) == 0) && ((v13 : Int) == 0)))))))) ∧
 (decide (((NOp.den .sLen x0 0) : Int) ≤ 20) = false → R (true)))) ∧
 (decide ((x4 : Int) ≤ 66) = false → R (true)))) ∧
 (decide ((64 : Int) ≤ x4) = false → R (true)))))) ∧
 (decide ((x3 : Int) ≤ 66) = false → R (true)))) ∧
 (decide ((64 : Int) ≤ x3) = false → R (true)))))) ∧
 (decide ((x2 : Int) ≤ 66) = false → R (true)))) ∧
 (decide ((64 : Int) ≤ x2) = false → R (true)))))) ∧
 (u0 = false → R (false))))) :
 ∃ u0 : Bool, R u0 ∧ Spec Tryz.prog etalonlaw02_GlassWithin_s ⟨[x0, x1, x2, x3, x4, x5, x6, x7, x8, x9], [], [f0, f1, f2]⟩ [] [u0] [] :=
 Eq.mp (by kernel_rfl) (exV_of (K := fun d => app3 etalonlaw02_GlassWithin_s.out R d ∧ Spec Tryz.prog etalonlaw02_GlassWithin_s ⟨[x0, x1, x2, x3, x4, x5, x6, x7, x8, x9], [], [f0, f1, f2]⟩ d.1 d.2.1 d.2.2) (tree_at mixed names S2_ok (S := S2 Tryz.prog) (lf := 100000) (d := 60) etalonlaw02_GlassWithin_s gwi_t { ivs := [(1, (-9223372036854775808), 9223372036854775807), (2, 0, 9223372036854775807), (3, 0, 9223372036854775807), (4, 0, 9223372036854775807), (5, (-9223372036854775808), 9223372036854775807), (6, (-9223372036854775808), 9223372036854775807), (7, (-9223372036854775808), 9223372036854775807), (8, (-9223372036854775808), 9223372036854775807), (9, (-9223372036854775808), 9223372036854775807)], aivs := [(0, (-9223372036854775808), 9223372036854775807)] } ⟨[x0, x1, x2, x3, x4, x5, x6, x7, x8, x9], [], [f0, f1, f2]⟩ rfl (by kernel_rfl) (by kernel_rfl) (chk_split _ [true, true, true] gwi_p0 (chk_split _ [true, true, false, true, true] gwi_p1 (chk_split _ [true, false, true, true, true] gwi_p2 (chk_split _ [true, false, true, true, false, true, true] gwi_p3 gwi_p4)))) ⟨(fc r1 (fc r2 (fc r3 (fc r4 (fc r5 (fc r6 (fc r7 (fc r8 (fc r9 fz))))))))), fz, (fc s0 fz), fz⟩ (R := fun d => app3 etalonlaw02_GlassWithin_s.out R d) (Eq.mp (by kernel_rfl) H)))

open Gp

theorem div_le_cross {a b c d : Int} (hb : 0 < b) (hd : 0 < d) (h : a * d ≤ c * b) : a / b ≤ c / d := by

  have e1 : a / b = (a * d) / (b * d) := (Int.mul_ediv_mul_of_pos_left a b hd).symm

  have e2 : c / d = (c * b) / (d * b) := (Int.mul_ediv_mul_of_pos_left c d hb).symm

  rw [e1, e2, Int.mul_comm d b]

  exact Int.ediv_le_ediv (Int.mul_pos hb hd) h

theorem cdiv_le_cross {a b c d : Int} (hb : 0 < b) (hd : 0 < d) (h : a * d ≤ c * b) : cdiv a b ≤ cdiv c d := by

  unfold cdiv

  have := div_le_cross (a := -c) (b := d) (c := -a) (d := b) hd hb (by rw [Int.neg_mul, Int.neg_mul]; omega)

  omega

theorem floor_near {n d : Int} (hd : 0 < d) : n / d ≤ rdiv n d := by

  unfold rdiv

  refine div_le_cross hd (by omega) ?_

  rw [Int.add_mul, show n * (2 * d) = 2 * n * d by rw [← Int.mul_assoc, Int.mul_comm n 2]]

  have := Int.mul_nonneg (show 0 ≤ d by omega) (show 0 ≤ d by omega)

  omega

theorem near_ceil {n d : Int} (hd : 0 < d) : rdiv n d ≤ cdiv n d := by

  have s := cdiv_spec' n hd

  unfold rdiv

  have : (2 * n + d) / (2 * d) < cdiv n d + 1 := by

    rw [Int.ediv_lt_iff_lt_mul (by omega), Int.add_mul, show cdiv n d * (2 * d) = 2 * (d * cdiv n d) by rw [← Int.mul_assoc, Int.mul_comm (cdiv n d) 2, Int.mul_assoc, Int.mul_comm (cdiv n d) d]]

    omega

  omega

/-- The ends and the rows between them. -/

def InW (n : Int) (f : Int → Int) (lo hi v : Int) : Prop := v = lo ∨ v = hi ∨ ∃ i, 0 ≤ i ∧ i < n ∧ v = f i ∧ lo ≤ v ∧ v ≤ hi

theorem mn_le (a b : Int) : mn a b ≤ a ∧ mn a b ≤ b := by unfold mn; split <;> omega

theorem mx_ge (a b : Int) : a ≤ mx a b ∧ b ≤ mx a b := by unfold mx; split <;> omega

theorem bmn_le {A f : Int → Int} {lo hi v : Int} : ∀ (k : Nat), InW k f lo hi v → bf mn A f lo hi k ≤ A v

  | 0, h => by

    unfold bf

    have := mn_le (A hi) (A lo)

    rcases h with rfl | rfl | ⟨i, a, b, _⟩

    · exact this.2

    · exact this.1

    · omega

  | k + 1, h => by

    have step : bf mn A f lo hi (k + 1) ≤ bf mn A f lo hi k := by

      rw [bf]; split

      · exact (mn_le _ _).2

      · exact Int.le_refl _

    rcases h with h | h | ⟨i, a, b, c, d, e⟩

    · exact Int.le_trans step (bmn_le k (Or.inl h))

    · exact Int.le_trans step (bmn_le k (Or.inr (Or.inl h)))

    · rcases Int.lt_or_eq_of_le (show i ≤ k by omega) with g | g

      · exact Int.le_trans step (bmn_le k (Or.inr (Or.inr ⟨i, a, g, c, d, e⟩)))

      · subst g

        rw [bf, if_pos (by rw [← c]; exact ⟨d, e⟩), c]

        exact (mn_le _ _).1

theorem bmx_ge {A f : Int → Int} {lo hi v : Int} : ∀ (k : Nat), InW k f lo hi v → A v ≤ bf mx A f lo hi k

  | 0, h => by

    unfold bf

    have := mx_ge (A hi) (A lo)

    rcases h with rfl | rfl | ⟨i, a, b, _⟩

    · exact this.2

    · exact this.1

    · omega

  | k + 1, h => by

    have step : bf mx A f lo hi k ≤ bf mx A f lo hi (k + 1) := by

      rw [bf]; split

      · exact (mx_ge _ _).2

      · exact Int.le_refl _

    rcases h with h | h | ⟨i, a, b, c, d, e⟩

    · exact Int.le_trans (bmx_ge k (Or.inl h)) step

    · exact Int.le_trans (bmx_ge k (Or.inr (Or.inl h))) step

    · rcases Int.lt_or_eq_of_le (show i ≤ k by omega) with g | g

      · exact Int.le_trans (bmx_ge k (Or.inr (Or.inr ⟨i, a, g, c, d, e⟩))) step

      · subst g

        rw [bf, if_pos (by rw [← c]; exact ⟨d, e⟩), c]

        exact (mx_ge _ _).1

theorem bf_is {op : Int → Int → Int} (ho : ∀ a b, op a b = a ∨ op a b = b) {A f : Int → Int} {lo hi : Int} : ∀ (k : Nat), ∃ v, InW k f lo hi v ∧ bf op A f lo hi k = A v

  | 0 => by

    rcases ho (A hi) (A lo) with h | h

    · exact ⟨hi, Or.inr (Or.inl rfl), h⟩

    · exact ⟨lo, Or.inl rfl, h⟩

  | k + 1 => by

    obtain ⟨v, hv, e⟩ := bf_is ho (A := A) (f := f) (lo := lo) (hi := hi) k

    have up : InW ((k + 1 : Nat) : Int) f lo hi v := by

      rcases hv with h | h | ⟨i, a, b, c⟩

      · exact Or.inl h

      · exact Or.inr (Or.inl h)

      · exact Or.inr (Or.inr ⟨i, a, by omega, c⟩)

    by_cases g : lo ≤ f k ∧ f k ≤ hi

    · rw [bf, if_pos g]

      rcases ho (A (f k)) (bf op A f lo hi k) with h | h

      · exact ⟨f k, Or.inr (Or.inr ⟨k, by omega, by omega, rfl, g⟩), h⟩

      · exact ⟨v, up, by rw [h, e]⟩

    · rw [bf, if_neg g]

      exact ⟨v, up, e⟩

theorem mn_or (a b : Int) : mn a b = a ∨ mn a b = b := by unfold mn; split <;> simp

theorem mx_or (a b : Int) : mx a b = a ∨ mx a b = b := by unfold mx; split <;> simp

theorem inW_sub {n lo hi w v : Int} {f : Int → Int} (h0 : lo ≤ w) (h1 : w ≤ hi) (h : InW n f w hi v) : v = w ∨ InW n f lo hi v := by

  rcases h with h | h | ⟨i, a, b, c, d, e⟩

  · exact Or.inl h

  · exact Or.inr (Or.inr (Or.inl h))

  · exact Or.inr (Or.inr (Or.inr ⟨i, a, b, c, by omega, e⟩))

/-- On the stretch between two rows all that is told lies on a line. -/

theorem seg {n v r M N D : Int} {f c : Int → Int} (hr : Rises n f) (hn : 1 ≤ n) (hf : ∀ i, 0 ≤ i → i < n → 1000 ≤ f i ∧ f i ≤ 200000) (hc : ∀ i, 0 ≤ i → i < n → 0 ≤ c i ∧ c i ≤ M)

    (g0 : 0 ≤ r) (g1 : r + 1 < n) (a : f r ≤ v) (b : v ≤ f (r + 1)) (hw : f 0 ≤ v) (hw' : v ≤ f (n - 1)) (hp : PTold n f c v N D) : 0 < D ∧ 0 < f (r + 1) - f r ∧ N * (f (r + 1) - f r) = tol c f v r * D := by

  have up := hr (r + 1) (by omega) g1

  rw [show r + 1 - 1 = r by omega] at up

  have main {N' D' : Int} (h : RTold n f c v N' D') (h' : N' * (f (r + 1) - f r) = tol c f v r * D') (hD : 0 < D') : 0 < D ∧ 0 < f (r + 1) - f r ∧ N * (f (r + 1) - f r) = tol c f v r * D := by

    obtain ⟨e, t, _⟩ := told_same hr hn hf hc hw hw' hp h

    refine ⟨t.pos, by omega, ?_⟩

    have k : (N * (f (r + 1) - f r)) * D' = (tol c f v r * D) * D' := by

      rw [Int.mul_right_comm, e, Int.mul_right_comm N', h', Int.mul_right_comm]

    exact Int.eq_of_mul_eq_mul_right (by omega) k

  by_cases h : v < f (r + 1)

  · by_cases h' : f r = v

    · refine main (N' := c r) (D' := 1) ⟨r, ⟨g0, by omega, Or.inr a, Or.inr h⟩, Or.inl ⟨h', rfl, rfl⟩⟩ ?_ (by decide)

      unfold tol; rw [h', Int.sub_self, Int.mul_zero, Int.add_zero, Int.mul_one]

    · exact main ⟨r, ⟨g0, by omega, Or.inr a, Or.inr h⟩, Or.inr ⟨h', rfl, rfl⟩⟩ rfl (by omega)

  · have e : f (r + 1) = v := by omega

    have row : IsRow n f v (r + 1) := by

      refine ⟨by omega, g1, Or.inr (by omega), ?_⟩

      rcases Int.lt_or_eq_of_le (show r + 1 + 1 ≤ n by omega) with g | g

      · have := hr (r + 1 + 1) (by omega) g

        rw [show r + 1 + 1 - 1 = r + 1 by omega] at this

        exact Or.inr (by omega)

      · exact Or.inl g

    refine main (N' := c (r + 1)) (D' := 1) ⟨r + 1, row, Or.inl ⟨e, rfl, rfl⟩⟩ ?_ (by decide)

    unfold tol; rw [← e, Int.sub_self, Int.mul_zero, Int.zero_add, Int.mul_one]

theorem tol_mono {c f : Int → Int} {r v w : Int} (h : v ≤ w) : (c r ≤ c (r + 1) → tol c f v r ≤ tol c f w r) ∧ (c (r + 1) ≤ c r → tol c f w r ≤ tol c f v r) := by

  unfold tol

  have e : c r * (f (r + 1) - w) + c (r + 1) * (w - f r) - (c r * (f (r + 1) - v) + c (r + 1) * (v - f r)) = (c (r + 1) - c r) * (w - v) := by

    rw [Int.mul_sub, Int.mul_sub, Int.mul_sub, Int.mul_sub, Int.sub_mul, Int.mul_sub, Int.mul_sub]; omega

  constructor <;> intro g

  · have := Int.mul_nonneg (show 0 ≤ c (r + 1) - c r by omega) (show 0 ≤ w - v by omega); omega

  · have := Int.mul_nonneg (show 0 ≤ c r - c (r + 1) by omega) (show 0 ≤ w - v by omega)

    rw [Int.sub_mul] at this e; omega

/-- What is told lies between what is told at ends and rows. -/

theorem sand {n w lo hi M : Int} {f c : Int → Int} {N D : Int → Int} (hr : Rises n f) (hn : 1 ≤ n) (hf : ∀ i, 0 ≤ i → i < n → 1000 ≤ f i ∧ f i ≤ 200000) (hc : ∀ i, 0 ≤ i → i < n → 0 ≤ c i ∧ c i ≤ M)

    (hl : f 0 ≤ lo) (hh : hi ≤ f (n - 1)) (h0 : lo ≤ w) (h1 : w ≤ hi) (hp : ∀ v, lo ≤ v → v ≤ hi → PTold n f c v (N v) (D v)) :

    (∃ v, InW n f lo hi v ∧ N v / D v ≤ N w / D w) ∧ (∃ v, InW n f lo hi v ∧ cdiv (N w) (D w) ≤ cdiv (N v) (D v)) := by

  have same (h : InW n f lo hi w) : (∃ v, InW n f lo hi v ∧ N v / D v ≤ N w / D w) ∧ (∃ v, InW n f lo hi v ∧ cdiv (N w) (D w) ≤ cdiv (N v) (D v)) := ⟨⟨w, h, Int.le_refl _⟩, ⟨w, h, Int.le_refl _⟩⟩

  rcases hp w h0 h1 with ⟨h, _⟩ | ⟨h, r, hg, _⟩

  · subst h

    exact same (Or.inl (by simp only [Int.sub_self] at hh; omega))

  · have hr' : f r ≤ w := by rcases hg.2.2.1 with rfl | h; omega; exact h

    have hq' : w ≤ f (r + 1) := by

      rcases hg.2.2.2 with h | h

      · rw [show n - 1 = r + 1 by omega] at hh; omega

      · omega

    have g0 := hg.1; have g1 := hg.2.1

    obtain ⟨p, hpw, hpl, hpr, hpi⟩ : ∃ p, p ≤ w ∧ lo ≤ p ∧ f r ≤ p ∧ InW n f lo hi p := by

      by_cases g : lo ≤ f r

      · exact ⟨f r, hr', g, Int.le_refl _, Or.inr (Or.inr ⟨r, g0, by omega, rfl, g, by omega⟩)⟩

      · exact ⟨lo, h0, Int.le_refl _, by omega, Or.inl rfl⟩

    obtain ⟨q, hqw, hqh, hqr, hqi⟩ : ∃ q, w ≤ q ∧ q ≤ hi ∧ q ≤ f (r + 1) ∧ InW n f lo hi q := by

      by_cases g : f (r + 1) ≤ hi

      · exact ⟨f (r + 1), hq', g, Int.le_refl _, Or.inr (Or.inr ⟨r + 1, by omega, g1, rfl, by omega, g⟩)⟩

      · exact ⟨hi, h1, Int.le_refl _, by omega, Or.inr (Or.inl rfl)⟩

    have val (v : Int) (a : lo ≤ v) (b : v ≤ hi) (a' : f r ≤ v) (b' : v ≤ f (r + 1)) : N v / D v = tol c f v r / (f (r + 1) - f r) ∧ cdiv (N v) (D v) = cdiv (tol c f v r) (f (r + 1) - f r) := by

      obtain ⟨k1, k2, k3⟩ := seg hr hn hf hc g0 g1 a' b' (by omega) (by omega) (hp v a b)

      exact ⟨div_cross k1 k2 k3, cdiv_cross k1 k2 k3⟩

    have up := hr (r + 1) (by omega) g1

    rw [show r + 1 - 1 = r by omega] at up

    have vp := val p hpl (by omega) hpr (by omega)

    have vw := val w h0 h1 hr' hq'

    have vq := val q (by omega) hqh (by omega) hqr

    have le {x y : Int} (h : x ≤ y) : x / (f (r + 1) - f r) ≤ y / (f (r + 1) - f r) ∧ cdiv x (f (r + 1) - f r) ≤ cdiv y (f (r + 1) - f r) := by

      have hs : 0 < f (r + 1) - f r := by omega

      have := Int.mul_le_mul_of_nonneg_right h (show 0 ≤ f (r + 1) - f r by omega)

      exact ⟨div_le_cross hs hs this, cdiv_le_cross hs hs this⟩

    rcases Int.le_total (c r) (c (r + 1)) with g | g

    · have a := le ((tol_mono (c := c) (f := f) (r := r) hpw).1 g)

      have b := le ((tol_mono (c := c) (f := f) (r := r) hqw).1 g)

      exact ⟨⟨p, hpi, by rw [vp.1, vw.1]; exact a.1⟩, ⟨q, hqi, by rw [vq.2, vw.2]; exact b.2⟩⟩

    · have a := le ((tol_mono (c := c) (f := f) (r := r) hqw).2 g)

      have b := le ((tol_mono (c := c) (f := f) (r := r) hpw).2 g)

      exact ⟨⟨q, hqi, by rw [vq.1, vw.1]; exact a.1⟩, ⟨p, hpi, by rw [vp.2, vw.2]; exact b.2⟩⟩

section

variable {x0 x1 x2 x3 x4 x5 x6 : Int} {f0 f1 f2 : Int → Int} {P Q : Int → T4}

theorem sandP {lo hi w : Int} {u : Bool} (hP : ∀ w, wvE x1 x2 f0 w = 0 → Wav x0 x1 x2 x3 x4 x5 x6 f0 f1 f2 w (P w) (Q w)) (r2 : 0 ≤ x2) (hE : (glE u x1 x2 x3 x4 x5 x6 f0 f1 f2).2 = 0) (hB : btE x1 x2 f0 lo hi = 0) (h0 : lo ≤ w) (h1 : w ≤ hi) :

    ((∃ v, InW x2 f0 lo hi v ∧ fA P v ≤ fA P w) ∧ (∃ v, InW x2 f0 lo hi v ∧ fB P w ≤ fB P v)) ∧ ((∃ v, InW x2 f0 lo hi v ∧ fC P v ≤ fC P w) ∧ (∃ v, InW x2 f0 lo hi v ∧ fD P w ≤ fD P v)) := by

  have bt := btE_0 hB

  rcases kind_ok hE with e | e

  · have hE' := hE

    rw [e] at hE'

    have T := (tab_ok r2 hE').2.2

    have cv := bt.2.2 e

    exact ⟨sand (N := fun v => (P v).1) (D := fun v => (P v).2.1) T.up T.one T.wave (fun i a b => ⟨by have := (T.iV i a b).1; omega, (T.iV i a b).2⟩) cv.1.1 cv.2.2 h0 h1 fun v a b => ((hP v (wv_in hB a b)).tab e).2.1,

      sand (N := fun v => (P v).2.2.1) (D := fun v => (P v).2.2.2) T.up T.one T.wave T.lV cv.1.1 cv.2.2 h0 h1 fun v a b => ((hP v (wv_in hB a b)).tab e).2.2⟩

  · have hE' := hE

    rw [e] at hE'

    obtain ⟨_, h5, h6⟩ := form_ok hE'

    have va (v : Int) (a : lo ≤ v) (b : v ≤ hi) := ((hP v (wv_in hB a b)).frm e).2

    obtain ⟨l1, l2, l3, l4⟩ := va lo (by omega) (by omega)

    obtain ⟨w1, w2, w3, w4⟩ := va w h0 h1

    obtain ⟨k1, k2, k3, k4⟩ := va hi (by omega) (by omega)

    have mono {v v' : Int} (a : 1000 ≤ v) (b : v ≤ v') : 0 < v * v ∧ 0 < v' * v' ∧ frN 1 x5 x6 v' * (v * v) ≤ frN 1 x5 x6 v * (v' * v') := by

      have sq : v * v ≤ v' * v' := Int.mul_le_mul b b (by omega) (by omega)

      have p1 : 0 < v * v := Int.mul_pos (by omega) (by omega)

      refine ⟨p1, by omega, ?_⟩

      unfold frN

      rw [Int.add_mul, Int.add_mul, show x5 * (v' * v') * (v * v) = x5 * (v * v) * (v' * v') from Int.mul_right_comm _ _ _]

      have := Int.mul_le_mul_of_nonneg_left sq (show 0 ≤ 1 * x6 * 1000000 by omega)

      omega

    obtain ⟨m1, m2, m3⟩ := mono (v := lo) (v' := w) (by omega) h0

    obtain ⟨n1, n2, n3⟩ := mono (v := w) (v' := hi) (by omega) h1

    refine ⟨⟨⟨hi, Or.inr (Or.inl rfl), ?_⟩, ⟨lo, Or.inl rfl, ?_⟩⟩, ⟨⟨lo, Or.inl rfl, ?_⟩, ⟨lo, Or.inl rfl, ?_⟩⟩⟩

    · unfold fA; rw [k1, k2, w1, w2]; exact div_le_cross n2 n1 n3

    · unfold fB; rw [l1, l2, w1, w2]; exact cdiv_le_cross m2 m1 m3

    · unfold fC; rw [l3, l4, w3, w4]; exact Int.le_refl _

    · unfold fD; rw [l3, l4, w3, w4]; exact Int.le_refl _

/-- All that the law asks. -/

theorem within_all {lo hi w : Int} {u : Bool} (hP : ∀ w, wvE x1 x2 f0 w = 0 → Wav x0 x1 x2 x3 x4 x5 x6 f0 f1 f2 w (P w) (Q w)) (r2 : 0 ≤ x2) (hE : (glE u x1 x2 x3 x4 x5 x6 f0 f1 f2).2 = 0) (hB : btE x1 x2 f0 lo hi = 0) (h0 : lo ≤ w) (h1 : w ≤ hi) :

    ((bf mn (fA P) f0 lo hi x2.toNat ≤ fA P w ∧ fB P w ≤ bf mx (fB P) f0 lo hi x2.toNat) ∧ (bf mn (fC P) f0 lo hi x2.toNat ≤ fC P w ∧ fD P w ≤ bf mx (fD P) f0 lo hi x2.toNat)) ∧

    ((bf mn (fA P) f0 lo hi x2.toNat ≤ bf mn (fA P) f0 w hi x2.toNat ∧ bf mx (fB P) f0 w hi x2.toNat ≤ bf mx (fB P) f0 lo hi x2.toNat) ∧ (bf mn (fC P) f0 lo hi x2.toNat ≤ bf mn (fC P) f0 w hi x2.toNat ∧ bf mx (fD P) f0 w hi x2.toNat ≤ bf mx (fD P) f0 lo hi x2.toNat)) ∧

    ((bf mn (fA P) f0 w hi x2.toNat ≤ fA P w ∧ fB P w ≤ bf mx (fB P) f0 w hi x2.toNat) ∧ (bf mn (fC P) f0 w hi x2.toNat ≤ fC P w ∧ fD P w ≤ bf mx (fD P) f0 w hi x2.toNat)) := by

  have cast : ((x2.toNat : Nat) : Int) = x2 := by omega

  have m {A : Int → Int} {v : Int} (h : InW x2 f0 lo hi v) : bf mn A f0 lo hi x2.toNat ≤ A v := bmn_le _ (by rw [cast]; exact h)

  have g {A : Int → Int} {v : Int} (h : InW x2 f0 lo hi v) : A v ≤ bf mx A f0 lo hi x2.toNat := bmx_ge _ (by rw [cast]; exact h)

  have m' {A : Int → Int} : bf mn A f0 w hi x2.toNat ≤ A w := bmn_le _ (Or.inl rfl)

  have g' {A : Int → Int} : A w ≤ bf mx A f0 w hi x2.toNat := bmx_ge _ (Or.inl rfl)

  obtain ⟨⟨⟨v1, i1, l1⟩, ⟨v2, i2, l2⟩⟩, ⟨⟨v3, i3, l3⟩, ⟨v4, i4, l4⟩⟩⟩ := sandP hP r2 hE hB h0 h1

  have a1 := Int.le_trans (m i1) l1

  have a2 := Int.le_trans l2 (g i2)

  have a3 := Int.le_trans (m i3) l3

  have a4 := Int.le_trans l4 (g i4)

  have sm {A : Int → Int} (h : bf mn A f0 lo hi x2.toNat ≤ A w) : bf mn A f0 lo hi x2.toNat ≤ bf mn A f0 w hi x2.toNat := by

    obtain ⟨v, hv, e⟩ := bf_is mn_or (A := A) (f := f0) (lo := w) (hi := hi) x2.toNat

    rw [cast] at hv

    rw [e]

    rcases inW_sub h0 h1 hv with rfl | hv

    · exact h

    · exact m hv

  have sg {A : Int → Int} (h : A w ≤ bf mx A f0 lo hi x2.toNat) : bf mx A f0 w hi x2.toNat ≤ bf mx A f0 lo hi x2.toNat := by

    obtain ⟨v, hv, e⟩ := bf_is mx_or (A := A) (f := f0) (lo := w) (hi := hi) x2.toNat

    rw [cast] at hv

    rw [e]

    rcases inW_sub h0 h1 hv with rfl | hv

    · exact h

    · exact g hv

  exact ⟨⟨⟨a1, a2⟩, ⟨a3, a4⟩⟩, ⟨⟨sm a1, sg a2⟩, ⟨sm a3, sg a4⟩⟩, ⟨⟨m', g'⟩, ⟨m', g'⟩⟩⟩

theorem at_w {w : Int} {p q : T4} {u : Bool} (W : Wav x0 x1 x2 x3 x4 x5 x6 f0 f1 f2 w p q) (hu : Spec Tryz.prog text_IsName_s ⟨[x0], [], []⟩ [] [u] []) (hE : (glE u x1 x2 x3 x4 x5 x6 f0 f1 f2).2 = 0) (hW : wvE x1 x2 f0 w = 0) (r1 : (-9223372036854775808) ≤ x1 ∧ x1 ≤ 9223372036854775807) (r2 : 0 ≤ x2 ∧ x2 ≤ 140737488355328) (r3 : 0 ≤ x3 ∧ x3 ≤ 140737488355328) (r4 : 0 ≤ x4 ∧ x4 ≤ 140737488355328) (r5 : (-9223372036854775808) ≤ x5 ∧ x5 ≤ 9223372036854775807) (r6 : (-9223372036854775808) ≤ x6 ∧ x6 ≤ 9223372036854775807) (s0 : ∀ q, (-9223372036854775808) ≤ f0 q ∧ f0 q ≤ 9223372036854775807) :

    Spec Tryz.prog glass_At_s ⟨[x0, x1, x2, x3, x4, x5, x6, w], [], [f0, f1, f2]⟩ [rdiv p.1 p.2.1, rdiv p.2.2.1 p.2.2.2, 0] [] [] := by

  have hc := checkGlass_p (f1 := f1) (f2 := f2) hu r1 r2 r3 r4 r5 r6 s0

  rw [hE] at hc

  obtain ⟨hw, hcv⟩ := wvE_0 hW

  have nr {N D : Int} (h : TellsW 80000 N D) : ∃ b : Bool, Spec Tryz.prog whole_Nearest_s ⟨[N, 1, D], [], []⟩ [rdiv N D] [b] [] := by

    have a := h.pos; have b := h.les; have c := h.bd

    have := nearest_s (x := N) (y := 1) (d := D) (DvIn_by (X := 4000000000000000) (Y := 1) (by omega) (by omega) (by decide) (by decide) (by omega) (by omega) (by decide) (by decide) (by decide))

    rw [Int.mul_one] at this

    exact ⟨_, this⟩

  obtain ⟨c1, n1⟩ := nr W.b1

  obtain ⟨c2, n2⟩ := nr W.b2

  obtain ⟨a, l, d, ⟨rfl, rfl, rfl⟩, hs⟩ := at0 (x0 := x0) (x1 := x1) (x2 := x2) (x3 := x3) (x4 := x4) (x5 := x5) (x6 := x6) (x7 := w) (f1 := f1) (f2 := f2) r1 r2 r3 r4 r5 r6 (by omega) s0 (R := fun a l d => a = rdiv p.1 p.2.1 ∧ l = rdiv p.2.2.1 p.2.2.2 ∧ d = 0) (by

    refine ⟨_, _, hc, ?_⟩

    simp only [decide_eq_true_eq, decide_eq_false_iff_not, beq_iff_eq, beq_eq_false_iff_ne, ne_eq]

    rcases kind_ok hE with e | e

    · have hE' := hE

      rw [e] at hE'

      have one := (tab_ok r2.1 hE').2.2.one

      obtain ⟨hl, hh⟩ := hcv e

      exact ⟨fun _ => ⟨fun _ => ⟨fun _ => ⟨fun _ => ⟨fun _ => by omega, fun _ => ⟨by omega, ⟨fun _ => ⟨fun _ => ⟨_, _, _, _, (W.tab e).1, _, _, n1, _, _, n2, by trivial, by trivial, by trivial⟩, fun _ => by omega⟩, fun _ => by omega⟩⟩⟩, fun _ => by omega⟩, fun _ => by omega⟩, fun g => absurd e g⟩, fun g => absurd (by trivial) g⟩

    · exact ⟨fun _ => ⟨fun g => by omega, fun _ => ⟨fun _ => ⟨fun _ => ⟨fun _ => ⟨_, _, _, _, (W.frm e).1, _, _, n1, _, _, n2, by trivial, by trivial, by trivial⟩, fun _ => by omega⟩, fun _ => by omega⟩, fun g => absurd e g⟩⟩, fun g => absurd (by trivial) g⟩)

  exact hs

end

set_option maxHeartbeats 16000000 in

theorem withins {x0 x1 x2 x3 x4 x5 x6 x7 x8 x9 : Int} {f0 f1 f2 : Int → Int} (r1 : (-9223372036854775808) ≤ x1 ∧ x1 ≤ 9223372036854775807) (r2 : 0 ≤ x2 ∧ x2 ≤ 9223372036854775807) (r3 : 0 ≤ x3 ∧ x3 ≤ 9223372036854775807) (r4 : 0 ≤ x4 ∧ x4 ≤ 9223372036854775807) (r5 : (-9223372036854775808) ≤ x5 ∧ x5 ≤ 9223372036854775807) (r6 : (-9223372036854775808) ≤ x6 ∧ x6 ≤ 9223372036854775807) (r7 : (-9223372036854775808) ≤ x7 ∧ x7 ≤ 9223372036854775807) (r8 : (-9223372036854775808) ≤ x8 ∧ x8 ≤ 9223372036854775807) (r9 : (-9223372036854775808) ≤ x9 ∧ x9 ≤ 9223372036854775807) (s0 : ∀ q, (-9223372036854775808) ≤ f0 q ∧ f0 q ≤ 9223372036854775807) :

    Spec Tryz.prog etalonlaw02_GlassWithin_s ⟨[x0, x1, x2, x3, x4, x5, x6, x7, x8, x9], [], [f0, f1, f2]⟩ [] [true] [] := by

  obtain ⟨a0, rfl, ha⟩ := awake

  obtain ⟨u, _, hp, hr⟩ := isName_s x0

  obtain ⟨w, rfl, hs⟩ : ∃ u0 : Bool, u0 = true ∧ Spec Tryz.prog etalonlaw02_GlassWithin_s ⟨[x0, x1, x2, x3, x4, x5, x6, x7, x8, x9], [], [f0, f1, f2]⟩ [] [u0] [] := by

    by_cases hE : gwE (glE u x1 x2 x3 x4 x5 x6 f0 f1 f2).2 (btE x1 x2 f0 x7 x8) = 0

    · have hE1 : (glE u x1 x2 x3 x4 x5 x6 f0 f1 f2).2 = 0 := by unfold gwE at hE; split at hE; assumption; exact absurd hE (by assumption)

      have hB : btE x1 x2 f0 x7 x8 = 0 := by unfold gwE at hE; rw [if_pos hE1] at hE; exact hE

      have few := right_few hE1 r2.1

      have key (h3 : x3 ≤ 140737488355328) (h4 : x4 ≤ 140737488355328) : ∃ a b c d, Spec Tryz.prog glass_Between_s ⟨[x0, x1, x2, x3, x4, x5, x6, x7, x8], [], [f0, f1, f2]⟩ [a, b, c, d, 0] [] [] ∧ (x7 ≤ x9 → x9 ≤ x8 → ∃ n m a' b' c' d', Spec Tryz.prog glass_At_s ⟨[x0, x1, x2, x3, x4, x5, x6, x9], [], [f0, f1, f2]⟩ [n, m, 0] [] [] ∧ Spec Tryz.prog glass_Between_s ⟨[x0, x1, x2, x3, x4, x5, x6, x9, x8], [], [f0, f1, f2]⟩ [a', b', c', d', 0] [] [] ∧

          ((a ≤ n ∧ n ≤ b) ∧ (c ≤ m ∧ m ≤ d)) ∧ ((a ≤ a' ∧ b' ≤ b) ∧ (c ≤ c' ∧ d' ≤ d)) ∧ ((a' ≤ n ∧ n ≤ b') ∧ (c' ≤ m ∧ m ≤ d'))) := by

        obtain ⟨P, Q, hP⟩ := wavs (x0 := x0) (f1 := f1) (f2 := f2) hE1 r1 ⟨r2.1, by omega⟩ ⟨r3.1, h3⟩ ⟨r4.1, h4⟩ r5 r6 s0

        refine ⟨_, _, _, _, between_p hP hp hE1 hB r1 ⟨r2.1, by omega⟩ ⟨r3.1, h3⟩ ⟨r4.1, h4⟩ r5 r6 s0, fun h0 h1 => ?_⟩

        have hW := wv_in hB h0 h1

        have W := hP x9 hW

        have hB' : btE x1 x2 f0 x9 x8 = 0 := by

          have b := btE_0 hB

          unfold btE

          rw [if_neg (by omega), if_neg (by omega), if_neg (by omega)]

        obtain ⟨⟨⟨p1, p2⟩, p3, p4⟩, q, ⟨⟨t1, t2⟩, t3, t4⟩⟩ := within_all hP r2.1 hE1 hB h0 h1

        have n1 := floor_near (n := (P x9).1) W.b1.pos

        have n2 := near_ceil (n := (P x9).1) W.b1.pos

        have n3 := floor_near (n := (P x9).2.2.1) W.b2.pos

        have n4 := near_ceil (n := (P x9).2.2.1) W.b2.pos

        exact ⟨_, _, _, _, _, _, at_w W hp hE1 hW r1 ⟨r2.1, by omega⟩ ⟨r3.1, h3⟩ ⟨r4.1, h4⟩ r5 r6 s0, between_p hP hp hE1 hB' r1 ⟨r2.1, by omega⟩ ⟨r3.1, h3⟩ ⟨r4.1, h4⟩ r5 r6 s0,

          ⟨⟨Int.le_trans p1 n1, Int.le_trans n2 p2⟩, Int.le_trans p3 n3, Int.le_trans n4 p4⟩, q, ⟨⟨Int.le_trans t1 n1, Int.le_trans n2 t2⟩, Int.le_trans t3 n3, Int.le_trans n4 t4⟩⟩

      refine gwi (x0 := x0) (f1 := f1) (f2 := f2) r1 r2 r3 r4 r5 r6 r7 r8 r9 s0 (R := (· = true)) ⟨true, ha, fun _ => ?_, fun h => by cases h⟩

      simp only [decide_eq_true_eq, decide_eq_false_iff_not, beq_iff_eq, beq_eq_false_iff_ne, ne_eq]

      repeat' (first | (refine ⟨fun _ => ?_, fun _ => ?_⟩) | fail)

      all_goals first

        | exact trivial

        | (obtain ⟨a, b, c, d, hb, kk⟩ := key (by omega) (by omega)

           refine ⟨_, _, _, _, _, hb, fun _ => ⟨fun h0 => ⟨fun h1 => ?_, fun _ => trivial⟩, fun _ => trivial⟩, fun g => absurd rfl g⟩

           obtain ⟨n, m, a', b', c', d', hat, hb', ⟨⟨p1, p2⟩, p3, p4⟩, ⟨⟨q1, q2⟩, q3, q4⟩, ⟨⟨t1, t2⟩, t3, t4⟩⟩ := kk h0 h1

           refine ⟨_, _, _, hat, _, _, _, _, _, hb', fun _ => ⟨fun _ => ⟨fun _ => ⟨fun _ => ⟨fun _ => ⟨fun _ => ⟨fun _ => ⟨fun _ => ⟨fun _ => ⟨fun _ => ⟨fun _ => ⟨fun _ => ⟨fun _ => ⟨fun _ => trivial, fun g => absurd t4 g⟩, fun g => absurd t3 g⟩, fun g => absurd q4 g⟩, fun g => absurd q3 g⟩, fun g => absurd p4 g⟩, fun g => absurd p3 g⟩, fun g => absurd t2 g⟩, fun g => absurd t1 g⟩, fun g => absurd q2 g⟩, fun g => absurd q1 g⟩, fun g => absurd p2 g⟩, fun g => absurd p1 g⟩, fun g => absurd rfl g⟩, fun g => absurd rfl g⟩)

    · have key (h2 : x2 ≤ 140737488355328) (h3 : x3 ≤ 140737488355328) (h4 : x4 ≤ 140737488355328) := between_bad (f1 := f1) (f2 := f2) hp rfl hE r1 ⟨r2.1, h2⟩ ⟨r3.1, h3⟩ ⟨r4.1, h4⟩ r5 r6 r7 r8 s0

      refine gwi (x0 := x0) (f1 := f1) (f2 := f2) r1 r2 r3 r4 r5 r6 r7 r8 r9 s0 (R := (· = true)) ⟨true, ha, fun _ => ?_, fun h => by cases h⟩

      simp only [decide_eq_true_eq, decide_eq_false_iff_not, beq_iff_eq, beq_eq_false_iff_ne, ne_eq]

      repeat' (first | (refine ⟨fun _ => ?_, fun _ => ?_⟩) | fail)

      all_goals first

        | exact trivial

        | (have h1 := key (by omega) (by omega) (by omega)

           exact ⟨_, _, _, _, _, h1, fun g => absurd g hE, fun _ => by simp⟩)

  exact hs

end Go.Proofs.YtfgdockgdbdoiaaGreat.Ev
