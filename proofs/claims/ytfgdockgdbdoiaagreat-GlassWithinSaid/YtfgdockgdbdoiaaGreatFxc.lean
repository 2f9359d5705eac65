/- GlassBetween. -/
import Derived.Test.YtfgdockgdbdoiaaGreatFxb
import Derived.Test.YtfgdockgdbdoiaaGreatFaw2
namespace Go.Proofs.YtfgdockgdbdoiaaGreat.Ev
set_option linter.unusedSimpArgs false
open Go Go.RowKit
set_option linter.unusedVariables false
set_option maxRecDepth 100000
def etalonlaw02_GlassBetween_s : Sig := ⟨5, ⟨9, 0, 3⟩, ⟨0, 1, 0⟩, [(.agg [(.strn (.var 0)), (.int .i64 (.var 1)), (.asl 0 (.var 2)), (.asl 1 (.var 3)), (.asl 2 (.var 4)), (.int .i64 (.var 5)), (.int .i64 (.var 6))]), (.agg [(.int .i64 (.var 7)), (.int .i64 (.var 8))])], [(some ⟨[], 3, true, false, (some ⟨(.var 2), [(.int .i64)], [(.avar 0)]⟩)⟩), (some ⟨[], 98, true, false, (some ⟨(.var 3), [(.float .f32)], [(.avar 1)]⟩)⟩), (some ⟨[], 98, true, false, (some ⟨(.var 4), [(.float .f32)], [(.avar 2)]⟩)⟩)], (.bool (.var 0)), []⟩

def fxc_q0 : SV := (.agg [(.strn (.var 0)), (.int .i64 (.var 1)), (.asl 0 (.var 2)), (.asl 1 (.var 3)), (.asl 2 (.var 4)), (.int .i64 (.var 5)), (.int .i64 (.var 6))])
def fxc_q1 : Hp := [(some ⟨[], 3, true, false, (some ⟨(.var 2), [(.int .i64)], [(.avar 0)]⟩)⟩), (some ⟨[], 98, true, false, (some ⟨(.var 3), [(.float .f32)], [(.avar 1)]⟩)⟩), (some ⟨[], 98, true, false, (some ⟨(.var 4), [(.float .f32)], [(.avar 2)]⟩)⟩), none, none, none, none, none, none, none, none, none, none, none, none]
def fxc_q2 : Hp := [(some ⟨[], 3, true, false, (some ⟨(.var 2), [(.int .i64)], [(.avar 0)]⟩)⟩), (some ⟨[], 98, true, false, (some ⟨(.var 3), [(.float .f32)], [(.avar 1)]⟩)⟩), (some ⟨[], 98, true, false, (some ⟨(.var 4), [(.float .f32)], [(.avar 2)]⟩)⟩), none, none, none, none, none, none, none, none, none, none, none]
def fxc_q11 : SV := (.agg [(.int .i64 (.var 7)), (.int .i64 (.var 8))])
def fxc_q3 : List SV := [(.agg [(.strn (.var 0)), (.int .i64 (.var 1)), (.asl 8 (.var 2)), (.asl 10 (.var 3)), (.asl 12 (.var 4)), (.int .i64 (.var 5)), (.int .i64 (.var 6))]), fxc_q11]
def fxc_q4 : BE := (.and (.and (.icmp .eql (.var 9) (.var 16)) (.icmp .eql (.var 10) (.var 17))) (.and (.icmp .eql (.var 11) (.var 18)) (.icmp .eql (.var 12) (.var 19))))
def fxc_q5 : BE := (.and (.and (.icmp .eql (.var 9) (.lit 0)) (.icmp .eql (.var 10) (.lit 0))) (.and (.icmp .eql (.var 11) (.lit 0)) (.icmp .eql (.var 12) (.lit 0))))
def fxc_q6 : SV := (.tuple [(.agg [(.int .i64 (.var 16)), (.int .i64 (.var 17)), (.int .i64 (.var 18)), (.int .i64 (.var 19))]), (.int .i64 (.var 20))])
def fxc_q7 : SV := (.tuple [(.agg [(.int .i64 (.var 9)), (.int .i64 (.var 10)), (.int .i64 (.var 11)), (.int .i64 (.var 12))]), (.int .i64 (.var 13))])
def fxc_q8 : Option Blk := (some ⟨[], 98, false, true, (some ⟨(.var 3), [(.float .f32)], [(.avar 1)]⟩)⟩)
def fxc_q9 : Option Blk := (some ⟨[], 98, false, true, (some ⟨(.var 4), [(.float .f32)], [(.avar 2)]⟩)⟩)
def fxc_q10 : Option Blk := (some ⟨[], 3, false, true, (some ⟨(.var 2), [(.int .i64)], [(.avar 0)]⟩)⟩)
def fxc_q12 : SV := (.tuple [(.int .i64 (.var 14)), (.int .i64 (.var 15))])
def fxc_q13 : BE := (.icmp .leq (.bin .sLen (.var 0) (.lit 0)) (.lit 20))
def gbt_t : Tr :=
 (.call etalonlaw02_awake_s ⟨[], [], []⟩ ⟨[], [(.var 0)], []⟩ ⟨7, [], [], [none, none, none, none, none], (.bool (.var 0)), []⟩
 (.ite (.var 0)
 (.ite (.icmp .leq (.var 2) (.lit 12))
 (.ite (.icmp .leq (.var 3) (.lit 12))
 (.ite (.icmp .leq (.var 4) (.lit 12))
 (.ite fxc_q13
 (.call glass_Between_s ⟨[(.var 0), (.var 1), (.var 2), (.var 3), (.var 4), (.var 5), (.var 6), (.var 7), (.var 8)], [], [(.avar 0), (.avar 1), (.avar 2)]⟩ ⟨[(.var 0), (.var 1), (.var 2), (.var 3), (.var 4), (.var 5), (.var 6), (.var 7), (.var 8), (.var 9), (.var 10), (.var 11), (.var 12), (.var 13)], [], [(.avar 0), (.avar 1), (.avar 2)]⟩ ⟨22, fxc_q3, [8, 10, 12], [none, none, none, none, none, none, none, none, fxc_q10, none, fxc_q8, none, fxc_q9], fxc_q7, []⟩
 (.call etalonref02_CheckGlass_s ⟨[(.var 0), (.var 1), (.var 2), (.var 3), (.var 4), (.var 5), (.var 6)], [], [(.avar 0), (.avar 1), (.avar 2)]⟩ ⟨[(.var 0), (.var 1), (.var 2), (.var 3), (.var 4), (.var 5), (.var 6), (.var 14), (.var 15)], [], [(.avar 0), (.avar 1), (.avar 2)]⟩ ⟨13, [fxc_q0], [0, 1, 2], fxc_q2, fxc_q12, []⟩
 (.ite (.icmp .eql (.var 15) (.lit 0))
 (.call etalonref02_Between_s ⟨[(.var 0), (.var 1), (.var 2), (.var 3), (.var 4), (.var 5), (.var 6), (.var 7), (.var 8)], [], [(.avar 0), (.avar 1), (.avar 2)]⟩ ⟨[(.var 0), (.var 1), (.var 2), (.var 3), (.var 4), (.var 5), (.var 6), (.var 7), (.var 8), (.var 16), (.var 17), (.var 18), (.var 19), (.var 20)], [], [(.avar 0), (.avar 1), (.avar 2)]⟩ ⟨23, [fxc_q0, fxc_q11], [0, 1, 2], fxc_q1, fxc_q6, []⟩
 (.ite (.icmp .eql (.var 13) (.var 20))
 (.ret ⟨[], [fxc_q4], []⟩ [])
 (.ret ⟨[], [(.lit false)], []⟩ [])))
 (.ite (.icmp .eql (.var 13) (.var 15))
 (.ret ⟨[], [fxc_q5], []⟩ [])
 (.ret ⟨[], [(.lit false)], []⟩ [])))))
 (.ret ⟨[], [(.lit true)], []⟩ []))
 (.ite (.icmp .leq (.lit 64) (.var 4))
 (.ite (.icmp .leq (.var 4) (.lit 66))
 (.ite fxc_q13
 (.call glass_Between_s ⟨[(.var 0), (.var 1), (.var 2), (.var 3), (.var 4), (.var 5), (.var 6), (.var 7), (.var 8)], [], [(.avar 0), (.avar 1), (.avar 2)]⟩ ⟨[(.var 0), (.var 1), (.var 2), (.var 3), (.var 4), (.var 5), (.var 6), (.var 7), (.var 8), (.var 9), (.var 10), (.var 11), (.var 12), (.var 13)], [], [(.avar 0), (.avar 1), (.avar 2)]⟩ ⟨22, fxc_q3, [8, 10, 12], [none, none, none, none, none, none, none, none, fxc_q10, none, fxc_q8, none, fxc_q9], fxc_q7, []⟩
 (.call etalonref02_CheckGlass_s ⟨[(.var 0), (.var 1), (.var 2), (.var 3), (.var 4), (.var 5), (.var 6)], [], [(.avar 0), (.avar 1), (.avar 2)]⟩ ⟨[(.var 0), (.var 1), (.var 2), (.var 3), (.var 4), (.var 5), (.var 6), (.var 14), (.var 15)], [], [(.avar 0), (.avar 1), (.avar 2)]⟩ ⟨13, [fxc_q0], [0, 1, 2], fxc_q2, fxc_q12, []⟩
 (.ite (.icmp .eql (.var 15) (.lit 0))
 (.call etalonref02_Between_s ⟨[(.var 0), (.var 1), (.var 2), (.var 3), (.var 4), (.var 5), (.var 6), (.var 7), (.var 8)], [], [(.avar 0), (.avar 1), (.avar 2)]⟩ ⟨[(.var 0), (.var 1), (.var 2), (.var 3), (.var 4), (.var 5), (.var 6), (.var 7), (.var 8), (.var 16), (.var 17), (.var 18), (.var 19), (.var 20)], [], [(.avar 0), (.avar 1), (.avar 2)]⟩ ⟨23, [fxc_q0, fxc_q11], [0, 1, 2], fxc_q1, fxc_q6, []⟩
 (.ite (.icmp .eql (.var 13) (.var 20))
 (.ret ⟨[], [fxc_q4], []⟩ [])
 (.ret ⟨[], [(.lit false)], []⟩ [])))
 (.ite (.icmp .eql (.var 13) (.var 15))
 (.ret ⟨[], [fxc_q5], []⟩ [])
 (.ret ⟨[], [(.lit false)], []⟩ [])))))
 (.ret ⟨[], [(.lit true)], []⟩ []))
 (.ret ⟨[], [(.lit true)], []⟩ []))
 (.ret ⟨[], [(.lit true)], []⟩ [])))
 (.ite (.icmp .leq (.lit 64) (.var 3))
 (.ite (.icmp .leq (.var 3) (.lit 66))
 (.ite (.icmp .leq (.var 4) (.lit 12))
 (.ite fxc_q13
 (.call glass_Between_s ⟨[(.var 0), (.var 1), (.var 2), (.var 3), (.var 4), (.var 5), (.var 6), (.var 7), (.var 8)], [], [(.avar 0), (.avar 1), (.avar 2)]⟩ ⟨[(.var 0), (.var 1), (.var 2), (.var 3), (.var 4), (.var 5), (.var 6), (.var 7), (.var 8), (.var 9), (.var 10), (.var 11), (.var 12), (.var 13)], [], [(.avar 0), (.avar 1), (.avar 2)]⟩ ⟨22, fxc_q3, [8, 10, 12], [none, none, none, none, none, none, none, none, fxc_q10, none, fxc_q8, none, fxc_q9], fxc_q7, []⟩
 (.call etalonref02_CheckGlass_s ⟨[(.var 0), (.var 1), (.var 2), (.var 3), (.var 4), (.var 5), (.var 6)], [], [(.avar 0), (.avar 1), (.avar 2)]⟩ ⟨[(.var 0), (.var 1), (.var 2), (.var 3), (.var 4), (.var 5), (.var 6), (.var 14), (.var 15)], [], [(.avar 0), (.avar 1), (.avar 2)]⟩ ⟨13, [fxc_q0], [0, 1, 2], fxc_q2, fxc_q12, []⟩
 (.ite (.icmp .eql (.var 15) (.lit 0))
 (.call etalonref02_Between_s ⟨[(.var 0), (.var 1), (.var 2), (.var 3), (.var 4), (.var 5), (.var 6), (.var 7), (.var 8)], [], [(.avar 0), (.avar 1), (.avar 2)]⟩ ⟨[(.var 0), (.var 1), (.var 2), (.var 3), (.var 4), (.var 5), (.var 6), (.var 7), (.var 8), (.var 16), (.var 17), (.var 18), (.var 19), (.var 20)], [], [(.avar 0), (.avar 1), (.avar 2)]⟩ ⟨23, [fxc_q0, fxc_q11], [0, 1, 2], fxc_q1, fxc_q6, []⟩
 (.ite (.icmp .eql (.var 13) (.var 20))
 (.ret ⟨[], [fxc_q4], []⟩ [])
 (.ret ⟨[], [(.lit false)], []⟩ [])))
 (.ite (.icmp .eql (.var 13) (.var 15))
 (.ret ⟨[], [fxc_q5], []⟩ [])
 (.ret ⟨[], [(.lit false)], []⟩ [])))))
 (.ret ⟨[], [(.lit true)], []⟩ []))
 (.ite (.icmp .leq (.lit 64) (.var 4))
 (.ite (.icmp .leq (.var 4) (.lit 66))
 (.ite fxc_q13
 (.call glass_Between_s ⟨[(.var 0), (.var 1), (.var 2), (.var 3), (.var 4), (.var 5), (.var 6), (.var 7), (.var 8)], [], [(.avar 0), (.avar 1), (.avar 2)]⟩ ⟨[(.var 0), (.var 1), (.var 2), (.var 3), (.var 4), (.var 5), (.var 6), (.var 7), (.var 8), (.var 9), (.var 10), (.var 11), (.var 12), (.var 13)], [], [(.avar 0), (.avar 1), (.avar 2)]⟩ ⟨22, fxc_q3, [8, 10, 12], [none, none, none, none, none, none, none, none, fxc_q10, none, fxc_q8, none, fxc_q9], fxc_q7, []⟩
 (.call etalonref02_CheckGlass_s ⟨[(.var 0), (.var 1), (.var 2), (.var 3), (.var 4), (.var 5), (.var 6)], [], [(.avar 0), (.avar 1), (.avar 2)]⟩ ⟨[(.var 0), (.var 1), (.var 2), (.var 3), (.var 4), (.var 5), (.var 6), (.var 14), (.var 15)], [], [(.avar 0), (.avar 1), (.avar 2)]⟩ ⟨13, [fxc_q0], [0, 1, 2], fxc_q2, fxc_q12, []⟩
 (.ite (.icmp .eql (.var 15) (.lit 0))
 (.call etalonref02_Between_s ⟨[(.var 0), (.var 1), (.var 2), (.var 3), (.var 4), (.var 5), (.var 6), (.var 7), (.var 8)], [], [(.avar 0), (.avar 1), (.avar 2)]⟩ ⟨[(.var 0), (.var 1), (.var 2), (.var 3), (.var 4), (.var 5), (.var 6), (.var 7), (.var 8), (.var 16), (.var 17), (.var 18), (.var 19), (.var 20)], [], [(.avar 0), (.avar 1), (.avar 2)]⟩ ⟨23, [fxc_q0, fxc_q11], [0, 1, 2], fxc_q1, fxc_q6, []⟩
 (.ite (.icmp .eql (.var 13) (.var 20))
 (.ret ⟨[], [fxc_q4], []⟩ [])
 (.ret ⟨[], [(.lit false)], []⟩ [])))
 (.ite (.icmp .eql (.var 13) (.var 15))
 (.ret ⟨[], [fxc_q5], []⟩ [])
 (.ret ⟨[], [(.lit false)], []⟩ [])))))
 (.ret ⟨[], [(.lit true)], []⟩ []))
 (.ret ⟨[], [(.lit true)], []⟩ []))
 (.ret ⟨[], [(.lit true)], []⟩ [])))
 (.ret ⟨[], [(.lit true)], []⟩ []))
 (.ret ⟨[], [(.lit true)], []⟩ [])))
 (.ite (.icmp .leq (.lit 64) (.var 2))
 (.ite (.icmp .leq (.var 2) (.lit 66))
 (.ite (.icmp .leq (.var 3) (.lit 12))
 (.ite (.icmp .leq (.var 4) (.lit 12))
 (.ite fxc_q13
 (.call glass_Between_s ⟨[(.var 0), (.var 1), (.var 2), (.var 3), (.var 4), (.var 5), (.var 6), (.var 7), (.var 8)], [], [(.avar 0), (.avar 1), (.avar 2)]⟩ ⟨[(.var 0), (.var 1), (.var 2), (.var 3), (.var 4), (.var 5), (.var 6), (.var 7), (.var 8), (.var 9), (.var 10), (.var 11), (.var 12), (.var 13)], [], [(.avar 0), (.avar 1), (.avar 2)]⟩ ⟨22, fxc_q3, [8, 10, 12], [none, none, none, none, none, none, none, none, fxc_q10, none, fxc_q8, none, fxc_q9], fxc_q7, []⟩
 (.call etalonref02_CheckGlass_s ⟨[(.var 0), (.var 1), (.var 2), (.var 3), (.var 4), (.var 5), (.var 6)], [], [(.avar 0), (.avar 1), (.avar 2)]⟩ ⟨[(.var 0), (.var 1), (.var 2), (.var 3), (.var 4), (.var 5), (.var 6), (.var 14), (.var 15)], [], [(.avar 0), (.avar 1), (.avar 2)]⟩ ⟨13, [fxc_q0], [0, 1, 2], fxc_q2, fxc_q12, []⟩
 (.ite (.icmp .eql (.var 15) (.lit 0))
 (.call etalonref02_Between_s ⟨[(.var 0), (.var 1), (.var 2), (.var 3), (.var 4), (.var 5), (.var 6), (.var 7), (.var 8)], [], [(.avar 0), (.avar 1), (.avar 2)]⟩ ⟨[(.var 0), (.var 1), (.var 2), (.var 3), (.var 4), (.var 5), (.var 6), (.var 7), (.var 8), (.var 16), (.var 17), (.var 18), (.var 19), (.var 20)], [], [(.avar 0), (.avar 1), (.avar 2)]⟩ ⟨23, [fxc_q0, fxc_q11], [0, 1, 2], fxc_q1, fxc_q6, []⟩
 (.ite (.icmp .eql (.var 13) (.var 20))
 (.ret ⟨[], [fxc_q4], []⟩ [])
 (.ret ⟨[], [(.lit false)], []⟩ [])))
 (.ite (.icmp .eql (.var 13) (.var 15))
 (.ret ⟨[], [fxc_q5], []⟩ [])
 (.ret ⟨[], [(.lit false)], []⟩ [])))))
 (.ret ⟨[], [(.lit true)], []⟩ []))
 (.ite (.icmp .leq (.lit 64) (.var 4))
 (.ite (.icmp .leq (.var 4) (.lit 66))
 (.ite fxc_q13
 (.call glass_Between_s ⟨[(.var 0), (.var 1), (.var 2), (.var 3), (.var 4), (.var 5), (.var 6), (.var 7), (.var 8)], [], [(.avar 0), (.avar 1), (.avar 2)]⟩ ⟨[(.var 0), (.var 1), (.var 2), (.var 3), (.var 4), (.var 5), (.var 6), (.var 7), (.var 8), (.var 9), (.var 10), (.var 11), (.var 12), (.var 13)], [], [(.avar 0), (.avar 1), (.avar 2)]⟩ ⟨22, fxc_q3, [8, 10, 12], [none, none, none, none, none, none, none, none, fxc_q10, none, fxc_q8, none, fxc_q9], fxc_q7, []⟩
 (.call etalonref02_CheckGlass_s ⟨[(.var 0), (.var 1), (.var 2), (.var 3), (.var 4), (.var 5), (.var 6)], [], [(.avar 0), (.avar 1), (.avar 2)]⟩ ⟨[(.var 0), (.var 1), (.var 2), (.var 3), (.var 4), (.var 5), (.var 6), (.var 14), (.var 15)], [], [(.avar 0), (.avar 1), (.avar 2)]⟩ ⟨13, [fxc_q0], [0, 1, 2], fxc_q2, fxc_q12, []⟩
 (.ite (.icmp .eql (.var 15) (.lit 0))
 (.call etalonref02_Between_s ⟨[(.var 0), (.var 1), (.var 2), (.var 3), (.var 4), (.var 5), (.var 6), (.var 7), (.var 8)], [], [(.avar 0), (.avar 1), (.avar 2)]⟩ ⟨[(.var 0), (.var 1), (.var 2), (.var 3), (.var 4), (.var 5), (.var 6), (.var 7), (.var 8), (.var 16), (.var 17), (.var 18), (.var 19), (.var 20)], [], [(.avar 0), (.avar 1), (.avar 2)]⟩ ⟨23, [fxc_q0, fxc_q11], [0, 1, 2], fxc_q1, fxc_q6, []⟩
 (.ite (.icmp .eql (.var 13) (.var 20))
 (.ret ⟨[], [fxc_q4], []⟩ [])
 (.ret ⟨[], [(.lit false)], []⟩ [])))
 (.ite (.icmp .eql (.var 13) (.var 15))
 (.ret ⟨[], [fxc_q5], []⟩ [])
 (.ret ⟨[], [(.lit false)], []⟩ [])))))
 (.ret ⟨[], [(.lit true)], []⟩ []))
 (.ret ⟨[], [(.lit true)], []⟩ []))
 (.ret ⟨[], [(.lit true)], []⟩ [])))
 (.ite (.icmp .leq (.lit 64) (.var 3))
 (.ite (.icmp .leq (.var 3) (.lit 66))
 (.ite (.icmp .leq (.var 4) (.lit 12))
 (.ite fxc_q13
 (.call glass_Between_s ⟨[(.var 0), (.var 1), (.var 2), (.var 3), (.var 4), (.var 5), (.var 6), (.var 7), (.var 8)], [], [(.avar 0), (.avar 1), (.avar 2)]⟩ ⟨[(.var 0), (.var 1), (.var 2), (.var 3), (.var 4), (.var 5), (.var 6), (.var 7), (.var 8), (.var 9), (.var 10), (.var 11), (.var 12), (.var 13)], [], [(.avar 0), (.avar 1), (.avar 2)]⟩ ⟨22, fxc_q3, [8, 10, 12], [none, none, none, none, none, none, none, none, fxc_q10, none, fxc_q8, none, fxc_q9], fxc_q7, []⟩
 (.call etalonref02_CheckGlass_s ⟨[(.var 0), (.var 1), (.var 2), (.var 3), (.var 4), (.var 5), (.var 6)], [], [(.avar 0), (.avar 1), (.avar 2)]⟩ ⟨[(.var 0), (.var 1), (.var 2), (.var 3), (.var 4), (.var 5), (.var 6), (.var 14), (.var 15)], [], [(.avar 0), (.avar 1), (.avar 2)]⟩ ⟨13, [fxc_q0], [0, 1, 2], fxc_q2, fxc_q12, []⟩
 (.ite (.icmp .eql (.var 15) (.lit 0))
 (.call etalonref02_Between_s ⟨[(.var 0), (.var 1), (.var 2), (.var 3), (.var 4), (.var 5), (.var 6), (.var 7), (.var 8)], [], [(.avar 0), (.avar 1), (.avar 2)]⟩ ⟨[(.var 0), (.var 1), (.var 2), (.var 3), (.var 4), (.var 5), (.var 6), (.var 7), (.var 8), (.var 16), (.var 17), (.var 18), (.var 19), (.var 20)], [], [(.avar 0), (.avar 1), (.avar 2)]⟩ ⟨23, [fxc_q0, fxc_q11], [0, 1, 2], fxc_q1, fxc_q6, []⟩
 (.ite (.icmp .eql (.var 13) (.var 20))
 (.ret ⟨[], [fxc_q4], []⟩ [])
 (.ret ⟨[], [(.lit false)], []⟩ [])))
 (.ite (.icmp .eql (.var 13) (.var 15))
 (.ret ⟨[], [fxc_q5], []⟩ [])
 (.ret ⟨[], [(.lit false)], []⟩ [])))))
 (.ret ⟨[], [(.lit true)], []⟩ []))
 (.ite (.icmp .leq (.lit 64) (.var 4))
 (.ite (.icmp .leq (.var 4) (.lit 66))
 (.ite fxc_q13
 (.call glass_Between_s ⟨[(.var 0), (.var 1), (.var 2), (.var 3), (.var 4), (.var 5), (.var 6), (.var 7), (.var 8)], [], [(.avar 0), (.avar 1), (.avar 2)]⟩ ⟨[(.var 0), (.var 1), (.var 2), (.var 3), (.var 4), (.var 5), (.var 6), (.var 7), (.var 8), (.var 9), (.var 10), (.var 11), (.var 12), (.var 13)], [], [(.avar 0), (.avar 1), (.avar 2)]⟩ ⟨22, fxc_q3, [8, 10, 12], [none, none, none, none, none, none, none, none, fxc_q10, none, fxc_q8, none, fxc_q9], fxc_q7, []⟩
 (.call etalonref02_CheckGlass_s ⟨[(.var 0), (.var 1), (.var 2), (.var 3), (.var 4), (.var 5), (.var 6)], [], [(.avar 0), (.avar 1), (.avar 2)]⟩ ⟨[(.var 0), (.var 1), (.var 2), (.var 3), (.var 4), (.var 5), (.var 6), (.var 14), (.var 15)], [], [(.avar 0), (.avar 1), (.avar 2)]⟩ ⟨13, [fxc_q0], [0, 1, 2], fxc_q2, fxc_q12, []⟩
 (.ite (.icmp .eql (.var 15) (.lit 0))
 (.call etalonref02_Between_s ⟨[(.var 0), (.var 1), (.var 2), (.var 3), (.var 4), (.var 5), (.var 6), (.var 7), (.var 8)], [], [(.avar 0), (.avar 1), (.avar 2)]⟩ ⟨[(.var 0), (.var 1), (.var 2), (.var 3), (.var 4), (.var 5), (.var 6), (.var 7), (.var 8), (.var 16), (.var 17), (.var 18), (.var 19), (.var 20)], [], [(.avar 0), (.avar 1), (.avar 2)]⟩ ⟨23, [fxc_q0, fxc_q11], [0, 1, 2], fxc_q1, fxc_q6, []⟩
 (.ite (.icmp .eql (.var 13) (.var 20))
 (.ret ⟨[], [fxc_q4], []⟩ [])
 (.ret ⟨[], [(.lit false)], []⟩ [])))
 (.ite (.icmp .eql (.var 13) (.var 15))
 (.ret ⟨[], [fxc_q5], []⟩ [])
 (.ret ⟨[], [(.lit false)], []⟩ [])))))
 (.ret ⟨[], [(.lit true)], []⟩ []))
 (.ret ⟨[], [(.lit true)], []⟩ []))
 (.ret ⟨[], [(.lit true)], []⟩ [])))
 (.ret ⟨[], [(.lit true)], []⟩ []))
 (.ret ⟨[], [(.lit true)], []⟩ [])))
 (.ret ⟨[], [(.lit true)], []⟩ []))
 (.ret ⟨[], [(.lit true)], []⟩ [])))
 (.ret ⟨[], [(.lit false)], []⟩ [])))
theorem gbt {x0 x1 x2 x3 x4 x5 x6 x7 x8 : Int} {f0 f1 f2 : Int → Int} (r1 : (-9223372036854775808) ≤ x1 ∧ x1 ≤ 9223372036854775807) (r2 : 0 ≤ x2 ∧ x2 ≤ 9223372036854775807) (r3 : 0 ≤ x3 ∧ x3 ≤ 9223372036854775807) (r4 : 0 ≤ x4 ∧ x4 ≤ 9223372036854775807) (r5 : (-9223372036854775808) ≤ x5 ∧ x5 ≤ 9223372036854775807) (r6 : (-9223372036854775808) ≤ x6 ∧ x6 ≤ 9223372036854775807) (r7 : (-9223372036854775808) ≤ x7 ∧ x7 ≤ 9223372036854775807) (r8 : (-9223372036854775808) ≤ x8 ∧ x8 ≤ 9223372036854775807) (s0 : ∀ q, (-9223372036854775808) ≤ f0 q ∧ f0 q ≤ 9223372036854775807) {R : Bool → Prop}
 (H : (∃ u0 : Bool, Spec Tryz.prog etalonlaw02_awake_s ⟨[], [], []⟩ [] [u0] [] ∧
 ((u0 = true → ((decide ((x2 : Int) ≤ 12) = true → ((decide ((x3 : Int) ≤ 12) = true → ((decide ((x4 : Int) ≤ 12) = true → ((decide (((NOp.den .sLen x0 0) : Int) ≤ 20) = true → (∃ v9 : Int, ∃ v10 : Int, ∃ v11 : Int, ∃ v12 : Int, ∃ v13 : Int, Spec Tryz.prog glass_Between_s ⟨[x0, x1, x2, x3, x4, x5, x6, x7, x8], [], [f0, f1, f2]⟩ [v9, v10, v11, v12, v13] [] [] ∧
 (∃ v14 : Int, ∃ v15 : Int, Spec Tryz.prog etalonref02_CheckGlass_s ⟨[x0, x1, x2, x3, x4, x5, x6], [], [f0, f1, f2]⟩ [v14, v15] [] [] ∧
 ((((v15 : Int) == 0) = true → (∃ v16 : Int, ∃ v17 : Int, ∃ v18 : Int, ∃ v19 : Int, ∃ v20 : Int, Spec Tryz.prog etalonref02_Between_s ⟨[x0, x1, x2, x3, x4, x5, x6, x7, x8], [], [f0, f1, f2]⟩ [v16, v17, v18, v19, v20] [] [] ∧
 ((((v13 : Int) == v20) = true → R (((((v9 : Int) == v16) && ((v10 : Int) == v17)) && (((v11 : Int) == v18) && ((v12 : Int) == v19))))) ∧
 (((v13 : Int) == v20) = false → R (false))))) ∧
 (((v15 : Int) == 0) = false → ((((v13 : Int) == v15) = true → R (((((v9 : Int) == 0) && ((v10 : Int) == 0)) && (((v11 : Int) == 0) && ((v12 : Int) == 0))))) ∧
 (((v13 : Int) == v15) = false → R (false)))))))) ∧
 (decide (((NOp.den .sLen x0 0) : Int) ≤ 20) = false → R (true)))) ∧
 (decide ((x4 : Int) ≤ 12) = false → ((decide ((64 : Int) ≤ x4) = true → ((decide ((x4 : Int) ≤ 66) = true → ((decide (((NOp.den .sLen x0 0) : Int) ≤ 20) = true → (∃ v9 : Int, ∃ v10 : Int, ∃ v11 : Int, ∃ v12 : Int, ∃ v13 : Int, Spec Tryz.prog glass_Between_s ⟨[x0, x1, x2, x3, x4, x5, x6, x7, x8], [], [f0, f1, f2]⟩ [v9, v10, v11, v12, v13] [] [] ∧
 (∃ v14 : Int, ∃ v15 : Int, Spec Tryz.prog etalonref02_CheckGlass_s ⟨[x0, x1, x2, x3, x4, x5, x6], [], [f0, f1, f2]⟩ [v14, v15] [] [] ∧
 ((((v15 : Int) == 0) = true → (∃ v16 : Int, ∃ v17 : Int, ∃ v18 : Int, ∃ v19 : Int, ∃ v20 : Int, Spec Tryz.prog etalonref02_Between_s ⟨[x0, x1, x2, x3, x4, x5, x6, x7, x8], [], [f0, f1, f2]⟩ [v16, v17, v18, v19, v20] [] [] ∧
 ((((v13 : Int) == v20) = true → R (((((v9 : Int) == v16) && ((v10 : Int) == v17)) && (((v11 : Int) == v18) && ((v12 : Int) == v19))))) ∧
 (((v13 : Int) == v20) = false → R (false))))) ∧
 (((v15 : Int) == 0) = false → ((((v13 : Int) == v15) = true → R (((((v9 : Int) == 0) && ((v10 : Int) == 0)) && (((v11 : Int) == 0) && ((v12 : Int) == 0))))) ∧
 (((v13 : Int) == v15) = false → R (false)))))))) ∧
 (decide (((NOp.den .sLen x0 0) : Int) ≤ 20) = false → R (true)))) ∧
 (decide ((x4 : Int) ≤ 66) = false → R (true)))) ∧
 (decide ((64 : Int) ≤ x4) = false → R (true)))))) ∧
 (decide ((x3 : Int) ≤ 12) = false → ((decide ((64 : Int) ≤ x3) = true → ((decide ((x3 : Int) ≤ 66) = true → ((decide ((x4 : Int) ≤ 12) = true → ((decide (((NOp.den .sLen x0 0) : Int) ≤ 20) = true → (∃ v9 : Int, ∃ v10 : Int, ∃ v11 : Int, ∃ v12 : Int, ∃ v13 : Int, Spec Tryz.prog glass_Between_s ⟨[x0, x1, x2, x3, x4, x5, x6, x7, x8], [], [f0, f1, f2]⟩ [v9, v10, v11, v12, v13] [] [] ∧
 (∃ v14 : Int, ∃ v15 : Int, Spec Tryz.prog etalonref02_CheckGlass_s ⟨[x0, x1, x2, x3, x4, x5, x6], [], [f0, f1, f2]⟩ [v14, v15] [] [] ∧
 ((((v15 : Int) == 0) = true → (∃ v16 : Int, ∃ v17 : Int, ∃ v18 : Int, ∃ v19 : Int, ∃ v20 : Int, Spec Tryz.prog etalonref02_Between_s ⟨[x0, x1, x2, x3, x4, x5, x6, x7, x8], [], [f0, f1, f2]⟩ [v16, v17, v18, v19, v20] [] [] ∧
 ((((v13 : Int) == v20) = true → R (((((v9 : Int) == v16) && ((v10 : Int) == v17)) && (((v11 : Int) == v18) && ((v12 : Int) == v19))))) ∧
 (((v13 : Int) == v20) = false → R (false))))) ∧
 (((v15 : Int) == 0) = false → ((((v13 : Int) == v15) = true → R (((((v9 : Int) == 0) && ((v10 : Int) == 0)) && (((v11 : Int) == 0) && ((v12 : Int) == 0))))) ∧
 (((v13 : Int) == v15) = false → R (false)))))))) ∧
 (decide (((NOp.den .sLen x0 0) : Int) ≤ 20) = false → R (true)))) ∧
 (decide ((x4 : Int) ≤ 12) = false → ((decide ((64 : Int) ≤ x4) = true → ((decide ((x4 : Int) ≤ 66) = true → ((decide (((NOp.den .sLen x0 0) : Int) ≤ 20) = true → (∃ v9 : Int, ∃ v10 : Int, ∃ v11 : Int, ∃ v12 : Int, ∃ v13 : Int, Spec Tryz.prog glass_Between_s ⟨[x0, x1, x2, x3, x4, x5, x6, x7, x8], [], [f0, f1, f2]⟩ [v9, v10, v11, v12, v13] [] [] ∧
 (∃ v14 : Int, ∃ v15 : Int, Spec Tryz.prog etalonref02_CheckGlass_s ⟨[x0, x1, x2, x3, x4, x5, x6], [], [f0, f1, f2]⟩ [v14, v15] [] [] ∧
 ((((v15 : Int) == 0) = true → (∃ v16 : Int, ∃ v17 : Int, ∃ v18 : Int, ∃ v19 : Int, ∃ v20 : Int, Spec Tryz.prog etalonref02_Between_s ⟨[x0, x1, x2, x3, x4, x5, x6, x7, x8], [], [f0, f1, f2]⟩ [v16, v17, v18, v19, v20] [] [] ∧
 ((((v13 : Int) == v20) = true → R (((((v9 : Int) == v16) && ((v10 : Int) == v17)) && (((v11 : Int) == v18) && ((v12 : Int) == v19))))) ∧
 (((v13 : Int) == v20) = false → R (false))))) ∧
 (((v15 : Int) == 0) = false → ((((v13 : Int) == v15) = true → R (((((v9 : Int) == 0) && ((v10 : Int) == 0)) && (((v11 : Int) == 0) && ((v12 : Int) == 0))))) ∧
 (((v13 : Int) == v15) = false → R (false)))))))) ∧
 (decide (((NOp.den .sLen x0 0) : Int) ≤ 20) = false → R (true)))) ∧
 (decide ((x4 : Int) ≤ 66) = false → R (true)))) ∧
 (decide ((64 : Int) ≤ x4) = false → R (true)))))) ∧
 (decide ((x3 : Int) ≤ 66) = false → R (true)))) ∧
 (decide ((64 : Int) ≤ x3) = false → R (true)))))) ∧
 (decide ((x2 : Int) ≤ 12) = false → ((decide ((64 : Int) ≤ x2) = true → ((decide ((x2 : Int) ≤ 66) = true → ((decide ((x3 : Int) ≤ 12) = true → ((decide ((x4 : Int) ≤ 12) = true → ((decide (((NOp.den .sLen x0 0) : Int) ≤ 20) = true → (∃ v9 : Int, ∃ v10 : Int, ∃ v11 : Int, ∃ v12 : Int, ∃ v13 : Int, Spec Tryz.prog glass_Between_s ⟨[x0, x1, x2, x3, x4, x5, x6, x7, x8], [], [f0, f1, f2]⟩ [v9, v10, v11, v12, v13] [] [] ∧
 (∃ v14 : Int, ∃ v15 : Int, Spec Tryz.prog etalonref02_CheckGlass_s ⟨[x0, x1, x2, x3, x4, x5, x6], [], [f0, f1, f2]⟩ [v14, v15] [] [] ∧
 ((((v15 : Int) == 0) = true → (∃ v16 : Int, ∃ v17 : Int, ∃ v18 : Int, ∃ v19 : Int, ∃ v20 : Int, Spec Tryz.prog etalonref02_Between_s ⟨[x0, x1, x2, x3, x4, x5, x6, x7, x8], [], [f0, f1, f2]⟩ [v16, v17, v18, v19, v20] [] [] ∧
 ((((v13 : Int) == v20) = true → R (((((v9 : Int) == v16) && ((v10 : Int) == v17)) && (((v11 : Int) == v18) && ((v12 : Int) == v19))))) ∧
 (((v13 : Int) == v20) = false → R (false))))) ∧
 (((v15 : Int) == 0) = false → ((((v13 : Int) == v15) = true → R (((((v9 : Int) == 0) && ((v10 : Int) == 0)) && (((v11 : Int) == 0) && ((v12 : Int) == 0))))) ∧
 (((v13 : Int) == v15) = false → R (false)))))))) ∧
 (decide (((NOp.den .sLen x0 0) : Int) ≤ 20) = false → R (true)))) ∧
 (decide ((x4 : Int) ≤ 12) = false → ((decide ((64 : Int) ≤ x4) = true → ((decide ((x4 : Int) ≤ 66) = true → ((decide (((NOp.den .sLen x0 0) : Int) ≤ 20) = true → (∃ v9 : Int, ∃ v10 : Int, ∃ v11 : Int, ∃ v12 : Int, ∃ v13 : Int, Spec Tryz.prog glass_Between_s ⟨[x0, x1, x2, x3, x4, x5, x6, x7, x8], [], [f0, f1, f2]⟩ [v9, v10, v11, v12, v13] [] [] ∧
 (∃ v14 : Int, ∃ v15 : Int, Spec Tryz.prog etalonref02_CheckGlass_s ⟨[x0, x1, x2, x3, x4, x5, x6], [], [f0, f1, f2]⟩ [v14, v15] [] [] ∧
 ((((v15 : Int) == 0) = true → (∃ v16 : Int, ∃ v17 : Int, ∃ v18 : Int, ∃ v19 : Int, ∃ v20 : Int, Spec Tryz.prog etalonref02_Between_s ⟨[x0, x1, x2, x3, x4, x5, x6, x7, x8], [], [f0, f1, f2]⟩ [v16, v17, v18, v19, v20] [] [] ∧
 ((((v13 : Int) == v20) = true → R (((((v9 : Int) == v16) && ((v10 : Int) == v17)) && (((v11 : Int) == v18) && ((v12 : Int) == v19))))) ∧
 (((v13 : Int) == v20) = false → R (false))))) ∧
 (((v15 : Int) == 0) = false → ((((v13 : Int) == v15) = true → R (((((v9 : Int) == 0) && ((v10 : Int) == 0)) && (((v11 : Int) == 0) && ((v12 : Int) == 0))))) ∧
 (((v13 : Int) == v15) = false → R (false)))))))) ∧
 (decide (((NOp.den .sLen x0 0) : Int) ≤ 20) = false → R (true)))) ∧
 (decide ((x4 : Int) ≤ 66) = false → R (true)))) ∧
 (decide ((64 : Int) ≤ x4) = false → R (true)))))) ∧
 (decide ((x3 : Int) ≤ 12) = false → ((decide ((64 : Int) ≤ x3) = true → ((decide ((x3 : Int) ≤ 66) = true → ((decide ((x4 : Int) ≤ 12) = true → ((decide (((NOp.den .sLen x0 0) : Int) ≤ 20) = true → (∃ v9 : Int, ∃ v10 : Int, ∃ v11 : Int, ∃ v12 : Int, ∃ v13 : Int, Spec Tryz.prog glass_Between_s ⟨[x0, x1, x2, x3, x4, x5, x6, x7, x8], [], [f0, f1, f2]⟩ [v9, v10, v11, v12, v13] [] [] ∧
 (∃ v14 : Int, ∃ v15 : Int, Spec Tryz.prog etalonref02_CheckGlass_s ⟨[x0, x1, x2, x3, x4, x5, x6], [], [f0, f1, f2]⟩ [v14, v15] [] [] ∧
 ((((v15 : Int) == 0) = true → (∃ v16 : Int, ∃ v17 : Int, ∃ v18 : Int, ∃ v19 : Int, ∃ v20 : Int, Spec Tryz.prog etalonref02_Between_s ⟨[x0, x1, x2, x3, x4, x5, x6, x7, x8], [], [f0, f1, f2]⟩ [v16, v17, v18, v19, v20] [] [] ∧
 ((((v13 : Int) == v20) = true → R (((((v9 : Int) == v16) && ((v10 : Int) == v17)) && (((v11 : Int) == v18) && ((v12 : Int) == v19))))) ∧
 (((v13 : Int) == v20) = false → R (false))))) ∧
 (((v15 : Int) == 0) = false → ((((v13 : Int) == v15) = true → R (((((v9 : Int) == 0) && ((v10 : Int) == 0)) && (((v11 : Int) == 0) && ((v12 : Int) == 0))))) ∧
 (((v13 : Int) == v15) = false → R (false)))))))) ∧
 (decide (((NOp.den .sLen x0 0) : Int) ≤ 20) = false → R (true)))) ∧
 (decide ((x4 : Int) ≤ 12) = false → ((decide ((64 : Int) ≤ x4) = true → ((decide ((x4 : Int) ≤ 66) = true → ((decide (((NOp.den .sLen x0 0) : Int) ≤ 20) = true → (∃ v9 : Int, ∃ v10 : Int, ∃ v11 : Int, ∃ v12 : Int, ∃ v13 : Int, Spec Tryz.prog glass_Between_s ⟨[x0, x1, x2, x3, x4, x5, x6, x7, x8], [], [f0, f1, f2]⟩ [v9, v10, v11, v12, v13] [] [] ∧
 (∃ v14 : Int, ∃ v15 : Int, Spec Tryz.prog etalonref02_CheckGlass_s ⟨[x0, x1, x2, x3, x4, x5, x6], [], [f0, f1, f2]⟩ [v14, v15] [] [] ∧
 ((((v15 : Int) == 0) = true → (∃ v16 : Int, ∃ v17 : Int, ∃ v18 : Int, ∃ v19 : Int, ∃ v20 : Int, Spec Tryz.prog etalonref02_Between_s ⟨[x0, x1, x2, x3, x4, x5, x6, x7, x8], [], [f0, f1, f2]⟩ [v16, v17, v18, v19, v20] [] [] ∧
 ((((v13 : Int) == v20) = true → R (((((v9 : Int) == v16) && ((v10 : Int) == v17)) && (((v11 : Int) == v18) && ((v12 : Int) == v19))))) ∧
 (((v13 : Int) == v20) = false → R (false))))) ∧
 (((v15 : Int) == 0) = false → ((((v13 : Int) == v15) = true → R (((((v9 : Int) == 0) && ((v10 : Int) == 0)) && (((v11 : Int) == 0) && ((v12 : Int) == 0))))) ∧
 (((v13 : Int) == v15) = false → R (false)))))))) ∧
 (decide (((NOp.den .sLen x0 0) : Int) ≤ 20) = false → R (true)))) ∧
 (decide ((x4 : Int) ≤ 66) = false → R (true)))) ∧
 (decide ((64 : Int) ≤ x4) = false → R (true)))))) ∧
 (decide ((x3 : Int) ≤ 66) = false → R (true)))) ∧
 (decide ((64 : Int) ≤ x3) = false → R (true)))))) ∧
 (decide ((x2 : Int) ≤ 66) = false → R (true)))) ∧
 (decide ((64 : Int) ≤ x2) = false → R (true)))))) ∧
 (u0 = false → R (false))))) :
 ∃ u0 : Bool, R u0 ∧ Spec Tryz.prog etalonlaw02_GlassBetween_s ⟨[x0, x1, x2, x3, x4, x5, x6, x7, x8], [], [f0, f1, f2]⟩ [] [u0] [] :=
 Eq.mp (by kernel_rfl) (exV_of (K := fun d => app3 etalonlaw02_GlassBetween_s.out R d ∧ Spec Tryz.prog etalonlaw02_GlassBetween_s ⟨[x0, x1, x2, x3, x4, x5, x6, x7, x8], [], [f0, f1, f2]⟩ d.1 d.2.1 d.2.2) (tree_at mixed names S2_ok (S := S2 Tryz.prog) (lf := 100000) (d := 60) etalonlaw02_GlassBetween_s gbt_t { ivs := [(1, (-9223372036854775808), 9223372036854775807), (2, 0, 9223372036854775807), (3, 0, 9223372036854775807), (4, 0, 9223372036854775807), (5, (-9223372036854775808), 9223372036854775807), (6, (-9223372036854775808), 9223372036854775807), (7, (-9223372036854775808), 9223372036854775807), (8, (-9223372036854775808), 9223372036854775807)], aivs := [(0, (-9223372036854775808), 9223372036854775807)] } ⟨[x0, x1, x2, x3, x4, x5, x6, x7, x8], [], [f0, f1, f2]⟩ rfl (by kernel_rfl) (by kernel_rfl) (by kernel_rfl) ⟨(fc r1 (fc r2 (fc r3 (fc r4 (fc r5 (fc r6 (fc r7 (fc r8 fz)))))))), fz, (fc s0 fz), fz⟩ (R := fun d => app3 etalonlaw02_GlassBetween_s.out R d) (Eq.mp (by kernel_rfl) H)))
 section

variable {x0 x1 x2 x3 x4 x5 x6 x7 x8 : Int} {f0 f1 f2 : Int → Int}

theorem between_e (hk : x1 = 1 → 1 ≤ x2) (hB : btE x1 x2 f0 x7 x8 ≠ 0) (r1 : (-9223372036854775808) ≤ x1 ∧ x1 ≤ 9223372036854775807) (r2 : 0 ≤ x2 ∧ x2 ≤ 64) (r3 : 0 ≤ x3 ∧ x3 ≤ 140737488355328) (r4 : 0 ≤ x4 ∧ x4 ≤ 140737488355328) (r5 : (-9223372036854775808) ≤ x5 ∧ x5 ≤ 9223372036854775807) (r6 : (-9223372036854775808) ≤ x6 ∧ x6 ≤ 9223372036854775807) (r7 : (-9223372036854775808) ≤ x7 ∧ x7 ≤ 9223372036854775807) (r8 : (-9223372036854775808) ≤ x8 ∧ x8 ≤ 9223372036854775807) (s0 : ∀ q, (-9223372036854775808) ≤ f0 q ∧ f0 q ≤ 9223372036854775807) :

    Spec Tryz.prog etalonref02_Between_s ⟨[x0, x1, x2, x3, x4, x5, x6, x7, x8], [], [f0, f1, f2]⟩ [0, 0, 0, 0, btE x1 x2 f0 x7 x8] [] [] := by

  obtain ⟨_, _, _, _, _, ⟨rfl, rfl, rfl, rfl, rfl⟩, hs⟩ := rbt0 (x0 := x0) (x1 := x1) (x2 := x2) (x3 := x3) (x4 := x4) (x5 := x5) (x6 := x6) (x7 := x7) (x8 := x8) (f0 := f0) (f1 := f1) (f2 := f2) r1 r2 r3 r4 r5 r6 r7 r8 s0 (R := fun a b c d e => a = 0 ∧ b = 0 ∧ c = 0 ∧ d = 0 ∧ e = btE x1 x2 f0 x7 x8) (by

    simp only [decide_eq_true_eq, decide_eq_false_iff_not, beq_iff_eq, beq_eq_false_iff_ne, ne_eq]

    unfold btE at hB ⊢

    repeat' (first | (refine ⟨fun _ => ?_, fun _ => ?_⟩) | (refine ⟨?_, fun _ => ?_, fun _ => ?_⟩) | fail)

    all_goals first

      | omega

      | (exfalso; apply hB; (repeat (first | rw [if_pos (by omega)] | rw [if_neg (by omega)])); done)

      | ((repeat (first | rw [if_pos (by omega)] | rw [if_neg (by omega)])); exact ⟨by trivial, by trivial, by trivial, by trivial, by trivial⟩))

  exact hs

theorem between_bad {u : Bool} {d : Int} (hu : Spec Tryz.prog text_IsName_s ⟨[x0], [], []⟩ [] [u] []) (hd : d = gwE (glE u x1 x2 x3 x4 x5 x6 f0 f1 f2).2 (btE x1 x2 f0 x7 x8)) (h0 : d ≠ 0) (r1 : (-9223372036854775808) ≤ x1 ∧ x1 ≤ 9223372036854775807) (r2 : 0 ≤ x2 ∧ x2 ≤ 140737488355328) (r3 : 0 ≤ x3 ∧ x3 ≤ 140737488355328) (r4 : 0 ≤ x4 ∧ x4 ≤ 140737488355328) (r5 : (-9223372036854775808) ≤ x5 ∧ x5 ≤ 9223372036854775807) (r6 : (-9223372036854775808) ≤ x6 ∧ x6 ≤ 9223372036854775807) (r7 : (-9223372036854775808) ≤ x7 ∧ x7 ≤ 9223372036854775807) (r8 : (-9223372036854775808) ≤ x8 ∧ x8 ≤ 9223372036854775807) (s0 : ∀ q, (-9223372036854775808) ≤ f0 q ∧ f0 q ≤ 9223372036854775807) :

    Spec Tryz.prog glass_Between_s ⟨[x0, x1, x2, x3, x4, x5, x6, x7, x8], [], [f0, f1, f2]⟩ [0, 0, 0, 0, d] [] [] := by

  have hc := checkGlass_p (f1 := f1) (f2 := f2) hu r1 r2 r3 r4 r5 r6 s0

  have hk : (glE u x1 x2 x3 x4 x5 x6 f0 f1 f2).2 = 0 → (x1 = 1 ∨ x1 = 2) ∧ (x1 = 1 → 1 ≤ x2) := fun h => ⟨kind_ok h, fun g => by subst g; exact (tab_ok r2.1 h).2.2.one⟩

  obtain ⟨v, hv⟩ : ∃ v, v = (glE u x1 x2 x3 x4 x5 x6 f0 f1 f2).2 := ⟨_, rfl⟩

  rw [← hv] at hc hd hk

  obtain ⟨_, _, _, _, _, ⟨rfl, rfl, rfl, rfl, rfl⟩, hs⟩ := btw0 (x0 := x0) (x1 := x1) (x2 := x2) (x3 := x3) (x4 := x4) (x5 := x5) (x6 := x6) (x7 := x7) (x8 := x8) (f0 := f0) (f1 := f1) (f2 := f2) r1 r2 r3 r4 r5 r6 r7 r8 s0 (R := fun a b c e f => a = 0 ∧ b = 0 ∧ c = 0 ∧ e = 0 ∧ f = d) (by

    refine ⟨_, _, hc, ?_⟩

    simp only [decide_eq_true_eq, decide_eq_false_iff_not, beq_iff_eq, beq_eq_false_iff_ne, ne_eq]

    unfold gwE at hd

    refine ⟨fun hv0 => ?_, fun hv0 => by rw [if_neg hv0] at hd; exact ⟨by trivial, by trivial, by trivial, by trivial, hd.symm⟩⟩

    obtain ⟨k1, k2⟩ := hk hv0

    rw [if_pos hv0] at hd

    rw [hd] at h0 ⊢

    unfold btE at h0 ⊢

    repeat' (first | (refine ⟨fun _ => ?_, fun _ => ?_⟩) | (refine ⟨?_, fun _ => ?_, fun _ => ?_⟩) | fail)

    all_goals first

      | omega

      | (exfalso; apply h0; (repeat (first | rw [if_pos (by omega)] | rw [if_neg (by omega)])); done)

      | ((repeat (first | rw [if_pos (by omega)] | rw [if_neg (by omega)])); exact ⟨by trivial, by trivial, by trivial, by trivial, by trivial⟩))

  exact hs

theorem right_few {u : Bool} (hE : (glE u x1 x2 x3 x4 x5 x6 f0 f1 f2).2 = 0) (r2 : 0 ≤ x2) : x2 ≤ 64 ∧ (x1 = 1 → 1 ≤ x2) ∧ (x1 ≠ 1 → x2 = 0) := by

  rcases kind_ok hE with rfl | rfl

  · have T := (tab_ok r2 hE).2.2

    exact ⟨T.few, fun _ => T.one, fun g => absurd rfl g⟩

  · have := (form_ok hE).1

    exact ⟨by omega, fun g => by omega, fun _ => by omega⟩

end

set_option maxHeartbeats 8000000 in

theorem betweens {x0 x1 x2 x3 x4 x5 x6 x7 x8 : Int} {f0 f1 f2 : Int → Int} (r1 : (-9223372036854775808) ≤ x1 ∧ x1 ≤ 9223372036854775807) (r2 : 0 ≤ x2 ∧ x2 ≤ 9223372036854775807) (r3 : 0 ≤ x3 ∧ x3 ≤ 9223372036854775807) (r4 : 0 ≤ x4 ∧ x4 ≤ 9223372036854775807) (r5 : (-9223372036854775808) ≤ x5 ∧ x5 ≤ 9223372036854775807) (r6 : (-9223372036854775808) ≤ x6 ∧ x6 ≤ 9223372036854775807) (r7 : (-9223372036854775808) ≤ x7 ∧ x7 ≤ 9223372036854775807) (r8 : (-9223372036854775808) ≤ x8 ∧ x8 ≤ 9223372036854775807) (s0 : ∀ q, (-9223372036854775808) ≤ f0 q ∧ f0 q ≤ 9223372036854775807) :

    Spec Tryz.prog etalonlaw02_GlassBetween_s ⟨[x0, x1, x2, x3, x4, x5, x6, x7, x8], [], [f0, f1, f2]⟩ [] [true] [] := by

  obtain ⟨a0, rfl, ha⟩ := awake

  obtain ⟨u, _, hp, hr⟩ := isName_s x0

  obtain ⟨w, rfl, hs⟩ : ∃ u0 : Bool, u0 = true ∧ Spec Tryz.prog etalonlaw02_GlassBetween_s ⟨[x0, x1, x2, x3, x4, x5, x6, x7, x8], [], [f0, f1, f2]⟩ [] [u0] [] := by

    have cr (h2 : x2 ≤ 140737488355328) (h3 : x3 ≤ 140737488355328) (h4 : x4 ≤ 140737488355328) := checkGlass_r (f1 := f1) (f2 := f2) hr r1 ⟨r2.1, h2⟩ ⟨r3.1, h3⟩ ⟨r4.1, h4⟩ r5 r6 s0

    by_cases hE : (glE u x1 x2 x3 x4 x5 x6 f0 f1 f2).2 = 0

    · have few := right_few hE r2.1

      have key (h3 : x3 ≤ 140737488355328) (h4 : x4 ≤ 140737488355328) : ∃ a b c d e, Spec Tryz.prog glass_Between_s ⟨[x0, x1, x2, x3, x4, x5, x6, x7, x8], [], [f0, f1, f2]⟩ [a, b, c, d, e] [] [] ∧ Spec Tryz.prog etalonref02_Between_s ⟨[x0, x1, x2, x3, x4, x5, x6, x7, x8], [], [f0, f1, f2]⟩ [a, b, c, d, e] [] [] := by

        by_cases hB : btE x1 x2 f0 x7 x8 = 0

        · obtain ⟨P, Q, hP⟩ := wavs (x0 := x0) (f1 := f1) (f2 := f2) hE r1 ⟨r2.1, by omega⟩ ⟨r3.1, h3⟩ ⟨r4.1, h4⟩ r5 r6 s0

          exact ⟨_, _, _, _, _, between_p hP hp hE hB r1 ⟨r2.1, by omega⟩ ⟨r3.1, h3⟩ ⟨r4.1, h4⟩ r5 r6 s0, between_r hP few.2.1 few.2.2 hB r1 ⟨r2.1, by omega⟩ ⟨r3.1, h3⟩ ⟨r4.1, h4⟩ r5 r6 s0⟩

        · exact ⟨0, 0, 0, 0, btE x1 x2 f0 x7 x8, between_bad hp (by unfold gwE; rw [if_pos hE]) hB r1 ⟨r2.1, by omega⟩ ⟨r3.1, h3⟩ ⟨r4.1, h4⟩ r5 r6 r7 r8 s0, between_e few.2.1 hB r1 ⟨r2.1, by omega⟩ ⟨r3.1, h3⟩ ⟨r4.1, h4⟩ r5 r6 r7 r8 s0⟩

      refine gbt (x0 := x0) (f1 := f1) (f2 := f2) r1 r2 r3 r4 r5 r6 r7 r8 s0 (R := (· = true)) ⟨true, ha, fun _ => ?_, fun h => by cases h⟩

      simp only [decide_eq_true_eq, decide_eq_false_iff_not, beq_iff_eq, beq_eq_false_iff_ne, ne_eq]

      repeat' (first | (refine ⟨fun _ => ?_, fun _ => ?_⟩) | fail)

      all_goals first

        | exact trivial

        | (obtain ⟨a, b, c, d, e, h1, h2⟩ := key (by omega) (by omega)

           have c := cr (by omega) (by omega) (by omega)

           rw [hE] at c

           exact ⟨_, _, _, _, _, h1, _, _, c, fun _ => ⟨_, _, _, _, _, h2, fun _ => by simp, fun g => absurd rfl g⟩, fun g => absurd rfl g⟩)

    · have ev : (glE u x1 x2 x3 x4 x5 x6 f0 f1 f2).2 = gwE (glE u x1 x2 x3 x4 x5 x6 f0 f1 f2).2 (btE x1 x2 f0 x7 x8) := by unfold gwE; rw [if_neg hE]

      have key (h2 : x2 ≤ 140737488355328) (h3 : x3 ≤ 140737488355328) (h4 : x4 ≤ 140737488355328) := between_bad (f1 := f1) (f2 := f2) hp ev hE r1 ⟨r2.1, h2⟩ ⟨r3.1, h3⟩ ⟨r4.1, h4⟩ r5 r6 r7 r8 s0

      refine gbt (x0 := x0) (f1 := f1) (f2 := f2) r1 r2 r3 r4 r5 r6 r7 r8 s0 (R := (· = true)) ⟨true, ha, fun _ => ?_, fun h => by cases h⟩

      simp only [decide_eq_true_eq, decide_eq_false_iff_not, beq_iff_eq, beq_eq_false_iff_ne, ne_eq]

      repeat' (first | (refine ⟨fun _ => ?_, fun _ => ?_⟩) | fail)

      all_goals first

        | exact trivial

        | (have h1 := key (by omega) (by omega) (by omega)

           have c := cr (by omega) (by omega) (by omega)

           exact ⟨_, _, _, _, _, h1, _, _, c, fun g => absurd g hE, fun _ => ⟨fun _ => by simp, fun g => absurd rfl g⟩⟩)

  exact hs

end Go.Proofs.YtfgdockgdbdoiaaGreat.Ev
