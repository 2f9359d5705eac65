/- PolarBack: walks (pja). -/
import Derived.Test.YtipcoahafdolcaaEvw1
import Derived.Test.YtipcoahafdolcaaEvu
import Derived.Test.YtipcoahafdolcaaPgc
namespace Go.Proofs.Ytipcoahafdolcaa.Ev
set_option linter.unusedSimpArgs false
set_option linter.unusedVariables false
open Go Go.RowKit
set_option maxRecDepth 100000
def pja_q6 : Option Blk := (some ⟨[(.complex .f64 (.var 0) (.var 1)), (.complex .f64 (.var 4) (.var 5)), (.complex .f64 (.var 8) (.var 9)), (.complex .f64 (.var 12) (.var 13))], 193, false, false⟩)
def pja_q5 : List SV := [(.complex .f64 (.lit 0) (.lit 0)), (.complex .f64 (.lit 0) (.lit 0)), (.complex .f64 (.lit 0) (.lit 0)), (.complex .f64 (.lit 0) (.lit 0))]
def pja_q13 : Option Blk := (some ⟨[(.int .i64 (.var 2)), (.int .i64 (.var 3))], 234, false, false⟩)
def pja_q12 : Option Blk := (some ⟨[(.int .i64 (.lit 0)), (.int .i64 (.var 2)), (.int .i64 (.var 3))], 3, false, false⟩)
def pja_q15 : Option Blk := (some ⟨[(.int .i64 (.var 6)), (.int .i64 (.var 7))], 234, false, false⟩)
def pja_q9 : SV := (.int .i64 (.bin .maxI (.var 17) (.bin (.subW .i64) (.lit 0) (.var 17))))
def pja_q14 : Option Blk := (some ⟨[pja_q9, (.int .i64 (.var 6)), (.int .i64 (.var 7))], 3, false, false⟩)
def pja_q10 : SV := (.int .i64 (.bin .maxI (.var 20) (.bin (.subW .i64) (.lit 0) (.var 20))))
def pja_q11 : NE := (.bin .maxI (.var 23) (.bin (.subW .i64) (.lit 0) (.var 23)))
def pja_q0 : Hp := [pja_q6, (some ⟨pja_q5, 193, false, false⟩), pja_q13, pja_q12, pja_q15, pja_q14, (some ⟨[(.int .i64 (.var 10)), (.int .i64 (.var 11))], 234, false, false⟩), (some ⟨[pja_q10, (.int .i64 (.var 10)), (.int .i64 (.var 11))], 3, false, false⟩), (some ⟨[(.int .i64 (.var 14)), (.int .i64 (.var 15))], 234, false, false⟩), (some ⟨[(.int .i64 pja_q11), (.int .i64 (.var 14)), (.int .i64 (.var 15))], 3, false, false⟩)]
def pja_q1 : Hp := [pja_q6, (some ⟨pja_q5, 193, false, false⟩), pja_q13, pja_q12, pja_q15, pja_q14, (some ⟨[(.int .i64 (.var 10)), (.int .i64 (.var 11))], 234, false, false⟩), (some ⟨[pja_q10, (.int .i64 (.var 10)), (.int .i64 (.var 11))], 3, false, false⟩)]
def pja_q2 : Hp := [pja_q6, (some ⟨pja_q5, 193, false, false⟩), pja_q13, pja_q12, pja_q15, pja_q14]
def pja_q3 : Hp := [pja_q6, (some ⟨pja_q5, 193, false, false⟩), pja_q13, pja_q12]
def pja_q4 : Tr := (.leaf (.tuple [(.agg pja_q5), (.int .i64 (.lit 8))]))
def pja_q7 : NE := (.bin .maxI (.var 26) (.bin (.subW .i64) (.lit 0) (.var 26)))
def pja_q8 : List SV := [(.slice (some ⟨3, 0, none⟩) 3 3), (.tuple []), (.int .i64 (.lit 0)), (.int .i64 (.lit 0)), (.tuple []), (.int .i64 (.lit 0)), (.slice (some ⟨3, 0, none⟩) 3 3), (.int .i64 (.lit 3)), (.int .i64 (.lit 0)), (.bool (.lit true)), (.ptr (some ⟨3, 0, none⟩)), (.int .i64 (.lit 0)), (.tuple []), (.tuple []), (.tuple []), (.tuple []), (.tuple []), (.tuple []), (.tuple []), (.tuple []), (.tuple []), (.tuple []), (.tuple [])]
def jlw_t : Tr :=
 (.loop ⟨133, [0, 1, 0, 0, 1, 1, 0, 0, 1, 0, 1, 1], pja_q8, pja_q3, pja_q8, pja_q3, [], 0, 0, [], []⟩
 (.out 0 [] [])
 (.ex ((.exit 2), [(.slice (some ⟨3, 0, none⟩) 3 3), (.tuple []), (.int .i64 (.lit 0)), (.int .i64 (.lit 0)), (.tuple []), (.int .i64 (.lit 0)), (.slice (some ⟨3, 0, none⟩) 3 3), (.int .i64 (.lit 3)), (.int .i64 (.lit 0)), (.bool (.lit true)), (.ptr (some ⟨3, 0, none⟩)), (.int .i64 (.lit 0)), (.any 12), (.any 13), (.tuple []), (.tuple []), (.tuple []), (.tuple []), (.tuple []), (.tuple []), (.tuple []), (.tuple []), (.tuple [])], pja_q3, []) 0 0
 (.loop ⟨133, [0, 1, 0, 0, 1, 1, 0, 0, 1, 0, 1, 1], [(.slice (some ⟨3, 0, none⟩) 3 3), (.tuple []), (.int .i64 (.lit 0)), (.int .i64 (.lit 0)), (.tuple []), (.int .i64 (.var 2)), (.slice (some ⟨3, 0, none⟩) 3 3), (.int .i64 (.lit 3)), (.int .i64 (.lit 1)), (.bool (.lit true)), (.ptr (some ⟨3, 1, none⟩)), (.int .i64 (.var 2)), (.any 12), (.any 13), (.tuple []), (.tuple []), (.tuple []), (.tuple []), (.int .i64 (.lit 1)), (.tuple []), (.tuple []), (.tuple []), (.tuple [])], pja_q3, [(.slice (some ⟨3, 0, none⟩) 3 3), (.tuple []), (.int .i64 (.lit 0)), (.int .i64 (.var 16)), (.tuple []), (.int .i64 (.var 17)), (.slice (some ⟨3, 0, none⟩) 3 3), (.int .i64 (.lit 3)), (.int .i64 (.lit 1)), (.bool (.lit true)), (.ptr (some ⟨3, 1, none⟩)), (.int .i64 (.var 2)), (.any 12), (.any 13), (.any 14), (.any 15), (.any 16), (.any 17), (.int .i64 (.lit 1)), (.tuple []), (.tuple []), (.tuple []), (.tuple [])], pja_q3, [], 2, 0, [(.lit 0), (.var 2)], []⟩
 (.rng 16 (-9223372036854775808) 9223372036854775807 (.rng 17 (-9223372036854775808) 9223372036854775807 (.ite (.icmp .eql (.var 17) (.lit 0))
 (.out 0 [(.var 16)] [])
 (.next [(.var 17), (.bin .remK (.var 16) (.var 17))] []))))
 (.ex ((.exit 2), [(.slice (some ⟨3, 0, none⟩) 3 3), (.tuple []), (.int .i64 (.lit 0)), (.int .i64 (.var 16)), (.tuple []), (.any 5), (.slice (some ⟨3, 0, none⟩) 3 3), (.int .i64 (.lit 3)), (.int .i64 (.lit 1)), (.bool (.lit true)), (.ptr (some ⟨3, 1, none⟩)), (.int .i64 (.var 2)), (.any 12), (.any 13), (.any 14), (.any 15), (.any 16), (.any 17), (.int .i64 (.lit 1)), (.tuple []), (.tuple []), (.tuple []), (.tuple [])], pja_q3, []) 1 0
 (.rng 16 (-9223372036854775808) 9223372036854775807 (.loop ⟨133, [0, 1, 0, 0, 1, 1, 0, 0, 1, 0, 1, 1], [(.slice (some ⟨3, 0, none⟩) 3 3), (.tuple []), (.int .i64 (.lit 0)), (.int .i64 (.var 16)), (.tuple []), (.int .i64 (.var 3)), (.slice (some ⟨3, 0, none⟩) 3 3), (.int .i64 (.lit 3)), (.int .i64 (.lit 2)), (.bool (.lit true)), (.ptr (some ⟨3, 2, none⟩)), (.int .i64 (.var 3)), (.any 12), (.any 13), (.any 14), (.any 15), (.any 16), (.any 17), (.int .i64 (.lit 2)), (.tuple []), (.tuple []), (.tuple []), (.tuple [])], pja_q3, [(.slice (some ⟨3, 0, none⟩) 3 3), (.tuple []), (.int .i64 (.lit 0)), (.int .i64 (.var 17)), (.tuple []), (.int .i64 (.var 18)), (.slice (some ⟨3, 0, none⟩) 3 3), (.int .i64 (.lit 3)), (.int .i64 (.lit 2)), (.bool (.lit true)), (.ptr (some ⟨3, 2, none⟩)), (.int .i64 (.var 3)), (.any 12), (.any 13), (.any 14), (.any 15), (.any 16), (.any 17), (.int .i64 (.lit 2)), (.tuple []), (.tuple []), (.tuple []), (.tuple [])], pja_q3, [], 2, 0, [(.var 16), (.var 3)], []⟩
 (.rng 17 (-9223372036854775808) 9223372036854775807 (.rng 18 (-9223372036854775808) 9223372036854775807 (.ite (.icmp .eql (.var 18) (.lit 0))
 (.out 0 [(.var 17)] [])
 (.next [(.var 18), (.bin .remK (.var 17) (.var 18))] []))))
 (.ex ((.exit 2), [(.slice (some ⟨3, 0, none⟩) 3 3), (.tuple []), (.int .i64 (.lit 0)), (.int .i64 (.var 17)), (.tuple []), (.any 5), (.slice (some ⟨3, 0, none⟩) 3 3), (.int .i64 (.lit 3)), (.int .i64 (.lit 2)), (.bool (.lit true)), (.ptr (some ⟨3, 2, none⟩)), (.int .i64 (.var 3)), (.any 12), (.any 13), (.any 14), (.any 15), (.any 16), (.any 17), (.int .i64 (.lit 2)), (.tuple []), (.tuple []), (.tuple []), (.tuple [])], pja_q3, []) 1 0
 (.rng 17 (-9223372036854775808) 9223372036854775807 (.loop ⟨133, [0, 1, 0, 0, 1, 1, 0, 0, 1, 0, 1, 1], [(.slice (some ⟨5, 0, none⟩) 3 3), (.tuple []), (.int .i64 (.lit 0)), (.int .i64 (.lit 0)), (.tuple []), pja_q9, (.slice (some ⟨5, 0, none⟩) 3 3), (.int .i64 (.lit 3)), (.int .i64 (.lit 0)), (.bool (.lit true)), (.ptr (some ⟨5, 0, none⟩)), pja_q9, (.tuple []), (.tuple []), (.tuple []), (.tuple []), (.tuple []), (.tuple []), (.tuple []), (.tuple []), (.tuple []), (.tuple []), (.tuple [])], pja_q2, [(.slice (some ⟨5, 0, none⟩) 3 3), (.tuple []), (.int .i64 (.lit 0)), (.int .i64 (.var 18)), (.tuple []), (.int .i64 (.var 19)), (.slice (some ⟨5, 0, none⟩) 3 3), (.int .i64 (.lit 3)), (.int .i64 (.lit 0)), (.bool (.lit true)), (.ptr (some ⟨5, 0, none⟩)), pja_q9, (.any 12), (.any 13), (.any 14), (.any 15), (.any 16), (.any 17), (.tuple []), (.tuple []), (.tuple []), (.tuple []), (.tuple [])], pja_q2, [], 2, 0, [(.lit 0), (.bin .maxI (.var 17) (.bin (.subW .i64) (.lit 0) (.var 17)))], []⟩
 (.rng 18 (-9223372036854775808) 9223372036854775807 (.rng 19 (-9223372036854775808) 9223372036854775807 (.ite (.icmp .eql (.var 19) (.lit 0))
 (.out 0 [(.var 18)] [])
 (.next [(.var 19), (.bin .remK (.var 18) (.var 19))] []))))
 (.ex ((.exit 2), [(.slice (some ⟨5, 0, none⟩) 3 3), (.tuple []), (.int .i64 (.lit 0)), (.int .i64 (.var 18)), (.tuple []), (.any 5), (.slice (some ⟨5, 0, none⟩) 3 3), (.int .i64 (.lit 3)), (.int .i64 (.lit 0)), (.bool (.lit true)), (.ptr (some ⟨5, 0, none⟩)), pja_q9, (.any 12), (.any 13), (.any 14), (.any 15), (.any 16), (.any 17), (.tuple []), (.tuple []), (.tuple []), (.tuple []), (.tuple [])], pja_q2, []) 1 0
 (.rng 18 (-9223372036854775808) 9223372036854775807 (.loop ⟨133, [0, 1, 0, 0, 1, 1, 0, 0, 1, 0, 1, 1], [(.slice (some ⟨5, 0, none⟩) 3 3), (.tuple []), (.int .i64 (.lit 0)), (.int .i64 (.var 18)), (.tuple []), (.int .i64 (.var 6)), (.slice (some ⟨5, 0, none⟩) 3 3), (.int .i64 (.lit 3)), (.int .i64 (.lit 1)), (.bool (.lit true)), (.ptr (some ⟨5, 1, none⟩)), (.int .i64 (.var 6)), (.any 12), (.any 13), (.any 14), (.any 15), (.any 16), (.any 17), (.int .i64 (.lit 1)), (.tuple []), (.tuple []), (.tuple []), (.tuple [])], pja_q2, [(.slice (some ⟨5, 0, none⟩) 3 3), (.tuple []), (.int .i64 (.lit 0)), (.int .i64 (.var 19)), (.tuple []), (.int .i64 (.var 20)), (.slice (some ⟨5, 0, none⟩) 3 3), (.int .i64 (.lit 3)), (.int .i64 (.lit 1)), (.bool (.lit true)), (.ptr (some ⟨5, 1, none⟩)), (.int .i64 (.var 6)), (.any 12), (.any 13), (.any 14), (.any 15), (.any 16), (.any 17), (.int .i64 (.lit 1)), (.tuple []), (.tuple []), (.tuple []), (.tuple [])], pja_q2, [], 2, 0, [(.var 18), (.var 6)], []⟩
 (.rng 19 (-9223372036854775808) 9223372036854775807 (.rng 20 (-9223372036854775808) 9223372036854775807 (.ite (.icmp .eql (.var 20) (.lit 0))
 (.out 0 [(.var 19)] [])
 (.next [(.var 20), (.bin .remK (.var 19) (.var 20))] []))))
 (.ex ((.exit 2), [(.slice (some ⟨5, 0, none⟩) 3 3), (.tuple []), (.int .i64 (.lit 0)), (.int .i64 (.var 19)), (.tuple []), (.any 5), (.slice (some ⟨5, 0, none⟩) 3 3), (.int .i64 (.lit 3)), (.int .i64 (.lit 1)), (.bool (.lit true)), (.ptr (some ⟨5, 1, none⟩)), (.int .i64 (.var 6)), (.any 12), (.any 13), (.any 14), (.any 15), (.any 16), (.any 17), (.int .i64 (.lit 1)), (.tuple []), (.tuple []), (.tuple []), (.tuple [])], pja_q2, []) 1 0
 (.rng 19 (-9223372036854775808) 9223372036854775807 (.loop ⟨133, [0, 1, 0, 0, 1, 1, 0, 0, 1, 0, 1, 1], [(.slice (some ⟨5, 0, none⟩) 3 3), (.tuple []), (.int .i64 (.lit 0)), (.int .i64 (.var 19)), (.tuple []), (.int .i64 (.var 7)), (.slice (some ⟨5, 0, none⟩) 3 3), (.int .i64 (.lit 3)), (.int .i64 (.lit 2)), (.bool (.lit true)), (.ptr (some ⟨5, 2, none⟩)), (.int .i64 (.var 7)), (.any 12), (.any 13), (.any 14), (.any 15), (.any 16), (.any 17), (.int .i64 (.lit 2)), (.tuple []), (.tuple []), (.tuple []), (.tuple [])], pja_q2, [(.slice (some ⟨5, 0, none⟩) 3 3), (.tuple []), (.int .i64 (.lit 0)), (.int .i64 (.var 20)), (.tuple []), (.int .i64 (.var 21)), (.slice (some ⟨5, 0, none⟩) 3 3), (.int .i64 (.lit 3)), (.int .i64 (.lit 2)), (.bool (.lit true)), (.ptr (some ⟨5, 2, none⟩)), (.int .i64 (.var 7)), (.any 12), (.any 13), (.any 14), (.any 15), (.any 16), (.any 17), (.int .i64 (.lit 2)), (.tuple []), (.tuple []), (.tuple []), (.tuple [])], pja_q2, [], 2, 0, [(.var 19), (.var 7)], []⟩
 (.rng 20 (-9223372036854775808) 9223372036854775807 (.rng 21 (-9223372036854775808) 9223372036854775807 (.ite (.icmp .eql (.var 21) (.lit 0))
 (.out 0 [(.var 20)] [])
 (.next [(.var 21), (.bin .remK (.var 20) (.var 21))] []))))
 (.ex ((.exit 2), [(.slice (some ⟨5, 0, none⟩) 3 3), (.tuple []), (.int .i64 (.lit 0)), (.int .i64 (.var 20)), (.tuple []), (.any 5), (.slice (some ⟨5, 0, none⟩) 3 3), (.int .i64 (.lit 3)), (.int .i64 (.lit 2)), (.bool (.lit true)), (.ptr (some ⟨5, 2, none⟩)), (.int .i64 (.var 7)), (.any 12), (.any 13), (.any 14), (.any 15), (.any 16), (.any 17), (.int .i64 (.lit 2)), (.tuple []), (.tuple []), (.tuple []), (.tuple [])], pja_q2, []) 1 0
 (.rng 20 (-9223372036854775808) 9223372036854775807 (.loop ⟨133, [0, 1, 0, 0, 1, 1, 0, 0, 1, 0, 1, 1], [(.slice (some ⟨7, 0, none⟩) 3 3), (.tuple []), (.int .i64 (.lit 0)), (.int .i64 (.lit 0)), (.tuple []), pja_q10, (.slice (some ⟨7, 0, none⟩) 3 3), (.int .i64 (.lit 3)), (.int .i64 (.lit 0)), (.bool (.lit true)), (.ptr (some ⟨7, 0, none⟩)), pja_q10, (.tuple []), (.tuple []), (.tuple []), (.tuple []), (.tuple []), (.tuple []), (.tuple []), (.tuple []), (.tuple []), (.tuple []), (.tuple [])], pja_q1, [(.slice (some ⟨7, 0, none⟩) 3 3), (.tuple []), (.int .i64 (.lit 0)), (.int .i64 (.var 21)), (.tuple []), (.int .i64 (.var 22)), (.slice (some ⟨7, 0, none⟩) 3 3), (.int .i64 (.lit 3)), (.int .i64 (.lit 0)), (.bool (.lit true)), (.ptr (some ⟨7, 0, none⟩)), pja_q10, (.any 12), (.any 13), (.any 14), (.any 15), (.any 16), (.any 17), (.tuple []), (.tuple []), (.tuple []), (.tuple []), (.tuple [])], pja_q1, [], 2, 0, [(.lit 0), (.bin .maxI (.var 20) (.bin (.subW .i64) (.lit 0) (.var 20)))], []⟩
 (.rng 21 (-9223372036854775808) 9223372036854775807 (.rng 22 (-9223372036854775808) 9223372036854775807 (.ite (.icmp .eql (.var 22) (.lit 0))
 (.out 0 [(.var 21)] [])
 (.next [(.var 22), (.bin .remK (.var 21) (.var 22))] []))))
 (.ex ((.exit 2), [(.slice (some ⟨7, 0, none⟩) 3 3), (.tuple []), (.int .i64 (.lit 0)), (.int .i64 (.var 21)), (.tuple []), (.any 5), (.slice (some ⟨7, 0, none⟩) 3 3), (.int .i64 (.lit 3)), (.int .i64 (.lit 0)), (.bool (.lit true)), (.ptr (some ⟨7, 0, none⟩)), pja_q10, (.any 12), (.any 13), (.any 14), (.any 15), (.any 16), (.any 17), (.tuple []), (.tuple []), (.tuple []), (.tuple []), (.tuple [])], pja_q1, []) 1 0
 (.rng 21 (-9223372036854775808) 9223372036854775807 (.loop ⟨133, [0, 1, 0, 0, 1, 1, 0, 0, 1, 0, 1, 1], [(.slice (some ⟨7, 0, none⟩) 3 3), (.tuple []), (.int .i64 (.lit 0)), (.int .i64 (.var 21)), (.tuple []), (.int .i64 (.var 10)), (.slice (some ⟨7, 0, none⟩) 3 3), (.int .i64 (.lit 3)), (.int .i64 (.lit 1)), (.bool (.lit true)), (.ptr (some ⟨7, 1, none⟩)), (.int .i64 (.var 10)), (.any 12), (.any 13), (.any 14), (.any 15), (.any 16), (.any 17), (.int .i64 (.lit 1)), (.tuple []), (.tuple []), (.tuple []), (.tuple [])], pja_q1, [(.slice (some ⟨7, 0, none⟩) 3 3), (.tuple []), (.int .i64 (.lit 0)), (.int .i64 (.var 22)), (.tuple []), (.int .i64 (.var 23)), (.slice (some ⟨7, 0, none⟩) 3 3), (.int .i64 (.lit 3)), (.int .i64 (.lit 1)), (.bool (.lit true)), (.ptr (some ⟨7, 1, none⟩)), (.int .i64 (.var 10)), (.any 12), (.any 13), (.any 14), (.any 15), (.any 16), (.any 17), (.int .i64 (.lit 1)), (.tuple []), (.tuple []), (.tuple []), (.tuple [])], pja_q1, [], 2, 0, [(.var 21), (.var 10)], []⟩
 (.rng 22 (-9223372036854775808) 9223372036854775807 (.rng 23 (-9223372036854775808) 9223372036854775807 (.ite (.icmp .eql (.var 23) (.lit 0))
 (.out 0 [(.var 22)] [])
 (.next [(.var 23), (.bin .remK (.var 22) (.var 23))] []))))
 (.ex ((.exit 2), [(.slice (some ⟨7, 0, none⟩) 3 3), (.tuple []), (.int .i64 (.lit 0)), (.int .i64 (.var 22)), (.tuple []), (.any 5), (.slice (some ⟨7, 0, none⟩) 3 3), (.int .i64 (.lit 3)), (.int .i64 (.lit 1)), (.bool (.lit true)), (.ptr (some ⟨7, 1, none⟩)), (.int .i64 (.var 10)), (.any 12), (.any 13), (.any 14), (.any 15), (.any 16), (.any 17), (.int .i64 (.lit 1)), (.tuple []), (.tuple []), (.tuple []), (.tuple [])], pja_q1, []) 1 0
 (.rng 22 (-9223372036854775808) 9223372036854775807 (.loop ⟨133, [0, 1, 0, 0, 1, 1, 0, 0, 1, 0, 1, 1], [(.slice (some ⟨7, 0, none⟩) 3 3), (.tuple []), (.int .i64 (.lit 0)), (.int .i64 (.var 22)), (.tuple []), (.int .i64 (.var 11)), (.slice (some ⟨7, 0, none⟩) 3 3), (.int .i64 (.lit 3)), (.int .i64 (.lit 2)), (.bool (.lit true)), (.ptr (some ⟨7, 2, none⟩)), (.int .i64 (.var 11)), (.any 12), (.any 13), (.any 14), (.any 15), (.any 16), (.any 17), (.int .i64 (.lit 2)), (.tuple []), (.tuple []), (.tuple []), (.tuple [])], pja_q1, [(.slice (some ⟨7, 0, none⟩) 3 3), (.tuple []), (.int .i64 (.lit 0)), (.int .i64 (.var 23)), (.tuple []), (.int .i64 (.var 24)), (.slice (some ⟨7, 0, none⟩) 3 3), (.int .i64 (.lit 3)), (.int .i64 (.lit 2)), (.bool (.lit true)), (.ptr (some ⟨7, 2, none⟩)), (.int .i64 (.var 11)), (.any 12), (.any 13), (.any 14), (.any 15), (.any 16), (.any 17), (.int .i64 (.lit 2)), (.tuple []), (.tuple []), (.tuple []), (.tuple [])], pja_q1, [], 2, 0, [(.var 22), (.var 11)], []⟩
 (.rng 23 (-9223372036854775808) 9223372036854775807 (.rng 24 (-9223372036854775808) 9223372036854775807 (.ite (.icmp .eql (.var 24) (.lit 0))
 (.out 0 [(.var 23)] [])
 (.next [(.var 24), (.bin .remK (.var 23) (.var 24))] []))))
 (.ex ((.exit 2), [(.slice (some ⟨7, 0, none⟩) 3 3), (.tuple []), (.int .i64 (.lit 0)), (.int .i64 (.var 23)), (.tuple []), (.any 5), (.slice (some ⟨7, 0, none⟩) 3 3), (.int .i64 (.lit 3)), (.int .i64 (.lit 2)), (.bool (.lit true)), (.ptr (some ⟨7, 2, none⟩)), (.int .i64 (.var 11)), (.any 12), (.any 13), (.any 14), (.any 15), (.any 16), (.any 17), (.int .i64 (.lit 2)), (.tuple []), (.tuple []), (.tuple []), (.tuple [])], pja_q1, []) 1 0
 (.rng 23 (-9223372036854775808) 9223372036854775807 (.loop ⟨133, [0, 1, 0, 0, 1, 1, 0, 0, 1, 0, 1, 1], [(.slice (some ⟨9, 0, none⟩) 3 3), (.tuple []), (.int .i64 (.lit 0)), (.int .i64 (.lit 0)), (.tuple []), (.int .i64 pja_q11), (.slice (some ⟨9, 0, none⟩) 3 3), (.int .i64 (.lit 3)), (.int .i64 (.lit 0)), (.bool (.lit true)), (.ptr (some ⟨9, 0, none⟩)), (.int .i64 pja_q11), (.tuple []), (.tuple []), (.tuple []), (.tuple []), (.tuple []), (.tuple []), (.tuple []), (.tuple []), (.tuple []), (.tuple []), (.tuple [])], pja_q0, [(.slice (some ⟨9, 0, none⟩) 3 3), (.tuple []), (.int .i64 (.lit 0)), (.int .i64 (.var 24)), (.tuple []), (.int .i64 (.var 25)), (.slice (some ⟨9, 0, none⟩) 3 3), (.int .i64 (.lit 3)), (.int .i64 (.lit 0)), (.bool (.lit true)), (.ptr (some ⟨9, 0, none⟩)), (.int .i64 pja_q11), (.any 12), (.any 13), (.any 14), (.any 15), (.any 16), (.any 17), (.tuple []), (.tuple []), (.tuple []), (.tuple []), (.tuple [])], pja_q0, [], 2, 0, [(.lit 0), pja_q11], []⟩
 (.rng 24 (-9223372036854775808) 9223372036854775807 (.rng 25 (-9223372036854775808) 9223372036854775807 (.ite (.icmp .eql (.var 25) (.lit 0))
 (.out 0 [(.var 24)] [])
 (.next [(.var 25), (.bin .remK (.var 24) (.var 25))] []))))
 (.ex ((.exit 2), [(.slice (some ⟨9, 0, none⟩) 3 3), (.tuple []), (.int .i64 (.lit 0)), (.int .i64 (.var 24)), (.tuple []), (.any 5), (.slice (some ⟨9, 0, none⟩) 3 3), (.int .i64 (.lit 3)), (.int .i64 (.lit 0)), (.bool (.lit true)), (.ptr (some ⟨9, 0, none⟩)), (.int .i64 pja_q11), (.any 12), (.any 13), (.any 14), (.any 15), (.any 16), (.any 17), (.tuple []), (.tuple []), (.tuple []), (.tuple []), (.tuple [])], pja_q0, []) 1 0
 (.rng 24 (-9223372036854775808) 9223372036854775807 (.loop ⟨133, [0, 1, 0, 0, 1, 1, 0, 0, 1, 0, 1, 1], [(.slice (some ⟨9, 0, none⟩) 3 3), (.tuple []), (.int .i64 (.lit 0)), (.int .i64 (.var 24)), (.tuple []), (.int .i64 (.var 14)), (.slice (some ⟨9, 0, none⟩) 3 3), (.int .i64 (.lit 3)), (.int .i64 (.lit 1)), (.bool (.lit true)), (.ptr (some ⟨9, 1, none⟩)), (.int .i64 (.var 14)), (.any 12), (.any 13), (.any 14), (.any 15), (.any 16), (.any 17), (.int .i64 (.lit 1)), (.tuple []), (.tuple []), (.tuple []), (.tuple [])], pja_q0, [(.slice (some ⟨9, 0, none⟩) 3 3), (.tuple []), (.int .i64 (.lit 0)), (.int .i64 (.var 25)), (.tuple []), (.int .i64 (.var 26)), (.slice (some ⟨9, 0, none⟩) 3 3), (.int .i64 (.lit 3)), (.int .i64 (.lit 1)), (.bool (.lit true)), (.ptr (some ⟨9, 1, none⟩)), (.int .i64 (.var 14)), (.any 12), (.any 13), (.any 14), (.any 15), (.any 16), (.any 17), (.int .i64 (.lit 1)), (.tuple []), (.tuple []), (.tuple []), (.tuple [])], pja_q0, [], 2, 0, [(.var 24), (.var 14)], []⟩
 (.rng 25 (-9223372036854775808) 9223372036854775807 (.rng 26 (-9223372036854775808) 9223372036854775807 (.ite (.icmp .eql (.var 26) (.lit 0))
 (.out 0 [(.var 25)] [])
 (.next [(.var 26), (.bin .remK (.var 25) (.var 26))] []))))
 (.ex ((.exit 2), [(.slice (some ⟨9, 0, none⟩) 3 3), (.tuple []), (.int .i64 (.lit 0)), (.int .i64 (.var 25)), (.tuple []), (.any 5), (.slice (some ⟨9, 0, none⟩) 3 3), (.int .i64 (.lit 3)), (.int .i64 (.lit 1)), (.bool (.lit true)), (.ptr (some ⟨9, 1, none⟩)), (.int .i64 (.var 14)), (.any 12), (.any 13), (.any 14), (.any 15), (.any 16), (.any 17), (.int .i64 (.lit 1)), (.tuple []), (.tuple []), (.tuple []), (.tuple [])], pja_q0, []) 1 0
 (.rng 25 (-9223372036854775808) 9223372036854775807 (.loop ⟨133, [0, 1, 0, 0, 1, 1, 0, 0, 1, 0, 1, 1], [(.slice (some ⟨9, 0, none⟩) 3 3), (.tuple []), (.int .i64 (.lit 0)), (.int .i64 (.var 25)), (.tuple []), (.int .i64 (.var 15)), (.slice (some ⟨9, 0, none⟩) 3 3), (.int .i64 (.lit 3)), (.int .i64 (.lit 2)), (.bool (.lit true)), (.ptr (some ⟨9, 2, none⟩)), (.int .i64 (.var 15)), (.any 12), (.any 13), (.any 14), (.any 15), (.any 16), (.any 17), (.int .i64 (.lit 2)), (.tuple []), (.tuple []), (.tuple []), (.tuple [])], pja_q0, [(.slice (some ⟨9, 0, none⟩) 3 3), (.tuple []), (.int .i64 (.lit 0)), (.int .i64 (.var 26)), (.tuple []), (.int .i64 (.var 27)), (.slice (some ⟨9, 0, none⟩) 3 3), (.int .i64 (.lit 3)), (.int .i64 (.lit 2)), (.bool (.lit true)), (.ptr (some ⟨9, 2, none⟩)), (.int .i64 (.var 15)), (.any 12), (.any 13), (.any 14), (.any 15), (.any 16), (.any 17), (.int .i64 (.lit 2)), (.tuple []), (.tuple []), (.tuple []), (.tuple [])], pja_q0, [], 2, 0, [(.var 25), (.var 15)], []⟩
 (.rng 26 (-9223372036854775808) 9223372036854775807 (.rng 27 (-9223372036854775808) 9223372036854775807 (.ite (.icmp .eql (.var 27) (.lit 0))
 (.out 0 [(.var 26)] [])
 (.next [(.var 27), (.bin .remK (.var 26) (.var 27))] []))))
 (.ex ((.exit 2), [(.slice (some ⟨9, 0, none⟩) 3 3), (.tuple []), (.int .i64 (.lit 0)), (.int .i64 (.var 26)), (.tuple []), (.any 5), (.slice (some ⟨9, 0, none⟩) 3 3), (.int .i64 (.lit 3)), (.int .i64 (.lit 2)), (.bool (.lit true)), (.ptr (some ⟨9, 2, none⟩)), (.int .i64 (.var 15)), (.any 12), (.any 13), (.any 14), (.any 15), (.any 16), (.any 17), (.int .i64 (.lit 2)), (.tuple []), (.tuple []), (.tuple []), (.tuple [])], pja_q0, []) 1 0
 (.rng 26 (-9223372036854775808) 9223372036854775807 (.ite (.icmp .eql pja_q7 (.lit 0))
 .nil
 (.leaf (.agg [(.complex .f64 (.toF .f64 (.bin (.quoW .i64) (.var 2) pja_q7)) (.toF .f64 (.bin (.quoW .i64) (.var 3) pja_q7))), (.complex .f64 (.toF .f64 (.bin (.quoW .i64) (.var 6) pja_q7)) (.toF .f64 (.bin (.quoW .i64) (.var 7) pja_q7))), (.complex .f64 (.toF .f64 (.bin (.quoW .i64) (.var 10) pja_q7)) (.toF .f64 (.bin (.quoW .i64) (.var 11) pja_q7))), (.complex .f64 (.toF .f64 (.bin (.quoW .i64) (.var 14) pja_q7)) (.toF .f64 (.bin (.quoW .i64) (.var 15) pja_q7)))]))))
 .nil)))
 .nil)))
 .nil)))
 .nil)))
 .nil)))
 .nil)))
 .nil)))
 .nil)))
 .nil)))
 .nil)))
 .nil))
 .nil))
theorem jlw {a0 a1 b0 b1 c0 c1 d0 d1 : Nat} {A0 A1 B0 B1 C0 C1 D0 D1 : Int} (r2 : (-40000000) ≤ A0 ∧ A0 ≤ 40000000) (r3 : (-40000000) ≤ A1 ∧ A1 ≤ 40000000) (r6 : (-40000000) ≤ B0 ∧ B0 ≤ 40000000) (r7 : (-40000000) ≤ B1 ∧ B1 ≤ 40000000) (r10 : (-40000000) ≤ C0 ∧ C0 ≤ 40000000) (r11 : (-40000000) ≤ C1 ∧ C1 ≤ 40000000) (r14 : (-40000000) ≤ D0 ∧ D0 ≤ 40000000) (r15 : (-40000000) ≤ D1 ∧ D1 ≤ 40000000) (h0 : Rp a0 A0) (h1 : Rp a1 A1) (h4 : Rp b0 B0) (h5 : Rp b1 B1) (h8 : Rp c0 C0) (h9 : Rp c1 C1) (h12 : Rp d0 D0) (h13 : Rp d1 D1) {Q : Value → Prop} (H :
 (∃ (I16 : Prop) (rk16 : Nat), I16 ∧
 (I16 → (∃ (I16 : Int → Int → Prop) (rk16 : Int → Int → Nat), I16 (0) (A0) ∧
 (∀ x16 x17 : Int, I16 (x16) (x17) → (((-9223372036854775808) ≤ x16 ∧ x16 ≤ 9223372036854775807) ∧ (((-9223372036854775808) ≤ x17 ∧ x17 ≤ 9223372036854775807) ∧ ((((x17 : Int) == 0) = true → (((-9223372036854775808) ≤ (x16) ∧ (x16) ≤ 9223372036854775807) ∧ (∃ (I17 : Int → Int → Prop) (rk17 : Int → Int → Nat), I17 ((x16)) (A1) ∧
 (∀ x17 x18 : Int, I17 (x17) (x18) → (((-9223372036854775808) ≤ x17 ∧ x17 ≤ 9223372036854775807) ∧ (((-9223372036854775808) ≤ x18 ∧ x18 ≤ 9223372036854775807) ∧ ((((x18 : Int) == 0) = true → (((-9223372036854775808) ≤ (x17) ∧ (x17) ≤ 9223372036854775807) ∧ (∃ (I18 : Int → Int → Prop) (rk18 : Int → Int → Nat), I18 (0) ((if (IntKind.i64.wrap (0 - (x17)) : Int) > (x17) then IntKind.i64.wrap (0 - (x17)) else (x17))) ∧
 (∀ x18 x19 : Int, I18 (x18) (x19) → (((-9223372036854775808) ≤ x18 ∧ x18 ≤ 9223372036854775807) ∧ (((-9223372036854775808) ≤ x19 ∧ x19 ≤ 9223372036854775807) ∧ ((((x19 : Int) == 0) = true → (((-9223372036854775808) ≤ (x18) ∧ (x18) ≤ 9223372036854775807) ∧ (∃ (I19 : Int → Int → Prop) (rk19 : Int → Int → Nat), I19 ((x18)) (B0) ∧
 (∀ x19 x20 : Int, I19 (x19) (x20) → (((-9223372036854775808) ≤ x19 ∧ x19 ≤ 9223372036854775807) ∧ (((-9223372036854775808) ≤ x20 ∧ x20 ≤ 9223372036854775807) ∧ ((((x20 : Int) == 0) = true → (((-9223372036854775808) ≤ (x19) ∧ (x19) ≤ 9223372036854775807) ∧ (∃ (I20 : Int → Int → Prop) (rk20 : Int → Int → Nat), I20 ((x19)) (B1) ∧
 (∀ x20 x21 : Int, I20 (x20) (x21) → (((-9223372036854775808) ≤ x20 ∧ x20 ≤ 9223372036854775807) ∧ (((-9223372036854775808) ≤ x21 ∧ x21 ≤ 9223372036854775807) ∧ ((((x21 : Int) == 0) = true → (((-9223372036854775808) ≤ (x20) ∧ (x20) ≤ 9223372036854775807) ∧ (∃ (I21 : Int → Int → Prop) (rk21 : Int → Int → Nat), I21 (0) ((if (IntKind.i64.wrap (0 - (x20)) : Int) > (x20) then IntKind.i64.wrap (0 - (x20)) else (x20))) ∧
 (∀ x21 x22 : Int, I21 (x21) (x22) → (((-9223372036854775808) ≤ x21 ∧ x21 ≤ 9223372036854775807) ∧ (((-9223372036854775808) ≤ x22 ∧ x22 ≤ 9223372036854775807) ∧ ((((x22 : Int) == 0) = true → (((-9223372036854775808) ≤ (x21) ∧ (x21) ≤ 9223372036854775807) ∧ (∃ (I22 : Int → Int → Prop) (rk22 : Int → Int → Nat), I22 ((x21)) (C0) ∧
 (∀ x22 x23 : Int, I22 (x22) (x23) → (((-9223372036854775808) ≤ x22 ∧ x22 ≤ 9223372036854775807) ∧ (((-9223372036854775808) ≤ x23 ∧ x23 ≤ 9223372036854775807) ∧ ((((x23 : Int) == 0) = true → (((-9223372036854775808) ≤ (x22) ∧ (x22) ≤ 9223372036854775807) ∧ (∃ (I23 : Int → Int → Prop) (rk23 : Int → Int → Nat), I23 ((x22)) (C1) ∧
 (∀ x23 x24 : Int, I23 (x23) (x24) → (((-9223372036854775808) ≤ x23 ∧ x23 ≤ 9223372036854775807) ∧ (((-9223372036854775808) ≤ x24 ∧ x24 ≤ 9223372036854775807) ∧ ((((x24 : Int) == 0) = true → (((-9223372036854775808) ≤ (x23) ∧ (x23) ≤ 9223372036854775807) ∧ (∃ (I24 : Int → Int → Prop) (rk24 : Int → Int → Nat), I24 (0) ((if (IntKind.i64.wrap (0 - (x23)) : Int) > (x23) then IntKind.i64.wrap (0 - (x23)) else (x23))) ∧
 (∀ x24 x25 : Int, I24 (x24) (x25) → (((-9223372036854775808) ≤ x24 ∧ x24 ≤ 9223372036854775807) ∧ (((-9223372036854775808) ≤ x25 ∧ x25 ≤ 9223372036854775807) ∧ ((((x25 : Int) == 0) = true → (((-9223372036854775808) ≤ (x24) ∧ (x24) ≤ 9223372036854775807) ∧ (∃ (I25 : Int → Int → Prop) (rk25 : Int → Int → Nat), I25 ((x24)) (D0) ∧
 (∀ x25 x26 : Int, I25 (x25) (x26) → (((-9223372036854775808) ≤ x25 ∧ x25 ≤ 9223372036854775807) ∧ (((-9223372036854775808) ≤ x26 ∧ x26 ≤ 9223372036854775807) ∧ ((((x26 : Int) == 0) = true → (((-9223372036854775808) ≤ (x25) ∧ (x25) ≤ 9223372036854775807) ∧ (∃ (I26 : Int → Int → Prop) (rk26 : Int → Int → Nat), I26 ((x25)) (D1) ∧
 (∀ x26 x27 : Int, I26 (x26) (x27) → (((-9223372036854775808) ≤ x26 ∧ x26 ≤ 9223372036854775807) ∧ (((-9223372036854775808) ≤ x27 ∧ x27 ≤ 9223372036854775807) ∧ ((((x27 : Int) == 0) = true → (((-9223372036854775808) ≤ (x26) ∧ (x26) ≤ 9223372036854775807) ∧ (((((if (IntKind.i64.wrap (0 - (x26)) : Int) > (x26) then IntKind.i64.wrap (0 - (x26)) else (x26)) : Int) == 0) = true → False) ∧
 ((((if (IntKind.i64.wrap (0 - (x26)) : Int) > (x26) then IntKind.i64.wrap (0 - (x26)) else (x26)) : Int) == 0) = false → Q (.agg #[.complex .f64 (FloatKind.f64.nearest (IntKind.i64.wrap ((A0 : Int).tdiv (if (IntKind.i64.wrap (0 - (x26)) : Int) > (x26) then IntKind.i64.wrap (0 - (x26)) else (x26))))) (FloatKind.f64.nearest (IntKind.i64.wrap ((A1 : Int).tdiv (if (IntKind.i64.wrap (0 - (x26)) : Int) > (x26) then IntKind.i64.wrap (0 - (x26)) else (x26))))), .complex .f64 (FloatKind.f64.nearest (IntKind.i64.wrap ((B0 : Int).tdiv (if (IntKind.i64.wrap (0 - (x26)) : Int) > (x26) then IntKind.i64.wrap (0 - (x26)) else (x26))))) (FloatKind.f64.nearest (IntKind.i64.wrap ((B1 : Int).tdiv (if (IntKind.i64.wrap (0 - (x26)) : Int) > (x26) then IntKind.i64.wrap (0 - (x26)) else (x26))))), .complex .f64 (FloatKind.f64.nearest (IntKind.i64.wrap ((C0 : Int).tdiv (if (IntKind.i64.wrap (0 - (x26)) : Int) > (x26) then IntKind.i64.wrap (0 - (x26)) else (x26))))) (FloatKind.f64.nearest (IntKind.i64.wrap ((C1 : Int).tdiv (if (IntKind.i64.wrap (0 - (x26)) : Int) > (x26) then IntKind.i64.wrap (0 - (x26)) else (x26))))), .complex .f64 (FloatKind.f64.nearest (IntKind.i64.wrap ((D0 : Int).tdiv (if (IntKind.i64.wrap (0 - (x26)) : Int) > (x26) then IntKind.i64.wrap (0 - (x26)) else (x26))))) (FloatKind.f64.nearest (IntKind.i64.wrap ((D1 : Int).tdiv (if (IntKind.i64.wrap (0 - (x26)) : Int) > (x26) then IntKind.i64.wrap (0 - (x26)) else (x26)))))]))))) ∧
 (((x27 : Int) == 0) = false → (I26 (x27) ((x26 : Int).tmod x27) ∧ rk26 (x27) ((x26 : Int).tmod x27) < rk26 (x26) (x27)))))))))) ∧
 (((x26 : Int) == 0) = false → (I25 (x26) ((x25 : Int).tmod x26) ∧ rk25 (x26) ((x25 : Int).tmod x26) < rk25 (x25) (x26)))))))))) ∧
 (((x25 : Int) == 0) = false → (I24 (x25) ((x24 : Int).tmod x25) ∧ rk24 (x25) ((x24 : Int).tmod x25) < rk24 (x24) (x25)))))))))) ∧
 (((x24 : Int) == 0) = false → (I23 (x24) ((x23 : Int).tmod x24) ∧ rk23 (x24) ((x23 : Int).tmod x24) < rk23 (x23) (x24)))))))))) ∧
 (((x23 : Int) == 0) = false → (I22 (x23) ((x22 : Int).tmod x23) ∧ rk22 (x23) ((x22 : Int).tmod x23) < rk22 (x22) (x23)))))))))) ∧
 (((x22 : Int) == 0) = false → (I21 (x22) ((x21 : Int).tmod x22) ∧ rk21 (x22) ((x21 : Int).tmod x22) < rk21 (x21) (x22)))))))))) ∧
 (((x21 : Int) == 0) = false → (I20 (x21) ((x20 : Int).tmod x21) ∧ rk20 (x21) ((x20 : Int).tmod x21) < rk20 (x20) (x21)))))))))) ∧
 (((x20 : Int) == 0) = false → (I19 (x20) ((x19 : Int).tmod x20) ∧ rk19 (x20) ((x19 : Int).tmod x20) < rk19 (x19) (x20)))))))))) ∧
 (((x19 : Int) == 0) = false → (I18 (x19) ((x18 : Int).tmod x19) ∧ rk18 (x19) ((x18 : Int).tmod x19) < rk18 (x18) (x19)))))))))) ∧
 (((x18 : Int) == 0) = false → (I17 (x18) ((x17 : Int).tmod x18) ∧ rk17 (x18) ((x17 : Int).tmod x18) < rk17 (x17) (x18)))))))))) ∧
 (((x17 : Int) == 0) = false → (I16 (x17) ((x16 : Int).tmod x17) ∧ rk16 (x17) ((x16 : Int).tmod x17) < rk16 (x16) (x17))))))))))) :
 ∃ v, Q v ∧ ∀ w, Calls Try.prog 122 #[.agg #[.complex .f64 a0 a1, .complex .f64 b0 b1, .complex .f64 c0 c1, .complex .f64 d0 d1]] w fun e w' => e = .returned v ∧ Below w.heap.size w w' :=
 tree_at mixed names S1_ok (S := S1 Try.prog) (lf := 100000) (d := 60) (args := [(.agg [(.complex .f64 (.var 0) (.var 1)), (.complex .f64 (.var 4) (.var 5)), (.complex .f64 (.var 8) (.var 9)), (.complex .f64 (.var 12) (.var 13))])]) jlw_t { ivs := [(2, (-40000000), 40000000), (3, (-40000000), 40000000), (6, (-40000000), 40000000), (7, (-40000000), 40000000), (10, (-40000000), 40000000), (11, (-40000000), 40000000), (14, (-40000000), 40000000), (15, (-40000000), 40000000)], whs := [(0, (.var 2), 40000000), (1, (.var 3), 40000000), (4, (.var 6), 40000000), (5, (.var 7), 40000000), (8, (.var 10), 40000000), (9, (.var 11), 40000000), (12, (.var 14), 40000000), (13, (.var 15), 40000000)] } [(a0 : Int), (a1 : Int), A0, A1, (b0 : Int), (b1 : Int), B0, B1, (c0 : Int), (c1 : Int), C0, C1, (d0 : Int), (d1 : Int), D0, D1] [] 16 0 rfl rfl (by kernel_rfl) (by kernel_rfl) (by kernel_rfl)
 ⟨(fc r2 (fc r3 (fc r6 (fc r7 (fc r10 (fc r11 (fc r14 (fc r15 fz)))))))), (fc ⟨h0, wh_rng r2, by decide⟩ (fc ⟨h1, wh_rng r3, by decide⟩ (fc ⟨h4, wh_rng r6, by decide⟩ (fc ⟨h5, wh_rng r7, by decide⟩ (fc ⟨h8, wh_rng r10, by decide⟩ (fc ⟨h9, wh_rng r11, by decide⟩ (fc ⟨h12, wh_rng r14, by decide⟩ (fc ⟨h13, wh_rng r15, by decide⟩ fz))))))))⟩ (Eq.mp (by kernel_rfl) H)
def jrm_t : Tr :=
 (.ite (.icmp .leq (.bin .maxI (.var 2) (.bin .subI (.lit 0) (.var 2))) (.lit 1000))
 (.ite (.icmp .leq (.bin .maxI (.var 3) (.bin .subI (.lit 0) (.var 3))) (.lit 1000))
 (.ite (.icmp .leq (.bin .maxI (.var 6) (.bin .subI (.lit 0) (.var 6))) (.lit 1000))
 (.ite (.icmp .leq (.bin .maxI (.var 7) (.bin .subI (.lit 0) (.var 7))) (.lit 1000))
 (.ite (.icmp .leq (.bin .maxI (.var 10) (.bin .subI (.lit 0) (.var 10))) (.lit 1000))
 (.ite (.icmp .leq (.bin .maxI (.var 11) (.bin .subI (.lit 0) (.var 11))) (.lit 1000))
 (.ite (.icmp .leq (.bin .maxI (.var 14) (.bin .subI (.lit 0) (.var 14))) (.lit 1000))
 (.ite (.icmp .leq (.bin .maxI (.var 15) (.bin .subI (.lit 0) (.var 15))) (.lit 1000))
 (.leaf (.tuple [(.agg [(.complex .f64 (.toF .f64 (.var 2)) (.toF .f64 (.var 3))), (.complex .f64 (.toF .f64 (.var 6)) (.toF .f64 (.var 7))), (.complex .f64 (.toF .f64 (.var 10)) (.toF .f64 (.var 11))), (.complex .f64 (.toF .f64 (.var 14)) (.toF .f64 (.var 15)))]), (.int .i64 (.lit 0))]))
 pja_q4)
 pja_q4)
 pja_q4)
 pja_q4)
 pja_q4)
 pja_q4)
 pja_q4)
 pja_q4)
theorem jrm {a0 a1 b0 b1 c0 c1 d0 d1 : Nat} {A0 A1 B0 B1 C0 C1 D0 D1 : Int} (r2 : (-40000000) ≤ A0 ∧ A0 ≤ 40000000) (r3 : (-40000000) ≤ A1 ∧ A1 ≤ 40000000) (r6 : (-40000000) ≤ B0 ∧ B0 ≤ 40000000) (r7 : (-40000000) ≤ B1 ∧ B1 ≤ 40000000) (r10 : (-40000000) ≤ C0 ∧ C0 ≤ 40000000) (r11 : (-40000000) ≤ C1 ∧ C1 ≤ 40000000) (r14 : (-40000000) ≤ D0 ∧ D0 ≤ 40000000) (r15 : (-40000000) ≤ D1 ∧ D1 ≤ 40000000) (h0 : Rp a0 A0) (h1 : Rp a1 A1) (h4 : Rp b0 B0) (h5 : Rp b1 B1) (h8 : Rp c0 C0) (h9 : Rp c1 C1) (h12 : Rp d0 D0) (h13 : Rp d1 D1) {Q : Value → Prop} (H :
 ((decide (((if ((0 - A0) : Int) > A0 then (0 - A0) else A0) : Int) ≤ 1000) = true → ((decide (((if ((0 - A1) : Int) > A1 then (0 - A1) else A1) : Int) ≤ 1000) = true → ((decide (((if ((0 - B0) : Int) > B0 then (0 - B0) else B0) : Int) ≤ 1000) = true → ((decide (((if ((0 - B1) : Int) > B1 then (0 - B1) else B1) : Int) ≤ 1000) = true → ((decide (((if ((0 - C0) : Int) > C0 then (0 - C0) else C0) : Int) ≤ 1000) = true → ((decide (((if ((0 - C1) : Int) > C1 then (0 - C1) else C1) : Int) ≤ 1000) = true → ((decide (((if ((0 - D0) : Int) > D0 then (0 - D0) else D0) : Int) ≤ 1000) = true → ((decide (((if ((0 - D1) : Int) > D1 then (0 - D1) else D1) : Int) ≤ 1000) = true → Q (.tuple #[.agg #[.complex .f64 (FloatKind.f64.nearest A0) (FloatKind.f64.nearest A1), .complex .f64 (FloatKind.f64.nearest B0) (FloatKind.f64.nearest B1), .complex .f64 (FloatKind.f64.nearest C0) (FloatKind.f64.nearest C1), .complex .f64 (FloatKind.f64.nearest D0) (FloatKind.f64.nearest D1)], .int .i64 (0)])) ∧
 (decide (((if ((0 - D1) : Int) > D1 then (0 - D1) else D1) : Int) ≤ 1000) = false → Q (.tuple #[.agg #[.complex .f64 0 0, .complex .f64 0 0, .complex .f64 0 0, .complex .f64 0 0], .int .i64 (8)])))) ∧
 (decide (((if ((0 - D0) : Int) > D0 then (0 - D0) else D0) : Int) ≤ 1000) = false → Q (.tuple #[.agg #[.complex .f64 0 0, .complex .f64 0 0, .complex .f64 0 0, .complex .f64 0 0], .int .i64 (8)])))) ∧
 (decide (((if ((0 - C1) : Int) > C1 then (0 - C1) else C1) : Int) ≤ 1000) = false → Q (.tuple #[.agg #[.complex .f64 0 0, .complex .f64 0 0, .complex .f64 0 0, .complex .f64 0 0], .int .i64 (8)])))) ∧
 (decide (((if ((0 - C0) : Int) > C0 then (0 - C0) else C0) : Int) ≤ 1000) = false → Q (.tuple #[.agg #[.complex .f64 0 0, .complex .f64 0 0, .complex .f64 0 0, .complex .f64 0 0], .int .i64 (8)])))) ∧
 (decide (((if ((0 - B1) : Int) > B1 then (0 - B1) else B1) : Int) ≤ 1000) = false → Q (.tuple #[.agg #[.complex .f64 0 0, .complex .f64 0 0, .complex .f64 0 0, .complex .f64 0 0], .int .i64 (8)])))) ∧
 (decide (((if ((0 - B0) : Int) > B0 then (0 - B0) else B0) : Int) ≤ 1000) = false → Q (.tuple #[.agg #[.complex .f64 0 0, .complex .f64 0 0, .complex .f64 0 0, .complex .f64 0 0], .int .i64 (8)])))) ∧
 (decide (((if ((0 - A1) : Int) > A1 then (0 - A1) else A1) : Int) ≤ 1000) = false → Q (.tuple #[.agg #[.complex .f64 0 0, .complex .f64 0 0, .complex .f64 0 0, .complex .f64 0 0], .int .i64 (8)])))) ∧
 (decide (((if ((0 - A0) : Int) > A0 then (0 - A0) else A0) : Int) ≤ 1000) = false → Q (.tuple #[.agg #[.complex .f64 0 0, .complex .f64 0 0, .complex .f64 0 0, .complex .f64 0 0], .int .i64 (8)])))) :
 ∃ v, Q v ∧ ∀ w, Calls Try.prog 100 #[.agg #[.complex .f64 a0 a1, .complex .f64 b0 b1, .complex .f64 c0 c1, .complex .f64 d0 d1]] w fun e w' => e = .returned v ∧ Below w.heap.size w w' :=
 tree_at mixed names S1_ok (S := S1 Try.prog) (lf := 100000) (d := 60) (args := [(.agg [(.complex .f64 (.var 0) (.var 1)), (.complex .f64 (.var 4) (.var 5)), (.complex .f64 (.var 8) (.var 9)), (.complex .f64 (.var 12) (.var 13))])]) jrm_t { ivs := [(2, (-40000000), 40000000), (3, (-40000000), 40000000), (6, (-40000000), 40000000), (7, (-40000000), 40000000), (10, (-40000000), 40000000), (11, (-40000000), 40000000), (14, (-40000000), 40000000), (15, (-40000000), 40000000)], whs := [(0, (.var 2), 40000000), (1, (.var 3), 40000000), (4, (.var 6), 40000000), (5, (.var 7), 40000000), (8, (.var 10), 40000000), (9, (.var 11), 40000000), (12, (.var 14), 40000000), (13, (.var 15), 40000000)] } [(a0 : Int), (a1 : Int), A0, A1, (b0 : Int), (b1 : Int), B0, B1, (c0 : Int), (c1 : Int), C0, C1, (d0 : Int), (d1 : Int), D0, D1] [] 16 0 rfl rfl (by kernel_rfl) (by kernel_rfl) (by kernel_rfl)
 ⟨(fc r2 (fc r3 (fc r6 (fc r7 (fc r10 (fc r11 (fc r14 (fc r15 fz)))))))), (fc ⟨h0, wh_rng r2, by decide⟩ (fc ⟨h1, wh_rng r3, by decide⟩ (fc ⟨h4, wh_rng r6, by decide⟩ (fc ⟨h5, wh_rng r7, by decide⟩ (fc ⟨h8, wh_rng r10, by decide⟩ (fc ⟨h9, wh_rng r11, by decide⟩ (fc ⟨h12, wh_rng r14, by decide⟩ (fc ⟨h13, wh_rng r15, by decide⟩ fz))))))))⟩ (Eq.mp (by kernel_rfl) H)
def jcu_t : Tr :=
 (.ite (.icmp .leq (.lit (-10000000)) (.var 0))
 (.ite (.icmp .leq (.var 0) (.lit 10000000))
 (.ite (.icmp .leq (.lit (-10000000)) (.var 1))
 (.ite (.icmp .leq (.var 1) (.lit 10000000))
 (.ite (.icmp .leq (.lit (-10000000)) (.var 2))
 (.ite (.icmp .leq (.var 2) (.lit 10000000))
 (.ite (.icmp .leq (.lit (-10000000)) (.var 3))
 (.ite (.icmp .leq (.var 3) (.lit 10000000))
 (.ite (.icmp .leq (.lit (-10000000)) (.var 4))
 (.ite (.icmp .leq (.var 4) (.lit 10000000))
 (.ite (.icmp .leq (.lit (-10000000)) (.var 5))
 (.ite (.icmp .leq (.var 5) (.lit 10000000))
 (.ite (.icmp .leq (.lit (-10000000)) (.var 6))
 (.ite (.icmp .leq (.var 6) (.lit 10000000))
 (.ite (.icmp .leq (.lit (-10000000)) (.var 7))
 (.ite (.icmp .leq (.var 7) (.lit 10000000))
 (.ite (.icmp .leq (.lit (-10000000)) (.var 8))
 (.ite (.icmp .leq (.var 8) (.lit 10000000))
 (.ite (.icmp .leq (.lit (-10000000)) (.var 9))
 (.ite (.icmp .leq (.var 9) (.lit 10000000))
 (.ite (.icmp .leq (.lit (-10000000)) (.var 10))
 (.ite (.icmp .leq (.var 10) (.lit 10000000))
 (.ite (.icmp .leq (.lit (-10000000)) (.var 11))
 (.ite (.icmp .leq (.var 11) (.lit 10000000))
 (.ite (.icmp .leq (.lit (-10000000)) (.var 12))
 (.ite (.icmp .leq (.var 12) (.lit 10000000))
 (.ite (.icmp .leq (.lit (-10000000)) (.var 13))
 (.ite (.icmp .leq (.var 13) (.lit 10000000))
 (.ite (.icmp .leq (.lit (-10000000)) (.var 14))
 (.ite (.icmp .leq (.var 14) (.lit 10000000))
 (.ite (.icmp .leq (.lit (-10000000)) (.var 15))
 (.ite (.icmp .leq (.var 15) (.lit 10000000))
 (.leaf (.int .i64 (.lit 0)))
 (.leaf (.int .i64 (.lit 8))))
 (.leaf (.int .i64 (.lit 8))))
 (.leaf (.int .i64 (.lit 8))))
 (.leaf (.int .i64 (.lit 8))))
 (.leaf (.int .i64 (.lit 8))))
 (.leaf (.int .i64 (.lit 8))))
 (.leaf (.int .i64 (.lit 8))))
 (.leaf (.int .i64 (.lit 8))))
 (.leaf (.int .i64 (.lit 8))))
 (.leaf (.int .i64 (.lit 8))))
 (.leaf (.int .i64 (.lit 8))))
 (.leaf (.int .i64 (.lit 8))))
 (.leaf (.int .i64 (.lit 8))))
 (.leaf (.int .i64 (.lit 8))))
 (.leaf (.int .i64 (.lit 8))))
 (.leaf (.int .i64 (.lit 8))))
 (.leaf (.int .i64 (.lit 8))))
 (.leaf (.int .i64 (.lit 8))))
 (.leaf (.int .i64 (.lit 8))))
 (.leaf (.int .i64 (.lit 8))))
 (.leaf (.int .i64 (.lit 8))))
 (.leaf (.int .i64 (.lit 8))))
 (.leaf (.int .i64 (.lit 8))))
 (.leaf (.int .i64 (.lit 8))))
 (.leaf (.int .i64 (.lit 8))))
 (.leaf (.int .i64 (.lit 8))))
 (.leaf (.int .i64 (.lit 8))))
 (.leaf (.int .i64 (.lit 8))))
 (.leaf (.int .i64 (.lit 8))))
 (.leaf (.int .i64 (.lit 8))))
 (.leaf (.int .i64 (.lit 8))))
 (.leaf (.int .i64 (.lit 8))))
theorem jcu {m0 m1 m2 m3 m4 m5 m6 m7 m8 m9 m10 m11 m12 m13 m14 m15 : Int} (r0 : (-1000000000) ≤ m0 ∧ m0 ≤ 1000000000) (r1 : (-1000000000) ≤ m1 ∧ m1 ≤ 1000000000) (r2 : (-1000000000) ≤ m2 ∧ m2 ≤ 1000000000) (r3 : (-1000000000) ≤ m3 ∧ m3 ≤ 1000000000) (r4 : (-1000000000) ≤ m4 ∧ m4 ≤ 1000000000) (r5 : (-1000000000) ≤ m5 ∧ m5 ≤ 1000000000) (r6 : (-1000000000) ≤ m6 ∧ m6 ≤ 1000000000) (r7 : (-1000000000) ≤ m7 ∧ m7 ≤ 1000000000) (r8 : (-1000000000) ≤ m8 ∧ m8 ≤ 1000000000) (r9 : (-1000000000) ≤ m9 ∧ m9 ≤ 1000000000) (r10 : (-1000000000) ≤ m10 ∧ m10 ≤ 1000000000) (r11 : (-1000000000) ≤ m11 ∧ m11 ≤ 1000000000) (r12 : (-1000000000) ≤ m12 ∧ m12 ≤ 1000000000) (r13 : (-1000000000) ≤ m13 ∧ m13 ≤ 1000000000) (r14 : (-1000000000) ≤ m14 ∧ m14 ≤ 1000000000) (r15 : (-1000000000) ≤ m15 ∧ m15 ≤ 1000000000) {Q : Value → Prop} (H :
 ((decide (((-10000000) : Int) ≤ m0) = true → ((decide ((m0 : Int) ≤ 10000000) = true → ((decide (((-10000000) : Int) ≤ m1) = true → ((decide ((m1 : Int) ≤ 10000000) = true → ((decide (((-10000000) : Int) ≤ m2) = true → ((decide ((m2 : Int) ≤ 10000000) = true → ((decide (((-10000000) : Int) ≤ m3) = true → ((decide ((m3 : Int) ≤ 10000000) = true → ((decide (((-10000000) : Int) ≤ m4) = true → ((decide ((m4 : Int) ≤ 10000000) = true → ((decide (((-10000000) : Int) ≤ m5) = true → ((decide ((m5 : Int) ≤ 10000000) = true → ((decide (((-10000000) : Int) ≤ m6) = true → ((decide ((m6 : Int) ≤ 10000000) = true → ((decide (((-10000000) : Int) ≤ m7) = true → ((decide ((m7 : Int) ≤ 10000000) = true → ((decide (((-10000000) : Int) ≤ m8) = true → ((decide ((m8 : Int) ≤ 10000000) = true → ((decide (((-10000000) : Int) ≤ m9) = true → ((decide ((m9 : Int) ≤ 10000000) = true → ((decide (((-10000000) : Int) ≤ m10) = true → ((decide ((m10 : Int) ≤ 10000000) = true → ((decide (((-10000000) : Int) ≤ m11) = true → ((decide ((m11 : Int) ≤ 10000000) = true → ((decide (((-10000000) : Int) ≤ m12) = true → ((decide ((m12 : Int) ≤ 10000000) = true → ((decide (((-10000000) : Int) ≤ m13) = true → ((decide ((m13 : Int) ≤ 10000000) = true → ((decide (((-10000000) : Int) ≤ m14) = true → ((decide ((m14 : Int) ≤ 10000000) = true → ((decide (((-10000000) : Int) ≤ m15) = true → ((decide ((m15 : Int) ≤ 10000000) = true → Q (.int .i64 (0))) ∧
 (decide ((m15 : Int) ≤ 10000000) = false → Q (.int .i64 (8))))) ∧
 (decide (((-10000000) : Int) ≤ m15) = false → Q (.int .i64 (8))))) ∧
 (decide ((m14 : Int) ≤ 10000000) = false → Q (.int .i64 (8))))) ∧
 (decide (((-10000000) : Int) ≤ m14) = false → Q (.int .i64 (8))))) ∧
 (decide ((m13 : Int) ≤ 10000000) = false → Q (.int .i64 (8))))) ∧
 (decide (((-10000000) : Int) ≤ m13) = false → Q (.int .i64 (8))))) ∧
 (decide ((m12 : Int) ≤ 10000000) = false → Q (.int .i64 (8))))) ∧
 (decide (((-10000000) : Int) ≤ m12) = false → Q (.int .i64 (8))))) ∧
 (decide ((m11 : Int) ≤ 10000000) = false → Q (.int .i64 (8))))) ∧
 (decide (((-10000000) : Int) ≤ m11) = false → Q (.int .i64 (8))))) ∧
 (decide ((m10 : Int) ≤ 10000000) = false → Q (.int .i64 (8))))) ∧
 (decide (((-10000000) : Int) ≤ m10) = false → Q (.int .i64 (8))))) ∧
 (decide ((m9 : Int) ≤ 10000000) = false → Q (.int .i64 (8))))) ∧
 (decide (((-10000000) : Int) ≤ m9) = false → Q (.int .i64 (8))))) ∧
 (decide ((m8 : Int) ≤ 10000000) = false → Q (.int .i64 (8))))) ∧
 (decide (((-10000000) : Int) ≤ m8) = false → Q (.int .i64 (8))))) ∧
 (decide ((m7 : Int) ≤ 10000000) = false → Q (.int .i64 (8))))) ∧
 (decide (((-10000000) : Int) ≤ m7) = false → Q (.int .i64 (8))))) ∧
 (decide ((m6 : Int) ≤ 10000000) = false → Q (.int .i64 (8))))) ∧
 (decide (((-10000000) : Int) ≤ m6) = false → Q (.int .i64 (8))))) ∧
 (decide ((m5 : Int) ≤ 10000000) = false → Q (.int .i64 (8))))) ∧
 (decide (((-10000000) : Int) ≤ m5) = false → Q (.int .i64 (8))))) ∧
 (decide ((m4 : Int) ≤ 10000000) = false → Q (.int .i64 (8))))) ∧
 (decide (((-10000000) : Int) ≤ m4) = false → Q (.int .i64 (8))))) ∧
 (decide ((m3 : Int) ≤ 10000000) = false → Q (.int .i64 (8))))) ∧
 (decide (((-10000000) : Int) ≤ m3) = false → Q (.int .i64 (8))))) ∧
 (decide ((m2 : Int) ≤ 10000000) = false → Q (.int .i64 (8))))) ∧
 (decide (((-10000000) : Int) ≤ m2) = false → Q (.int .i64 (8))))) ∧
 (decide ((m1 : Int) ≤ 10000000) = false → Q (.int .i64 (8))))) ∧
 (decide (((-10000000) : Int) ≤ m1) = false → Q (.int .i64 (8))))) ∧
 (decide ((m0 : Int) ≤ 10000000) = false → Q (.int .i64 (8))))) ∧
 (decide (((-10000000) : Int) ≤ m0) = false → Q (.int .i64 (8))))) :
 ∃ v, Q v ∧ ∀ w, Calls Try.prog 119 #[.int .i64 (10000000), .agg #[.int .i64 (m0), .int .i64 (m1), .int .i64 (m2), .int .i64 (m3), .int .i64 (m4), .int .i64 (m5), .int .i64 (m6), .int .i64 (m7), .int .i64 (m8), .int .i64 (m9), .int .i64 (m10), .int .i64 (m11), .int .i64 (m12), .int .i64 (m13), .int .i64 (m14), .int .i64 (m15)]] w fun e w' => e = .returned v ∧ Below w.heap.size w w' :=
 tree_at mixed names S1_ok (S := S1 Try.prog) (lf := 100000) (d := 60) (args := [(.int .i64 (.lit 10000000)), (.agg [(.int .i64 (.var 0)), (.int .i64 (.var 1)), (.int .i64 (.var 2)), (.int .i64 (.var 3)), (.int .i64 (.var 4)), (.int .i64 (.var 5)), (.int .i64 (.var 6)), (.int .i64 (.var 7)), (.int .i64 (.var 8)), (.int .i64 (.var 9)), (.int .i64 (.var 10)), (.int .i64 (.var 11)), (.int .i64 (.var 12)), (.int .i64 (.var 13)), (.int .i64 (.var 14)), (.int .i64 (.var 15))])]) jcu_t { ivs := [(0, (-1000000000), 1000000000), (1, (-1000000000), 1000000000), (2, (-1000000000), 1000000000), (3, (-1000000000), 1000000000), (4, (-1000000000), 1000000000), (5, (-1000000000), 1000000000), (6, (-1000000000), 1000000000), (7, (-1000000000), 1000000000), (8, (-1000000000), 1000000000), (9, (-1000000000), 1000000000), (10, (-1000000000), 1000000000), (11, (-1000000000), 1000000000), (12, (-1000000000), 1000000000), (13, (-1000000000), 1000000000), (14, (-1000000000), 1000000000), (15, (-1000000000), 1000000000)], whs := [] } [m0, m1, m2, m3, m4, m5, m6, m7, m8, m9, m10, m11, m12, m13, m14, m15] [] 16 0 rfl rfl (by kernel_rfl) (by kernel_rfl) (by kernel_rfl)
 ⟨(fc r0 (fc r1 (fc r2 (fc r3 (fc r4 (fc r5 (fc r6 (fc r7 (fc r8 (fc r9 (fc r10 (fc r11 (fc r12 (fc r13 (fc r14 (fc r15 fz)))))))))))))))), fz⟩ (Eq.mp (by kernel_rfl) H)
def jcv_t : Tr :=
 (.call 58 [(.agg [(.int .i64 (.var 0)), (.int .i64 (.var 1)), (.int .i64 (.var 2)), (.int .i64 (.var 3)), (.int .i64 (.var 4)), (.int .i64 (.var 5)), (.int .i64 (.var 6)), (.int .i64 (.var 7)), (.int .i64 (.var 8)), (.int .i64 (.var 9)), (.int .i64 (.var 10)), (.int .i64 (.var 11)), (.int .i64 (.var 12)), (.int .i64 (.var 13)), (.int .i64 (.var 14)), (.int .i64 (.var 15))])] (.int .i64 (.var 16)) 1 0
 (.rng 16 1 100 (.leaf (.int .i64 (.var 16)))))
theorem jcv {m0 m1 m2 m3 m4 m5 m6 m7 m8 m9 m10 m11 m12 m13 m14 m15 : Int} (r0 : (-9223372036854775808) ≤ m0 ∧ m0 ≤ 9223372036854775807) (r1 : (-9223372036854775808) ≤ m1 ∧ m1 ≤ 9223372036854775807) (r2 : (-9223372036854775808) ≤ m2 ∧ m2 ≤ 9223372036854775807) (r3 : (-9223372036854775808) ≤ m3 ∧ m3 ≤ 9223372036854775807) (r4 : (-9223372036854775808) ≤ m4 ∧ m4 ≤ 9223372036854775807) (r5 : (-9223372036854775808) ≤ m5 ∧ m5 ≤ 9223372036854775807) (r6 : (-9223372036854775808) ≤ m6 ∧ m6 ≤ 9223372036854775807) (r7 : (-9223372036854775808) ≤ m7 ∧ m7 ≤ 9223372036854775807) (r8 : (-9223372036854775808) ≤ m8 ∧ m8 ≤ 9223372036854775807) (r9 : (-9223372036854775808) ≤ m9 ∧ m9 ≤ 9223372036854775807) (r10 : (-9223372036854775808) ≤ m10 ∧ m10 ≤ 9223372036854775807) (r11 : (-9223372036854775808) ≤ m11 ∧ m11 ≤ 9223372036854775807) (r12 : (-9223372036854775808) ≤ m12 ∧ m12 ≤ 9223372036854775807) (r13 : (-9223372036854775808) ≤ m13 ∧ m13 ≤ 9223372036854775807) (r14 : (-9223372036854775808) ≤ m14 ∧ m14 ≤ 9223372036854775807) (r15 : (-9223372036854775808) ≤ m15 ∧ m15 ≤ 9223372036854775807) {Q : Value → Prop} (H :
 (∃ v16 : Int, (∀ w, Calls Try.prog 58 #[.agg #[.int .i64 (m0), .int .i64 (m1), .int .i64 (m2), .int .i64 (m3), .int .i64 (m4), .int .i64 (m5), .int .i64 (m6), .int .i64 (m7), .int .i64 (m8), .int .i64 (m9), .int .i64 (m10), .int .i64 (m11), .int .i64 (m12), .int .i64 (m13), .int .i64 (m14), .int .i64 (m15)]] w fun e w' => e = .returned (.int .i64 (v16)) ∧ Below w.heap.size w w') ∧
 ((1 ≤ v16 ∧ v16 ≤ 100) ∧ Q (.int .i64 (v16))))) :
 ∃ v, Q v ∧ ∀ w, Calls Try.prog 119 #[.int .i64 (10000000), .agg #[.int .i64 (m0), .int .i64 (m1), .int .i64 (m2), .int .i64 (m3), .int .i64 (m4), .int .i64 (m5), .int .i64 (m6), .int .i64 (m7), .int .i64 (m8), .int .i64 (m9), .int .i64 (m10), .int .i64 (m11), .int .i64 (m12), .int .i64 (m13), .int .i64 (m14), .int .i64 (m15)]] w fun e w' => e = .returned v ∧ Below w.heap.size w w' :=
 tree_at mixed names S1_ok (S := S1 Try.prog) (lf := 100000) (d := 60) (args := [(.int .i64 (.lit 10000000)), (.agg [(.int .i64 (.var 0)), (.int .i64 (.var 1)), (.int .i64 (.var 2)), (.int .i64 (.var 3)), (.int .i64 (.var 4)), (.int .i64 (.var 5)), (.int .i64 (.var 6)), (.int .i64 (.var 7)), (.int .i64 (.var 8)), (.int .i64 (.var 9)), (.int .i64 (.var 10)), (.int .i64 (.var 11)), (.int .i64 (.var 12)), (.int .i64 (.var 13)), (.int .i64 (.var 14)), (.int .i64 (.var 15))])]) jcv_t { ivs := [(0, (-9223372036854775808), 9223372036854775807), (1, (-9223372036854775808), 9223372036854775807), (2, (-9223372036854775808), 9223372036854775807), (3, (-9223372036854775808), 9223372036854775807), (4, (-9223372036854775808), 9223372036854775807), (5, (-9223372036854775808), 9223372036854775807), (6, (-9223372036854775808), 9223372036854775807), (7, (-9223372036854775808), 9223372036854775807), (8, (-9223372036854775808), 9223372036854775807), (9, (-9223372036854775808), 9223372036854775807), (10, (-9223372036854775808), 9223372036854775807), (11, (-9223372036854775808), 9223372036854775807), (12, (-9223372036854775808), 9223372036854775807), (13, (-9223372036854775808), 9223372036854775807), (14, (-9223372036854775808), 9223372036854775807), (15, (-9223372036854775808), 9223372036854775807)], whs := [] } [m0, m1, m2, m3, m4, m5, m6, m7, m8, m9, m10, m11, m12, m13, m14, m15] [] 16 0 rfl rfl (by kernel_rfl) (by kernel_rfl) (by kernel_rfl)
 ⟨(fc r0 (fc r1 (fc r2 (fc r3 (fc r4 (fc r5 (fc r6 (fc r7 (fc r8 (fc r9 (fc r10 (fc r11 (fc r12 (fc r13 (fc r14 (fc r15 fz)))))))))))))))), fz⟩ (Eq.mp (by kernel_rfl) H)
def jbd_t : Tr :=
 (.ite (.icmp .leq (.bin .maxI (.var 0) (.bin .subI (.lit 0) (.var 0))) (.lit 10000000))
 (.ite (.icmp .leq (.bin .maxI (.var 1) (.bin .subI (.lit 0) (.var 1))) (.lit 10000000))
 (.ite (.icmp .leq (.bin .maxI (.var 2) (.bin .subI (.lit 0) (.var 2))) (.lit 10000000))
 (.ite (.icmp .leq (.bin .maxI (.var 3) (.bin .subI (.lit 0) (.var 3))) (.lit 10000000))
 (.ite (.icmp .leq (.bin .maxI (.var 4) (.bin .subI (.lit 0) (.var 4))) (.lit 10000000))
 (.ite (.icmp .leq (.bin .maxI (.var 5) (.bin .subI (.lit 0) (.var 5))) (.lit 10000000))
 (.ite (.icmp .leq (.bin .maxI (.var 6) (.bin .subI (.lit 0) (.var 6))) (.lit 10000000))
 (.ite (.icmp .leq (.bin .maxI (.var 7) (.bin .subI (.lit 0) (.var 7))) (.lit 10000000))
 (.ite (.icmp .leq (.bin .maxI (.var 8) (.bin .subI (.lit 0) (.var 8))) (.lit 10000000))
 (.ite (.icmp .leq (.bin .maxI (.var 9) (.bin .subI (.lit 0) (.var 9))) (.lit 10000000))
 (.ite (.icmp .leq (.bin .maxI (.var 10) (.bin .subI (.lit 0) (.var 10))) (.lit 10000000))
 (.ite (.icmp .leq (.bin .maxI (.var 11) (.bin .subI (.lit 0) (.var 11))) (.lit 10000000))
 (.ite (.icmp .leq (.bin .maxI (.var 12) (.bin .subI (.lit 0) (.var 12))) (.lit 10000000))
 (.ite (.icmp .leq (.bin .maxI (.var 13) (.bin .subI (.lit 0) (.var 13))) (.lit 10000000))
 (.ite (.icmp .leq (.bin .maxI (.var 14) (.bin .subI (.lit 0) (.var 14))) (.lit 10000000))
 (.ite (.icmp .leq (.bin .maxI (.var 15) (.bin .subI (.lit 0) (.var 15))) (.lit 10000000))
 (.leaf (.bool (.lit false)))
 (.leaf (.bool (.lit true))))
 (.leaf (.bool (.lit true))))
 (.leaf (.bool (.lit true))))
 (.leaf (.bool (.lit true))))
 (.leaf (.bool (.lit true))))
 (.leaf (.bool (.lit true))))
 (.leaf (.bool (.lit true))))
 (.leaf (.bool (.lit true))))
 (.leaf (.bool (.lit true))))
 (.leaf (.bool (.lit true))))
 (.leaf (.bool (.lit true))))
 (.leaf (.bool (.lit true))))
 (.leaf (.bool (.lit true))))
 (.leaf (.bool (.lit true))))
 (.leaf (.bool (.lit true))))
 (.leaf (.bool (.lit true))))
theorem jbd {m0 m1 m2 m3 m4 m5 m6 m7 m8 m9 m10 m11 m12 m13 m14 m15 : Int} (r0 : (-1000000000) ≤ m0 ∧ m0 ≤ 1000000000) (r1 : (-1000000000) ≤ m1 ∧ m1 ≤ 1000000000) (r2 : (-1000000000) ≤ m2 ∧ m2 ≤ 1000000000) (r3 : (-1000000000) ≤ m3 ∧ m3 ≤ 1000000000) (r4 : (-1000000000) ≤ m4 ∧ m4 ≤ 1000000000) (r5 : (-1000000000) ≤ m5 ∧ m5 ≤ 1000000000) (r6 : (-1000000000) ≤ m6 ∧ m6 ≤ 1000000000) (r7 : (-1000000000) ≤ m7 ∧ m7 ≤ 1000000000) (r8 : (-1000000000) ≤ m8 ∧ m8 ≤ 1000000000) (r9 : (-1000000000) ≤ m9 ∧ m9 ≤ 1000000000) (r10 : (-1000000000) ≤ m10 ∧ m10 ≤ 1000000000) (r11 : (-1000000000) ≤ m11 ∧ m11 ≤ 1000000000) (r12 : (-1000000000) ≤ m12 ∧ m12 ≤ 1000000000) (r13 : (-1000000000) ≤ m13 ∧ m13 ≤ 1000000000) (r14 : (-1000000000) ≤ m14 ∧ m14 ≤ 1000000000) (r15 : (-1000000000) ≤ m15 ∧ m15 ≤ 1000000000) {Q : Value → Prop} (H :
 ((decide (((if ((0 - m0) : Int) > m0 then (0 - m0) else m0) : Int) ≤ 10000000) = true → ((decide (((if ((0 - m1) : Int) > m1 then (0 - m1) else m1) : Int) ≤ 10000000) = true → ((decide (((if ((0 - m2) : Int) > m2 then (0 - m2) else m2) : Int) ≤ 10000000) = true → ((decide (((if ((0 - m3) : Int) > m3 then (0 - m3) else m3) : Int) ≤ 10000000) = true → ((decide (((if ((0 - m4) : Int) > m4 then (0 - m4) else m4) : Int) ≤ 10000000) = true → ((decide (((if ((0 - m5) : Int) > m5 then (0 - m5) else m5) : Int) ≤ 10000000) = true → ((decide (((if ((0 - m6) : Int) > m6 then (0 - m6) else m6) : Int) ≤ 10000000) = true → ((decide (((if ((0 - m7) : Int) > m7 then (0 - m7) else m7) : Int) ≤ 10000000) = true → ((decide (((if ((0 - m8) : Int) > m8 then (0 - m8) else m8) : Int) ≤ 10000000) = true → ((decide (((if ((0 - m9) : Int) > m9 then (0 - m9) else m9) : Int) ≤ 10000000) = true → ((decide (((if ((0 - m10) : Int) > m10 then (0 - m10) else m10) : Int) ≤ 10000000) = true → ((decide (((if ((0 - m11) : Int) > m11 then (0 - m11) else m11) : Int) ≤ 10000000) = true → ((decide (((if ((0 - m12) : Int) > m12 then (0 - m12) else m12) : Int) ≤ 10000000) = true → ((decide (((if ((0 - m13) : Int) > m13 then (0 - m13) else m13) : Int) ≤ 10000000) = true → ((decide (((if ((0 - m14) : Int) > m14 then (0 - m14) else m14) : Int) ≤ 10000000) = true → ((decide (((if ((0 - m15) : Int) > m15 then (0 - m15) else m15) : Int) ≤ 10000000) = true → Q (.bool (false))) ∧
 (decide (((if ((0 - m15) : Int) > m15 then (0 - m15) else m15) : Int) ≤ 10000000) = false → Q (.bool (true))))) ∧
 (decide (((if ((0 - m14) : Int) > m14 then (0 - m14) else m14) : Int) ≤ 10000000) = false → Q (.bool (true))))) ∧
 (decide (((if ((0 - m13) : Int) > m13 then (0 - m13) else m13) : Int) ≤ 10000000) = false → Q (.bool (true))))) ∧
 (decide (((if ((0 - m12) : Int) > m12 then (0 - m12) else m12) : Int) ≤ 10000000) = false → Q (.bool (true))))) ∧
 (decide (((if ((0 - m11) : Int) > m11 then (0 - m11) else m11) : Int) ≤ 10000000) = false → Q (.bool (true))))) ∧
 (decide (((if ((0 - m10) : Int) > m10 then (0 - m10) else m10) : Int) ≤ 10000000) = false → Q (.bool (true))))) ∧
 (decide (((if ((0 - m9) : Int) > m9 then (0 - m9) else m9) : Int) ≤ 10000000) = false → Q (.bool (true))))) ∧
 (decide (((if ((0 - m8) : Int) > m8 then (0 - m8) else m8) : Int) ≤ 10000000) = false → Q (.bool (true))))) ∧
 (decide (((if ((0 - m7) : Int) > m7 then (0 - m7) else m7) : Int) ≤ 10000000) = false → Q (.bool (true))))) ∧
 (decide (((if ((0 - m6) : Int) > m6 then (0 - m6) else m6) : Int) ≤ 10000000) = false → Q (.bool (true))))) ∧
 (decide (((if ((0 - m5) : Int) > m5 then (0 - m5) else m5) : Int) ≤ 10000000) = false → Q (.bool (true))))) ∧
 (decide (((if ((0 - m4) : Int) > m4 then (0 - m4) else m4) : Int) ≤ 10000000) = false → Q (.bool (true))))) ∧
 (decide (((if ((0 - m3) : Int) > m3 then (0 - m3) else m3) : Int) ≤ 10000000) = false → Q (.bool (true))))) ∧
 (decide (((if ((0 - m2) : Int) > m2 then (0 - m2) else m2) : Int) ≤ 10000000) = false → Q (.bool (true))))) ∧
 (decide (((if ((0 - m1) : Int) > m1 then (0 - m1) else m1) : Int) ≤ 10000000) = false → Q (.bool (true))))) ∧
 (decide (((if ((0 - m0) : Int) > m0 then (0 - m0) else m0) : Int) ≤ 10000000) = false → Q (.bool (true))))) :
 ∃ v, Q v ∧ ∀ w, Calls Try.prog 123 #[.agg #[.int .i64 (m0), .int .i64 (m1), .int .i64 (m2), .int .i64 (m3), .int .i64 (m4), .int .i64 (m5), .int .i64 (m6), .int .i64 (m7), .int .i64 (m8), .int .i64 (m9), .int .i64 (m10), .int .i64 (m11), .int .i64 (m12), .int .i64 (m13), .int .i64 (m14), .int .i64 (m15)], .int .i64 (10000000)] w fun e w' => e = .returned v ∧ Below w.heap.size w w' :=
 tree_at mixed names S1_ok (S := S1 Try.prog) (lf := 100000) (d := 60) (args := [(.agg [(.int .i64 (.var 0)), (.int .i64 (.var 1)), (.int .i64 (.var 2)), (.int .i64 (.var 3)), (.int .i64 (.var 4)), (.int .i64 (.var 5)), (.int .i64 (.var 6)), (.int .i64 (.var 7)), (.int .i64 (.var 8)), (.int .i64 (.var 9)), (.int .i64 (.var 10)), (.int .i64 (.var 11)), (.int .i64 (.var 12)), (.int .i64 (.var 13)), (.int .i64 (.var 14)), (.int .i64 (.var 15))]), (.int .i64 (.lit 10000000))]) jbd_t { ivs := [(0, (-1000000000), 1000000000), (1, (-1000000000), 1000000000), (2, (-1000000000), 1000000000), (3, (-1000000000), 1000000000), (4, (-1000000000), 1000000000), (5, (-1000000000), 1000000000), (6, (-1000000000), 1000000000), (7, (-1000000000), 1000000000), (8, (-1000000000), 1000000000), (9, (-1000000000), 1000000000), (10, (-1000000000), 1000000000), (11, (-1000000000), 1000000000), (12, (-1000000000), 1000000000), (13, (-1000000000), 1000000000), (14, (-1000000000), 1000000000), (15, (-1000000000), 1000000000)], whs := [] } [m0, m1, m2, m3, m4, m5, m6, m7, m8, m9, m10, m11, m12, m13, m14, m15] [] 16 0 rfl rfl (by kernel_rfl) (by kernel_rfl) (by kernel_rfl)
 ⟨(fc r0 (fc r1 (fc r2 (fc r3 (fc r4 (fc r5 (fc r6 (fc r7 (fc r8 (fc r9 (fc r10 (fc r11 (fc r12 (fc r13 (fc r14 (fc r15 fz)))))))))))))))), fz⟩ (Eq.mp (by kernel_rfl) H)
def jbm_t : Tr :=
 (.ite (.icmp .leq (.bin .maxI (.var 0) (.bin .subI (.lit 0) (.var 0))) (.lit 1000))
 (.ite (.icmp .leq (.bin .maxI (.var 1) (.bin .subI (.lit 0) (.var 1))) (.lit 1000))
 (.ite (.icmp .leq (.bin .maxI (.var 2) (.bin .subI (.lit 0) (.var 2))) (.lit 1000))
 (.ite (.icmp .leq (.bin .maxI (.var 3) (.bin .subI (.lit 0) (.var 3))) (.lit 1000))
 (.ite (.icmp .leq (.bin .maxI (.var 4) (.bin .subI (.lit 0) (.var 4))) (.lit 1000))
 (.ite (.icmp .leq (.bin .maxI (.var 5) (.bin .subI (.lit 0) (.var 5))) (.lit 1000))
 (.ite (.icmp .leq (.bin .maxI (.var 6) (.bin .subI (.lit 0) (.var 6))) (.lit 1000))
 (.ite (.icmp .leq (.bin .maxI (.var 7) (.bin .subI (.lit 0) (.var 7))) (.lit 1000))
 (.leaf (.tuple [(.agg [(.complex .f64 (.toF .f64 (.var 0)) (.toF .f64 (.var 1))), (.complex .f64 (.toF .f64 (.var 2)) (.toF .f64 (.var 3))), (.complex .f64 (.toF .f64 (.var 4)) (.toF .f64 (.var 5))), (.complex .f64 (.toF .f64 (.var 6)) (.toF .f64 (.var 7)))]), (.int .i64 (.lit 0))]))
 pja_q4)
 pja_q4)
 pja_q4)
 pja_q4)
 pja_q4)
 pja_q4)
 pja_q4)
 pja_q4)
theorem jbm {n0 n1 n2 n3 n4 n5 n6 n7 : Int} (r0 : (-40000000) ≤ n0 ∧ n0 ≤ 40000000) (r1 : (-40000000) ≤ n1 ∧ n1 ≤ 40000000) (r2 : (-40000000) ≤ n2 ∧ n2 ≤ 40000000) (r3 : (-40000000) ≤ n3 ∧ n3 ≤ 40000000) (r4 : (-40000000) ≤ n4 ∧ n4 ≤ 40000000) (r5 : (-40000000) ≤ n5 ∧ n5 ≤ 40000000) (r6 : (-40000000) ≤ n6 ∧ n6 ≤ 40000000) (r7 : (-40000000) ≤ n7 ∧ n7 ≤ 40000000) {Q : Value → Prop} (H :
 ((decide (((if ((0 - n0) : Int) > n0 then (0 - n0) else n0) : Int) ≤ 1000) = true → ((decide (((if ((0 - n1) : Int) > n1 then (0 - n1) else n1) : Int) ≤ 1000) = true → ((decide (((if ((0 - n2) : Int) > n2 then (0 - n2) else n2) : Int) ≤ 1000) = true → ((decide (((if ((0 - n3) : Int) > n3 then (0 - n3) else n3) : Int) ≤ 1000) = true → ((decide (((if ((0 - n4) : Int) > n4 then (0 - n4) else n4) : Int) ≤ 1000) = true → ((decide (((if ((0 - n5) : Int) > n5 then (0 - n5) else n5) : Int) ≤ 1000) = true → ((decide (((if ((0 - n6) : Int) > n6 then (0 - n6) else n6) : Int) ≤ 1000) = true → ((decide (((if ((0 - n7) : Int) > n7 then (0 - n7) else n7) : Int) ≤ 1000) = true → Q (.tuple #[.agg #[.complex .f64 (FloatKind.f64.nearest n0) (FloatKind.f64.nearest n1), .complex .f64 (FloatKind.f64.nearest n2) (FloatKind.f64.nearest n3), .complex .f64 (FloatKind.f64.nearest n4) (FloatKind.f64.nearest n5), .complex .f64 (FloatKind.f64.nearest n6) (FloatKind.f64.nearest n7)], .int .i64 (0)])) ∧
 (decide (((if ((0 - n7) : Int) > n7 then (0 - n7) else n7) : Int) ≤ 1000) = false → Q (.tuple #[.agg #[.complex .f64 0 0, .complex .f64 0 0, .complex .f64 0 0, .complex .f64 0 0], .int .i64 (8)])))) ∧
 (decide (((if ((0 - n6) : Int) > n6 then (0 - n6) else n6) : Int) ≤ 1000) = false → Q (.tuple #[.agg #[.complex .f64 0 0, .complex .f64 0 0, .complex .f64 0 0, .complex .f64 0 0], .int .i64 (8)])))) ∧
 (decide (((if ((0 - n5) : Int) > n5 then (0 - n5) else n5) : Int) ≤ 1000) = false → Q (.tuple #[.agg #[.complex .f64 0 0, .complex .f64 0 0, .complex .f64 0 0, .complex .f64 0 0], .int .i64 (8)])))) ∧
 (decide (((if ((0 - n4) : Int) > n4 then (0 - n4) else n4) : Int) ≤ 1000) = false → Q (.tuple #[.agg #[.complex .f64 0 0, .complex .f64 0 0, .complex .f64 0 0, .complex .f64 0 0], .int .i64 (8)])))) ∧
 (decide (((if ((0 - n3) : Int) > n3 then (0 - n3) else n3) : Int) ≤ 1000) = false → Q (.tuple #[.agg #[.complex .f64 0 0, .complex .f64 0 0, .complex .f64 0 0, .complex .f64 0 0], .int .i64 (8)])))) ∧
 (decide (((if ((0 - n2) : Int) > n2 then (0 - n2) else n2) : Int) ≤ 1000) = false → Q (.tuple #[.agg #[.complex .f64 0 0, .complex .f64 0 0, .complex .f64 0 0, .complex .f64 0 0], .int .i64 (8)])))) ∧
 (decide (((if ((0 - n1) : Int) > n1 then (0 - n1) else n1) : Int) ≤ 1000) = false → Q (.tuple #[.agg #[.complex .f64 0 0, .complex .f64 0 0, .complex .f64 0 0, .complex .f64 0 0], .int .i64 (8)])))) ∧
 (decide (((if ((0 - n0) : Int) > n0 then (0 - n0) else n0) : Int) ≤ 1000) = false → Q (.tuple #[.agg #[.complex .f64 0 0, .complex .f64 0 0, .complex .f64 0 0, .complex .f64 0 0], .int .i64 (8)])))) :
 ∃ v, Q v ∧ ∀ w, Calls Try.prog 34 #[.agg #[.int .i64 (n0), .int .i64 (n1), .int .i64 (n2), .int .i64 (n3), .int .i64 (n4), .int .i64 (n5), .int .i64 (n6), .int .i64 (n7)]] w fun e w' => e = .returned v ∧ Below w.heap.size w w' :=
 tree_at mixed names S1_ok (S := S1 Try.prog) (lf := 100000) (d := 60) (args := [(.agg [(.int .i64 (.var 0)), (.int .i64 (.var 1)), (.int .i64 (.var 2)), (.int .i64 (.var 3)), (.int .i64 (.var 4)), (.int .i64 (.var 5)), (.int .i64 (.var 6)), (.int .i64 (.var 7))])]) jbm_t { ivs := [(0, (-40000000), 40000000), (1, (-40000000), 40000000), (2, (-40000000), 40000000), (3, (-40000000), 40000000), (4, (-40000000), 40000000), (5, (-40000000), 40000000), (6, (-40000000), 40000000), (7, (-40000000), 40000000)], whs := [] } [n0, n1, n2, n3, n4, n5, n6, n7] [] 8 0 rfl rfl (by kernel_rfl) (by kernel_rfl) (by kernel_rfl)
 ⟨(fc r0 (fc r1 (fc r2 (fc r3 (fc r4 (fc r5 (fc r6 (fc r7 fz)))))))), fz⟩ (Eq.mp (by kernel_rfl) H)
def jcp_t : Tr :=
 (.ite (.icmp .leq (.lit (-1000000000)) (.var 0))
 (.ite (.icmp .leq (.var 0) (.lit 1000000000))
 (.ite (.icmp .leq (.lit (-1000000000)) (.var 1))
 (.ite (.icmp .leq (.var 1) (.lit 1000000000))
 (.ite (.icmp .leq (.lit (-1000000000)) (.var 2))
 (.ite (.icmp .leq (.var 2) (.lit 1000000000))
 (.ite (.icmp .leq (.lit (-1000000000)) (.var 3))
 (.ite (.icmp .leq (.var 3) (.lit 1000000000))
 (.ite (.icmp .leq (.lit (-1000000000)) (.var 4))
 (.ite (.icmp .leq (.var 4) (.lit 1000000000))
 (.ite (.icmp .leq (.lit (-1000000000)) (.var 5))
 (.ite (.icmp .leq (.var 5) (.lit 1000000000))
 (.ite (.icmp .leq (.lit (-1000000000)) (.var 6))
 (.ite (.icmp .leq (.var 6) (.lit 1000000000))
 (.ite (.icmp .leq (.lit (-1000000000)) (.var 7))
 (.ite (.icmp .leq (.var 7) (.lit 1000000000))
 (.ite (.icmp .leq (.lit (-1000000000)) (.var 8))
 (.ite (.icmp .leq (.var 8) (.lit 1000000000))
 (.ite (.icmp .leq (.lit (-1000000000)) (.var 9))
 (.ite (.icmp .leq (.var 9) (.lit 1000000000))
 (.ite (.icmp .leq (.lit (-1000000000)) (.var 10))
 (.ite (.icmp .leq (.var 10) (.lit 1000000000))
 (.ite (.icmp .leq (.lit (-1000000000)) (.var 11))
 (.ite (.icmp .leq (.var 11) (.lit 1000000000))
 (.ite (.icmp .leq (.lit (-1000000000)) (.var 12))
 (.ite (.icmp .leq (.var 12) (.lit 1000000000))
 (.ite (.icmp .leq (.lit (-1000000000)) (.var 13))
 (.ite (.icmp .leq (.var 13) (.lit 1000000000))
 (.ite (.icmp .leq (.lit (-1000000000)) (.var 14))
 (.ite (.icmp .leq (.var 14) (.lit 1000000000))
 (.ite (.icmp .leq (.lit (-1000000000)) (.var 15))
 (.ite (.icmp .leq (.var 15) (.lit 1000000000))
 (.leaf (.int .i64 (.lit 0)))
 (.leaf (.int .i64 (.lit 2))))
 (.leaf (.int .i64 (.lit 2))))
 (.leaf (.int .i64 (.lit 2))))
 (.leaf (.int .i64 (.lit 2))))
 (.leaf (.int .i64 (.lit 2))))
 (.leaf (.int .i64 (.lit 2))))
 (.leaf (.int .i64 (.lit 2))))
 (.leaf (.int .i64 (.lit 2))))
 (.leaf (.int .i64 (.lit 2))))
 (.leaf (.int .i64 (.lit 2))))
 (.leaf (.int .i64 (.lit 2))))
 (.leaf (.int .i64 (.lit 2))))
 (.leaf (.int .i64 (.lit 2))))
 (.leaf (.int .i64 (.lit 2))))
 (.leaf (.int .i64 (.lit 2))))
 (.leaf (.int .i64 (.lit 2))))
 (.leaf (.int .i64 (.lit 2))))
 (.leaf (.int .i64 (.lit 2))))
 (.leaf (.int .i64 (.lit 2))))
 (.leaf (.int .i64 (.lit 2))))
 (.leaf (.int .i64 (.lit 2))))
 (.leaf (.int .i64 (.lit 2))))
 (.leaf (.int .i64 (.lit 2))))
 (.leaf (.int .i64 (.lit 2))))
 (.leaf (.int .i64 (.lit 2))))
 (.leaf (.int .i64 (.lit 2))))
 (.leaf (.int .i64 (.lit 2))))
 (.leaf (.int .i64 (.lit 2))))
 (.leaf (.int .i64 (.lit 2))))
 (.leaf (.int .i64 (.lit 2))))
 (.leaf (.int .i64 (.lit 2))))
 (.leaf (.int .i64 (.lit 2))))
theorem jcp {m0 m1 m2 m3 m4 m5 m6 m7 m8 m9 m10 m11 m12 m13 m14 m15 : Int} (r0 : (-9223372036854775808) ≤ m0 ∧ m0 ≤ 9223372036854775807) (r1 : (-9223372036854775808) ≤ m1 ∧ m1 ≤ 9223372036854775807) (r2 : (-9223372036854775808) ≤ m2 ∧ m2 ≤ 9223372036854775807) (r3 : (-9223372036854775808) ≤ m3 ∧ m3 ≤ 9223372036854775807) (r4 : (-9223372036854775808) ≤ m4 ∧ m4 ≤ 9223372036854775807) (r5 : (-9223372036854775808) ≤ m5 ∧ m5 ≤ 9223372036854775807) (r6 : (-9223372036854775808) ≤ m6 ∧ m6 ≤ 9223372036854775807) (r7 : (-9223372036854775808) ≤ m7 ∧ m7 ≤ 9223372036854775807) (r8 : (-9223372036854775808) ≤ m8 ∧ m8 ≤ 9223372036854775807) (r9 : (-9223372036854775808) ≤ m9 ∧ m9 ≤ 9223372036854775807) (r10 : (-9223372036854775808) ≤ m10 ∧ m10 ≤ 9223372036854775807) (r11 : (-9223372036854775808) ≤ m11 ∧ m11 ≤ 9223372036854775807) (r12 : (-9223372036854775808) ≤ m12 ∧ m12 ≤ 9223372036854775807) (r13 : (-9223372036854775808) ≤ m13 ∧ m13 ≤ 9223372036854775807) (r14 : (-9223372036854775808) ≤ m14 ∧ m14 ≤ 9223372036854775807) (r15 : (-9223372036854775808) ≤ m15 ∧ m15 ≤ 9223372036854775807) {Q : Value → Prop} (H :
 ((decide (((-1000000000) : Int) ≤ m0) = true → ((decide ((m0 : Int) ≤ 1000000000) = true → ((decide (((-1000000000) : Int) ≤ m1) = true → ((decide ((m1 : Int) ≤ 1000000000) = true → ((decide (((-1000000000) : Int) ≤ m2) = true → ((decide ((m2 : Int) ≤ 1000000000) = true → ((decide (((-1000000000) : Int) ≤ m3) = true → ((decide ((m3 : Int) ≤ 1000000000) = true → ((decide (((-1000000000) : Int) ≤ m4) = true → ((decide ((m4 : Int) ≤ 1000000000) = true → ((decide (((-1000000000) : Int) ≤ m5) = true → ((decide ((m5 : Int) ≤ 1000000000) = true → ((decide (((-1000000000) : Int) ≤ m6) = true → ((decide ((m6 : Int) ≤ 1000000000) = true → ((decide (((-1000000000) : Int) ≤ m7) = true → ((decide ((m7 : Int) ≤ 1000000000) = true → ((decide (((-1000000000) : Int) ≤ m8) = true → ((decide ((m8 : Int) ≤ 1000000000) = true → ((decide (((-1000000000) : Int) ≤ m9) = true → ((decide ((m9 : Int) ≤ 1000000000) = true → ((decide (((-1000000000) : Int) ≤ m10) = true → ((decide ((m10 : Int) ≤ 1000000000) = true → ((decide (((-1000000000) : Int) ≤ m11) = true → ((decide ((m11 : Int) ≤ 1000000000) = true → ((decide (((-1000000000) : Int) ≤ m12) = true → ((decide ((m12 : Int) ≤ 1000000000) = true → ((decide (((-1000000000) : Int) ≤ m13) = true → ((decide ((m13 : Int) ≤ 1000000000) = true → ((decide (((-1000000000) : Int) ≤ m14) = true → ((decide ((m14 : Int) ≤ 1000000000) = true → ((decide (((-1000000000) : Int) ≤ m15) = true → ((decide ((m15 : Int) ≤ 1000000000) = true → Q (.int .i64 (0))) ∧
 (decide ((m15 : Int) ≤ 1000000000) = false → Q (.int .i64 (2))))) ∧
 (decide (((-1000000000) : Int) ≤ m15) = false → Q (.int .i64 (2))))) ∧
 (decide ((m14 : Int) ≤ 1000000000) = false → Q (.int .i64 (2))))) ∧
 (decide (((-1000000000) : Int) ≤ m14) = false → Q (.int .i64 (2))))) ∧
 (decide ((m13 : Int) ≤ 1000000000) = false → Q (.int .i64 (2))))) ∧
 (decide (((-1000000000) : Int) ≤ m13) = false → Q (.int .i64 (2))))) ∧
 (decide ((m12 : Int) ≤ 1000000000) = false → Q (.int .i64 (2))))) ∧
 (decide (((-1000000000) : Int) ≤ m12) = false → Q (.int .i64 (2))))) ∧
 (decide ((m11 : Int) ≤ 1000000000) = false → Q (.int .i64 (2))))) ∧
 (decide (((-1000000000) : Int) ≤ m11) = false → Q (.int .i64 (2))))) ∧
 (decide ((m10 : Int) ≤ 1000000000) = false → Q (.int .i64 (2))))) ∧
 (decide (((-1000000000) : Int) ≤ m10) = false → Q (.int .i64 (2))))) ∧
 (decide ((m9 : Int) ≤ 1000000000) = false → Q (.int .i64 (2))))) ∧
 (decide (((-1000000000) : Int) ≤ m9) = false → Q (.int .i64 (2))))) ∧
 (decide ((m8 : Int) ≤ 1000000000) = false → Q (.int .i64 (2))))) ∧
 (decide (((-1000000000) : Int) ≤ m8) = false → Q (.int .i64 (2))))) ∧
 (decide ((m7 : Int) ≤ 1000000000) = false → Q (.int .i64 (2))))) ∧
 (decide (((-1000000000) : Int) ≤ m7) = false → Q (.int .i64 (2))))) ∧
 (decide ((m6 : Int) ≤ 1000000000) = false → Q (.int .i64 (2))))) ∧
 (decide (((-1000000000) : Int) ≤ m6) = false → Q (.int .i64 (2))))) ∧
 (decide ((m5 : Int) ≤ 1000000000) = false → Q (.int .i64 (2))))) ∧
 (decide (((-1000000000) : Int) ≤ m5) = false → Q (.int .i64 (2))))) ∧
 (decide ((m4 : Int) ≤ 1000000000) = false → Q (.int .i64 (2))))) ∧
 (decide (((-1000000000) : Int) ≤ m4) = false → Q (.int .i64 (2))))) ∧
 (decide ((m3 : Int) ≤ 1000000000) = false → Q (.int .i64 (2))))) ∧
 (decide (((-1000000000) : Int) ≤ m3) = false → Q (.int .i64 (2))))) ∧
 (decide ((m2 : Int) ≤ 1000000000) = false → Q (.int .i64 (2))))) ∧
 (decide (((-1000000000) : Int) ≤ m2) = false → Q (.int .i64 (2))))) ∧
 (decide ((m1 : Int) ≤ 1000000000) = false → Q (.int .i64 (2))))) ∧
 (decide (((-1000000000) : Int) ≤ m1) = false → Q (.int .i64 (2))))) ∧
 (decide ((m0 : Int) ≤ 1000000000) = false → Q (.int .i64 (2))))) ∧
 (decide (((-1000000000) : Int) ≤ m0) = false → Q (.int .i64 (2))))) :
 ∃ v, Q v ∧ ∀ w, Calls Try.prog 58 #[.agg #[.int .i64 (m0), .int .i64 (m1), .int .i64 (m2), .int .i64 (m3), .int .i64 (m4), .int .i64 (m5), .int .i64 (m6), .int .i64 (m7), .int .i64 (m8), .int .i64 (m9), .int .i64 (m10), .int .i64 (m11), .int .i64 (m12), .int .i64 (m13), .int .i64 (m14), .int .i64 (m15)]] w fun e w' => e = .returned v ∧ Below w.heap.size w w' :=
 tree_at mixed names S1_ok (S := S1 Try.prog) (lf := 100000) (d := 60) (args := [(.agg [(.int .i64 (.var 0)), (.int .i64 (.var 1)), (.int .i64 (.var 2)), (.int .i64 (.var 3)), (.int .i64 (.var 4)), (.int .i64 (.var 5)), (.int .i64 (.var 6)), (.int .i64 (.var 7)), (.int .i64 (.var 8)), (.int .i64 (.var 9)), (.int .i64 (.var 10)), (.int .i64 (.var 11)), (.int .i64 (.var 12)), (.int .i64 (.var 13)), (.int .i64 (.var 14)), (.int .i64 (.var 15))])]) jcp_t { ivs := [(0, (-9223372036854775808), 9223372036854775807), (1, (-9223372036854775808), 9223372036854775807), (2, (-9223372036854775808), 9223372036854775807), (3, (-9223372036854775808), 9223372036854775807), (4, (-9223372036854775808), 9223372036854775807), (5, (-9223372036854775808), 9223372036854775807), (6, (-9223372036854775808), 9223372036854775807), (7, (-9223372036854775808), 9223372036854775807), (8, (-9223372036854775808), 9223372036854775807), (9, (-9223372036854775808), 9223372036854775807), (10, (-9223372036854775808), 9223372036854775807), (11, (-9223372036854775808), 9223372036854775807), (12, (-9223372036854775808), 9223372036854775807), (13, (-9223372036854775808), 9223372036854775807), (14, (-9223372036854775808), 9223372036854775807), (15, (-9223372036854775808), 9223372036854775807)], whs := [] } [m0, m1, m2, m3, m4, m5, m6, m7, m8, m9, m10, m11, m12, m13, m14, m15] [] 16 0 rfl rfl (by kernel_rfl) (by kernel_rfl) (by kernel_rfl)
 ⟨(fc r0 (fc r1 (fc r2 (fc r3 (fc r4 (fc r5 (fc r6 (fc r7 (fc r8 (fc r9 (fc r10 (fc r11 (fc r12 (fc r13 (fc r14 (fc r15 fz)))))))))))))))), fz⟩ (Eq.mp (by kernel_rfl) H)
def jcr_t : Tr :=
 (.ite (.icmp .leq (.lit (-1000000000)) (.var 0))
 (.ite (.icmp .leq (.var 0) (.lit 1000000000))
 (.ite (.icmp .leq (.lit (-1000000000)) (.var 1))
 (.ite (.icmp .leq (.var 1) (.lit 1000000000))
 (.ite (.icmp .leq (.lit (-1000000000)) (.var 2))
 (.ite (.icmp .leq (.var 2) (.lit 1000000000))
 (.ite (.icmp .leq (.lit (-1000000000)) (.var 3))
 (.ite (.icmp .leq (.var 3) (.lit 1000000000))
 (.ite (.icmp .leq (.lit (-1000000000)) (.var 4))
 (.ite (.icmp .leq (.var 4) (.lit 1000000000))
 (.ite (.icmp .leq (.lit (-1000000000)) (.var 5))
 (.ite (.icmp .leq (.var 5) (.lit 1000000000))
 (.ite (.icmp .leq (.lit (-1000000000)) (.var 6))
 (.ite (.icmp .leq (.var 6) (.lit 1000000000))
 (.ite (.icmp .leq (.lit (-1000000000)) (.var 7))
 (.ite (.icmp .leq (.var 7) (.lit 1000000000))
 (.ite (.icmp .leq (.lit (-1000000000)) (.var 8))
 (.ite (.icmp .leq (.var 8) (.lit 1000000000))
 (.ite (.icmp .leq (.lit (-1000000000)) (.var 9))
 (.ite (.icmp .leq (.var 9) (.lit 1000000000))
 (.ite (.icmp .leq (.lit (-1000000000)) (.var 10))
 (.ite (.icmp .leq (.var 10) (.lit 1000000000))
 (.ite (.icmp .leq (.lit (-1000000000)) (.var 11))
 (.ite (.icmp .leq (.var 11) (.lit 1000000000))
 (.ite (.icmp .leq (.lit (-1000000000)) (.var 12))
 (.ite (.icmp .leq (.var 12) (.lit 1000000000))
 (.ite (.icmp .leq (.lit (-1000000000)) (.var 13))
 (.ite (.icmp .leq (.var 13) (.lit 1000000000))
 (.ite (.icmp .leq (.lit (-1000000000)) (.var 14))
 (.ite (.icmp .leq (.var 14) (.lit 1000000000))
 (.ite (.icmp .leq (.lit (-1000000000)) (.var 15))
 (.ite (.icmp .leq (.var 15) (.lit 1000000000))
 (.leaf (.int .i64 (.lit 0)))
 (.leaf (.int .i64 (.lit 2))))
 (.leaf (.int .i64 (.lit 2))))
 (.leaf (.int .i64 (.lit 2))))
 (.leaf (.int .i64 (.lit 2))))
 (.leaf (.int .i64 (.lit 2))))
 (.leaf (.int .i64 (.lit 2))))
 (.leaf (.int .i64 (.lit 2))))
 (.leaf (.int .i64 (.lit 2))))
 (.leaf (.int .i64 (.lit 2))))
 (.leaf (.int .i64 (.lit 2))))
 (.leaf (.int .i64 (.lit 2))))
 (.leaf (.int .i64 (.lit 2))))
 (.leaf (.int .i64 (.lit 2))))
 (.leaf (.int .i64 (.lit 2))))
 (.leaf (.int .i64 (.lit 2))))
 (.leaf (.int .i64 (.lit 2))))
 (.leaf (.int .i64 (.lit 2))))
 (.leaf (.int .i64 (.lit 2))))
 (.leaf (.int .i64 (.lit 2))))
 (.leaf (.int .i64 (.lit 2))))
 (.leaf (.int .i64 (.lit 2))))
 (.leaf (.int .i64 (.lit 2))))
 (.leaf (.int .i64 (.lit 2))))
 (.leaf (.int .i64 (.lit 2))))
 (.leaf (.int .i64 (.lit 2))))
 (.leaf (.int .i64 (.lit 2))))
 (.leaf (.int .i64 (.lit 2))))
 (.leaf (.int .i64 (.lit 2))))
 (.leaf (.int .i64 (.lit 2))))
 (.leaf (.int .i64 (.lit 2))))
 (.leaf (.int .i64 (.lit 2))))
 (.leaf (.int .i64 (.lit 2))))
theorem jcr {m0 m1 m2 m3 m4 m5 m6 m7 m8 m9 m10 m11 m12 m13 m14 m15 : Int} (r0 : (-9223372036854775808) ≤ m0 ∧ m0 ≤ 9223372036854775807) (r1 : (-9223372036854775808) ≤ m1 ∧ m1 ≤ 9223372036854775807) (r2 : (-9223372036854775808) ≤ m2 ∧ m2 ≤ 9223372036854775807) (r3 : (-9223372036854775808) ≤ m3 ∧ m3 ≤ 9223372036854775807) (r4 : (-9223372036854775808) ≤ m4 ∧ m4 ≤ 9223372036854775807) (r5 : (-9223372036854775808) ≤ m5 ∧ m5 ≤ 9223372036854775807) (r6 : (-9223372036854775808) ≤ m6 ∧ m6 ≤ 9223372036854775807) (r7 : (-9223372036854775808) ≤ m7 ∧ m7 ≤ 9223372036854775807) (r8 : (-9223372036854775808) ≤ m8 ∧ m8 ≤ 9223372036854775807) (r9 : (-9223372036854775808) ≤ m9 ∧ m9 ≤ 9223372036854775807) (r10 : (-9223372036854775808) ≤ m10 ∧ m10 ≤ 9223372036854775807) (r11 : (-9223372036854775808) ≤ m11 ∧ m11 ≤ 9223372036854775807) (r12 : (-9223372036854775808) ≤ m12 ∧ m12 ≤ 9223372036854775807) (r13 : (-9223372036854775808) ≤ m13 ∧ m13 ≤ 9223372036854775807) (r14 : (-9223372036854775808) ≤ m14 ∧ m14 ≤ 9223372036854775807) (r15 : (-9223372036854775808) ≤ m15 ∧ m15 ≤ 9223372036854775807) {Q : Value → Prop} (H :
 ((decide (((-1000000000) : Int) ≤ m0) = true → ((decide ((m0 : Int) ≤ 1000000000) = true → ((decide (((-1000000000) : Int) ≤ m1) = true → ((decide ((m1 : Int) ≤ 1000000000) = true → ((decide (((-1000000000) : Int) ≤ m2) = true → ((decide ((m2 : Int) ≤ 1000000000) = true → ((decide (((-1000000000) : Int) ≤ m3) = true → ((decide ((m3 : Int) ≤ 1000000000) = true → ((decide (((-1000000000) : Int) ≤ m4) = true → ((decide ((m4 : Int) ≤ 1000000000) = true → ((decide (((-1000000000) : Int) ≤ m5) = true → ((decide ((m5 : Int) ≤ 1000000000) = true → ((decide (((-1000000000) : Int) ≤ m6) = true → ((decide ((m6 : Int) ≤ 1000000000) = true → ((decide (((-1000000000) : Int) ≤ m7) = true → ((decide ((m7 : Int) ≤ 1000000000) = true → ((decide (((-1000000000) : Int) ≤ m8) = true → ((decide ((m8 : Int) ≤ 1000000000) = true → ((decide (((-1000000000) : Int) ≤ m9) = true → ((decide ((m9 : Int) ≤ 1000000000) = true → ((decide (((-1000000000) : Int) ≤ m10) = true → ((decide ((m10 : Int) ≤ 1000000000) = true → ((decide (((-1000000000) : Int) ≤ m11) = true → ((decide ((m11 : Int) ≤ 1000000000) = true → ((decide (((-1000000000) : Int) ≤ m12) = true → ((decide ((m12 : Int) ≤ 1000000000) = true → ((decide (((-1000000000) : Int) ≤ m13) = true → ((decide ((m13 : Int) ≤ 1000000000) = true → ((decide (((-1000000000) : Int) ≤ m14) = true → ((decide ((m14 : Int) ≤ 1000000000) = true → ((decide (((-1000000000) : Int) ≤ m15) = true → ((decide ((m15 : Int) ≤ 1000000000) = true → Q (.int .i64 (0))) ∧
 (decide ((m15 : Int) ≤ 1000000000) = false → Q (.int .i64 (2))))) ∧
 (decide (((-1000000000) : Int) ≤ m15) = false → Q (.int .i64 (2))))) ∧
 (decide ((m14 : Int) ≤ 1000000000) = false → Q (.int .i64 (2))))) ∧
 (decide (((-1000000000) : Int) ≤ m14) = false → Q (.int .i64 (2))))) ∧
 (decide ((m13 : Int) ≤ 1000000000) = false → Q (.int .i64 (2))))) ∧
 (decide (((-1000000000) : Int) ≤ m13) = false → Q (.int .i64 (2))))) ∧
 (decide ((m12 : Int) ≤ 1000000000) = false → Q (.int .i64 (2))))) ∧
 (decide (((-1000000000) : Int) ≤ m12) = false → Q (.int .i64 (2))))) ∧
 (decide ((m11 : Int) ≤ 1000000000) = false → Q (.int .i64 (2))))) ∧
 (decide (((-1000000000) : Int) ≤ m11) = false → Q (.int .i64 (2))))) ∧
 (decide ((m10 : Int) ≤ 1000000000) = false → Q (.int .i64 (2))))) ∧
 (decide (((-1000000000) : Int) ≤ m10) = false → Q (.int .i64 (2))))) ∧
 (decide ((m9 : Int) ≤ 1000000000) = false → Q (.int .i64 (2))))) ∧
 (decide (((-1000000000) : Int) ≤ m9) = false → Q (.int .i64 (2))))) ∧
 (decide ((m8 : Int) ≤ 1000000000) = false → Q (.int .i64 (2))))) ∧
 (decide (((-1000000000) : Int) ≤ m8) = false → Q (.int .i64 (2))))) ∧
 (decide ((m7 : Int) ≤ 1000000000) = false → Q (.int .i64 (2))))) ∧
 (decide (((-1000000000) : Int) ≤ m7) = false → Q (.int .i64 (2))))) ∧
 (decide ((m6 : Int) ≤ 1000000000) = false → Q (.int .i64 (2))))) ∧
 (decide (((-1000000000) : Int) ≤ m6) = false → Q (.int .i64 (2))))) ∧
 (decide ((m5 : Int) ≤ 1000000000) = false → Q (.int .i64 (2))))) ∧
 (decide (((-1000000000) : Int) ≤ m5) = false → Q (.int .i64 (2))))) ∧
 (decide ((m4 : Int) ≤ 1000000000) = false → Q (.int .i64 (2))))) ∧
 (decide (((-1000000000) : Int) ≤ m4) = false → Q (.int .i64 (2))))) ∧
 (decide ((m3 : Int) ≤ 1000000000) = false → Q (.int .i64 (2))))) ∧
 (decide (((-1000000000) : Int) ≤ m3) = false → Q (.int .i64 (2))))) ∧
 (decide ((m2 : Int) ≤ 1000000000) = false → Q (.int .i64 (2))))) ∧
 (decide (((-1000000000) : Int) ≤ m2) = false → Q (.int .i64 (2))))) ∧
 (decide ((m1 : Int) ≤ 1000000000) = false → Q (.int .i64 (2))))) ∧
 (decide (((-1000000000) : Int) ≤ m1) = false → Q (.int .i64 (2))))) ∧
 (decide ((m0 : Int) ≤ 1000000000) = false → Q (.int .i64 (2))))) ∧
 (decide (((-1000000000) : Int) ≤ m0) = false → Q (.int .i64 (2))))) :
 ∃ v, Q v ∧ ∀ w, Calls Try.prog 57 #[.agg #[.int .i64 (m0), .int .i64 (m1), .int .i64 (m2), .int .i64 (m3), .int .i64 (m4), .int .i64 (m5), .int .i64 (m6), .int .i64 (m7), .int .i64 (m8), .int .i64 (m9), .int .i64 (m10), .int .i64 (m11), .int .i64 (m12), .int .i64 (m13), .int .i64 (m14), .int .i64 (m15)]] w fun e w' => e = .returned v ∧ Below w.heap.size w w' :=
 tree_at mixed names S1_ok (S := S1 Try.prog) (lf := 100000) (d := 60) (args := [(.agg [(.int .i64 (.var 0)), (.int .i64 (.var 1)), (.int .i64 (.var 2)), (.int .i64 (.var 3)), (.int .i64 (.var 4)), (.int .i64 (.var 5)), (.int .i64 (.var 6)), (.int .i64 (.var 7)), (.int .i64 (.var 8)), (.int .i64 (.var 9)), (.int .i64 (.var 10)), (.int .i64 (.var 11)), (.int .i64 (.var 12)), (.int .i64 (.var 13)), (.int .i64 (.var 14)), (.int .i64 (.var 15))])]) jcr_t { ivs := [(0, (-9223372036854775808), 9223372036854775807), (1, (-9223372036854775808), 9223372036854775807), (2, (-9223372036854775808), 9223372036854775807), (3, (-9223372036854775808), 9223372036854775807), (4, (-9223372036854775808), 9223372036854775807), (5, (-9223372036854775808), 9223372036854775807), (6, (-9223372036854775808), 9223372036854775807), (7, (-9223372036854775808), 9223372036854775807), (8, (-9223372036854775808), 9223372036854775807), (9, (-9223372036854775808), 9223372036854775807), (10, (-9223372036854775808), 9223372036854775807), (11, (-9223372036854775808), 9223372036854775807), (12, (-9223372036854775808), 9223372036854775807), (13, (-9223372036854775808), 9223372036854775807), (14, (-9223372036854775808), 9223372036854775807), (15, (-9223372036854775808), 9223372036854775807)], whs := [] } [m0, m1, m2, m3, m4, m5, m6, m7, m8, m9, m10, m11, m12, m13, m14, m15] [] 16 0 rfl rfl (by kernel_rfl) (by kernel_rfl) (by kernel_rfl)
 ⟨(fc r0 (fc r1 (fc r2 (fc r3 (fc r4 (fc r5 (fc r6 (fc r7 (fc r8 (fc r9 (fc r10 (fc r11 (fc r12 (fc r13 (fc r14 (fc r15 fz)))))))))))))))), fz⟩ (Eq.mp (by kernel_rfl) H)
end Go.Proofs.Ytipcoahafdolcaa.Ev
