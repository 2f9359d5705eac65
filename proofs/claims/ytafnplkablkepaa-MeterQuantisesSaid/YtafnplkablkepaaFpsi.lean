/- PsiOf. -/
import Derived.Test.YtafnplkablkepaaFcrd
import Derived.Test.YtafnplkablkepaaFun
namespace Go.Proofs.Ytafnplkablkepaa.Ev
set_option linter.unusedSimpArgs false
open Go Go.RowKit
set_option linter.unusedVariables false
set_option maxRecDepth 100000
def meter_PsiOf_s : Sig := ⟨32, ⟨10, 0, 0⟩, ⟨3, 0, 0⟩, [(.agg [(.strn (.var 0)), (.int .i64 (.var 1)), (.int .i64 (.var 2)), (.int .i64 (.var 3)), (.int .i64 (.var 4)), (.int .i64 (.var 5)), (.int .i64 (.var 6)), (.int .i64 (.var 7)), (.int .i64 (.var 8)), (.int .i64 (.var 9))])], [], (.tuple [(.agg [(.int .i64 (.var 10)), (.int .i64 (.var 11))]), (.int .i64 (.var 12))]), []⟩

def psi_t : Tr :=
  (.call meter_CheckReading_s ⟨[(.var 0), (.var 1), (.var 2), (.var 3), (.var 4), (.var 5), (.var 6), (.var 7), (.var 8), (.var 9)], [], []⟩ ⟨[(.var 0), (.var 1), (.var 2), (.var 3), (.var 4), (.var 5), (.var 6), (.var 7), (.var 8), (.var 9), (.var 10)], [], []⟩ ⟨61, [(.agg [(.strn (.var 0)), (.int .i64 (.var 1)), (.int .i64 (.var 2)), (.int .i64 (.var 3)), (.int .i64 (.var 4)), (.int .i64 (.var 5)), (.int .i64 (.var 6)), (.int .i64 (.var 7)), (.int .i64 (.var 8)), (.int .i64 (.var 9))])], [], [none, none], (.int .i64 (.var 10)), []⟩
  (.ite (.icmp .eql (.var 10) (.lit 0))
  (.loop ⟨91, [0, 1], [(.yld 6), (.tuple []), (.tuple []), (.tuple []), (.tuple []), (.tuple []), (.tuple []), (.int .i64 (.lit 0)), (.tuple []), (.tuple []), (.tuple []), (.tuple []), (.tuple []), (.tuple []), (.tuple []), (.tuple []), (.tuple []), (.tuple []), (.tuple []), (.tuple []), (.tuple []), (.tuple []), (.tuple []), (.tuple []), (.tuple []), (.tuple []), (.tuple [])], [(some ⟨[(.strn (.var 0)), (.int .i64 (.var 1)), (.int .i64 (.var 2)), (.int .i64 (.var 3)), (.int .i64 (.var 4)), (.int .i64 (.var 5)), (.int .i64 (.var 6)), (.int .i64 (.var 7)), (.int .i64 (.var 8)), (.int .i64 (.var 9))], 76, false, false, none⟩), (some ⟨[(.int .i64 (.lit 0)), (.int .i64 (.lit 0))], 34, false, false, none⟩), (some ⟨[(.int .i64 (.lit 0)), (.int .i64 (.lit 1024))], 34, false, false, none⟩), (some ⟨[(.func (.func 63) [] [(.ptr (some ⟨0, 0, none⟩))])], 121, false, false, none⟩), (some ⟨[(.int .i64 (.lit 0)), (.agg [(.strn (.var 0)), (.int .i64 (.var 1)), (.int .i64 (.var 2)), (.int .i64 (.var 3)), (.int .i64 (.var 4)), (.int .i64 (.var 5)), (.int .i64 (.var 6)), (.int .i64 (.var 7)), (.int .i64 (.var 8)), (.int .i64 (.var 9))]), (.ptr (some ⟨0, 0, none⟩)), (.ptr (some ⟨1, 0, none⟩)), (.int .i64 (.lit 0)), (.int .i64 (.var 10)), (.ptr (some ⟨2, 0, none⟩)), (.tuple []), (.tuple []), (.agg [(.strn (.var 0)), (.int .i64 (.var 1)), (.int .i64 (.var 2)), (.int .i64 (.var 3)), (.int .i64 (.var 4)), (.int .i64 (.var 5)), (.int .i64 (.var 6)), (.int .i64 (.var 7)), (.int .i64 (.var 8)), (.int .i64 (.var 9))]), (.int .i64 (.var 10)), (.int .i64 (.var 10)), (.bool (.icmp .neq (.var 10) (.lit 0))), (.tuple []), (.tuple []), (.agg [(.int .i64 (.lit 0)), (.int .i64 (.lit 1024))]), (.func (.func 63) [] [(.ptr (some ⟨0, 0, none⟩))]), (.func (.func 79) [] [(.ptr (some ⟨3, 0, none⟩))]), (.tuple []), (.tuple []), (.tuple []), (.tuple []), (.tuple []), (.tuple []), (.tuple []), (.tuple []), (.tuple [])], 523986010144, true, true, none⟩), (some ⟨[(.yld 4)], 89, false, false, none⟩), (some ⟨[(.int .i64 (.lit 0)), (.yld 4), (.ptr (some ⟨3, 0, none⟩)), (.ptr (some ⟨5, 0, none⟩)), (.tuple []), (.tuple []), (.func (.func 91) [] []), (.tuple []), (.tuple []), (.tuple []), (.tuple []), (.tuple []), (.tuple []), (.tuple []), (.tuple []), (.tuple []), (.tuple []), (.tuple [])], 60129542223, true, true, none⟩)], [], [(.yld 6), (.tuple []), (.any 2), (.any 3), (.any 4), (.any 5), (.any 6), (.int .i64 (.var 11)), (.any 8), (.any 9), (.any 10), (.any 11), (.any 12), (.any 13), (.any 14), (.any 15), (.any 16), (.any 17), (.any 18), (.any 19), (.any 20), (.any 21), (.any 22), (.any 23), (.any 24), (.any 25), (.any 26)], [(some ⟨[(.strn (.var 0)), (.int .i64 (.var 1)), (.int .i64 (.var 2)), (.int .i64 (.var 3)), (.int .i64 (.var 4)), (.int .i64 (.var 5)), (.int .i64 (.var 6)), (.int .i64 (.var 7)), (.int .i64 (.var 8)), (.int .i64 (.var 9))], 76, false, false, none⟩), (some ⟨[(.int .i64 (.lit 0)), (.int .i64 (.lit 0))], 34, false, false, none⟩), (some ⟨[(.int .i64 (.var 12)), (.int .i64 (.lit 1024))], 34, false, false, none⟩), (some ⟨[(.func (.func 63) [] [(.ptr (some ⟨0, 0, none⟩))])], 121, false, false, none⟩), (some ⟨[(.int .i64 (.lit 0)), (.agg [(.strn (.var 0)), (.int .i64 (.var 1)), (.int .i64 (.var 2)), (.int .i64 (.var 3)), (.int .i64 (.var 4)), (.int .i64 (.var 5)), (.int .i64 (.var 6)), (.int .i64 (.var 7)), (.int .i64 (.var 8)), (.int .i64 (.var 9))]), (.ptr (some ⟨0, 0, none⟩)), (.ptr (some ⟨1, 0, none⟩)), (.int .i64 (.lit 0)), (.int .i64 (.var 10)), (.ptr (some ⟨2, 0, none⟩)), (.tuple []), (.tuple []), (.agg [(.strn (.var 0)), (.int .i64 (.var 1)), (.int .i64 (.var 2)), (.int .i64 (.var 3)), (.int .i64 (.var 4)), (.int .i64 (.var 5)), (.int .i64 (.var 6)), (.int .i64 (.var 7)), (.int .i64 (.var 8)), (.int .i64 (.var 9))]), (.int .i64 (.var 10)), (.int .i64 (.var 10)), (.bool (.icmp .neq (.var 10) (.lit 0))), (.tuple []), (.tuple []), (.agg [(.int .i64 (.lit 0)), (.int .i64 (.lit 1024))]), (.func (.func 63) [] [(.ptr (some ⟨0, 0, none⟩))]), (.func (.func 79) [] [(.ptr (some ⟨3, 0, none⟩))]), (.tuple []), (.tuple []), (.tuple []), (.tuple []), (.tuple []), (.tuple []), (.tuple []), (.tuple []), (.tuple [])], 523986010144, true, true, none⟩), (some ⟨[(.yld 4)], 89, false, false, none⟩), (some ⟨[(.int .i64 (.lit 0)), (.yld 4), (.ptr (some ⟨3, 0, none⟩)), (.ptr (some ⟨5, 0, none⟩)), (.tuple []), (.tuple []), (.func (.func 91) [] []), (.tuple []), (.tuple []), (.tuple []), (.tuple []), (.tuple []), (.tuple []), (.tuple []), (.tuple []), (.tuple []), (.tuple []), (.tuple [])], 60129542223, true, true, none⟩)], [6, 4, 2], ⟨2, 0, 0⟩, ⟨[(.lit 0), (.lit 0)], [], []⟩, []⟩
   (.rng 11 (-9223372036854775808) 9223372036854775807 (.rng 12 (-9223372036854775808) 9223372036854775807 (.ite (.icmp .leq (.lit 1025) (.var 11))
    (.out 0 ⟨[(.var 12)], [], []⟩ [])
    (.call ball_Unit_s ⟨[(.var 11), (.lit 2048)], [], []⟩ ⟨[(.var 11), (.lit 2048), (.var 13), (.var 14), (.var 15), (.var 16)], [], []⟩ ⟨92, [(.int .i64 (.var 11)), (.int .i64 (.lit 2048))], [], [none, none, none, none, none, none, none], (.tuple [(.agg [(.complex .f64 (.var 13) (.var 14)), (.int .i64 (.var 15))]), (.int .i64 (.var 16))]), []⟩
     (.call ball_PartsOf_s ⟨[(.var 13), (.var 14), (.var 15)], [], []⟩ ⟨[(.var 13), (.var 14), (.var 15), (.var 17), (.var 18), (.var 19), (.var 20), (.var 21)], [], []⟩ ⟨93, [(.agg [(.complex .f64 (.var 13) (.var 14)), (.int .i64 (.var 15))])], [], [none, none, none, none, none, none, none, none], (.tuple [(.agg [(.int .i64 (.var 17)), (.int .i64 (.var 18)), (.int .i64 (.var 19)), (.int .i64 (.var 20))]), (.int .i64 (.var 21))]), []⟩
     (.ite (.icmp .leq (.var 5) (.var 17))
     (.next ⟨[(.bin .addI (.var 11) (.lit 1)), (.var 11)], [], []⟩ [])
     (.next ⟨[(.bin .addI (.var 11) (.lit 1)), (.var 12)], [], []⟩ [])))))))
   (.ex ((.exit 0), [(.yld 6), (.tuple []), (.any 2), (.any 3), (.any 4), (.any 5), (.any 6), (.any 7), (.any 8), (.any 9), (.any 10), (.any 11), (.any 12), (.any 13), (.any 14), (.any 15), (.any 16), (.any 17), (.any 18), (.any 19), (.any 20), (.any 21), (.any 22), (.any 23), (.any 24), (.any 25), (.any 26)], [(some ⟨[(.strn (.var 0)), (.int .i64 (.var 1)), (.int .i64 (.var 2)), (.int .i64 (.var 3)), (.int .i64 (.var 4)), (.int .i64 (.var 5)), (.int .i64 (.var 6)), (.int .i64 (.var 7)), (.int .i64 (.var 8)), (.int .i64 (.var 9))], 76, false, false, none⟩), (some ⟨[(.int .i64 (.lit 0)), (.int .i64 (.lit 0))], 34, false, false, none⟩), (some ⟨[(.int .i64 (.var 11)), (.int .i64 (.lit 1024))], 34, false, false, none⟩), (some ⟨[(.func (.func 63) [] [(.ptr (some ⟨0, 0, none⟩))])], 121, false, false, none⟩), (some ⟨[(.int .i64 (.lit 0)), (.agg [(.strn (.var 0)), (.int .i64 (.var 1)), (.int .i64 (.var 2)), (.int .i64 (.var 3)), (.int .i64 (.var 4)), (.int .i64 (.var 5)), (.int .i64 (.var 6)), (.int .i64 (.var 7)), (.int .i64 (.var 8)), (.int .i64 (.var 9))]), (.ptr (some ⟨0, 0, none⟩)), (.ptr (some ⟨1, 0, none⟩)), (.int .i64 (.lit 0)), (.int .i64 (.var 10)), (.ptr (some ⟨2, 0, none⟩)), (.tuple []), (.tuple []), (.agg [(.strn (.var 0)), (.int .i64 (.var 1)), (.int .i64 (.var 2)), (.int .i64 (.var 3)), (.int .i64 (.var 4)), (.int .i64 (.var 5)), (.int .i64 (.var 6)), (.int .i64 (.var 7)), (.int .i64 (.var 8)), (.int .i64 (.var 9))]), (.int .i64 (.var 10)), (.int .i64 (.var 10)), (.bool (.icmp .neq (.var 10) (.lit 0))), (.tuple []), (.tuple []), (.agg [(.int .i64 (.lit 0)), (.int .i64 (.lit 1024))]), (.func (.func 63) [] [(.ptr (some ⟨0, 0, none⟩))]), (.func (.func 79) [] [(.ptr (some ⟨3, 0, none⟩))]), (.tuple []), (.tuple []), (.tuple []), (.tuple []), (.tuple []), (.tuple []), (.tuple []), (.tuple []), (.tuple [])], 523986010144, true, true, none⟩), (some ⟨[(.yld 4)], 89, false, false, none⟩), (some ⟨[(.int .i64 (.lit 0)), (.yld 4), (.ptr (some ⟨3, 0, none⟩)), (.ptr (some ⟨5, 0, none⟩)), (.tuple []), (.tuple []), (.func (.func 91) [] []), (.tuple []), (.tuple []), (.tuple []), (.tuple []), (.tuple []), (.tuple []), (.tuple []), (.tuple []), (.tuple []), (.tuple []), (.tuple [])], 60129542223, true, true, none⟩)], [6, 4, 2]) ⟨1, 0, 0⟩
   (.rng 11 (-9223372036854775808) 9223372036854775807 (.loop ⟨91, [0, 1], [(.yld 7), (.tuple []), (.tuple []), (.tuple []), (.tuple []), (.tuple []), (.tuple []), (.int .i64 (.lit 0)), (.tuple []), (.tuple []), (.tuple []), (.tuple []), (.tuple []), (.tuple []), (.tuple []), (.tuple []), (.tuple []), (.tuple []), (.tuple []), (.tuple []), (.tuple []), (.tuple []), (.tuple []), (.tuple []), (.tuple []), (.tuple []), (.tuple [])], [(some ⟨[(.strn (.var 0)), (.int .i64 (.var 1)), (.int .i64 (.var 2)), (.int .i64 (.var 3)), (.int .i64 (.var 4)), (.int .i64 (.var 5)), (.int .i64 (.var 6)), (.int .i64 (.var 7)), (.int .i64 (.var 8)), (.int .i64 (.var 9))], 76, false, false, none⟩), (some ⟨[(.int .i64 (.lit 0)), (.int .i64 (.lit 0))], 34, false, false, none⟩), (some ⟨[(.int .i64 (.var 11)), (.int .i64 (.lit 1024))], 34, false, false, none⟩), (some ⟨[(.func (.func 63) [] [(.ptr (some ⟨0, 0, none⟩))])], 121, false, false, none⟩), (some ⟨[(.func (.func 64) [] [(.ptr (some ⟨0, 0, none⟩))])], 121, false, false, none⟩), (some ⟨[(.int .i64 (.lit 0)), (.agg [(.strn (.var 0)), (.int .i64 (.var 1)), (.int .i64 (.var 2)), (.int .i64 (.var 3)), (.int .i64 (.var 4)), (.int .i64 (.var 5)), (.int .i64 (.var 6)), (.int .i64 (.var 7)), (.int .i64 (.var 8)), (.int .i64 (.var 9))]), (.ptr (some ⟨0, 0, none⟩)), (.ptr (some ⟨1, 0, none⟩)), (.int .i64 (.lit 0)), (.int .i64 (.var 10)), (.ptr (some ⟨2, 0, none⟩)), (.tuple []), (.tuple []), (.agg [(.strn (.var 0)), (.int .i64 (.var 1)), (.int .i64 (.var 2)), (.int .i64 (.var 3)), (.int .i64 (.var 4)), (.int .i64 (.var 5)), (.int .i64 (.var 6)), (.int .i64 (.var 7)), (.int .i64 (.var 8)), (.int .i64 (.var 9))]), (.int .i64 (.var 10)), (.int .i64 (.var 10)), (.bool (.icmp .neq (.var 10) (.lit 0))), (.tuple []), (.tuple []), (.agg [(.int .i64 (.lit 0)), (.int .i64 (.lit 1024))]), (.func (.func 63) [] [(.ptr (some ⟨0, 0, none⟩))]), (.func (.func 79) [] [(.ptr (some ⟨3, 0, none⟩))]), (.tuple []), (.tuple []), (.tuple []), (.func (.func 64) [] [(.ptr (some ⟨0, 0, none⟩))]), (.func (.func 79) [] [(.ptr (some ⟨4, 0, none⟩))]), (.tuple []), (.tuple []), (.tuple []), (.tuple [])], 1073741824032, true, true, none⟩), (some ⟨[(.yld 5)], 89, false, false, none⟩), (some ⟨[(.int .i64 (.lit 0)), (.yld 5), (.ptr (some ⟨4, 0, none⟩)), (.ptr (some ⟨6, 0, none⟩)), (.tuple []), (.tuple []), (.func (.func 91) [] []), (.tuple []), (.tuple []), (.tuple []), (.tuple []), (.tuple []), (.tuple []), (.tuple []), (.tuple []), (.tuple []), (.tuple []), (.tuple [])], 60129542223, true, true, none⟩)], [], [(.yld 7), (.tuple []), (.any 2), (.any 3), (.any 4), (.any 5), (.any 6), (.int .i64 (.var 12)), (.any 8), (.any 9), (.any 10), (.any 11), (.any 12), (.any 13), (.any 14), (.any 15), (.any 16), (.any 17), (.any 18), (.any 19), (.any 20), (.any 21), (.any 22), (.any 23), (.any 24), (.any 25), (.any 26)], [(some ⟨[(.strn (.var 0)), (.int .i64 (.var 1)), (.int .i64 (.var 2)), (.int .i64 (.var 3)), (.int .i64 (.var 4)), (.int .i64 (.var 5)), (.int .i64 (.var 6)), (.int .i64 (.var 7)), (.int .i64 (.var 8)), (.int .i64 (.var 9))], 76, false, false, none⟩), (some ⟨[(.int .i64 (.lit 0)), (.int .i64 (.lit 0))], 34, false, false, none⟩), (some ⟨[(.int .i64 (.var 11)), (.int .i64 (.lit 1024))], 34, false, false, none⟩), (some ⟨[(.func (.func 63) [] [(.ptr (some ⟨0, 0, none⟩))])], 121, false, false, none⟩), (some ⟨[(.func (.func 64) [] [(.ptr (some ⟨0, 0, none⟩))])], 121, false, false, none⟩), (some ⟨[(.int .i64 (.lit 0)), (.agg [(.strn (.var 0)), (.int .i64 (.var 1)), (.int .i64 (.var 2)), (.int .i64 (.var 3)), (.int .i64 (.var 4)), (.int .i64 (.var 5)), (.int .i64 (.var 6)), (.int .i64 (.var 7)), (.int .i64 (.var 8)), (.int .i64 (.var 9))]), (.ptr (some ⟨0, 0, none⟩)), (.ptr (some ⟨1, 0, none⟩)), (.int .i64 (.lit 0)), (.int .i64 (.var 10)), (.ptr (some ⟨2, 0, none⟩)), (.tuple []), (.tuple []), (.agg [(.strn (.var 0)), (.int .i64 (.var 1)), (.int .i64 (.var 2)), (.int .i64 (.var 3)), (.int .i64 (.var 4)), (.int .i64 (.var 5)), (.int .i64 (.var 6)), (.int .i64 (.var 7)), (.int .i64 (.var 8)), (.int .i64 (.var 9))]), (.int .i64 (.var 10)), (.int .i64 (.var 10)), (.bool (.icmp .neq (.var 10) (.lit 0))), (.tuple []), (.tuple []), (.agg [(.int .i64 (.lit 0)), (.int .i64 (.lit 1024))]), (.func (.func 63) [] [(.ptr (some ⟨0, 0, none⟩))]), (.func (.func 79) [] [(.ptr (some ⟨3, 0, none⟩))]), (.tuple []), (.tuple []), (.tuple []), (.func (.func 64) [] [(.ptr (some ⟨0, 0, none⟩))]), (.func (.func 79) [] [(.ptr (some ⟨4, 0, none⟩))]), (.tuple []), (.tuple []), (.tuple []), (.tuple [])], 1073741824032, true, true, none⟩), (some ⟨[(.yld 5)], 89, false, false, none⟩), (some ⟨[(.int .i64 (.lit 0)), (.yld 5), (.ptr (some ⟨4, 0, none⟩)), (.ptr (some ⟨6, 0, none⟩)), (.tuple []), (.tuple []), (.func (.func 91) [] []), (.tuple []), (.tuple []), (.tuple []), (.tuple []), (.tuple []), (.tuple []), (.tuple []), (.tuple []), (.tuple []), (.tuple []), (.tuple [])], 60129542223, true, true, none⟩)], [7, 5, 2], ⟨1, 0, 0⟩, ⟨[(.lit 0)], [], []⟩, []⟩
    (.rng 12 (-9223372036854775808) 9223372036854775807 (.ite (.icmp .leq (.lit 1025) (.var 12))
     (.out 1 ⟨[], [], []⟩ [])
     (.call ball_Unit_s ⟨[(.var 12), (.lit 2048)], [], []⟩ ⟨[(.var 12), (.lit 2048), (.var 13), (.var 14), (.var 15), (.var 16)], [], []⟩ ⟨92, [(.int .i64 (.var 12)), (.int .i64 (.lit 2048))], [], [none, none, none, none, none, none, none, none], (.tuple [(.agg [(.complex .f64 (.var 13) (.var 14)), (.int .i64 (.var 15))]), (.int .i64 (.var 16))]), []⟩
      (.call ball_PartsOf_s ⟨[(.var 13), (.var 14), (.var 15)], [], []⟩ ⟨[(.var 13), (.var 14), (.var 15), (.var 17), (.var 18), (.var 19), (.var 20), (.var 21)], [], []⟩ ⟨93, [(.agg [(.complex .f64 (.var 13) (.var 14)), (.int .i64 (.var 15))])], [], [none, none, none, none, none, none, none, none, none], (.tuple [(.agg [(.int .i64 (.var 17)), (.int .i64 (.var 18)), (.int .i64 (.var 19)), (.int .i64 (.var 20))]), (.int .i64 (.var 21))]), []⟩
      (.ite (.icmp .leq (.var 18) (.var 4))
      (.out 0 ⟨[(.var 12)], [], []⟩ [])
      (.next ⟨[(.bin .addI (.var 12) (.lit 1))], [], []⟩ []))))))
    (.ex (.ret, [(.yld 7), (.tuple []), (.any 2), (.any 3), (.any 4), (.any 5), (.any 6), (.any 7), (.any 8), (.any 9), (.any 10), (.any 11), (.any 12), (.any 13), (.any 14), (.any 15), (.any 16), (.any 17), (.any 18), (.any 19), (.any 20), (.any 21), (.any 22), (.any 23), (.any 24), (.any 25), (.any 26)], [(some ⟨[(.strn (.var 0)), (.int .i64 (.var 1)), (.int .i64 (.var 2)), (.int .i64 (.var 3)), (.int .i64 (.var 4)), (.int .i64 (.var 5)), (.int .i64 (.var 6)), (.int .i64 (.var 7)), (.int .i64 (.var 8)), (.int .i64 (.var 9))], 76, false, false, none⟩), (some ⟨[(.int .i64 (.lit 0)), (.int .i64 (.lit 0))], 34, false, false, none⟩), (some ⟨[(.int .i64 (.var 11)), (.int .i64 (.var 12))], 34, false, false, none⟩), (some ⟨[(.func (.func 63) [] [(.ptr (some ⟨0, 0, none⟩))])], 121, false, false, none⟩), (some ⟨[(.func (.func 64) [] [(.ptr (some ⟨0, 0, none⟩))])], 121, false, false, none⟩), (some ⟨[(.int .i64 (.lit 5)), (.agg [(.strn (.var 0)), (.int .i64 (.var 1)), (.int .i64 (.var 2)), (.int .i64 (.var 3)), (.int .i64 (.var 4)), (.int .i64 (.var 5)), (.int .i64 (.var 6)), (.int .i64 (.var 7)), (.int .i64 (.var 8)), (.int .i64 (.var 9))]), (.ptr (some ⟨0, 0, none⟩)), (.ptr (some ⟨1, 0, none⟩)), (.int .i64 (.lit 0)), (.int .i64 (.var 10)), (.ptr (some ⟨2, 0, none⟩)), (.tuple []), (.tuple []), (.agg [(.strn (.var 0)), (.int .i64 (.var 1)), (.int .i64 (.var 2)), (.int .i64 (.var 3)), (.int .i64 (.var 4)), (.int .i64 (.var 5)), (.int .i64 (.var 6)), (.int .i64 (.var 7)), (.int .i64 (.var 8)), (.int .i64 (.var 9))]), (.int .i64 (.var 10)), (.int .i64 (.var 10)), (.bool (.icmp .neq (.var 10) (.lit 0))), (.tuple []), (.tuple []), (.agg [(.int .i64 (.lit 0)), (.int .i64 (.lit 1024))]), (.func (.func 63) [] [(.ptr (some ⟨0, 0, none⟩))]), (.func (.func 79) [] [(.ptr (some ⟨3, 0, none⟩))]), (.tuple []), (.tuple []), (.tuple []), (.func (.func 64) [] [(.ptr (some ⟨0, 0, none⟩))]), (.func (.func 79) [] [(.ptr (some ⟨4, 0, none⟩))]), (.tuple []), (.tuple []), (.tuple []), (.tuple [])], 1073741824032, true, true, none⟩), (some ⟨[(.yld 5)], 89, false, false, none⟩), (some ⟨[(.int .i64 (.lit 2)), (.yld 5), (.ptr (some ⟨4, 0, none⟩)), (.ptr (some ⟨6, 0, none⟩)), (.tuple []), (.tuple []), (.func (.func 91) [] []), (.tuple []), (.tuple []), (.tuple []), (.tuple []), (.tuple []), (.tuple []), (.tuple []), (.tuple []), (.tuple []), (.tuple []), (.tuple [])], 60129542223, true, true, none⟩)], [7, 5, 2]) ⟨1, 0, 0⟩
    (.rng 12 (-9223372036854775808) 9223372036854775807 (.ret ⟨[(.var 11), (.var 12), (.lit 0)], [], []⟩ []))
    (.ex ((.exit 0), [(.yld 7), (.tuple []), (.any 2), (.any 3), (.any 4), (.any 5), (.any 6), (.any 7), (.any 8), (.any 9), (.any 10), (.any 11), (.any 12), (.any 13), (.any 14), (.any 15), (.any 16), (.any 17), (.any 18), (.any 19), (.any 20), (.any 21), (.any 22), (.any 23), (.any 24), (.any 25), (.any 26)], [(some ⟨[(.strn (.var 0)), (.int .i64 (.var 1)), (.int .i64 (.var 2)), (.int .i64 (.var 3)), (.int .i64 (.var 4)), (.int .i64 (.var 5)), (.int .i64 (.var 6)), (.int .i64 (.var 7)), (.int .i64 (.var 8)), (.int .i64 (.var 9))], 76, false, false, none⟩), (some ⟨[(.int .i64 (.lit 0)), (.int .i64 (.lit 0))], 34, false, false, none⟩), (some ⟨[(.int .i64 (.var 11)), (.int .i64 (.lit 1024))], 34, false, false, none⟩), (some ⟨[(.func (.func 63) [] [(.ptr (some ⟨0, 0, none⟩))])], 121, false, false, none⟩), (some ⟨[(.func (.func 64) [] [(.ptr (some ⟨0, 0, none⟩))])], 121, false, false, none⟩), (some ⟨[(.int .i64 (.lit 0)), (.agg [(.strn (.var 0)), (.int .i64 (.var 1)), (.int .i64 (.var 2)), (.int .i64 (.var 3)), (.int .i64 (.var 4)), (.int .i64 (.var 5)), (.int .i64 (.var 6)), (.int .i64 (.var 7)), (.int .i64 (.var 8)), (.int .i64 (.var 9))]), (.ptr (some ⟨0, 0, none⟩)), (.ptr (some ⟨1, 0, none⟩)), (.int .i64 (.lit 0)), (.int .i64 (.var 10)), (.ptr (some ⟨2, 0, none⟩)), (.tuple []), (.tuple []), (.agg [(.strn (.var 0)), (.int .i64 (.var 1)), (.int .i64 (.var 2)), (.int .i64 (.var 3)), (.int .i64 (.var 4)), (.int .i64 (.var 5)), (.int .i64 (.var 6)), (.int .i64 (.var 7)), (.int .i64 (.var 8)), (.int .i64 (.var 9))]), (.int .i64 (.var 10)), (.int .i64 (.var 10)), (.bool (.icmp .neq (.var 10) (.lit 0))), (.tuple []), (.tuple []), (.agg [(.int .i64 (.lit 0)), (.int .i64 (.lit 1024))]), (.func (.func 63) [] [(.ptr (some ⟨0, 0, none⟩))]), (.func (.func 79) [] [(.ptr (some ⟨3, 0, none⟩))]), (.tuple []), (.tuple []), (.tuple []), (.func (.func 64) [] [(.ptr (some ⟨0, 0, none⟩))]), (.func (.func 79) [] [(.ptr (some ⟨4, 0, none⟩))]), (.tuple []), (.tuple []), (.tuple []), (.tuple [])], 1073741824032, true, true, none⟩), (some ⟨[(.yld 5)], 89, false, false, none⟩), (some ⟨[(.int .i64 (.lit 0)), (.yld 5), (.ptr (some ⟨4, 0, none⟩)), (.ptr (some ⟨6, 0, none⟩)), (.tuple []), (.tuple []), (.func (.func 91) [] []), (.tuple []), (.tuple []), (.tuple []), (.tuple []), (.tuple []), (.tuple []), (.tuple []), (.tuple []), (.tuple []), (.tuple []), (.tuple [])], 60129542223, true, true, none⟩)], [7, 5, 2]) ⟨0, 0, 0⟩
    (.ret ⟨[(.var 11), (.lit 1024), (.lit 0)], [], []⟩ [])
    .nil))))
   .nil))
  (.ret ⟨[(.lit 0), (.lit 0), (.var 10)], [], []⟩ [])))
theorem psi {x0 x1 x2 x3 x4 x5 x6 x7 x8 x9 : Int} (r1 : (-9223372036854775808) ≤ x1 ∧ x1 ≤ 9223372036854775807) (r2 : (-9223372036854775808) ≤ x2 ∧ x2 ≤ 9223372036854775807) (r3 : (-9223372036854775808) ≤ x3 ∧ x3 ≤ 9223372036854775807) (r4 : (-9223372036854775808) ≤ x4 ∧ x4 ≤ 9223372036854775807) (r5 : (-9223372036854775808) ≤ x5 ∧ x5 ≤ 9223372036854775807) (r6 : (-9223372036854775808) ≤ x6 ∧ x6 ≤ 9223372036854775807) (r7 : (-9223372036854775808) ≤ x7 ∧ x7 ≤ 9223372036854775807) (r8 : (-9223372036854775808) ≤ x8 ∧ x8 ≤ 9223372036854775807) (r9 : (-9223372036854775808) ≤ x9 ∧ x9 ≤ 9223372036854775807) {R : Int → Int → Int → Prop}
  (H : (∃ v10 : Int, Spec Try.prog meter_CheckReading_s ⟨[x0, x1, x2, x3, x4, x5, x6, x7, x8, x9], [], []⟩ [v10] [] [] ∧
   ((((v10 : Int) == 0) = true → (∃ (I11 : Int → Int → Prop) (rk11 : Int → Int → Nat), I11 (0) (0) ∧
    (∀ x11 : Int, ∀ x12 : Int, I11 x11 x12 → (((-9223372036854775808) ≤ (x11 : Int) ∧ (x11 : Int) ≤ 9223372036854775807) ∧ (((-9223372036854775808) ≤ (x12 : Int) ∧ (x12 : Int) ≤ 9223372036854775807) ∧ ((decide ((1025 : Int) ≤ x11) = true → (((-9223372036854775808) ≤ ((x12) : Int) ∧ ((x12) : Int) ≤ 9223372036854775807) ∧ (∃ (I12' : Int → Prop) (rk12' : Int → Nat), I12' (0) ∧
     (∀ x12' : Int, I12' x12' → (((-9223372036854775808) ≤ (x12' : Int) ∧ (x12' : Int) ≤ 9223372036854775807) ∧ ((decide ((1025 : Int) ≤ x12') = true → R ((x12)) (1024) (0)) ∧
      (decide ((1025 : Int) ≤ x12') = false → (∃ v13' : Int, ∃ v14' : Int, ∃ v15' : Int, ∃ v16' : Int, Spec Try.prog ball_Unit_s ⟨[x12', 2048], [], []⟩ [v13', v14', v15', v16'] [] [] ∧
       (∃ v17' : Int, ∃ v18' : Int, ∃ v19' : Int, ∃ v20' : Int, ∃ v21' : Int, Spec Try.prog ball_PartsOf_s ⟨[v13', v14', v15'], [], []⟩ [v17', v18', v19', v20', v21'] [] [] ∧
       ((decide ((v18' : Int) ≤ x4) = true → (((-9223372036854775808) ≤ ((x12') : Int) ∧ ((x12') : Int) ≤ 9223372036854775807) ∧ R ((x12)) ((x12')) (0))) ∧
       (decide ((v18' : Int) ≤ x4) = false → (I12' ((x12' + 1)) ∧ rk12' ((x12' + 1)) < rk12' x12')))))))))))) ∧
     (decide ((1025 : Int) ≤ x11) = false → (∃ v13 : Int, ∃ v14 : Int, ∃ v15 : Int, ∃ v16 : Int, Spec Try.prog ball_Unit_s ⟨[x11, 2048], [], []⟩ [v13, v14, v15, v16] [] [] ∧
      (∃ v17 : Int, ∃ v18 : Int, ∃ v19 : Int, ∃ v20 : Int, ∃ v21 : Int, Spec Try.prog ball_PartsOf_s ⟨[v13, v14, v15], [], []⟩ [v17, v18, v19, v20, v21] [] [] ∧
      ((decide ((x5 : Int) ≤ v17) = true → (I11 ((x11 + 1)) (x11) ∧ rk11 ((x11 + 1)) (x11) < rk11 x11 x12)) ∧
      (decide ((x5 : Int) ≤ v17) = false → (I11 ((x11 + 1)) (x12) ∧ rk11 ((x11 + 1)) (x12) < rk11 x11 x12)))))))))))) ∧
   (((v10 : Int) == 0) = false → R (0) (0) (v10))))) :
    ∃ v0 : Int, ∃ v1 : Int, ∃ v2 : Int, R v0 v1 v2 ∧ Spec Try.prog meter_PsiOf_s ⟨[x0, x1, x2, x3, x4, x5, x6, x7, x8, x9], [], []⟩ [v0, v1, v2] [] [] :=
  Eq.mp (by kernel_rfl) (exV_of (K := fun d => app3 meter_PsiOf_s.out R d ∧ Spec Try.prog meter_PsiOf_s ⟨[x0, x1, x2, x3, x4, x5, x6, x7, x8, x9], [], []⟩ d.1 d.2.1 d.2.2) (tree_at mixed names S1_ok (S := S1 Try.prog) (lf := 100000) (d := 60) meter_PsiOf_s psi_t { ivs := [(1, (-9223372036854775808), 9223372036854775807), (2, (-9223372036854775808), 9223372036854775807), (3, (-9223372036854775808), 9223372036854775807), (4, (-9223372036854775808), 9223372036854775807), (5, (-9223372036854775808), 9223372036854775807), (6, (-9223372036854775808), 9223372036854775807), (7, (-9223372036854775808), 9223372036854775807), (8, (-9223372036854775808), 9223372036854775807), (9, (-9223372036854775808), 9223372036854775807)], aivs := [] } ⟨[x0, x1, x2, x3, x4, x5, x6, x7, x8, x9], [], []⟩ rfl (by kernel_rfl) (by kernel_rfl) (by kernel_rfl) ⟨(fc r1 (fc r2 (fc r3 (fc r4 (fc r5 (fc r6 (fc r7 (fc r8 (fc r9 fz))))))))), fz, fz, fz⟩ (R := fun d => app3 meter_PsiOf_s.out R d) (Eq.mp (by kernel_rfl) H)))

/-- The last psi below n whose cosine is at least h, or 0; the first one from n on whose cosine is at most l, or 1024. -/

def psLo (h : Int) : Nat → Int

  | 0 => 0

  | n + 1 => if h ≤ uX n - uR n then n else psLo h n

def psHi (l : Int) : Nat → Nat → Int

  | 0, _ => 1024

  | k + 1, n => if uX n + uR n ≤ l then n else psHi l k (n + 1)

theorem psLo_rng (h : Int) : ∀ n : Nat, n ≤ 1025 → 0 ≤ psLo h n ∧ psLo h n ≤ 1024

  | 0, _ => by unfold psLo; omega

  | n + 1, hn => by

    unfold psLo; split

    · omega

    · exact psLo_rng h n (by omega)

def psR (x4 x5 e a b c : Int) : Prop := a = (if e = 0 then psLo x5 1025 else 0) ∧ b = (if e = 0 then psHi x4 1025 0 else 0) ∧ c = e

theorem uR_rng (n : Int) : 0 ≤ uR n ∧ uR n ≤ 2 := by unfold uR; split <;> omega

set_option maxHeartbeats 8000000 in

theorem psiOf_s {x0 x1 x2 x3 x4 x5 x6 x7 x8 x9 : Int} {e : Int} (he : Spec Try.prog meter_CheckReading_s ⟨[x0, x1, x2, x3, x4, x5, x6, x7, x8, x9], [], []⟩ [e] [] []) (r1 : I64 x1) (r2 : I64 x2) (r3 : I64 x3) (r4 : I64 x4) (r5 : I64 x5) (r6 : I64 x6) (r7 : I64 x7) (r8 : I64 x8) (r9 : I64 x9) :

    Spec Try.prog meter_PsiOf_s ⟨[x0, x1, x2, x3, x4, x5, x6, x7, x8, x9], [], []⟩ [if e = 0 then psLo x5 1025 else 0, if e = 0 then psHi x4 1025 0 else 0, e] [] [] := by

  obtain ⟨v0, v1, v2, ⟨rfl, rfl, rfl⟩, hs⟩ := psi r1 r2 r3 r4 r5 r6 r7 r8 r9 (R := psR x4 x5 e) ⟨e, he, by

    simp only [decide_eq_true_eq, decide_eq_false_iff_not, beq_iff_eq, beq_eq_false_iff_ne, ne_eq]

    have cosine : ∀ n : Nat, n ≤ 1024 → ∃ v13 v14 v15 v16 : Int, Spec Try.prog ball_Unit_s ⟨[(n : Int), 2048], [], []⟩ [v13, v14, v15, v16] [] [] ∧ ∃ v19 v20 v21 : Int, Spec Try.prog ball_PartsOf_s ⟨[v13, v14, v15], [], []⟩ [uX n - uR n, uX n + uR n, v19, v20, v21] [] [] := fun n hn => by

      obtain ⟨b1, b2, hU⟩ := unit_s (psi := n) (by omega)

      have hr := uR_rng n

      exact ⟨_, _, _, _, hU, _, _, _, parts_s (by omega) (by omega) (by omega)⟩

    refine ⟨fun e0 => ⟨fun i lo => ∃ n : Nat, i = n ∧ n ≤ 1025 ∧ lo = psLo x5 n, fun i _ => (1025 - i).toNat, ⟨0, rfl, by omega, rfl⟩, ?_⟩, fun e0 => ⟨by rw [if_neg e0], by rw [if_neg e0], rfl⟩⟩

    rintro i lo ⟨n, rfl, hn, rfl⟩

    have hlo := psLo_rng x5 n hn

    refine ⟨by omega, by omega, fun h9 => ⟨by omega, fun i => ∃ k : Nat, i = k ∧ k ≤ 1025 ∧ psHi x4 (1025 - k) k = psHi x4 1025 0, fun i => (1025 - i).toNat, ⟨0, rfl, by omega, rfl⟩, ?_⟩, fun h9 => ?_⟩

    · rintro i ⟨k, rfl, hk, hh⟩

      obtain rfl : n = 1025 := by omega

      refine ⟨by omega, fun h8 => ⟨by rw [if_pos e0], ?_, e0.symm⟩, fun h8 => ?_⟩

      · obtain rfl : k = 1025 := by omega

        rw [if_pos e0, ← hh]; rfl

      · obtain ⟨v13, v14, v15, v16, hU, v19, v20, v21, hP⟩ := cosine k (by omega)

        refine ⟨v13, v14, v15, v16, hU, _, _, v19, v20, v21, hP, fun h7 => ⟨by omega, by rw [if_pos e0], ?_, e0.symm⟩, fun h7 => ⟨⟨k + 1, by omega, by omega, ?_⟩, by dsimp only; omega⟩⟩

        · rw [if_pos e0, ← hh, show 1025 - k = (1024 - k) + 1 by omega, psHi, if_pos h7]

        · rw [← hh, show 1025 - k = (1024 - k) + 1 by omega, psHi, if_neg h7, show 1025 - (k + 1) = 1024 - k by omega]

    · obtain ⟨v13, v14, v15, v16, hU, v19, v20, v21, hP⟩ := cosine n (by omega)

      refine ⟨v13, v14, v15, v16, hU, _, _, v19, v20, v21, hP, fun h7 => ⟨⟨n + 1, by omega, by omega, ?_⟩, by dsimp only; omega⟩, fun h7 => ⟨⟨n + 1, by omega, by omega, ?_⟩, by dsimp only; omega⟩⟩

      · rw [psLo, if_pos h7]

      · rw [psLo, if_neg h7]⟩

  exact hs

set_option maxRecDepth 100000 in

theorem lo_part : ((List.range' 683 342).all fun k => decide (uX k - uR k < -524288)) = true := by decide +kernel

set_option maxRecDepth 100000 in

theorem hi_part : ((List.range' 0 683).all fun k => decide (-524288 < uX k + uR k)) = true := by decide +kernel

theorem lo_at : -524288 ≤ uX (682 : Nat) - uR (682 : Nat) := by decide +kernel

theorem hi_at : uX (683 : Nat) + uR (683 : Nat) ≤ -524288 := by decide +kernel

theorem psLo_skip {h : Int} {m : Nat} : ∀ d : Nat, (∀ k : Nat, m ≤ k → k < m + d → uX k - uR k < h) → psLo h (m + d) = psLo h m

  | 0, _ => rfl

  | d + 1, hk => by

    rw [show m + (d + 1) = (m + d) + 1 by omega, psLo, if_neg (by have := hk (m + d) (by omega) (by omega); omega)]

    exact psLo_skip d fun k h1 h2 => hk k h1 (by omega)

theorem psHi_skip {l : Int} {f : Nat} : ∀ d n : Nat, (∀ k : Nat, n ≤ k → k < n + d → l < uX k + uR k) → psHi l (f + d) n = psHi l f (n + d)

  | 0, n, _ => rfl

  | d + 1, n, hk => by

    rw [show f + (d + 1) = (f + d) + 1 by omega, psHi, if_neg (by have := hk n (by omega) (by omega); omega), psHi_skip d (n + 1) fun k h1 h2 => hk k (by omega) (by omega), show n + 1 + d = n + (d + 1) by omega]

theorem lo_682 : psLo (-524288) 1025 = 682 := by

  have h := psLo_skip (h := -524288) (m := 683) 342 fun k h1 h2 => by

    have := List.all_eq_true.1 lo_part k (List.mem_range'_1.2 ⟨by omega, by omega⟩)

    simpa using this

  rw [show (1025 : Nat) = 683 + 342 by omega, h, show (683 : Nat) = 682 + 1 by omega, psLo, if_pos lo_at]; rfl

theorem hi_683 : psHi (-524288) 1025 0 = 683 := by

  have h := psHi_skip (l := -524288) (f := 342) 683 0 fun k h1 h2 => by

    have := List.all_eq_true.1 hi_part k (List.mem_range'_1.2 ⟨by omega, by omega⟩)

    simpa using this

  rw [show (1025 : Nat) = 342 + 683 by omega, h, show (342 : Nat) = 341 + 1 by omega, psHi, if_pos hi_at]; rfl

end Go.Proofs.Ytafnplkablkepaa.Ev
