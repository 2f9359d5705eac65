/- GrowRates returns true, whatever the numbers are. -/
import Derived.Test.YtnkajbaejojcgaaFaw8
import Derived.Test.YtnkajbaejojcgaaFqs
namespace Go.Proofs.Ytnkajbaejojcgaa.Ev
set_option linter.unusedSimpArgs false
open Go Go.RowKit
set_option linter.unusedVariables false
set_option maxRecDepth 100000
def etalonlaw08_GrowRates_s : Sig := ⟨3, ⟨5, 0, 0⟩, ⟨0, 1, 0⟩, [(.agg [(.int .i64 (.var 0)), (.int .i64 (.var 1))]), (.agg [(.int .i64 (.var 2)), (.int .i64 (.var 3))]), (.int .i64 (.var 4))], [], (.bool (.var 0)), []⟩

def gr_t : Tr :=
  (.call etalonlaw08_awake_s ⟨[], [], []⟩ ⟨[], [(.var 0)], []⟩ ⟨15, [], [], [none, none], (.bool (.var 0)), []⟩
  (.ite (.var 0)
  (.ite (.icmp .leq (.lit 1) (.var 0))
   (.ite (.icmp .leq (.var 0) (.lit 1000000))
    (.ite (.icmp .leq (.lit 1) (.var 1))
     (.ite (.icmp .leq (.var 1) (.lit 1000000))
      (.ite (.icmp .leq (.var 0) (.var 1))
       (.ite (.icmp .leq (.lit 0) (.var 2))
        (.ite (.icmp .leq (.var 2) (.lit 100000))
         (.ite (.icmp .leq (.lit 0) (.var 3))
          (.ite (.icmp .leq (.var 3) (.lit 100000))
           (.ite (.icmp .leq (.var 2) (.var 3))
            (.call whole_Lower_s ⟨[(.var 0), (.var 2), (.lit 1000)], [], []⟩ ⟨[(.var 0), (.var 2), (.lit 1000), (.var 5)], [], []⟩ ⟨78, [(.int .i64 (.var 0)), (.int .i64 (.var 2)), (.int .i64 (.lit 1000))], [], [none, none, none, none, none, none], (.int .i64 (.var 5)), []⟩
             (.call whole_Upper_s ⟨[(.var 1), (.var 3), (.lit 1000)], [], []⟩ ⟨[(.var 1), (.var 3), (.lit 1000), (.var 6)], [], []⟩ ⟨79, [(.int .i64 (.var 1)), (.int .i64 (.var 3)), (.int .i64 (.lit 1000))], [], [none, none, none, none, none, none], (.int .i64 (.var 6)), []⟩
             (.rng 6 0 1000000000000 (.ite (.icmp .leq (.lit 0) (.var 4))
             (.ite (.icmp .leq (.var 4) (.lit 1000000))
              (.call whole_Upper_s ⟨[(.var 4), (.lit 1000), (.var 1)], [], []⟩ ⟨[(.var 4), (.lit 1000), (.var 1), (.var 7)], [], []⟩ ⟨79, [(.int .i64 (.var 4)), (.int .i64 (.lit 1000)), (.int .i64 (.var 1))], [], [none, none, none, none, none], (.int .i64 (.var 7)), []⟩
               (.rng 7 0 1000000000000 (.call whole_Upper_s ⟨[(.var 4), (.lit 1000), (.var 0)], [], []⟩ ⟨[(.var 4), (.lit 1000), (.var 0), (.var 8)], [], []⟩ ⟨79, [(.int .i64 (.var 4)), (.int .i64 (.lit 1000)), (.int .i64 (.var 0))], [], [none, none, none, none, none], (.int .i64 (.var 8)), []⟩
               (.rng 8 0 1000000000000 (.call etalonbase_Floor_s ⟨[(.bin .mulI (.var 0) (.var 2)), (.lit 1000)], [], []⟩ ⟨[(.bin .mulI (.var 0) (.var 2)), (.lit 1000), (.var 9)], [], []⟩ ⟨82, [(.int .i64 (.bin .mulI (.var 0) (.var 2))), (.int .i64 (.lit 1000))], [], [none, none, none, none, none, none, none], (.int .i64 (.var 9)), []⟩
               (.call etalonbase_Ceil_s ⟨[(.bin .mulI (.var 1) (.var 3)), (.lit 1000)], [], []⟩ ⟨[(.bin .mulI (.var 1) (.var 3)), (.lit 1000), (.var 10)], [], []⟩ ⟨83, [(.int .i64 (.bin .mulI (.var 1) (.var 3))), (.int .i64 (.lit 1000))], [], [none, none, none, none, none, none, none], (.int .i64 (.var 10)), []⟩
               (.ite (.icmp .eql (.var 5) (.var 9))
               (.ite (.icmp .eql (.var 6) (.var 10))
                (.call etalonbase_Ceil_s ⟨[(.bin .mulI (.lit 1000) (.var 4)), (.var 1)], [], []⟩ ⟨[(.bin .mulI (.lit 1000) (.var 4)), (.var 1), (.var 11)], [], []⟩ ⟨83, [(.int .i64 (.bin .mulI (.lit 1000) (.var 4))), (.int .i64 (.var 1))], [], [none, none, none, none, none, none], (.int .i64 (.var 11)), []⟩
                 (.call etalonbase_Ceil_s ⟨[(.bin .mulI (.lit 1000) (.var 4)), (.var 0)], [], []⟩ ⟨[(.bin .mulI (.lit 1000) (.var 4)), (.var 0), (.var 12)], [], []⟩ ⟨83, [(.int .i64 (.bin .mulI (.lit 1000) (.var 4))), (.int .i64 (.var 0))], [], [none, none, none, none, none, none], (.int .i64 (.var 12)), []⟩
                 (.ite (.icmp .eql (.var 7) (.var 11))
                 (.ite (.icmp .eql (.var 8) (.var 12))
                  (.ite (.icmp .leq (.lit 1) (.var 8))
                   (.ite (.icmp .leq (.var 8) (.lit 100000))
                    (.call whole_Lower_s ⟨[(.var 0), (.var 8), (.lit 1000)], [], []⟩ ⟨[(.var 0), (.var 8), (.lit 1000), (.var 13)], [], []⟩ ⟨78, [(.int .i64 (.var 0)), (.int .i64 (.var 8)), (.int .i64 (.lit 1000))], [], [none, none, none, none, none, none, none, none], (.int .i64 (.var 13)), []⟩
                     (.call whole_Upper_s ⟨[(.var 1), (.var 8), (.lit 1000)], [], []⟩ ⟨[(.var 1), (.var 8), (.lit 1000), (.var 14)], [], []⟩ ⟨79, [(.int .i64 (.var 1)), (.int .i64 (.var 8)), (.int .i64 (.lit 1000))], [], [none, none, none, none, none, none, none, none], (.int .i64 (.var 14)), []⟩
                     (.rng 14 0 1000000000000 (.call whole_Lower_s ⟨[(.var 0), (.bin .subI (.var 8) (.lit 1)), (.lit 1000)], [], []⟩ ⟨[(.var 0), (.bin .subI (.var 8) (.lit 1)), (.lit 1000), (.var 15)], [], []⟩ ⟨78, [(.int .i64 (.var 0)), (.int .i64 (.bin .subI (.var 8) (.lit 1))), (.int .i64 (.lit 1000))], [], [none, none, none, none, none, none, none, none, none], (.int .i64 (.var 15)), []⟩
                     (.call whole_Upper_s ⟨[(.var 1), (.bin .subI (.var 8) (.lit 1)), (.lit 1000)], [], []⟩ ⟨[(.var 1), (.bin .subI (.var 8) (.lit 1)), (.lit 1000), (.var 16)], [], []⟩ ⟨79, [(.int .i64 (.var 1)), (.int .i64 (.bin .subI (.var 8) (.lit 1))), (.int .i64 (.lit 1000))], [], [none, none, none, none, none, none, none, none, none], (.int .i64 (.var 16)), []⟩
                     (.rng 16 0 1000000000000 (.ite (.icmp .leq (.var 4) (.var 13))
                     (.ret ⟨[], [(.icmp .lss (.var 15) (.var 4))], []⟩ [])
                     (.ret ⟨[], [(.lit false)], []⟩ []))))))))
                    (.ret ⟨[], [(.lit true)], []⟩ []))
                   (.ret ⟨[], [(.lit true)], []⟩ []))
                  (.ret ⟨[], [(.lit false)], []⟩ []))
                 (.ret ⟨[], [(.lit false)], []⟩ []))))
                (.ret ⟨[], [(.lit false)], []⟩ []))
               (.ret ⟨[], [(.lit false)], []⟩ []))))))))
              (.call etalonbase_Floor_s ⟨[(.bin .mulI (.var 0) (.var 2)), (.lit 1000)], [], []⟩ ⟨[(.bin .mulI (.var 0) (.var 2)), (.lit 1000), (.var 7)], [], []⟩ ⟨82, [(.int .i64 (.bin .mulI (.var 0) (.var 2))), (.int .i64 (.lit 1000))], [], [none, none, none, none, none, none, none], (.int .i64 (.var 7)), []⟩
               (.call etalonbase_Ceil_s ⟨[(.bin .mulI (.var 1) (.var 3)), (.lit 1000)], [], []⟩ ⟨[(.bin .mulI (.var 1) (.var 3)), (.lit 1000), (.var 8)], [], []⟩ ⟨83, [(.int .i64 (.bin .mulI (.var 1) (.var 3))), (.int .i64 (.lit 1000))], [], [none, none, none, none, none, none, none], (.int .i64 (.var 8)), []⟩
               (.ite (.icmp .eql (.var 5) (.var 7))
               (.ite (.icmp .eql (.var 6) (.var 8))
                (.ret ⟨[], [(.lit true)], []⟩ [])
                (.ret ⟨[], [(.lit false)], []⟩ []))
               (.ret ⟨[], [(.lit false)], []⟩ [])))))
             (.call etalonbase_Floor_s ⟨[(.bin .mulI (.var 0) (.var 2)), (.lit 1000)], [], []⟩ ⟨[(.bin .mulI (.var 0) (.var 2)), (.lit 1000), (.var 7)], [], []⟩ ⟨82, [(.int .i64 (.bin .mulI (.var 0) (.var 2))), (.int .i64 (.lit 1000))], [], [none, none, none, none, none, none, none], (.int .i64 (.var 7)), []⟩
              (.call etalonbase_Ceil_s ⟨[(.bin .mulI (.var 1) (.var 3)), (.lit 1000)], [], []⟩ ⟨[(.bin .mulI (.var 1) (.var 3)), (.lit 1000), (.var 8)], [], []⟩ ⟨83, [(.int .i64 (.bin .mulI (.var 1) (.var 3))), (.int .i64 (.lit 1000))], [], [none, none, none, none, none, none, none], (.int .i64 (.var 8)), []⟩
              (.ite (.icmp .eql (.var 5) (.var 7))
              (.ite (.icmp .eql (.var 6) (.var 8))
               (.ret ⟨[], [(.lit true)], []⟩ [])
               (.ret ⟨[], [(.lit false)], []⟩ []))
              (.ret ⟨[], [(.lit false)], []⟩ []))))))))
            (.ite (.icmp .leq (.lit 0) (.var 4))
             (.ite (.icmp .leq (.var 4) (.lit 1000000))
              (.call whole_Upper_s ⟨[(.var 4), (.lit 1000), (.var 1)], [], []⟩ ⟨[(.var 4), (.lit 1000), (.var 1), (.var 5)], [], []⟩ ⟨79, [(.int .i64 (.var 4)), (.int .i64 (.lit 1000)), (.int .i64 (.var 1))], [], [none, none, none, none, none], (.int .i64 (.var 5)), []⟩
               (.rng 5 0 1000000000000 (.call whole_Upper_s ⟨[(.var 4), (.lit 1000), (.var 0)], [], []⟩ ⟨[(.var 4), (.lit 1000), (.var 0), (.var 6)], [], []⟩ ⟨79, [(.int .i64 (.var 4)), (.int .i64 (.lit 1000)), (.int .i64 (.var 0))], [], [none, none, none, none, none], (.int .i64 (.var 6)), []⟩
               (.rng 6 0 1000000000000 (.call etalonbase_Ceil_s ⟨[(.bin .mulI (.lit 1000) (.var 4)), (.var 1)], [], []⟩ ⟨[(.bin .mulI (.lit 1000) (.var 4)), (.var 1), (.var 7)], [], []⟩ ⟨83, [(.int .i64 (.bin .mulI (.lit 1000) (.var 4))), (.int .i64 (.var 1))], [], [none, none, none, none, none, none], (.int .i64 (.var 7)), []⟩
               (.call etalonbase_Ceil_s ⟨[(.bin .mulI (.lit 1000) (.var 4)), (.var 0)], [], []⟩ ⟨[(.bin .mulI (.lit 1000) (.var 4)), (.var 0), (.var 8)], [], []⟩ ⟨83, [(.int .i64 (.bin .mulI (.lit 1000) (.var 4))), (.int .i64 (.var 0))], [], [none, none, none, none, none, none], (.int .i64 (.var 8)), []⟩
               (.ite (.icmp .eql (.var 5) (.var 7))
               (.ite (.icmp .eql (.var 6) (.var 8))
                (.ite (.icmp .leq (.lit 1) (.var 6))
                 (.ite (.icmp .leq (.var 6) (.lit 100000))
                  (.call whole_Lower_s ⟨[(.var 0), (.var 6), (.lit 1000)], [], []⟩ ⟨[(.var 0), (.var 6), (.lit 1000), (.var 9)], [], []⟩ ⟨78, [(.int .i64 (.var 0)), (.int .i64 (.var 6)), (.int .i64 (.lit 1000))], [], [none, none, none, none, none, none, none, none], (.int .i64 (.var 9)), []⟩
                   (.call whole_Upper_s ⟨[(.var 1), (.var 6), (.lit 1000)], [], []⟩ ⟨[(.var 1), (.var 6), (.lit 1000), (.var 10)], [], []⟩ ⟨79, [(.int .i64 (.var 1)), (.int .i64 (.var 6)), (.int .i64 (.lit 1000))], [], [none, none, none, none, none, none, none, none], (.int .i64 (.var 10)), []⟩
                   (.rng 10 0 1000000000000 (.call whole_Lower_s ⟨[(.var 0), (.bin .subI (.var 6) (.lit 1)), (.lit 1000)], [], []⟩ ⟨[(.var 0), (.bin .subI (.var 6) (.lit 1)), (.lit 1000), (.var 11)], [], []⟩ ⟨78, [(.int .i64 (.var 0)), (.int .i64 (.bin .subI (.var 6) (.lit 1))), (.int .i64 (.lit 1000))], [], [none, none, none, none, none, none, none, none, none], (.int .i64 (.var 11)), []⟩
                   (.call whole_Upper_s ⟨[(.var 1), (.bin .subI (.var 6) (.lit 1)), (.lit 1000)], [], []⟩ ⟨[(.var 1), (.bin .subI (.var 6) (.lit 1)), (.lit 1000), (.var 12)], [], []⟩ ⟨79, [(.int .i64 (.var 1)), (.int .i64 (.bin .subI (.var 6) (.lit 1))), (.int .i64 (.lit 1000))], [], [none, none, none, none, none, none, none, none, none], (.int .i64 (.var 12)), []⟩
                   (.rng 12 0 1000000000000 (.ite (.icmp .leq (.var 4) (.var 9))
                   (.ret ⟨[], [(.icmp .lss (.var 11) (.var 4))], []⟩ [])
                   (.ret ⟨[], [(.lit false)], []⟩ []))))))))
                  (.ret ⟨[], [(.lit true)], []⟩ []))
                 (.ret ⟨[], [(.lit true)], []⟩ []))
                (.ret ⟨[], [(.lit false)], []⟩ []))
               (.ret ⟨[], [(.lit false)], []⟩ []))))))))
              (.ret ⟨[], [(.lit true)], []⟩ []))
             (.ret ⟨[], [(.lit true)], []⟩ [])))
           (.ite (.icmp .leq (.lit 0) (.var 4))
            (.ite (.icmp .leq (.var 4) (.lit 1000000))
             (.call whole_Upper_s ⟨[(.var 4), (.lit 1000), (.var 1)], [], []⟩ ⟨[(.var 4), (.lit 1000), (.var 1), (.var 5)], [], []⟩ ⟨79, [(.int .i64 (.var 4)), (.int .i64 (.lit 1000)), (.int .i64 (.var 1))], [], [none, none, none, none, none], (.int .i64 (.var 5)), []⟩
              (.rng 5 0 1000000000000 (.call whole_Upper_s ⟨[(.var 4), (.lit 1000), (.var 0)], [], []⟩ ⟨[(.var 4), (.lit 1000), (.var 0), (.var 6)], [], []⟩ ⟨79, [(.int .i64 (.var 4)), (.int .i64 (.lit 1000)), (.int .i64 (.var 0))], [], [none, none, none, none, none], (.int .i64 (.var 6)), []⟩
              (.rng 6 0 1000000000000 (.call etalonbase_Ceil_s ⟨[(.bin .mulI (.lit 1000) (.var 4)), (.var 1)], [], []⟩ ⟨[(.bin .mulI (.lit 1000) (.var 4)), (.var 1), (.var 7)], [], []⟩ ⟨83, [(.int .i64 (.bin .mulI (.lit 1000) (.var 4))), (.int .i64 (.var 1))], [], [none, none, none, none, none, none], (.int .i64 (.var 7)), []⟩
              (.call etalonbase_Ceil_s ⟨[(.bin .mulI (.lit 1000) (.var 4)), (.var 0)], [], []⟩ ⟨[(.bin .mulI (.lit 1000) (.var 4)), (.var 0), (.var 8)], [], []⟩ ⟨83, [(.int .i64 (.bin .mulI (.lit 1000) (.var 4))), (.int .i64 (.var 0))], [], [none, none, none, none, none, none], (.int .i64 (.var 8)), []⟩
              (.ite (.icmp .eql (.var 5) (.var 7))
              (.ite (.icmp .eql (.var 6) (.var 8))
               (.ite (.icmp .leq (.lit 1) (.var 6))
                (.ite (.icmp .leq (.var 6) (.lit 100000))
                 (.call whole_Lower_s ⟨[(.var 0), (.var 6), (.lit 1000)], [], []⟩ ⟨[(.var 0), (.var 6), (.lit 1000), (.var 9)], [], []⟩ ⟨78, [(.int .i64 (.var 0)), (.int .i64 (.var 6)), (.int .i64 (.lit 1000))], [], [none, none, none, none, none, none, none, none], (.int .i64 (.var 9)), []⟩
                  (.call whole_Upper_s ⟨[(.var 1), (.var 6), (.lit 1000)], [], []⟩ ⟨[(.var 1), (.var 6), (.lit 1000), (.var 10)], [], []⟩ ⟨79, [(.int .i64 (.var 1)), (.int .i64 (.var 6)), (.int .i64 (.lit 1000))], [], [none, none, none, none, none, none, none, none], (.int .i64 (.var 10)), []⟩
                  (.rng 10 0 1000000000000 (.call whole_Lower_s ⟨[(.var 0), (.bin .subI (.var 6) (.lit 1)), (.lit 1000)], [], []⟩ ⟨[(.var 0), (.bin .subI (.var 6) (.lit 1)), (.lit 1000), (.var 11)], [], []⟩ ⟨78, [(.int .i64 (.var 0)), (.int .i64 (.bin .subI (.var 6) (.lit 1))), (.int .i64 (.lit 1000))], [], [none, none, none, none, none, none, none, none, none], (.int .i64 (.var 11)), []⟩
                  (.call whole_Upper_s ⟨[(.var 1), (.bin .subI (.var 6) (.lit 1)), (.lit 1000)], [], []⟩ ⟨[(.var 1), (.bin .subI (.var 6) (.lit 1)), (.lit 1000), (.var 12)], [], []⟩ ⟨79, [(.int .i64 (.var 1)), (.int .i64 (.bin .subI (.var 6) (.lit 1))), (.int .i64 (.lit 1000))], [], [none, none, none, none, none, none, none, none, none], (.int .i64 (.var 12)), []⟩
                  (.rng 12 0 1000000000000 (.ite (.icmp .leq (.var 4) (.var 9))
                  (.ret ⟨[], [(.icmp .lss (.var 11) (.var 4))], []⟩ [])
                  (.ret ⟨[], [(.lit false)], []⟩ []))))))))
                 (.ret ⟨[], [(.lit true)], []⟩ []))
                (.ret ⟨[], [(.lit true)], []⟩ []))
               (.ret ⟨[], [(.lit false)], []⟩ []))
              (.ret ⟨[], [(.lit false)], []⟩ []))))))))
             (.ret ⟨[], [(.lit true)], []⟩ []))
            (.ret ⟨[], [(.lit true)], []⟩ [])))
          (.ite (.icmp .leq (.lit 0) (.var 4))
           (.ite (.icmp .leq (.var 4) (.lit 1000000))
            (.call whole_Upper_s ⟨[(.var 4), (.lit 1000), (.var 1)], [], []⟩ ⟨[(.var 4), (.lit 1000), (.var 1), (.var 5)], [], []⟩ ⟨79, [(.int .i64 (.var 4)), (.int .i64 (.lit 1000)), (.int .i64 (.var 1))], [], [none, none, none, none, none], (.int .i64 (.var 5)), []⟩
             (.rng 5 0 1000000000000 (.call whole_Upper_s ⟨[(.var 4), (.lit 1000), (.var 0)], [], []⟩ ⟨[(.var 4), (.lit 1000), (.var 0), (.var 6)], [], []⟩ ⟨79, [(.int .i64 (.var 4)), (.int .i64 (.lit 1000)), (.int .i64 (.var 0))], [], [none, none, none, none, none], (.int .i64 (.var 6)), []⟩
             (.rng 6 0 1000000000000 (.call etalonbase_Ceil_s ⟨[(.bin .mulI (.lit 1000) (.var 4)), (.var 1)], [], []⟩ ⟨[(.bin .mulI (.lit 1000) (.var 4)), (.var 1), (.var 7)], [], []⟩ ⟨83, [(.int .i64 (.bin .mulI (.lit 1000) (.var 4))), (.int .i64 (.var 1))], [], [none, none, none, none, none, none], (.int .i64 (.var 7)), []⟩
             (.call etalonbase_Ceil_s ⟨[(.bin .mulI (.lit 1000) (.var 4)), (.var 0)], [], []⟩ ⟨[(.bin .mulI (.lit 1000) (.var 4)), (.var 0), (.var 8)], [], []⟩ ⟨83, [(.int .i64 (.bin .mulI (.lit 1000) (.var 4))), (.int .i64 (.var 0))], [], [none, none, none, none, none, none], (.int .i64 (.var 8)), []⟩
             (.ite (.icmp .eql (.var 5) (.var 7))
             (.ite (.icmp .eql (.var 6) (.var 8))
              (.ite (.icmp .leq (.lit 1) (.var 6))
               (.ite (.icmp .leq (.var 6) (.lit 100000))
                (.call whole_Lower_s ⟨[(.var 0), (.var 6), (.lit 1000)], [], []⟩ ⟨[(.var 0), (.var 6), (.lit 1000), (.var 9)], [], []⟩ ⟨78, [(.int .i64 (.var 0)), (.int .i64 (.var 6)), (.int .i64 (.lit 1000))], [], [none, none, none, none, none, none, none, none], (.int .i64 (.var 9)), []⟩
                 (.call whole_Upper_s ⟨[(.var 1), (.var 6), (.lit 1000)], [], []⟩ ⟨[(.var 1), (.var 6), (.lit 1000), (.var 10)], [], []⟩ ⟨79, [(.int .i64 (.var 1)), (.int .i64 (.var 6)), (.int .i64 (.lit 1000))], [], [none, none, none, none, none, none, none, none], (.int .i64 (.var 10)), []⟩
                 (.rng 10 0 1000000000000 (.call whole_Lower_s ⟨[(.var 0), (.bin .subI (.var 6) (.lit 1)), (.lit 1000)], [], []⟩ ⟨[(.var 0), (.bin .subI (.var 6) (.lit 1)), (.lit 1000), (.var 11)], [], []⟩ ⟨78, [(.int .i64 (.var 0)), (.int .i64 (.bin .subI (.var 6) (.lit 1))), (.int .i64 (.lit 1000))], [], [none, none, none, none, none, none, none, none, none], (.int .i64 (.var 11)), []⟩
                 (.call whole_Upper_s ⟨[(.var 1), (.bin .subI (.var 6) (.lit 1)), (.lit 1000)], [], []⟩ ⟨[(.var 1), (.bin .subI (.var 6) (.lit 1)), (.lit 1000), (.var 12)], [], []⟩ ⟨79, [(.int .i64 (.var 1)), (.int .i64 (.bin .subI (.var 6) (.lit 1))), (.int .i64 (.lit 1000))], [], [none, none, none, none, none, none, none, none, none], (.int .i64 (.var 12)), []⟩
                 (.rng 12 0 1000000000000 (.ite (.icmp .leq (.var 4) (.var 9))
                 (.ret ⟨[], [(.icmp .lss (.var 11) (.var 4))], []⟩ [])
                 (.ret ⟨[], [(.lit false)], []⟩ []))))))))
                (.ret ⟨[], [(.lit true)], []⟩ []))
               (.ret ⟨[], [(.lit true)], []⟩ []))
              (.ret ⟨[], [(.lit false)], []⟩ []))
             (.ret ⟨[], [(.lit false)], []⟩ []))))))))
            (.ret ⟨[], [(.lit true)], []⟩ []))
           (.ret ⟨[], [(.lit true)], []⟩ [])))
         (.ite (.icmp .leq (.lit 0) (.var 4))
          (.ite (.icmp .leq (.var 4) (.lit 1000000))
           (.call whole_Upper_s ⟨[(.var 4), (.lit 1000), (.var 1)], [], []⟩ ⟨[(.var 4), (.lit 1000), (.var 1), (.var 5)], [], []⟩ ⟨79, [(.int .i64 (.var 4)), (.int .i64 (.lit 1000)), (.int .i64 (.var 1))], [], [none, none, none, none, none], (.int .i64 (.var 5)), []⟩
            (.rng 5 0 1000000000000 (.call whole_Upper_s ⟨[(.var 4), (.lit 1000), (.var 0)], [], []⟩ ⟨[(.var 4), (.lit 1000), (.var 0), (.var 6)], [], []⟩ ⟨79, [(.int .i64 (.var 4)), (.int .i64 (.lit 1000)), (.int .i64 (.var 0))], [], [none, none, none, none, none], (.int .i64 (.var 6)), []⟩
            (.rng 6 0 1000000000000 (.call etalonbase_Ceil_s ⟨[(.bin .mulI (.lit 1000) (.var 4)), (.var 1)], [], []⟩ ⟨[(.bin .mulI (.lit 1000) (.var 4)), (.var 1), (.var 7)], [], []⟩ ⟨83, [(.int .i64 (.bin .mulI (.lit 1000) (.var 4))), (.int .i64 (.var 1))], [], [none, none, none, none, none, none], (.int .i64 (.var 7)), []⟩
            (.call etalonbase_Ceil_s ⟨[(.bin .mulI (.lit 1000) (.var 4)), (.var 0)], [], []⟩ ⟨[(.bin .mulI (.lit 1000) (.var 4)), (.var 0), (.var 8)], [], []⟩ ⟨83, [(.int .i64 (.bin .mulI (.lit 1000) (.var 4))), (.int .i64 (.var 0))], [], [none, none, none, none, none, none], (.int .i64 (.var 8)), []⟩
            (.ite (.icmp .eql (.var 5) (.var 7))
            (.ite (.icmp .eql (.var 6) (.var 8))
             (.ite (.icmp .leq (.lit 1) (.var 6))
              (.ite (.icmp .leq (.var 6) (.lit 100000))
               (.call whole_Lower_s ⟨[(.var 0), (.var 6), (.lit 1000)], [], []⟩ ⟨[(.var 0), (.var 6), (.lit 1000), (.var 9)], [], []⟩ ⟨78, [(.int .i64 (.var 0)), (.int .i64 (.var 6)), (.int .i64 (.lit 1000))], [], [none, none, none, none, none, none, none, none], (.int .i64 (.var 9)), []⟩
                (.call whole_Upper_s ⟨[(.var 1), (.var 6), (.lit 1000)], [], []⟩ ⟨[(.var 1), (.var 6), (.lit 1000), (.var 10)], [], []⟩ ⟨79, [(.int .i64 (.var 1)), (.int .i64 (.var 6)), (.int .i64 (.lit 1000))], [], [none, none, none, none, none, none, none, none], (.int .i64 (.var 10)), []⟩
                (.rng 10 0 1000000000000 (.call whole_Lower_s ⟨[(.var 0), (.bin .subI (.var 6) (.lit 1)), (.lit 1000)], [], []⟩ ⟨[(.var 0), (.bin .subI (.var 6) (.lit 1)), (.lit 1000), (.var 11)], [], []⟩ ⟨78, [(.int .i64 (.var 0)), (.int .i64 (.bin .subI (.var 6) (.lit 1))), (.int .i64 (.lit 1000))], [], [none, none, none, none, none, none, none, none, none], (.int .i64 (.var 11)), []⟩
                (.call whole_Upper_s ⟨[(.var 1), (.bin .subI (.var 6) (.lit 1)), (.lit 1000)], [], []⟩ ⟨[(.var 1), (.bin .subI (.var 6) (.lit 1)), (.lit 1000), (.var 12)], [], []⟩ ⟨79, [(.int .i64 (.var 1)), (.int .i64 (.bin .subI (.var 6) (.lit 1))), (.int .i64 (.lit 1000))], [], [none, none, none, none, none, none, none, none, none], (.int .i64 (.var 12)), []⟩
                (.rng 12 0 1000000000000 (.ite (.icmp .leq (.var 4) (.var 9))
                (.ret ⟨[], [(.icmp .lss (.var 11) (.var 4))], []⟩ [])
                (.ret ⟨[], [(.lit false)], []⟩ []))))))))
               (.ret ⟨[], [(.lit true)], []⟩ []))
              (.ret ⟨[], [(.lit true)], []⟩ []))
             (.ret ⟨[], [(.lit false)], []⟩ []))
            (.ret ⟨[], [(.lit false)], []⟩ []))))))))
           (.ret ⟨[], [(.lit true)], []⟩ []))
          (.ret ⟨[], [(.lit true)], []⟩ [])))
        (.ite (.icmp .leq (.lit 0) (.var 4))
         (.ite (.icmp .leq (.var 4) (.lit 1000000))
          (.call whole_Upper_s ⟨[(.var 4), (.lit 1000), (.var 1)], [], []⟩ ⟨[(.var 4), (.lit 1000), (.var 1), (.var 5)], [], []⟩ ⟨79, [(.int .i64 (.var 4)), (.int .i64 (.lit 1000)), (.int .i64 (.var 1))], [], [none, none, none, none, none], (.int .i64 (.var 5)), []⟩
           (.rng 5 0 1000000000000 (.call whole_Upper_s ⟨[(.var 4), (.lit 1000), (.var 0)], [], []⟩ ⟨[(.var 4), (.lit 1000), (.var 0), (.var 6)], [], []⟩ ⟨79, [(.int .i64 (.var 4)), (.int .i64 (.lit 1000)), (.int .i64 (.var 0))], [], [none, none, none, none, none], (.int .i64 (.var 6)), []⟩
           (.rng 6 0 1000000000000 (.call etalonbase_Ceil_s ⟨[(.bin .mulI (.lit 1000) (.var 4)), (.var 1)], [], []⟩ ⟨[(.bin .mulI (.lit 1000) (.var 4)), (.var 1), (.var 7)], [], []⟩ ⟨83, [(.int .i64 (.bin .mulI (.lit 1000) (.var 4))), (.int .i64 (.var 1))], [], [none, none, none, none, none, none], (.int .i64 (.var 7)), []⟩
           (.call etalonbase_Ceil_s ⟨[(.bin .mulI (.lit 1000) (.var 4)), (.var 0)], [], []⟩ ⟨[(.bin .mulI (.lit 1000) (.var 4)), (.var 0), (.var 8)], [], []⟩ ⟨83, [(.int .i64 (.bin .mulI (.lit 1000) (.var 4))), (.int .i64 (.var 0))], [], [none, none, none, none, none, none], (.int .i64 (.var 8)), []⟩
           (.ite (.icmp .eql (.var 5) (.var 7))
           (.ite (.icmp .eql (.var 6) (.var 8))
            (.ite (.icmp .leq (.lit 1) (.var 6))
             (.ite (.icmp .leq (.var 6) (.lit 100000))
              (.call whole_Lower_s ⟨[(.var 0), (.var 6), (.lit 1000)], [], []⟩ ⟨[(.var 0), (.var 6), (.lit 1000), (.var 9)], [], []⟩ ⟨78, [(.int .i64 (.var 0)), (.int .i64 (.var 6)), (.int .i64 (.lit 1000))], [], [none, none, none, none, none, none, none, none], (.int .i64 (.var 9)), []⟩
               (.call whole_Upper_s ⟨[(.var 1), (.var 6), (.lit 1000)], [], []⟩ ⟨[(.var 1), (.var 6), (.lit 1000), (.var 10)], [], []⟩ ⟨79, [(.int .i64 (.var 1)), (.int .i64 (.var 6)), (.int .i64 (.lit 1000))], [], [none, none, none, none, none, none, none, none], (.int .i64 (.var 10)), []⟩
               (.rng 10 0 1000000000000 (.call whole_Lower_s ⟨[(.var 0), (.bin .subI (.var 6) (.lit 1)), (.lit 1000)], [], []⟩ ⟨[(.var 0), (.bin .subI (.var 6) (.lit 1)), (.lit 1000), (.var 11)], [], []⟩ ⟨78, [(.int .i64 (.var 0)), (.int .i64 (.bin .subI (.var 6) (.lit 1))), (.int .i64 (.lit 1000))], [], [none, none, none, none, none, none, none, none, none], (.int .i64 (.var 11)), []⟩
               (.call whole_Upper_s ⟨[(.var 1), (.bin .subI (.var 6) (.lit 1)), (.lit 1000)], [], []⟩ ⟨[(.var 1), (.bin .subI (.var 6) (.lit 1)), (.lit 1000), (.var 12)], [], []⟩ ⟨79, [(.int .i64 (.var 1)), (.int .i64 (.bin .subI (.var 6) (.lit 1))), (.int .i64 (.lit 1000))], [], [none, none, none, none, none, none, none, none, none], (.int .i64 (.var 12)), []⟩
               (.rng 12 0 1000000000000 (.ite (.icmp .leq (.var 4) (.var 9))
               (.ret ⟨[], [(.icmp .lss (.var 11) (.var 4))], []⟩ [])
               (.ret ⟨[], [(.lit false)], []⟩ []))))))))
              (.ret ⟨[], [(.lit true)], []⟩ []))
             (.ret ⟨[], [(.lit true)], []⟩ []))
            (.ret ⟨[], [(.lit false)], []⟩ []))
           (.ret ⟨[], [(.lit false)], []⟩ []))))))))
          (.ret ⟨[], [(.lit true)], []⟩ []))
         (.ret ⟨[], [(.lit true)], []⟩ [])))
       (.ite (.icmp .leq (.lit 0) (.var 2))
        (.ite (.icmp .leq (.var 2) (.lit 100000))
         (.ite (.icmp .leq (.lit 0) (.var 3))
          (.ite (.icmp .leq (.var 3) (.lit 100000))
           (.ite (.icmp .leq (.var 2) (.var 3))
            (.ret ⟨[], [(.lit true)], []⟩ [])
            (.ret ⟨[], [(.lit true)], []⟩ []))
           (.ret ⟨[], [(.lit true)], []⟩ []))
          (.ret ⟨[], [(.lit true)], []⟩ []))
         (.ret ⟨[], [(.lit true)], []⟩ []))
        (.ret ⟨[], [(.lit true)], []⟩ [])))
      (.ite (.icmp .leq (.lit 0) (.var 2))
       (.ite (.icmp .leq (.var 2) (.lit 100000))
        (.ite (.icmp .leq (.lit 0) (.var 3))
         (.ite (.icmp .leq (.var 3) (.lit 100000))
          (.ite (.icmp .leq (.var 2) (.var 3))
           (.ret ⟨[], [(.lit true)], []⟩ [])
           (.ret ⟨[], [(.lit true)], []⟩ []))
          (.ret ⟨[], [(.lit true)], []⟩ []))
         (.ret ⟨[], [(.lit true)], []⟩ []))
        (.ret ⟨[], [(.lit true)], []⟩ []))
       (.ret ⟨[], [(.lit true)], []⟩ [])))
     (.ite (.icmp .leq (.lit 0) (.var 2))
      (.ite (.icmp .leq (.var 2) (.lit 100000))
       (.ite (.icmp .leq (.lit 0) (.var 3))
        (.ite (.icmp .leq (.var 3) (.lit 100000))
         (.ite (.icmp .leq (.var 2) (.var 3))
          (.ret ⟨[], [(.lit true)], []⟩ [])
          (.ret ⟨[], [(.lit true)], []⟩ []))
         (.ret ⟨[], [(.lit true)], []⟩ []))
        (.ret ⟨[], [(.lit true)], []⟩ []))
       (.ret ⟨[], [(.lit true)], []⟩ []))
      (.ret ⟨[], [(.lit true)], []⟩ [])))
    (.ite (.icmp .leq (.lit 0) (.var 2))
     (.ite (.icmp .leq (.var 2) (.lit 100000))
      (.ite (.icmp .leq (.lit 0) (.var 3))
       (.ite (.icmp .leq (.var 3) (.lit 100000))
        (.ite (.icmp .leq (.var 2) (.var 3))
         (.ret ⟨[], [(.lit true)], []⟩ [])
         (.ret ⟨[], [(.lit true)], []⟩ []))
        (.ret ⟨[], [(.lit true)], []⟩ []))
       (.ret ⟨[], [(.lit true)], []⟩ []))
      (.ret ⟨[], [(.lit true)], []⟩ []))
     (.ret ⟨[], [(.lit true)], []⟩ [])))
   (.ite (.icmp .leq (.lit 0) (.var 2))
    (.ite (.icmp .leq (.var 2) (.lit 100000))
     (.ite (.icmp .leq (.lit 0) (.var 3))
      (.ite (.icmp .leq (.var 3) (.lit 100000))
       (.ite (.icmp .leq (.var 2) (.var 3))
        (.ret ⟨[], [(.lit true)], []⟩ [])
        (.ret ⟨[], [(.lit true)], []⟩ []))
       (.ret ⟨[], [(.lit true)], []⟩ []))
      (.ret ⟨[], [(.lit true)], []⟩ []))
     (.ret ⟨[], [(.lit true)], []⟩ []))
    (.ret ⟨[], [(.lit true)], []⟩ [])))
  (.ret ⟨[], [(.lit false)], []⟩ [])))
theorem gr_p0 : (gr_t.only [true, true, true, true, true, true, true, true, true, true, true]).chk Try.prog (S1 Try.prog) 100000 60 (.fn etalonlaw08_GrowRates_s) { dom := { ivs := [(0, (-9223372036854775808), 9223372036854775807), (1, (-9223372036854775808), 9223372036854775807), (2, (-9223372036854775808), 9223372036854775807), (3, (-9223372036854775808), 9223372036854775807), (4, (-9223372036854775808), 9223372036854775807)], aivs := [] } } etalonlaw08_GrowRates_s.inp = true := by kernel_rfl
theorem gr_p1 : ((gr_t.but [true, true, true, true, true, true, true, true, true, true, true]).only [true, true, true, true, true, true, true, true, true, true]).chk Try.prog (S1 Try.prog) 100000 60 (.fn etalonlaw08_GrowRates_s) { dom := { ivs := [(0, (-9223372036854775808), 9223372036854775807), (1, (-9223372036854775808), 9223372036854775807), (2, (-9223372036854775808), 9223372036854775807), (3, (-9223372036854775808), 9223372036854775807), (4, (-9223372036854775808), 9223372036854775807)], aivs := [] } } etalonlaw08_GrowRates_s.inp = true := by kernel_rfl
theorem gr_p2 : (((gr_t.but [true, true, true, true, true, true, true, true, true, true, true]).but [true, true, true, true, true, true, true, true, true, true]).only [true, true, true, true, true, true, true, true, true]).chk Try.prog (S1 Try.prog) 100000 60 (.fn etalonlaw08_GrowRates_s) { dom := { ivs := [(0, (-9223372036854775808), 9223372036854775807), (1, (-9223372036854775808), 9223372036854775807), (2, (-9223372036854775808), 9223372036854775807), (3, (-9223372036854775808), 9223372036854775807), (4, (-9223372036854775808), 9223372036854775807)], aivs := [] } } etalonlaw08_GrowRates_s.inp = true := by kernel_rfl
theorem gr_p3 : ((((gr_t.but [true, true, true, true, true, true, true, true, true, true, true]).but [true, true, true, true, true, true, true, true, true, true]).but [true, true, true, true, true, true, true, true, true]).only [true, true, true, true, true, true, true, true]).chk Try.prog (S1 Try.prog) 100000 60 (.fn etalonlaw08_GrowRates_s) { dom := { ivs := [(0, (-9223372036854775808), 9223372036854775807), (1, (-9223372036854775808), 9223372036854775807), (2, (-9223372036854775808), 9223372036854775807), (3, (-9223372036854775808), 9223372036854775807), (4, (-9223372036854775808), 9223372036854775807)], aivs := [] } } etalonlaw08_GrowRates_s.inp = true := by kernel_rfl
theorem gr_p4 : (((((gr_t.but [true, true, true, true, true, true, true, true, true, true, true]).but [true, true, true, true, true, true, true, true, true, true]).but [true, true, true, true, true, true, true, true, true]).but [true, true, true, true, true, true, true, true]).only [true, true, true, true, true, true, true]).chk Try.prog (S1 Try.prog) 100000 60 (.fn etalonlaw08_GrowRates_s) { dom := { ivs := [(0, (-9223372036854775808), 9223372036854775807), (1, (-9223372036854775808), 9223372036854775807), (2, (-9223372036854775808), 9223372036854775807), (3, (-9223372036854775808), 9223372036854775807), (4, (-9223372036854775808), 9223372036854775807)], aivs := [] } } etalonlaw08_GrowRates_s.inp = true := by kernel_rfl
theorem gr_p5 : ((((((gr_t.but [true, true, true, true, true, true, true, true, true, true, true]).but [true, true, true, true, true, true, true, true, true, true]).but [true, true, true, true, true, true, true, true, true]).but [true, true, true, true, true, true, true, true]).but [true, true, true, true, true, true, true]).only [true, true, true, true, true]).chk Try.prog (S1 Try.prog) 100000 60 (.fn etalonlaw08_GrowRates_s) { dom := { ivs := [(0, (-9223372036854775808), 9223372036854775807), (1, (-9223372036854775808), 9223372036854775807), (2, (-9223372036854775808), 9223372036854775807), (3, (-9223372036854775808), 9223372036854775807), (4, (-9223372036854775808), 9223372036854775807)], aivs := [] } } etalonlaw08_GrowRates_s.inp = true := by kernel_rfl
theorem gr_p6 : (((((((gr_t.but [true, true, true, true, true, true, true, true, true, true, true]).but [true, true, true, true, true, true, true, true, true, true]).but [true, true, true, true, true, true, true, true, true]).but [true, true, true, true, true, true, true, true]).but [true, true, true, true, true, true, true]).but [true, true, true, true, true]).only [true, true, true]).chk Try.prog (S1 Try.prog) 100000 60 (.fn etalonlaw08_GrowRates_s) { dom := { ivs := [(0, (-9223372036854775808), 9223372036854775807), (1, (-9223372036854775808), 9223372036854775807), (2, (-9223372036854775808), 9223372036854775807), (3, (-9223372036854775808), 9223372036854775807), (4, (-9223372036854775808), 9223372036854775807)], aivs := [] } } etalonlaw08_GrowRates_s.inp = true := by kernel_rfl
theorem gr_p7 : ((((((((gr_t.but [true, true, true, true, true, true, true, true, true, true, true]).but [true, true, true, true, true, true, true, true, true, true]).but [true, true, true, true, true, true, true, true, true]).but [true, true, true, true, true, true, true, true]).but [true, true, true, true, true, true, true]).but [true, true, true, true, true]).but [true, true, true])).chk Try.prog (S1 Try.prog) 100000 60 (.fn etalonlaw08_GrowRates_s) { dom := { ivs := [(0, (-9223372036854775808), 9223372036854775807), (1, (-9223372036854775808), 9223372036854775807), (2, (-9223372036854775808), 9223372036854775807), (3, (-9223372036854775808), 9223372036854775807), (4, (-9223372036854775808), 9223372036854775807)], aivs := [] } } etalonlaw08_GrowRates_s.inp = true := by kernel_rfl
theorem gr {x0 x1 x2 x3 x4 : Int} (r0 : (-9223372036854775808) ≤ x0 ∧ x0 ≤ 9223372036854775807) (r1 : (-9223372036854775808) ≤ x1 ∧ x1 ≤ 9223372036854775807) (r2 : (-9223372036854775808) ≤ x2 ∧ x2 ≤ 9223372036854775807) (r3 : (-9223372036854775808) ≤ x3 ∧ x3 ≤ 9223372036854775807) (r4 : (-9223372036854775808) ≤ x4 ∧ x4 ≤ 9223372036854775807) {R : Bool → Prop}
  (H : (∃ u0 : Bool, Spec Try.prog etalonlaw08_awake_s ⟨[], [], []⟩ [] [u0] [] ∧
   ((u0 = true → ((decide ((1 : Int) ≤ x0) = true → ((decide ((x0 : Int) ≤ 1000000) = true → ((decide ((1 : Int) ≤ x1) = true → ((decide ((x1 : Int) ≤ 1000000) = true → ((decide ((x0 : Int) ≤ x1) = true → ((decide ((0 : Int) ≤ x2) = true → ((decide ((x2 : Int) ≤ 100000) = true → ((decide ((0 : Int) ≤ x3) = true → ((decide ((x3 : Int) ≤ 100000) = true → ((decide ((x2 : Int) ≤ x3) = true → (∃ v5 : Int, Spec Try.prog whole_Lower_s ⟨[x0, x2, 1000], [], []⟩ [v5] [] [] ∧
              (∃ v6 : Int, Spec Try.prog whole_Upper_s ⟨[x1, x3, 1000], [], []⟩ [v6] [] [] ∧
              ((0 ≤ v6 ∧ v6 ≤ 1000000000000) ∧ ((decide ((0 : Int) ≤ x4) = true → ((decide ((x4 : Int) ≤ 1000000) = true → (∃ v7 : Int, Spec Try.prog whole_Upper_s ⟨[x4, 1000, x1], [], []⟩ [v7] [] [] ∧
                ((0 ≤ v7 ∧ v7 ≤ 1000000000000) ∧ (∃ v8 : Int, Spec Try.prog whole_Upper_s ⟨[x4, 1000, x0], [], []⟩ [v8] [] [] ∧
                ((0 ≤ v8 ∧ v8 ≤ 1000000000000) ∧ (∃ v9 : Int, Spec Try.prog etalonbase_Floor_s ⟨[(x0 * x2), 1000], [], []⟩ [v9] [] [] ∧
                (∃ v10 : Int, Spec Try.prog etalonbase_Ceil_s ⟨[(x1 * x3), 1000], [], []⟩ [v10] [] [] ∧
                ((((v5 : Int) == v9) = true → ((((v6 : Int) == v10) = true → (∃ v11 : Int, Spec Try.prog etalonbase_Ceil_s ⟨[(1000 * x4), x1], [], []⟩ [v11] [] [] ∧
                  (∃ v12 : Int, Spec Try.prog etalonbase_Ceil_s ⟨[(1000 * x4), x0], [], []⟩ [v12] [] [] ∧
                  ((((v7 : Int) == v11) = true → ((((v8 : Int) == v12) = true → ((decide ((1 : Int) ≤ v8) = true → ((decide ((v8 : Int) ≤ 100000) = true → (∃ v13 : Int, Spec Try.prog whole_Lower_s ⟨[x0, v8, 1000], [], []⟩ [v13] [] [] ∧
                      (∃ v14 : Int, Spec Try.prog whole_Upper_s ⟨[x1, v8, 1000], [], []⟩ [v14] [] [] ∧
                      ((0 ≤ v14 ∧ v14 ≤ 1000000000000) ∧ (∃ v15 : Int, Spec Try.prog whole_Lower_s ⟨[x0, (v8 - 1), 1000], [], []⟩ [v15] [] [] ∧
                      (∃ v16 : Int, Spec Try.prog whole_Upper_s ⟨[x1, (v8 - 1), 1000], [], []⟩ [v16] [] [] ∧
                      ((0 ≤ v16 ∧ v16 ≤ 1000000000000) ∧ ((decide ((x4 : Int) ≤ v13) = true → R (decide ((v15 : Int) < x4))) ∧
                      (decide ((x4 : Int) ≤ v13) = false → R (false)))))))))) ∧
                     (decide ((v8 : Int) ≤ 100000) = false → R (true)))) ∧
                    (decide ((1 : Int) ≤ v8) = false → R (true)))) ∧
                   (((v8 : Int) == v12) = false → R (false)))) ∧
                  (((v7 : Int) == v11) = false → R (false)))))) ∧
                 (((v6 : Int) == v10) = false → R (false)))) ∧
                (((v5 : Int) == v9) = false → R (false)))))))))) ∧
               (decide ((x4 : Int) ≤ 1000000) = false → (∃ v7 : Int, Spec Try.prog etalonbase_Floor_s ⟨[(x0 * x2), 1000], [], []⟩ [v7] [] [] ∧
                (∃ v8 : Int, Spec Try.prog etalonbase_Ceil_s ⟨[(x1 * x3), 1000], [], []⟩ [v8] [] [] ∧
                ((((v5 : Int) == v7) = true → ((((v6 : Int) == v8) = true → R (true)) ∧
                 (((v6 : Int) == v8) = false → R (false)))) ∧
                (((v5 : Int) == v7) = false → R (false)))))))) ∧
              (decide ((0 : Int) ≤ x4) = false → (∃ v7 : Int, Spec Try.prog etalonbase_Floor_s ⟨[(x0 * x2), 1000], [], []⟩ [v7] [] [] ∧
               (∃ v8 : Int, Spec Try.prog etalonbase_Ceil_s ⟨[(x1 * x3), 1000], [], []⟩ [v8] [] [] ∧
               ((((v5 : Int) == v7) = true → ((((v6 : Int) == v8) = true → R (true)) ∧
                (((v6 : Int) == v8) = false → R (false)))) ∧
               (((v5 : Int) == v7) = false → R (false))))))))))) ∧
             (decide ((x2 : Int) ≤ x3) = false → ((decide ((0 : Int) ≤ x4) = true → ((decide ((x4 : Int) ≤ 1000000) = true → (∃ v5 : Int, Spec Try.prog whole_Upper_s ⟨[x4, 1000, x1], [], []⟩ [v5] [] [] ∧
                ((0 ≤ v5 ∧ v5 ≤ 1000000000000) ∧ (∃ v6 : Int, Spec Try.prog whole_Upper_s ⟨[x4, 1000, x0], [], []⟩ [v6] [] [] ∧
                ((0 ≤ v6 ∧ v6 ≤ 1000000000000) ∧ (∃ v7 : Int, Spec Try.prog etalonbase_Ceil_s ⟨[(1000 * x4), x1], [], []⟩ [v7] [] [] ∧
                (∃ v8 : Int, Spec Try.prog etalonbase_Ceil_s ⟨[(1000 * x4), x0], [], []⟩ [v8] [] [] ∧
                ((((v5 : Int) == v7) = true → ((((v6 : Int) == v8) = true → ((decide ((1 : Int) ≤ v6) = true → ((decide ((v6 : Int) ≤ 100000) = true → (∃ v9 : Int, Spec Try.prog whole_Lower_s ⟨[x0, v6, 1000], [], []⟩ [v9] [] [] ∧
                    (∃ v10 : Int, Spec Try.prog whole_Upper_s ⟨[x1, v6, 1000], [], []⟩ [v10] [] [] ∧
                    ((0 ≤ v10 ∧ v10 ≤ 1000000000000) ∧ (∃ v11 : Int, Spec Try.prog whole_Lower_s ⟨[x0, (v6 - 1), 1000], [], []⟩ [v11] [] [] ∧
                    (∃ v12 : Int, Spec Try.prog whole_Upper_s ⟨[x1, (v6 - 1), 1000], [], []⟩ [v12] [] [] ∧
                    ((0 ≤ v12 ∧ v12 ≤ 1000000000000) ∧ ((decide ((x4 : Int) ≤ v9) = true → R (decide ((v11 : Int) < x4))) ∧
                    (decide ((x4 : Int) ≤ v9) = false → R (false)))))))))) ∧
                   (decide ((v6 : Int) ≤ 100000) = false → R (true)))) ∧
                  (decide ((1 : Int) ≤ v6) = false → R (true)))) ∧
                 (((v6 : Int) == v8) = false → R (false)))) ∧
                (((v5 : Int) == v7) = false → R (false)))))))))) ∧
               (decide ((x4 : Int) ≤ 1000000) = false → R (true)))) ∧
              (decide ((0 : Int) ≤ x4) = false → R (true)))))) ∧
            (decide ((x3 : Int) ≤ 100000) = false → ((decide ((0 : Int) ≤ x4) = true → ((decide ((x4 : Int) ≤ 1000000) = true → (∃ v5 : Int, Spec Try.prog whole_Upper_s ⟨[x4, 1000, x1], [], []⟩ [v5] [] [] ∧
               ((0 ≤ v5 ∧ v5 ≤ 1000000000000) ∧ (∃ v6 : Int, Spec Try.prog whole_Upper_s ⟨[x4, 1000, x0], [], []⟩ [v6] [] [] ∧
               ((0 ≤ v6 ∧ v6 ≤ 1000000000000) ∧ (∃ v7 : Int, Spec Try.prog etalonbase_Ceil_s ⟨[(1000 * x4), x1], [], []⟩ [v7] [] [] ∧
               (∃ v8 : Int, Spec Try.prog etalonbase_Ceil_s ⟨[(1000 * x4), x0], [], []⟩ [v8] [] [] ∧
               ((((v5 : Int) == v7) = true → ((((v6 : Int) == v8) = true → ((decide ((1 : Int) ≤ v6) = true → ((decide ((v6 : Int) ≤ 100000) = true → (∃ v9 : Int, Spec Try.prog whole_Lower_s ⟨[x0, v6, 1000], [], []⟩ [v9] [] [] ∧
                   (∃ v10 : Int, Spec Try.prog whole_Upper_s ⟨[x1, v6, 1000], [], []⟩ [v10] [] [] ∧
                   ((0 ≤ v10 ∧ v10 ≤ 1000000000000) ∧ (∃ v11 : Int, Spec Try.prog whole_Lower_s ⟨[x0, (v6 - 1), 1000], [], []⟩ [v11] [] [] ∧
                   (∃ v12 : Int, Spec Try.prog whole_Upper_s ⟨[x1, (v6 - 1), 1000], [], []⟩ [v12] [] [] ∧
                   ((0 ≤ v12 ∧ v12 ≤ 1000000000000) ∧ ((decide ((x4 : Int) ≤ v9) = true → R (decide ((v11 : Int) < x4))) ∧
                   (decide ((x4 : Int) ≤ v9) = false → R (false)))))))))) ∧
                  (decide ((v6 : Int) ≤ 100000) = false → R (true)))) ∧
                 (decide ((1 : Int) ≤ v6) = false → R (true)))) ∧
                (((v6 : Int) == v8) = false → R (false)))) ∧
               (((v5 : Int) == v7) = false → R (false)))))))))) ∧
              (decide ((x4 : Int) ≤ 1000000) = false → R (true)))) ∧
             (decide ((0 : Int) ≤ x4) = false → R (true)))))) ∧
           (decide ((0 : Int) ≤ x3) = false → ((decide ((0 : Int) ≤ x4) = true → ((decide ((x4 : Int) ≤ 1000000) = true → (∃ v5 : Int, Spec Try.prog whole_Upper_s ⟨[x4, 1000, x1], [], []⟩ [v5] [] [] ∧
              ((0 ≤ v5 ∧ v5 ≤ 1000000000000) ∧ (∃ v6 : Int, Spec Try.prog whole_Upper_s ⟨[x4, 1000, x0], [], []⟩ [v6] [] [] ∧
              ((0 ≤ v6 ∧ v6 ≤ 1000000000000) ∧ (∃ v7 : Int, Spec Try.prog etalonbase_Ceil_s ⟨[(1000 * x4), x1], [], []⟩ [v7] [] [] ∧
              (∃ v8 : Int, Spec Try.prog etalonbase_Ceil_s ⟨[(1000 * x4), x0], [], []⟩ [v8] [] [] ∧
              ((((v5 : Int) == v7) = true → ((((v6 : Int) == v8) = true → ((decide ((1 : Int) ≤ v6) = true → ((decide ((v6 : Int) ≤ 100000) = true → (∃ v9 : Int, Spec Try.prog whole_Lower_s ⟨[x0, v6, 1000], [], []⟩ [v9] [] [] ∧
                  (∃ v10 : Int, Spec Try.prog whole_Upper_s ⟨[x1, v6, 1000], [], []⟩ [v10] [] [] ∧
                  ((0 ≤ v10 ∧ v10 ≤ 1000000000000) ∧ (∃ v11 : Int, Spec Try.prog whole_Lower_s ⟨[x0, (v6 - 1), 1000], [], []⟩ [v11] [] [] ∧
                  (∃ v12 : Int, Spec Try.prog whole_Upper_s ⟨[x1, (v6 - 1), 1000], [], []⟩ [v12] [] [] ∧
                  ((0 ≤ v12 ∧ v12 ≤ 1000000000000) ∧ ((decide ((x4 : Int) ≤ v9) = true → R (decide ((v11 : Int) < x4))) ∧
                  (decide ((x4 : Int) ≤ v9) = false → R (false)))))))))) ∧
                 (decide ((v6 : Int) ≤ 100000) = false → R (true)))) ∧
                (decide ((1 : Int) ≤ v6) = false → R (true)))) ∧
               (((v6 : Int) == v8) = false → R (false)))) ∧
              (((v5 : Int) == v7) = false → R (false)))))))))) ∧
             (decide ((x4 : Int) ≤ 1000000) = false → R (true)))) ∧
            (decide ((0 : Int) ≤ x4) = false → R (true)))))) ∧
          (decide ((x2 : Int) ≤ 100000) = false → ((decide ((0 : Int) ≤ x4) = true → ((decide ((x4 : Int) ≤ 1000000) = true → (∃ v5 : Int, Spec Try.prog whole_Upper_s ⟨[x4, 1000, x1], [], []⟩ [v5] [] [] ∧
             ((0 ≤ v5 ∧ v5 ≤ 1000000000000) ∧ (∃ v6 : Int, Spec Try.prog whole_Upper_s ⟨[x4, 1000, x0], [], []⟩ [v6] [] [] ∧
             ((0 ≤ v6 ∧ v6 ≤ 1000000000000) ∧ (∃ v7 : Int, Spec Try.prog etalonbase_Ceil_s ⟨[(1000 * x4), x1], [], []⟩ [v7] [] [] ∧
             (∃ v8 : Int, Spec Try.prog etalonbase_Ceil_s ⟨[(1000 * x4), x0], [], []⟩ [v8] [] [] ∧
             ((((v5 : Int) == v7) = true → ((((v6 : Int) == v8) = true → ((decide ((1 : Int) ≤ v6) = true → ((decide ((v6 : Int) ≤ 100000) = true → (∃ v9 : Int, Spec Try.prog whole_Lower_s ⟨[x0, v6, 1000], [], []⟩ [v9] [] [] ∧
                 (∃ v10 : Int, Spec Try.prog whole_Upper_s ⟨[x1, v6, 1000], [], []⟩ [v10] [] [] ∧
                 ((0 ≤ v10 ∧ v10 ≤ 1000000000000) ∧ (∃ v11 : Int, Spec Try.prog whole_Lower_s ⟨[x0, (v6 - 1), 1000], [], []⟩ [v11] [] [] ∧
                 (∃ v12 : Int, Spec Try.prog whole_Upper_s ⟨[x1, (v6 - 1), 1000], [], []⟩ [v12] [] [] ∧
                 ((0 ≤ v12 ∧ v12 ≤ 1000000000000) ∧ ((decide ((x4 : Int) ≤ v9) = true → R (decide ((v11 : Int) < x4))) ∧
                 (decide ((x4 : Int) ≤ v9) = false → R (false)))))))))) ∧
                (decide ((v6 : Int) ≤ 100000) = false → R (true)))) ∧
               (decide ((1 : Int) ≤ v6) = false → R (true)))) ∧
              (((v6 : Int) == v8) = false → R (false)))) ∧
             (((v5 : Int) == v7) = false → R (false)))))))))) ∧
            (decide ((x4 : Int) ≤ 1000000) = false → R (true)))) ∧
           (decide ((0 : Int) ≤ x4) = false → R (true)))))) ∧
         (decide ((0 : Int) ≤ x2) = false → ((decide ((0 : Int) ≤ x4) = true → ((decide ((x4 : Int) ≤ 1000000) = true → (∃ v5 : Int, Spec Try.prog whole_Upper_s ⟨[x4, 1000, x1], [], []⟩ [v5] [] [] ∧
            ((0 ≤ v5 ∧ v5 ≤ 1000000000000) ∧ (∃ v6 : Int, Spec Try.prog whole_Upper_s ⟨[x4, 1000, x0], [], []⟩ [v6] [] [] ∧
            ((0 ≤ v6 ∧ v6 ≤ 1000000000000) ∧ (∃ v7 : Int, Spec Try.prog etalonbase_Ceil_s ⟨[(1000 * x4), x1], [], []⟩ [v7] [] [] ∧
            (∃ v8 : Int, Spec Try.prog etalonbase_Ceil_s ⟨[(1000 * x4), x0], [], []⟩ [v8] [] [] ∧
            ((((v5 : Int) == v7) = true → ((((v6 : Int) == v8) = true → ((decide ((1 : Int) ≤ v6) = true → ((decide ((v6 : Int) ≤ 100000) = true → (∃ v9 : Int, Spec Try.prog whole_Lower_s ⟨[x0, v6, 1000], [], []⟩ [v9] [] [] ∧
                (∃ v10 : Int, Spec Try.prog whole_Upper_s ⟨[x1, v6, 1000], [], []⟩ [v10] [] [] ∧
                ((0 ≤ v10 ∧ v10 ≤ 1000000000000) ∧ (∃ v11 : Int, Spec Try.prog whole_Lower_s ⟨[x0, (v6 - 1), 1000], [], []⟩ [v11] [] [] ∧
                (∃ v12 : Int, Spec Try.prog whole_Upper_s ⟨[x1, (v6 - 1), 1000], [], []⟩ [v12] [] [] ∧
                ((0 ≤ v12 ∧ v12 ≤ 1000000000000) ∧ ((decide ((x4 : Int) ≤ v9) = true → R (decide ((v11 : Int) < x4))) ∧
                (decide ((x4 : Int) ≤ v9) = false → R (false)))))))))) ∧
               (decide ((v6 : Int) ≤ 100000) = false → R (true)))) ∧
              (decide ((1 : Int) ≤ v6) = false → R (true)))) ∧
             (((v6 : Int) == v8) = false → R (false)))) ∧
            (((v5 : Int) == v7) = false → R (false)))))))))) ∧
           (decide ((x4 : Int) ≤ 1000000) = false → R (true)))) ∧
          (decide ((0 : Int) ≤ x4) = false → R (true)))))) ∧
        (decide ((x0 : Int) ≤ x1) = false → ((decide ((0 : Int) ≤ x2) = true → ((decide ((x2 : Int) ≤ 100000) = true → ((decide ((0 : Int) ≤ x3) = true → ((decide ((x3 : Int) ≤ 100000) = true → ((decide ((x2 : Int) ≤ x3) = true → R (true)) ∧
             (decide ((x2 : Int) ≤ x3) = false → R (true)))) ∧
            (decide ((x3 : Int) ≤ 100000) = false → R (true)))) ∧
           (decide ((0 : Int) ≤ x3) = false → R (true)))) ∧
          (decide ((x2 : Int) ≤ 100000) = false → R (true)))) ∧
         (decide ((0 : Int) ≤ x2) = false → R (true)))))) ∧
       (decide ((x1 : Int) ≤ 1000000) = false → ((decide ((0 : Int) ≤ x2) = true → ((decide ((x2 : Int) ≤ 100000) = true → ((decide ((0 : Int) ≤ x3) = true → ((decide ((x3 : Int) ≤ 100000) = true → ((decide ((x2 : Int) ≤ x3) = true → R (true)) ∧
            (decide ((x2 : Int) ≤ x3) = false → R (true)))) ∧
           (decide ((x3 : Int) ≤ 100000) = false → R (true)))) ∧
          (decide ((0 : Int) ≤ x3) = false → R (true)))) ∧
         (decide ((x2 : Int) ≤ 100000) = false → R (true)))) ∧
        (decide ((0 : Int) ≤ x2) = false → R (true)))))) ∧
      (decide ((1 : Int) ≤ x1) = false → ((decide ((0 : Int) ≤ x2) = true → ((decide ((x2 : Int) ≤ 100000) = true → ((decide ((0 : Int) ≤ x3) = true → ((decide ((x3 : Int) ≤ 100000) = true → ((decide ((x2 : Int) ≤ x3) = true → R (true)) ∧
           (decide ((x2 : Int) ≤ x3) = false → R (true)))) ∧
          (decide ((x3 : Int) ≤ 100000) = false → R (true)))) ∧
         (decide ((0 : Int) ≤ x3) = false → R (true)))) ∧
        (decide ((x2 : Int) ≤ 100000) = false → R (true)))) ∧
       (decide ((0 : Int) ≤ x2) = false → R (true)))))) ∧
     (decide ((x0 : Int) ≤ 1000000) = false → ((decide ((0 : Int) ≤ x2) = true → ((decide ((x2 : Int) ≤ 100000) = true → ((decide ((0 : Int) ≤ x3) = true → ((decide ((x3 : Int) ≤ 100000) = true → ((decide ((x2 : Int) ≤ x3) = true → R (true)) ∧
          (decide ((x2 : Int) ≤ x3) = false → R (true)))) ∧
         (decide ((x3 : Int) ≤ 100000) = false → R (true)))) ∧
        (decide ((0 : Int) ≤ x3) = false → R (true)))) ∧
       (decide ((x2 : Int) ≤ 100000) = false → R (true)))) ∧
      (decide ((0 : Int) ≤ x2) = false → R (true)))))) ∧
    (decide ((1 : Int) ≤ x0) = false → ((decide ((0 : Int) ≤ x2) = true → ((decide ((x2 : Int) ≤ 100000) = true → ((decide ((0 : Int) ≤ x3) = true → ((decide ((x3 : Int) ≤ 100000) = true → ((decide ((x2 : Int) ≤ x3) = true → R (true)) ∧
         (decide ((x2 : Int) ≤ x3) = false → R (true)))) ∧
        (decide ((x3 : Int) ≤ 100000) = false → R (true)))) ∧
       (decide ((0 : Int) ≤ x3) = false → R (true)))) ∧
      (decide ((x2 : Int) ≤ 100000) = false → R (true)))) ∧
     (decide ((0 : Int) ≤ x2) = false → R (true)))))) ∧
   (u0 = false → R (false))))) :
    ∃ u0 : Bool, R u0 ∧ Spec Try.prog etalonlaw08_GrowRates_s ⟨[x0, x1, x2, x3, x4], [], []⟩ [] [u0] [] :=
  Eq.mp (by kernel_rfl) (exV_of (K := fun d => app3 etalonlaw08_GrowRates_s.out R d ∧ Spec Try.prog etalonlaw08_GrowRates_s ⟨[x0, x1, x2, x3, x4], [], []⟩ d.1 d.2.1 d.2.2) (tree_at mixed names S1_ok (S := S1 Try.prog) (lf := 100000) (d := 60) etalonlaw08_GrowRates_s gr_t { ivs := [(0, (-9223372036854775808), 9223372036854775807), (1, (-9223372036854775808), 9223372036854775807), (2, (-9223372036854775808), 9223372036854775807), (3, (-9223372036854775808), 9223372036854775807), (4, (-9223372036854775808), 9223372036854775807)], aivs := [] } ⟨[x0, x1, x2, x3, x4], [], []⟩ rfl (by kernel_rfl) (by kernel_rfl) (chk_split _ [true, true, true, true, true, true, true, true, true, true, true] gr_p0 (chk_split _ [true, true, true, true, true, true, true, true, true, true] gr_p1 (chk_split _ [true, true, true, true, true, true, true, true, true] gr_p2 (chk_split _ [true, true, true, true, true, true, true, true] gr_p3 (chk_split _ [true, true, true, true, true, true, true] gr_p4 (chk_split _ [true, true, true, true, true] gr_p5 (chk_split _ [true, true, true] gr_p6 gr_p7))))))) ⟨(fc r0 (fc r1 (fc r2 (fc r3 (fc r4 fz))))), fz, fz, fz⟩ (R := fun d => app3 etalonlaw08_GrowRates_s.out R d) (Eq.mp (by kernel_rfl) H)))

theorem dv1 {x y d : Int} (hx : 0 ≤ x ∧ x ≤ 1000000) (hy : 0 ≤ y ∧ y ≤ 100000) (hd : 1 ≤ d ∧ d ≤ 1000000) : DvIn x y d :=

  DvIn_by (X := 1000000) (Y := 100000) (by omega) (by omega) (by omega) (by omega) (by omega) (by omega) (by decide) (by decide) (by decide)

theorem upper_k {x d : Int} (h : DvIn x 1000 d) : Spec Try.prog whole_Upper_s ⟨[x, 1000, d], [], []⟩ [cdiv (1000 * x) d] [] [] := by

  have := upper_s h

  rwa [Int.mul_comm] at this

theorem cdiv_rng {n d M : Int} (hd : 1 ≤ d) (h0 : 0 ≤ n) (h1 : n ≤ M) : 0 ≤ cdiv n d ∧ cdiv n d ≤ M := by

  have h := ediv_abs' (n := -n) (d := d) (M := M) (by omega) (by omega) (by omega) (by omega)

  have h2 : -n / d ≤ 0 := by

    have : -n / d < 1 := by rw [Int.ediv_lt_iff_lt_mul (by omega)]; omega

    omega

  unfold cdiv

  omega

theorem mul_rng {x y X Y : Int} (hx : 0 ≤ x ∧ x ≤ X) (hy : 0 ≤ y ∧ y ≤ Y) : 0 ≤ x * y ∧ x * y ≤ X * Y :=

  ⟨Int.mul_nonneg hx.1 hy.1, Int.mul_le_mul hx.2 hy.2 hy.1 (by omega)⟩

theorem first_sure {x0 x4 : Int} (h : 1 ≤ x0) : x4 ≤ x0 * cdiv (1000 * x4) x0 / 1000 := by

  rw [Int.le_ediv_iff_mul_le (by decide)]

  have := (cdiv_spec' (1000 * x4) (d := x0) (by omega)).1

  omega

theorem not_before {x0 x4 : Int} (h : 1 ≤ x0) : x0 * (cdiv (1000 * x4) x0 - 1) / 1000 < x4 := by

  rw [Int.ediv_lt_iff_lt_mul (by decide)]

  have := (cdiv_spec' (1000 * x4) (d := x0) (by omega)).2

  omega

set_option maxHeartbeats 8000000 in

theorem rates {x0 x1 x2 x3 x4 : Int} (r0 : (-9223372036854775808) ≤ x0 ∧ x0 ≤ 9223372036854775807) (r1 : (-9223372036854775808) ≤ x1 ∧ x1 ≤ 9223372036854775807) (r2 : (-9223372036854775808) ≤ x2 ∧ x2 ≤ 9223372036854775807) (r3 : (-9223372036854775808) ≤ x3 ∧ x3 ≤ 9223372036854775807) (r4 : (-9223372036854775808) ≤ x4 ∧ x4 ≤ 9223372036854775807) :

    Spec Try.prog etalonlaw08_GrowRates_s ⟨[x0, x1, x2, x3, x4], [], []⟩ [] [true] [] := by

  obtain ⟨a0, rfl, ha⟩ := awake

  obtain ⟨u, rfl, hs⟩ : ∃ u0 : Bool, u0 = true ∧ Spec Try.prog etalonlaw08_GrowRates_s ⟨[x0, x1, x2, x3, x4], [], []⟩ [] [u0] [] := by

    refine gr r0 r1 r2 r3 r4 (R := (· = true)) ⟨true, ha, ?_⟩

    repeat' (first

      | exact rfl

      | apply And.intro

      | (intro h; simp only [decide_eq_true_eq, decide_eq_false_iff_not, beq_iff_eq, beq_eq_false_iff_ne, ne_eq, not_true_eq_false, Bool.true_eq_false, Bool.false_eq_true] at h; done)

      | (intro h; simp only [decide_eq_true_eq, decide_eq_false_iff_not, beq_iff_eq, beq_eq_false_iff_ne, ne_eq] at h)

      | intro h

      | refine ⟨_, lower_s (dv1 (by omega) (by omega) (by omega)), ?_⟩

      | refine ⟨_, upper_k (dv1 (by omega) (by omega) (by omega)), cdiv_rng (by omega) (by omega) (by omega), ?_⟩

      | refine ⟨_, upper_s (dv1 (by omega) (by omega) (by omega)), cdiv_rng (by omega) (mul_rng (X := 1000000) (Y := 100000) (by omega) (by omega)).1 (Int.le_trans (mul_rng (X := 1000000) (Y := 100000) (by omega) (by omega)).2 (by decide)), ?_⟩

      | refine ⟨_, floor_s (by have := mul_rng (x := x0) (y := x2) (X := 1000000) (Y := 100000) (by omega) (by omega); omega) (by omega), ?_⟩

      | refine ⟨_, ceil_s (by omega) (by omega), ?_⟩

      | refine ⟨_, ceil_s (by have := mul_rng (x := x1) (y := x3) (X := 1000000) (Y := 100000) (by omega) (by omega); omega) (by omega), ?_⟩

      | (simp only [decide_eq_true_eq]; exact not_before (by omega))

      | (exfalso; exact absurd (first_sure (x0 := x0) (x4 := x4) (by omega)) (by assumption))

      | (exfalso; omega)

      | fail)

  exact hs

end Go.Proofs.Ytnkajbaejojcgaa.Ev
