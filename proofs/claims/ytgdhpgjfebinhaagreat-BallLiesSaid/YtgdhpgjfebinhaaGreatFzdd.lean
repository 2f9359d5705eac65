/- BallLies: the law's walk, the point beyond. -/
import Derived.Test.YtgdhpgjfebinhaaGreatFzd
namespace Go.Proofs.YtgdhpgjfebinhaaGreat.Ev
set_option linter.unusedSimpArgs false
open Go Go.RowKit
set_option linter.unusedVariables false
set_option maxRecDepth 100000
def blid_t : Tr :=
  (.call etalonlaw01_awake_s ⟨[], [], []⟩ ⟨[], [(.var 0)], []⟩ ⟨4, [], [], [none, none, none], (.bool (.var 0)), []⟩
  (.ite (.var 0)
  (.call _etalonlaw01_Whole__ball_s ⟨[(.var 0), (.var 1), (.var 2)], [], []⟩ ⟨[(.var 0), (.var 1), (.var 2), (.var 8), (.var 9), (.var 10)], [], []⟩ ⟨5, [(.agg [(.int .i64 (.var 0)), (.int .i64 (.var 1)), (.int .i64 (.var 2))])], [], [none, none, none], (.agg [(.complex .f64 (.var 8) (.var 9)), (.int .i64 (.var 10))]), []⟩
   (.call _etalonlaw01_Whole__ball_s ⟨[(.var 3), (.var 4), (.var 5)], [], []⟩ ⟨[(.var 3), (.var 4), (.var 5), (.var 11), (.var 12), (.var 13)], [], []⟩ ⟨5, [(.agg [(.int .i64 (.var 3)), (.int .i64 (.var 4)), (.int .i64 (.var 5))])], [], [none, none, none], (.agg [(.complex .f64 (.var 11) (.var 12)), (.int .i64 (.var 13))]), []⟩
   (.call ball_Contains_s ⟨[(.var 8), (.var 9), (.var 10), (.toF .f64 (.bin .maxI (.lit (-9007199254740992)) (.bin .minI (.lit 9007199254740992) (.var 6)))), (.toF .f64 (.bin .maxI (.lit (-9007199254740992)) (.bin .minI (.lit 9007199254740992) (.var 7))))], [], []⟩ ⟨[(.var 8), (.var 9), (.var 10), (.toF .f64 (.bin .maxI (.lit (-9007199254740992)) (.bin .minI (.lit 9007199254740992) (.var 6)))), (.toF .f64 (.bin .maxI (.lit (-9007199254740992)) (.bin .minI (.lit 9007199254740992) (.var 7)))), (.var 14)], [(.var 1)], []⟩ ⟨6, [(.agg [(.complex .f64 (.var 8) (.var 9)), (.int .i64 (.var 10))]), (.complex .f64 (.toF .f64 (.bin .maxI (.lit (-9007199254740992)) (.bin .minI (.lit 9007199254740992) (.var 6)))) (.toF .f64 (.bin .maxI (.lit (-9007199254740992)) (.bin .minI (.lit 9007199254740992) (.var 7)))))], [], [none, none, none, none, none], (.tuple [(.bool (.var 1)), (.int .i64 (.var 14))]), []⟩
   (.call _etalonlaw01_Whole__err_s ⟨[(.var 0), (.var 1), (.var 2)], [], []⟩ ⟨[(.var 0), (.var 1), (.var 2), (.var 15)], [], []⟩ ⟨9, [(.agg [(.int .i64 (.var 0)), (.int .i64 (.var 1)), (.int .i64 (.var 2))])], [], [none, none, none, none, none], (.int .i64 (.var 15)), []⟩
   (.ite (.icmp .eql (.var 15) (.lit 0))
   (.ite (.icmp .eql (.var 14) (.lit 2))
    (.ite (.var 1)
     (.ret ⟨[], [(.lit false)], []⟩ [])
     (.call ball_Meets_s ⟨[(.var 8), (.var 9), (.var 10), (.var 11), (.var 12), (.var 13)], [], []⟩ ⟨[(.var 8), (.var 9), (.var 10), (.var 11), (.var 12), (.var 13), (.var 16)], [(.var 2)], []⟩ ⟨13, [(.agg [(.complex .f64 (.var 8) (.var 9)), (.int .i64 (.var 10))]), (.agg [(.complex .f64 (.var 11) (.var 12)), (.int .i64 (.var 13))])], [], [none, none, none, none, none], (.tuple [(.bool (.var 2)), (.int .i64 (.var 16))]), []⟩
      (.call ball_Inside_s ⟨[(.var 8), (.var 9), (.var 10), (.var 11), (.var 12), (.var 13)], [], []⟩ ⟨[(.var 8), (.var 9), (.var 10), (.var 11), (.var 12), (.var 13), (.var 17)], [(.var 3)], []⟩ ⟨14, [(.agg [(.complex .f64 (.var 8) (.var 9)), (.int .i64 (.var 10))]), (.agg [(.complex .f64 (.var 11) (.var 12)), (.int .i64 (.var 13))])], [], [none, none, none, none, none], (.tuple [(.bool (.var 3)), (.int .i64 (.var 17))]), []⟩
      (.call ball_Hull_s ⟨[(.var 8), (.var 9), (.var 10), (.var 11), (.var 12), (.var 13)], [], []⟩ ⟨[(.var 8), (.var 9), (.var 10), (.var 11), (.var 12), (.var 13), (.var 18), (.var 19), (.var 20), (.var 21)], [], []⟩ ⟨15, [(.agg [(.complex .f64 (.var 8) (.var 9)), (.int .i64 (.var 10))]), (.agg [(.complex .f64 (.var 11) (.var 12)), (.int .i64 (.var 13))])], [], [none, none, none, none, none], (.tuple [(.agg [(.complex .f64 (.var 18) (.var 19)), (.int .i64 (.var 20))]), (.int .i64 (.var 21))]), []⟩
      (.call _etalonlaw01_Whole__two_s ⟨[(.var 0), (.var 1), (.var 2), (.var 3), (.var 4), (.var 5)], [], []⟩ ⟨[(.var 0), (.var 1), (.var 2), (.var 3), (.var 4), (.var 5), (.var 22)], [], []⟩ ⟨16, [(.agg [(.int .i64 (.var 0)), (.int .i64 (.var 1)), (.int .i64 (.var 2))]), (.agg [(.int .i64 (.var 3)), (.int .i64 (.var 4)), (.int .i64 (.var 5))])], [], [none, none, none, none, none, none], (.int .i64 (.var 22)), []⟩
      (.ite (.icmp .eql (.var 22) (.lit 0))
      (.call etalonref01_Of_s ⟨[(.var 8), (.var 9), (.var 10)], [], []⟩ ⟨[(.var 8), (.var 9), (.var 10), (.var 23), (.var 24), (.var 25)], [], []⟩ ⟨12, [(.agg [(.complex .f64 (.var 8) (.var 9)), (.int .i64 (.var 10))])], [], [none, none, none, none, none, none], (.agg [(.int .i64 (.var 23)), (.int .i64 (.var 24)), (.int .i64 (.var 25))]), []⟩
       (.call etalonref01_Of_s ⟨[(.var 11), (.var 12), (.var 13)], [], []⟩ ⟨[(.var 11), (.var 12), (.var 13), (.var 26), (.var 27), (.var 28)], [], []⟩ ⟨12, [(.agg [(.complex .f64 (.var 11) (.var 12)), (.int .i64 (.var 13))])], [], [none, none, none, none, none, none], (.agg [(.int .i64 (.var 26)), (.int .i64 (.var 27)), (.int .i64 (.var 28))]), []⟩
       (.call etalonref01_Hull_s ⟨[(.var 23), (.var 24), (.var 25), (.var 26), (.var 27), (.var 28)], [], []⟩ ⟨[(.var 23), (.var 24), (.var 25), (.var 26), (.var 27), (.var 28), (.var 29), (.var 30), (.var 31), (.var 32)], [], []⟩ ⟨18, [(.agg [(.int .i64 (.var 23)), (.int .i64 (.var 24)), (.int .i64 (.var 25))]), (.agg [(.int .i64 (.var 26)), (.int .i64 (.var 27)), (.int .i64 (.var 28))])], [], [none, none, none, none, none, none], (.tuple [(.agg [(.int .i64 (.var 29)), (.int .i64 (.var 30)), (.int .i64 (.var 31))]), (.int .i64 (.var 32))]), []⟩
       (.ite (.icmp .eql (.var 16) (.lit 0))
       (.ite (.icmp .eql (.var 17) (.lit 0))
        (.call etalonref01_Of_s ⟨[(.var 8), (.var 9), (.var 10)], [], []⟩ ⟨[(.var 8), (.var 9), (.var 10), (.var 33), (.var 34), (.var 35)], [], []⟩ ⟨12, [(.agg [(.complex .f64 (.var 8) (.var 9)), (.int .i64 (.var 10))])], [], [none, none, none, none, none, none, none], (.agg [(.int .i64 (.var 33)), (.int .i64 (.var 34)), (.int .i64 (.var 35))]), []⟩
         (.call etalonref01_Of_s ⟨[(.var 11), (.var 12), (.var 13)], [], []⟩ ⟨[(.var 11), (.var 12), (.var 13), (.var 36), (.var 37), (.var 38)], [], []⟩ ⟨12, [(.agg [(.complex .f64 (.var 11) (.var 12)), (.int .i64 (.var 13))])], [], [none, none, none, none, none, none, none], (.agg [(.int .i64 (.var 36)), (.int .i64 (.var 37)), (.int .i64 (.var 38))]), []⟩
         (.call etalonref01_Meets_s ⟨[(.var 33), (.var 34), (.var 35), (.var 36), (.var 37), (.var 38)], [], []⟩ ⟨[(.var 33), (.var 34), (.var 35), (.var 36), (.var 37), (.var 38)], [(.var 4)], []⟩ ⟨19, [(.agg [(.int .i64 (.var 33)), (.int .i64 (.var 34)), (.int .i64 (.var 35))]), (.agg [(.int .i64 (.var 36)), (.int .i64 (.var 37)), (.int .i64 (.var 38))])], [], [none, none, none, none, none, none, none], (.bool (.var 4)), []⟩
         (.ite (.var 2)
         (.ite (.var 4)
          (.call etalonref01_Inside_s ⟨[(.var 33), (.var 34), (.var 35), (.var 36), (.var 37), (.var 38)], [], []⟩ ⟨[(.var 33), (.var 34), (.var 35), (.var 36), (.var 37), (.var 38)], [(.var 5)], []⟩ ⟨20, [(.agg [(.int .i64 (.var 33)), (.int .i64 (.var 34)), (.int .i64 (.var 35))]), (.agg [(.int .i64 (.var 36)), (.int .i64 (.var 37)), (.int .i64 (.var 38))])], [], [none, none, none, none, none, none, none], (.bool (.var 5)), []⟩
           (.ite (.var 3)
           (.ite (.var 5)
            (.call etalonlaw01_is_s ⟨[(.var 18), (.var 19), (.var 20), (.var 21), (.var 29), (.var 30), (.var 31), (.var 32)], [], []⟩ ⟨[(.var 18), (.var 19), (.var 20), (.var 21), (.var 29), (.var 30), (.var 31), (.var 32)], [(.var 6)], []⟩ ⟨17, [(.agg [(.complex .f64 (.var 18) (.var 19)), (.int .i64 (.var 20))]), (.int .i64 (.var 21)), (.agg [(.int .i64 (.var 29)), (.int .i64 (.var 30)), (.int .i64 (.var 31))]), (.int .i64 (.var 32))], [], [none, none, none, none, none, none, none], (.bool (.var 6)), []⟩
             (.ite (.var 6)
             (.call ball_Inside_s ⟨[(.var 8), (.var 9), (.var 10), (.var 18), (.var 19), (.var 20)], [], []⟩ ⟨[(.var 8), (.var 9), (.var 10), (.var 18), (.var 19), (.var 20), (.var 39)], [(.var 7)], []⟩ ⟨14, [(.agg [(.complex .f64 (.var 8) (.var 9)), (.int .i64 (.var 10))]), (.agg [(.complex .f64 (.var 18) (.var 19)), (.int .i64 (.var 20))])], [], [none, none, none, none, none, none, none], (.tuple [(.bool (.var 7)), (.int .i64 (.var 39))]), []⟩
              (.call ball_Inside_s ⟨[(.var 11), (.var 12), (.var 13), (.var 18), (.var 19), (.var 20)], [], []⟩ ⟨[(.var 11), (.var 12), (.var 13), (.var 18), (.var 19), (.var 20), (.var 40)], [(.var 8)], []⟩ ⟨14, [(.agg [(.complex .f64 (.var 11) (.var 12)), (.int .i64 (.var 13))]), (.agg [(.complex .f64 (.var 18) (.var 19)), (.int .i64 (.var 20))])], [], [none, none, none, none, none, none, none], (.tuple [(.bool (.var 8)), (.int .i64 (.var 40))]), []⟩
              (.ite (.icmp .eql (.var 32) (.lit 0))
              (.ite (.icmp .eql (.var 39) (.lit 0))
               (.ite (.icmp .eql (.var 40) (.lit 0))
                (.ite (.var 7)
                 (.ret ⟨[], [(.var 8)], []⟩ [])
                 (.ret ⟨[], [(.lit false)], []⟩ []))
                (.ret ⟨[], [(.lit false)], []⟩ []))
               (.ret ⟨[], [(.lit false)], []⟩ []))
              (.ret ⟨[], [(.lit true)], []⟩ []))))
             (.ret ⟨[], [(.lit false)], []⟩ [])))
            (.ret ⟨[], [(.lit false)], []⟩ []))
           (.ite (.var 5)
            (.ret ⟨[], [(.lit false)], []⟩ [])
            (.call etalonlaw01_is_s ⟨[(.var 18), (.var 19), (.var 20), (.var 21), (.var 29), (.var 30), (.var 31), (.var 32)], [], []⟩ ⟨[(.var 18), (.var 19), (.var 20), (.var 21), (.var 29), (.var 30), (.var 31), (.var 32)], [(.var 6)], []⟩ ⟨17, [(.agg [(.complex .f64 (.var 18) (.var 19)), (.int .i64 (.var 20))]), (.int .i64 (.var 21)), (.agg [(.int .i64 (.var 29)), (.int .i64 (.var 30)), (.int .i64 (.var 31))]), (.int .i64 (.var 32))], [], [none, none, none, none, none, none, none], (.bool (.var 6)), []⟩
             (.ite (.var 6)
             (.call ball_Inside_s ⟨[(.var 8), (.var 9), (.var 10), (.var 18), (.var 19), (.var 20)], [], []⟩ ⟨[(.var 8), (.var 9), (.var 10), (.var 18), (.var 19), (.var 20), (.var 39)], [(.var 7)], []⟩ ⟨14, [(.agg [(.complex .f64 (.var 8) (.var 9)), (.int .i64 (.var 10))]), (.agg [(.complex .f64 (.var 18) (.var 19)), (.int .i64 (.var 20))])], [], [none, none, none, none, none, none, none], (.tuple [(.bool (.var 7)), (.int .i64 (.var 39))]), []⟩
              (.call ball_Inside_s ⟨[(.var 11), (.var 12), (.var 13), (.var 18), (.var 19), (.var 20)], [], []⟩ ⟨[(.var 11), (.var 12), (.var 13), (.var 18), (.var 19), (.var 20), (.var 40)], [(.var 8)], []⟩ ⟨14, [(.agg [(.complex .f64 (.var 11) (.var 12)), (.int .i64 (.var 13))]), (.agg [(.complex .f64 (.var 18) (.var 19)), (.int .i64 (.var 20))])], [], [none, none, none, none, none, none, none], (.tuple [(.bool (.var 8)), (.int .i64 (.var 40))]), []⟩
              (.ite (.icmp .eql (.var 32) (.lit 0))
              (.ite (.icmp .eql (.var 39) (.lit 0))
               (.ite (.icmp .eql (.var 40) (.lit 0))
                (.ite (.var 7)
                 (.ret ⟨[], [(.var 8)], []⟩ [])
                 (.ret ⟨[], [(.lit false)], []⟩ []))
                (.ret ⟨[], [(.lit false)], []⟩ []))
               (.ret ⟨[], [(.lit false)], []⟩ []))
              (.ret ⟨[], [(.lit true)], []⟩ []))))
             (.ret ⟨[], [(.lit false)], []⟩ []))))))
          (.ret ⟨[], [(.lit false)], []⟩ []))
         (.ite (.var 4)
          (.ret ⟨[], [(.lit false)], []⟩ [])
          (.call etalonref01_Inside_s ⟨[(.var 33), (.var 34), (.var 35), (.var 36), (.var 37), (.var 38)], [], []⟩ ⟨[(.var 33), (.var 34), (.var 35), (.var 36), (.var 37), (.var 38)], [(.var 5)], []⟩ ⟨20, [(.agg [(.int .i64 (.var 33)), (.int .i64 (.var 34)), (.int .i64 (.var 35))]), (.agg [(.int .i64 (.var 36)), (.int .i64 (.var 37)), (.int .i64 (.var 38))])], [], [none, none, none, none, none, none, none], (.bool (.var 5)), []⟩
           (.ite (.var 3)
           (.ite (.var 5)
            (.call etalonlaw01_is_s ⟨[(.var 18), (.var 19), (.var 20), (.var 21), (.var 29), (.var 30), (.var 31), (.var 32)], [], []⟩ ⟨[(.var 18), (.var 19), (.var 20), (.var 21), (.var 29), (.var 30), (.var 31), (.var 32)], [(.var 6)], []⟩ ⟨17, [(.agg [(.complex .f64 (.var 18) (.var 19)), (.int .i64 (.var 20))]), (.int .i64 (.var 21)), (.agg [(.int .i64 (.var 29)), (.int .i64 (.var 30)), (.int .i64 (.var 31))]), (.int .i64 (.var 32))], [], [none, none, none, none, none, none, none], (.bool (.var 6)), []⟩
             (.ite (.var 6)
             (.call ball_Inside_s ⟨[(.var 8), (.var 9), (.var 10), (.var 18), (.var 19), (.var 20)], [], []⟩ ⟨[(.var 8), (.var 9), (.var 10), (.var 18), (.var 19), (.var 20), (.var 39)], [(.var 7)], []⟩ ⟨14, [(.agg [(.complex .f64 (.var 8) (.var 9)), (.int .i64 (.var 10))]), (.agg [(.complex .f64 (.var 18) (.var 19)), (.int .i64 (.var 20))])], [], [none, none, none, none, none, none, none], (.tuple [(.bool (.var 7)), (.int .i64 (.var 39))]), []⟩
              (.call ball_Inside_s ⟨[(.var 11), (.var 12), (.var 13), (.var 18), (.var 19), (.var 20)], [], []⟩ ⟨[(.var 11), (.var 12), (.var 13), (.var 18), (.var 19), (.var 20), (.var 40)], [(.var 8)], []⟩ ⟨14, [(.agg [(.complex .f64 (.var 11) (.var 12)), (.int .i64 (.var 13))]), (.agg [(.complex .f64 (.var 18) (.var 19)), (.int .i64 (.var 20))])], [], [none, none, none, none, none, none, none], (.tuple [(.bool (.var 8)), (.int .i64 (.var 40))]), []⟩
              (.ite (.icmp .eql (.var 32) (.lit 0))
              (.ite (.icmp .eql (.var 39) (.lit 0))
               (.ite (.icmp .eql (.var 40) (.lit 0))
                (.ite (.var 7)
                 (.ret ⟨[], [(.var 8)], []⟩ [])
                 (.ret ⟨[], [(.lit false)], []⟩ []))
                (.ret ⟨[], [(.lit false)], []⟩ []))
               (.ret ⟨[], [(.lit false)], []⟩ []))
              (.ret ⟨[], [(.lit true)], []⟩ []))))
             (.ret ⟨[], [(.lit false)], []⟩ [])))
            (.ret ⟨[], [(.lit false)], []⟩ []))
           (.ite (.var 5)
            (.ret ⟨[], [(.lit false)], []⟩ [])
            (.call etalonlaw01_is_s ⟨[(.var 18), (.var 19), (.var 20), (.var 21), (.var 29), (.var 30), (.var 31), (.var 32)], [], []⟩ ⟨[(.var 18), (.var 19), (.var 20), (.var 21), (.var 29), (.var 30), (.var 31), (.var 32)], [(.var 6)], []⟩ ⟨17, [(.agg [(.complex .f64 (.var 18) (.var 19)), (.int .i64 (.var 20))]), (.int .i64 (.var 21)), (.agg [(.int .i64 (.var 29)), (.int .i64 (.var 30)), (.int .i64 (.var 31))]), (.int .i64 (.var 32))], [], [none, none, none, none, none, none, none], (.bool (.var 6)), []⟩
             (.ite (.var 6)
             (.call ball_Inside_s ⟨[(.var 8), (.var 9), (.var 10), (.var 18), (.var 19), (.var 20)], [], []⟩ ⟨[(.var 8), (.var 9), (.var 10), (.var 18), (.var 19), (.var 20), (.var 39)], [(.var 7)], []⟩ ⟨14, [(.agg [(.complex .f64 (.var 8) (.var 9)), (.int .i64 (.var 10))]), (.agg [(.complex .f64 (.var 18) (.var 19)), (.int .i64 (.var 20))])], [], [none, none, none, none, none, none, none], (.tuple [(.bool (.var 7)), (.int .i64 (.var 39))]), []⟩
              (.call ball_Inside_s ⟨[(.var 11), (.var 12), (.var 13), (.var 18), (.var 19), (.var 20)], [], []⟩ ⟨[(.var 11), (.var 12), (.var 13), (.var 18), (.var 19), (.var 20), (.var 40)], [(.var 8)], []⟩ ⟨14, [(.agg [(.complex .f64 (.var 11) (.var 12)), (.int .i64 (.var 13))]), (.agg [(.complex .f64 (.var 18) (.var 19)), (.int .i64 (.var 20))])], [], [none, none, none, none, none, none, none], (.tuple [(.bool (.var 8)), (.int .i64 (.var 40))]), []⟩
              (.ite (.icmp .eql (.var 32) (.lit 0))
              (.ite (.icmp .eql (.var 39) (.lit 0))
               (.ite (.icmp .eql (.var 40) (.lit 0))
                (.ite (.var 7)
                 (.ret ⟨[], [(.var 8)], []⟩ [])
                 (.ret ⟨[], [(.lit false)], []⟩ []))
                (.ret ⟨[], [(.lit false)], []⟩ []))
               (.ret ⟨[], [(.lit false)], []⟩ []))
              (.ret ⟨[], [(.lit true)], []⟩ []))))
             (.ret ⟨[], [(.lit false)], []⟩ [])))))))))))
        (.ret ⟨[], [(.lit false)], []⟩ []))
       (.ret ⟨[], [(.lit false)], []⟩ [])))))
      (.ite (.icmp .eql (.var 16) (.var 22))
       (.ite (.icmp .eql (.var 17) (.var 22))
        (.ite (.var 2)
         (.ret ⟨[], [(.lit false)], []⟩ [])
         (.ite (.var 3)
          (.ret ⟨[], [(.lit false)], []⟩ [])
          (.call etalonlaw01_is_s ⟨[(.var 18), (.var 19), (.var 20), (.var 21), (.lit 0), (.lit 0), (.lit 0), (.var 22)], [], []⟩ ⟨[(.var 18), (.var 19), (.var 20), (.var 21), (.lit 0), (.lit 0), (.lit 0), (.var 22)], [(.var 4)], []⟩ ⟨17, [(.agg [(.complex .f64 (.var 18) (.var 19)), (.int .i64 (.var 20))]), (.int .i64 (.var 21)), (.agg [(.int .i64 (.lit 0)), (.int .i64 (.lit 0)), (.int .i64 (.lit 0))]), (.int .i64 (.var 22))], [], [none, none, none, none, none, none], (.bool (.var 4)), []⟩
           (.ret ⟨[], [(.var 4)], []⟩ []))))
        (.ret ⟨[], [(.lit false)], []⟩ []))
       (.ret ⟨[], [(.lit false)], []⟩ []))))))))
    (.ret ⟨[], [(.lit false)], []⟩ []))
   (.ite (.icmp .eql (.var 14) (.var 15))
    (.ite (.var 1)
     (.ret ⟨[], [(.lit false)], []⟩ [])
     (.call ball_Meets_s ⟨[(.var 8), (.var 9), (.var 10), (.var 11), (.var 12), (.var 13)], [], []⟩ ⟨[(.var 8), (.var 9), (.var 10), (.var 11), (.var 12), (.var 13), (.var 16)], [(.var 2)], []⟩ ⟨13, [(.agg [(.complex .f64 (.var 8) (.var 9)), (.int .i64 (.var 10))]), (.agg [(.complex .f64 (.var 11) (.var 12)), (.int .i64 (.var 13))])], [], [none, none, none, none, none], (.tuple [(.bool (.var 2)), (.int .i64 (.var 16))]), []⟩
      (.call ball_Inside_s ⟨[(.var 8), (.var 9), (.var 10), (.var 11), (.var 12), (.var 13)], [], []⟩ ⟨[(.var 8), (.var 9), (.var 10), (.var 11), (.var 12), (.var 13), (.var 17)], [(.var 3)], []⟩ ⟨14, [(.agg [(.complex .f64 (.var 8) (.var 9)), (.int .i64 (.var 10))]), (.agg [(.complex .f64 (.var 11) (.var 12)), (.int .i64 (.var 13))])], [], [none, none, none, none, none], (.tuple [(.bool (.var 3)), (.int .i64 (.var 17))]), []⟩
      (.call ball_Hull_s ⟨[(.var 8), (.var 9), (.var 10), (.var 11), (.var 12), (.var 13)], [], []⟩ ⟨[(.var 8), (.var 9), (.var 10), (.var 11), (.var 12), (.var 13), (.var 18), (.var 19), (.var 20), (.var 21)], [], []⟩ ⟨15, [(.agg [(.complex .f64 (.var 8) (.var 9)), (.int .i64 (.var 10))]), (.agg [(.complex .f64 (.var 11) (.var 12)), (.int .i64 (.var 13))])], [], [none, none, none, none, none], (.tuple [(.agg [(.complex .f64 (.var 18) (.var 19)), (.int .i64 (.var 20))]), (.int .i64 (.var 21))]), []⟩
      (.call _etalonlaw01_Whole__two_s ⟨[(.var 0), (.var 1), (.var 2), (.var 3), (.var 4), (.var 5)], [], []⟩ ⟨[(.var 0), (.var 1), (.var 2), (.var 3), (.var 4), (.var 5), (.var 22)], [], []⟩ ⟨16, [(.agg [(.int .i64 (.var 0)), (.int .i64 (.var 1)), (.int .i64 (.var 2))]), (.agg [(.int .i64 (.var 3)), (.int .i64 (.var 4)), (.int .i64 (.var 5))])], [], [none, none, none, none, none, none], (.int .i64 (.var 22)), []⟩
      (.ite (.icmp .eql (.var 22) (.lit 0))
      (.call etalonref01_Of_s ⟨[(.var 8), (.var 9), (.var 10)], [], []⟩ ⟨[(.var 8), (.var 9), (.var 10), (.var 23), (.var 24), (.var 25)], [], []⟩ ⟨12, [(.agg [(.complex .f64 (.var 8) (.var 9)), (.int .i64 (.var 10))])], [], [none, none, none, none, none, none], (.agg [(.int .i64 (.var 23)), (.int .i64 (.var 24)), (.int .i64 (.var 25))]), []⟩
       (.call etalonref01_Of_s ⟨[(.var 11), (.var 12), (.var 13)], [], []⟩ ⟨[(.var 11), (.var 12), (.var 13), (.var 26), (.var 27), (.var 28)], [], []⟩ ⟨12, [(.agg [(.complex .f64 (.var 11) (.var 12)), (.int .i64 (.var 13))])], [], [none, none, none, none, none, none], (.agg [(.int .i64 (.var 26)), (.int .i64 (.var 27)), (.int .i64 (.var 28))]), []⟩
       (.call etalonref01_Hull_s ⟨[(.var 23), (.var 24), (.var 25), (.var 26), (.var 27), (.var 28)], [], []⟩ ⟨[(.var 23), (.var 24), (.var 25), (.var 26), (.var 27), (.var 28), (.var 29), (.var 30), (.var 31), (.var 32)], [], []⟩ ⟨18, [(.agg [(.int .i64 (.var 23)), (.int .i64 (.var 24)), (.int .i64 (.var 25))]), (.agg [(.int .i64 (.var 26)), (.int .i64 (.var 27)), (.int .i64 (.var 28))])], [], [none, none, none, none, none, none], (.tuple [(.agg [(.int .i64 (.var 29)), (.int .i64 (.var 30)), (.int .i64 (.var 31))]), (.int .i64 (.var 32))]), []⟩
       (.ite (.icmp .eql (.var 16) (.lit 0))
       (.ite (.icmp .eql (.var 17) (.lit 0))
        (.call etalonref01_Of_s ⟨[(.var 8), (.var 9), (.var 10)], [], []⟩ ⟨[(.var 8), (.var 9), (.var 10), (.var 33), (.var 34), (.var 35)], [], []⟩ ⟨12, [(.agg [(.complex .f64 (.var 8) (.var 9)), (.int .i64 (.var 10))])], [], [none, none, none, none, none, none, none], (.agg [(.int .i64 (.var 33)), (.int .i64 (.var 34)), (.int .i64 (.var 35))]), []⟩
         (.call etalonref01_Of_s ⟨[(.var 11), (.var 12), (.var 13)], [], []⟩ ⟨[(.var 11), (.var 12), (.var 13), (.var 36), (.var 37), (.var 38)], [], []⟩ ⟨12, [(.agg [(.complex .f64 (.var 11) (.var 12)), (.int .i64 (.var 13))])], [], [none, none, none, none, none, none, none], (.agg [(.int .i64 (.var 36)), (.int .i64 (.var 37)), (.int .i64 (.var 38))]), []⟩
         (.call etalonref01_Meets_s ⟨[(.var 33), (.var 34), (.var 35), (.var 36), (.var 37), (.var 38)], [], []⟩ ⟨[(.var 33), (.var 34), (.var 35), (.var 36), (.var 37), (.var 38)], [(.var 4)], []⟩ ⟨19, [(.agg [(.int .i64 (.var 33)), (.int .i64 (.var 34)), (.int .i64 (.var 35))]), (.agg [(.int .i64 (.var 36)), (.int .i64 (.var 37)), (.int .i64 (.var 38))])], [], [none, none, none, none, none, none, none], (.bool (.var 4)), []⟩
         (.ite (.var 2)
         (.ite (.var 4)
          (.call etalonref01_Inside_s ⟨[(.var 33), (.var 34), (.var 35), (.var 36), (.var 37), (.var 38)], [], []⟩ ⟨[(.var 33), (.var 34), (.var 35), (.var 36), (.var 37), (.var 38)], [(.var 5)], []⟩ ⟨20, [(.agg [(.int .i64 (.var 33)), (.int .i64 (.var 34)), (.int .i64 (.var 35))]), (.agg [(.int .i64 (.var 36)), (.int .i64 (.var 37)), (.int .i64 (.var 38))])], [], [none, none, none, none, none, none, none], (.bool (.var 5)), []⟩
           (.ite (.var 3)
           (.ite (.var 5)
            (.call etalonlaw01_is_s ⟨[(.var 18), (.var 19), (.var 20), (.var 21), (.var 29), (.var 30), (.var 31), (.var 32)], [], []⟩ ⟨[(.var 18), (.var 19), (.var 20), (.var 21), (.var 29), (.var 30), (.var 31), (.var 32)], [(.var 6)], []⟩ ⟨17, [(.agg [(.complex .f64 (.var 18) (.var 19)), (.int .i64 (.var 20))]), (.int .i64 (.var 21)), (.agg [(.int .i64 (.var 29)), (.int .i64 (.var 30)), (.int .i64 (.var 31))]), (.int .i64 (.var 32))], [], [none, none, none, none, none, none, none], (.bool (.var 6)), []⟩
             (.ite (.var 6)
             (.call ball_Inside_s ⟨[(.var 8), (.var 9), (.var 10), (.var 18), (.var 19), (.var 20)], [], []⟩ ⟨[(.var 8), (.var 9), (.var 10), (.var 18), (.var 19), (.var 20), (.var 39)], [(.var 7)], []⟩ ⟨14, [(.agg [(.complex .f64 (.var 8) (.var 9)), (.int .i64 (.var 10))]), (.agg [(.complex .f64 (.var 18) (.var 19)), (.int .i64 (.var 20))])], [], [none, none, none, none, none, none, none], (.tuple [(.bool (.var 7)), (.int .i64 (.var 39))]), []⟩
              (.call ball_Inside_s ⟨[(.var 11), (.var 12), (.var 13), (.var 18), (.var 19), (.var 20)], [], []⟩ ⟨[(.var 11), (.var 12), (.var 13), (.var 18), (.var 19), (.var 20), (.var 40)], [(.var 8)], []⟩ ⟨14, [(.agg [(.complex .f64 (.var 11) (.var 12)), (.int .i64 (.var 13))]), (.agg [(.complex .f64 (.var 18) (.var 19)), (.int .i64 (.var 20))])], [], [none, none, none, none, none, none, none], (.tuple [(.bool (.var 8)), (.int .i64 (.var 40))]), []⟩
              (.ite (.icmp .eql (.var 32) (.lit 0))
              (.ite (.icmp .eql (.var 39) (.lit 0))
               (.ite (.icmp .eql (.var 40) (.lit 0))
                (.ite (.var 7)
                 (.ret ⟨[], [(.var 8)], []⟩ [])
                 (.ret ⟨[], [(.lit false)], []⟩ []))
                (.ret ⟨[], [(.lit false)], []⟩ []))
               (.ret ⟨[], [(.lit false)], []⟩ []))
              (.ret ⟨[], [(.lit true)], []⟩ []))))
             (.ret ⟨[], [(.lit false)], []⟩ [])))
            (.ret ⟨[], [(.lit false)], []⟩ []))
           (.ite (.var 5)
            (.ret ⟨[], [(.lit false)], []⟩ [])
            (.call etalonlaw01_is_s ⟨[(.var 18), (.var 19), (.var 20), (.var 21), (.var 29), (.var 30), (.var 31), (.var 32)], [], []⟩ ⟨[(.var 18), (.var 19), (.var 20), (.var 21), (.var 29), (.var 30), (.var 31), (.var 32)], [(.var 6)], []⟩ ⟨17, [(.agg [(.complex .f64 (.var 18) (.var 19)), (.int .i64 (.var 20))]), (.int .i64 (.var 21)), (.agg [(.int .i64 (.var 29)), (.int .i64 (.var 30)), (.int .i64 (.var 31))]), (.int .i64 (.var 32))], [], [none, none, none, none, none, none, none], (.bool (.var 6)), []⟩
             (.ite (.var 6)
             (.call ball_Inside_s ⟨[(.var 8), (.var 9), (.var 10), (.var 18), (.var 19), (.var 20)], [], []⟩ ⟨[(.var 8), (.var 9), (.var 10), (.var 18), (.var 19), (.var 20), (.var 39)], [(.var 7)], []⟩ ⟨14, [(.agg [(.complex .f64 (.var 8) (.var 9)), (.int .i64 (.var 10))]), (.agg [(.complex .f64 (.var 18) (.var 19)), (.int .i64 (.var 20))])], [], [none, none, none, none, none, none, none], (.tuple [(.bool (.var 7)), (.int .i64 (.var 39))]), []⟩
              (.call ball_Inside_s ⟨[(.var 11), (.var 12), (.var 13), (.var 18), (.var 19), (.var 20)], [], []⟩ ⟨[(.var 11), (.var 12), (.var 13), (.var 18), (.var 19), (.var 20), (.var 40)], [(.var 8)], []⟩ ⟨14, [(.agg [(.complex .f64 (.var 11) (.var 12)), (.int .i64 (.var 13))]), (.agg [(.complex .f64 (.var 18) (.var 19)), (.int .i64 (.var 20))])], [], [none, none, none, none, none, none, none], (.tuple [(.bool (.var 8)), (.int .i64 (.var 40))]), []⟩
              (.ite (.icmp .eql (.var 32) (.lit 0))
              (.ite (.icmp .eql (.var 39) (.lit 0))
               (.ite (.icmp .eql (.var 40) (.lit 0))
                (.ite (.var 7)
                 (.ret ⟨[], [(.var 8)], []⟩ [])
                 (.ret ⟨[], [(.lit false)], []⟩ []))
                (.ret ⟨[], [(.lit false)], []⟩ []))
               (.ret ⟨[], [(.lit false)], []⟩ []))
              (.ret ⟨[], [(.lit true)], []⟩ []))))
             (.ret ⟨[], [(.lit false)], []⟩ []))))))
          (.ret ⟨[], [(.lit false)], []⟩ []))
         (.ite (.var 4)
          (.ret ⟨[], [(.lit false)], []⟩ [])
          (.call etalonref01_Inside_s ⟨[(.var 33), (.var 34), (.var 35), (.var 36), (.var 37), (.var 38)], [], []⟩ ⟨[(.var 33), (.var 34), (.var 35), (.var 36), (.var 37), (.var 38)], [(.var 5)], []⟩ ⟨20, [(.agg [(.int .i64 (.var 33)), (.int .i64 (.var 34)), (.int .i64 (.var 35))]), (.agg [(.int .i64 (.var 36)), (.int .i64 (.var 37)), (.int .i64 (.var 38))])], [], [none, none, none, none, none, none, none], (.bool (.var 5)), []⟩
           (.ite (.var 3)
           (.ite (.var 5)
            (.call etalonlaw01_is_s ⟨[(.var 18), (.var 19), (.var 20), (.var 21), (.var 29), (.var 30), (.var 31), (.var 32)], [], []⟩ ⟨[(.var 18), (.var 19), (.var 20), (.var 21), (.var 29), (.var 30), (.var 31), (.var 32)], [(.var 6)], []⟩ ⟨17, [(.agg [(.complex .f64 (.var 18) (.var 19)), (.int .i64 (.var 20))]), (.int .i64 (.var 21)), (.agg [(.int .i64 (.var 29)), (.int .i64 (.var 30)), (.int .i64 (.var 31))]), (.int .i64 (.var 32))], [], [none, none, none, none, none, none, none], (.bool (.var 6)), []⟩
             (.ite (.var 6)
             (.call ball_Inside_s ⟨[(.var 8), (.var 9), (.var 10), (.var 18), (.var 19), (.var 20)], [], []⟩ ⟨[(.var 8), (.var 9), (.var 10), (.var 18), (.var 19), (.var 20), (.var 39)], [(.var 7)], []⟩ ⟨14, [(.agg [(.complex .f64 (.var 8) (.var 9)), (.int .i64 (.var 10))]), (.agg [(.complex .f64 (.var 18) (.var 19)), (.int .i64 (.var 20))])], [], [none, none, none, none, none, none, none], (.tuple [(.bool (.var 7)), (.int .i64 (.var 39))]), []⟩
              (.call ball_Inside_s ⟨[(.var 11), (.var 12), (.var 13), (.var 18), (.var 19), (.var 20)], [], []⟩ ⟨[(.var 11), (.var 12), (.var 13), (.var 18), (.var 19), (.var 20), (.var 40)], [(.var 8)], []⟩ ⟨14, [(.agg [(.complex .f64 (.var 11) (.var 12)), (.int .i64 (.var 13))]), (.agg [(.complex .f64 (.var 18) (.var 19)), (.int .i64 (.var 20))])], [], [none, none, none, none, none, none, none], (.tuple [(.bool (.var 8)), (.int .i64 (.var 40))]), []⟩
              (.ite (.icmp .eql (.var 32) (.lit 0))
              (.ite (.icmp .eql (.var 39) (.lit 0))
               (.ite (.icmp .eql (.var 40) (.lit 0))
                (.ite (.var 7)
                 (.ret ⟨[], [(.var 8)], []⟩ [])
                 (.ret ⟨[], [(.lit false)], []⟩ []))
                (.ret ⟨[], [(.lit false)], []⟩ []))
               (.ret ⟨[], [(.lit false)], []⟩ []))
              (.ret ⟨[], [(.lit true)], []⟩ []))))
             (.ret ⟨[], [(.lit false)], []⟩ [])))
            (.ret ⟨[], [(.lit false)], []⟩ []))
           (.ite (.var 5)
            (.ret ⟨[], [(.lit false)], []⟩ [])
            (.call etalonlaw01_is_s ⟨[(.var 18), (.var 19), (.var 20), (.var 21), (.var 29), (.var 30), (.var 31), (.var 32)], [], []⟩ ⟨[(.var 18), (.var 19), (.var 20), (.var 21), (.var 29), (.var 30), (.var 31), (.var 32)], [(.var 6)], []⟩ ⟨17, [(.agg [(.complex .f64 (.var 18) (.var 19)), (.int .i64 (.var 20))]), (.int .i64 (.var 21)), (.agg [(.int .i64 (.var 29)), (.int .i64 (.var 30)), (.int .i64 (.var 31))]), (.int .i64 (.var 32))], [], [none, none, none, none, none, none, none], (.bool (.var 6)), []⟩
             (.ite (.var 6)
             (.call ball_Inside_s ⟨[(.var 8), (.var 9), (.var 10), (.var 18), (.var 19), (.var 20)], [], []⟩ ⟨[(.var 8), (.var 9), (.var 10), (.var 18), (.var 19), (.var 20), (.var 39)], [(.var 7)], []⟩ ⟨14, [(.agg [(.complex .f64 (.var 8) (.var 9)), (.int .i64 (.var 10))]), (.agg [(.complex .f64 (.var 18) (.var 19)), (.int .i64 (.var 20))])], [], [none, none, none, none, none, none, none], (.tuple [(.bool (.var 7)), (.int .i64 (.var 39))]), []⟩
              (.call ball_Inside_s ⟨[(.var 11), (.var 12), (.var 13), (.var 18), (.var 19), (.var 20)], [], []⟩ ⟨[(.var 11), (.var 12), (.var 13), (.var 18), (.var 19), (.var 20), (.var 40)], [(.var 8)], []⟩ ⟨14, [(.agg [(.complex .f64 (.var 11) (.var 12)), (.int .i64 (.var 13))]), (.agg [(.complex .f64 (.var 18) (.var 19)), (.int .i64 (.var 20))])], [], [none, none, none, none, none, none, none], (.tuple [(.bool (.var 8)), (.int .i64 (.var 40))]), []⟩
              (.ite (.icmp .eql (.var 32) (.lit 0))
              (.ite (.icmp .eql (.var 39) (.lit 0))
               (.ite (.icmp .eql (.var 40) (.lit 0))
                (.ite (.var 7)
                 (.ret ⟨[], [(.var 8)], []⟩ [])
                 (.ret ⟨[], [(.lit false)], []⟩ []))
                (.ret ⟨[], [(.lit false)], []⟩ []))
               (.ret ⟨[], [(.lit false)], []⟩ []))
              (.ret ⟨[], [(.lit true)], []⟩ []))))
             (.ret ⟨[], [(.lit false)], []⟩ [])))))))))))
        (.ret ⟨[], [(.lit false)], []⟩ []))
       (.ret ⟨[], [(.lit false)], []⟩ [])))))
      (.ite (.icmp .eql (.var 16) (.var 22))
       (.ite (.icmp .eql (.var 17) (.var 22))
        (.ite (.var 2)
         (.ret ⟨[], [(.lit false)], []⟩ [])
         (.ite (.var 3)
          (.ret ⟨[], [(.lit false)], []⟩ [])
          (.call etalonlaw01_is_s ⟨[(.var 18), (.var 19), (.var 20), (.var 21), (.lit 0), (.lit 0), (.lit 0), (.var 22)], [], []⟩ ⟨[(.var 18), (.var 19), (.var 20), (.var 21), (.lit 0), (.lit 0), (.lit 0), (.var 22)], [(.var 4)], []⟩ ⟨17, [(.agg [(.complex .f64 (.var 18) (.var 19)), (.int .i64 (.var 20))]), (.int .i64 (.var 21)), (.agg [(.int .i64 (.lit 0)), (.int .i64 (.lit 0)), (.int .i64 (.lit 0))]), (.int .i64 (.var 22))], [], [none, none, none, none, none, none], (.bool (.var 4)), []⟩
           (.ret ⟨[], [(.var 4)], []⟩ []))))
        (.ret ⟨[], [(.lit false)], []⟩ []))
       (.ret ⟨[], [(.lit false)], []⟩ []))))))))
    (.ret ⟨[], [(.lit false)], []⟩ [])))))))
  (.ret ⟨[], [(.lit false)], []⟩ [])))
theorem blid {x0 x1 x2 x3 x4 x5 x6 x7 : Int} (r0 : (-9223372036854775808) ≤ x0 ∧ x0 ≤ 9223372036854775807) (r1 : (-9223372036854775808) ≤ x1 ∧ x1 ≤ 9223372036854775807) (r2 : (-9223372036854775808) ≤ x2 ∧ x2 ≤ 9223372036854775807) (r3 : (-9223372036854775808) ≤ x3 ∧ x3 ≤ 9223372036854775807) (r4 : (-9223372036854775808) ≤ x4 ∧ x4 ≤ 9223372036854775807) (r5 : (-9223372036854775808) ≤ x5 ∧ x5 ≤ 9223372036854775807) (r6 : (-134217728) ≤ x6 ∧ x6 ≤ 134217728) (r7 : (-9223372036854775808) ≤ x7 ∧ x7 ≤ (-134217729)) {R : Bool → Prop}
  (H : (∃ u0 : Bool, Spec Tryz.prog etalonlaw01_awake_s ⟨[], [], []⟩ [] [u0] [] ∧
   ((u0 = true → (∃ v8 : Int, ∃ v9 : Int, ∃ v10 : Int, Spec Tryz.prog _etalonlaw01_Whole__ball_s ⟨[x0, x1, x2], [], []⟩ [v8, v9, v10] [] [] ∧
    (∃ v11 : Int, ∃ v12 : Int, ∃ v13 : Int, Spec Tryz.prog _etalonlaw01_Whole__ball_s ⟨[x3, x4, x5], [], []⟩ [v11, v12, v13] [] [] ∧
    (∃ v14 : Int, ∃ u1 : Bool, Spec Tryz.prog ball_Contains_s ⟨[v8, v9, v10, ((FloatKind.f64.nearest (if ((if (x6 : Int) < 9007199254740992 then x6 else 9007199254740992) : Int) > (-9007199254740992) then (if (x6 : Int) < 9007199254740992 then x6 else 9007199254740992) else (-9007199254740992)) : Nat) : Int), ((FloatKind.f64.nearest (if ((if (x7 : Int) < 9007199254740992 then x7 else 9007199254740992) : Int) > (-9007199254740992) then (if (x7 : Int) < 9007199254740992 then x7 else 9007199254740992) else (-9007199254740992)) : Nat) : Int)], [], []⟩ [v14] [u1] [] ∧
    (∃ v15 : Int, Spec Tryz.prog _etalonlaw01_Whole__err_s ⟨[x0, x1, x2], [], []⟩ [v15] [] [] ∧
    ((((v15 : Int) == 0) = true → ((((v14 : Int) == 2) = true → ((u1 = true → R (false)) ∧
      (u1 = false → (∃ v16 : Int, ∃ u2 : Bool, Spec Tryz.prog ball_Meets_s ⟨[v8, v9, v10, v11, v12, v13], [], []⟩ [v16] [u2] [] ∧
       (∃ v17 : Int, ∃ u3 : Bool, Spec Tryz.prog ball_Inside_s ⟨[v8, v9, v10, v11, v12, v13], [], []⟩ [v17] [u3] [] ∧
       (∃ v18 : Int, ∃ v19 : Int, ∃ v20 : Int, ∃ v21 : Int, Spec Tryz.prog ball_Hull_s ⟨[v8, v9, v10, v11, v12, v13], [], []⟩ [v18, v19, v20, v21] [] [] ∧
       (∃ v22 : Int, Spec Tryz.prog _etalonlaw01_Whole__two_s ⟨[x0, x1, x2, x3, x4, x5], [], []⟩ [v22] [] [] ∧
       ((((v22 : Int) == 0) = true → (∃ v23 : Int, ∃ v24 : Int, ∃ v25 : Int, Spec Tryz.prog etalonref01_Of_s ⟨[v8, v9, v10], [], []⟩ [v23, v24, v25] [] [] ∧
        (∃ v26 : Int, ∃ v27 : Int, ∃ v28 : Int, Spec Tryz.prog etalonref01_Of_s ⟨[v11, v12, v13], [], []⟩ [v26, v27, v28] [] [] ∧
        (∃ v29 : Int, ∃ v30 : Int, ∃ v31 : Int, ∃ v32 : Int, Spec Tryz.prog etalonref01_Hull_s ⟨[v23, v24, v25, v26, v27, v28], [], []⟩ [v29, v30, v31, v32] [] [] ∧
        ((((v16 : Int) == 0) = true → ((((v17 : Int) == 0) = true → (∃ v33 : Int, ∃ v34 : Int, ∃ v35 : Int, Spec Tryz.prog etalonref01_Of_s ⟨[v8, v9, v10], [], []⟩ [v33, v34, v35] [] [] ∧
          (∃ v36 : Int, ∃ v37 : Int, ∃ v38 : Int, Spec Tryz.prog etalonref01_Of_s ⟨[v11, v12, v13], [], []⟩ [v36, v37, v38] [] [] ∧
          (∃ u4 : Bool, Spec Tryz.prog etalonref01_Meets_s ⟨[v33, v34, v35, v36, v37, v38], [], []⟩ [] [u4] [] ∧
          ((u2 = true → ((u4 = true → (∃ u5 : Bool, Spec Tryz.prog etalonref01_Inside_s ⟨[v33, v34, v35, v36, v37, v38], [], []⟩ [] [u5] [] ∧
            ((u3 = true → ((u5 = true → (∃ u6 : Bool, Spec Tryz.prog etalonlaw01_is_s ⟨[v18, v19, v20, v21, v29, v30, v31, v32], [], []⟩ [] [u6] [] ∧
              ((u6 = true → (∃ v39 : Int, ∃ u7 : Bool, Spec Tryz.prog ball_Inside_s ⟨[v8, v9, v10, v18, v19, v20], [], []⟩ [v39] [u7] [] ∧
               (∃ v40 : Int, ∃ u8 : Bool, Spec Tryz.prog ball_Inside_s ⟨[v11, v12, v13, v18, v19, v20], [], []⟩ [v40] [u8] [] ∧
               ((((v32 : Int) == 0) = true → ((((v39 : Int) == 0) = true → ((((v40 : Int) == 0) = true → ((u7 = true → R (u8)) ∧
                  (u7 = false → R (false)))) ∧
                 (((v40 : Int) == 0) = false → R (false)))) ∧
                (((v39 : Int) == 0) = false → R (false)))) ∧
               (((v32 : Int) == 0) = false → R (true)))))) ∧
              (u6 = false → R (false))))) ∧
             (u5 = false → R (false)))) ∧
            (u3 = false → ((u5 = true → R (false)) ∧
             (u5 = false → (∃ u6 : Bool, Spec Tryz.prog etalonlaw01_is_s ⟨[v18, v19, v20, v21, v29, v30, v31, v32], [], []⟩ [] [u6] [] ∧
              ((u6 = true → (∃ v39 : Int, ∃ u7 : Bool, Spec Tryz.prog ball_Inside_s ⟨[v8, v9, v10, v18, v19, v20], [], []⟩ [v39] [u7] [] ∧
               (∃ v40 : Int, ∃ u8 : Bool, Spec Tryz.prog ball_Inside_s ⟨[v11, v12, v13, v18, v19, v20], [], []⟩ [v40] [u8] [] ∧
               ((((v32 : Int) == 0) = true → ((((v39 : Int) == 0) = true → ((((v40 : Int) == 0) = true → ((u7 = true → R (u8)) ∧
                  (u7 = false → R (false)))) ∧
                 (((v40 : Int) == 0) = false → R (false)))) ∧
                (((v39 : Int) == 0) = false → R (false)))) ∧
               (((v32 : Int) == 0) = false → R (true)))))) ∧
              (u6 = false → R (false)))))))))) ∧
           (u4 = false → R (false)))) ∧
          (u2 = false → ((u4 = true → R (false)) ∧
           (u4 = false → (∃ u5 : Bool, Spec Tryz.prog etalonref01_Inside_s ⟨[v33, v34, v35, v36, v37, v38], [], []⟩ [] [u5] [] ∧
            ((u3 = true → ((u5 = true → (∃ u6 : Bool, Spec Tryz.prog etalonlaw01_is_s ⟨[v18, v19, v20, v21, v29, v30, v31, v32], [], []⟩ [] [u6] [] ∧
              ((u6 = true → (∃ v39 : Int, ∃ u7 : Bool, Spec Tryz.prog ball_Inside_s ⟨[v8, v9, v10, v18, v19, v20], [], []⟩ [v39] [u7] [] ∧
               (∃ v40 : Int, ∃ u8 : Bool, Spec Tryz.prog ball_Inside_s ⟨[v11, v12, v13, v18, v19, v20], [], []⟩ [v40] [u8] [] ∧
               ((((v32 : Int) == 0) = true → ((((v39 : Int) == 0) = true → ((((v40 : Int) == 0) = true → ((u7 = true → R (u8)) ∧
                  (u7 = false → R (false)))) ∧
                 (((v40 : Int) == 0) = false → R (false)))) ∧
                (((v39 : Int) == 0) = false → R (false)))) ∧
               (((v32 : Int) == 0) = false → R (true)))))) ∧
              (u6 = false → R (false))))) ∧
             (u5 = false → R (false)))) ∧
            (u3 = false → ((u5 = true → R (false)) ∧
             (u5 = false → (∃ u6 : Bool, Spec Tryz.prog etalonlaw01_is_s ⟨[v18, v19, v20, v21, v29, v30, v31, v32], [], []⟩ [] [u6] [] ∧
              ((u6 = true → (∃ v39 : Int, ∃ u7 : Bool, Spec Tryz.prog ball_Inside_s ⟨[v8, v9, v10, v18, v19, v20], [], []⟩ [v39] [u7] [] ∧
               (∃ v40 : Int, ∃ u8 : Bool, Spec Tryz.prog ball_Inside_s ⟨[v11, v12, v13, v18, v19, v20], [], []⟩ [v40] [u8] [] ∧
               ((((v32 : Int) == 0) = true → ((((v39 : Int) == 0) = true → ((((v40 : Int) == 0) = true → ((u7 = true → R (u8)) ∧
                  (u7 = false → R (false)))) ∧
                 (((v40 : Int) == 0) = false → R (false)))) ∧
                (((v39 : Int) == 0) = false → R (false)))) ∧
               (((v32 : Int) == 0) = false → R (true)))))) ∧
              (u6 = false → R (false))))))))))))))))) ∧
         (((v17 : Int) == 0) = false → R (false)))) ∧
        (((v16 : Int) == 0) = false → R (false))))))) ∧
       (((v22 : Int) == 0) = false → ((((v16 : Int) == v22) = true → ((((v17 : Int) == v22) = true → ((u2 = true → R (false)) ∧
          (u2 = false → ((u3 = true → R (false)) ∧
           (u3 = false → (∃ u4 : Bool, Spec Tryz.prog etalonlaw01_is_s ⟨[v18, v19, v20, v21, 0, 0, 0, v22], [], []⟩ [] [u4] [] ∧
            R (u4))))))) ∧
         (((v17 : Int) == v22) = false → R (false)))) ∧
        (((v16 : Int) == v22) = false → R (false)))))))))))) ∧
     (((v14 : Int) == 2) = false → R (false)))) ∧
    (((v15 : Int) == 0) = false → ((((v14 : Int) == v15) = true → ((u1 = true → R (false)) ∧
      (u1 = false → (∃ v16 : Int, ∃ u2 : Bool, Spec Tryz.prog ball_Meets_s ⟨[v8, v9, v10, v11, v12, v13], [], []⟩ [v16] [u2] [] ∧
       (∃ v17 : Int, ∃ u3 : Bool, Spec Tryz.prog ball_Inside_s ⟨[v8, v9, v10, v11, v12, v13], [], []⟩ [v17] [u3] [] ∧
       (∃ v18 : Int, ∃ v19 : Int, ∃ v20 : Int, ∃ v21 : Int, Spec Tryz.prog ball_Hull_s ⟨[v8, v9, v10, v11, v12, v13], [], []⟩ [v18, v19, v20, v21] [] [] ∧
       (∃ v22 : Int, Spec Tryz.prog _etalonlaw01_Whole__two_s ⟨[x0, x1, x2, x3, x4, x5], [], []⟩ [v22] [] [] ∧
       ((((v22 : Int) == 0) = true → (∃ v23 : Int, ∃ v24 : Int, ∃ v25 : Int, Spec Tryz.prog etalonref01_Of_s ⟨[v8, v9, v10], [], []⟩ [v23, v24, v25] [] [] ∧
        (∃ v26 : Int, ∃ v27 : Int, ∃ v28 : Int, Spec Tryz.prog etalonref01_Of_s ⟨[v11, v12, v13], [], []⟩ [v26, v27, v28] [] [] ∧
        (∃ v29 : Int, ∃ v30 : Int, ∃ v31 : Int, ∃ v32 : Int, Spec Tryz.prog etalonref01_Hull_s ⟨[v23, v24, v25, v26, v27, v28], [], []⟩ [v29, v30, v31, v32] [] [] ∧
        ((((v16 : Int) == 0) = true → ((((v17 : Int) == 0) = true → (∃ v33 : Int, ∃ v34 : Int, ∃ v35 : Int, Spec Tryz.prog etalonref01_Of_s ⟨[v8, v9, v10], [], []⟩ [v33, v34, v35] [] [] ∧
          (∃ v36 : Int, ∃ v37 : Int, ∃ v38 : Int, Spec Tryz.prog etalonref01_Of_s ⟨[v11, v12, v13], [], []⟩ [v36, v37, v38] [] [] ∧
          (∃ u4 : Bool, Spec Tryz.prog etalonref01_Meets_s ⟨[v33, v34, v35, v36, v37, v38], [], []⟩ [] [u4] [] ∧
          ((u2 = true → ((u4 = true → (∃ u5 : Bool, Spec Tryz.prog etalonref01_Inside_s ⟨[v33, v34, v35, v36, v37, v38], [], []⟩ [] [u5] [] ∧
            ((u3 = true → ((u5 = true → (∃ u6 : Bool, Spec Tryz.prog etalonlaw01_is_s ⟨[v18, v19, v20, v21, v29, v30, v31, v32], [], []⟩ [] [u6] [] ∧
              ((u6 = true → (∃ v39 : Int, ∃ u7 : Bool, Spec Tryz.prog ball_Inside_s ⟨[v8, v9, v10, v18, v19, v20], [], []⟩ [v39] [u7] [] ∧
               (∃ v40 : Int, ∃ u8 : Bool, Spec Tryz.prog ball_Inside_s ⟨[v11, v12, v13, v18, v19, v20], [], []⟩ [v40] [u8] [] ∧
               ((((v32 : Int) == 0) = true → ((((v39 : Int) == 0) = true → ((((v40 : Int) == 0) = true → ((u7 = true → R (u8)) ∧
                  (u7 = false → R (false)))) ∧
                 (((v40 : Int) == 0) = false → R (false)))) ∧
                (((v39 : Int) == 0) = false → R (false)))) ∧
               (((v32 : Int) == 0) = false → R (true)))))) ∧
              (u6 = false → R (false))))) ∧
             (u5 = false → R (false)))) ∧
            (u3 = false → ((u5 = true → R (false)) ∧
             (u5 = false → (∃ u6 : Bool, Spec Tryz.prog etalonlaw01_is_s ⟨[v18, v19, v20, v21, v29, v30, v31, v32], [], []⟩ [] [u6] [] ∧
              ((u6 = true → (∃ v39 : Int, ∃ u7 : Bool, Spec Tryz.prog ball_Inside_s ⟨[v8, v9, v10, v18, v19, v20], [], []⟩ [v39] [u7] [] ∧
               (∃ v40 : Int, ∃ u8 : Bool, Spec Tryz.prog ball_Inside_s ⟨[v11, v12, v13, v18, v19, v20], [], []⟩ [v40] [u8] [] ∧
               ((((v32 : Int) == 0) = true → ((((v39 : Int) == 0) = true → ((((v40 : Int) == 0) = true → ((u7 = true → R (u8)) ∧
                  (u7 = false → R (false)))) ∧
                 (((v40 : Int) == 0) = false → R (false)))) ∧
                (((v39 : Int) == 0) = false → R (false)))) ∧
               (((v32 : Int) == 0) = false → R (true)))))) ∧
              (u6 = false → R (false)))))))))) ∧
           (u4 = false → R (false)))) ∧
          (u2 = false → ((u4 = true → R (false)) ∧
           (u4 = false → (∃ u5 : Bool, Spec Tryz.prog etalonref01_Inside_s ⟨[v33, v34, v35, v36, v37, v38], [], []⟩ [] [u5] [] ∧
            ((u3 = true → ((u5 = true → (∃ u6 : Bool, Spec Tryz.prog etalonlaw01_is_s ⟨[v18, v19, v20, v21, v29, v30, v31, v32], [], []⟩ [] [u6] [] ∧
              ((u6 = true → (∃ v39 : Int, ∃ u7 : Bool, Spec Tryz.prog ball_Inside_s ⟨[v8, v9, v10, v18, v19, v20], [], []⟩ [v39] [u7] [] ∧
               (∃ v40 : Int, ∃ u8 : Bool, Spec Tryz.prog ball_Inside_s ⟨[v11, v12, v13, v18, v19, v20], [], []⟩ [v40] [u8] [] ∧
               ((((v32 : Int) == 0) = true → ((((v39 : Int) == 0) = true → ((((v40 : Int) == 0) = true → ((u7 = true → R (u8)) ∧
                  (u7 = false → R (false)))) ∧
                 (((v40 : Int) == 0) = false → R (false)))) ∧
                (((v39 : Int) == 0) = false → R (false)))) ∧
               (((v32 : Int) == 0) = false → R (true)))))) ∧
              (u6 = false → R (false))))) ∧
             (u5 = false → R (false)))) ∧
            (u3 = false → ((u5 = true → R (false)) ∧
             (u5 = false → (∃ u6 : Bool, Spec Tryz.prog etalonlaw01_is_s ⟨[v18, v19, v20, v21, v29, v30, v31, v32], [], []⟩ [] [u6] [] ∧
              ((u6 = true → (∃ v39 : Int, ∃ u7 : Bool, Spec Tryz.prog ball_Inside_s ⟨[v8, v9, v10, v18, v19, v20], [], []⟩ [v39] [u7] [] ∧
               (∃ v40 : Int, ∃ u8 : Bool, Spec Tryz.prog ball_Inside_s ⟨[v11, v12, v13, v18, v19, v20], [], []⟩ [v40] [u8] [] ∧
               ((((v32 : Int) == 0) = true → ((((v39 : Int) == 0) = true → ((((v40 : Int) == 0) = true → ((u7 = true → R (u8)) ∧
                  (u7 = false → R (false)))) ∧
                 (((v40 : Int) == 0) = false → R (false)))) ∧
                (((v39 : Int) == 0) = false → R (false)))) ∧
               (((v32 : Int) == 0) = false → R (true)))))) ∧
              (u6 = false → R (false))))))))))))))))) ∧
         (((v17 : Int) == 0) = false → R (false)))) ∧
        (((v16 : Int) == 0) = false → R (false))))))) ∧
       (((v22 : Int) == 0) = false → ((((v16 : Int) == v22) = true → ((((v17 : Int) == v22) = true → ((u2 = true → R (false)) ∧
          (u2 = false → ((u3 = true → R (false)) ∧
           (u3 = false → (∃ u4 : Bool, Spec Tryz.prog etalonlaw01_is_s ⟨[v18, v19, v20, v21, 0, 0, 0, v22], [], []⟩ [] [u4] [] ∧
            R (u4))))))) ∧
         (((v17 : Int) == v22) = false → R (false)))) ∧
        (((v16 : Int) == v22) = false → R (false)))))))))))) ∧
     (((v14 : Int) == v15) = false → R (false)))))))))) ∧
   (u0 = false → R (false))))) :
    ∃ u0 : Bool, R u0 ∧ Spec Tryz.prog etalonlaw01_BallLies_s ⟨[x0, x1, x2, x3, x4, x5, x6, x7], [], []⟩ [] [u0] [] :=
  Eq.mp (by kernel_rfl) (exV_of (K := fun d => app3 etalonlaw01_BallLies_s.out R d ∧ Spec Tryz.prog etalonlaw01_BallLies_s ⟨[x0, x1, x2, x3, x4, x5, x6, x7], [], []⟩ d.1 d.2.1 d.2.2) (tree_at mixed names S1_ok (S := S1 Tryz.prog) (lf := 100000) (d := 60) etalonlaw01_BallLies_s blid_t { ivs := [(0, (-9223372036854775808), 9223372036854775807), (1, (-9223372036854775808), 9223372036854775807), (2, (-9223372036854775808), 9223372036854775807), (3, (-9223372036854775808), 9223372036854775807), (4, (-9223372036854775808), 9223372036854775807), (5, (-9223372036854775808), 9223372036854775807), (6, (-134217728), 134217728), (7, (-9223372036854775808), (-134217729))], aivs := [] } ⟨[x0, x1, x2, x3, x4, x5, x6, x7], [], []⟩ rfl (by kernel_rfl) (by kernel_rfl) (by kernel_rfl) ⟨(fc r0 (fc r1 (fc r2 (fc r3 (fc r4 (fc r5 (fc r6 (fc r7 fz)))))))), fz, fz, fz⟩ (R := fun d => app3 etalonlaw01_BallLies_s.out R d) (Eq.mp (by kernel_rfl) H)))

end Go.Proofs.YtgdhpgjfebinhaaGreat.Ev
