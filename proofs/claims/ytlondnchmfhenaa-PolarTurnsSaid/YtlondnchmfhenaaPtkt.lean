/- The trees of Ptk. -/
import Derived.Test.YtlondnchmfhenaaRawf
import Derived.Test.YtlondnchmfhenaaEvu
namespace Go.Proofs.Ytlondnchmfhenaa.Ev
set_option linter.unusedSimpArgs false
open Go Go.RowKit
set_option maxRecDepth 100000
def t1_t : Tr :=
  (.call 20 [] (.bool (.lit true)) 0 0
  (.ite (.icmp .leq (.bin .subI (.lit 0) (.var 2)) (.var 0))
  (.ite (.icmp .leq (.var 0) (.var 2))
   (.ite (.icmp .leq (.bin .subI (.lit 0) (.var 2)) (.var 1))
    (.ite (.icmp .leq (.var 1) (.var 2))
     (.ite (.icmp .eql (.bin .addI (.bin .mulI (.var 0) (.var 0)) (.bin .mulI (.var 1) (.var 1))) (.bin .mulI (.var 2) (.var 2)))
      (.ite (.icmp .leq (.bin .maxI (.bin .mulI (.var 0) (.var 0)) (.bin .subI (.lit 0) (.bin .mulI (.var 0) (.var 0)))) (.lit 1000))
       (.ite (.icmp .leq (.bin .maxI (.bin .mulI (.var 0) (.var 1)) (.bin .subI (.lit 0) (.bin .mulI (.var 0) (.var 1)))) (.lit 1000))
        (.ite (.icmp .leq (.bin .maxI (.bin .mulI (.var 1) (.var 1)) (.bin .subI (.lit 0) (.bin .mulI (.var 1) (.var 1)))) (.lit 1000))
         (.call 39 [(.agg [(.complex .f64 (.var 3) (.var 5)), (.complex .f64 (.var 7) (.var 9)), (.complex .f64 (.var 11) (.var 13)), (.complex .f64 (.var 15) (.var 17))]), (.agg [(.int .i64 (.var 0)), (.int .i64 (.var 1)), (.int .i64 (.var 2))])] (.tuple [(.agg [(.complex .f64 (.var 19) (.var 20)), (.complex .f64 (.var 21) (.var 22)), (.complex .f64 (.var 23) (.var 24)), (.complex .f64 (.var 25) (.var 26))]), (.int .i64 (.var 27))]) 9 0
          (.call 34 [(.agg [(.int .i64 (.var 0)), (.int .i64 (.lit 0)), (.int .i64 (.bin .subI (.lit 0) (.var 1))), (.int .i64 (.lit 0)), (.int .i64 (.var 1)), (.int .i64 (.lit 0)), (.int .i64 (.var 0)), (.int .i64 (.lit 0))])] (.tuple [(.agg [(.complex .f64 (.var 28) (.var 29)), (.complex .f64 (.var 30) (.var 31)), (.complex .f64 (.var 32) (.var 33)), (.complex .f64 (.var 34) (.var 35))]), (.int .i64 (.var 36))]) 9 0
          (.call 34 [(.agg [(.int .i64 (.bin .mulI (.var 0) (.var 0))), (.int .i64 (.lit 0)), (.int .i64 (.bin .mulI (.var 0) (.var 1))), (.int .i64 (.lit 0)), (.int .i64 (.bin .mulI (.var 0) (.var 1))), (.int .i64 (.lit 0)), (.int .i64 (.bin .mulI (.var 1) (.var 1))), (.int .i64 (.lit 0))])] (.tuple [(.agg [(.complex .f64 (.var 37) (.var 38)), (.complex .f64 (.var 39) (.var 40)), (.complex .f64 (.var 41) (.var 42)), (.complex .f64 (.var 43) (.var 44))]), (.int .i64 (.var 45))]) 9 0
          (.call 44 [(.agg [(.int .i64 (.var 4)), (.int .i64 (.var 6)), (.int .i64 (.var 8)), (.int .i64 (.var 10)), (.int .i64 (.var 12)), (.int .i64 (.var 14)), (.int .i64 (.var 16)), (.int .i64 (.var 18))]), (.agg [(.int .i64 (.var 0)), (.int .i64 (.var 1)), (.int .i64 (.var 2))])] (.agg [(.int .i64 (.var 46)), (.int .i64 (.var 47)), (.int .i64 (.var 48)), (.int .i64 (.var 49)), (.int .i64 (.var 50)), (.int .i64 (.var 51)), (.int .i64 (.var 52)), (.int .i64 (.var 53))]) 8 0
          (.call 34 [(.agg [(.int .i64 (.var 46)), (.int .i64 (.var 47)), (.int .i64 (.var 48)), (.int .i64 (.var 49)), (.int .i64 (.var 50)), (.int .i64 (.var 51)), (.int .i64 (.var 52)), (.int .i64 (.var 53))])] (.tuple [(.agg [(.complex .f64 (.var 54) (.var 55)), (.complex .f64 (.var 56) (.var 57)), (.complex .f64 (.var 58) (.var 59)), (.complex .f64 (.var 60) (.var 61))]), (.int .i64 (.var 62))]) 9 0
          (.ite (.icmp .eql (.lit 0) (.var 36))
          (.call 36 [(.agg [(.complex .f64 (.toF .f64 (.var 0)) (.lit 0)), (.complex .f64 (.toF .f64 (.bin .subI (.lit 0) (.var 1))) (.lit 0)), (.complex .f64 (.toF .f64 (.var 1)) (.lit 0)), (.complex .f64 (.toF .f64 (.var 0)) (.lit 0))]), (.agg [(.complex .f64 (.var 28) (.var 29)), (.complex .f64 (.var 30) (.var 31)), (.complex .f64 (.var 32) (.var 33)), (.complex .f64 (.var 34) (.var 35))])] (.bool (.var 0)) 0 1
           (.ite (.var 0)
           (.ite (.icmp .eql (.lit 0) (.var 45))
            (.call 36 [(.agg [(.complex .f64 (.toF .f64 (.bin .mulI (.var 0) (.var 0))) (.lit 0)), (.complex .f64 (.toF .f64 (.bin .mulI (.var 0) (.var 1))) (.lit 0)), (.complex .f64 (.toF .f64 (.bin .mulI (.var 0) (.var 1))) (.lit 0)), (.complex .f64 (.toF .f64 (.bin .mulI (.var 1) (.var 1))) (.lit 0))]), (.agg [(.complex .f64 (.var 37) (.var 38)), (.complex .f64 (.var 39) (.var 40)), (.complex .f64 (.var 41) (.var 42)), (.complex .f64 (.var 43) (.var 44))])] (.bool (.var 1)) 0 1
             (.ite (.var 1)
             (.ite (.icmp .eql (.var 27) (.var 62))
              (.call 36 [(.agg [(.complex .f64 (.var 19) (.var 20)), (.complex .f64 (.var 21) (.var 22)), (.complex .f64 (.var 23) (.var 24)), (.complex .f64 (.var 25) (.var 26))]), (.agg [(.complex .f64 (.var 54) (.var 55)), (.complex .f64 (.var 56) (.var 57)), (.complex .f64 (.var 58) (.var 59)), (.complex .f64 (.var 60) (.var 61))])] (.bool (.var 2)) 0 1
               (.leaf (.bool (.var 2))))
              (.leaf (.bool (.lit false))))
             (.leaf (.bool (.lit false)))))
            (.leaf (.bool (.lit false))))
           (.leaf (.bool (.lit false)))))
          (.leaf (.bool (.lit false)))))))))
         (.call 39 [(.agg [(.complex .f64 (.var 3) (.var 5)), (.complex .f64 (.var 7) (.var 9)), (.complex .f64 (.var 11) (.var 13)), (.complex .f64 (.var 15) (.var 17))]), (.agg [(.int .i64 (.var 0)), (.int .i64 (.var 1)), (.int .i64 (.var 2))])] (.tuple [(.agg [(.complex .f64 (.var 19) (.var 20)), (.complex .f64 (.var 21) (.var 22)), (.complex .f64 (.var 23) (.var 24)), (.complex .f64 (.var 25) (.var 26))]), (.int .i64 (.var 27))]) 9 0
          (.call 34 [(.agg [(.int .i64 (.var 0)), (.int .i64 (.lit 0)), (.int .i64 (.bin .subI (.lit 0) (.var 1))), (.int .i64 (.lit 0)), (.int .i64 (.var 1)), (.int .i64 (.lit 0)), (.int .i64 (.var 0)), (.int .i64 (.lit 0))])] (.tuple [(.agg [(.complex .f64 (.var 28) (.var 29)), (.complex .f64 (.var 30) (.var 31)), (.complex .f64 (.var 32) (.var 33)), (.complex .f64 (.var 34) (.var 35))]), (.int .i64 (.var 36))]) 9 0
          (.call 34 [(.agg [(.int .i64 (.bin .mulI (.var 0) (.var 0))), (.int .i64 (.lit 0)), (.int .i64 (.bin .mulI (.var 0) (.var 1))), (.int .i64 (.lit 0)), (.int .i64 (.bin .mulI (.var 0) (.var 1))), (.int .i64 (.lit 0)), (.int .i64 (.bin .mulI (.var 1) (.var 1))), (.int .i64 (.lit 0))])] (.tuple [(.agg [(.complex .f64 (.var 37) (.var 38)), (.complex .f64 (.var 39) (.var 40)), (.complex .f64 (.var 41) (.var 42)), (.complex .f64 (.var 43) (.var 44))]), (.int .i64 (.var 45))]) 9 0
          (.call 44 [(.agg [(.int .i64 (.var 4)), (.int .i64 (.var 6)), (.int .i64 (.var 8)), (.int .i64 (.var 10)), (.int .i64 (.var 12)), (.int .i64 (.var 14)), (.int .i64 (.var 16)), (.int .i64 (.var 18))]), (.agg [(.int .i64 (.var 0)), (.int .i64 (.var 1)), (.int .i64 (.var 2))])] (.agg [(.int .i64 (.var 46)), (.int .i64 (.var 47)), (.int .i64 (.var 48)), (.int .i64 (.var 49)), (.int .i64 (.var 50)), (.int .i64 (.var 51)), (.int .i64 (.var 52)), (.int .i64 (.var 53))]) 8 0
          (.call 34 [(.agg [(.int .i64 (.var 46)), (.int .i64 (.var 47)), (.int .i64 (.var 48)), (.int .i64 (.var 49)), (.int .i64 (.var 50)), (.int .i64 (.var 51)), (.int .i64 (.var 52)), (.int .i64 (.var 53))])] (.tuple [(.agg [(.complex .f64 (.var 54) (.var 55)), (.complex .f64 (.var 56) (.var 57)), (.complex .f64 (.var 58) (.var 59)), (.complex .f64 (.var 60) (.var 61))]), (.int .i64 (.var 62))]) 9 0
          (.ite (.icmp .eql (.lit 0) (.var 36))
          (.call 36 [(.agg [(.complex .f64 (.toF .f64 (.var 0)) (.lit 0)), (.complex .f64 (.toF .f64 (.bin .subI (.lit 0) (.var 1))) (.lit 0)), (.complex .f64 (.toF .f64 (.var 1)) (.lit 0)), (.complex .f64 (.toF .f64 (.var 0)) (.lit 0))]), (.agg [(.complex .f64 (.var 28) (.var 29)), (.complex .f64 (.var 30) (.var 31)), (.complex .f64 (.var 32) (.var 33)), (.complex .f64 (.var 34) (.var 35))])] (.bool (.var 0)) 0 1
           (.ite (.var 0)
           (.ite (.icmp .eql (.lit 8) (.var 45))
            (.call 36 [(.agg [(.complex .f64 (.lit 0) (.lit 0)), (.complex .f64 (.lit 0) (.lit 0)), (.complex .f64 (.lit 0) (.lit 0)), (.complex .f64 (.lit 0) (.lit 0))]), (.agg [(.complex .f64 (.var 37) (.var 38)), (.complex .f64 (.var 39) (.var 40)), (.complex .f64 (.var 41) (.var 42)), (.complex .f64 (.var 43) (.var 44))])] (.bool (.var 1)) 0 1
             (.ite (.var 1)
             (.ite (.icmp .eql (.var 27) (.var 62))
              (.call 36 [(.agg [(.complex .f64 (.var 19) (.var 20)), (.complex .f64 (.var 21) (.var 22)), (.complex .f64 (.var 23) (.var 24)), (.complex .f64 (.var 25) (.var 26))]), (.agg [(.complex .f64 (.var 54) (.var 55)), (.complex .f64 (.var 56) (.var 57)), (.complex .f64 (.var 58) (.var 59)), (.complex .f64 (.var 60) (.var 61))])] (.bool (.var 2)) 0 1
               (.leaf (.bool (.var 2))))
              (.leaf (.bool (.lit false))))
             (.leaf (.bool (.lit false)))))
            (.leaf (.bool (.lit false))))
           (.leaf (.bool (.lit false)))))
          (.leaf (.bool (.lit false))))))))))
        (.call 39 [(.agg [(.complex .f64 (.var 3) (.var 5)), (.complex .f64 (.var 7) (.var 9)), (.complex .f64 (.var 11) (.var 13)), (.complex .f64 (.var 15) (.var 17))]), (.agg [(.int .i64 (.var 0)), (.int .i64 (.var 1)), (.int .i64 (.var 2))])] (.tuple [(.agg [(.complex .f64 (.var 19) (.var 20)), (.complex .f64 (.var 21) (.var 22)), (.complex .f64 (.var 23) (.var 24)), (.complex .f64 (.var 25) (.var 26))]), (.int .i64 (.var 27))]) 9 0
         (.call 34 [(.agg [(.int .i64 (.var 0)), (.int .i64 (.lit 0)), (.int .i64 (.bin .subI (.lit 0) (.var 1))), (.int .i64 (.lit 0)), (.int .i64 (.var 1)), (.int .i64 (.lit 0)), (.int .i64 (.var 0)), (.int .i64 (.lit 0))])] (.tuple [(.agg [(.complex .f64 (.var 28) (.var 29)), (.complex .f64 (.var 30) (.var 31)), (.complex .f64 (.var 32) (.var 33)), (.complex .f64 (.var 34) (.var 35))]), (.int .i64 (.var 36))]) 9 0
         (.call 34 [(.agg [(.int .i64 (.bin .mulI (.var 0) (.var 0))), (.int .i64 (.lit 0)), (.int .i64 (.bin .mulI (.var 0) (.var 1))), (.int .i64 (.lit 0)), (.int .i64 (.bin .mulI (.var 0) (.var 1))), (.int .i64 (.lit 0)), (.int .i64 (.bin .mulI (.var 1) (.var 1))), (.int .i64 (.lit 0))])] (.tuple [(.agg [(.complex .f64 (.var 37) (.var 38)), (.complex .f64 (.var 39) (.var 40)), (.complex .f64 (.var 41) (.var 42)), (.complex .f64 (.var 43) (.var 44))]), (.int .i64 (.var 45))]) 9 0
         (.call 44 [(.agg [(.int .i64 (.var 4)), (.int .i64 (.var 6)), (.int .i64 (.var 8)), (.int .i64 (.var 10)), (.int .i64 (.var 12)), (.int .i64 (.var 14)), (.int .i64 (.var 16)), (.int .i64 (.var 18))]), (.agg [(.int .i64 (.var 0)), (.int .i64 (.var 1)), (.int .i64 (.var 2))])] (.agg [(.int .i64 (.var 46)), (.int .i64 (.var 47)), (.int .i64 (.var 48)), (.int .i64 (.var 49)), (.int .i64 (.var 50)), (.int .i64 (.var 51)), (.int .i64 (.var 52)), (.int .i64 (.var 53))]) 8 0
         (.call 34 [(.agg [(.int .i64 (.var 46)), (.int .i64 (.var 47)), (.int .i64 (.var 48)), (.int .i64 (.var 49)), (.int .i64 (.var 50)), (.int .i64 (.var 51)), (.int .i64 (.var 52)), (.int .i64 (.var 53))])] (.tuple [(.agg [(.complex .f64 (.var 54) (.var 55)), (.complex .f64 (.var 56) (.var 57)), (.complex .f64 (.var 58) (.var 59)), (.complex .f64 (.var 60) (.var 61))]), (.int .i64 (.var 62))]) 9 0
         (.ite (.icmp .eql (.lit 0) (.var 36))
         (.call 36 [(.agg [(.complex .f64 (.toF .f64 (.var 0)) (.lit 0)), (.complex .f64 (.toF .f64 (.bin .subI (.lit 0) (.var 1))) (.lit 0)), (.complex .f64 (.toF .f64 (.var 1)) (.lit 0)), (.complex .f64 (.toF .f64 (.var 0)) (.lit 0))]), (.agg [(.complex .f64 (.var 28) (.var 29)), (.complex .f64 (.var 30) (.var 31)), (.complex .f64 (.var 32) (.var 33)), (.complex .f64 (.var 34) (.var 35))])] (.bool (.var 0)) 0 1
          (.ite (.var 0)
          (.ite (.icmp .eql (.lit 8) (.var 45))
           (.call 36 [(.agg [(.complex .f64 (.lit 0) (.lit 0)), (.complex .f64 (.lit 0) (.lit 0)), (.complex .f64 (.lit 0) (.lit 0)), (.complex .f64 (.lit 0) (.lit 0))]), (.agg [(.complex .f64 (.var 37) (.var 38)), (.complex .f64 (.var 39) (.var 40)), (.complex .f64 (.var 41) (.var 42)), (.complex .f64 (.var 43) (.var 44))])] (.bool (.var 1)) 0 1
            (.ite (.var 1)
            (.ite (.icmp .eql (.var 27) (.var 62))
             (.call 36 [(.agg [(.complex .f64 (.var 19) (.var 20)), (.complex .f64 (.var 21) (.var 22)), (.complex .f64 (.var 23) (.var 24)), (.complex .f64 (.var 25) (.var 26))]), (.agg [(.complex .f64 (.var 54) (.var 55)), (.complex .f64 (.var 56) (.var 57)), (.complex .f64 (.var 58) (.var 59)), (.complex .f64 (.var 60) (.var 61))])] (.bool (.var 2)) 0 1
              (.leaf (.bool (.var 2))))
             (.leaf (.bool (.lit false))))
            (.leaf (.bool (.lit false)))))
           (.leaf (.bool (.lit false))))
          (.leaf (.bool (.lit false)))))
         (.leaf (.bool (.lit false))))))))))
       (.call 39 [(.agg [(.complex .f64 (.var 3) (.var 5)), (.complex .f64 (.var 7) (.var 9)), (.complex .f64 (.var 11) (.var 13)), (.complex .f64 (.var 15) (.var 17))]), (.agg [(.int .i64 (.var 0)), (.int .i64 (.var 1)), (.int .i64 (.var 2))])] (.tuple [(.agg [(.complex .f64 (.var 19) (.var 20)), (.complex .f64 (.var 21) (.var 22)), (.complex .f64 (.var 23) (.var 24)), (.complex .f64 (.var 25) (.var 26))]), (.int .i64 (.var 27))]) 9 0
        (.call 34 [(.agg [(.int .i64 (.var 0)), (.int .i64 (.lit 0)), (.int .i64 (.bin .subI (.lit 0) (.var 1))), (.int .i64 (.lit 0)), (.int .i64 (.var 1)), (.int .i64 (.lit 0)), (.int .i64 (.var 0)), (.int .i64 (.lit 0))])] (.tuple [(.agg [(.complex .f64 (.var 28) (.var 29)), (.complex .f64 (.var 30) (.var 31)), (.complex .f64 (.var 32) (.var 33)), (.complex .f64 (.var 34) (.var 35))]), (.int .i64 (.var 36))]) 9 0
        (.call 34 [(.agg [(.int .i64 (.bin .mulI (.var 0) (.var 0))), (.int .i64 (.lit 0)), (.int .i64 (.bin .mulI (.var 0) (.var 1))), (.int .i64 (.lit 0)), (.int .i64 (.bin .mulI (.var 0) (.var 1))), (.int .i64 (.lit 0)), (.int .i64 (.bin .mulI (.var 1) (.var 1))), (.int .i64 (.lit 0))])] (.tuple [(.agg [(.complex .f64 (.var 37) (.var 38)), (.complex .f64 (.var 39) (.var 40)), (.complex .f64 (.var 41) (.var 42)), (.complex .f64 (.var 43) (.var 44))]), (.int .i64 (.var 45))]) 9 0
        (.call 44 [(.agg [(.int .i64 (.var 4)), (.int .i64 (.var 6)), (.int .i64 (.var 8)), (.int .i64 (.var 10)), (.int .i64 (.var 12)), (.int .i64 (.var 14)), (.int .i64 (.var 16)), (.int .i64 (.var 18))]), (.agg [(.int .i64 (.var 0)), (.int .i64 (.var 1)), (.int .i64 (.var 2))])] (.agg [(.int .i64 (.var 46)), (.int .i64 (.var 47)), (.int .i64 (.var 48)), (.int .i64 (.var 49)), (.int .i64 (.var 50)), (.int .i64 (.var 51)), (.int .i64 (.var 52)), (.int .i64 (.var 53))]) 8 0
        (.call 34 [(.agg [(.int .i64 (.var 46)), (.int .i64 (.var 47)), (.int .i64 (.var 48)), (.int .i64 (.var 49)), (.int .i64 (.var 50)), (.int .i64 (.var 51)), (.int .i64 (.var 52)), (.int .i64 (.var 53))])] (.tuple [(.agg [(.complex .f64 (.var 54) (.var 55)), (.complex .f64 (.var 56) (.var 57)), (.complex .f64 (.var 58) (.var 59)), (.complex .f64 (.var 60) (.var 61))]), (.int .i64 (.var 62))]) 9 0
        (.ite (.icmp .eql (.lit 0) (.var 36))
        (.call 36 [(.agg [(.complex .f64 (.toF .f64 (.var 0)) (.lit 0)), (.complex .f64 (.toF .f64 (.bin .subI (.lit 0) (.var 1))) (.lit 0)), (.complex .f64 (.toF .f64 (.var 1)) (.lit 0)), (.complex .f64 (.toF .f64 (.var 0)) (.lit 0))]), (.agg [(.complex .f64 (.var 28) (.var 29)), (.complex .f64 (.var 30) (.var 31)), (.complex .f64 (.var 32) (.var 33)), (.complex .f64 (.var 34) (.var 35))])] (.bool (.var 0)) 0 1
         (.ite (.var 0)
         (.ite (.icmp .eql (.lit 8) (.var 45))
          (.call 36 [(.agg [(.complex .f64 (.lit 0) (.lit 0)), (.complex .f64 (.lit 0) (.lit 0)), (.complex .f64 (.lit 0) (.lit 0)), (.complex .f64 (.lit 0) (.lit 0))]), (.agg [(.complex .f64 (.var 37) (.var 38)), (.complex .f64 (.var 39) (.var 40)), (.complex .f64 (.var 41) (.var 42)), (.complex .f64 (.var 43) (.var 44))])] (.bool (.var 1)) 0 1
           (.ite (.var 1)
           (.ite (.icmp .eql (.var 27) (.var 62))
            (.call 36 [(.agg [(.complex .f64 (.var 19) (.var 20)), (.complex .f64 (.var 21) (.var 22)), (.complex .f64 (.var 23) (.var 24)), (.complex .f64 (.var 25) (.var 26))]), (.agg [(.complex .f64 (.var 54) (.var 55)), (.complex .f64 (.var 56) (.var 57)), (.complex .f64 (.var 58) (.var 59)), (.complex .f64 (.var 60) (.var 61))])] (.bool (.var 2)) 0 1
             (.leaf (.bool (.var 2))))
            (.leaf (.bool (.lit false))))
           (.leaf (.bool (.lit false)))))
          (.leaf (.bool (.lit false))))
         (.leaf (.bool (.lit false)))))
        (.leaf (.bool (.lit false))))))))))
      (.call 39 [(.agg [(.complex .f64 (.var 3) (.var 5)), (.complex .f64 (.var 7) (.var 9)), (.complex .f64 (.var 11) (.var 13)), (.complex .f64 (.var 15) (.var 17))]), (.agg [(.int .i64 (.var 0)), (.int .i64 (.var 1)), (.int .i64 (.var 2))])] (.tuple [(.agg [(.complex .f64 (.var 19) (.var 20)), (.complex .f64 (.var 21) (.var 22)), (.complex .f64 (.var 23) (.var 24)), (.complex .f64 (.var 25) (.var 26))]), (.int .i64 (.var 27))]) 9 0
       (.call 36 [(.agg [(.complex .f64 (.lit 0) (.lit 0)), (.complex .f64 (.lit 0) (.lit 0)), (.complex .f64 (.lit 0) (.lit 0)), (.complex .f64 (.lit 0) (.lit 0))]), (.agg [(.complex .f64 (.lit 0) (.lit 0)), (.complex .f64 (.lit 0) (.lit 0)), (.complex .f64 (.lit 0) (.lit 0)), (.complex .f64 (.lit 0) (.lit 0))])] (.bool (.lit true)) 0 0
       (.ite (.icmp .eql (.var 27) (.lit 12))
       (.call 36 [(.agg [(.complex .f64 (.var 19) (.var 20)), (.complex .f64 (.var 21) (.var 22)), (.complex .f64 (.var 23) (.var 24)), (.complex .f64 (.var 25) (.var 26))]), (.agg [(.complex .f64 (.lit 0) (.lit 0)), (.complex .f64 (.lit 0) (.lit 0)), (.complex .f64 (.lit 0) (.lit 0)), (.complex .f64 (.lit 0) (.lit 0))])] (.bool (.var 0)) 0 1
        (.leaf (.bool (.var 0))))
       (.leaf (.bool (.lit false)))))))
     (.call 39 [(.agg [(.complex .f64 (.var 3) (.var 5)), (.complex .f64 (.var 7) (.var 9)), (.complex .f64 (.var 11) (.var 13)), (.complex .f64 (.var 15) (.var 17))]), (.agg [(.int .i64 (.var 0)), (.int .i64 (.var 1)), (.int .i64 (.var 2))])] (.tuple [(.agg [(.complex .f64 (.var 19) (.var 20)), (.complex .f64 (.var 21) (.var 22)), (.complex .f64 (.var 23) (.var 24)), (.complex .f64 (.var 25) (.var 26))]), (.int .i64 (.var 27))]) 9 0
      (.call 36 [(.agg [(.complex .f64 (.lit 0) (.lit 0)), (.complex .f64 (.lit 0) (.lit 0)), (.complex .f64 (.lit 0) (.lit 0)), (.complex .f64 (.lit 0) (.lit 0))]), (.agg [(.complex .f64 (.lit 0) (.lit 0)), (.complex .f64 (.lit 0) (.lit 0)), (.complex .f64 (.lit 0) (.lit 0)), (.complex .f64 (.lit 0) (.lit 0))])] (.bool (.lit true)) 0 0
      (.ite (.icmp .eql (.var 27) (.lit 12))
      (.call 36 [(.agg [(.complex .f64 (.var 19) (.var 20)), (.complex .f64 (.var 21) (.var 22)), (.complex .f64 (.var 23) (.var 24)), (.complex .f64 (.var 25) (.var 26))]), (.agg [(.complex .f64 (.lit 0) (.lit 0)), (.complex .f64 (.lit 0) (.lit 0)), (.complex .f64 (.lit 0) (.lit 0)), (.complex .f64 (.lit 0) (.lit 0))])] (.bool (.var 0)) 0 1
       (.leaf (.bool (.var 0))))
      (.leaf (.bool (.lit false)))))))
    (.call 39 [(.agg [(.complex .f64 (.var 3) (.var 5)), (.complex .f64 (.var 7) (.var 9)), (.complex .f64 (.var 11) (.var 13)), (.complex .f64 (.var 15) (.var 17))]), (.agg [(.int .i64 (.var 0)), (.int .i64 (.var 1)), (.int .i64 (.var 2))])] (.tuple [(.agg [(.complex .f64 (.var 19) (.var 20)), (.complex .f64 (.var 21) (.var 22)), (.complex .f64 (.var 23) (.var 24)), (.complex .f64 (.var 25) (.var 26))]), (.int .i64 (.var 27))]) 9 0
     (.call 36 [(.agg [(.complex .f64 (.lit 0) (.lit 0)), (.complex .f64 (.lit 0) (.lit 0)), (.complex .f64 (.lit 0) (.lit 0)), (.complex .f64 (.lit 0) (.lit 0))]), (.agg [(.complex .f64 (.lit 0) (.lit 0)), (.complex .f64 (.lit 0) (.lit 0)), (.complex .f64 (.lit 0) (.lit 0)), (.complex .f64 (.lit 0) (.lit 0))])] (.bool (.lit true)) 0 0
     (.ite (.icmp .eql (.var 27) (.lit 12))
     (.call 36 [(.agg [(.complex .f64 (.var 19) (.var 20)), (.complex .f64 (.var 21) (.var 22)), (.complex .f64 (.var 23) (.var 24)), (.complex .f64 (.var 25) (.var 26))]), (.agg [(.complex .f64 (.lit 0) (.lit 0)), (.complex .f64 (.lit 0) (.lit 0)), (.complex .f64 (.lit 0) (.lit 0)), (.complex .f64 (.lit 0) (.lit 0))])] (.bool (.var 0)) 0 1
      (.leaf (.bool (.var 0))))
     (.leaf (.bool (.lit false)))))))
   (.call 39 [(.agg [(.complex .f64 (.var 3) (.var 5)), (.complex .f64 (.var 7) (.var 9)), (.complex .f64 (.var 11) (.var 13)), (.complex .f64 (.var 15) (.var 17))]), (.agg [(.int .i64 (.var 0)), (.int .i64 (.var 1)), (.int .i64 (.var 2))])] (.tuple [(.agg [(.complex .f64 (.var 19) (.var 20)), (.complex .f64 (.var 21) (.var 22)), (.complex .f64 (.var 23) (.var 24)), (.complex .f64 (.var 25) (.var 26))]), (.int .i64 (.var 27))]) 9 0
    (.call 36 [(.agg [(.complex .f64 (.lit 0) (.lit 0)), (.complex .f64 (.lit 0) (.lit 0)), (.complex .f64 (.lit 0) (.lit 0)), (.complex .f64 (.lit 0) (.lit 0))]), (.agg [(.complex .f64 (.lit 0) (.lit 0)), (.complex .f64 (.lit 0) (.lit 0)), (.complex .f64 (.lit 0) (.lit 0)), (.complex .f64 (.lit 0) (.lit 0))])] (.bool (.lit true)) 0 0
    (.ite (.icmp .eql (.var 27) (.lit 12))
    (.call 36 [(.agg [(.complex .f64 (.var 19) (.var 20)), (.complex .f64 (.var 21) (.var 22)), (.complex .f64 (.var 23) (.var 24)), (.complex .f64 (.var 25) (.var 26))]), (.agg [(.complex .f64 (.lit 0) (.lit 0)), (.complex .f64 (.lit 0) (.lit 0)), (.complex .f64 (.lit 0) (.lit 0)), (.complex .f64 (.lit 0) (.lit 0))])] (.bool (.var 0)) 0 1
     (.leaf (.bool (.var 0))))
    (.leaf (.bool (.lit false)))))))
  (.call 39 [(.agg [(.complex .f64 (.var 3) (.var 5)), (.complex .f64 (.var 7) (.var 9)), (.complex .f64 (.var 11) (.var 13)), (.complex .f64 (.var 15) (.var 17))]), (.agg [(.int .i64 (.var 0)), (.int .i64 (.var 1)), (.int .i64 (.var 2))])] (.tuple [(.agg [(.complex .f64 (.var 19) (.var 20)), (.complex .f64 (.var 21) (.var 22)), (.complex .f64 (.var 23) (.var 24)), (.complex .f64 (.var 25) (.var 26))]), (.int .i64 (.var 27))]) 9 0
   (.call 36 [(.agg [(.complex .f64 (.lit 0) (.lit 0)), (.complex .f64 (.lit 0) (.lit 0)), (.complex .f64 (.lit 0) (.lit 0)), (.complex .f64 (.lit 0) (.lit 0))]), (.agg [(.complex .f64 (.lit 0) (.lit 0)), (.complex .f64 (.lit 0) (.lit 0)), (.complex .f64 (.lit 0) (.lit 0)), (.complex .f64 (.lit 0) (.lit 0))])] (.bool (.lit true)) 0 0
   (.ite (.icmp .eql (.var 27) (.lit 12))
   (.call 36 [(.agg [(.complex .f64 (.var 19) (.var 20)), (.complex .f64 (.var 21) (.var 22)), (.complex .f64 (.var 23) (.var 24)), (.complex .f64 (.var 25) (.var 26))]), (.agg [(.complex .f64 (.lit 0) (.lit 0)), (.complex .f64 (.lit 0) (.lit 0)), (.complex .f64 (.lit 0) (.lit 0)), (.complex .f64 (.lit 0) (.lit 0))])] (.bool (.var 0)) 0 1
    (.leaf (.bool (.var 0))))
   (.leaf (.bool (.lit false))))))))
def t2_t : Tr :=
  (.call 20 [] (.bool (.lit true)) 0 0
  (.ite (.icmp .leq (.bin .subI (.lit 0) (.var 2)) (.var 0))
  (.ite (.icmp .leq (.var 0) (.var 2))
   (.ite (.icmp .leq (.bin .subI (.lit 0) (.var 2)) (.var 1))
    (.ite (.icmp .leq (.var 1) (.var 2))
     (.ite (.icmp .eql (.bin .addI (.bin .mulI (.var 0) (.var 0)) (.bin .mulI (.var 1) (.var 1))) (.bin .mulI (.var 2) (.var 2)))
      (.ite (.icmp .leq (.bin .maxI (.bin .mulI (.var 0) (.var 0)) (.bin .subI (.lit 0) (.bin .mulI (.var 0) (.var 0)))) (.lit 1000))
       (.ite (.icmp .leq (.bin .maxI (.bin .mulI (.var 0) (.var 1)) (.bin .subI (.lit 0) (.bin .mulI (.var 0) (.var 1)))) (.lit 1000))
        (.ite (.icmp .leq (.bin .maxI (.bin .mulI (.var 1) (.var 1)) (.bin .subI (.lit 0) (.bin .mulI (.var 1) (.var 1)))) (.lit 1000))
         (.call 39 [(.agg [(.complex .f64 (.var 3) (.var 4)), (.complex .f64 (.var 5) (.var 6)), (.complex .f64 (.var 7) (.var 8)), (.complex .f64 (.var 9) (.var 10))]), (.agg [(.int .i64 (.var 0)), (.int .i64 (.var 1)), (.int .i64 (.var 2))])] (.tuple [(.agg [(.complex .f64 (.var 11) (.var 12)), (.complex .f64 (.var 13) (.var 14)), (.complex .f64 (.var 15) (.var 16)), (.complex .f64 (.var 17) (.var 18))]), (.int .i64 (.var 19))]) 9 0
          (.call 26 [(.agg [(.complex .f64 (.var 3) (.var 4)), (.complex .f64 (.var 5) (.var 6)), (.complex .f64 (.var 7) (.var 8)), (.complex .f64 (.var 9) (.var 10))])] (.tuple [(.agg [(.int .i64 (.var 20)), (.int .i64 (.var 21)), (.int .i64 (.var 22)), (.int .i64 (.var 23)), (.int .i64 (.var 24)), (.int .i64 (.var 25)), (.int .i64 (.var 26)), (.int .i64 (.var 27))]), (.int .i64 (.var 28))]) 9 0
          (.rng 28 1 100 (.call 36 [(.agg [(.complex .f64 (.toF .f64 (.var 0)) (.lit 0)), (.complex .f64 (.toF .f64 (.bin .subI (.lit 0) (.var 1))) (.lit 0)), (.complex .f64 (.toF .f64 (.var 1)) (.lit 0)), (.complex .f64 (.toF .f64 (.var 0)) (.lit 0))]), (.agg [(.complex .f64 (.toF .f64 (.var 0)) (.lit 0)), (.complex .f64 (.toF .f64 (.bin .subI (.lit 0) (.var 1))) (.lit 0)), (.complex .f64 (.toF .f64 (.var 1)) (.lit 0)), (.complex .f64 (.toF .f64 (.var 0)) (.lit 0))])] (.bool (.var 0)) 0 1
          (.ite (.var 0)
          (.call 36 [(.agg [(.complex .f64 (.toF .f64 (.bin .mulI (.var 0) (.var 0))) (.lit 0)), (.complex .f64 (.toF .f64 (.bin .mulI (.var 0) (.var 1))) (.lit 0)), (.complex .f64 (.toF .f64 (.bin .mulI (.var 0) (.var 1))) (.lit 0)), (.complex .f64 (.toF .f64 (.bin .mulI (.var 1) (.var 1))) (.lit 0))]), (.agg [(.complex .f64 (.toF .f64 (.bin .mulI (.var 0) (.var 0))) (.lit 0)), (.complex .f64 (.toF .f64 (.bin .mulI (.var 0) (.var 1))) (.lit 0)), (.complex .f64 (.toF .f64 (.bin .mulI (.var 0) (.var 1))) (.lit 0)), (.complex .f64 (.toF .f64 (.bin .mulI (.var 1) (.var 1))) (.lit 0))])] (.bool (.var 1)) 0 1
           (.ite (.var 1)
           (.ite (.icmp .eql (.var 19) (.var 28))
            (.call 36 [(.agg [(.complex .f64 (.var 11) (.var 12)), (.complex .f64 (.var 13) (.var 14)), (.complex .f64 (.var 15) (.var 16)), (.complex .f64 (.var 17) (.var 18))]), (.agg [(.complex .f64 (.lit 0) (.lit 0)), (.complex .f64 (.lit 0) (.lit 0)), (.complex .f64 (.lit 0) (.lit 0)), (.complex .f64 (.lit 0) (.lit 0))])] (.bool (.var 2)) 0 1
             (.leaf (.bool (.var 2))))
            (.leaf (.bool (.lit false))))
           (.leaf (.bool (.lit false)))))
          (.leaf (.bool (.lit false))))))))
         (.call 39 [(.agg [(.complex .f64 (.var 3) (.var 4)), (.complex .f64 (.var 5) (.var 6)), (.complex .f64 (.var 7) (.var 8)), (.complex .f64 (.var 9) (.var 10))]), (.agg [(.int .i64 (.var 0)), (.int .i64 (.var 1)), (.int .i64 (.var 2))])] (.tuple [(.agg [(.complex .f64 (.var 11) (.var 12)), (.complex .f64 (.var 13) (.var 14)), (.complex .f64 (.var 15) (.var 16)), (.complex .f64 (.var 17) (.var 18))]), (.int .i64 (.var 19))]) 9 0
          (.call 26 [(.agg [(.complex .f64 (.var 3) (.var 4)), (.complex .f64 (.var 5) (.var 6)), (.complex .f64 (.var 7) (.var 8)), (.complex .f64 (.var 9) (.var 10))])] (.tuple [(.agg [(.int .i64 (.var 20)), (.int .i64 (.var 21)), (.int .i64 (.var 22)), (.int .i64 (.var 23)), (.int .i64 (.var 24)), (.int .i64 (.var 25)), (.int .i64 (.var 26)), (.int .i64 (.var 27))]), (.int .i64 (.var 28))]) 9 0
          (.rng 28 1 100 (.call 36 [(.agg [(.complex .f64 (.toF .f64 (.var 0)) (.lit 0)), (.complex .f64 (.toF .f64 (.bin .subI (.lit 0) (.var 1))) (.lit 0)), (.complex .f64 (.toF .f64 (.var 1)) (.lit 0)), (.complex .f64 (.toF .f64 (.var 0)) (.lit 0))]), (.agg [(.complex .f64 (.toF .f64 (.var 0)) (.lit 0)), (.complex .f64 (.toF .f64 (.bin .subI (.lit 0) (.var 1))) (.lit 0)), (.complex .f64 (.toF .f64 (.var 1)) (.lit 0)), (.complex .f64 (.toF .f64 (.var 0)) (.lit 0))])] (.bool (.var 0)) 0 1
          (.ite (.var 0)
          (.call 36 [(.agg [(.complex .f64 (.lit 0) (.lit 0)), (.complex .f64 (.lit 0) (.lit 0)), (.complex .f64 (.lit 0) (.lit 0)), (.complex .f64 (.lit 0) (.lit 0))]), (.agg [(.complex .f64 (.lit 0) (.lit 0)), (.complex .f64 (.lit 0) (.lit 0)), (.complex .f64 (.lit 0) (.lit 0)), (.complex .f64 (.lit 0) (.lit 0))])] (.bool (.lit true)) 0 0
           (.ite (.icmp .eql (.var 19) (.var 28))
           (.call 36 [(.agg [(.complex .f64 (.var 11) (.var 12)), (.complex .f64 (.var 13) (.var 14)), (.complex .f64 (.var 15) (.var 16)), (.complex .f64 (.var 17) (.var 18))]), (.agg [(.complex .f64 (.lit 0) (.lit 0)), (.complex .f64 (.lit 0) (.lit 0)), (.complex .f64 (.lit 0) (.lit 0)), (.complex .f64 (.lit 0) (.lit 0))])] (.bool (.var 1)) 0 1
            (.leaf (.bool (.var 1))))
           (.leaf (.bool (.lit false)))))
          (.leaf (.bool (.lit false)))))))))
        (.call 39 [(.agg [(.complex .f64 (.var 3) (.var 4)), (.complex .f64 (.var 5) (.var 6)), (.complex .f64 (.var 7) (.var 8)), (.complex .f64 (.var 9) (.var 10))]), (.agg [(.int .i64 (.var 0)), (.int .i64 (.var 1)), (.int .i64 (.var 2))])] (.tuple [(.agg [(.complex .f64 (.var 11) (.var 12)), (.complex .f64 (.var 13) (.var 14)), (.complex .f64 (.var 15) (.var 16)), (.complex .f64 (.var 17) (.var 18))]), (.int .i64 (.var 19))]) 9 0
         (.call 26 [(.agg [(.complex .f64 (.var 3) (.var 4)), (.complex .f64 (.var 5) (.var 6)), (.complex .f64 (.var 7) (.var 8)), (.complex .f64 (.var 9) (.var 10))])] (.tuple [(.agg [(.int .i64 (.var 20)), (.int .i64 (.var 21)), (.int .i64 (.var 22)), (.int .i64 (.var 23)), (.int .i64 (.var 24)), (.int .i64 (.var 25)), (.int .i64 (.var 26)), (.int .i64 (.var 27))]), (.int .i64 (.var 28))]) 9 0
         (.rng 28 1 100 (.call 36 [(.agg [(.complex .f64 (.toF .f64 (.var 0)) (.lit 0)), (.complex .f64 (.toF .f64 (.bin .subI (.lit 0) (.var 1))) (.lit 0)), (.complex .f64 (.toF .f64 (.var 1)) (.lit 0)), (.complex .f64 (.toF .f64 (.var 0)) (.lit 0))]), (.agg [(.complex .f64 (.toF .f64 (.var 0)) (.lit 0)), (.complex .f64 (.toF .f64 (.bin .subI (.lit 0) (.var 1))) (.lit 0)), (.complex .f64 (.toF .f64 (.var 1)) (.lit 0)), (.complex .f64 (.toF .f64 (.var 0)) (.lit 0))])] (.bool (.var 0)) 0 1
         (.ite (.var 0)
         (.call 36 [(.agg [(.complex .f64 (.lit 0) (.lit 0)), (.complex .f64 (.lit 0) (.lit 0)), (.complex .f64 (.lit 0) (.lit 0)), (.complex .f64 (.lit 0) (.lit 0))]), (.agg [(.complex .f64 (.lit 0) (.lit 0)), (.complex .f64 (.lit 0) (.lit 0)), (.complex .f64 (.lit 0) (.lit 0)), (.complex .f64 (.lit 0) (.lit 0))])] (.bool (.lit true)) 0 0
          (.ite (.icmp .eql (.var 19) (.var 28))
          (.call 36 [(.agg [(.complex .f64 (.var 11) (.var 12)), (.complex .f64 (.var 13) (.var 14)), (.complex .f64 (.var 15) (.var 16)), (.complex .f64 (.var 17) (.var 18))]), (.agg [(.complex .f64 (.lit 0) (.lit 0)), (.complex .f64 (.lit 0) (.lit 0)), (.complex .f64 (.lit 0) (.lit 0)), (.complex .f64 (.lit 0) (.lit 0))])] (.bool (.var 1)) 0 1
           (.leaf (.bool (.var 1))))
          (.leaf (.bool (.lit false)))))
         (.leaf (.bool (.lit false)))))))))
       (.call 39 [(.agg [(.complex .f64 (.var 3) (.var 4)), (.complex .f64 (.var 5) (.var 6)), (.complex .f64 (.var 7) (.var 8)), (.complex .f64 (.var 9) (.var 10))]), (.agg [(.int .i64 (.var 0)), (.int .i64 (.var 1)), (.int .i64 (.var 2))])] (.tuple [(.agg [(.complex .f64 (.var 11) (.var 12)), (.complex .f64 (.var 13) (.var 14)), (.complex .f64 (.var 15) (.var 16)), (.complex .f64 (.var 17) (.var 18))]), (.int .i64 (.var 19))]) 9 0
        (.call 26 [(.agg [(.complex .f64 (.var 3) (.var 4)), (.complex .f64 (.var 5) (.var 6)), (.complex .f64 (.var 7) (.var 8)), (.complex .f64 (.var 9) (.var 10))])] (.tuple [(.agg [(.int .i64 (.var 20)), (.int .i64 (.var 21)), (.int .i64 (.var 22)), (.int .i64 (.var 23)), (.int .i64 (.var 24)), (.int .i64 (.var 25)), (.int .i64 (.var 26)), (.int .i64 (.var 27))]), (.int .i64 (.var 28))]) 9 0
        (.rng 28 1 100 (.call 36 [(.agg [(.complex .f64 (.toF .f64 (.var 0)) (.lit 0)), (.complex .f64 (.toF .f64 (.bin .subI (.lit 0) (.var 1))) (.lit 0)), (.complex .f64 (.toF .f64 (.var 1)) (.lit 0)), (.complex .f64 (.toF .f64 (.var 0)) (.lit 0))]), (.agg [(.complex .f64 (.toF .f64 (.var 0)) (.lit 0)), (.complex .f64 (.toF .f64 (.bin .subI (.lit 0) (.var 1))) (.lit 0)), (.complex .f64 (.toF .f64 (.var 1)) (.lit 0)), (.complex .f64 (.toF .f64 (.var 0)) (.lit 0))])] (.bool (.var 0)) 0 1
        (.ite (.var 0)
        (.call 36 [(.agg [(.complex .f64 (.lit 0) (.lit 0)), (.complex .f64 (.lit 0) (.lit 0)), (.complex .f64 (.lit 0) (.lit 0)), (.complex .f64 (.lit 0) (.lit 0))]), (.agg [(.complex .f64 (.lit 0) (.lit 0)), (.complex .f64 (.lit 0) (.lit 0)), (.complex .f64 (.lit 0) (.lit 0)), (.complex .f64 (.lit 0) (.lit 0))])] (.bool (.lit true)) 0 0
         (.ite (.icmp .eql (.var 19) (.var 28))
         (.call 36 [(.agg [(.complex .f64 (.var 11) (.var 12)), (.complex .f64 (.var 13) (.var 14)), (.complex .f64 (.var 15) (.var 16)), (.complex .f64 (.var 17) (.var 18))]), (.agg [(.complex .f64 (.lit 0) (.lit 0)), (.complex .f64 (.lit 0) (.lit 0)), (.complex .f64 (.lit 0) (.lit 0)), (.complex .f64 (.lit 0) (.lit 0))])] (.bool (.var 1)) 0 1
          (.leaf (.bool (.var 1))))
         (.leaf (.bool (.lit false)))))
        (.leaf (.bool (.lit false)))))))))
      (.call 39 [(.agg [(.complex .f64 (.var 3) (.var 4)), (.complex .f64 (.var 5) (.var 6)), (.complex .f64 (.var 7) (.var 8)), (.complex .f64 (.var 9) (.var 10))]), (.agg [(.int .i64 (.var 0)), (.int .i64 (.var 1)), (.int .i64 (.var 2))])] (.tuple [(.agg [(.complex .f64 (.var 11) (.var 12)), (.complex .f64 (.var 13) (.var 14)), (.complex .f64 (.var 15) (.var 16)), (.complex .f64 (.var 17) (.var 18))]), (.int .i64 (.var 19))]) 9 0
       (.call 26 [(.agg [(.complex .f64 (.var 3) (.var 4)), (.complex .f64 (.var 5) (.var 6)), (.complex .f64 (.var 7) (.var 8)), (.complex .f64 (.var 9) (.var 10))])] (.tuple [(.agg [(.int .i64 (.var 20)), (.int .i64 (.var 21)), (.int .i64 (.var 22)), (.int .i64 (.var 23)), (.int .i64 (.var 24)), (.int .i64 (.var 25)), (.int .i64 (.var 26)), (.int .i64 (.var 27))]), (.int .i64 (.var 28))]) 9 0
       (.rng 28 1 100 (.call 36 [(.agg [(.complex .f64 (.lit 0) (.lit 0)), (.complex .f64 (.lit 0) (.lit 0)), (.complex .f64 (.lit 0) (.lit 0)), (.complex .f64 (.lit 0) (.lit 0))]), (.agg [(.complex .f64 (.lit 0) (.lit 0)), (.complex .f64 (.lit 0) (.lit 0)), (.complex .f64 (.lit 0) (.lit 0)), (.complex .f64 (.lit 0) (.lit 0))])] (.bool (.lit true)) 0 0
       (.ite (.icmp .eql (.var 19) (.var 28))
       (.call 36 [(.agg [(.complex .f64 (.var 11) (.var 12)), (.complex .f64 (.var 13) (.var 14)), (.complex .f64 (.var 15) (.var 16)), (.complex .f64 (.var 17) (.var 18))]), (.agg [(.complex .f64 (.lit 0) (.lit 0)), (.complex .f64 (.lit 0) (.lit 0)), (.complex .f64 (.lit 0) (.lit 0)), (.complex .f64 (.lit 0) (.lit 0))])] (.bool (.var 0)) 0 1
        (.leaf (.bool (.var 0))))
       (.leaf (.bool (.lit false)))))))))
     (.call 39 [(.agg [(.complex .f64 (.var 3) (.var 4)), (.complex .f64 (.var 5) (.var 6)), (.complex .f64 (.var 7) (.var 8)), (.complex .f64 (.var 9) (.var 10))]), (.agg [(.int .i64 (.var 0)), (.int .i64 (.var 1)), (.int .i64 (.var 2))])] (.tuple [(.agg [(.complex .f64 (.var 11) (.var 12)), (.complex .f64 (.var 13) (.var 14)), (.complex .f64 (.var 15) (.var 16)), (.complex .f64 (.var 17) (.var 18))]), (.int .i64 (.var 19))]) 9 0
      (.call 26 [(.agg [(.complex .f64 (.var 3) (.var 4)), (.complex .f64 (.var 5) (.var 6)), (.complex .f64 (.var 7) (.var 8)), (.complex .f64 (.var 9) (.var 10))])] (.tuple [(.agg [(.int .i64 (.var 20)), (.int .i64 (.var 21)), (.int .i64 (.var 22)), (.int .i64 (.var 23)), (.int .i64 (.var 24)), (.int .i64 (.var 25)), (.int .i64 (.var 26)), (.int .i64 (.var 27))]), (.int .i64 (.var 28))]) 9 0
      (.rng 28 1 100 (.call 36 [(.agg [(.complex .f64 (.lit 0) (.lit 0)), (.complex .f64 (.lit 0) (.lit 0)), (.complex .f64 (.lit 0) (.lit 0)), (.complex .f64 (.lit 0) (.lit 0))]), (.agg [(.complex .f64 (.lit 0) (.lit 0)), (.complex .f64 (.lit 0) (.lit 0)), (.complex .f64 (.lit 0) (.lit 0)), (.complex .f64 (.lit 0) (.lit 0))])] (.bool (.lit true)) 0 0
      (.ite (.icmp .eql (.var 19) (.var 28))
      (.call 36 [(.agg [(.complex .f64 (.var 11) (.var 12)), (.complex .f64 (.var 13) (.var 14)), (.complex .f64 (.var 15) (.var 16)), (.complex .f64 (.var 17) (.var 18))]), (.agg [(.complex .f64 (.lit 0) (.lit 0)), (.complex .f64 (.lit 0) (.lit 0)), (.complex .f64 (.lit 0) (.lit 0)), (.complex .f64 (.lit 0) (.lit 0))])] (.bool (.var 0)) 0 1
       (.leaf (.bool (.var 0))))
      (.leaf (.bool (.lit false)))))))))
    (.call 39 [(.agg [(.complex .f64 (.var 3) (.var 4)), (.complex .f64 (.var 5) (.var 6)), (.complex .f64 (.var 7) (.var 8)), (.complex .f64 (.var 9) (.var 10))]), (.agg [(.int .i64 (.var 0)), (.int .i64 (.var 1)), (.int .i64 (.var 2))])] (.tuple [(.agg [(.complex .f64 (.var 11) (.var 12)), (.complex .f64 (.var 13) (.var 14)), (.complex .f64 (.var 15) (.var 16)), (.complex .f64 (.var 17) (.var 18))]), (.int .i64 (.var 19))]) 9 0
     (.call 26 [(.agg [(.complex .f64 (.var 3) (.var 4)), (.complex .f64 (.var 5) (.var 6)), (.complex .f64 (.var 7) (.var 8)), (.complex .f64 (.var 9) (.var 10))])] (.tuple [(.agg [(.int .i64 (.var 20)), (.int .i64 (.var 21)), (.int .i64 (.var 22)), (.int .i64 (.var 23)), (.int .i64 (.var 24)), (.int .i64 (.var 25)), (.int .i64 (.var 26)), (.int .i64 (.var 27))]), (.int .i64 (.var 28))]) 9 0
     (.rng 28 1 100 (.call 36 [(.agg [(.complex .f64 (.lit 0) (.lit 0)), (.complex .f64 (.lit 0) (.lit 0)), (.complex .f64 (.lit 0) (.lit 0)), (.complex .f64 (.lit 0) (.lit 0))]), (.agg [(.complex .f64 (.lit 0) (.lit 0)), (.complex .f64 (.lit 0) (.lit 0)), (.complex .f64 (.lit 0) (.lit 0)), (.complex .f64 (.lit 0) (.lit 0))])] (.bool (.lit true)) 0 0
     (.ite (.icmp .eql (.var 19) (.var 28))
     (.call 36 [(.agg [(.complex .f64 (.var 11) (.var 12)), (.complex .f64 (.var 13) (.var 14)), (.complex .f64 (.var 15) (.var 16)), (.complex .f64 (.var 17) (.var 18))]), (.agg [(.complex .f64 (.lit 0) (.lit 0)), (.complex .f64 (.lit 0) (.lit 0)), (.complex .f64 (.lit 0) (.lit 0)), (.complex .f64 (.lit 0) (.lit 0))])] (.bool (.var 0)) 0 1
      (.leaf (.bool (.var 0))))
     (.leaf (.bool (.lit false)))))))))
   (.call 39 [(.agg [(.complex .f64 (.var 3) (.var 4)), (.complex .f64 (.var 5) (.var 6)), (.complex .f64 (.var 7) (.var 8)), (.complex .f64 (.var 9) (.var 10))]), (.agg [(.int .i64 (.var 0)), (.int .i64 (.var 1)), (.int .i64 (.var 2))])] (.tuple [(.agg [(.complex .f64 (.var 11) (.var 12)), (.complex .f64 (.var 13) (.var 14)), (.complex .f64 (.var 15) (.var 16)), (.complex .f64 (.var 17) (.var 18))]), (.int .i64 (.var 19))]) 9 0
    (.call 26 [(.agg [(.complex .f64 (.var 3) (.var 4)), (.complex .f64 (.var 5) (.var 6)), (.complex .f64 (.var 7) (.var 8)), (.complex .f64 (.var 9) (.var 10))])] (.tuple [(.agg [(.int .i64 (.var 20)), (.int .i64 (.var 21)), (.int .i64 (.var 22)), (.int .i64 (.var 23)), (.int .i64 (.var 24)), (.int .i64 (.var 25)), (.int .i64 (.var 26)), (.int .i64 (.var 27))]), (.int .i64 (.var 28))]) 9 0
    (.rng 28 1 100 (.call 36 [(.agg [(.complex .f64 (.lit 0) (.lit 0)), (.complex .f64 (.lit 0) (.lit 0)), (.complex .f64 (.lit 0) (.lit 0)), (.complex .f64 (.lit 0) (.lit 0))]), (.agg [(.complex .f64 (.lit 0) (.lit 0)), (.complex .f64 (.lit 0) (.lit 0)), (.complex .f64 (.lit 0) (.lit 0)), (.complex .f64 (.lit 0) (.lit 0))])] (.bool (.lit true)) 0 0
    (.ite (.icmp .eql (.var 19) (.var 28))
    (.call 36 [(.agg [(.complex .f64 (.var 11) (.var 12)), (.complex .f64 (.var 13) (.var 14)), (.complex .f64 (.var 15) (.var 16)), (.complex .f64 (.var 17) (.var 18))]), (.agg [(.complex .f64 (.lit 0) (.lit 0)), (.complex .f64 (.lit 0) (.lit 0)), (.complex .f64 (.lit 0) (.lit 0)), (.complex .f64 (.lit 0) (.lit 0))])] (.bool (.var 0)) 0 1
     (.leaf (.bool (.var 0))))
    (.leaf (.bool (.lit false)))))))))
  (.call 39 [(.agg [(.complex .f64 (.var 3) (.var 4)), (.complex .f64 (.var 5) (.var 6)), (.complex .f64 (.var 7) (.var 8)), (.complex .f64 (.var 9) (.var 10))]), (.agg [(.int .i64 (.var 0)), (.int .i64 (.var 1)), (.int .i64 (.var 2))])] (.tuple [(.agg [(.complex .f64 (.var 11) (.var 12)), (.complex .f64 (.var 13) (.var 14)), (.complex .f64 (.var 15) (.var 16)), (.complex .f64 (.var 17) (.var 18))]), (.int .i64 (.var 19))]) 9 0
   (.call 26 [(.agg [(.complex .f64 (.var 3) (.var 4)), (.complex .f64 (.var 5) (.var 6)), (.complex .f64 (.var 7) (.var 8)), (.complex .f64 (.var 9) (.var 10))])] (.tuple [(.agg [(.int .i64 (.var 20)), (.int .i64 (.var 21)), (.int .i64 (.var 22)), (.int .i64 (.var 23)), (.int .i64 (.var 24)), (.int .i64 (.var 25)), (.int .i64 (.var 26)), (.int .i64 (.var 27))]), (.int .i64 (.var 28))]) 9 0
   (.rng 28 1 100 (.call 36 [(.agg [(.complex .f64 (.lit 0) (.lit 0)), (.complex .f64 (.lit 0) (.lit 0)), (.complex .f64 (.lit 0) (.lit 0)), (.complex .f64 (.lit 0) (.lit 0))]), (.agg [(.complex .f64 (.lit 0) (.lit 0)), (.complex .f64 (.lit 0) (.lit 0)), (.complex .f64 (.lit 0) (.lit 0)), (.complex .f64 (.lit 0) (.lit 0))])] (.bool (.lit true)) 0 0
   (.ite (.icmp .eql (.var 19) (.var 28))
   (.call 36 [(.agg [(.complex .f64 (.var 11) (.var 12)), (.complex .f64 (.var 13) (.var 14)), (.complex .f64 (.var 15) (.var 16)), (.complex .f64 (.var 17) (.var 18))]), (.agg [(.complex .f64 (.lit 0) (.lit 0)), (.complex .f64 (.lit 0) (.lit 0)), (.complex .f64 (.lit 0) (.lit 0)), (.complex .f64 (.lit 0) (.lit 0))])] (.bool (.var 0)) 0 1
    (.leaf (.bool (.var 0))))
   (.leaf (.bool (.lit false))))))))))
def t3_t : Tr :=
  (.call 20 [] (.bool (.lit true)) 0 0
  (.ite (.icmp .leq (.lit 1) (.var 2))
  (.ite (.icmp .leq (.var 2) (.lit 1000))
   (.ite (.icmp .leq (.bin .subI (.lit 0) (.var 2)) (.var 0))
    (.ite (.icmp .leq (.var 0) (.var 2))
     (.ite (.icmp .leq (.bin .subI (.lit 0) (.var 2)) (.var 1))
      (.ite (.icmp .leq (.var 1) (.var 2))
       (.ite (.icmp .eql (.bin (.addW .i64) (.bin (.mulW .i64) (.var 0) (.var 0)) (.bin (.mulW .i64) (.var 1) (.var 1))) (.bin .mulI (.var 2) (.var 2)))
        .nil
        (.call 28 [(.agg [(.complex .f64 (.var 3) (.var 4)), (.complex .f64 (.var 5) (.var 6)), (.complex .f64 (.var 7) (.var 8)), (.complex .f64 (.var 9) (.var 10))])] (.int .i64 (.var 11)) 1 0
         (.ite (.icmp .eql (.var 11) (.lit 0))
         (.call 26 [(.agg [(.complex .f64 (.var 3) (.var 4)), (.complex .f64 (.var 5) (.var 6)), (.complex .f64 (.var 7) (.var 8)), (.complex .f64 (.var 9) (.var 10))])] (.tuple [(.agg [(.int .i64 (.var 12)), (.int .i64 (.var 13)), (.int .i64 (.var 14)), (.int .i64 (.var 15)), (.int .i64 (.var 16)), (.int .i64 (.var 17)), (.int .i64 (.var 18)), (.int .i64 (.var 19))]), (.int .i64 (.var 20))]) 9 0
          (.ite (.icmp .eql (.var 20) (.lit 0))
          (.leaf (.bool (.lit true)))
          (.ite (.icmp .eql (.lit 12) (.var 20))
           (.leaf (.bool (.lit true)))
           (.leaf (.bool (.lit false))))))
         (.call 26 [(.agg [(.complex .f64 (.var 3) (.var 4)), (.complex .f64 (.var 5) (.var 6)), (.complex .f64 (.var 7) (.var 8)), (.complex .f64 (.var 9) (.var 10))])] (.tuple [(.agg [(.int .i64 (.var 12)), (.int .i64 (.var 13)), (.int .i64 (.var 14)), (.int .i64 (.var 15)), (.int .i64 (.var 16)), (.int .i64 (.var 17)), (.int .i64 (.var 18)), (.int .i64 (.var 19))]), (.int .i64 (.var 20))]) 9 0
          (.ite (.icmp .eql (.var 20) (.lit 0))
          (.ite (.icmp .eql (.var 11) (.lit 12))
           (.leaf (.bool (.lit true)))
           (.leaf (.bool (.lit false))))
          (.ite (.icmp .eql (.var 11) (.var 20))
           (.leaf (.bool (.lit true)))
           (.leaf (.bool (.lit false)))))))))
       (.call 28 [(.agg [(.complex .f64 (.var 3) (.var 4)), (.complex .f64 (.var 5) (.var 6)), (.complex .f64 (.var 7) (.var 8)), (.complex .f64 (.var 9) (.var 10))])] (.int .i64 (.var 11)) 1 0
        (.ite (.icmp .eql (.var 11) (.lit 0))
        (.call 26 [(.agg [(.complex .f64 (.var 3) (.var 4)), (.complex .f64 (.var 5) (.var 6)), (.complex .f64 (.var 7) (.var 8)), (.complex .f64 (.var 9) (.var 10))])] (.tuple [(.agg [(.int .i64 (.var 12)), (.int .i64 (.var 13)), (.int .i64 (.var 14)), (.int .i64 (.var 15)), (.int .i64 (.var 16)), (.int .i64 (.var 17)), (.int .i64 (.var 18)), (.int .i64 (.var 19))]), (.int .i64 (.var 20))]) 9 0
         (.ite (.icmp .eql (.var 20) (.lit 0))
         (.leaf (.bool (.lit true)))
         (.ite (.icmp .eql (.lit 12) (.var 20))
          (.leaf (.bool (.lit true)))
          (.leaf (.bool (.lit false))))))
        (.call 26 [(.agg [(.complex .f64 (.var 3) (.var 4)), (.complex .f64 (.var 5) (.var 6)), (.complex .f64 (.var 7) (.var 8)), (.complex .f64 (.var 9) (.var 10))])] (.tuple [(.agg [(.int .i64 (.var 12)), (.int .i64 (.var 13)), (.int .i64 (.var 14)), (.int .i64 (.var 15)), (.int .i64 (.var 16)), (.int .i64 (.var 17)), (.int .i64 (.var 18)), (.int .i64 (.var 19))]), (.int .i64 (.var 20))]) 9 0
         (.ite (.icmp .eql (.var 20) (.lit 0))
         (.ite (.icmp .eql (.var 11) (.lit 12))
          (.leaf (.bool (.lit true)))
          (.leaf (.bool (.lit false))))
         (.ite (.icmp .eql (.var 11) (.var 20))
          (.leaf (.bool (.lit true)))
          (.leaf (.bool (.lit false)))))))))
      (.call 28 [(.agg [(.complex .f64 (.var 3) (.var 4)), (.complex .f64 (.var 5) (.var 6)), (.complex .f64 (.var 7) (.var 8)), (.complex .f64 (.var 9) (.var 10))])] (.int .i64 (.var 11)) 1 0
       (.ite (.icmp .eql (.var 11) (.lit 0))
       (.call 26 [(.agg [(.complex .f64 (.var 3) (.var 4)), (.complex .f64 (.var 5) (.var 6)), (.complex .f64 (.var 7) (.var 8)), (.complex .f64 (.var 9) (.var 10))])] (.tuple [(.agg [(.int .i64 (.var 12)), (.int .i64 (.var 13)), (.int .i64 (.var 14)), (.int .i64 (.var 15)), (.int .i64 (.var 16)), (.int .i64 (.var 17)), (.int .i64 (.var 18)), (.int .i64 (.var 19))]), (.int .i64 (.var 20))]) 9 0
        (.ite (.icmp .eql (.var 20) (.lit 0))
        (.leaf (.bool (.lit true)))
        (.ite (.icmp .eql (.lit 12) (.var 20))
         (.leaf (.bool (.lit true)))
         (.leaf (.bool (.lit false))))))
       (.call 26 [(.agg [(.complex .f64 (.var 3) (.var 4)), (.complex .f64 (.var 5) (.var 6)), (.complex .f64 (.var 7) (.var 8)), (.complex .f64 (.var 9) (.var 10))])] (.tuple [(.agg [(.int .i64 (.var 12)), (.int .i64 (.var 13)), (.int .i64 (.var 14)), (.int .i64 (.var 15)), (.int .i64 (.var 16)), (.int .i64 (.var 17)), (.int .i64 (.var 18)), (.int .i64 (.var 19))]), (.int .i64 (.var 20))]) 9 0
        (.ite (.icmp .eql (.var 20) (.lit 0))
        (.ite (.icmp .eql (.var 11) (.lit 12))
         (.leaf (.bool (.lit true)))
         (.leaf (.bool (.lit false))))
        (.ite (.icmp .eql (.var 11) (.var 20))
         (.leaf (.bool (.lit true)))
         (.leaf (.bool (.lit false)))))))))
     (.call 28 [(.agg [(.complex .f64 (.var 3) (.var 4)), (.complex .f64 (.var 5) (.var 6)), (.complex .f64 (.var 7) (.var 8)), (.complex .f64 (.var 9) (.var 10))])] (.int .i64 (.var 11)) 1 0
      (.ite (.icmp .eql (.var 11) (.lit 0))
      (.call 26 [(.agg [(.complex .f64 (.var 3) (.var 4)), (.complex .f64 (.var 5) (.var 6)), (.complex .f64 (.var 7) (.var 8)), (.complex .f64 (.var 9) (.var 10))])] (.tuple [(.agg [(.int .i64 (.var 12)), (.int .i64 (.var 13)), (.int .i64 (.var 14)), (.int .i64 (.var 15)), (.int .i64 (.var 16)), (.int .i64 (.var 17)), (.int .i64 (.var 18)), (.int .i64 (.var 19))]), (.int .i64 (.var 20))]) 9 0
       (.ite (.icmp .eql (.var 20) (.lit 0))
       (.leaf (.bool (.lit true)))
       (.ite (.icmp .eql (.lit 12) (.var 20))
        (.leaf (.bool (.lit true)))
        (.leaf (.bool (.lit false))))))
      (.call 26 [(.agg [(.complex .f64 (.var 3) (.var 4)), (.complex .f64 (.var 5) (.var 6)), (.complex .f64 (.var 7) (.var 8)), (.complex .f64 (.var 9) (.var 10))])] (.tuple [(.agg [(.int .i64 (.var 12)), (.int .i64 (.var 13)), (.int .i64 (.var 14)), (.int .i64 (.var 15)), (.int .i64 (.var 16)), (.int .i64 (.var 17)), (.int .i64 (.var 18)), (.int .i64 (.var 19))]), (.int .i64 (.var 20))]) 9 0
       (.ite (.icmp .eql (.var 20) (.lit 0))
       (.ite (.icmp .eql (.var 11) (.lit 12))
        (.leaf (.bool (.lit true)))
        (.leaf (.bool (.lit false))))
       (.ite (.icmp .eql (.var 11) (.var 20))
        (.leaf (.bool (.lit true)))
        (.leaf (.bool (.lit false)))))))))
    (.call 28 [(.agg [(.complex .f64 (.var 3) (.var 4)), (.complex .f64 (.var 5) (.var 6)), (.complex .f64 (.var 7) (.var 8)), (.complex .f64 (.var 9) (.var 10))])] (.int .i64 (.var 11)) 1 0
     (.ite (.icmp .eql (.var 11) (.lit 0))
     (.call 26 [(.agg [(.complex .f64 (.var 3) (.var 4)), (.complex .f64 (.var 5) (.var 6)), (.complex .f64 (.var 7) (.var 8)), (.complex .f64 (.var 9) (.var 10))])] (.tuple [(.agg [(.int .i64 (.var 12)), (.int .i64 (.var 13)), (.int .i64 (.var 14)), (.int .i64 (.var 15)), (.int .i64 (.var 16)), (.int .i64 (.var 17)), (.int .i64 (.var 18)), (.int .i64 (.var 19))]), (.int .i64 (.var 20))]) 9 0
      (.ite (.icmp .eql (.var 20) (.lit 0))
      (.leaf (.bool (.lit true)))
      (.ite (.icmp .eql (.lit 12) (.var 20))
       (.leaf (.bool (.lit true)))
       (.leaf (.bool (.lit false))))))
     (.call 26 [(.agg [(.complex .f64 (.var 3) (.var 4)), (.complex .f64 (.var 5) (.var 6)), (.complex .f64 (.var 7) (.var 8)), (.complex .f64 (.var 9) (.var 10))])] (.tuple [(.agg [(.int .i64 (.var 12)), (.int .i64 (.var 13)), (.int .i64 (.var 14)), (.int .i64 (.var 15)), (.int .i64 (.var 16)), (.int .i64 (.var 17)), (.int .i64 (.var 18)), (.int .i64 (.var 19))]), (.int .i64 (.var 20))]) 9 0
      (.ite (.icmp .eql (.var 20) (.lit 0))
      (.ite (.icmp .eql (.var 11) (.lit 12))
       (.leaf (.bool (.lit true)))
       (.leaf (.bool (.lit false))))
      (.ite (.icmp .eql (.var 11) (.var 20))
       (.leaf (.bool (.lit true)))
       (.leaf (.bool (.lit false)))))))))
   (.call 28 [(.agg [(.complex .f64 (.var 3) (.var 4)), (.complex .f64 (.var 5) (.var 6)), (.complex .f64 (.var 7) (.var 8)), (.complex .f64 (.var 9) (.var 10))])] (.int .i64 (.var 11)) 1 0
    (.ite (.icmp .eql (.var 11) (.lit 0))
    (.call 26 [(.agg [(.complex .f64 (.var 3) (.var 4)), (.complex .f64 (.var 5) (.var 6)), (.complex .f64 (.var 7) (.var 8)), (.complex .f64 (.var 9) (.var 10))])] (.tuple [(.agg [(.int .i64 (.var 12)), (.int .i64 (.var 13)), (.int .i64 (.var 14)), (.int .i64 (.var 15)), (.int .i64 (.var 16)), (.int .i64 (.var 17)), (.int .i64 (.var 18)), (.int .i64 (.var 19))]), (.int .i64 (.var 20))]) 9 0
     (.ite (.icmp .eql (.var 20) (.lit 0))
     (.leaf (.bool (.lit true)))
     (.ite (.icmp .eql (.lit 2) (.var 20))
      (.leaf (.bool (.lit true)))
      (.leaf (.bool (.lit false))))))
    (.call 26 [(.agg [(.complex .f64 (.var 3) (.var 4)), (.complex .f64 (.var 5) (.var 6)), (.complex .f64 (.var 7) (.var 8)), (.complex .f64 (.var 9) (.var 10))])] (.tuple [(.agg [(.int .i64 (.var 12)), (.int .i64 (.var 13)), (.int .i64 (.var 14)), (.int .i64 (.var 15)), (.int .i64 (.var 16)), (.int .i64 (.var 17)), (.int .i64 (.var 18)), (.int .i64 (.var 19))]), (.int .i64 (.var 20))]) 9 0
     (.ite (.icmp .eql (.var 20) (.lit 0))
     (.ite (.icmp .eql (.var 11) (.lit 2))
      (.leaf (.bool (.lit true)))
      (.leaf (.bool (.lit false))))
     (.ite (.icmp .eql (.var 11) (.var 20))
      (.leaf (.bool (.lit true)))
      (.leaf (.bool (.lit false)))))))))
  (.call 28 [(.agg [(.complex .f64 (.var 3) (.var 4)), (.complex .f64 (.var 5) (.var 6)), (.complex .f64 (.var 7) (.var 8)), (.complex .f64 (.var 9) (.var 10))])] (.int .i64 (.var 11)) 1 0
   (.ite (.icmp .eql (.var 11) (.lit 0))
   (.call 26 [(.agg [(.complex .f64 (.var 3) (.var 4)), (.complex .f64 (.var 5) (.var 6)), (.complex .f64 (.var 7) (.var 8)), (.complex .f64 (.var 9) (.var 10))])] (.tuple [(.agg [(.int .i64 (.var 12)), (.int .i64 (.var 13)), (.int .i64 (.var 14)), (.int .i64 (.var 15)), (.int .i64 (.var 16)), (.int .i64 (.var 17)), (.int .i64 (.var 18)), (.int .i64 (.var 19))]), (.int .i64 (.var 20))]) 9 0
    (.ite (.icmp .eql (.var 20) (.lit 0))
    (.leaf (.bool (.lit true)))
    (.ite (.icmp .eql (.lit 2) (.var 20))
     (.leaf (.bool (.lit true)))
     (.leaf (.bool (.lit false))))))
   (.call 26 [(.agg [(.complex .f64 (.var 3) (.var 4)), (.complex .f64 (.var 5) (.var 6)), (.complex .f64 (.var 7) (.var 8)), (.complex .f64 (.var 9) (.var 10))])] (.tuple [(.agg [(.int .i64 (.var 12)), (.int .i64 (.var 13)), (.int .i64 (.var 14)), (.int .i64 (.var 15)), (.int .i64 (.var 16)), (.int .i64 (.var 17)), (.int .i64 (.var 18)), (.int .i64 (.var 19))]), (.int .i64 (.var 20))]) 9 0
    (.ite (.icmp .eql (.var 20) (.lit 0))
    (.ite (.icmp .eql (.var 11) (.lit 2))
     (.leaf (.bool (.lit true)))
     (.leaf (.bool (.lit false))))
    (.ite (.icmp .eql (.var 11) (.var 20))
     (.leaf (.bool (.lit true)))
     (.leaf (.bool (.lit false))))))))))
def ct_t : Tr :=
  (.ite (.icmp .leq (.lit 1) (.var 2))
  (.ite (.icmp .leq (.var 2) (.lit 1000))
   (.ite (.icmp .leq (.bin .subI (.lit 0) (.var 2)) (.var 0))
    (.ite (.icmp .leq (.var 0) (.var 2))
     (.ite (.icmp .leq (.bin .subI (.lit 0) (.var 2)) (.var 1))
      (.ite (.icmp .leq (.var 1) (.var 2))
       (.ite (.icmp .eql (.bin (.addW .i64) (.bin (.mulW .i64) (.var 0) (.var 0)) (.bin (.mulW .i64) (.var 1) (.var 1))) (.bin .mulI (.var 2) (.var 2)))
        (.leaf (.int .i64 (.lit 0)))
        (.leaf (.int .i64 (.lit 12))))
       (.leaf (.int .i64 (.lit 12))))
      (.leaf (.int .i64 (.lit 12))))
     (.leaf (.int .i64 (.lit 12))))
    (.leaf (.int .i64 (.lit 12))))
   (.leaf (.int .i64 (.lit 2))))
  (.leaf (.int .i64 (.lit 2))))
def tb_t : Tr :=
  (.call 28 [(.agg [(.complex .f64 (.var 0) (.var 1)), (.complex .f64 (.var 2) (.var 3)), (.complex .f64 (.var 4) (.var 5)), (.complex .f64 (.var 6) (.var 7))])] (.int .i64 (.var 11)) 1 0
  (.rng 11 1 100 (.call 41 [(.agg [(.int .i64 (.var 8)), (.int .i64 (.var 9)), (.int .i64 (.var 10))])] (.int .i64 (.var 12)) 1 0
  (.leaf (.tuple [(.agg [(.complex .f64 (.lit 0) (.lit 0)), (.complex .f64 (.lit 0) (.lit 0)), (.complex .f64 (.lit 0) (.lit 0)), (.complex .f64 (.lit 0) (.lit 0))]), (.int .i64 (.var 11))])))))
def sm_t : Tr :=
  (.ite (.icmp .eql (.bin .maxI (.var 0) (.lit 0)) (.bin .maxI (.var 8) (.lit 0)))
  (.ite (.icmp .eql (.bin .maxI (.var 1) (.lit 0)) (.bin .maxI (.var 9) (.lit 0)))
   (.ite (.icmp .eql (.bin .maxI (.var 2) (.lit 0)) (.bin .maxI (.var 10) (.lit 0)))
    (.ite (.icmp .eql (.bin .maxI (.var 3) (.lit 0)) (.bin .maxI (.var 11) (.lit 0)))
     (.ite (.icmp .eql (.bin .maxI (.var 4) (.lit 0)) (.bin .maxI (.var 12) (.lit 0)))
      (.ite (.icmp .eql (.bin .maxI (.var 5) (.lit 0)) (.bin .maxI (.var 13) (.lit 0)))
       (.ite (.icmp .eql (.bin .maxI (.var 6) (.lit 0)) (.bin .maxI (.var 14) (.lit 0)))
        (.ite (.icmp .eql (.bin .maxI (.var 7) (.lit 0)) (.bin .maxI (.var 15) (.lit 0)))
         (.leaf (.bool (.lit true)))
         (.leaf (.bool (.lit false))))
        (.leaf (.bool (.lit false))))
       (.leaf (.bool (.lit false))))
      (.leaf (.bool (.lit false))))
     (.leaf (.bool (.lit false))))
    (.leaf (.bool (.lit false))))
   (.leaf (.bool (.lit false))))
  (.leaf (.bool (.lit false))))
def ctr_t : Tr :=
  (.ite (.icmp .leq (.bin .subI (.lit 0) (.var 2)) (.var 0))
  (.ite (.icmp .leq (.var 0) (.var 2))
   (.ite (.icmp .leq (.bin .subI (.lit 0) (.var 2)) (.var 1))
    (.ite (.icmp .leq (.var 1) (.var 2))
     (.ite (.icmp .eql (.bin .addI (.bin .mulI (.var 0) (.var 0)) (.bin .mulI (.var 1) (.var 1))) (.bin .mulI (.var 2) (.var 2)))
      (.leaf (.int .i64 (.lit 0)))
      (.leaf (.int .i64 (.lit 12))))
     (.leaf (.int .i64 (.lit 12))))
    (.leaf (.int .i64 (.lit 12))))
   (.leaf (.int .i64 (.lit 12))))
  (.leaf (.int .i64 (.lit 12))))
def bm_t : Tr :=
  (.ite (.icmp .leq (.bin .maxI (.var 0) (.bin .subI (.lit 0) (.var 0))) (.lit 1000))
  (.ite (.icmp .leq (.bin .maxI (.var 1) (.bin .subI (.lit 0) (.var 1))) (.lit 1000))
   (.ite (.icmp .leq (.bin .maxI (.var 2) (.bin .subI (.lit 0) (.var 2))) (.lit 1000))
    (.ite (.icmp .leq (.bin .maxI (.var 3) (.bin .subI (.lit 0) (.var 3))) (.lit 1000))
     (.ite (.icmp .leq (.bin .maxI (.var 4) (.bin .subI (.lit 0) (.var 4))) (.lit 1000))
      (.ite (.icmp .leq (.bin .maxI (.var 5) (.bin .subI (.lit 0) (.var 5))) (.lit 1000))
       (.ite (.icmp .leq (.bin .maxI (.var 6) (.bin .subI (.lit 0) (.var 6))) (.lit 1000))
        (.ite (.icmp .leq (.bin .maxI (.var 7) (.bin .subI (.lit 0) (.var 7))) (.lit 1000))
         (.leaf (.tuple [(.agg [(.complex .f64 (.toF .f64 (.var 0)) (.toF .f64 (.var 1))), (.complex .f64 (.toF .f64 (.var 2)) (.toF .f64 (.var 3))), (.complex .f64 (.toF .f64 (.var 4)) (.toF .f64 (.var 5))), (.complex .f64 (.toF .f64 (.var 6)) (.toF .f64 (.var 7)))]), (.int .i64 (.lit 0))]))
         (.leaf (.tuple [(.agg [(.complex .f64 (.lit 0) (.lit 0)), (.complex .f64 (.lit 0) (.lit 0)), (.complex .f64 (.lit 0) (.lit 0)), (.complex .f64 (.lit 0) (.lit 0))]), (.int .i64 (.lit 8))])))
        (.leaf (.tuple [(.agg [(.complex .f64 (.lit 0) (.lit 0)), (.complex .f64 (.lit 0) (.lit 0)), (.complex .f64 (.lit 0) (.lit 0)), (.complex .f64 (.lit 0) (.lit 0))]), (.int .i64 (.lit 8))])))
       (.leaf (.tuple [(.agg [(.complex .f64 (.lit 0) (.lit 0)), (.complex .f64 (.lit 0) (.lit 0)), (.complex .f64 (.lit 0) (.lit 0)), (.complex .f64 (.lit 0) (.lit 0))]), (.int .i64 (.lit 8))])))
      (.leaf (.tuple [(.agg [(.complex .f64 (.lit 0) (.lit 0)), (.complex .f64 (.lit 0) (.lit 0)), (.complex .f64 (.lit 0) (.lit 0)), (.complex .f64 (.lit 0) (.lit 0))]), (.int .i64 (.lit 8))])))
     (.leaf (.tuple [(.agg [(.complex .f64 (.lit 0) (.lit 0)), (.complex .f64 (.lit 0) (.lit 0)), (.complex .f64 (.lit 0) (.lit 0)), (.complex .f64 (.lit 0) (.lit 0))]), (.int .i64 (.lit 8))])))
    (.leaf (.tuple [(.agg [(.complex .f64 (.lit 0) (.lit 0)), (.complex .f64 (.lit 0) (.lit 0)), (.complex .f64 (.lit 0) (.lit 0)), (.complex .f64 (.lit 0) (.lit 0))]), (.int .i64 (.lit 8))])))
   (.leaf (.tuple [(.agg [(.complex .f64 (.lit 0) (.lit 0)), (.complex .f64 (.lit 0) (.lit 0)), (.complex .f64 (.lit 0) (.lit 0)), (.complex .f64 (.lit 0) (.lit 0))]), (.int .i64 (.lit 8))])))
  (.leaf (.tuple [(.agg [(.complex .f64 (.lit 0) (.lit 0)), (.complex .f64 (.lit 0) (.lit 0)), (.complex .f64 (.lit 0) (.lit 0)), (.complex .f64 (.lit 0) (.lit 0))]), (.int .i64 (.lit 8))])))
end Go.Proofs.Ytlondnchmfhenaa.Ev
