/- Which chambers are right: the program and the reference say the same. -/
import Derived.Test.YtheopgjjkgklpaaFnm
namespace Go.Proofs.Ytheopgjjkgklpaa.Ev
set_option linter.unusedSimpArgs false
open Go Go.RowKit
set_option linter.unusedVariables false
set_option maxRecDepth 100000
def grow_CheckChamber_s : Sig := ⟨10, ⟨2, 0, 5⟩, ⟨2, 0, 0⟩, [(.agg [(.asl 0 (.var 0)), (.asl 1 (.var 1))])], [(some ⟨[], 9, true, false, (some ⟨(.var 0), [.str], [(.avar 0)]⟩)⟩), (some ⟨[], 91, true, false, (some ⟨(.var 1), [(.int .i64), .bool, (.int .i64), .bool], [(.avar 1), (.avar 2), (.avar 3), (.avar 4)]⟩)⟩)], (.tuple [(.int .i64 (.var 2)), (.int .i64 (.var 3))]), []⟩
def etalonref08_CheckChamber_s : Sig := ⟨15, ⟨2, 0, 5⟩, ⟨2, 0, 0⟩, [(.agg [(.asl 0 (.var 0)), (.asl 1 (.var 1))])], [(some ⟨[], 9, true, false, (some ⟨(.var 0), [.str], [(.avar 0)]⟩)⟩), (some ⟨[], 91, true, false, (some ⟨(.var 1), [(.int .i64), .bool, (.int .i64), .bool], [(.avar 1), (.avar 2), (.avar 3), (.avar 4)]⟩)⟩)], (.tuple [(.int .i64 (.var 2)), (.int .i64 (.var 3))]), []⟩

def ccp_t : Tr :=
  (.ite (.icmp .leq (.var 0) (.lit 8))
  (.loop ⟨10, [0, 1, 0, 1, 1], [(.agg [(.asl 0 (.var 0)), (.asl 1 (.var 1))]), (.ptr (some ⟨2, 0, none⟩)), (.int .i64 (.lit 0)), (.int .i64 (.lit 0)), (.tuple []), (.tuple []), (.tuple []), (.tuple []), (.ptr (some ⟨2, 0, none⟩)), (.asl 0 (.var 0)), (.int .i64 (.var 0)), (.bool (.icmp .gtr (.var 0) (.lit 8))), (.ptr (some ⟨2, 0, none⟩)), (.asl 0 (.var 0)), (.int .i64 (.var 0)), (.int .i64 (.lit 0)), (.tuple []), (.tuple []), (.tuple []), (.tuple []), (.tuple []), (.tuple []), (.tuple []), (.tuple []), (.tuple []), (.tuple []), (.tuple []), (.tuple []), (.tuple []), (.tuple []), (.tuple []), (.tuple []), (.tuple []), (.tuple []), (.tuple []), (.tuple []), (.tuple []), (.tuple []), (.tuple []), (.tuple []), (.tuple []), (.tuple []), (.tuple []), (.tuple []), (.tuple []), (.tuple []), (.tuple []), (.tuple []), (.tuple []), (.tuple []), (.tuple []), (.tuple []), (.tuple []), (.tuple []), (.tuple []), (.tuple []), (.tuple []), (.tuple [])], [(some ⟨[], 9, true, false, (some ⟨(.var 0), [.str], [(.avar 0)]⟩)⟩), (some ⟨[], 91, true, false, (some ⟨(.var 1), [(.int .i64), .bool, (.int .i64), .bool], [(.avar 1), (.avar 2), (.avar 3), (.avar 4)]⟩)⟩), (some ⟨[(.asl 0 (.var 0)), (.asl 1 (.var 1))], 25, false, false, none⟩)], [], [(.agg [(.asl 0 (.var 0)), (.asl 1 (.var 1))]), (.ptr (some ⟨2, 0, none⟩)), (.int .i64 (.lit 0)), (.int .i64 (.lit 0)), (.any 4), (.any 5), (.tuple []), (.tuple []), (.ptr (some ⟨2, 0, none⟩)), (.asl 0 (.var 0)), (.int .i64 (.var 0)), (.bool (.icmp .gtr (.var 0) (.lit 8))), (.ptr (some ⟨2, 0, none⟩)), (.asl 0 (.var 0)), (.int .i64 (.var 0)), (.int .i64 (.var 2)), (.any 16), (.any 17), (.any 18), (.any 19), (.any 20), (.any 21), (.any 22), (.tuple []), (.any 24), (.any 25), (.any 26), (.any 27), (.any 28), (.any 29), (.tuple []), (.any 31), (.tuple []), (.tuple []), (.tuple []), (.tuple []), (.tuple []), (.tuple []), (.tuple []), (.tuple []), (.tuple []), (.tuple []), (.tuple []), (.tuple []), (.tuple []), (.tuple []), (.tuple []), (.tuple []), (.tuple []), (.tuple []), (.tuple []), (.tuple []), (.tuple []), (.tuple []), (.tuple []), (.tuple []), (.tuple []), (.tuple [])], [(some ⟨[], 9, true, false, (some ⟨(.var 0), [.str], [(.avar 0)]⟩)⟩), (some ⟨[], 91, true, false, (some ⟨(.var 1), [(.int .i64), .bool, (.int .i64), .bool], [(.avar 1), (.avar 2), (.avar 3), (.avar 4)]⟩)⟩), (some ⟨[(.asl 0 (.var 0)), (.asl 1 (.var 1))], 25, false, false, none⟩)], [], ⟨1, 0, 0⟩, ⟨[(.lit 0)], [], []⟩, []⟩
   (.rng 2 0 8 (.ite (.icmp .leq (.var 0) (.var 2))
    (.out 1 ⟨[], [], []⟩ [])
    (.call text_IsName_s ⟨[(.sel (.avar 0) (.var 2))], [], []⟩ ⟨[(.sel (.avar 0) (.var 2))], [(.var 0)], []⟩ ⟨40, [(.strn (.sel (.avar 0) (.var 2)))], [], [none, none, none], (.bool (.var 0)), []⟩
     (.ite (.var 0)
     (.ite (.icmp .leq (.var 2) (.var 0))
      (.loop ⟨83, [0, 1, 0, 1], [(.rsl 0 1 (.lit 0) (.var 2)), (.strn (.sel (.avar 0) (.var 2))), (.tuple []), (.tuple []), (.int .i64 (.lit 0)), (.tuple []), (.rsl 0 1 (.lit 0) (.var 2)), (.int .i64 (.bin .subI (.var 2) (.lit 0))), (.int .i64 (.lit 0)), (.tuple []), (.tuple []), (.tuple []), (.tuple []), (.tuple []), (.tuple []), (.tuple []), (.tuple []), (.tuple []), (.tuple [])], [(some ⟨[], 9, true, false, (some ⟨(.var 0), [.str], [(.avar 0)]⟩)⟩), (some ⟨[], 91, true, false, (some ⟨(.var 1), [(.int .i64), .bool, (.int .i64), .bool], [(.avar 1), (.avar 2), (.avar 3), (.avar 4)]⟩)⟩), (some ⟨[(.asl 0 (.var 0)), (.asl 1 (.var 1))], 25, false, false, none⟩)], [], [(.rsl 0 1 (.lit 0) (.var 2)), (.strn (.sel (.avar 0) (.var 2))), (.tuple []), (.tuple []), (.int .i64 (.lit 0)), (.any 5), (.rsl 0 1 (.lit 0) (.var 2)), (.int .i64 (.bin .subI (.var 2) (.lit 0))), (.int .i64 (.var 3)), (.any 9), (.any 10), (.any 11), (.any 12), (.any 13), (.any 14), (.any 15), (.any 16), (.tuple []), (.any 18)], [(some ⟨[], 9, true, false, (some ⟨(.var 0), [.str], [(.avar 0)]⟩)⟩), (some ⟨[], 91, true, false, (some ⟨(.var 1), [(.int .i64), .bool, (.int .i64), .bool], [(.avar 1), (.avar 2), (.avar 3), (.avar 4)]⟩)⟩), (some ⟨[(.asl 0 (.var 0)), (.asl 1 (.var 1))], 25, false, false, none⟩)], [], ⟨1, 0, 0⟩, ⟨[(.lit 0)], [], []⟩, []⟩
       (.rng 3 0 8 (.ite (.icmp .leq (.bin .subI (.var 2) (.lit 0)) (.var 3))
        (.out 1 ⟨[], [], []⟩ [])
        (.ite (.icmp .leq (.var 0) (.var 3))
         .nil
         (.ite (.icmp .eql (.bin .maxI (.sel (.avar 0) (.var 2)) (.lit 0)) (.bin .maxI (.sel (.avar 0) (.var 3)) (.lit 0)))
          (.out 0 ⟨[(.var 3)], [], []⟩ [])
          (.next ⟨[(.bin .addI (.var 3) (.lit 1))], [], []⟩ [])))))
       (.ex (.ret, [(.rsl 0 1 (.lit 0) (.var 2)), (.strn (.sel (.avar 0) (.var 2))), (.tuple []), (.tuple []), (.int .i64 (.var 3)), (.any 5), (.rsl 0 1 (.lit 0) (.var 2)), (.int .i64 (.bin .subI (.var 2) (.lit 0))), (.any 8), (.any 9), (.any 10), (.any 11), (.any 12), (.any 13), (.any 14), (.any 15), (.any 16), (.any 17), (.any 18)], [(some ⟨[], 9, true, false, (some ⟨(.var 0), [.str], [(.avar 0)]⟩)⟩), (some ⟨[], 91, true, false, (some ⟨(.var 1), [(.int .i64), .bool, (.int .i64), .bool], [(.avar 1), (.avar 2), (.avar 3), (.avar 4)]⟩)⟩), (some ⟨[(.asl 0 (.var 0)), (.asl 1 (.var 1))], 25, false, false, none⟩)], []) ⟨1, 0, 0⟩
       (.rng 3 (-9223372036854775808) 9223372036854775807 (.ite (.icmp .leq (.lit 0) (.var 3))
        (.out 0 ⟨[(.var 2), (.lit 5)], [], []⟩ [])
        (.next ⟨[(.bin .addI (.var 2) (.lit 1))], [], []⟩ [])))
       (.ex ((.exit 0), [(.rsl 0 1 (.lit 0) (.var 2)), (.strn (.sel (.avar 0) (.var 2))), (.tuple []), (.tuple []), (.int .i64 (.lit 0)), (.any 5), (.rsl 0 1 (.lit 0) (.var 2)), (.int .i64 (.bin .subI (.var 2) (.lit 0))), (.any 8), (.any 9), (.any 10), (.any 11), (.any 12), (.any 13), (.any 14), (.any 15), (.any 16), (.tuple []), (.any 18)], [(some ⟨[], 9, true, false, (some ⟨(.var 0), [.str], [(.avar 0)]⟩)⟩), (some ⟨[], 91, true, false, (some ⟨(.var 1), [(.int .i64), .bool, (.int .i64), .bool], [(.avar 1), (.avar 2), (.avar 3), (.avar 4)]⟩)⟩), (some ⟨[(.asl 0 (.var 0)), (.asl 1 (.var 1))], 25, false, false, none⟩)], []) ⟨0, 0, 0⟩
       (.next ⟨[(.bin .addI (.var 2) (.lit 1))], [], []⟩ [])
       .nil)))
      .nil)
     (.out 0 ⟨[(.var 2), (.lit 3)], [], []⟩ [])))))
   (.ex (.ret, [(.agg [(.asl 0 (.var 0)), (.asl 1 (.var 1))]), (.ptr (some ⟨2, 0, none⟩)), (.int .i64 (.var 2)), (.int .i64 (.var 3)), (.any 4), (.any 5), (.tuple []), (.tuple []), (.ptr (some ⟨2, 0, none⟩)), (.asl 0 (.var 0)), (.int .i64 (.var 0)), (.bool (.icmp .gtr (.var 0) (.lit 8))), (.ptr (some ⟨2, 0, none⟩)), (.asl 0 (.var 0)), (.int .i64 (.var 0)), (.any 15), (.any 16), (.any 17), (.any 18), (.any 19), (.any 20), (.any 21), (.any 22), (.any 23), (.any 24), (.any 25), (.any 26), (.any 27), (.any 28), (.any 29), (.any 30), (.any 31), (.tuple []), (.tuple []), (.tuple []), (.tuple []), (.tuple []), (.tuple []), (.tuple []), (.tuple []), (.tuple []), (.tuple []), (.tuple []), (.tuple []), (.tuple []), (.tuple []), (.tuple []), (.tuple []), (.tuple []), (.tuple []), (.tuple []), (.tuple []), (.tuple []), (.tuple []), (.tuple []), (.tuple []), (.tuple []), (.tuple [])], [(some ⟨[], 9, true, false, (some ⟨(.var 0), [.str], [(.avar 0)]⟩)⟩), (some ⟨[], 91, true, false, (some ⟨(.var 1), [(.int .i64), .bool, (.int .i64), .bool], [(.avar 1), (.avar 2), (.avar 3), (.avar 4)]⟩)⟩), (some ⟨[(.asl 0 (.var 0)), (.asl 1 (.var 1))], 25, false, false, none⟩)], []) ⟨2, 0, 0⟩
   (.rng 2 (-9223372036854775808) 9223372036854775807 (.rng 3 (-9223372036854775808) 9223372036854775807 (.ret ⟨[(.var 2), (.var 3)], [], []⟩ [])))
   (.ex ((.exit 0), [(.agg [(.asl 0 (.var 0)), (.asl 1 (.var 1))]), (.ptr (some ⟨2, 0, none⟩)), (.int .i64 (.lit 0)), (.int .i64 (.lit 0)), (.any 4), (.any 5), (.tuple []), (.tuple []), (.ptr (some ⟨2, 0, none⟩)), (.asl 0 (.var 0)), (.int .i64 (.var 0)), (.bool (.icmp .gtr (.var 0) (.lit 8))), (.ptr (some ⟨2, 0, none⟩)), (.asl 0 (.var 0)), (.int .i64 (.var 0)), (.any 15), (.any 16), (.any 17), (.any 18), (.any 19), (.any 20), (.any 21), (.any 22), (.tuple []), (.any 24), (.any 25), (.any 26), (.any 27), (.any 28), (.any 29), (.tuple []), (.any 31), (.tuple []), (.tuple []), (.tuple []), (.tuple []), (.tuple []), (.tuple []), (.tuple []), (.tuple []), (.tuple []), (.tuple []), (.tuple []), (.tuple []), (.tuple []), (.tuple []), (.tuple []), (.tuple []), (.tuple []), (.tuple []), (.tuple []), (.tuple []), (.tuple []), (.tuple []), (.tuple []), (.tuple []), (.tuple []), (.tuple [])], [(some ⟨[], 9, true, false, (some ⟨(.var 0), [.str], [(.avar 0)]⟩)⟩), (some ⟨[], 91, true, false, (some ⟨(.var 1), [(.int .i64), .bool, (.int .i64), .bool], [(.avar 1), (.avar 2), (.avar 3), (.avar 4)]⟩)⟩), (some ⟨[(.asl 0 (.var 0)), (.asl 1 (.var 1))], 25, false, false, none⟩)], []) ⟨0, 0, 0⟩
   (.ite (.icmp .leq (.var 1) (.lit 30))
    (.loop ⟨10, [0, 1, 0, 1, 1, 1, 1], [(.agg [(.asl 0 (.var 0)), (.asl 1 (.var 1))]), (.ptr (some ⟨2, 0, none⟩)), (.int .i64 (.lit 0)), (.int .i64 (.lit 0)), (.any 4), (.any 5), (.tuple []), (.tuple []), (.ptr (some ⟨2, 0, none⟩)), (.asl 0 (.var 0)), (.int .i64 (.var 0)), (.bool (.icmp .gtr (.var 0) (.lit 8))), (.ptr (some ⟨2, 0, none⟩)), (.asl 0 (.var 0)), (.int .i64 (.var 0)), (.any 15), (.any 16), (.any 17), (.any 18), (.any 19), (.any 20), (.any 21), (.any 22), (.tuple []), (.any 24), (.any 25), (.any 26), (.any 27), (.any 28), (.any 29), (.tuple []), (.any 31), (.ptr (some ⟨2, 1, none⟩)), (.asl 1 (.var 1)), (.int .i64 (.var 1)), (.bool (.icmp .gtr (.var 1) (.lit 30))), (.ptr (some ⟨2, 1, none⟩)), (.asl 1 (.var 1)), (.int .i64 (.var 1)), (.int .i64 (.lit 0)), (.tuple []), (.tuple []), (.tuple []), (.tuple []), (.tuple []), (.tuple []), (.tuple []), (.tuple []), (.tuple []), (.tuple []), (.tuple []), (.tuple []), (.tuple []), (.tuple []), (.tuple []), (.tuple []), (.tuple []), (.tuple [])], [(some ⟨[], 9, true, false, (some ⟨(.var 0), [.str], [(.avar 0)]⟩)⟩), (some ⟨[], 91, true, false, (some ⟨(.var 1), [(.int .i64), .bool, (.int .i64), .bool], [(.avar 1), (.avar 2), (.avar 3), (.avar 4)]⟩)⟩), (some ⟨[(.asl 0 (.var 0)), (.asl 1 (.var 1))], 25, false, false, none⟩)], [], [(.agg [(.asl 0 (.var 0)), (.asl 1 (.var 1))]), (.ptr (some ⟨2, 0, none⟩)), (.int .i64 (.lit 0)), (.int .i64 (.lit 0)), (.any 4), (.any 5), (.any 6), (.any 7), (.ptr (some ⟨2, 0, none⟩)), (.asl 0 (.var 0)), (.int .i64 (.var 0)), (.bool (.icmp .gtr (.var 0) (.lit 8))), (.ptr (some ⟨2, 0, none⟩)), (.asl 0 (.var 0)), (.int .i64 (.var 0)), (.any 15), (.any 16), (.any 17), (.any 18), (.any 19), (.any 20), (.any 21), (.any 22), (.tuple []), (.any 24), (.any 25), (.any 26), (.any 27), (.any 28), (.any 29), (.tuple []), (.any 31), (.ptr (some ⟨2, 1, none⟩)), (.asl 1 (.var 1)), (.int .i64 (.var 1)), (.bool (.icmp .gtr (.var 1) (.lit 30))), (.ptr (some ⟨2, 1, none⟩)), (.asl 1 (.var 1)), (.int .i64 (.var 1)), (.int .i64 (.var 2)), (.any 40), (.any 41), (.any 42), (.any 43), (.any 44), (.any 45), (.any 46), (.any 47), (.any 48), (.any 49), (.any 50), (.any 51), (.any 52), (.any 53), (.any 54), (.any 55), (.tuple []), (.any 57)], [(some ⟨[], 9, true, false, (some ⟨(.var 0), [.str], [(.avar 0)]⟩)⟩), (some ⟨[], 91, true, false, (some ⟨(.var 1), [(.int .i64), .bool, (.int .i64), .bool], [(.avar 1), (.avar 2), (.avar 3), (.avar 4)]⟩)⟩), (some ⟨[(.asl 0 (.var 0)), (.asl 1 (.var 1))], 25, false, false, none⟩)], [], ⟨1, 0, 0⟩, ⟨[(.lit 0)], [], []⟩, []⟩
     (.rng 2 0 30 (.ite (.icmp .leq (.var 1) (.var 2))
      (.out 1 ⟨[], [], []⟩ [])
      (.ite (.icmp .leq (.lit 0) (.sel (.avar 1) (.var 2)))
       (.ite (.icmp .leq (.sel (.avar 1) (.var 2)) (.bin .subI (.var 0) (.lit 1)))
        (.ite (.icmp .leq (.lit 0) (.sel (.avar 3) (.var 2)))
         (.ite (.icmp .leq (.sel (.avar 3) (.var 2)) (.bin .subI (.var 0) (.lit 1)))
          (.next ⟨[(.bin .addI (.var 2) (.lit 1))], [], []⟩ [])
          (.out 0 ⟨[(.var 2)], [], []⟩ []))
         (.out 0 ⟨[(.var 2)], [], []⟩ []))
        (.out 0 ⟨[(.var 2)], [], []⟩ []))
       (.out 0 ⟨[(.var 2)], [], []⟩ []))))
     (.ex (.ret, [(.agg [(.asl 0 (.var 0)), (.asl 1 (.var 1))]), (.ptr (some ⟨2, 0, none⟩)), (.int .i64 (.var 2)), (.int .i64 (.lit 6)), (.any 4), (.any 5), (.any 6), (.any 7), (.ptr (some ⟨2, 0, none⟩)), (.asl 0 (.var 0)), (.int .i64 (.var 0)), (.bool (.icmp .gtr (.var 0) (.lit 8))), (.ptr (some ⟨2, 0, none⟩)), (.asl 0 (.var 0)), (.int .i64 (.var 0)), (.any 15), (.any 16), (.any 17), (.any 18), (.any 19), (.any 20), (.any 21), (.any 22), (.tuple []), (.any 24), (.any 25), (.any 26), (.any 27), (.any 28), (.any 29), (.tuple []), (.any 31), (.ptr (some ⟨2, 1, none⟩)), (.asl 1 (.var 1)), (.int .i64 (.var 1)), (.bool (.icmp .gtr (.var 1) (.lit 30))), (.ptr (some ⟨2, 1, none⟩)), (.asl 1 (.var 1)), (.int .i64 (.var 1)), (.any 39), (.any 40), (.any 41), (.any 42), (.any 43), (.any 44), (.any 45), (.any 46), (.any 47), (.any 48), (.any 49), (.any 50), (.any 51), (.any 52), (.any 53), (.any 54), (.any 55), (.any 56), (.any 57)], [(some ⟨[], 9, true, false, (some ⟨(.var 0), [.str], [(.avar 0)]⟩)⟩), (some ⟨[], 91, true, false, (some ⟨(.var 1), [(.int .i64), .bool, (.int .i64), .bool], [(.avar 1), (.avar 2), (.avar 3), (.avar 4)]⟩)⟩), (some ⟨[(.asl 0 (.var 0)), (.asl 1 (.var 1))], 25, false, false, none⟩)], []) ⟨1, 0, 0⟩
     (.rng 2 (-9223372036854775808) 9223372036854775807 (.ret ⟨[(.var 2), (.lit 6)], [], []⟩ []))
     (.ex ((.exit 2), [(.agg [(.asl 0 (.var 0)), (.asl 1 (.var 1))]), (.ptr (some ⟨2, 0, none⟩)), (.int .i64 (.lit 0)), (.int .i64 (.lit 0)), (.any 4), (.any 5), (.any 6), (.any 7), (.ptr (some ⟨2, 0, none⟩)), (.asl 0 (.var 0)), (.int .i64 (.var 0)), (.bool (.icmp .gtr (.var 0) (.lit 8))), (.ptr (some ⟨2, 0, none⟩)), (.asl 0 (.var 0)), (.int .i64 (.var 0)), (.any 15), (.any 16), (.any 17), (.any 18), (.any 19), (.any 20), (.any 21), (.any 22), (.tuple []), (.any 24), (.any 25), (.any 26), (.any 27), (.any 28), (.any 29), (.tuple []), (.any 31), (.ptr (some ⟨2, 1, none⟩)), (.asl 1 (.var 1)), (.int .i64 (.var 1)), (.bool (.icmp .gtr (.var 1) (.lit 30))), (.ptr (some ⟨2, 1, none⟩)), (.asl 1 (.var 1)), (.int .i64 (.var 1)), (.any 39), (.any 40), (.any 41), (.any 42), (.any 43), (.any 44), (.any 45), (.any 46), (.any 47), (.any 48), (.any 49), (.any 50), (.any 51), (.any 52), (.any 53), (.any 54), (.any 55), (.tuple []), (.any 57)], [(some ⟨[], 9, true, false, (some ⟨(.var 0), [.str], [(.avar 0)]⟩)⟩), (some ⟨[], 91, true, false, (some ⟨(.var 1), [(.int .i64), .bool, (.int .i64), .bool], [(.avar 1), (.avar 2), (.avar 3), (.avar 4)]⟩)⟩), (some ⟨[(.asl 0 (.var 0)), (.asl 1 (.var 1))], 25, false, false, none⟩)], []) ⟨0, 0, 0⟩
     (.ret ⟨[(.lit 0), (.lit 0)], [], []⟩ [])
     .nil)))
    (.ret ⟨[(.lit 0), (.lit 8)], [], []⟩ []))
   .nil)))
  (.ret ⟨[(.lit 0), (.lit 8)], [], []⟩ []))
theorem ccp {x0 x1 : Int} {f0 f1 f2 f3 f4 : Int → Int} (r0 : 0 ≤ x0 ∧ x0 ≤ 10) (r1 : 0 ≤ x1 ∧ x1 ≤ 32) (s1 : ∀ q, (-9223372036854775808) ≤ f1 q ∧ f1 q ≤ 9223372036854775807) (s3 : ∀ q, (-9223372036854775808) ≤ f3 q ∧ f3 q ≤ 9223372036854775807) {R : Int → Int → Prop}
  (H : ((decide ((x0 : Int) ≤ 8) = true → (∃ (I2 : Int → Prop) (rk2 : Int → Nat), I2 (0) ∧
    (∀ x2 : Int, I2 x2 → ((0 ≤ (x2 : Int) ∧ (x2 : Int) ≤ 8) ∧ ((decide ((x0 : Int) ≤ x2) = true → ((decide ((x1 : Int) ≤ 30) = true → (∃ (I2' : Int → Prop) (rk2' : Int → Nat), I2' (0) ∧
      (∀ x2' : Int, I2' x2' → ((0 ≤ (x2' : Int) ∧ (x2' : Int) ≤ 30) ∧ ((decide ((x1 : Int) ≤ x2') = true → R (0) (0)) ∧
       (decide ((x1 : Int) ≤ x2') = false → ((decide ((0 : Int) ≤ (f1 x2')) = true → ((decide (((f1 x2') : Int) ≤ (x0 - 1)) = true → ((decide ((0 : Int) ≤ (f3 x2')) = true → ((decide (((f3 x2') : Int) ≤ (x0 - 1)) = true → (I2' ((x2' + 1)) ∧ rk2' ((x2' + 1)) < rk2' x2')) ∧
           (decide (((f3 x2') : Int) ≤ (x0 - 1)) = false → (((-9223372036854775808) ≤ ((x2') : Int) ∧ ((x2') : Int) ≤ 9223372036854775807) ∧ R ((x2')) (6))))) ∧
          (decide ((0 : Int) ≤ (f3 x2')) = false → (((-9223372036854775808) ≤ ((x2') : Int) ∧ ((x2') : Int) ≤ 9223372036854775807) ∧ R ((x2')) (6))))) ∧
         (decide (((f1 x2') : Int) ≤ (x0 - 1)) = false → (((-9223372036854775808) ≤ ((x2') : Int) ∧ ((x2') : Int) ≤ 9223372036854775807) ∧ R ((x2')) (6))))) ∧
        (decide ((0 : Int) ≤ (f1 x2')) = false → (((-9223372036854775808) ≤ ((x2') : Int) ∧ ((x2') : Int) ≤ 9223372036854775807) ∧ R ((x2')) (6)))))))))) ∧
     (decide ((x1 : Int) ≤ 30) = false → R (0) (8)))) ∧
     (decide ((x0 : Int) ≤ x2) = false → (∃ u0 : Bool, Spec Try.prog text_IsName_s ⟨[(f0 x2)], [], []⟩ [] [u0] [] ∧
      ((u0 = true → ((decide ((x2 : Int) ≤ x0) = true → (∃ (I3 : Int → Prop) (rk3 : Int → Nat), I3 (0) ∧
        (∀ x3 : Int, I3 x3 → ((0 ≤ (x3 : Int) ∧ (x3 : Int) ≤ 8) ∧ ((decide (((x2 - 0) : Int) ≤ x3) = true → (I2 ((x2 + 1)) ∧ rk2 ((x2 + 1)) < rk2 x2)) ∧
         (decide (((x2 - 0) : Int) ≤ x3) = false → ((decide ((x0 : Int) ≤ x3) = true → False) ∧
          (decide ((x0 : Int) ≤ x3) = false → (((((if (0 : Int) > (f0 x2) then 0 else (f0 x2)) : Int) == (if (0 : Int) > (f0 x3) then 0 else (f0 x3))) = true → (((-9223372036854775808) ≤ ((x3) : Int) ∧ ((x3) : Int) ≤ 9223372036854775807) ∧ ((decide ((0 : Int) ≤ (x3)) = true → (((-9223372036854775808) ≤ ((x2) : Int) ∧ ((x2) : Int) ≤ 9223372036854775807) ∧ (((-9223372036854775808) ≤ ((5) : Int) ∧ ((5) : Int) ≤ 9223372036854775807) ∧ R ((x2)) ((5))))) ∧
         (decide ((0 : Int) ≤ (x3)) = false → (I2 ((x2 + 1)) ∧ rk2 ((x2 + 1)) < rk2 x2))))) ∧
           ((((if (0 : Int) > (f0 x2) then 0 else (f0 x2)) : Int) == (if (0 : Int) > (f0 x3) then 0 else (f0 x3))) = false → (I3 ((x3 + 1)) ∧ rk3 ((x3 + 1)) < rk3 x3))))))))))) ∧
       (decide ((x2 : Int) ≤ x0) = false → False))) ∧
      (u0 = false → (((-9223372036854775808) ≤ ((x2) : Int) ∧ ((x2) : Int) ≤ 9223372036854775807) ∧ (((-9223372036854775808) ≤ ((3) : Int) ∧ ((3) : Int) ≤ 9223372036854775807) ∧ R ((x2)) ((3))))))))))))) ∧
   (decide ((x0 : Int) ≤ 8) = false → R (0) (8)))) :
    ∃ v0 : Int, ∃ v1 : Int, R v0 v1 ∧ Spec Try.prog grow_CheckChamber_s ⟨[x0, x1], [], [f0, f1, f2, f3, f4]⟩ [v0, v1] [] [] :=
  Eq.mp (by kernel_rfl) (exV_of (K := fun d => app3 grow_CheckChamber_s.out R d ∧ Spec Try.prog grow_CheckChamber_s ⟨[x0, x1], [], [f0, f1, f2, f3, f4]⟩ d.1 d.2.1 d.2.2) (tree_at mixed names S1_ok (S := S1 Try.prog) (lf := 100000) (d := 60) grow_CheckChamber_s ccp_t { ivs := [(0, 0, 10), (1, 0, 32)], aivs := [(1, (-9223372036854775808), 9223372036854775807), (3, (-9223372036854775808), 9223372036854775807)] } ⟨[x0, x1], [], [f0, f1, f2, f3, f4]⟩ rfl (by kernel_rfl) (by kernel_rfl) (by kernel_rfl) ⟨(fc r0 (fc r1 fz)), fz, (fc s1 (fc s3 fz)), fz⟩ (R := fun d => app3 grow_CheckChamber_s.out R d) (Eq.mp (by kernel_rfl) H)))

def ccr_t : Tr :=
  (.ite (.icmp .leq (.var 0) (.lit 8))
  (.loop ⟨15, [0, 1, 0, 1, 1], [(.agg [(.asl 0 (.var 0)), (.asl 1 (.var 1))]), (.ptr (some ⟨2, 0, none⟩)), (.int .i64 (.lit 0)), (.int .i64 (.lit 0)), (.int .i64 (.lit 0)), (.tuple []), (.ptr (some ⟨2, 0, none⟩)), (.asl 0 (.var 0)), (.int .i64 (.var 0)), (.bool (.icmp .gtr (.var 0) (.lit 8))), (.tuple []), (.tuple []), (.tuple []), (.tuple []), (.tuple []), (.tuple []), (.tuple []), (.tuple []), (.tuple []), (.tuple []), (.tuple []), (.tuple []), (.tuple []), (.tuple []), (.tuple []), (.tuple []), (.tuple []), (.tuple []), (.tuple []), (.tuple []), (.tuple []), (.tuple []), (.tuple []), (.tuple []), (.tuple []), (.tuple []), (.tuple []), (.tuple []), (.tuple []), (.tuple []), (.tuple []), (.tuple []), (.tuple []), (.tuple []), (.tuple []), (.tuple []), (.tuple []), (.tuple []), (.tuple []), (.tuple []), (.tuple []), (.tuple []), (.tuple []), (.tuple []), (.tuple []), (.tuple []), (.tuple []), (.tuple []), (.tuple []), (.tuple []), (.tuple []), (.tuple []), (.tuple []), (.tuple []), (.tuple []), (.tuple []), (.tuple []), (.tuple []), (.tuple []), (.tuple []), (.tuple []), (.tuple []), (.tuple []), (.tuple [])], [(some ⟨[], 9, true, false, (some ⟨(.var 0), [.str], [(.avar 0)]⟩)⟩), (some ⟨[], 91, true, false, (some ⟨(.var 1), [(.int .i64), .bool, (.int .i64), .bool], [(.avar 1), (.avar 2), (.avar 3), (.avar 4)]⟩)⟩), (some ⟨[(.asl 0 (.var 0)), (.asl 1 (.var 1))], 25, false, false, none⟩)], [], [(.agg [(.asl 0 (.var 0)), (.asl 1 (.var 1))]), (.ptr (some ⟨2, 0, none⟩)), (.int .i64 (.lit 0)), (.int .i64 (.lit 0)), (.int .i64 (.var 2)), (.tuple []), (.ptr (some ⟨2, 0, none⟩)), (.asl 0 (.var 0)), (.int .i64 (.var 0)), (.bool (.icmp .gtr (.var 0) (.lit 8))), (.any 10), (.any 11), (.any 12), (.any 13), (.any 14), (.any 15), (.any 16), (.any 17), (.any 18), (.any 19), (.any 20), (.any 21), (.any 22), (.any 23), (.tuple []), (.any 25), (.any 26), (.any 27), (.any 28), (.any 29), (.any 30), (.any 31), (.any 32), (.any 33), (.any 34), (.tuple []), (.tuple []), (.tuple []), (.tuple []), (.tuple []), (.tuple []), (.tuple []), (.tuple []), (.tuple []), (.tuple []), (.tuple []), (.tuple []), (.tuple []), (.tuple []), (.tuple []), (.tuple []), (.tuple []), (.tuple []), (.tuple []), (.tuple []), (.tuple []), (.tuple []), (.tuple []), (.tuple []), (.tuple []), (.tuple []), (.tuple []), (.tuple []), (.tuple []), (.tuple []), (.tuple []), (.tuple []), (.tuple []), (.tuple []), (.tuple []), (.tuple []), (.tuple []), (.tuple []), (.tuple [])], [(some ⟨[], 9, true, false, (some ⟨(.var 0), [.str], [(.avar 0)]⟩)⟩), (some ⟨[], 91, true, false, (some ⟨(.var 1), [(.int .i64), .bool, (.int .i64), .bool], [(.avar 1), (.avar 2), (.avar 3), (.avar 4)]⟩)⟩), (some ⟨[(.asl 0 (.var 0)), (.asl 1 (.var 1))], 25, false, false, none⟩)], [], ⟨1, 0, 0⟩, ⟨[(.lit 0)], [], []⟩, []⟩
   (.rng 2 0 8 (.ite (.icmp .leq (.var 0) (.var 2))
    (.out 1 ⟨[], [], []⟩ [])
    (.call etalonbase_IsName_s ⟨[(.sel (.avar 0) (.var 2))], [], []⟩ ⟨[(.sel (.avar 0) (.var 2))], [(.var 0)], []⟩ ⟨49, [(.strn (.sel (.avar 0) (.var 2)))], [], [none, none, none], (.bool (.var 0)), []⟩
     (.ite (.var 0)
     (.ite (.icmp .leq (.var 2) (.var 0))
      (.loop ⟨50, [0, 1, 0, 1], [(.rsl 0 1 (.lit 0) (.var 2)), (.strn (.sel (.avar 0) (.var 2))), (.tuple []), (.tuple []), (.bool (.lit false)), (.int .i64 (.lit 0)), (.tuple []), (.tuple []), (.tuple []), (.tuple []), (.tuple []), (.tuple []), (.tuple []), (.tuple []), (.tuple []), (.tuple []), (.tuple []), (.tuple [])], [(some ⟨[], 9, true, false, (some ⟨(.var 0), [.str], [(.avar 0)]⟩)⟩), none, none], [], [(.rsl 0 1 (.lit 0) (.var 2)), (.strn (.sel (.avar 0) (.var 2))), (.tuple []), (.tuple []), (.bool (.lit false)), (.int .i64 (.var 3)), (.any 6), (.any 7), (.any 8), (.any 9), (.any 10), (.any 11), (.any 12), (.any 13), (.any 14), (.any 15), (.any 16), (.any 17)], [(some ⟨[], 9, true, false, (some ⟨(.var 0), [.str], [(.avar 0)]⟩)⟩), none, none], [], ⟨1, 0, 0⟩, ⟨[(.lit 0)], [], []⟩, []⟩
       (.rng 3 0 8 (.ite (.icmp .leq (.bin .subI (.var 2) (.lit 0)) (.var 3))
        (.out 1 ⟨[], [], []⟩ [])
        (.ite (.icmp .leq (.var 0) (.var 3))
         .nil
         (.ite (.icmp .eql (.bin .maxI (.sel (.avar 0) (.var 3)) (.lit 0)) (.bin .maxI (.sel (.avar 0) (.var 2)) (.lit 0)))
          (.out 0 ⟨[], [], []⟩ [])
          (.next ⟨[(.bin .addI (.var 3) (.lit 1))], [], []⟩ [])))))
       (.ex (.ret, [(.rsl 0 1 (.lit 0) (.var 2)), (.strn (.sel (.avar 0) (.var 2))), (.tuple []), (.tuple []), (.bool (.lit true)), (.any 5), (.any 6), (.any 7), (.any 8), (.any 9), (.any 10), (.any 11), (.any 12), (.any 13), (.any 14), (.any 15), (.any 16), (.any 17)], [(some ⟨[], 9, true, false, (some ⟨(.var 0), [.str], [(.avar 0)]⟩)⟩), none, none], []) ⟨0, 0, 0⟩
       (.out 0 ⟨[(.var 2), (.lit 5)], [], []⟩ [])
       (.ex ((.exit 0), [(.rsl 0 1 (.lit 0) (.var 2)), (.strn (.sel (.avar 0) (.var 2))), (.tuple []), (.tuple []), (.bool (.lit false)), (.any 5), (.any 6), (.any 7), (.any 8), (.any 9), (.any 10), (.any 11), (.any 12), (.any 13), (.any 14), (.any 15), (.any 16), (.any 17)], [(some ⟨[], 9, true, false, (some ⟨(.var 0), [.str], [(.avar 0)]⟩)⟩), none, none], []) ⟨0, 0, 0⟩
       (.next ⟨[(.bin .addI (.var 2) (.lit 1))], [], []⟩ [])
       .nil)))
      .nil)
     (.out 0 ⟨[(.var 2), (.lit 3)], [], []⟩ [])))))
   (.ex (.ret, [(.agg [(.asl 0 (.var 0)), (.asl 1 (.var 1))]), (.ptr (some ⟨2, 0, none⟩)), (.int .i64 (.var 2)), (.int .i64 (.var 3)), (.any 4), (.tuple []), (.ptr (some ⟨2, 0, none⟩)), (.asl 0 (.var 0)), (.int .i64 (.var 0)), (.bool (.icmp .gtr (.var 0) (.lit 8))), (.any 10), (.any 11), (.any 12), (.any 13), (.any 14), (.any 15), (.any 16), (.any 17), (.any 18), (.any 19), (.any 20), (.any 21), (.any 22), (.any 23), (.any 24), (.any 25), (.any 26), (.any 27), (.any 28), (.any 29), (.any 30), (.any 31), (.any 32), (.any 33), (.any 34), (.any 35), (.tuple []), (.tuple []), (.tuple []), (.tuple []), (.tuple []), (.tuple []), (.tuple []), (.tuple []), (.tuple []), (.tuple []), (.tuple []), (.tuple []), (.tuple []), (.tuple []), (.tuple []), (.tuple []), (.tuple []), (.tuple []), (.tuple []), (.tuple []), (.tuple []), (.tuple []), (.tuple []), (.tuple []), (.tuple []), (.tuple []), (.tuple []), (.tuple []), (.tuple []), (.tuple []), (.tuple []), (.tuple []), (.tuple []), (.tuple []), (.tuple []), (.tuple []), (.tuple []), (.tuple [])], [(some ⟨[], 9, true, false, (some ⟨(.var 0), [.str], [(.avar 0)]⟩)⟩), (some ⟨[], 91, true, false, (some ⟨(.var 1), [(.int .i64), .bool, (.int .i64), .bool], [(.avar 1), (.avar 2), (.avar 3), (.avar 4)]⟩)⟩), (some ⟨[(.asl 0 (.var 0)), (.asl 1 (.var 1))], 25, false, false, none⟩)], []) ⟨2, 0, 0⟩
   (.rng 2 (-9223372036854775808) 9223372036854775807 (.rng 3 (-9223372036854775808) 9223372036854775807 (.ret ⟨[(.var 2), (.var 3)], [], []⟩ [])))
   (.ex ((.exit 0), [(.agg [(.asl 0 (.var 0)), (.asl 1 (.var 1))]), (.ptr (some ⟨2, 0, none⟩)), (.int .i64 (.lit 0)), (.int .i64 (.lit 0)), (.any 4), (.tuple []), (.ptr (some ⟨2, 0, none⟩)), (.asl 0 (.var 0)), (.int .i64 (.var 0)), (.bool (.icmp .gtr (.var 0) (.lit 8))), (.any 10), (.any 11), (.any 12), (.any 13), (.any 14), (.any 15), (.any 16), (.any 17), (.any 18), (.any 19), (.any 20), (.any 21), (.any 22), (.any 23), (.tuple []), (.any 25), (.any 26), (.any 27), (.any 28), (.any 29), (.any 30), (.any 31), (.any 32), (.any 33), (.any 34), (.tuple []), (.tuple []), (.tuple []), (.tuple []), (.tuple []), (.tuple []), (.tuple []), (.tuple []), (.tuple []), (.tuple []), (.tuple []), (.tuple []), (.tuple []), (.tuple []), (.tuple []), (.tuple []), (.tuple []), (.tuple []), (.tuple []), (.tuple []), (.tuple []), (.tuple []), (.tuple []), (.tuple []), (.tuple []), (.tuple []), (.tuple []), (.tuple []), (.tuple []), (.tuple []), (.tuple []), (.tuple []), (.tuple []), (.tuple []), (.tuple []), (.tuple []), (.tuple []), (.tuple []), (.tuple [])], [(some ⟨[], 9, true, false, (some ⟨(.var 0), [.str], [(.avar 0)]⟩)⟩), (some ⟨[], 91, true, false, (some ⟨(.var 1), [(.int .i64), .bool, (.int .i64), .bool], [(.avar 1), (.avar 2), (.avar 3), (.avar 4)]⟩)⟩), (some ⟨[(.asl 0 (.var 0)), (.asl 1 (.var 1))], 25, false, false, none⟩)], []) ⟨0, 0, 0⟩
   (.ite (.icmp .leq (.var 1) (.lit 30))
    (.loop ⟨15, [0, 1, 0, 1, 1, 1, 1], [(.agg [(.asl 0 (.var 0)), (.asl 1 (.var 1))]), (.ptr (some ⟨2, 0, none⟩)), (.int .i64 (.lit 0)), (.int .i64 (.lit 0)), (.any 4), (.int .i64 (.lit 0)), (.ptr (some ⟨2, 0, none⟩)), (.asl 0 (.var 0)), (.int .i64 (.var 0)), (.bool (.icmp .gtr (.var 0) (.lit 8))), (.any 10), (.any 11), (.any 12), (.any 13), (.any 14), (.any 15), (.any 16), (.any 17), (.any 18), (.any 19), (.any 20), (.any 21), (.any 22), (.any 23), (.tuple []), (.any 25), (.any 26), (.any 27), (.any 28), (.any 29), (.any 30), (.any 31), (.any 32), (.any 33), (.any 34), (.tuple []), (.ptr (some ⟨2, 1, none⟩)), (.asl 1 (.var 1)), (.int .i64 (.var 1)), (.bool (.icmp .gtr (.var 1) (.lit 30))), (.tuple []), (.tuple []), (.tuple []), (.tuple []), (.tuple []), (.tuple []), (.tuple []), (.tuple []), (.tuple []), (.tuple []), (.tuple []), (.tuple []), (.tuple []), (.tuple []), (.tuple []), (.tuple []), (.tuple []), (.tuple []), (.tuple []), (.tuple []), (.tuple []), (.tuple []), (.tuple []), (.tuple []), (.tuple []), (.tuple []), (.tuple []), (.tuple []), (.tuple []), (.tuple []), (.tuple []), (.tuple []), (.tuple []), (.tuple [])], [(some ⟨[], 9, true, false, (some ⟨(.var 0), [.str], [(.avar 0)]⟩)⟩), (some ⟨[], 91, true, false, (some ⟨(.var 1), [(.int .i64), .bool, (.int .i64), .bool], [(.avar 1), (.avar 2), (.avar 3), (.avar 4)]⟩)⟩), (some ⟨[(.asl 0 (.var 0)), (.asl 1 (.var 1))], 25, false, false, none⟩)], [], [(.agg [(.asl 0 (.var 0)), (.asl 1 (.var 1))]), (.ptr (some ⟨2, 0, none⟩)), (.int .i64 (.lit 0)), (.int .i64 (.lit 0)), (.any 4), (.int .i64 (.var 2)), (.ptr (some ⟨2, 0, none⟩)), (.asl 0 (.var 0)), (.int .i64 (.var 0)), (.bool (.icmp .gtr (.var 0) (.lit 8))), (.any 10), (.any 11), (.any 12), (.any 13), (.any 14), (.any 15), (.any 16), (.any 17), (.any 18), (.any 19), (.any 20), (.any 21), (.any 22), (.any 23), (.tuple []), (.any 25), (.any 26), (.any 27), (.any 28), (.any 29), (.any 30), (.any 31), (.any 32), (.any 33), (.any 34), (.tuple []), (.ptr (some ⟨2, 1, none⟩)), (.asl 1 (.var 1)), (.int .i64 (.var 1)), (.bool (.icmp .gtr (.var 1) (.lit 30))), (.any 40), (.any 41), (.any 42), (.any 43), (.any 44), (.any 45), (.any 46), (.any 47), (.any 48), (.any 49), (.any 50), (.any 51), (.any 52), (.any 53), (.any 54), (.any 55), (.any 56), (.any 57), (.any 58), (.any 59), (.any 60), (.any 61), (.any 62), (.any 63), (.any 64), (.any 65), (.any 66), (.any 67), (.any 68), (.any 69), (.any 70), (.any 71), (.any 72), (.tuple [])], [(some ⟨[], 9, true, false, (some ⟨(.var 0), [.str], [(.avar 0)]⟩)⟩), (some ⟨[], 91, true, false, (some ⟨(.var 1), [(.int .i64), .bool, (.int .i64), .bool], [(.avar 1), (.avar 2), (.avar 3), (.avar 4)]⟩)⟩), (some ⟨[(.asl 0 (.var 0)), (.asl 1 (.var 1))], 25, false, false, none⟩)], [], ⟨1, 0, 0⟩, ⟨[(.lit 0)], [], []⟩, []⟩
     (.rng 2 0 30 (.ite (.icmp .leq (.var 1) (.var 2))
      (.out 1 ⟨[], [], []⟩ [])
      (.ite (.icmp .leq (.lit 0) (.sel (.avar 1) (.var 2)))
       (.ite (.icmp .leq (.sel (.avar 1) (.var 2)) (.bin .subI (.var 0) (.lit 1)))
        (.ite (.icmp .leq (.lit 0) (.sel (.avar 3) (.var 2)))
         (.ite (.icmp .leq (.sel (.avar 3) (.var 2)) (.bin .subI (.var 0) (.lit 1)))
          (.next ⟨[(.bin .addI (.var 2) (.lit 1))], [], []⟩ [])
          (.out 0 ⟨[(.var 2)], [], []⟩ []))
         (.out 0 ⟨[(.var 2)], [], []⟩ []))
        (.out 0 ⟨[(.var 2)], [], []⟩ []))
       (.out 0 ⟨[(.var 2)], [], []⟩ []))))
     (.ex (.ret, [(.agg [(.asl 0 (.var 0)), (.asl 1 (.var 1))]), (.ptr (some ⟨2, 0, none⟩)), (.int .i64 (.var 2)), (.int .i64 (.lit 6)), (.any 4), (.any 5), (.ptr (some ⟨2, 0, none⟩)), (.asl 0 (.var 0)), (.int .i64 (.var 0)), (.bool (.icmp .gtr (.var 0) (.lit 8))), (.any 10), (.any 11), (.any 12), (.any 13), (.any 14), (.any 15), (.any 16), (.any 17), (.any 18), (.any 19), (.any 20), (.any 21), (.any 22), (.any 23), (.tuple []), (.any 25), (.any 26), (.any 27), (.any 28), (.any 29), (.any 30), (.any 31), (.any 32), (.any 33), (.any 34), (.tuple []), (.ptr (some ⟨2, 1, none⟩)), (.asl 1 (.var 1)), (.int .i64 (.var 1)), (.bool (.icmp .gtr (.var 1) (.lit 30))), (.any 40), (.any 41), (.any 42), (.any 43), (.any 44), (.any 45), (.any 46), (.any 47), (.any 48), (.any 49), (.any 50), (.any 51), (.any 52), (.any 53), (.any 54), (.any 55), (.any 56), (.any 57), (.any 58), (.any 59), (.any 60), (.any 61), (.any 62), (.any 63), (.any 64), (.any 65), (.any 66), (.any 67), (.any 68), (.any 69), (.any 70), (.any 71), (.any 72), (.any 73)], [(some ⟨[], 9, true, false, (some ⟨(.var 0), [.str], [(.avar 0)]⟩)⟩), (some ⟨[], 91, true, false, (some ⟨(.var 1), [(.int .i64), .bool, (.int .i64), .bool], [(.avar 1), (.avar 2), (.avar 3), (.avar 4)]⟩)⟩), (some ⟨[(.asl 0 (.var 0)), (.asl 1 (.var 1))], 25, false, false, none⟩)], []) ⟨1, 0, 0⟩
     (.rng 2 (-9223372036854775808) 9223372036854775807 (.ret ⟨[(.var 2), (.lit 6)], [], []⟩ []))
     (.ex ((.exit 2), [(.agg [(.asl 0 (.var 0)), (.asl 1 (.var 1))]), (.ptr (some ⟨2, 0, none⟩)), (.int .i64 (.lit 0)), (.int .i64 (.lit 0)), (.any 4), (.any 5), (.ptr (some ⟨2, 0, none⟩)), (.asl 0 (.var 0)), (.int .i64 (.var 0)), (.bool (.icmp .gtr (.var 0) (.lit 8))), (.any 10), (.any 11), (.any 12), (.any 13), (.any 14), (.any 15), (.any 16), (.any 17), (.any 18), (.any 19), (.any 20), (.any 21), (.any 22), (.any 23), (.tuple []), (.any 25), (.any 26), (.any 27), (.any 28), (.any 29), (.any 30), (.any 31), (.any 32), (.any 33), (.any 34), (.tuple []), (.ptr (some ⟨2, 1, none⟩)), (.asl 1 (.var 1)), (.int .i64 (.var 1)), (.bool (.icmp .gtr (.var 1) (.lit 30))), (.any 40), (.any 41), (.any 42), (.any 43), (.any 44), (.any 45), (.any 46), (.any 47), (.any 48), (.any 49), (.any 50), (.any 51), (.any 52), (.any 53), (.any 54), (.any 55), (.any 56), (.any 57), (.any 58), (.any 59), (.any 60), (.any 61), (.any 62), (.any 63), (.any 64), (.any 65), (.any 66), (.any 67), (.any 68), (.any 69), (.any 70), (.any 71), (.any 72), (.tuple [])], [(some ⟨[], 9, true, false, (some ⟨(.var 0), [.str], [(.avar 0)]⟩)⟩), (some ⟨[], 91, true, false, (some ⟨(.var 1), [(.int .i64), .bool, (.int .i64), .bool], [(.avar 1), (.avar 2), (.avar 3), (.avar 4)]⟩)⟩), (some ⟨[(.asl 0 (.var 0)), (.asl 1 (.var 1))], 25, false, false, none⟩)], []) ⟨0, 0, 0⟩
     (.ret ⟨[(.lit 0), (.lit 0)], [], []⟩ [])
     .nil)))
    (.ret ⟨[(.lit 0), (.lit 8)], [], []⟩ []))
   .nil)))
  (.ret ⟨[(.lit 0), (.lit 8)], [], []⟩ []))
theorem ccr {x0 x1 : Int} {f0 f1 f2 f3 f4 : Int → Int} (r0 : 0 ≤ x0 ∧ x0 ≤ 10) (r1 : 0 ≤ x1 ∧ x1 ≤ 32) (s1 : ∀ q, (-9223372036854775808) ≤ f1 q ∧ f1 q ≤ 9223372036854775807) (s3 : ∀ q, (-9223372036854775808) ≤ f3 q ∧ f3 q ≤ 9223372036854775807) {R : Int → Int → Prop}
  (H : ((decide ((x0 : Int) ≤ 8) = true → (∃ (I2 : Int → Prop) (rk2 : Int → Nat), I2 (0) ∧
    (∀ x2 : Int, I2 x2 → ((0 ≤ (x2 : Int) ∧ (x2 : Int) ≤ 8) ∧ ((decide ((x0 : Int) ≤ x2) = true → ((decide ((x1 : Int) ≤ 30) = true → (∃ (I2' : Int → Prop) (rk2' : Int → Nat), I2' (0) ∧
      (∀ x2' : Int, I2' x2' → ((0 ≤ (x2' : Int) ∧ (x2' : Int) ≤ 30) ∧ ((decide ((x1 : Int) ≤ x2') = true → R (0) (0)) ∧
       (decide ((x1 : Int) ≤ x2') = false → ((decide ((0 : Int) ≤ (f1 x2')) = true → ((decide (((f1 x2') : Int) ≤ (x0 - 1)) = true → ((decide ((0 : Int) ≤ (f3 x2')) = true → ((decide (((f3 x2') : Int) ≤ (x0 - 1)) = true → (I2' ((x2' + 1)) ∧ rk2' ((x2' + 1)) < rk2' x2')) ∧
           (decide (((f3 x2') : Int) ≤ (x0 - 1)) = false → (((-9223372036854775808) ≤ ((x2') : Int) ∧ ((x2') : Int) ≤ 9223372036854775807) ∧ R ((x2')) (6))))) ∧
          (decide ((0 : Int) ≤ (f3 x2')) = false → (((-9223372036854775808) ≤ ((x2') : Int) ∧ ((x2') : Int) ≤ 9223372036854775807) ∧ R ((x2')) (6))))) ∧
         (decide (((f1 x2') : Int) ≤ (x0 - 1)) = false → (((-9223372036854775808) ≤ ((x2') : Int) ∧ ((x2') : Int) ≤ 9223372036854775807) ∧ R ((x2')) (6))))) ∧
        (decide ((0 : Int) ≤ (f1 x2')) = false → (((-9223372036854775808) ≤ ((x2') : Int) ∧ ((x2') : Int) ≤ 9223372036854775807) ∧ R ((x2')) (6)))))))))) ∧
     (decide ((x1 : Int) ≤ 30) = false → R (0) (8)))) ∧
     (decide ((x0 : Int) ≤ x2) = false → (∃ u0 : Bool, Spec Try.prog etalonbase_IsName_s ⟨[(f0 x2)], [], []⟩ [] [u0] [] ∧
      ((u0 = true → ((decide ((x2 : Int) ≤ x0) = true → (∃ (I3 : Int → Prop) (rk3 : Int → Nat), I3 (0) ∧
        (∀ x3 : Int, I3 x3 → ((0 ≤ (x3 : Int) ∧ (x3 : Int) ≤ 8) ∧ ((decide (((x2 - 0) : Int) ≤ x3) = true → (I2 ((x2 + 1)) ∧ rk2 ((x2 + 1)) < rk2 x2)) ∧
         (decide (((x2 - 0) : Int) ≤ x3) = false → ((decide ((x0 : Int) ≤ x3) = true → False) ∧
          (decide ((x0 : Int) ≤ x3) = false → (((((if (0 : Int) > (f0 x3) then 0 else (f0 x3)) : Int) == (if (0 : Int) > (f0 x2) then 0 else (f0 x2))) = true → (((-9223372036854775808) ≤ ((x2) : Int) ∧ ((x2) : Int) ≤ 9223372036854775807) ∧ (((-9223372036854775808) ≤ ((5) : Int) ∧ ((5) : Int) ≤ 9223372036854775807) ∧ R ((x2)) ((5))))) ∧
           ((((if (0 : Int) > (f0 x3) then 0 else (f0 x3)) : Int) == (if (0 : Int) > (f0 x2) then 0 else (f0 x2))) = false → (I3 ((x3 + 1)) ∧ rk3 ((x3 + 1)) < rk3 x3))))))))))) ∧
       (decide ((x2 : Int) ≤ x0) = false → False))) ∧
      (u0 = false → (((-9223372036854775808) ≤ ((x2) : Int) ∧ ((x2) : Int) ≤ 9223372036854775807) ∧ (((-9223372036854775808) ≤ ((3) : Int) ∧ ((3) : Int) ≤ 9223372036854775807) ∧ R ((x2)) ((3))))))))))))) ∧
   (decide ((x0 : Int) ≤ 8) = false → R (0) (8)))) :
    ∃ v0 : Int, ∃ v1 : Int, R v0 v1 ∧ Spec Try.prog etalonref08_CheckChamber_s ⟨[x0, x1], [], [f0, f1, f2, f3, f4]⟩ [v0, v1] [] [] :=
  Eq.mp (by kernel_rfl) (exV_of (K := fun d => app3 etalonref08_CheckChamber_s.out R d ∧ Spec Try.prog etalonref08_CheckChamber_s ⟨[x0, x1], [], [f0, f1, f2, f3, f4]⟩ d.1 d.2.1 d.2.2) (tree_at mixed names S1_ok (S := S1 Try.prog) (lf := 100000) (d := 60) etalonref08_CheckChamber_s ccr_t { ivs := [(0, 0, 10), (1, 0, 32)], aivs := [(1, (-9223372036854775808), 9223372036854775807), (3, (-9223372036854775808), 9223372036854775807)] } ⟨[x0, x1], [], [f0, f1, f2, f3, f4]⟩ rfl (by kernel_rfl) (by kernel_rfl) (by kernel_rfl) ⟨(fc r0 (fc r1 fz)), fz, (fc s1 (fc s3 fz)), fz⟩ (R := fun d => app3 etalonref08_CheckChamber_s.out R d) (Eq.mp (by kernel_rfl) H)))

def I64 (x : Int) : Prop := (-9223372036854775808) ≤ x ∧ x ≤ 9223372036854775807

/-- The text of a device; a device, a rule is right behind the ones before. -/

def tx (f0 : Int → Int) (i : Int) : Int := if (0 : Int) > f0 i then 0 else f0 i

def devOk (f0 : Int → Int) (i : Int) : Prop := nmP (f0 i) ∧ ∀ j, 0 ≤ j → j < i → tx f0 j ≠ tx f0 i

def ruleOk (x0 : Int) (f1 f3 : Int → Int) (i : Int) : Prop := (0 ≤ f1 i ∧ f1 i ≤ x0 - 1) ∧ (0 ≤ f3 i ∧ f3 i ≤ x0 - 1)

def devsOk (x0 : Int) (f0 : Int → Int) : Prop := x0 ≤ 8 ∧ ∀ j, 0 ≤ j → j < x0 → devOk f0 j

def rulesOk (x0 x1 : Int) (f1 f3 : Int → Int) : Prop := x1 ≤ 30 ∧ ∀ j, 0 ≤ j → j < x1 → ruleOk x0 f1 f3 j

/-- A device is the first wrong one; a rule is. -/

def devBad (x0 : Int) (f0 : Int → Int) (k e : Int) : Prop := (x0 ≤ 8 ∧ 0 ≤ k ∧ k < x0 ∧ ∀ j, 0 ≤ j → j < k → devOk f0 j) ∧ ((¬ nmP (f0 k) ∧ e = 3) ∨ (nmP (f0 k) ∧ ¬ devOk f0 k ∧ e = 5))

def ruleBad (x0 x1 : Int) (f1 f3 : Int → Int) (k : Int) : Prop := (x1 ≤ 30 ∧ 0 ≤ k ∧ k < x1 ∧ ∀ j, 0 ≤ j → j < k → ruleOk x0 f1 f3 j) ∧ ¬ ruleOk x0 f1 f3 k

inductive chamIs (x0 x1 : Int) (f0 f1 f3 : Int → Int) : Int → Int → Prop where

  | many : 8 < x0 → chamIs x0 x1 f0 f1 f3 0 8

  | dev {k e : Int} : devBad x0 f0 k e → chamIs x0 x1 f0 f1 f3 k e

  | long : devsOk x0 f0 → 30 < x1 → chamIs x0 x1 f0 f1 f3 0 8

  | rule {k : Int} : devsOk x0 f0 → ruleBad x0 x1 f1 f3 k → chamIs x0 x1 f0 f1 f3 k 6

  | ok : devsOk x0 f0 → rulesOk x0 x1 f1 f3 → chamIs x0 x1 f0 f1 f3 0 0

theorem first_uniq {P : Int → Prop} {k k' : Int} (h0 : 0 ≤ k) (h : ∀ j, 0 ≤ j → j < k → P j) (n : ¬ P k) (h0' : 0 ≤ k') (h' : ∀ j, 0 ≤ j → j < k' → P j) (n' : ¬ P k') : k = k' := by

  rcases Int.lt_trichotomy k k' with g | g | g

  · exact absurd (h' k h0 g) n

  · exact g

  · exact absurd (h k' h0' g) n'

theorem devBad.no {x0 k e : Int} {f0 : Int → Int} (h : devBad x0 f0 k e) : ¬ devOk f0 k := by

  rcases h.2 with ⟨h, _⟩ | ⟨_, h, _⟩

  · exact fun g => h g.1

  · exact h

theorem devBad.not {x0 k e : Int} {f0 : Int → Int} (h : devBad x0 f0 k e) (g : devsOk x0 f0) : False := h.no (g.2 k h.1.2.1 h.1.2.2.1)

theorem ruleBad.not {x0 x1 k : Int} {f1 f3 : Int → Int} (h : ruleBad x0 x1 f1 f3 k) (g : rulesOk x0 x1 f1 f3) : False := h.2 (g.2 k h.1.2.1 h.1.2.2.1)

theorem chamIs_uniq {x0 x1 k e k' e' : Int} {f0 f1 f3 : Int → Int} (h : chamIs x0 x1 f0 f1 f3 k e) (h' : chamIs x0 x1 f0 f1 f3 k' e') : k = k' ∧ e = e' := by

  have big : ∀ {a b : Int}, 8 < x0 → devBad x0 f0 a b → False := fun g h => by have := h.1.1; omega

  cases h with

  | many h => cases h' with

    | many g => exact ⟨rfl, rfl⟩

    | dev g => exact (big h g).elim

    | long g _ => exact ⟨rfl, rfl⟩

    | rule g _ => have := g.1; omega

    | ok g _ => have := g.1; omega

  | dev h => cases h' with

    | many g => exact (big g h).elim

    | dev g =>

      have e1 := first_uniq h.1.2.1 h.1.2.2.2 h.no g.1.2.1 g.1.2.2.2 g.no

      subst e1

      refine ⟨rfl, ?_⟩

      rcases h.2 with ⟨a, b⟩ | ⟨a, _, b⟩ <;> rcases g.2 with ⟨c, d⟩ | ⟨c, _, d⟩

      · omega

      · exact absurd c a

      · exact absurd a c

      · omega

    | long g _ => exact (h.not g).elim

    | rule g _ => exact (h.not g).elim

    | ok g _ => exact (h.not g).elim

  | long h l => cases h' with

    | many g => exact ⟨rfl, rfl⟩

    | dev g => exact (g.not h).elim

    | long _ _ => exact ⟨rfl, rfl⟩

    | rule _ g => have := g.1.1; omega

    | ok _ g => have := g.1; omega

  | rule h l => cases h' with

    | many g => have := h.1; omega

    | dev g => exact (g.not h).elim

    | long _ g => have := l.1.1; omega

    | rule _ g => exact ⟨first_uniq l.1.2.1 l.1.2.2.2 l.2 g.1.2.1 g.1.2.2.2 g.2, rfl⟩

    | ok _ g => exact (l.not g).elim

  | ok h l => cases h' with

    | many g => have := h.1; omega

    | dev g => exact (g.not h).elim

    | long _ g => have := l.1; omega

    | rule _ g => exact (g.not l).elim

    | ok _ g => exact ⟨rfl, rfl⟩

theorem chamber_p {x0 x1 : Int} {f0 f1 f2 f3 f4 : Int → Int} (r0 : 0 ≤ x0 ∧ x0 ≤ 10) (r1 : 0 ≤ x1 ∧ x1 ≤ 32) (s1 : ∀ q, I64 (f1 q)) (s3 : ∀ q, I64 (f3 q)) :

    ∃ k e : Int, chamIs x0 x1 f0 f1 f3 k e ∧ Spec Try.prog grow_CheckChamber_s ⟨[x0, x1], [], [f0, f1, f2, f3, f4]⟩ [k, e] [] [] := by

  refine ccp r0 r1 s1 s3 (R := chamIs x0 x1 f0 f1 f3) ?_

  simp only [decide_eq_true_eq, decide_eq_false_iff_not, beq_iff_eq, beq_eq_false_iff_ne, ne_eq]

  refine ⟨fun h0 => ⟨fun i => (0 ≤ i ∧ i ≤ x0) ∧ ∀ j, 0 ≤ j → j < i → devOk f0 j, fun i => (x0 - i).toNat, ⟨⟨by omega, by omega⟩, fun j a b => by omega⟩, fun i hi => ⟨⟨by omega, by omega⟩, fun h1 => ?_, fun h1 => ?_⟩⟩, fun h0 => .many (by omega)⟩

  · have dv : devsOk x0 f0 := ⟨h0, fun j a b => hi.2 j a (by omega)⟩

    refine ⟨fun h2 => ⟨fun i => (0 ≤ i ∧ i ≤ x1) ∧ ∀ j, 0 ≤ j → j < i → ruleOk x0 f1 f3 j, fun i => (x1 - i).toNat, ⟨⟨by omega, by omega⟩, fun j a b => by omega⟩, fun i hi => ⟨⟨by omega, by omega⟩, fun h3 => .ok dv ⟨h2, fun j a b => hi.2 j a (by omega)⟩, fun h3 => ?_⟩⟩, fun h2 => .long dv (by omega)⟩

    have bad : ¬ ruleOk x0 f1 f3 i → ((-9223372036854775808) ≤ i ∧ i ≤ 9223372036854775807) ∧ chamIs x0 x1 f0 f1 f3 i 6 := fun h => ⟨by omega, .rule dv ⟨⟨h2, hi.1.1, by omega, hi.2⟩, h⟩⟩

    refine ⟨fun a1 => ⟨fun a2 => ⟨fun a3 => ⟨fun a4 => ⟨⟨⟨by omega, by omega⟩, fun j a b => ?_⟩, ?_⟩, fun a4 => bad ?_⟩, fun a3 => bad ?_⟩, fun a2 => bad ?_⟩, fun a1 => bad ?_⟩

    · by_cases e : j = i

      · subst e; exact ⟨⟨a1, a2⟩, ⟨a3, a4⟩⟩

      · exact hi.2 j a (by omega)

    · show (x1 - (i + 1)).toNat < (x1 - i).toNat; omega

    · exact fun g => a4 g.2.2

    · exact fun g => a3 g.2.1

    · exact fun g => a2 g.1.2

    · exact fun g => a1 g.1.1

  · obtain ⟨u, hu, hs⟩ := isName_p (f0 i)

    have next : (nmP (f0 i)) → (∀ l, 0 ≤ l → l < i → tx f0 l ≠ tx f0 i) → (((0 ≤ i + 1 ∧ i + 1 ≤ x0) ∧ ∀ j, 0 ≤ j → j < i + 1 → devOk f0 j) ∧ (x0 - (i + 1)).toNat < (x0 - i).toNat) := fun n d => ⟨⟨⟨by omega, by omega⟩, fun j a b => by

      by_cases e : j = i

      · subst e; exact ⟨n, d⟩

      · exact hi.2 j a (by omega)⟩, by omega⟩

    refine ⟨u, hs, fun hu' => ⟨fun h2 => ?_, fun h2 => h2 (by omega)⟩, fun hu' => ⟨by omega, ⟨by omega, by omega⟩, .dev ⟨⟨h0, hi.1.1, by omega, hi.2⟩, .inl ⟨fun g => ?_, rfl⟩⟩⟩⟩

    · have nm := hu.1 hu'

      refine ⟨fun j => (0 ≤ j ∧ j ≤ i) ∧ ∀ l, 0 ≤ l → l < j → tx f0 l ≠ tx f0 i, fun j => (i - j).toNat, ⟨⟨by omega, by omega⟩, fun l a b => by omega⟩, fun j hj => ⟨⟨by omega, by omega⟩, fun h3 => next nm fun l a b => hj.2 l a (by omega), fun h3 => ⟨fun h4 => by omega, fun h4 => ⟨fun h5 => ⟨by omega, fun _ => ⟨by omega, ⟨by omega, by omega⟩, .dev ⟨⟨h0, hi.1.1, by omega, hi.2⟩, .inr ⟨nm, fun g => ?_, rfl⟩⟩⟩, fun g => absurd hj.1.1 g⟩, fun h5 => ⟨⟨⟨by omega, by omega⟩, fun l a b => ?_⟩, ?_⟩⟩⟩⟩⟩

      · exact g.2 j hj.1.1 (by omega) h5.symm

      · by_cases e : l = j

        · subst e; exact fun g => h5 g.symm

        · exact hj.2 l a (by omega)

      · show (i - (j + 1)).toNat < (i - j).toNat; omega

    · rw [hu.2 g] at hu'; cases hu'

theorem chamber_r {x0 x1 : Int} {f0 f1 f2 f3 f4 : Int → Int} (r0 : 0 ≤ x0 ∧ x0 ≤ 10) (r1 : 0 ≤ x1 ∧ x1 ≤ 32) (s1 : ∀ q, I64 (f1 q)) (s3 : ∀ q, I64 (f3 q)) :

    ∃ k e : Int, chamIs x0 x1 f0 f1 f3 k e ∧ Spec Try.prog etalonref08_CheckChamber_s ⟨[x0, x1], [], [f0, f1, f2, f3, f4]⟩ [k, e] [] [] := by

  refine ccr r0 r1 s1 s3 (R := chamIs x0 x1 f0 f1 f3) ?_

  simp only [decide_eq_true_eq, decide_eq_false_iff_not, beq_iff_eq, beq_eq_false_iff_ne, ne_eq]

  refine ⟨fun h0 => ⟨fun i => (0 ≤ i ∧ i ≤ x0) ∧ ∀ j, 0 ≤ j → j < i → devOk f0 j, fun i => (x0 - i).toNat, ⟨⟨by omega, by omega⟩, fun j a b => by omega⟩, fun i hi => ⟨⟨by omega, by omega⟩, fun h1 => ?_, fun h1 => ?_⟩⟩, fun h0 => .many (by omega)⟩

  · have dv : devsOk x0 f0 := ⟨h0, fun j a b => hi.2 j a (by omega)⟩

    refine ⟨fun h2 => ⟨fun i => (0 ≤ i ∧ i ≤ x1) ∧ ∀ j, 0 ≤ j → j < i → ruleOk x0 f1 f3 j, fun i => (x1 - i).toNat, ⟨⟨by omega, by omega⟩, fun j a b => by omega⟩, fun i hi => ⟨⟨by omega, by omega⟩, fun h3 => .ok dv ⟨h2, fun j a b => hi.2 j a (by omega)⟩, fun h3 => ?_⟩⟩, fun h2 => .long dv (by omega)⟩

    have bad : ¬ ruleOk x0 f1 f3 i → ((-9223372036854775808) ≤ i ∧ i ≤ 9223372036854775807) ∧ chamIs x0 x1 f0 f1 f3 i 6 := fun h => ⟨by omega, .rule dv ⟨⟨h2, hi.1.1, by omega, hi.2⟩, h⟩⟩

    refine ⟨fun a1 => ⟨fun a2 => ⟨fun a3 => ⟨fun a4 => ⟨⟨⟨by omega, by omega⟩, fun j a b => ?_⟩, ?_⟩, fun a4 => bad ?_⟩, fun a3 => bad ?_⟩, fun a2 => bad ?_⟩, fun a1 => bad ?_⟩

    · by_cases e : j = i

      · subst e; exact ⟨⟨a1, a2⟩, ⟨a3, a4⟩⟩

      · exact hi.2 j a (by omega)

    · show (x1 - (i + 1)).toNat < (x1 - i).toNat; omega

    · exact fun g => a4 g.2.2

    · exact fun g => a3 g.2.1

    · exact fun g => a2 g.1.2

    · exact fun g => a1 g.1.1

  · obtain ⟨u, hu, hs⟩ := isName_r (f0 i)

    have next : (nmP (f0 i)) → (∀ l, 0 ≤ l → l < i → tx f0 l ≠ tx f0 i) → (((0 ≤ i + 1 ∧ i + 1 ≤ x0) ∧ ∀ j, 0 ≤ j → j < i + 1 → devOk f0 j) ∧ (x0 - (i + 1)).toNat < (x0 - i).toNat) := fun n d => ⟨⟨⟨by omega, by omega⟩, fun j a b => by

      by_cases e : j = i

      · subst e; exact ⟨n, d⟩

      · exact hi.2 j a (by omega)⟩, by omega⟩

    refine ⟨u, hs, fun hu' => ⟨fun h2 => ?_, fun h2 => h2 (by omega)⟩, fun hu' => ⟨by omega, ⟨by omega, by omega⟩, .dev ⟨⟨h0, hi.1.1, by omega, hi.2⟩, .inl ⟨fun g => ?_, rfl⟩⟩⟩⟩

    · have nm := hu.1 hu'

      refine ⟨fun j => (0 ≤ j ∧ j ≤ i) ∧ ∀ l, 0 ≤ l → l < j → tx f0 l ≠ tx f0 i, fun j => (i - j).toNat, ⟨⟨by omega, by omega⟩, fun l a b => by omega⟩, fun j hj => ⟨⟨by omega, by omega⟩, fun h3 => next nm fun l a b => hj.2 l a (by omega), fun h3 => ⟨fun h4 => by omega, fun h4 => ⟨fun h5 => ⟨by omega, ⟨by omega, by omega⟩, .dev ⟨⟨h0, hi.1.1, by omega, hi.2⟩, .inr ⟨nm, fun g => ?_, rfl⟩⟩⟩, fun h5 => ⟨⟨⟨by omega, by omega⟩, fun l a b => ?_⟩, ?_⟩⟩⟩⟩⟩

      · exact g.2 j hj.1.1 (by omega) h5

      · by_cases e : l = j

        · subst e; exact h5

        · exact hj.2 l a (by omega)

      · show (i - (j + 1)).toNat < (i - j).toNat; omega

    · rw [hu.2 g] at hu'; cases hu'

theorem chambers {x0 x1 : Int} {f0 f1 f2 f3 f4 : Int → Int} (r0 : 0 ≤ x0 ∧ x0 ≤ 10) (r1 : 0 ≤ x1 ∧ x1 ≤ 32) (s1 : ∀ q, I64 (f1 q)) (s3 : ∀ q, I64 (f3 q)) :

    ∃ k e : Int, chamIs x0 x1 f0 f1 f3 k e ∧ Spec Try.prog grow_CheckChamber_s ⟨[x0, x1], [], [f0, f1, f2, f3, f4]⟩ [k, e] [] [] ∧ Spec Try.prog etalonref08_CheckChamber_s ⟨[x0, x1], [], [f0, f1, f2, f3, f4]⟩ [k, e] [] [] := by

  obtain ⟨k, e, h, hs⟩ := chamber_p (f2 := f2) (f4 := f4) r0 r1 s1 s3

  obtain ⟨k', e', h', hs'⟩ := chamber_r (f2 := f2) (f4 := f4) r0 r1 s1 s3

  obtain ⟨rfl, rfl⟩ := chamIs_uniq h h'

  exact ⟨k, e, h, hs, hs'⟩

end Go.Proofs.Ytheopgjjkgklpaa.Ev
