/- Labels of a change's states: which the program accepts. -/
import Derived.Test.YtheopgjjkgklpaaFgcd
namespace Go.Proofs.Ytheopgjjkgklpaa.Ev
set_option linter.unusedSimpArgs false
open Go Go.RowKit
set_option linter.unusedVariables false
set_option maxRecDepth 100000
def _grow_change__hasLabels_s : Sig := ⟨58, ⟨5, 0, 6⟩, ⟨0, 1, 0⟩, [(.agg [(.asl 0 (.var 0)), (.asl 1 (.var 1)), (.int .i64 (.var 2)), (.int .i64 (.var 3))]), (.asl 2 (.var 4))], [(some ⟨[], 9, true, false, (some ⟨(.var 0), [.str], [(.avar 0)]⟩)⟩), (some ⟨[], 91, true, false, (some ⟨(.var 1), [(.int .i64), .bool, (.int .i64), .bool], [(.avar 1), (.avar 2), (.avar 3), (.avar 4)]⟩)⟩), (some ⟨[], 3, true, false, (some ⟨(.var 4), [(.int .i64)], [(.avar 5)]⟩)⟩)], (.bool (.var 0)), []⟩
def grow_CheckLabels_s : Sig := ⟨24, ⟨5, 0, 8⟩, ⟨2, 0, 0⟩, [(.agg [(.asl 0 (.var 0)), (.asl 1 (.var 1))]), (.agg [(.asl 2 (.var 2)), (.asl 3 (.var 3))]), (.asl 4 (.var 4))], [(some ⟨[], 9, true, false, (some ⟨(.var 0), [.str], [(.avar 0)]⟩)⟩), (some ⟨[], 91, true, false, (some ⟨(.var 1), [(.int .i64), .bool, (.int .i64), .bool], [(.avar 1), (.avar 2), (.avar 3), (.avar 4)]⟩)⟩), (some ⟨[], 4, true, false, (some ⟨(.var 2), [.bool], [(.avar 5)]⟩)⟩), (some ⟨[], 4, true, false, (some ⟨(.var 3), [.bool], [(.avar 6)]⟩)⟩), (some ⟨[], 3, true, false, (some ⟨(.var 4), [(.int .i64)], [(.avar 7)]⟩)⟩)], (.tuple [(.int .i64 (.var 5)), (.int .i64 (.var 6))]), []⟩

def hlb_t : Tr :=
  (.loop ⟨58, [0, 1, 0, 1], [(.agg [(.asl 0 (.var 0)), (.asl 1 (.var 1)), (.int .i64 (.var 2)), (.int .i64 (.var 3))]), (.asl 2 (.var 4)), (.ptr (some ⟨3, 0, none⟩)), (.ptr (some ⟨4, 0, none⟩)), (.ptr (some ⟨5, 0, none⟩)), (.tuple []), (.tuple []), (.tuple []), (.tuple []), (.asl 2 (.var 4)), (.int .i64 (.var 4)), (.int .i64 (.lit 0)), (.tuple []), (.tuple []), (.tuple []), (.tuple []), (.tuple []), (.tuple []), (.tuple []), (.tuple []), (.tuple []), (.tuple []), (.tuple []), (.tuple []), (.tuple []), (.tuple []), (.tuple []), (.tuple []), (.tuple []), (.tuple []), (.tuple []), (.tuple []), (.tuple []), (.tuple []), (.tuple []), (.tuple []), (.tuple []), (.tuple []), (.tuple [])], [(some ⟨[], 9, true, false, (some ⟨(.var 0), [.str], [(.avar 0)]⟩)⟩), (some ⟨[], 91, true, false, (some ⟨(.var 1), [(.int .i64), .bool, (.int .i64), .bool], [(.avar 1), (.avar 2), (.avar 3), (.avar 4)]⟩)⟩), (some ⟨[], 3, true, false, (some ⟨(.var 4), [(.int .i64)], [(.avar 5)]⟩)⟩), (some ⟨[(.asl 0 (.var 0)), (.asl 1 (.var 1)), (.int .i64 (.var 2)), (.int .i64 (.var 3))], 100, false, false, none⟩), (some ⟨[(.asl 2 (.var 4))], 46, false, false, none⟩), (some ⟨[(.bool (.lit false))], 4, false, false, none⟩)], [], [(.agg [(.asl 0 (.var 0)), (.asl 1 (.var 1)), (.int .i64 (.var 2)), (.int .i64 (.var 3))]), (.asl 2 (.var 4)), (.ptr (some ⟨3, 0, none⟩)), (.ptr (some ⟨4, 0, none⟩)), (.ptr (some ⟨5, 0, none⟩)), (.any 5), (.any 6), (.tuple []), (.tuple []), (.asl 2 (.var 4)), (.int .i64 (.var 4)), (.int .i64 (.var 5)), (.any 12), (.any 13), (.any 14), (.any 15), (.any 16), (.any 17), (.any 18), (.any 19), (.any 20), (.any 21), (.any 22), (.tuple []), (.tuple []), (.tuple []), (.tuple []), (.tuple []), (.tuple []), (.tuple []), (.tuple []), (.tuple []), (.any 32), (.tuple []), (.tuple []), (.tuple []), (.tuple []), (.tuple []), (.tuple [])], [(some ⟨[], 9, true, false, (some ⟨(.var 0), [.str], [(.avar 0)]⟩)⟩), (some ⟨[], 91, true, false, (some ⟨(.var 1), [(.int .i64), .bool, (.int .i64), .bool], [(.avar 1), (.avar 2), (.avar 3), (.avar 4)]⟩)⟩), (some ⟨[], 3, true, false, (some ⟨(.var 4), [(.int .i64)], [(.avar 5)]⟩)⟩), (some ⟨[(.asl 0 (.var 0)), (.asl 1 (.var 1)), (.int .i64 (.var 2)), (.int .i64 (.var 3))], 100, false, false, none⟩), (some ⟨[(.asl 2 (.var 4))], 46, false, false, none⟩), (some ⟨[(.bool (.lit false))], 4, false, false, none⟩)], [5], ⟨1, 0, 0⟩, ⟨[(.lit 0)], [], []⟩, []⟩
  (.rng 5 0 40 (.ite (.icmp .leq (.var 4) (.var 5))
   (.out 1 ⟨[], [], []⟩ [])
   (.call _grow_change__isSafe_s ⟨[(.var 0), (.var 1), (.var 2), (.var 3), (.var 5)], [], [(.avar 0), (.avar 1), (.avar 2), (.avar 3), (.avar 4)]⟩ ⟨[(.var 0), (.var 1), (.var 2), (.var 3), (.var 5)], [(.var 0)], [(.avar 0), (.avar 1), (.avar 2), (.avar 3), (.avar 4)]⟩ ⟨53, [(.agg [(.asl 0 (.var 0)), (.asl 1 (.var 1)), (.int .i64 (.var 2)), (.int .i64 (.var 3))]), (.int .i64 (.var 5))], [0, 1], [(some ⟨[], 9, true, false, (some ⟨(.var 0), [.str], [(.avar 0)]⟩)⟩), (some ⟨[], 91, true, false, (some ⟨(.var 1), [(.int .i64), .bool, (.int .i64), .bool], [(.avar 1), (.avar 2), (.avar 3), (.avar 4)]⟩)⟩), none, none, none, none, none], (.bool (.var 0)), []⟩
    (.ite (.var 0)
    (.loop ⟨95, [0, 1], [(.yld 9), (.ptr (some ⟨7, 0, none⟩)), (.ptr (some ⟨8, 0, none⟩)), (.tuple []), (.tuple []), (.tuple []), (.ptr (some ⟨7, 0, none⟩)), (.ptr (some ⟨7, 0, none⟩)), (.asl 0 (.var 0)), (.int .i64 (.var 0)), (.int .i64 (.lit 0)), (.tuple []), (.tuple []), (.tuple []), (.tuple []), (.tuple []), (.tuple []), (.tuple []), (.tuple []), (.tuple []), (.tuple []), (.tuple []), (.tuple []), (.tuple []), (.tuple []), (.tuple []), (.tuple [])], [(some ⟨[], 9, true, false, (some ⟨(.var 0), [.str], [(.avar 0)]⟩)⟩), (some ⟨[], 91, true, false, (some ⟨(.var 1), [(.int .i64), .bool, (.int .i64), .bool], [(.avar 1), (.avar 2), (.avar 3), (.avar 4)]⟩)⟩), (some ⟨[], 3, true, false, (some ⟨(.var 4), [(.int .i64)], [(.avar 5)]⟩)⟩), (some ⟨[(.asl 0 (.var 0)), (.asl 1 (.var 1)), (.int .i64 (.var 2)), (.int .i64 (.var 3))], 100, false, false, none⟩), (some ⟨[(.asl 2 (.var 4))], 46, false, false, none⟩), (some ⟨[(.bool (.lit false))], 4, false, false, none⟩), (some ⟨[(.int .i64 (.sel (.avar 5) (.var 5)))], 3, false, false, none⟩), (some ⟨[(.asl 0 (.var 0)), (.asl 1 (.var 1)), (.int .i64 (.var 2)), (.int .i64 (.var 3))], 100, false, false, none⟩), (some ⟨[(.int .i64 (.var 5))], 3, false, false, none⟩), (some ⟨[(.int .i64 (.lit 0)), (.agg [(.asl 0 (.var 0)), (.asl 1 (.var 1)), (.int .i64 (.var 2)), (.int .i64 (.var 3))]), (.asl 2 (.var 4)), (.ptr (some ⟨3, 0, none⟩)), (.ptr (some ⟨4, 0, none⟩)), (.ptr (some ⟨5, 0, none⟩)), (.int .i64 (.var 5)), (.ptr (some ⟨6, 0, none⟩)), (.tuple []), (.tuple []), (.asl 2 (.var 4)), (.int .i64 (.var 4)), (.int .i64 (.var 5)), (.bool (.icmp .lss (.var 5) (.var 4))), (.int .i64 (.var 5)), (.eptr 2 (.var 5) 1 0), (.int .i64 (.sel (.avar 5) (.var 5))), (.agg [(.asl 0 (.var 0)), (.asl 1 (.var 1)), (.int .i64 (.var 2)), (.int .i64 (.var 3))]), (.int .i64 (.var 5)), (.bool (.var 0)), (.bool (.not (.var 0))), (.agg [(.asl 0 (.var 0)), (.asl 1 (.var 1)), (.int .i64 (.var 2)), (.int .i64 (.var 3))]), (.int .i64 (.var 5)), (.func (.func 95) [] [(.ptr (some ⟨7, 0, none⟩)), (.ptr (some ⟨8, 0, none⟩))]), (.tuple []), (.tuple []), (.tuple []), (.tuple []), (.tuple []), (.tuple []), (.tuple []), (.tuple []), (.tuple []), (.any 32), (.tuple []), (.tuple []), (.tuple []), (.tuple []), (.tuple []), (.tuple [])], 58059367907386, true, true, none⟩)], [], [(.yld 9), (.ptr (some ⟨7, 0, none⟩)), (.ptr (some ⟨8, 0, none⟩)), (.tuple []), (.any 4), (.any 5), (.ptr (some ⟨7, 0, none⟩)), (.ptr (some ⟨7, 0, none⟩)), (.asl 0 (.var 0)), (.int .i64 (.var 0)), (.int .i64 (.var 6)), (.any 11), (.any 12), (.any 13), (.any 14), (.any 15), (.any 16), (.any 17), (.any 18), (.any 19), (.any 20), (.any 21), (.any 22), (.any 23), (.any 24), (.any 25), (.any 26)], [(some ⟨[], 9, true, false, (some ⟨(.var 0), [.str], [(.avar 0)]⟩)⟩), (some ⟨[], 91, true, false, (some ⟨(.var 1), [(.int .i64), .bool, (.int .i64), .bool], [(.avar 1), (.avar 2), (.avar 3), (.avar 4)]⟩)⟩), (some ⟨[], 3, true, false, (some ⟨(.var 4), [(.int .i64)], [(.avar 5)]⟩)⟩), (some ⟨[(.asl 0 (.var 0)), (.asl 1 (.var 1)), (.int .i64 (.var 2)), (.int .i64 (.var 3))], 100, false, false, none⟩), (some ⟨[(.asl 2 (.var 4))], 46, false, false, none⟩), (some ⟨[(.bool (.lit false))], 4, false, false, none⟩), (some ⟨[(.int .i64 (.sel (.avar 5) (.var 5)))], 3, false, false, none⟩), (some ⟨[(.asl 0 (.var 0)), (.asl 1 (.var 1)), (.int .i64 (.var 2)), (.int .i64 (.var 3))], 100, false, false, none⟩), (some ⟨[(.int .i64 (.var 5))], 3, false, false, none⟩), (some ⟨[(.int .i64 (.lit 0)), (.agg [(.asl 0 (.var 0)), (.asl 1 (.var 1)), (.int .i64 (.var 2)), (.int .i64 (.var 3))]), (.asl 2 (.var 4)), (.ptr (some ⟨3, 0, none⟩)), (.ptr (some ⟨4, 0, none⟩)), (.ptr (some ⟨5, 0, none⟩)), (.int .i64 (.var 5)), (.ptr (some ⟨6, 0, none⟩)), (.tuple []), (.tuple []), (.asl 2 (.var 4)), (.int .i64 (.var 4)), (.int .i64 (.var 5)), (.bool (.icmp .lss (.var 5) (.var 4))), (.int .i64 (.var 5)), (.eptr 2 (.var 5) 1 0), (.int .i64 (.sel (.avar 5) (.var 5))), (.agg [(.asl 0 (.var 0)), (.asl 1 (.var 1)), (.int .i64 (.var 2)), (.int .i64 (.var 3))]), (.int .i64 (.var 5)), (.bool (.var 0)), (.bool (.not (.var 0))), (.agg [(.asl 0 (.var 0)), (.asl 1 (.var 1)), (.int .i64 (.var 2)), (.int .i64 (.var 3))]), (.int .i64 (.var 5)), (.func (.func 95) [] [(.ptr (some ⟨7, 0, none⟩)), (.ptr (some ⟨8, 0, none⟩))]), (.tuple []), (.tuple []), (.tuple []), (.tuple []), (.tuple []), (.tuple []), (.tuple []), (.tuple []), (.tuple []), (.any 32), (.tuple []), (.tuple []), (.tuple []), (.tuple []), (.tuple []), (.tuple [])], 58059367907386, true, true, none⟩)], [9, 5], ⟨1, 0, 0⟩, ⟨[(.lit 0)], [], []⟩, []⟩
     (.rng 6 0 8 (.ite (.icmp .leq (.var 0) (.var 6))
      (.out 1 ⟨[], [], []⟩ [])
      (.call _grow_change__isSafe_s ⟨[(.var 0), (.var 1), (.var 2), (.var 3), (.bin (.xorK .i64) (.var 5) (.bin (.shlK .i64) (.lit 1) (.var 6)))], [], [(.avar 0), (.avar 1), (.avar 2), (.avar 3), (.avar 4)]⟩ ⟨[(.var 0), (.var 1), (.var 2), (.var 3), (.bin (.xorK .i64) (.var 5) (.bin (.shlK .i64) (.lit 1) (.var 6)))], [(.var 1)], [(.avar 0), (.avar 1), (.avar 2), (.avar 3), (.avar 4)]⟩ ⟨53, [(.agg [(.asl 0 (.var 0)), (.asl 1 (.var 1)), (.int .i64 (.var 2)), (.int .i64 (.var 3))]), (.int .i64 (.bin (.xorK .i64) (.var 5) (.bin (.shlK .i64) (.lit 1) (.var 6))))], [0, 1], [(some ⟨[], 9, true, false, (some ⟨(.var 0), [.str], [(.avar 0)]⟩)⟩), (some ⟨[], 91, true, false, (some ⟨(.var 1), [(.int .i64), .bool, (.int .i64), .bool], [(.avar 1), (.avar 2), (.avar 3), (.avar 4)]⟩)⟩), none, none, none, none, none, none, none, none], (.bool (.var 1)), []⟩
       (.ite (.var 1)
       (.ite (.icmp .leq (.lit 0) (.bin (.xorK .i64) (.var 5) (.bin (.shlK .i64) (.lit 1) (.var 6))))
        (.ite (.icmp .leq (.var 4) (.bin (.xorK .i64) (.var 5) (.bin (.shlK .i64) (.lit 1) (.var 6))))
         .nil
         (.ite (.icmp .leq (.sel (.avar 5) (.bin (.xorK .i64) (.var 5) (.bin (.shlK .i64) (.lit 1) (.var 6)))) (.bin (.addW .i64) (.sel (.avar 5) (.var 5)) (.lit 1)))
          (.next ⟨[(.bin .addI (.var 6) (.lit 1))], [], []⟩ [])
          (.out 0 ⟨[], [], []⟩ [])))
        .nil)
       (.next ⟨[(.bin .addI (.var 6) (.lit 1))], [], []⟩ [])))))
     (.ex (.ret, [(.yld 9), (.ptr (some ⟨7, 0, none⟩)), (.ptr (some ⟨8, 0, none⟩)), (.tuple []), (.any 4), (.any 5), (.ptr (some ⟨7, 0, none⟩)), (.ptr (some ⟨7, 0, none⟩)), (.asl 0 (.var 0)), (.int .i64 (.var 0)), (.any 10), (.any 11), (.any 12), (.any 13), (.any 14), (.any 15), (.any 16), (.any 17), (.any 18), (.any 19), (.any 20), (.any 21), (.any 22), (.any 23), (.any 24), (.any 25), (.any 26)], [(some ⟨[], 9, true, false, (some ⟨(.var 0), [.str], [(.avar 0)]⟩)⟩), (some ⟨[], 91, true, false, (some ⟨(.var 1), [(.int .i64), .bool, (.int .i64), .bool], [(.avar 1), (.avar 2), (.avar 3), (.avar 4)]⟩)⟩), (some ⟨[], 3, true, false, (some ⟨(.var 4), [(.int .i64)], [(.avar 5)]⟩)⟩), (some ⟨[(.asl 0 (.var 0)), (.asl 1 (.var 1)), (.int .i64 (.var 2)), (.int .i64 (.var 3))], 100, false, false, none⟩), (some ⟨[(.asl 2 (.var 4))], 46, false, false, none⟩), (some ⟨[(.bool (.lit false))], 4, false, false, none⟩), (some ⟨[(.int .i64 (.sel (.avar 5) (.var 5)))], 3, false, false, none⟩), (some ⟨[(.asl 0 (.var 0)), (.asl 1 (.var 1)), (.int .i64 (.var 2)), (.int .i64 (.var 3))], 100, false, false, none⟩), (some ⟨[(.int .i64 (.var 5))], 3, false, false, none⟩), (some ⟨[(.int .i64 (.lit 2)), (.agg [(.asl 0 (.var 0)), (.asl 1 (.var 1)), (.int .i64 (.var 2)), (.int .i64 (.var 3))]), (.asl 2 (.var 4)), (.ptr (some ⟨3, 0, none⟩)), (.ptr (some ⟨4, 0, none⟩)), (.ptr (some ⟨5, 0, none⟩)), (.int .i64 (.var 5)), (.ptr (some ⟨6, 0, none⟩)), (.tuple []), (.tuple []), (.asl 2 (.var 4)), (.int .i64 (.var 4)), (.int .i64 (.var 5)), (.bool (.icmp .lss (.var 5) (.var 4))), (.int .i64 (.var 5)), (.eptr 2 (.var 5) 1 0), (.int .i64 (.sel (.avar 5) (.var 5))), (.agg [(.asl 0 (.var 0)), (.asl 1 (.var 1)), (.int .i64 (.var 2)), (.int .i64 (.var 3))]), (.int .i64 (.var 5)), (.bool (.var 0)), (.bool (.not (.var 0))), (.agg [(.asl 0 (.var 0)), (.asl 1 (.var 1)), (.int .i64 (.var 2)), (.int .i64 (.var 3))]), (.int .i64 (.var 5)), (.func (.func 95) [] [(.ptr (some ⟨7, 0, none⟩)), (.ptr (some ⟨8, 0, none⟩))]), (.tuple []), (.tuple []), (.tuple []), (.tuple []), (.tuple []), (.tuple []), (.tuple []), (.tuple []), (.tuple []), (.any 32), (.tuple []), (.tuple []), (.tuple []), (.tuple []), (.tuple []), (.tuple [])], 58059367907386, true, true, none⟩)], [9, 5]) ⟨0, 0, 0⟩
     (.out 0 ⟨[], [], []⟩ [])
     (.ex ((.exit 0), [(.yld 9), (.ptr (some ⟨7, 0, none⟩)), (.ptr (some ⟨8, 0, none⟩)), (.tuple []), (.any 4), (.any 5), (.ptr (some ⟨7, 0, none⟩)), (.ptr (some ⟨7, 0, none⟩)), (.asl 0 (.var 0)), (.int .i64 (.var 0)), (.any 10), (.any 11), (.any 12), (.any 13), (.any 14), (.any 15), (.any 16), (.any 17), (.any 18), (.any 19), (.any 20), (.any 21), (.any 22), (.any 23), (.any 24), (.any 25), (.any 26)], [(some ⟨[], 9, true, false, (some ⟨(.var 0), [.str], [(.avar 0)]⟩)⟩), (some ⟨[], 91, true, false, (some ⟨(.var 1), [(.int .i64), .bool, (.int .i64), .bool], [(.avar 1), (.avar 2), (.avar 3), (.avar 4)]⟩)⟩), (some ⟨[], 3, true, false, (some ⟨(.var 4), [(.int .i64)], [(.avar 5)]⟩)⟩), (some ⟨[(.asl 0 (.var 0)), (.asl 1 (.var 1)), (.int .i64 (.var 2)), (.int .i64 (.var 3))], 100, false, false, none⟩), (some ⟨[(.asl 2 (.var 4))], 46, false, false, none⟩), (some ⟨[(.bool (.lit false))], 4, false, false, none⟩), (some ⟨[(.int .i64 (.sel (.avar 5) (.var 5)))], 3, false, false, none⟩), (some ⟨[(.asl 0 (.var 0)), (.asl 1 (.var 1)), (.int .i64 (.var 2)), (.int .i64 (.var 3))], 100, false, false, none⟩), (some ⟨[(.int .i64 (.var 5))], 3, false, false, none⟩), (some ⟨[(.int .i64 (.lit 0)), (.agg [(.asl 0 (.var 0)), (.asl 1 (.var 1)), (.int .i64 (.var 2)), (.int .i64 (.var 3))]), (.asl 2 (.var 4)), (.ptr (some ⟨3, 0, none⟩)), (.ptr (some ⟨4, 0, none⟩)), (.ptr (some ⟨5, 0, none⟩)), (.int .i64 (.var 5)), (.ptr (some ⟨6, 0, none⟩)), (.tuple []), (.tuple []), (.asl 2 (.var 4)), (.int .i64 (.var 4)), (.int .i64 (.var 5)), (.bool (.icmp .lss (.var 5) (.var 4))), (.int .i64 (.var 5)), (.eptr 2 (.var 5) 1 0), (.int .i64 (.sel (.avar 5) (.var 5))), (.agg [(.asl 0 (.var 0)), (.asl 1 (.var 1)), (.int .i64 (.var 2)), (.int .i64 (.var 3))]), (.int .i64 (.var 5)), (.bool (.var 0)), (.bool (.not (.var 0))), (.agg [(.asl 0 (.var 0)), (.asl 1 (.var 1)), (.int .i64 (.var 2)), (.int .i64 (.var 3))]), (.int .i64 (.var 5)), (.func (.func 95) [] [(.ptr (some ⟨7, 0, none⟩)), (.ptr (some ⟨8, 0, none⟩))]), (.tuple []), (.tuple []), (.tuple []), (.tuple []), (.tuple []), (.tuple []), (.tuple []), (.tuple []), (.tuple []), (.any 32), (.tuple []), (.tuple []), (.tuple []), (.tuple []), (.tuple []), (.tuple [])], 58059367907386, true, true, none⟩)], [9, 5]) ⟨0, 0, 0⟩
     (.next ⟨[(.bin .addI (.var 5) (.lit 1))], [], []⟩ [])
     .nil)))
    (.next ⟨[(.bin .addI (.var 5) (.lit 1))], [], []⟩ [])))))
  (.ex (.ret, [(.agg [(.asl 0 (.var 0)), (.asl 1 (.var 1)), (.int .i64 (.var 2)), (.int .i64 (.var 3))]), (.asl 2 (.var 4)), (.ptr (some ⟨3, 0, none⟩)), (.ptr (some ⟨4, 0, none⟩)), (.ptr (some ⟨5, 0, none⟩)), (.any 5), (.any 6), (.tuple []), (.tuple []), (.asl 2 (.var 4)), (.int .i64 (.var 4)), (.any 11), (.any 12), (.any 13), (.any 14), (.any 15), (.any 16), (.any 17), (.any 18), (.any 19), (.any 20), (.any 21), (.any 22), (.tuple []), (.tuple []), (.tuple []), (.tuple []), (.tuple []), (.tuple []), (.tuple []), (.tuple []), (.tuple []), (.any 32), (.tuple []), (.tuple []), (.tuple []), (.tuple []), (.tuple []), (.tuple [])], [(some ⟨[], 9, true, false, (some ⟨(.var 0), [.str], [(.avar 0)]⟩)⟩), (some ⟨[], 91, true, false, (some ⟨(.var 1), [(.int .i64), .bool, (.int .i64), .bool], [(.avar 1), (.avar 2), (.avar 3), (.avar 4)]⟩)⟩), (some ⟨[], 3, true, false, (some ⟨(.var 4), [(.int .i64)], [(.avar 5)]⟩)⟩), (some ⟨[(.asl 0 (.var 0)), (.asl 1 (.var 1)), (.int .i64 (.var 2)), (.int .i64 (.var 3))], 100, false, false, none⟩), (some ⟨[(.asl 2 (.var 4))], 46, false, false, none⟩), (some ⟨[(.bool (.lit false))], 4, false, false, none⟩)], [5]) ⟨0, 0, 0⟩
  (.ret ⟨[], [(.lit false)], []⟩ [])
  (.ex ((.exit 0), [(.agg [(.asl 0 (.var 0)), (.asl 1 (.var 1)), (.int .i64 (.var 2)), (.int .i64 (.var 3))]), (.asl 2 (.var 4)), (.ptr (some ⟨3, 0, none⟩)), (.ptr (some ⟨4, 0, none⟩)), (.ptr (some ⟨5, 0, none⟩)), (.any 5), (.any 6), (.tuple []), (.tuple []), (.asl 2 (.var 4)), (.int .i64 (.var 4)), (.any 11), (.any 12), (.any 13), (.any 14), (.any 15), (.any 16), (.any 17), (.any 18), (.any 19), (.any 20), (.any 21), (.any 22), (.tuple []), (.tuple []), (.tuple []), (.tuple []), (.tuple []), (.tuple []), (.tuple []), (.tuple []), (.tuple []), (.any 32), (.tuple []), (.tuple []), (.tuple []), (.tuple []), (.tuple []), (.tuple [])], [(some ⟨[], 9, true, false, (some ⟨(.var 0), [.str], [(.avar 0)]⟩)⟩), (some ⟨[], 91, true, false, (some ⟨(.var 1), [(.int .i64), .bool, (.int .i64), .bool], [(.avar 1), (.avar 2), (.avar 3), (.avar 4)]⟩)⟩), (some ⟨[], 3, true, false, (some ⟨(.var 4), [(.int .i64)], [(.avar 5)]⟩)⟩), (some ⟨[(.asl 0 (.var 0)), (.asl 1 (.var 1)), (.int .i64 (.var 2)), (.int .i64 (.var 3))], 100, false, false, none⟩), (some ⟨[(.asl 2 (.var 4))], 46, false, false, none⟩), (some ⟨[(.bool (.lit false))], 4, false, false, none⟩)], [5]) ⟨0, 0, 0⟩
  (.ite (.icmp .leq (.var 4) (.var 2))
   .nil
   (.ret ⟨[], [(.icmp .eql (.sel (.avar 5) (.var 2)) (.lit 0))], []⟩ []))
  .nil)))
theorem hlb {x0 x1 x2 x3 x4 : Int} {f0 f1 f2 f3 f4 f5 : Int → Int} (r0 : 0 ≤ x0 ∧ x0 ≤ 8) (r1 : 0 ≤ x1 ∧ x1 ≤ 30) (r2 : 0 ≤ x2 ∧ x2 ≤ 255) (r3 : 0 ≤ x3 ∧ x3 ≤ 255) (r4 : 0 ≤ x4 ∧ x4 ≤ 40) (s1 : ∀ q, (-9223372036854775808) ≤ f1 q ∧ f1 q ≤ 9223372036854775807) (s3 : ∀ q, (-9223372036854775808) ≤ f3 q ∧ f3 q ≤ 9223372036854775807) (s5 : ∀ q, (-9223372036854775808) ≤ f5 q ∧ f5 q ≤ 9223372036854775807) {R : Bool → Prop}
  (H : (∃ (I5 : Int → Prop) (rk5 : Int → Nat), I5 (0) ∧
   (∀ x5 : Int, I5 x5 → ((0 ≤ (x5 : Int) ∧ (x5 : Int) ≤ 40) ∧ ((decide ((x4 : Int) ≤ x5) = true → ((decide ((x4 : Int) ≤ x2) = true → False) ∧
    (decide ((x4 : Int) ≤ x2) = false → R ((((f5 x2) : Int) == 0))))) ∧
    (decide ((x4 : Int) ≤ x5) = false → (∃ u0 : Bool, Spec Try.prog _grow_change__isSafe_s ⟨[x0, x1, x2, x3, x5], [], [f0, f1, f2, f3, f4]⟩ [] [u0] [] ∧
     ((u0 = true → (∃ (I6 : Int → Prop) (rk6 : Int → Nat), I6 (0) ∧
      (∀ x6 : Int, I6 x6 → ((0 ≤ (x6 : Int) ∧ (x6 : Int) ≤ 8) ∧ ((decide ((x0 : Int) ≤ x6) = true → (I5 ((x5 + 1)) ∧ rk5 ((x5 + 1)) < rk5 x5)) ∧
       (decide ((x0 : Int) ≤ x6) = false → (∃ u1 : Bool, Spec Try.prog _grow_change__isSafe_s ⟨[x0, x1, x2, x3, (NOp.den (.xorK .i64) x5 (NOp.den (.shlK .i64) 1 x6))], [], [f0, f1, f2, f3, f4]⟩ [] [u1] [] ∧
        ((u1 = true → ((decide ((0 : Int) ≤ (NOp.den (.xorK .i64) x5 (NOp.den (.shlK .i64) 1 x6))) = true → ((decide ((x4 : Int) ≤ (NOp.den (.xorK .i64) x5 (NOp.den (.shlK .i64) 1 x6))) = true → False) ∧
          (decide ((x4 : Int) ≤ (NOp.den (.xorK .i64) x5 (NOp.den (.shlK .i64) 1 x6))) = false → ((decide (((f5 (NOp.den (.xorK .i64) x5 (NOp.den (.shlK .i64) 1 x6))) : Int) ≤ IntKind.i64.wrap ((f5 x5) + 1)) = true → (I6 ((x6 + 1)) ∧ rk6 ((x6 + 1)) < rk6 x6)) ∧
           (decide (((f5 (NOp.den (.xorK .i64) x5 (NOp.den (.shlK .i64) 1 x6))) : Int) ≤ IntKind.i64.wrap ((f5 x5) + 1)) = false → R (false)))))) ∧
         (decide ((0 : Int) ≤ (NOp.den (.xorK .i64) x5 (NOp.den (.shlK .i64) 1 x6))) = false → False))) ∧
        (u1 = false → (I6 ((x6 + 1)) ∧ rk6 ((x6 + 1)) < rk6 x6)))))))))) ∧
     (u0 = false → (I5 ((x5 + 1)) ∧ rk5 ((x5 + 1)) < rk5 x5)))))))))) :
    ∃ u0 : Bool, R u0 ∧ Spec Try.prog _grow_change__hasLabels_s ⟨[x0, x1, x2, x3, x4], [], [f0, f1, f2, f3, f4, f5]⟩ [] [u0] [] :=
  Eq.mp (by kernel_rfl) (exV_of (K := fun d => app3 _grow_change__hasLabels_s.out R d ∧ Spec Try.prog _grow_change__hasLabels_s ⟨[x0, x1, x2, x3, x4], [], [f0, f1, f2, f3, f4, f5]⟩ d.1 d.2.1 d.2.2) (tree_at mixed names S1_ok (S := S1 Try.prog) (lf := 100000) (d := 60) _grow_change__hasLabels_s hlb_t { ivs := [(0, 0, 8), (1, 0, 30), (2, 0, 255), (3, 0, 255), (4, 0, 40)], aivs := [(1, (-9223372036854775808), 9223372036854775807), (3, (-9223372036854775808), 9223372036854775807), (5, (-9223372036854775808), 9223372036854775807)] } ⟨[x0, x1, x2, x3, x4], [], [f0, f1, f2, f3, f4, f5]⟩ rfl (by kernel_rfl) (by kernel_rfl) (by kernel_rfl) ⟨(fc r0 (fc r1 (fc r2 (fc r3 (fc r4 fz))))), fz, (fc s1 (fc s3 (fc s5 fz))), fz⟩ (R := fun d => app3 _grow_change__hasLabels_s.out R d) (Eq.mp (by kernel_rfl) H)))

def clb_t : Tr :=
  (.call grow_checkState_s ⟨[(.var 0), (.var 1), (.var 2)], [], [(.avar 0), (.avar 1), (.avar 2), (.avar 3), (.avar 4), (.avar 5)]⟩ ⟨[(.var 0), (.var 1), (.var 2), (.var 5)], [], [(.avar 0), (.avar 1), (.avar 2), (.avar 3), (.avar 4), (.avar 5)]⟩ ⟨44, [(.agg [(.asl 0 (.var 0)), (.asl 1 (.var 1))]), (.asl 2 (.var 2))], [0, 1, 2], [(some ⟨[], 9, true, false, (some ⟨(.var 0), [.str], [(.avar 0)]⟩)⟩), (some ⟨[], 91, true, false, (some ⟨(.var 1), [(.int .i64), .bool, (.int .i64), .bool], [(.avar 1), (.avar 2), (.avar 3), (.avar 4)]⟩)⟩), (some ⟨[], 4, true, false, (some ⟨(.var 2), [.bool], [(.avar 5)]⟩)⟩), none, none, none, none, none, none, none], (.int .i64 (.var 5)), []⟩
  (.call grow_checkState_s ⟨[(.var 0), (.var 1), (.var 3)], [], [(.avar 0), (.avar 1), (.avar 2), (.avar 3), (.avar 4), (.avar 6)]⟩ ⟨[(.var 0), (.var 1), (.var 3), (.var 6)], [], [(.avar 0), (.avar 1), (.avar 2), (.avar 3), (.avar 4), (.avar 6)]⟩ ⟨44, [(.agg [(.asl 0 (.var 0)), (.asl 1 (.var 1))]), (.asl 3 (.var 3))], [0, 1, 3], [(some ⟨[], 9, true, false, (some ⟨(.var 0), [.str], [(.avar 0)]⟩)⟩), (some ⟨[], 91, true, false, (some ⟨(.var 1), [(.int .i64), .bool, (.int .i64), .bool], [(.avar 1), (.avar 2), (.avar 3), (.avar 4)]⟩)⟩), none, (some ⟨[], 4, true, false, (some ⟨(.var 3), [.bool], [(.avar 6)]⟩)⟩), none, none, none, none, none, none], (.int .i64 (.var 6)), []⟩
  (.ite (.icmp .eql (.var 5) (.lit 0))
  (.ite (.icmp .eql (.var 6) (.lit 0))
   (.call grow_numberOf_s ⟨[(.var 2)], [], [(.avar 5)]⟩ ⟨[(.var 2), (.var 7)], [], [(.avar 5)]⟩ ⟨47, [(.asl 2 (.var 2))], [2], [none, none, (some ⟨[], 4, true, false, (some ⟨(.var 2), [.bool], [(.avar 5)]⟩)⟩), none, none, none, none, none, none, none, none], (.int .i64 (.var 7)), []⟩
    (.rng 7 0 255 (.call grow_numberOf_s ⟨[(.var 3)], [], [(.avar 6)]⟩ ⟨[(.var 3), (.var 8)], [], [(.avar 6)]⟩ ⟨47, [(.asl 3 (.var 3))], [3], [none, none, none, (some ⟨[], 4, true, false, (some ⟨(.var 3), [.bool], [(.avar 6)]⟩)⟩), none, none, none, none, none, none, none], (.int .i64 (.var 8)), []⟩
    (.rng 8 0 255 (.call _grow_change__isSafe_s ⟨[(.var 0), (.var 1), (.var 7), (.var 8), (.var 7)], [], [(.avar 0), (.avar 1), (.avar 2), (.avar 3), (.avar 4)]⟩ ⟨[(.var 0), (.var 1), (.var 7), (.var 8), (.var 7)], [(.var 0)], [(.avar 0), (.avar 1), (.avar 2), (.avar 3), (.avar 4)]⟩ ⟨53, [(.agg [(.asl 0 (.var 0)), (.asl 1 (.var 1)), (.int .i64 (.var 7)), (.int .i64 (.var 8))]), (.int .i64 (.var 7))], [0, 1], [(some ⟨[], 9, true, false, (some ⟨(.var 0), [.str], [(.avar 0)]⟩)⟩), (some ⟨[], 91, true, false, (some ⟨(.var 1), [(.int .i64), .bool, (.int .i64), .bool], [(.avar 1), (.avar 2), (.avar 3), (.avar 4)]⟩)⟩), none, none, none, none, none, none, none, none, none, none], (.bool (.var 0)), []⟩
    (.ite (.var 0)
    (.call _grow_change__isSafe_s ⟨[(.var 0), (.var 1), (.var 7), (.var 8), (.var 8)], [], [(.avar 0), (.avar 1), (.avar 2), (.avar 3), (.avar 4)]⟩ ⟨[(.var 0), (.var 1), (.var 7), (.var 8), (.var 8)], [(.var 1)], [(.avar 0), (.avar 1), (.avar 2), (.avar 3), (.avar 4)]⟩ ⟨53, [(.agg [(.asl 0 (.var 0)), (.asl 1 (.var 1)), (.int .i64 (.var 7)), (.int .i64 (.var 8))]), (.int .i64 (.var 8))], [0, 1], [(some ⟨[], 9, true, false, (some ⟨(.var 0), [.str], [(.avar 0)]⟩)⟩), (some ⟨[], 91, true, false, (some ⟨(.var 1), [(.int .i64), .bool, (.int .i64), .bool], [(.avar 1), (.avar 2), (.avar 3), (.avar 4)]⟩)⟩), none, none, none, none, none, none, none, none, none, none], (.bool (.var 1)), []⟩
     (.ite (.var 1)
     (.ite (.icmp .eql (.var 4) (.bin (.shlK .i64) (.lit 1) (.var 0)))
      (.loop ⟨87, [0, 1, 0, 1], [(.asl 4 (.var 4)), (.func (.func 56) [] []), (.tuple []), (.tuple []), (.int .i64 (.lit 0)), (.tuple []), (.asl 4 (.var 4)), (.int .i64 (.var 4)), (.int .i64 (.lit 0)), (.tuple []), (.tuple []), (.tuple []), (.tuple []), (.tuple []), (.tuple []), (.tuple []), (.tuple []), (.tuple []), (.tuple [])], [(some ⟨[], 9, true, false, (some ⟨(.var 0), [.str], [(.avar 0)]⟩)⟩), (some ⟨[], 91, true, false, (some ⟨(.var 1), [(.int .i64), .bool, (.int .i64), .bool], [(.avar 1), (.avar 2), (.avar 3), (.avar 4)]⟩)⟩), (some ⟨[], 4, true, false, (some ⟨(.var 2), [.bool], [(.avar 5)]⟩)⟩), (some ⟨[], 4, true, false, (some ⟨(.var 3), [.bool], [(.avar 6)]⟩)⟩), (some ⟨[], 3, true, false, (some ⟨(.var 4), [(.int .i64)], [(.avar 7)]⟩)⟩), (some ⟨[(.asl 0 (.var 0)), (.asl 1 (.var 1))], 25, false, false, none⟩), (some ⟨[(.asl 2 (.var 2)), (.asl 3 (.var 3))], 45, false, false, none⟩), (some ⟨[(.asl 0 (.var 0)), (.asl 1 (.var 1)), (.int .i64 (.var 7)), (.int .i64 (.var 8))], 100, false, false, none⟩)], [], [(.asl 4 (.var 4)), (.func (.func 56) [] []), (.tuple []), (.tuple []), (.int .i64 (.lit 0)), (.any 5), (.asl 4 (.var 4)), (.int .i64 (.var 4)), (.int .i64 (.var 9)), (.any 9), (.any 10), (.any 11), (.any 12), (.any 13), (.any 14), (.any 15), (.any 16), (.tuple []), (.any 18)], [(some ⟨[], 9, true, false, (some ⟨(.var 0), [.str], [(.avar 0)]⟩)⟩), (some ⟨[], 91, true, false, (some ⟨(.var 1), [(.int .i64), .bool, (.int .i64), .bool], [(.avar 1), (.avar 2), (.avar 3), (.avar 4)]⟩)⟩), (some ⟨[], 4, true, false, (some ⟨(.var 2), [.bool], [(.avar 5)]⟩)⟩), (some ⟨[], 4, true, false, (some ⟨(.var 3), [.bool], [(.avar 6)]⟩)⟩), (some ⟨[], 3, true, false, (some ⟨(.var 4), [(.int .i64)], [(.avar 7)]⟩)⟩), (some ⟨[(.asl 0 (.var 0)), (.asl 1 (.var 1))], 25, false, false, none⟩), (some ⟨[(.asl 2 (.var 2)), (.asl 3 (.var 3))], 45, false, false, none⟩), (some ⟨[(.asl 0 (.var 0)), (.asl 1 (.var 1)), (.int .i64 (.var 7)), (.int .i64 (.var 8))], 100, false, false, none⟩)], [], ⟨1, 0, 0⟩, ⟨[(.lit 0)], [], []⟩, []⟩
       (.rng 9 0 40 (.ite (.icmp .leq (.var 4) (.var 9))
        (.out 1 ⟨[], [], []⟩ [])
        (.ite (.icmp .leq (.lit 0) (.sel (.avar 7) (.var 9)))
         (.ite (.icmp .leq (.sel (.avar 7) (.var 9)) (.lit 1000))
          (.next ⟨[(.bin .addI (.var 9) (.lit 1))], [], []⟩ [])
          (.out 0 ⟨[(.var 9)], [], []⟩ []))
         (.out 0 ⟨[(.var 9)], [], []⟩ []))))
       (.ex (.ret, [(.asl 4 (.var 4)), (.func (.func 56) [] []), (.tuple []), (.tuple []), (.int .i64 (.var 9)), (.any 5), (.asl 4 (.var 4)), (.int .i64 (.var 4)), (.any 8), (.any 9), (.any 10), (.any 11), (.any 12), (.any 13), (.any 14), (.any 15), (.any 16), (.any 17), (.any 18)], [(some ⟨[], 9, true, false, (some ⟨(.var 0), [.str], [(.avar 0)]⟩)⟩), (some ⟨[], 91, true, false, (some ⟨(.var 1), [(.int .i64), .bool, (.int .i64), .bool], [(.avar 1), (.avar 2), (.avar 3), (.avar 4)]⟩)⟩), (some ⟨[], 4, true, false, (some ⟨(.var 2), [.bool], [(.avar 5)]⟩)⟩), (some ⟨[], 4, true, false, (some ⟨(.var 3), [.bool], [(.avar 6)]⟩)⟩), (some ⟨[], 3, true, false, (some ⟨(.var 4), [(.int .i64)], [(.avar 7)]⟩)⟩), (some ⟨[(.asl 0 (.var 0)), (.asl 1 (.var 1))], 25, false, false, none⟩), (some ⟨[(.asl 2 (.var 2)), (.asl 3 (.var 3))], 45, false, false, none⟩), (some ⟨[(.asl 0 (.var 0)), (.asl 1 (.var 1)), (.int .i64 (.var 7)), (.int .i64 (.var 8))], 100, false, false, none⟩)], []) ⟨1, 0, 0⟩
       (.rng 9 (-9223372036854775808) 9223372036854775807 (.ite (.icmp .leq (.lit 0) (.var 9))
        (.ret ⟨[(.lit 0), (.lit 2)], [], []⟩ [])
        (.call _grow_change__hasLabels_s ⟨[(.var 0), (.var 1), (.var 7), (.var 8), (.var 4)], [], [(.avar 0), (.avar 1), (.avar 2), (.avar 3), (.avar 4), (.avar 7)]⟩ ⟨[(.var 0), (.var 1), (.var 7), (.var 8), (.var 4)], [(.var 2)], [(.avar 0), (.avar 1), (.avar 2), (.avar 3), (.avar 4), (.avar 7)]⟩ ⟨58, [(.agg [(.asl 0 (.var 0)), (.asl 1 (.var 1)), (.int .i64 (.var 7)), (.int .i64 (.var 8))]), (.asl 4 (.var 4))], [0, 1, 4], [(some ⟨[], 9, true, false, (some ⟨(.var 0), [.str], [(.avar 0)]⟩)⟩), (some ⟨[], 91, true, false, (some ⟨(.var 1), [(.int .i64), .bool, (.int .i64), .bool], [(.avar 1), (.avar 2), (.avar 3), (.avar 4)]⟩)⟩), none, none, (some ⟨[], 3, true, false, (some ⟨(.var 4), [(.int .i64)], [(.avar 7)]⟩)⟩), none, none, none], (.bool (.var 2)), []⟩
         (.ite (.var 2)
         (.ite (.icmp .leq (.var 4) (.var 8))
          .nil
          (.ret ⟨[(.sel (.avar 7) (.var 8)), (.lit 0)], [], []⟩ []))
         (.ret ⟨[(.lit 0), (.lit 20)], [], []⟩ [])))))
       (.ex ((.exit 0), [(.asl 4 (.var 4)), (.func (.func 56) [] []), (.tuple []), (.tuple []), (.int .i64 (.lit 0)), (.any 5), (.asl 4 (.var 4)), (.int .i64 (.var 4)), (.any 8), (.any 9), (.any 10), (.any 11), (.any 12), (.any 13), (.any 14), (.any 15), (.any 16), (.tuple []), (.any 18)], [(some ⟨[], 9, true, false, (some ⟨(.var 0), [.str], [(.avar 0)]⟩)⟩), (some ⟨[], 91, true, false, (some ⟨(.var 1), [(.int .i64), .bool, (.int .i64), .bool], [(.avar 1), (.avar 2), (.avar 3), (.avar 4)]⟩)⟩), (some ⟨[], 4, true, false, (some ⟨(.var 2), [.bool], [(.avar 5)]⟩)⟩), (some ⟨[], 4, true, false, (some ⟨(.var 3), [.bool], [(.avar 6)]⟩)⟩), (some ⟨[], 3, true, false, (some ⟨(.var 4), [(.int .i64)], [(.avar 7)]⟩)⟩), (some ⟨[(.asl 0 (.var 0)), (.asl 1 (.var 1))], 25, false, false, none⟩), (some ⟨[(.asl 2 (.var 2)), (.asl 3 (.var 3))], 45, false, false, none⟩), (some ⟨[(.asl 0 (.var 0)), (.asl 1 (.var 1)), (.int .i64 (.var 7)), (.int .i64 (.var 8))], 100, false, false, none⟩)], []) ⟨0, 0, 0⟩
       (.call _grow_change__hasLabels_s ⟨[(.var 0), (.var 1), (.var 7), (.var 8), (.var 4)], [], [(.avar 0), (.avar 1), (.avar 2), (.avar 3), (.avar 4), (.avar 7)]⟩ ⟨[(.var 0), (.var 1), (.var 7), (.var 8), (.var 4)], [(.var 2)], [(.avar 0), (.avar 1), (.avar 2), (.avar 3), (.avar 4), (.avar 7)]⟩ ⟨58, [(.agg [(.asl 0 (.var 0)), (.asl 1 (.var 1)), (.int .i64 (.var 7)), (.int .i64 (.var 8))]), (.asl 4 (.var 4))], [0, 1, 4], [(some ⟨[], 9, true, false, (some ⟨(.var 0), [.str], [(.avar 0)]⟩)⟩), (some ⟨[], 91, true, false, (some ⟨(.var 1), [(.int .i64), .bool, (.int .i64), .bool], [(.avar 1), (.avar 2), (.avar 3), (.avar 4)]⟩)⟩), none, none, (some ⟨[], 3, true, false, (some ⟨(.var 4), [(.int .i64)], [(.avar 7)]⟩)⟩), none, none, none], (.bool (.var 2)), []⟩
        (.ite (.var 2)
        (.ite (.icmp .leq (.var 4) (.var 8))
         .nil
         (.ret ⟨[(.sel (.avar 7) (.var 8)), (.lit 0)], [], []⟩ []))
        (.ret ⟨[(.lit 0), (.lit 20)], [], []⟩ [])))
       .nil)))
      (.ret ⟨[(.lit 0), (.lit 12)], [], []⟩ []))
     (.ret ⟨[(.lit 0), (.lit 24)], [], []⟩ [])))
    (.ret ⟨[(.lit 0), (.lit 24)], [], []⟩ [])))))))
   (.ret ⟨[(.lit 0), (.var 6)], [], []⟩ []))
  (.ret ⟨[(.lit 0), (.var 5)], [], []⟩ []))))
theorem clb {x0 x1 x2 x3 x4 : Int} {f0 f1 f2 f3 f4 f5 f6 f7 : Int → Int} (r0 : 0 ≤ x0 ∧ x0 ≤ 10) (r1 : 0 ≤ x1 ∧ x1 ≤ 32) (r2 : 0 ≤ x2 ∧ x2 ≤ 12) (r3 : 0 ≤ x3 ∧ x3 ≤ 12) (r4 : 0 ≤ x4 ∧ x4 ≤ 40) (s1 : ∀ q, (-9223372036854775808) ≤ f1 q ∧ f1 q ≤ 9223372036854775807) (s3 : ∀ q, (-9223372036854775808) ≤ f3 q ∧ f3 q ≤ 9223372036854775807) (s7 : ∀ q, (-9223372036854775808) ≤ f7 q ∧ f7 q ≤ 9223372036854775807) {R : Int → Int → Prop}
  (H : (∃ v5 : Int, Spec Try.prog grow_checkState_s ⟨[x0, x1, x2], [], [f0, f1, f2, f3, f4, f5]⟩ [v5] [] [] ∧
   (∃ v6 : Int, Spec Try.prog grow_checkState_s ⟨[x0, x1, x3], [], [f0, f1, f2, f3, f4, f6]⟩ [v6] [] [] ∧
   ((((v5 : Int) == 0) = true → ((((v6 : Int) == 0) = true → (∃ v7 : Int, Spec Try.prog grow_numberOf_s ⟨[x2], [], [f5]⟩ [v7] [] [] ∧
     ((0 ≤ (v7 : Int) ∧ (v7 : Int) ≤ 255) ∧ (∃ v8 : Int, Spec Try.prog grow_numberOf_s ⟨[x3], [], [f6]⟩ [v8] [] [] ∧
     ((0 ≤ (v8 : Int) ∧ (v8 : Int) ≤ 255) ∧ (∃ u0 : Bool, Spec Try.prog _grow_change__isSafe_s ⟨[x0, x1, v7, v8, v7], [], [f0, f1, f2, f3, f4]⟩ [] [u0] [] ∧
     ((u0 = true → (∃ u1 : Bool, Spec Try.prog _grow_change__isSafe_s ⟨[x0, x1, v7, v8, v8], [], [f0, f1, f2, f3, f4]⟩ [] [u1] [] ∧
      ((u1 = true → ((((x4 : Int) == (NOp.den (.shlK .i64) 1 x0)) = true → (∃ (I9 : Int → Prop) (rk9 : Int → Nat), I9 (0) ∧
        (∀ x9 : Int, I9 x9 → ((0 ≤ (x9 : Int) ∧ (x9 : Int) ≤ 40) ∧ ((decide ((x4 : Int) ≤ x9) = true → (∃ u2' : Bool, Spec Try.prog _grow_change__hasLabels_s ⟨[x0, x1, v7, v8, x4], [], [f0, f1, f2, f3, f4, f7]⟩ [] [u2'] [] ∧
         ((u2' = true → ((decide ((x4 : Int) ≤ v8) = true → False) ∧
          (decide ((x4 : Int) ≤ v8) = false → R ((f7 v8)) (0)))) ∧
         (u2' = false → R (0) (20))))) ∧
         (decide ((x4 : Int) ≤ x9) = false → ((decide ((0 : Int) ≤ (f7 x9)) = true → ((decide (((f7 x9) : Int) ≤ 1000) = true → (I9 ((x9 + 1)) ∧ rk9 ((x9 + 1)) < rk9 x9)) ∧
           (decide (((f7 x9) : Int) ≤ 1000) = false → (((-9223372036854775808) ≤ ((x9) : Int) ∧ ((x9) : Int) ≤ 9223372036854775807) ∧ ((decide ((0 : Int) ≤ (x9)) = true → R (0) (2)) ∧
         (decide ((0 : Int) ≤ (x9)) = false → (∃ u2' : Bool, Spec Try.prog _grow_change__hasLabels_s ⟨[x0, x1, v7, v8, x4], [], [f0, f1, f2, f3, f4, f7]⟩ [] [u2'] [] ∧
          ((u2' = true → ((decide ((x4 : Int) ≤ v8) = true → False) ∧
           (decide ((x4 : Int) ≤ v8) = false → R ((f7 v8)) (0)))) ∧
          (u2' = false → R (0) (20)))))))))) ∧
          (decide ((0 : Int) ≤ (f7 x9)) = false → (((-9223372036854775808) ≤ ((x9) : Int) ∧ ((x9) : Int) ≤ 9223372036854775807) ∧ ((decide ((0 : Int) ≤ (x9)) = true → R (0) (2)) ∧
         (decide ((0 : Int) ≤ (x9)) = false → (∃ u2' : Bool, Spec Try.prog _grow_change__hasLabels_s ⟨[x0, x1, v7, v8, x4], [], [f0, f1, f2, f3, f4, f7]⟩ [] [u2'] [] ∧
          ((u2' = true → ((decide ((x4 : Int) ≤ v8) = true → False) ∧
           (decide ((x4 : Int) ≤ v8) = false → R ((f7 v8)) (0)))) ∧
          (u2' = false → R (0) (20))))))))))))))) ∧
       (((x4 : Int) == (NOp.den (.shlK .i64) 1 x0)) = false → R (0) (12)))) ∧
      (u1 = false → R (0) (24))))) ∧
     (u0 = false → R (0) (24))))))))) ∧
    (((v6 : Int) == 0) = false → R (0) (v6)))) ∧
   (((v5 : Int) == 0) = false → R (0) (v5)))))) :
    ∃ v0 : Int, ∃ v1 : Int, R v0 v1 ∧ Spec Try.prog grow_CheckLabels_s ⟨[x0, x1, x2, x3, x4], [], [f0, f1, f2, f3, f4, f5, f6, f7]⟩ [v0, v1] [] [] :=
  Eq.mp (by kernel_rfl) (exV_of (K := fun d => app3 grow_CheckLabels_s.out R d ∧ Spec Try.prog grow_CheckLabels_s ⟨[x0, x1, x2, x3, x4], [], [f0, f1, f2, f3, f4, f5, f6, f7]⟩ d.1 d.2.1 d.2.2) (tree_at mixed names S1_ok (S := S1 Try.prog) (lf := 100000) (d := 60) grow_CheckLabels_s clb_t { ivs := [(0, 0, 10), (1, 0, 32), (2, 0, 12), (3, 0, 12), (4, 0, 40)], aivs := [(1, (-9223372036854775808), 9223372036854775807), (3, (-9223372036854775808), 9223372036854775807), (7, (-9223372036854775808), 9223372036854775807)] } ⟨[x0, x1, x2, x3, x4], [], [f0, f1, f2, f3, f4, f5, f6, f7]⟩ rfl (by kernel_rfl) (by kernel_rfl) (by kernel_rfl) ⟨(fc r0 (fc r1 (fc r2 (fc r3 (fc r4 fz))))), fz, (fc s1 (fc s3 (fc s7 fz))), fz⟩ (R := fun d => app3 grow_CheckLabels_s.out R d) (Eq.mp (by kernel_rfl) H)))

def bitsF (n d : Int) : Int := bitOf n d

def highChk (n x d : Nat) : Bool := decide (n < 2 ^ x) && decide (x ≤ d) && !(bitOf n d == 0)

theorem high_all : ∀ n < 256, ∀ x < 9, ∀ d < 8, highChk n x d = false := by decide +kernel

theorem shl_all : ∀ x < 9, NOp.den (.shlK .i64) 1 ((x : Nat) : Int) = 2 ^ x := by decide +kernel

def lowChk (n d x : Nat) : Bool := !(decide (n < 2 ^ x) && decide (d < x)) || decide (xorS n d < 2 ^ x)

theorem low_all : ∀ n < 256, ∀ d < 8, ∀ x < 9, lowChk n d x = true := by decide +kernel

theorem xor_low {x0 n d : Int} (h8 : x0 ≤ 8) (hn : 0 ≤ n ∧ n < 2 ^ x0.toNat) (hd : 0 ≤ d ∧ d < x0) : 0 ≤ xorS n d ∧ xorS n d < 2 ^ x0.toNat := by

  have p := pow_le8 (i := x0) (by omega) h8

  obtain ⟨a, rfl⟩ := Int.eq_ofNat_of_zero_le hn.1

  obtain ⟨b, rfl⟩ := Int.eq_ofNat_of_zero_le hd.1

  have q := xor_all a (by omega) b (by omega) 0 (by decide)

  simp only [xorChk, Bool.and_eq_true, decide_eq_true_eq, beq_iff_eq] at q

  refine ⟨q.1.1.1, ?_⟩

  have k := low_all a (by omega) b (by omega) x0.toNat (by omega)

  have an : a < 2 ^ x0.toNat := by

    have : ((a : Nat) : Int) < ((2 ^ x0.toNat : Nat) : Int) := by rw [Int.natCast_pow]; exact hn.2

    exact Int.ofNat_lt.1 this

  simp only [lowChk, Bool.or_eq_true, Bool.not_eq_true', Bool.and_eq_false_iff, decide_eq_false_iff_not, decide_eq_true_eq] at k

  rcases k with (k | k) | k

  · exact absurd an k

  · omega

  · exact k

theorem num_self {x0 n : Int} (h0 : 0 ≤ x0) (h8 : x0 ≤ 8) (hn : 0 ≤ n ∧ n < 2 ^ x0.toNat) : numIs x0 (bitsF n) n := by

  have p := pow_le8 (i := x0) h0 h8

  refine ⟨by omega, fun d d0 d1 => ?_⟩

  have two := bit_two (v := n) (d := d) (by omega) ⟨d0, d1⟩

  unfold bitsF

  obtain ⟨a, rfl⟩ := Int.eq_ofNat_of_zero_le hn.1

  obtain ⟨b, rfl⟩ := Int.eq_ofNat_of_zero_le d0

  have an : a < 2 ^ x0.toNat := by

    have : ((a : Nat) : Int) < ((2 ^ x0.toNat : Nat) : Int) := by rw [Int.natCast_pow]; exact hn.2

    exact Int.ofNat_lt.1 this

  have k := high_all a (by omega) x0.toNat (by omega) b (by omega)

  simp only [highChk, Bool.and_eq_false_iff, decide_eq_false_iff_not, Bool.not_eq_false', beq_iff_eq] at k

  have k2 : x0.toNat ≤ b → bitOf ((a : Nat) : Int) ((b : Nat) : Int) = 0 := fun h => by

    rcases k with (k | k) | k

    · exact absurd an k

    · exact absurd h k

    · exact k

  by_cases hb : x0.toNat ≤ b

  · rw [k2 hb]; omega

  · omega

def safeN (x1 : Int) (f1 f2 f3 f4 : Int → Int) (n : Int) : Prop := safe x1 f1 f2 f3 f4 (bitsF n)

/-- No safe state's label is greater than that of a safe neighbour by more than one. -/

def edge (x0 x1 : Int) (f1 f2 f3 f4 f : Int → Int) (n : Int) : Prop := safeN x1 f1 f2 f3 f4 n → ∀ d, 0 ≤ d → d < x0 → safeN x1 f1 f2 f3 f4 (xorS n d) → f (xorS n d) ≤ f n + 1

def labOk (x0 x1 : Int) (f1 f2 f3 f4 f : Int → Int) (v : Int) : Prop := f v = 0 ∧ ∀ n, 0 ≤ n → n < 2 ^ x0.toNat → edge x0 x1 f1 f2 f3 f4 f n

def labIn (f : Int → Int) (m : Int) : Prop := ∀ q, 0 ≤ q → q < m → 0 ≤ f q ∧ f q ≤ 1000

theorem hasLabels_s {x0 x1 x2 x3 x4 : Int} {f0 f1 f2 f3 f4 f5 : Int → Int} (r0 : 0 ≤ x0 ∧ x0 ≤ 8) (r1 : 0 ≤ x1) (r2 : 0 ≤ x2 ∧ x2 < x4) (r3 : 0 ≤ x3 ∧ x3 ≤ 255) (r4 : x4 ≤ 40) (h4 : x4 = 2 ^ x0.toNat) (s1 : ∀ q, I64 (f1 q)) (s3 : ∀ q, I64 (f3 q)) (s5 : ∀ q, I64 (f5 q)) (rl : rulesOk x0 x1 f1 f3) (hl : labIn f5 x4) :

    ∃ u : Bool, (u = true ↔ labOk x0 x1 f1 f2 f3 f4 f5 x2) ∧ Spec Try.prog _grow_change__hasLabels_s ⟨[x0, x1, x2, x3, x4], [], [f0, f1, f2, f3, f4, f5]⟩ [] [u] [] := by

  have iv : I64 x2 := ⟨by omega, by omega⟩

  have iw : I64 x3 := ⟨by omega, by omega⟩

  refine hlb r0 ⟨r1, rl.1⟩ ⟨r2.1, by omega⟩ r3 ⟨by omega, r4⟩ s1 s3 s5 (R := fun u => u = true ↔ labOk x0 x1 f1 f2 f3 f4 f5 x2) ⟨fun n => (0 ≤ n ∧ n ≤ x4) ∧ ∀ m, 0 ≤ m → m < n → edge x0 x1 f1 f2 f3 f4 f5 m, fun n => (x4 - n).toNat, ⟨⟨by omega, by omega⟩, fun m a b => by omega⟩, ?_⟩

  rintro n ⟨hn, he⟩

  refine ⟨⟨hn.1, by omega⟩, fun h => ⟨fun g => ?_, fun _ => ?_⟩, fun h => ?_⟩

  · have := of_decide_eq_true g; omega

  · have h := of_decide_eq_true h

    constructor

    · intro g

      exact ⟨eq_of_beq g, fun m a b => he m a (by omega)⟩

    · intro g

      rw [g.1]; rfl

  have h := of_decide_eq_false h

  have nb : 0 ≤ n ∧ n < 2 ^ x0.toNat := ⟨hn.1, by omega⟩

  obtain ⟨u, hu, us⟩ := isSafe_s (x2 := x2) (x3 := x3) (f0 := f0) (f2 := f2) (f4 := f4) r0 r1 iv iw s1 s3 rl (num_self r0.1 r0.2 nb)

  have next : edge x0 x1 f1 f2 f3 f4 f5 n → (((0 ≤ n + 1 ∧ n + 1 ≤ x4) ∧ ∀ m, 0 ≤ m → m < n + 1 → edge x0 x1 f1 f2 f3 f4 f5 m) ∧ (x4 - (n + 1)).toNat < (x4 - n).toNat) := fun e => ⟨⟨⟨by omega, by omega⟩, fun m a b => by

    by_cases c : m = n

    · subst c; exact e

    · exact he m a (by omega)⟩, by omega⟩

  refine ⟨u, us, fun g => ?_, fun g => next fun s => ?_⟩

  · have sn := hu.1 g

    refine ⟨fun d => (0 ≤ d ∧ d ≤ x0) ∧ ∀ c, 0 ≤ c → c < d → safeN x1 f1 f2 f3 f4 (xorS n c) → f5 (xorS n c) ≤ f5 n + 1, fun d => (x0 - d).toNat, ⟨⟨by omega, by omega⟩, fun c a b => by omega⟩, ?_⟩

    rintro d ⟨hd, hc⟩

    refine ⟨⟨hd.1, by omega⟩, fun k => ?_, fun k => ?_⟩

    · have k := of_decide_eq_true k

      exact next fun _ c a b => hc c a (by omega)

    have k := of_decide_eq_false k

    have xl := xor_low r0.2 nb ⟨hd.1, by omega⟩

    obtain ⟨w, hw, ws⟩ := isSafe_s (x2 := x2) (x3 := x3) (f0 := f0) (f2 := f2) (f4 := f4) r0 r1 iv iw s1 s3 rl (num_self r0.1 r0.2 xl)

    have step : (safeN x1 f1 f2 f3 f4 (xorS n d) → f5 (xorS n d) ≤ f5 n + 1) → (((0 ≤ d + 1 ∧ d + 1 ≤ x0) ∧ ∀ c, 0 ≤ c → c < d + 1 → safeN x1 f1 f2 f3 f4 (xorS n c) → f5 (xorS n c) ≤ f5 n + 1) ∧ (x0 - (d + 1)).toNat < (x0 - d).toNat) := fun e => ⟨⟨⟨by omega, by omega⟩, fun c a b => by

      by_cases cc : c = d

      · subst cc; exact e

      · exact hc c a (by omega)⟩, by omega⟩

    have ln := hl n hn.1 (by omega)

    have wr : IntKind.i64.wrap (f5 n + 1) = f5 n + 1 := by rw [IntKind.wrap_i64]; omega

    refine ⟨w, ws, fun g' => ⟨fun _ => ⟨fun a => ?_, fun _ => ?_⟩, fun a => ?_⟩, fun g' => step fun s => ?_⟩

    · have a := of_decide_eq_true a

      have a' : x4 ≤ xorS n d := a

      omega

    · rw [wr]

      refine ⟨fun a => step fun _ => of_decide_eq_true a, fun a => ?_⟩

      have a : ¬ f5 (xorS n d) ≤ f5 n + 1 := of_decide_eq_false a

      constructor

      · intro z; cases z

      · intro lo; exact absurd (lo.2 n hn.1 nb.2 sn d hd.1 (by omega) (hw.1 g')) a

    · have a : ¬ 0 ≤ xorS n d := of_decide_eq_false a

      omega

    · have := hw.2 s; rw [this] at g'; cases g'

  · have := hu.2 s; rw [this] at g; cases g

inductive labIs (x0 x1 x4 : Int) (f1 f2 f3 f4 f5 f6 f7 : Int → Int) : Int → Int → Prop where

  | shape : x4 ≠ 2 ^ x0.toNat → labIs x0 x1 x4 f1 f2 f3 f4 f5 f6 f7 0 12

  | range : x4 = 2 ^ x0.toNat → ¬ labIn f7 x4 → labIs x0 x1 x4 f1 f2 f3 f4 f5 f6 f7 0 2

  | proof {v : Int} : x4 = 2 ^ x0.toNat → labIn f7 x4 → numIs x0 f5 v → ¬ labOk x0 x1 f1 f2 f3 f4 f7 v → labIs x0 x1 x4 f1 f2 f3 f4 f5 f6 f7 0 20

  | ok {v w : Int} : x4 = 2 ^ x0.toNat → labIn f7 x4 → numIs x0 f5 v → numIs x0 f6 w → labOk x0 x1 f1 f2 f3 f4 f7 v → labIs x0 x1 x4 f1 f2 f3 f4 f5 f6 f7 (f7 w) 0

theorem num_one {x0 v w : Int} {f : Int → Int} (h8 : x0 ≤ 8) (h : numIs x0 f v) (k : numIs x0 f w) : v = w := (num_uniq h8 h k).2 fun _ _ _ => Iff.rfl

theorem labIs_uniq {x0 x1 x4 n e n' e' : Int} {f1 f2 f3 f4 f5 f6 f7 : Int → Int} (h8 : x0 ≤ 8) (h : labIs x0 x1 x4 f1 f2 f3 f4 f5 f6 f7 n e) (h' : labIs x0 x1 x4 f1 f2 f3 f4 f5 f6 f7 n' e') : n = n' ∧ e = e' := by

  cases h with

  | shape a => cases h' with

    | shape _ => exact ⟨rfl, rfl⟩

    | range b _ => exact absurd b a

    | proof b _ _ _ => exact absurd b a

    | ok b _ _ _ _ => exact absurd b a

  | range a b => cases h' with

    | shape c => exact absurd a c

    | range _ _ => exact ⟨rfl, rfl⟩

    | proof _ c _ _ => exact absurd c b

    | ok _ c _ _ _ => exact absurd c b

  | proof a b c d => cases h' with

    | shape k => exact absurd a k

    | range _ k => exact absurd b k

    | proof _ _ _ _ => exact ⟨rfl, rfl⟩

    | ok _ _ k _ l => exact absurd (num_one h8 k c ▸ l) d

  | ok a b c d e => cases h' with

    | shape k => exact absurd a k

    | range _ k => exact absurd b k

    | proof _ _ k l => exact absurd (num_one h8 c k ▸ e) l

    | ok _ _ _ k _ => exact ⟨by rw [num_one h8 d k], rfl⟩

def labR (x0 x1 x2 x3 x4 : Int) (f0 f1 f2 f3 f4 f5 f6 f7 : Int → Int) (n e : Int) : Prop :=

  (chgIs x0 x1 x2 x3 f0 f1 f2 f3 f4 f5 f6 e ∧ e ≠ 0 ∧ n = 0) ∨ (chgIs x0 x1 x2 x3 f0 f1 f2 f3 f4 f5 f6 0 ∧ labIs x0 x1 x4 f1 f2 f3 f4 f5 f6 f7 n e)

theorem num_lt {x0 v : Int} {f : Int → Int} (h0 : 0 ≤ x0) (h8 : x0 ≤ 8) (h : numIs x0 f v) : v < 2 ^ x0.toNat := by

  obtain ⟨a, rfl⟩ := Int.eq_ofNat_of_zero_le h.1.1

  have hv := h.1.2

  rcases Nat.lt_or_ge a (2 ^ x0.toNat) with g | g

  · have : ((a : Nat) : Int) < ((2 ^ x0.toNat : Nat) : Int) := Int.ofNat_lt.2 g

    rw [Int.natCast_pow] at this; exact this

  · exfalso

    have all : ∀ x < 9, ∀ n < 256, 2 ^ x ≤ n → (List.range 8).any (fun d => decide (x ≤ d) && (bitOf ((n : Nat) : Int) ((d : Nat) : Int) == 1)) = true := by decide +kernel

    have k := all x0.toNat (by omega) a (by omega) g

    rw [List.any_eq_true] at k

    obtain ⟨d, hd, hk⟩ := k

    simp only [Bool.and_eq_true, decide_eq_true_eq, beq_iff_eq] at hk

    have d8 := List.mem_range.1 hd

    have := (h.2 ((d : Nat) : Int) (by omega) (by omega)).1 hk.2

    omega

theorem labels_p {x0 x1 x2 x3 x4 : Int} {f0 f1 f2 f3 f4 f5 f6 f7 : Int → Int} (r0 : 0 ≤ x0 ∧ x0 ≤ 10) (r1 : 0 ≤ x1 ∧ x1 ≤ 32) (r2 : 0 ≤ x2 ∧ x2 ≤ 12) (r3 : 0 ≤ x3 ∧ x3 ≤ 12) (r4 : 0 ≤ x4 ∧ x4 ≤ 40) (s1 : ∀ q, I64 (f1 q)) (s3 : ∀ q, I64 (f3 q)) (s7 : ∀ q, I64 (f7 q)) :

    ∃ n e, labR x0 x1 x2 x3 x4 f0 f1 f2 f3 f4 f5 f6 f7 n e ∧ Spec Try.prog grow_CheckLabels_s ⟨[x0, x1, x2, x3, x4], [], [f0, f1, f2, f3, f4, f5, f6, f7]⟩ [n, e] [] [] := by

  refine clb r0 r1 r2 r3 r4 s1 s3 s7 (R := labR x0 x1 x2 x3 x4 f0 f1 f2 f3 f4 f5 f6 f7) (head_tree r0 r1 r2 r3 s1 s3 (E := labR x0 x1 x2 x3 x4 f0 f1 f2 f3 f4 f5 f6 f7 0) (fun e hc he => .inl ⟨hc, he, rfl⟩) fun v w hc nv nw => ?_)

  obtain ⟨⟨dv, rl⟩, ⟨h2, h3⟩, _⟩ := chgIs_zero hc

  have d8 := dv.1

  have fin : ∀ {n e}, labIs x0 x1 x4 f1 f2 f3 f4 f5 f6 f7 n e → labR x0 x1 x2 x3 x4 f0 f1 f2 f3 f4 f5 f6 f7 n e := fun h => .inr ⟨hc, h⟩

  have sh := shl_all x0.toNat (by omega)

  rw [Int.toNat_of_nonneg r0.1] at sh

  rw [sh]

  refine ⟨fun h => ?_, fun h => fin (.shape (by simpa using h))⟩

  have h4 : x4 = 2 ^ x0.toNat := eq_of_beq h

  have vl := num_lt r0.1 d8 nv

  have wl := num_lt r0.1 d8 nw

  rw [← h4] at vl wl

  have nv1 := nv.1

  have nw1 := nw.1

  refine ⟨fun i => (0 ≤ i ∧ i ≤ x4) ∧ ∀ q, 0 ≤ q → q < i → 0 ≤ f7 q ∧ f7 q ≤ 1000, fun i => (x4 - i).toNat, ⟨⟨by omega, by omega⟩, fun q a b => by omega⟩, ?_⟩

  rintro i ⟨hi, hb⟩

  have bad : ¬ (0 ≤ f7 i ∧ f7 i ≤ 1000) → i < x4 → labR x0 x1 x2 x3 x4 f0 f1 f2 f3 f4 f5 f6 f7 0 2 := fun h g => fin (.range h4 fun m => h (m i hi.1 g))

  refine ⟨⟨hi.1, by omega⟩, fun h => ?_, fun h => ⟨fun a => ⟨fun b => ⟨⟨⟨by omega, by have := of_decide_eq_false h; omega⟩, fun q c d => ?_⟩, ?_⟩, fun b => ⟨⟨by omega, by omega⟩, fun _ => bad (fun m => of_decide_eq_false b m.2) (by have := of_decide_eq_false h; omega), fun g => absurd hi.1 (of_decide_eq_false g)⟩⟩, fun a => ⟨⟨by omega, by omega⟩, fun _ => bad (fun m => of_decide_eq_false a m.1) (by have := of_decide_eq_false h; omega), fun g => absurd hi.1 (of_decide_eq_false g)⟩⟩⟩

  · have h := of_decide_eq_true h

    have li : labIn f7 x4 := fun q a b => hb q a (by omega)

    obtain ⟨u, hu, us⟩ := hasLabels_s (x1 := x1) (x2 := v) (x3 := w) (x4 := x4) (f0 := f0) (f2 := f2) (f4 := f4) ⟨r0.1, d8⟩ r1.1 ⟨nv1.1, vl⟩ nw1 r4.2 h4 s1 s3 s7 rl li

    refine ⟨u, us, fun g => ⟨fun k => ?_, fun _ => fin (.ok h4 li nv nw (hu.1 g))⟩, fun g => fin (.proof h4 li nv fun m => ?_)⟩

    · have := of_decide_eq_true k; omega

    · have := hu.2 m; rw [this] at g; cases g

  · by_cases e : q = i

    · subst e; exact ⟨of_decide_eq_true a, of_decide_eq_true b⟩

    · exact hb q c (by omega)

  · have := of_decide_eq_false h

    show (x4 - (i + 1)).toNat < (x4 - i).toNat; omega

end Go.Proofs.Ytheopgjjkgklpaa.Ev
