/- Sequences of a change: which the reference accepts. -/
import Derived.Test.YtheopgjjkgklpaaFgcg
namespace Go.Proofs.Ytheopgjjkgklpaa.Ev
set_option linter.unusedSimpArgs false
open Go Go.RowKit
set_option linter.unusedVariables false
set_option maxRecDepth 100000
def etalonref08_CheckSequence_s : Sig := ⟨26, ⟨5, 0, 8⟩, ⟨2, 0, 0⟩, [(.agg [(.asl 0 (.var 0)), (.asl 1 (.var 1))]), (.agg [(.asl 2 (.var 2)), (.asl 3 (.var 3))]), (.asl 4 (.var 4))], [(some ⟨[], 9, true, false, (some ⟨(.var 0), [.str], [(.avar 0)]⟩)⟩), (some ⟨[], 91, true, false, (some ⟨(.var 1), [(.int .i64), .bool, (.int .i64), .bool], [(.avar 1), (.avar 2), (.avar 3), (.avar 4)]⟩)⟩), (some ⟨[], 4, true, false, (some ⟨(.var 2), [.bool], [(.avar 5)]⟩)⟩), (some ⟨[], 4, true, false, (some ⟨(.var 3), [.bool], [(.avar 6)]⟩)⟩), (some ⟨[], 3, true, false, (some ⟨(.var 4), [(.int .i64)], [(.avar 7)]⟩)⟩)], (.tuple [(.int .i64 (.var 5)), (.int .i64 (.var 6))]), []⟩

def rcsq_t : Tr :=
  (.ite (.icmp .leq (.var 4) (.lit 1000))
  (.ite (.icmp .leq (.var 4) (.lit 0))
   (.call etalonref08_Same_s ⟨[(.var 2), (.var 3)], [], [(.avar 5), (.avar 6)]⟩ ⟨[(.var 2), (.var 3)], [(.var 0)], [(.avar 5), (.avar 6)]⟩ ⟨20, [(.asl 2 (.var 2)), (.asl 3 (.var 3))], [2, 3], [none, none, (some ⟨[], 4, true, false, (some ⟨(.var 2), [.bool], [(.avar 5)]⟩)⟩), (some ⟨[], 4, true, false, (some ⟨(.var 3), [.bool], [(.avar 6)]⟩)⟩), none, none, none], (.bool (.var 0)), []⟩
    (.ite (.var 0)
    (.ret ⟨[(.var 4), (.lit 0)], [], []⟩ [])
    (.ret ⟨[(.lit 0), (.lit 23)], [], []⟩ [])))
   (.ite (.icmp .leq (.lit 0) (.sel (.avar 7) (.lit 0)))
    (.ite (.icmp .leq (.sel (.avar 7) (.lit 0)) (.bin .subI (.var 0) (.lit 1)))
     (.call etalonref08_Switched_s ⟨[(.var 2), (.sel (.avar 7) (.lit 0))], [], [(.avar 5)]⟩ ⟨[(.var 2), (.sel (.avar 7) (.lit 0)), (.var 5)], [], [(.avar 5), (.avar 8)]⟩ ⟨19, [(.asl 2 (.var 2)), (.int .i64 (.sel (.avar 7) (.lit 0)))], [2], [none, none, (some ⟨[], 4, true, false, (some ⟨(.var 2), [.bool], [(.avar 5)]⟩)⟩), none, none, none, none], (.asl 7 (.var 5)), [(some ⟨[], 4, false, true, (some ⟨(.var 5), [.bool], [(.avar 8)]⟩)⟩)]⟩
      (.rng 5 0 8 (.call etalonref08_FirstBroken_s ⟨[(.var 0), (.var 1), (.var 5)], [], [(.avar 0), (.avar 1), (.avar 2), (.avar 3), (.avar 4), (.avar 8)]⟩ ⟨[(.var 0), (.var 1), (.var 5), (.var 6)], [], [(.avar 0), (.avar 1), (.avar 2), (.avar 3), (.avar 4), (.avar 8)]⟩ ⟨17, [(.agg [(.asl 0 (.var 0)), (.asl 1 (.var 1))]), (.asl 7 (.var 5))], [0, 1, 7], [(some ⟨[], 9, true, false, (some ⟨(.var 0), [.str], [(.avar 0)]⟩)⟩), (some ⟨[], 91, true, false, (some ⟨(.var 1), [(.int .i64), .bool, (.int .i64), .bool], [(.avar 1), (.avar 2), (.avar 3), (.avar 4)]⟩)⟩), none, none, none, none, none, (some ⟨[], 4, false, true, (some ⟨(.var 5), [.bool], [(.avar 8)]⟩)⟩)], (.int .i64 (.var 6)), []⟩
      (.ite (.icmp .leq (.lit 0) (.var 6))
      (.ret ⟨[(.lit 0), (.lit 24)], [], []⟩ [])
      (.loop ⟨26, [0, 1, 0, 1, 1, 1], [(.agg [(.asl 0 (.var 0)), (.asl 1 (.var 1))]), (.agg [(.asl 2 (.var 2)), (.asl 3 (.var 3))]), (.asl 4 (.var 4)), (.ptr (some ⟨5, 0, none⟩)), (.ptr (some ⟨6, 0, none⟩)), (.tuple []), (.int .i64 (.lit 0)), (.int .i64 (.lit 0)), (.asl 7 (.var 5)), (.int .i64 (.lit 1)), (.asl 4 (.var 4)), (.int .i64 (.var 4)), (.bool (.icmp .gtr (.var 4) (.lit 1000))), (.ptr (some ⟨6, 0, none⟩)), (.asl 2 (.var 2)), (.int .i64 (.lit 0)), (.asl 4 (.var 4)), (.int .i64 (.var 4)), (.bool (.icmp .lss (.lit 0) (.var 4))), (.int .i64 (.lit 0)), (.int .i64 (.lit 1)), (.asl 4 (.var 4)), (.int .i64 (.lit 0)), (.eptr 4 (.lit 0) 1 0), (.int .i64 (.sel (.avar 7) (.lit 0))), (.ptr (some ⟨5, 0, none⟩)), (.asl 0 (.var 0)), (.int .i64 (.var 0)), (.int .i64 (.bin .subI (.var 0) (.lit 1))), (.bool (.icmp .leq (.sel (.avar 7) (.lit 0)) (.bin .subI (.var 0) (.lit 1)))), (.bool (.not (.icmp .leq (.sel (.avar 7) (.lit 0)) (.bin .subI (.var 0) (.lit 1))))), (.asl 2 (.var 2)), (.asl 4 (.var 4)), (.int .i64 (.lit 0)), (.eptr 4 (.lit 0) 1 0), (.int .i64 (.sel (.avar 7) (.lit 0))), (.asl 7 (.var 5)), (.agg [(.asl 0 (.var 0)), (.asl 1 (.var 1))]), (.asl 7 (.var 5)), (.int .i64 (.var 6)), (.bool (.icmp .geq (.var 6) (.lit 0))), (.tuple []), (.tuple []), (.tuple []), (.tuple []), (.tuple []), (.tuple []), (.tuple [])], [(some ⟨[], 9, true, false, (some ⟨(.var 0), [.str], [(.avar 0)]⟩)⟩), (some ⟨[], 91, true, false, (some ⟨(.var 1), [(.int .i64), .bool, (.int .i64), .bool], [(.avar 1), (.avar 2), (.avar 3), (.avar 4)]⟩)⟩), (some ⟨[], 4, true, false, (some ⟨(.var 2), [.bool], [(.avar 5)]⟩)⟩), (some ⟨[], 4, true, false, (some ⟨(.var 3), [.bool], [(.avar 6)]⟩)⟩), (some ⟨[], 3, true, false, (some ⟨(.var 4), [(.int .i64)], [(.avar 7)]⟩)⟩), (some ⟨[(.asl 0 (.var 0)), (.asl 1 (.var 1))], 25, false, false, none⟩), (some ⟨[(.asl 2 (.var 2)), (.asl 3 (.var 3))], 45, false, false, none⟩), (some ⟨[], 4, false, true, (some ⟨(.var 5), [.bool], [(.avar 8)]⟩)⟩)], [(.mv 7)], [(.agg [(.asl 0 (.var 0)), (.asl 1 (.var 1))]), (.agg [(.asl 2 (.var 2)), (.asl 3 (.var 3))]), (.asl 4 (.var 4)), (.ptr (some ⟨5, 0, none⟩)), (.ptr (some ⟨6, 0, none⟩)), (.tuple []), (.int .i64 (.lit 0)), (.int .i64 (.lit 0)), (.asl 8 (.var 8)), (.int .i64 (.var 7)), (.asl 4 (.var 4)), (.int .i64 (.var 4)), (.bool (.icmp .gtr (.var 4) (.lit 1000))), (.ptr (some ⟨6, 0, none⟩)), (.asl 2 (.var 2)), (.any 15), (.asl 4 (.var 4)), (.int .i64 (.var 4)), (.any 18), (.any 19), (.any 20), (.asl 4 (.var 4)), (.any 22), (.any 23), (.any 24), (.ptr (some ⟨5, 0, none⟩)), (.asl 0 (.var 0)), (.int .i64 (.var 0)), (.int .i64 (.bin .subI (.var 0) (.lit 1))), (.any 29), (.any 30), (.any 31), (.asl 4 (.var 4)), (.any 33), (.any 34), (.any 35), (.asl 8 (.var 8)), (.agg [(.asl 0 (.var 0)), (.asl 1 (.var 1))]), (.asl 8 (.var 8)), (.any 39), (.any 40), (.tuple []), (.tuple []), (.tuple []), (.tuple []), (.tuple []), (.tuple []), (.tuple [])], [(some ⟨[], 9, true, false, (some ⟨(.var 0), [.str], [(.avar 0)]⟩)⟩), (some ⟨[], 91, true, false, (some ⟨(.var 1), [(.int .i64), .bool, (.int .i64), .bool], [(.avar 1), (.avar 2), (.avar 3), (.avar 4)]⟩)⟩), (some ⟨[], 4, true, false, (some ⟨(.var 2), [.bool], [(.avar 5)]⟩)⟩), (some ⟨[], 4, true, false, (some ⟨(.var 3), [.bool], [(.avar 6)]⟩)⟩), (some ⟨[], 3, true, false, (some ⟨(.var 4), [(.int .i64)], [(.avar 7)]⟩)⟩), (some ⟨[(.asl 0 (.var 0)), (.asl 1 (.var 1))], 25, false, false, none⟩), (some ⟨[(.asl 2 (.var 2)), (.asl 3 (.var 3))], 45, false, false, none⟩), none, (some ⟨[], 4, false, true, (some ⟨(.var 8), [.bool], [(.avar 9)]⟩)⟩)], [7], ⟨2, 0, 1⟩, ⟨[(.lit 1), (.var 5)], [], [(.avar 8)]⟩, [8]⟩
       (.rng 7 1 1000 (.rng 8 0 8 (.ite (.icmp .leq (.var 4) (.var 7))
        (.out 1 ⟨[(.var 8)], [], [(.avar 9)]⟩ [8])
        (.ite (.icmp .leq (.lit 0) (.sel (.avar 7) (.var 7)))
         (.ite (.icmp .leq (.sel (.avar 7) (.var 7)) (.bin .subI (.var 0) (.lit 1)))
          (.call etalonref08_Switched_s ⟨[(.var 8), (.sel (.avar 7) (.var 7))], [], [(.avar 9)]⟩ ⟨[(.var 8), (.sel (.avar 7) (.var 7)), (.var 9)], [], [(.avar 9), (.avar 10)]⟩ ⟨19, [(.asl 8 (.var 8)), (.int .i64 (.sel (.avar 7) (.var 7)))], [8], [none, none, none, none, none, none, none, none, (some ⟨[], 4, false, true, (some ⟨(.var 8), [.bool], [(.avar 9)]⟩)⟩)], (.asl 9 (.var 9)), [(some ⟨[], 4, false, true, (some ⟨(.var 9), [.bool], [(.avar 10)]⟩)⟩)]⟩
           (.rng 9 0 8 (.call etalonref08_FirstBroken_s ⟨[(.var 0), (.var 1), (.var 9)], [], [(.avar 0), (.avar 1), (.avar 2), (.avar 3), (.avar 4), (.avar 10)]⟩ ⟨[(.var 0), (.var 1), (.var 9), (.var 10)], [], [(.avar 0), (.avar 1), (.avar 2), (.avar 3), (.avar 4), (.avar 10)]⟩ ⟨17, [(.agg [(.asl 0 (.var 0)), (.asl 1 (.var 1))]), (.asl 9 (.var 9))], [0, 1, 9], [(some ⟨[], 9, true, false, (some ⟨(.var 0), [.str], [(.avar 0)]⟩)⟩), (some ⟨[], 91, true, false, (some ⟨(.var 1), [(.int .i64), .bool, (.int .i64), .bool], [(.avar 1), (.avar 2), (.avar 3), (.avar 4)]⟩)⟩), none, none, none, none, none, none, none, (some ⟨[], 4, false, true, (some ⟨(.var 9), [.bool], [(.avar 10)]⟩)⟩)], (.int .i64 (.var 10)), []⟩
           (.ite (.icmp .leq (.lit 0) (.var 10))
           (.out 0 ⟨[(.lit 24), (.var 9)], [], [(.avar 10)]⟩ [9])
           (.next ⟨[(.bin .addI (.var 7) (.lit 1)), (.var 9)], [], [(.avar 10)]⟩ [9])))))
          (.out 0 ⟨[(.lit 6), (.var 8)], [], [(.avar 9)]⟩ [8]))
         (.out 0 ⟨[(.lit 6), (.var 8)], [], [(.avar 9)]⟩ [8])))))
       (.ex (.ret, [(.agg [(.asl 0 (.var 0)), (.asl 1 (.var 1))]), (.agg [(.asl 2 (.var 2)), (.asl 3 (.var 3))]), (.asl 4 (.var 4)), (.ptr (some ⟨5, 0, none⟩)), (.ptr (some ⟨6, 0, none⟩)), (.tuple []), (.int .i64 (.lit 0)), (.int .i64 (.var 7)), (.asl 8 (.var 8)), (.any 9), (.asl 4 (.var 4)), (.int .i64 (.var 4)), (.bool (.icmp .gtr (.var 4) (.lit 1000))), (.ptr (some ⟨6, 0, none⟩)), (.asl 2 (.var 2)), (.any 15), (.asl 4 (.var 4)), (.int .i64 (.var 4)), (.any 18), (.any 19), (.any 20), (.asl 4 (.var 4)), (.any 22), (.any 23), (.any 24), (.ptr (some ⟨5, 0, none⟩)), (.asl 0 (.var 0)), (.int .i64 (.var 0)), (.int .i64 (.bin .subI (.var 0) (.lit 1))), (.any 29), (.any 30), (.any 31), (.asl 4 (.var 4)), (.any 33), (.any 34), (.any 35), (.any 36), (.agg [(.asl 0 (.var 0)), (.asl 1 (.var 1))]), (.any 38), (.any 39), (.any 40), (.tuple []), (.tuple []), (.tuple []), (.tuple []), (.tuple []), (.tuple []), (.tuple [])], [(some ⟨[], 9, true, false, (some ⟨(.var 0), [.str], [(.avar 0)]⟩)⟩), (some ⟨[], 91, true, false, (some ⟨(.var 1), [(.int .i64), .bool, (.int .i64), .bool], [(.avar 1), (.avar 2), (.avar 3), (.avar 4)]⟩)⟩), (some ⟨[], 4, true, false, (some ⟨(.var 2), [.bool], [(.avar 5)]⟩)⟩), (some ⟨[], 4, true, false, (some ⟨(.var 3), [.bool], [(.avar 6)]⟩)⟩), (some ⟨[], 3, true, false, (some ⟨(.var 4), [(.int .i64)], [(.avar 7)]⟩)⟩), (some ⟨[(.asl 0 (.var 0)), (.asl 1 (.var 1))], 25, false, false, none⟩), (some ⟨[(.asl 2 (.var 2)), (.asl 3 (.var 3))], 45, false, false, none⟩), none, (some ⟨[], 4, false, true, (some ⟨(.var 8), [.bool], [(.avar 9)]⟩)⟩)], [7]) ⟨2, 0, 1⟩
       (.rng 7 (-9223372036854775808) 9223372036854775807 (.rng 8 0 140737488355328 (.ret ⟨[(.lit 0), (.var 7)], [], []⟩ [])))
       (.ex ((.exit 0), [(.agg [(.asl 0 (.var 0)), (.asl 1 (.var 1))]), (.agg [(.asl 2 (.var 2)), (.asl 3 (.var 3))]), (.asl 4 (.var 4)), (.ptr (some ⟨5, 0, none⟩)), (.ptr (some ⟨6, 0, none⟩)), (.tuple []), (.int .i64 (.lit 0)), (.int .i64 (.lit 0)), (.asl 8 (.var 7)), (.any 9), (.asl 4 (.var 4)), (.int .i64 (.var 4)), (.bool (.icmp .gtr (.var 4) (.lit 1000))), (.ptr (some ⟨6, 0, none⟩)), (.asl 2 (.var 2)), (.any 15), (.asl 4 (.var 4)), (.int .i64 (.var 4)), (.any 18), (.any 19), (.any 20), (.asl 4 (.var 4)), (.any 22), (.any 23), (.any 24), (.ptr (some ⟨5, 0, none⟩)), (.asl 0 (.var 0)), (.int .i64 (.var 0)), (.int .i64 (.bin .subI (.var 0) (.lit 1))), (.any 29), (.any 30), (.any 31), (.asl 4 (.var 4)), (.any 33), (.any 34), (.any 35), (.any 36), (.agg [(.asl 0 (.var 0)), (.asl 1 (.var 1))]), (.any 38), (.any 39), (.any 40), (.tuple []), (.tuple []), (.tuple []), (.tuple []), (.tuple []), (.tuple []), (.tuple [])], [(some ⟨[], 9, true, false, (some ⟨(.var 0), [.str], [(.avar 0)]⟩)⟩), (some ⟨[], 91, true, false, (some ⟨(.var 1), [(.int .i64), .bool, (.int .i64), .bool], [(.avar 1), (.avar 2), (.avar 3), (.avar 4)]⟩)⟩), (some ⟨[], 4, true, false, (some ⟨(.var 2), [.bool], [(.avar 5)]⟩)⟩), (some ⟨[], 4, true, false, (some ⟨(.var 3), [.bool], [(.avar 6)]⟩)⟩), (some ⟨[], 3, true, false, (some ⟨(.var 4), [(.int .i64)], [(.avar 7)]⟩)⟩), (some ⟨[(.asl 0 (.var 0)), (.asl 1 (.var 1))], 25, false, false, none⟩), (some ⟨[(.asl 2 (.var 2)), (.asl 3 (.var 3))], 45, false, false, none⟩), none, (some ⟨[], 4, false, true, (some ⟨(.var 7), [.bool], [(.avar 9)]⟩)⟩)], [7]) ⟨1, 0, 1⟩
       (.rng 7 0 140737488355328 (.call etalonref08_Same_s ⟨[(.var 7), (.var 3)], [], [(.avar 9), (.avar 6)]⟩ ⟨[(.var 7), (.var 3)], [(.var 0)], [(.avar 9), (.avar 6)]⟩ ⟨20, [(.asl 8 (.var 7)), (.asl 3 (.var 3))], [8, 3], [none, none, none, (some ⟨[], 4, true, false, (some ⟨(.var 3), [.bool], [(.avar 6)]⟩)⟩), none, none, none, none, (some ⟨[], 4, false, true, (some ⟨(.var 7), [.bool], [(.avar 9)]⟩)⟩)], (.bool (.var 0)), []⟩
        (.ite (.var 0)
        (.ret ⟨[(.var 4), (.lit 0)], [], []⟩ [])
        (.ret ⟨[(.lit 0), (.lit 23)], [], []⟩ []))))
       .nil)))))))
     (.ret ⟨[(.lit 0), (.lit 6)], [], []⟩ []))
    (.ret ⟨[(.lit 0), (.lit 6)], [], []⟩ [])))
  (.ret ⟨[(.lit 0), (.lit 8)], [], []⟩ []))
theorem rcsq {x0 x1 x2 x3 x4 : Int} {f0 f1 f2 f3 f4 f5 f6 f7 : Int → Int} (r0 : 0 ≤ x0 ∧ x0 ≤ 8) (r1 : 0 ≤ x1 ∧ x1 ≤ 30) (r2 : 0 ≤ x2 ∧ x2 ≤ 8) (r3 : 0 ≤ x3 ∧ x3 ≤ 8) (r4 : 0 ≤ x4 ∧ x4 ≤ 1002) (s1 : ∀ q, (-9223372036854775808) ≤ f1 q ∧ f1 q ≤ 9223372036854775807) (s3 : ∀ q, (-9223372036854775808) ≤ f3 q ∧ f3 q ≤ 9223372036854775807) (s7 : ∀ q, (-9223372036854775808) ≤ f7 q ∧ f7 q ≤ 9223372036854775807) {R : Int → Int → Prop}
  (H : ((decide ((x4 : Int) ≤ 1000) = true → ((decide ((x4 : Int) ≤ 0) = true → (∃ u0 : Bool, Spec Try.prog etalonref08_Same_s ⟨[x2, x3], [], [f5, f6]⟩ [] [u0] [] ∧
     ((u0 = true → R (x4) (0)) ∧
     (u0 = false → R (0) (23))))) ∧
    (decide ((x4 : Int) ≤ 0) = false → ((decide ((0 : Int) ≤ (f7 0)) = true → ((decide (((f7 0) : Int) ≤ (x0 - 1)) = true → (∃ v5 : Int, ∃ g8 : Int → Int, Spec Try.prog etalonref08_Switched_s ⟨[x2, (f7 0)], [], [f5]⟩ [v5] [] [g8] ∧
       ((0 ≤ (v5 : Int) ∧ (v5 : Int) ≤ 8) ∧ (∃ v6 : Int, Spec Try.prog etalonref08_FirstBroken_s ⟨[x0, x1, v5], [], [f0, f1, f2, f3, f4, g8]⟩ [v6] [] [] ∧
       ((decide ((0 : Int) ≤ v6) = true → R (0) (24)) ∧
       (decide ((0 : Int) ≤ v6) = false → (∃ (I7 : Int → Int → (Int → Int) → Prop) (rk7 : Int → Int → (Int → Int) → Nat), I7 (1) (v5) (g8) ∧
        (∀ x7 : Int, ∀ x8 : Int, ∀ f9 : Int → Int, I7 x7 x8 f9 → ((1 ≤ (x7 : Int) ∧ (x7 : Int) ≤ 1000) ∧ ((0 ≤ (x8 : Int) ∧ (x8 : Int) ≤ 8) ∧ ((decide ((x4 : Int) ≤ x7) = true → ((0 ≤ ((x8) : Int) ∧ ((x8) : Int) ≤ 140737488355328) ∧ (∃ u0' : Bool, Spec Try.prog etalonref08_Same_s ⟨[(x8), x3], [], [f9, f6]⟩ [] [u0'] [] ∧
         ((u0' = true → R (x4) (0)) ∧
         (u0' = false → R (0) (23)))))) ∧
         (decide ((x4 : Int) ≤ x7) = false → ((decide ((0 : Int) ≤ (f7 x7)) = true → ((decide (((f7 x7) : Int) ≤ (x0 - 1)) = true → (∃ v9 : Int, ∃ g10 : Int → Int, Spec Try.prog etalonref08_Switched_s ⟨[x8, (f7 x7)], [], [f9]⟩ [v9] [] [g10] ∧
            ((0 ≤ (v9 : Int) ∧ (v9 : Int) ≤ 8) ∧ (∃ v10 : Int, Spec Try.prog etalonref08_FirstBroken_s ⟨[x0, x1, v9], [], [f0, f1, f2, f3, f4, g10]⟩ [v10] [] [] ∧
            ((decide ((0 : Int) ≤ v10) = true → (((-9223372036854775808) ≤ ((24) : Int) ∧ ((24) : Int) ≤ 9223372036854775807) ∧ ((0 ≤ ((v9) : Int) ∧ ((v9) : Int) ≤ 140737488355328) ∧ R (0) ((24))))) ∧
            (decide ((0 : Int) ≤ v10) = false → (I7 ((x7 + 1)) (v9) (g10) ∧ rk7 ((x7 + 1)) (v9) (g10) < rk7 x7 x8 f9))))))) ∧
           (decide (((f7 x7) : Int) ≤ (x0 - 1)) = false → (((-9223372036854775808) ≤ ((6) : Int) ∧ ((6) : Int) ≤ 9223372036854775807) ∧ ((0 ≤ ((x8) : Int) ∧ ((x8) : Int) ≤ 140737488355328) ∧ R (0) ((6))))))) ∧
          (decide ((0 : Int) ≤ (f7 x7)) = false → (((-9223372036854775808) ≤ ((6) : Int) ∧ ((6) : Int) ≤ 9223372036854775807) ∧ ((0 ≤ ((x8) : Int) ∧ ((x8) : Int) ≤ 140737488355328) ∧ R (0) ((6)))))))))))))))))) ∧
      (decide (((f7 0) : Int) ≤ (x0 - 1)) = false → R (0) (6)))) ∧
     (decide ((0 : Int) ≤ (f7 0)) = false → R (0) (6)))))) ∧
   (decide ((x4 : Int) ≤ 1000) = false → R (0) (8)))) :
    ∃ v0 : Int, ∃ v1 : Int, R v0 v1 ∧ Spec Try.prog etalonref08_CheckSequence_s ⟨[x0, x1, x2, x3, x4], [], [f0, f1, f2, f3, f4, f5, f6, f7]⟩ [v0, v1] [] [] :=
  Eq.mp (by kernel_rfl) (exV_of (K := fun d => app3 etalonref08_CheckSequence_s.out R d ∧ Spec Try.prog etalonref08_CheckSequence_s ⟨[x0, x1, x2, x3, x4], [], [f0, f1, f2, f3, f4, f5, f6, f7]⟩ d.1 d.2.1 d.2.2) (tree_at mixed names S1_ok (S := S1 Try.prog) (lf := 100000) (d := 60) etalonref08_CheckSequence_s rcsq_t { ivs := [(0, 0, 8), (1, 0, 30), (2, 0, 8), (3, 0, 8), (4, 0, 1002)], aivs := [(1, (-9223372036854775808), 9223372036854775807), (3, (-9223372036854775808), 9223372036854775807), (7, (-9223372036854775808), 9223372036854775807)] } ⟨[x0, x1, x2, x3, x4], [], [f0, f1, f2, f3, f4, f5, f6, f7]⟩ rfl (by kernel_rfl) (by kernel_rfl) (by kernel_rfl) ⟨(fc r0 (fc r1 (fc r2 (fc r3 (fc r4 fz))))), fz, (fc s1 (fc s3 (fc s7 fz))), fz⟩ (R := fun d => app3 etalonref08_CheckSequence_s.out R d) (Eq.mp (by kernel_rfl) H)))

theorem same_iff {n : Int} {f g : Int → Int} (r0 : 0 ≤ n ∧ n ≤ 12) : ∃ u : Bool, (u = true ↔ sameSt n f g) ∧ Spec Try.prog etalonref08_Same_s ⟨[n, n], [], [f, g]⟩ [] [u] [] := by

  refine rsm r0 r0 (R := fun u => u = true ↔ sameSt n f g) ⟨fun _ => ⟨fun i => (0 ≤ i ∧ i ≤ n) ∧ ∀ d, 0 ≤ d → d < i → (f d ≠ 0 ↔ g d ≠ 0), fun i => (n - i).toNat, ⟨⟨by omega, by omega⟩, fun d a b => by omega⟩, ?_⟩, fun h => by simp at h⟩

  rintro i ⟨hi, hb⟩

  have go : ¬ n ≤ i → (f i ≠ 0 ↔ g i ≠ 0) → (((0 ≤ i + 1 ∧ i + 1 ≤ n) ∧ ∀ d, 0 ≤ d → d < i + 1 → (f d ≠ 0 ↔ g d ≠ 0)) ∧ (n - (i + 1)).toNat < (n - i).toNat) := fun h e => ⟨⟨⟨by omega, by omega⟩, fun d a b => by

    by_cases c : d = i

    · subst c; exact e

    · exact hb d a (by omega)⟩, by omega⟩

  have stop : ¬ n ≤ i → ¬ (f i ≠ 0 ↔ g i ≠ 0) → (false = true ↔ sameSt n f g) := fun h e => ⟨fun z => (by cases z), fun s => absurd (s i hi.1 (by omega)) e⟩

  refine ⟨⟨hi.1, by omega⟩, fun h => ⟨fun _ d a b => hb d a (by have := of_decide_eq_true h; omega), fun _ => rfl⟩, fun h => ⟨fun g => ?_, fun _ => ⟨fun a => ⟨fun b => go (of_decide_eq_false h) ?_, fun b => stop (of_decide_eq_false h) ?_⟩, fun a => ⟨fun b => stop (of_decide_eq_false h) ?_, fun b => go (of_decide_eq_false h) ?_⟩⟩⟩⟩

  · have := of_decide_eq_false h; have := of_decide_eq_true g; omega

  · have a := eq_of_beq a; have b := eq_of_beq b; omega

  · have a := eq_of_beq a; have b : ¬ g i = 0 := by simpa using b

    omega

  · have b := eq_of_beq b; have a : ¬ f i = 0 := by simpa using a

    omega

  · have b : ¬ g i = 0 := by simpa using b

    have a : ¬ f i = 0 := by simpa using a

    omega

theorem fin_s {x0 x1 x4 : Int} {f1 f2 f3 f4 f5 f6 f7 : Int → Int} (r0 : 0 ≤ x0 ∧ x0 ≤ 12) (l : x4 ≤ 1000) (ok : okTo x0 x1 f1 f2 f3 f4 f5 f7 x4) : ∃ u0 : Bool, Spec Try.prog etalonref08_Same_s ⟨[x0, x0], [], [stS f5 f7 x4.toNat, f6]⟩ [] [u0] [] ∧ ((u0 = true → seqIs x0 x1 x4 f1 f2 f3 f4 f5 f6 f7 x4 0) ∧ (u0 = false → seqIs x0 x1 x4 f1 f2 f3 f4 f5 f6 f7 0 23)) := by

  obtain ⟨u, hu, us⟩ := same_iff (f := stS f5 f7 x4.toNat) (g := f6) r0

  exact ⟨u, us, fun g => .done l ok (hu.1 g), fun g => .left l ok fun m => by rw [hu.2 m] at g; cases g⟩

theorem seq_r {x0 x1 x4 : Int} {f0 f1 f2 f3 f4 f5 f6 f7 : Int → Int} (r0 : 0 ≤ x0) (r1 : 0 ≤ x1) (r4 : 0 ≤ x4 ∧ x4 ≤ 1002) (s1 : ∀ q, I64 (f1 q)) (s3 : ∀ q, I64 (f3 q)) (s7 : ∀ q, I64 (f7 q)) (dv : devsOk x0 f0) (rl : rulesOk x0 x1 f1 f3) :

    ∃ n e, seqIs x0 x1 x4 f1 f2 f3 f4 f5 f6 f7 n e ∧ Spec Try.prog etalonref08_CheckSequence_s ⟨[x0, x1, x0, x0, x4], [], [f0, f1, f2, f3, f4, f5, f6, f7]⟩ [n, e] [] [] := by

  have d8 := dv.1

  have l30 := rl.1

  refine rcsq ⟨r0, d8⟩ ⟨r1, l30⟩ ⟨r0, d8⟩ ⟨r0, d8⟩ r4 s1 s3 s7 (R := seqIs x0 x1 x4 f1 f2 f3 f4 f5 f6 f7) ⟨fun h => ?_, fun h => .far (by have := of_decide_eq_false h; omega)⟩

  have l4 := of_decide_eq_true h

  have lx : 0 ≤ x0 ∧ x0 ≤ 140737488355328 := ⟨r0, by omega⟩

  have ok0 : okTo x0 x1 f1 f2 f3 f4 f5 f7 0 := fun j a b => by omega

  have step : ∀ i, 0 ≤ i → i < x4 → okTo x0 x1 f1 f2 f3 f4 f5 f7 i → (0 ≤ f7 i ∧ f7 i ≤ x0 - 1) → ∃ k : Int, Spec Try.prog etalonref08_FirstBroken_s ⟨[x0, x1, x0], [], [f0, f1, f2, f3, f4, stS f5 f7 (i + 1).toNat]⟩ [k] [] [] ∧ (0 ≤ k → seqIs x0 x1 x4 f1 f2 f3 f4 f5 f6 f7 0 24) ∧ (¬ 0 ≤ k → okTo x0 x1 f1 f2 f3 f4 f5 f7 (i + 1)) := fun i hi hx ok hr => by

    obtain ⟨k, hk, ks⟩ := firstBroken_r (f0 := f0) (f2 := f2) (f4 := f4) (f5 := stS f5 f7 (i + 1).toNat) r0 r1 s1 s3 dv rl

    refine ⟨k, ks, fun g => .hurt l4 hi hx ok hr ?_, fun g => okTo_next hi ok hr ?_⟩

    · rcases fb_safe hk with ⟨_, n⟩ | ⟨n, _⟩

      · exact n

      · exact absurd g n

    · rcases fb_safe hk with ⟨n, _⟩ | ⟨_, s⟩

      · exact absurd n g

      · exact s

  have sw : ∀ i, 0 ≤ i → (0 ≤ f7 i ∧ f7 i ≤ x0 - 1) → Spec Try.prog etalonref08_Switched_s ⟨[x0, f7 i], [], [stS f5 f7 i.toNat]⟩ [x0] [] [stS f5 f7 (i + 1).toNat] := fun i hi hr => by

    have := switched_r (f0 := stS f5 f7 i.toNat) (x0 := x0) (x1 := f7 i) ⟨r0, by omega⟩ ⟨hr.1, by omega⟩

    rw [← stS_next hi] at this

    exact this

  have bad : ∀ i, 0 ≤ i → i < x4 → okTo x0 x1 f1 f2 f3 f4 f5 f7 i → ¬ (0 ≤ f7 i ∧ f7 i ≤ x0 - 1) → seqIs x0 x1 x4 f1 f2 f3 f4 f5 f6 f7 0 6 := fun i hi hx ok n => .miss l4 hi hx ok n

  refine ⟨fun h => ?_, fun h => ⟨fun a => ⟨fun b => ?_, fun b => bad 0 (by decide) (by have := of_decide_eq_false h; omega) ok0 (fun m => of_decide_eq_false b m.2)⟩, fun a => bad 0 (by decide) (by have := of_decide_eq_false h; omega) ok0 (fun m => of_decide_eq_false a m.1)⟩⟩

  · have e : x4 = 0 := by have := of_decide_eq_true h; omega

    subst e

    exact fin_s ⟨r0, by omega⟩ l4 ok0

  have hx := of_decide_eq_false h

  have hr : 0 ≤ f7 0 ∧ f7 0 ≤ x0 - 1 := ⟨of_decide_eq_true a, of_decide_eq_true b⟩

  obtain ⟨k, ks, k1, k2⟩ := step 0 (by decide) (by omega) ok0 hr

  refine ⟨_, _, sw 0 (by decide) hr, ⟨r0, d8⟩, _, ks, fun g => k1 (of_decide_eq_true g), fun g => ⟨fun i v s => (1 ≤ i ∧ i ≤ x4) ∧ v = x0 ∧ s = stS f5 f7 i.toNat ∧ okTo x0 x1 f1 f2 f3 f4 f5 f7 i, fun i _ _ => (x4 - i).toNat, ⟨⟨by omega, by omega⟩, rfl, rfl, k2 (of_decide_eq_false g)⟩, ?_⟩⟩

  rintro i v s ⟨hi, hv, hs, ok⟩

  subst hv hs

  refine ⟨⟨hi.1, by omega⟩, ⟨r0, d8⟩, fun h => ⟨lx, ?_⟩, fun h => ⟨fun a => ⟨fun b => ?_, fun b => ⟨⟨by omega, by omega⟩, lx, bad i (by omega) (by have := of_decide_eq_false h; omega) ok (fun m => of_decide_eq_false b m.2)⟩⟩, fun a => ⟨⟨by omega, by omega⟩, lx, bad i (by omega) (by have := of_decide_eq_false h; omega) ok (fun m => of_decide_eq_false a m.1)⟩⟩⟩

  · have e : i = x4 := by have := of_decide_eq_true h; omega

    subst e

    exact fin_s ⟨r0, by omega⟩ l4 ok

  · have hx := of_decide_eq_false h

    have hr : 0 ≤ f7 i ∧ f7 i ≤ v - 1 := ⟨of_decide_eq_true a, of_decide_eq_true b⟩

    obtain ⟨k, ks, k1, k2⟩ := step i (by omega) (by omega) ok hr

    refine ⟨_, _, sw i (by omega) hr, ⟨r0, d8⟩, _, ks, fun g => ⟨⟨by omega, by omega⟩, lx, k1 (of_decide_eq_true g)⟩, fun g => ⟨⟨⟨by omega, by omega⟩, rfl, rfl, k2 (of_decide_eq_false g)⟩, ?_⟩⟩

    show (x4 - (i + 1)).toNat < (x4 - i).toNat; omega

end Go.Proofs.Ytheopgjjkgklpaa.Ev
