/- GrowClaims. -/
import Derived.Test.YtheopgjjkgklpaaFgch
import Derived.Test.YtheopgjjkgklpaaFgce
namespace Go.Proofs.Ytheopgjjkgklpaa.Ev
set_option linter.unusedSimpArgs false
open Go Go.RowKit
set_option linter.unusedVariables false
set_option maxRecDepth 100000
def etalonlaw08_changeErr_s : Sig := ⟨25, ⟨4, 0, 7⟩, ⟨1, 0, 0⟩, [(.agg [(.asl 0 (.var 0)), (.asl 1 (.var 1))]), (.agg [(.asl 2 (.var 2)), (.asl 3 (.var 3))])], [(some ⟨[], 9, true, false, (some ⟨(.var 0), [.str], [(.avar 0)]⟩)⟩), (some ⟨[], 91, true, false, (some ⟨(.var 1), [(.int .i64), .bool, (.int .i64), .bool], [(.avar 1), (.avar 2), (.avar 3), (.avar 4)]⟩)⟩), (some ⟨[], 4, true, false, (some ⟨(.var 2), [.bool], [(.avar 5)]⟩)⟩), (some ⟨[], 4, true, false, (some ⟨(.var 3), [.bool], [(.avar 6)]⟩)⟩)], (.int .i64 (.var 4)), []⟩
def etalonlaw08_GrowClaims_s : Sig := ⟨5, ⟨6, 0, 9⟩, ⟨0, 1, 0⟩, [(.agg [(.asl 0 (.var 0)), (.asl 1 (.var 1))]), (.agg [(.asl 2 (.var 2)), (.asl 3 (.var 3))]), (.agg [(.asl 4 (.var 4)), (.asl 5 (.var 5))])], [(some ⟨[], 9, true, false, (some ⟨(.var 0), [.str], [(.avar 0)]⟩)⟩), (some ⟨[], 91, true, false, (some ⟨(.var 1), [(.int .i64), .bool, (.int .i64), .bool], [(.avar 1), (.avar 2), (.avar 3), (.avar 4)]⟩)⟩), (some ⟨[], 4, true, false, (some ⟨(.var 2), [.bool], [(.avar 5)]⟩)⟩), (some ⟨[], 4, true, false, (some ⟨(.var 3), [.bool], [(.avar 6)]⟩)⟩), (some ⟨[], 3, true, false, (some ⟨(.var 4), [(.int .i64)], [(.avar 7)]⟩)⟩), (some ⟨[], 3, true, false, (some ⟨(.var 5), [(.int .i64)], [(.avar 8)]⟩)⟩)], (.bool (.var 0)), []⟩

def lce_t : Tr :=
  (.call etalonref08_CheckChamber_s ⟨[(.var 0), (.var 1)], [], [(.avar 0), (.avar 1), (.avar 2), (.avar 3), (.avar 4)]⟩ ⟨[(.var 0), (.var 1), (.var 4), (.var 5)], [], [(.avar 0), (.avar 1), (.avar 2), (.avar 3), (.avar 4)]⟩ ⟨15, [(.agg [(.asl 0 (.var 0)), (.asl 1 (.var 1))])], [0, 1], [(some ⟨[], 9, true, false, (some ⟨(.var 0), [.str], [(.avar 0)]⟩)⟩), (some ⟨[], 91, true, false, (some ⟨(.var 1), [(.int .i64), .bool, (.int .i64), .bool], [(.avar 1), (.avar 2), (.avar 3), (.avar 4)]⟩)⟩), none, none, none, none], (.tuple [(.int .i64 (.var 4)), (.int .i64 (.var 5))]), []⟩
  (.ite (.icmp .eql (.var 5) (.lit 0))
  (.call etalonref08_StateErr_s ⟨[(.var 0), (.var 1), (.var 2)], [], [(.avar 0), (.avar 1), (.avar 2), (.avar 3), (.avar 4), (.avar 5)]⟩ ⟨[(.var 0), (.var 1), (.var 2), (.var 6)], [], [(.avar 0), (.avar 1), (.avar 2), (.avar 3), (.avar 4), (.avar 5)]⟩ ⟨16, [(.agg [(.asl 0 (.var 0)), (.asl 1 (.var 1))]), (.asl 2 (.var 2))], [0, 1, 2], [(some ⟨[], 9, true, false, (some ⟨(.var 0), [.str], [(.avar 0)]⟩)⟩), (some ⟨[], 91, true, false, (some ⟨(.var 1), [(.int .i64), .bool, (.int .i64), .bool], [(.avar 1), (.avar 2), (.avar 3), (.avar 4)]⟩)⟩), (some ⟨[], 4, true, false, (some ⟨(.var 2), [.bool], [(.avar 5)]⟩)⟩), none, none, none, none, none], (.int .i64 (.var 6)), []⟩
   (.ite (.icmp .eql (.var 6) (.lit 0))
   (.call etalonref08_StateErr_s ⟨[(.var 0), (.var 1), (.var 3)], [], [(.avar 0), (.avar 1), (.avar 2), (.avar 3), (.avar 4), (.avar 6)]⟩ ⟨[(.var 0), (.var 1), (.var 3), (.var 7)], [], [(.avar 0), (.avar 1), (.avar 2), (.avar 3), (.avar 4), (.avar 6)]⟩ ⟨16, [(.agg [(.asl 0 (.var 0)), (.asl 1 (.var 1))]), (.asl 3 (.var 3))], [0, 1, 3], [(some ⟨[], 9, true, false, (some ⟨(.var 0), [.str], [(.avar 0)]⟩)⟩), (some ⟨[], 91, true, false, (some ⟨(.var 1), [(.int .i64), .bool, (.int .i64), .bool], [(.avar 1), (.avar 2), (.avar 3), (.avar 4)]⟩)⟩), none, (some ⟨[], 4, true, false, (some ⟨(.var 3), [.bool], [(.avar 6)]⟩)⟩), none, none, none, none], (.int .i64 (.var 7)), []⟩
    (.ite (.icmp .eql (.var 7) (.lit 0))
    (.call etalonref08_FirstBroken_s ⟨[(.var 0), (.var 1), (.var 2)], [], [(.avar 0), (.avar 1), (.avar 2), (.avar 3), (.avar 4), (.avar 5)]⟩ ⟨[(.var 0), (.var 1), (.var 2), (.var 8)], [], [(.avar 0), (.avar 1), (.avar 2), (.avar 3), (.avar 4), (.avar 5)]⟩ ⟨17, [(.agg [(.asl 0 (.var 0)), (.asl 1 (.var 1))]), (.asl 2 (.var 2))], [0, 1, 2], [(some ⟨[], 9, true, false, (some ⟨(.var 0), [.str], [(.avar 0)]⟩)⟩), (some ⟨[], 91, true, false, (some ⟨(.var 1), [(.int .i64), .bool, (.int .i64), .bool], [(.avar 1), (.avar 2), (.avar 3), (.avar 4)]⟩)⟩), (some ⟨[], 4, true, false, (some ⟨(.var 2), [.bool], [(.avar 5)]⟩)⟩), none, none, none, none, none], (.int .i64 (.var 8)), []⟩
     (.ite (.icmp .leq (.lit 0) (.var 8))
     (.ret ⟨[(.lit 24)], [], []⟩ [])
     (.call etalonref08_FirstBroken_s ⟨[(.var 0), (.var 1), (.var 3)], [], [(.avar 0), (.avar 1), (.avar 2), (.avar 3), (.avar 4), (.avar 6)]⟩ ⟨[(.var 0), (.var 1), (.var 3), (.var 9)], [], [(.avar 0), (.avar 1), (.avar 2), (.avar 3), (.avar 4), (.avar 6)]⟩ ⟨17, [(.agg [(.asl 0 (.var 0)), (.asl 1 (.var 1))]), (.asl 3 (.var 3))], [0, 1, 3], [(some ⟨[], 9, true, false, (some ⟨(.var 0), [.str], [(.avar 0)]⟩)⟩), (some ⟨[], 91, true, false, (some ⟨(.var 1), [(.int .i64), .bool, (.int .i64), .bool], [(.avar 1), (.avar 2), (.avar 3), (.avar 4)]⟩)⟩), none, (some ⟨[], 4, true, false, (some ⟨(.var 3), [.bool], [(.avar 6)]⟩)⟩), none, none, none, none], (.int .i64 (.var 9)), []⟩
      (.ite (.icmp .leq (.lit 0) (.var 9))
      (.ret ⟨[(.lit 24)], [], []⟩ [])
      (.ret ⟨[(.lit 0)], [], []⟩ [])))))
    (.ret ⟨[(.var 7)], [], []⟩ [])))
   (.ret ⟨[(.var 6)], [], []⟩ [])))
  (.ret ⟨[(.var 5)], [], []⟩ [])))
theorem lce {x0 x1 x2 x3 : Int} {f0 f1 f2 f3 f4 f5 f6 : Int → Int} (r0 : 0 ≤ x0 ∧ x0 ≤ 10) (r1 : 0 ≤ x1 ∧ x1 ≤ 32) (r2 : 0 ≤ x2 ∧ x2 ≤ 12) (r3 : 0 ≤ x3 ∧ x3 ≤ 12) (s1 : ∀ q, (-9223372036854775808) ≤ f1 q ∧ f1 q ≤ 9223372036854775807) (s3 : ∀ q, (-9223372036854775808) ≤ f3 q ∧ f3 q ≤ 9223372036854775807) {R : Int → Prop}
  (H : (∃ v4 : Int, ∃ v5 : Int, Spec Try.prog etalonref08_CheckChamber_s ⟨[x0, x1], [], [f0, f1, f2, f3, f4]⟩ [v4, v5] [] [] ∧
   ((((v5 : Int) == 0) = true → (∃ v6 : Int, Spec Try.prog etalonref08_StateErr_s ⟨[x0, x1, x2], [], [f0, f1, f2, f3, f4, f5]⟩ [v6] [] [] ∧
    ((((v6 : Int) == 0) = true → (∃ v7 : Int, Spec Try.prog etalonref08_StateErr_s ⟨[x0, x1, x3], [], [f0, f1, f2, f3, f4, f6]⟩ [v7] [] [] ∧
     ((((v7 : Int) == 0) = true → (∃ v8 : Int, Spec Try.prog etalonref08_FirstBroken_s ⟨[x0, x1, x2], [], [f0, f1, f2, f3, f4, f5]⟩ [v8] [] [] ∧
      ((decide ((0 : Int) ≤ v8) = true → R (24)) ∧
      (decide ((0 : Int) ≤ v8) = false → (∃ v9 : Int, Spec Try.prog etalonref08_FirstBroken_s ⟨[x0, x1, x3], [], [f0, f1, f2, f3, f4, f6]⟩ [v9] [] [] ∧
       ((decide ((0 : Int) ≤ v9) = true → R (24)) ∧
       (decide ((0 : Int) ≤ v9) = false → R (0)))))))) ∧
     (((v7 : Int) == 0) = false → R (v7))))) ∧
    (((v6 : Int) == 0) = false → R (v6))))) ∧
   (((v5 : Int) == 0) = false → R (v5))))) :
    ∃ v0 : Int, R v0 ∧ Spec Try.prog etalonlaw08_changeErr_s ⟨[x0, x1, x2, x3], [], [f0, f1, f2, f3, f4, f5, f6]⟩ [v0] [] [] :=
  Eq.mp (by kernel_rfl) (exV_of (K := fun d => app3 etalonlaw08_changeErr_s.out R d ∧ Spec Try.prog etalonlaw08_changeErr_s ⟨[x0, x1, x2, x3], [], [f0, f1, f2, f3, f4, f5, f6]⟩ d.1 d.2.1 d.2.2) (tree_at mixed names S1_ok (S := S1 Try.prog) (lf := 100000) (d := 60) etalonlaw08_changeErr_s lce_t { ivs := [(0, 0, 10), (1, 0, 32), (2, 0, 12), (3, 0, 12)], aivs := [(1, (-9223372036854775808), 9223372036854775807), (3, (-9223372036854775808), 9223372036854775807)] } ⟨[x0, x1, x2, x3], [], [f0, f1, f2, f3, f4, f5, f6]⟩ rfl (by kernel_rfl) (by kernel_rfl) (by kernel_rfl) ⟨(fc r0 (fc r1 (fc r2 (fc r3 fz)))), fz, (fc s1 (fc s3 fz)), fz⟩ (R := fun d => app3 etalonlaw08_changeErr_s.out R d) (Eq.mp (by kernel_rfl) H)))

def gcl_t : Tr :=
  (.call etalonlaw08_awake_s ⟨[], [], []⟩ ⟨[], [(.var 0)], []⟩ ⟨8, [], [], [none, none, none, none, none, none, none, none, none], (.bool (.var 0)), []⟩
  (.ite (.var 0)
  (.call etalonlaw08_small_s ⟨[(.var 0), (.var 1)], [], [(.avar 0), (.avar 1), (.avar 2), (.avar 3), (.avar 4)]⟩ ⟨[(.var 0), (.var 1)], [(.var 1)], [(.avar 0), (.avar 1), (.avar 2), (.avar 3), (.avar 4)]⟩ ⟨9, [(.agg [(.asl 0 (.var 0)), (.asl 1 (.var 1))])], [0, 1], [(some ⟨[], 9, true, false, (some ⟨(.var 0), [.str], [(.avar 0)]⟩)⟩), (some ⟨[], 91, true, false, (some ⟨(.var 1), [(.int .i64), .bool, (.int .i64), .bool], [(.avar 1), (.avar 2), (.avar 3), (.avar 4)]⟩)⟩), none, none, none, none, none, none, none], (.bool (.var 1)), []⟩
   (.ite (.var 1)
   (.ite (.icmp .leq (.var 2) (.lit 12))
    (.ite (.icmp .leq (.var 3) (.lit 12))
     (.ite (.icmp .leq (.var 4) (.lit 40))
      (.ite (.icmp .leq (.var 5) (.lit 40))
       (.call etalonref08_CopyChamber_s ⟨[(.var 0), (.var 1)], [], [(.avar 0), (.avar 1), (.avar 2), (.avar 3), (.avar 4)]⟩ ⟨[(.var 0), (.var 1), (.var 6), (.var 7)], [], [(.avar 0), (.avar 1), (.avar 2), (.avar 3), (.avar 4), (.avar 9), (.avar 10), (.avar 11), (.avar 12), (.avar 13)]⟩ ⟨11, [(.agg [(.asl 0 (.var 0)), (.asl 1 (.var 1))])], [0, 1], [(some ⟨[], 9, true, false, (some ⟨(.var 0), [.str], [(.avar 0)]⟩)⟩), (some ⟨[], 91, true, false, (some ⟨(.var 1), [(.int .i64), .bool, (.int .i64), .bool], [(.avar 1), (.avar 2), (.avar 3), (.avar 4)]⟩)⟩), none, none, none, none, none, none, none], (.agg [(.asl 9 (.var 6)), (.asl 10 (.var 7))]), [(some ⟨[], 9, false, true, (some ⟨(.var 6), [.str], [(.avar 9)]⟩)⟩), (some ⟨[], 91, false, true, (some ⟨(.var 7), [(.int .i64), .bool, (.int .i64), .bool], [(.avar 10), (.avar 11), (.avar 12), (.avar 13)]⟩)⟩)]⟩
        (.rng 6 0 140737488355328 (.rng 7 0 140737488355328 (.call etalonref08_CopyChange_s ⟨[(.var 2), (.var 3)], [], [(.avar 5), (.avar 6)]⟩ ⟨[(.var 2), (.var 3), (.var 8), (.var 9)], [], [(.avar 5), (.avar 6), (.avar 14), (.avar 15)]⟩ ⟨22, [(.agg [(.asl 2 (.var 2)), (.asl 3 (.var 3))])], [2, 3], [none, none, (some ⟨[], 4, true, false, (some ⟨(.var 2), [.bool], [(.avar 5)]⟩)⟩), (some ⟨[], 4, true, false, (some ⟨(.var 3), [.bool], [(.avar 6)]⟩)⟩), none, none, none, none, none, none, none], (.agg [(.asl 11 (.var 8)), (.asl 12 (.var 9))]), [(some ⟨[], 4, false, true, (some ⟨(.var 8), [.bool], [(.avar 14)]⟩)⟩), (some ⟨[], 4, false, true, (some ⟨(.var 9), [.bool], [(.avar 15)]⟩)⟩)]⟩
        (.rng 8 0 140737488355328 (.rng 9 0 140737488355328 (.call etalonbase_CopyInts_s ⟨[(.var 4)], [], [(.avar 7)]⟩ ⟨[(.var 4), (.var 10)], [], [(.avar 7), (.avar 16)]⟩ ⟨23, [(.asl 4 (.var 4))], [4], [none, none, none, none, (some ⟨[], 3, true, false, (some ⟨(.var 4), [(.int .i64)], [(.avar 7)]⟩)⟩), none, none, none, none, none, none, none, none], (.asl 13 (.var 10)), [(some ⟨[], 3, false, true, (some ⟨(.var 10), [(.int .i64)], [(.avar 16)]⟩)⟩)]⟩
        (.rng 10 0 140737488355328 (.call grow_CheckSequence_s ⟨[(.var 6), (.var 7), (.var 8), (.var 9), (.var 10)], [], [(.avar 9), (.avar 10), (.avar 11), (.avar 12), (.avar 13), (.avar 14), (.avar 15), (.avar 16)]⟩ ⟨[(.var 6), (.var 7), (.var 8), (.var 9), (.var 10), (.var 11), (.var 12)], [], [(.avar 9), (.avar 10), (.avar 11), (.avar 12), (.avar 13), (.avar 14), (.avar 15), (.avar 16)]⟩ ⟨21, [(.agg [(.asl 9 (.var 6)), (.asl 10 (.var 7))]), (.agg [(.asl 11 (.var 8)), (.asl 12 (.var 9))]), (.asl 13 (.var 10))], [9, 10, 11, 12, 13], [none, none, none, none, none, none, none, none, none, (some ⟨[], 9, false, true, (some ⟨(.var 6), [.str], [(.avar 9)]⟩)⟩), (some ⟨[], 91, false, true, (some ⟨(.var 7), [(.int .i64), .bool, (.int .i64), .bool], [(.avar 10), (.avar 11), (.avar 12), (.avar 13)]⟩)⟩), (some ⟨[], 4, false, true, (some ⟨(.var 8), [.bool], [(.avar 14)]⟩)⟩), (some ⟨[], 4, false, true, (some ⟨(.var 9), [.bool], [(.avar 15)]⟩)⟩), (some ⟨[], 3, false, true, (some ⟨(.var 10), [(.int .i64)], [(.avar 16)]⟩)⟩)], (.tuple [(.int .i64 (.var 11)), (.int .i64 (.var 12))]), []⟩
        (.call etalonref08_CopyChamber_s ⟨[(.var 0), (.var 1)], [], [(.avar 0), (.avar 1), (.avar 2), (.avar 3), (.avar 4)]⟩ ⟨[(.var 0), (.var 1), (.var 13), (.var 14)], [], [(.avar 0), (.avar 1), (.avar 2), (.avar 3), (.avar 4), (.avar 17), (.avar 18), (.avar 19), (.avar 20), (.avar 21)]⟩ ⟨11, [(.agg [(.asl 0 (.var 0)), (.asl 1 (.var 1))])], [0, 1], [(some ⟨[], 9, true, false, (some ⟨(.var 0), [.str], [(.avar 0)]⟩)⟩), (some ⟨[], 91, true, false, (some ⟨(.var 1), [(.int .i64), .bool, (.int .i64), .bool], [(.avar 1), (.avar 2), (.avar 3), (.avar 4)]⟩)⟩), none, none, none, none, none, none, none, none, none, none, none, none], (.agg [(.asl 14 (.var 13)), (.asl 15 (.var 14))]), [(some ⟨[], 9, false, true, (some ⟨(.var 13), [.str], [(.avar 17)]⟩)⟩), (some ⟨[], 91, false, true, (some ⟨(.var 14), [(.int .i64), .bool, (.int .i64), .bool], [(.avar 18), (.avar 19), (.avar 20), (.avar 21)]⟩)⟩)]⟩
        (.rng 13 0 140737488355328 (.rng 14 0 140737488355328 (.call etalonref08_CopyChange_s ⟨[(.var 2), (.var 3)], [], [(.avar 5), (.avar 6)]⟩ ⟨[(.var 2), (.var 3), (.var 15), (.var 16)], [], [(.avar 5), (.avar 6), (.avar 22), (.avar 23)]⟩ ⟨22, [(.agg [(.asl 2 (.var 2)), (.asl 3 (.var 3))])], [2, 3], [none, none, (some ⟨[], 4, true, false, (some ⟨(.var 2), [.bool], [(.avar 5)]⟩)⟩), (some ⟨[], 4, true, false, (some ⟨(.var 3), [.bool], [(.avar 6)]⟩)⟩), none, none, none, none, none, none, none, none, none, none, none, none], (.agg [(.asl 16 (.var 15)), (.asl 17 (.var 16))]), [(some ⟨[], 4, false, true, (some ⟨(.var 15), [.bool], [(.avar 22)]⟩)⟩), (some ⟨[], 4, false, true, (some ⟨(.var 16), [.bool], [(.avar 23)]⟩)⟩)]⟩
        (.rng 15 0 140737488355328 (.rng 16 0 140737488355328 (.call etalonbase_CopyInts_s ⟨[(.var 5)], [], [(.avar 8)]⟩ ⟨[(.var 5), (.var 17)], [], [(.avar 8), (.avar 24)]⟩ ⟨23, [(.asl 5 (.var 5))], [5], [none, none, none, none, none, (some ⟨[], 3, true, false, (some ⟨(.var 5), [(.int .i64)], [(.avar 8)]⟩)⟩), none, none, none, none, none, none, none, none, none, none, none, none], (.asl 18 (.var 17)), [(some ⟨[], 3, false, true, (some ⟨(.var 17), [(.int .i64)], [(.avar 24)]⟩)⟩)]⟩
        (.rng 17 0 140737488355328 (.call grow_CheckLabels_s ⟨[(.var 13), (.var 14), (.var 15), (.var 16), (.var 17)], [], [(.avar 17), (.avar 18), (.avar 19), (.avar 20), (.avar 21), (.avar 22), (.avar 23), (.avar 24)]⟩ ⟨[(.var 13), (.var 14), (.var 15), (.var 16), (.var 17), (.var 18), (.var 19)], [], [(.avar 17), (.avar 18), (.avar 19), (.avar 20), (.avar 21), (.avar 22), (.avar 23), (.avar 24)]⟩ ⟨24, [(.agg [(.asl 14 (.var 13)), (.asl 15 (.var 14))]), (.agg [(.asl 16 (.var 15)), (.asl 17 (.var 16))]), (.asl 18 (.var 17))], [14, 15, 16, 17, 18], [none, none, none, none, none, none, none, none, none, none, none, none, none, none, (some ⟨[], 9, false, true, (some ⟨(.var 13), [.str], [(.avar 17)]⟩)⟩), (some ⟨[], 91, false, true, (some ⟨(.var 14), [(.int .i64), .bool, (.int .i64), .bool], [(.avar 18), (.avar 19), (.avar 20), (.avar 21)]⟩)⟩), (some ⟨[], 4, false, true, (some ⟨(.var 15), [.bool], [(.avar 22)]⟩)⟩), (some ⟨[], 4, false, true, (some ⟨(.var 16), [.bool], [(.avar 23)]⟩)⟩), (some ⟨[], 3, false, true, (some ⟨(.var 17), [(.int .i64)], [(.avar 24)]⟩)⟩)], (.tuple [(.int .i64 (.var 18)), (.int .i64 (.var 19))]), []⟩
        (.call etalonlaw08_changeErr_s ⟨[(.var 0), (.var 1), (.var 2), (.var 3)], [], [(.avar 0), (.avar 1), (.avar 2), (.avar 3), (.avar 4), (.avar 5), (.avar 6)]⟩ ⟨[(.var 0), (.var 1), (.var 2), (.var 3), (.var 20)], [], [(.avar 0), (.avar 1), (.avar 2), (.avar 3), (.avar 4), (.avar 5), (.avar 6)]⟩ ⟨25, [(.agg [(.asl 0 (.var 0)), (.asl 1 (.var 1))]), (.agg [(.asl 2 (.var 2)), (.asl 3 (.var 3))])], [0, 1, 2, 3], [(some ⟨[], 9, true, false, (some ⟨(.var 0), [.str], [(.avar 0)]⟩)⟩), (some ⟨[], 91, true, false, (some ⟨(.var 1), [(.int .i64), .bool, (.int .i64), .bool], [(.avar 1), (.avar 2), (.avar 3), (.avar 4)]⟩)⟩), (some ⟨[], 4, true, false, (some ⟨(.var 2), [.bool], [(.avar 5)]⟩)⟩), (some ⟨[], 4, true, false, (some ⟨(.var 3), [.bool], [(.avar 6)]⟩)⟩), none, none, none, none, none, none, none, none, none, none, none, none, none, none, none], (.int .i64 (.var 20)), []⟩
        (.ite (.icmp .eql (.var 20) (.lit 0))
        (.call etalonref08_CheckSequence_s ⟨[(.var 0), (.var 1), (.var 2), (.var 3), (.var 4)], [], [(.avar 0), (.avar 1), (.avar 2), (.avar 3), (.avar 4), (.avar 5), (.avar 6), (.avar 7)]⟩ ⟨[(.var 0), (.var 1), (.var 2), (.var 3), (.var 4), (.var 21), (.var 22)], [], [(.avar 0), (.avar 1), (.avar 2), (.avar 3), (.avar 4), (.avar 5), (.avar 6), (.avar 7)]⟩ ⟨26, [(.agg [(.asl 0 (.var 0)), (.asl 1 (.var 1))]), (.agg [(.asl 2 (.var 2)), (.asl 3 (.var 3))]), (.asl 4 (.var 4))], [0, 1, 2, 3, 4], [(some ⟨[], 9, true, false, (some ⟨(.var 0), [.str], [(.avar 0)]⟩)⟩), (some ⟨[], 91, true, false, (some ⟨(.var 1), [(.int .i64), .bool, (.int .i64), .bool], [(.avar 1), (.avar 2), (.avar 3), (.avar 4)]⟩)⟩), (some ⟨[], 4, true, false, (some ⟨(.var 2), [.bool], [(.avar 5)]⟩)⟩), (some ⟨[], 4, true, false, (some ⟨(.var 3), [.bool], [(.avar 6)]⟩)⟩), (some ⟨[], 3, true, false, (some ⟨(.var 4), [(.int .i64)], [(.avar 7)]⟩)⟩), none, none, none, none, none, none, none, none, none, none, none, none, none, none], (.tuple [(.int .i64 (.var 21)), (.int .i64 (.var 22))]), []⟩
         (.call etalonref08_CheckLabels_s ⟨[(.var 0), (.var 1), (.var 2), (.var 3), (.var 5)], [], [(.avar 0), (.avar 1), (.avar 2), (.avar 3), (.avar 4), (.avar 5), (.avar 6), (.avar 8)]⟩ ⟨[(.var 0), (.var 1), (.var 2), (.var 3), (.var 5), (.var 23), (.var 24)], [], [(.avar 0), (.avar 1), (.avar 2), (.avar 3), (.avar 4), (.avar 5), (.avar 6), (.avar 8)]⟩ ⟨27, [(.agg [(.asl 0 (.var 0)), (.asl 1 (.var 1))]), (.agg [(.asl 2 (.var 2)), (.asl 3 (.var 3))]), (.asl 5 (.var 5))], [0, 1, 2, 3, 5], [(some ⟨[], 9, true, false, (some ⟨(.var 0), [.str], [(.avar 0)]⟩)⟩), (some ⟨[], 91, true, false, (some ⟨(.var 1), [(.int .i64), .bool, (.int .i64), .bool], [(.avar 1), (.avar 2), (.avar 3), (.avar 4)]⟩)⟩), (some ⟨[], 4, true, false, (some ⟨(.var 2), [.bool], [(.avar 5)]⟩)⟩), (some ⟨[], 4, true, false, (some ⟨(.var 3), [.bool], [(.avar 6)]⟩)⟩), none, (some ⟨[], 3, true, false, (some ⟨(.var 5), [(.int .i64)], [(.avar 8)]⟩)⟩), none, none, none, none, none, none, none, none, none, none, none, none, none], (.tuple [(.int .i64 (.var 23)), (.int .i64 (.var 24))]), []⟩
         (.ite (.icmp .eql (.var 12) (.var 22))
         (.ite (.icmp .eql (.var 11) (.var 21))
          (.ite (.icmp .eql (.var 19) (.var 24))
           (.ite (.icmp .eql (.var 18) (.var 23))
            (.ite (.icmp .eql (.var 22) (.lit 0))
             (.ite (.icmp .eql (.var 24) (.lit 0))
              (.ret ⟨[], [(.icmp .leq (.var 23) (.var 21))], []⟩ [])
              (.ret ⟨[], [(.lit true)], []⟩ []))
             (.ret ⟨[], [(.lit true)], []⟩ []))
            (.ret ⟨[], [(.lit false)], []⟩ []))
           (.ret ⟨[], [(.lit false)], []⟩ []))
          (.ret ⟨[], [(.lit false)], []⟩ []))
         (.ret ⟨[], [(.lit false)], []⟩ []))))
        (.ite (.icmp .eql (.var 12) (.var 20))
         (.ite (.icmp .eql (.var 19) (.var 20))
          (.ite (.icmp .eql (.var 11) (.lit 0))
           (.ret ⟨[], [(.icmp .eql (.var 18) (.lit 0))], []⟩ [])
           (.ret ⟨[], [(.lit false)], []⟩ []))
          (.ret ⟨[], [(.lit false)], []⟩ []))
         (.ret ⟨[], [(.lit false)], []⟩ []))))))))))))))))))))))
       (.ret ⟨[], [(.lit true)], []⟩ []))
      (.ite (.icmp .leq (.var 4) (.lit 1000))
       (.ret ⟨[], [(.lit true)], []⟩ [])
       (.ite (.icmp .leq (.var 4) (.lit 1002))
        (.ite (.icmp .leq (.var 5) (.lit 40))
         (.call etalonref08_CopyChamber_s ⟨[(.var 0), (.var 1)], [], [(.avar 0), (.avar 1), (.avar 2), (.avar 3), (.avar 4)]⟩ ⟨[(.var 0), (.var 1), (.var 6), (.var 7)], [], [(.avar 0), (.avar 1), (.avar 2), (.avar 3), (.avar 4), (.avar 9), (.avar 10), (.avar 11), (.avar 12), (.avar 13)]⟩ ⟨11, [(.agg [(.asl 0 (.var 0)), (.asl 1 (.var 1))])], [0, 1], [(some ⟨[], 9, true, false, (some ⟨(.var 0), [.str], [(.avar 0)]⟩)⟩), (some ⟨[], 91, true, false, (some ⟨(.var 1), [(.int .i64), .bool, (.int .i64), .bool], [(.avar 1), (.avar 2), (.avar 3), (.avar 4)]⟩)⟩), none, none, none, none, none, none, none], (.agg [(.asl 9 (.var 6)), (.asl 10 (.var 7))]), [(some ⟨[], 9, false, true, (some ⟨(.var 6), [.str], [(.avar 9)]⟩)⟩), (some ⟨[], 91, false, true, (some ⟨(.var 7), [(.int .i64), .bool, (.int .i64), .bool], [(.avar 10), (.avar 11), (.avar 12), (.avar 13)]⟩)⟩)]⟩
          (.rng 6 0 140737488355328 (.rng 7 0 140737488355328 (.call etalonref08_CopyChange_s ⟨[(.var 2), (.var 3)], [], [(.avar 5), (.avar 6)]⟩ ⟨[(.var 2), (.var 3), (.var 8), (.var 9)], [], [(.avar 5), (.avar 6), (.avar 14), (.avar 15)]⟩ ⟨22, [(.agg [(.asl 2 (.var 2)), (.asl 3 (.var 3))])], [2, 3], [none, none, (some ⟨[], 4, true, false, (some ⟨(.var 2), [.bool], [(.avar 5)]⟩)⟩), (some ⟨[], 4, true, false, (some ⟨(.var 3), [.bool], [(.avar 6)]⟩)⟩), none, none, none, none, none, none, none], (.agg [(.asl 11 (.var 8)), (.asl 12 (.var 9))]), [(some ⟨[], 4, false, true, (some ⟨(.var 8), [.bool], [(.avar 14)]⟩)⟩), (some ⟨[], 4, false, true, (some ⟨(.var 9), [.bool], [(.avar 15)]⟩)⟩)]⟩
          (.rng 8 0 140737488355328 (.rng 9 0 140737488355328 (.call etalonbase_CopyInts_s ⟨[(.var 4)], [], [(.avar 7)]⟩ ⟨[(.var 4), (.var 10)], [], [(.avar 7), (.avar 16)]⟩ ⟨23, [(.asl 4 (.var 4))], [4], [none, none, none, none, (some ⟨[], 3, true, false, (some ⟨(.var 4), [(.int .i64)], [(.avar 7)]⟩)⟩), none, none, none, none, none, none, none, none], (.asl 13 (.var 10)), [(some ⟨[], 3, false, true, (some ⟨(.var 10), [(.int .i64)], [(.avar 16)]⟩)⟩)]⟩
          (.rng 10 0 140737488355328 (.call grow_CheckSequence_s ⟨[(.var 6), (.var 7), (.var 8), (.var 9), (.var 10)], [], [(.avar 9), (.avar 10), (.avar 11), (.avar 12), (.avar 13), (.avar 14), (.avar 15), (.avar 16)]⟩ ⟨[(.var 6), (.var 7), (.var 8), (.var 9), (.var 10), (.var 11), (.var 12)], [], [(.avar 9), (.avar 10), (.avar 11), (.avar 12), (.avar 13), (.avar 14), (.avar 15), (.avar 16)]⟩ ⟨21, [(.agg [(.asl 9 (.var 6)), (.asl 10 (.var 7))]), (.agg [(.asl 11 (.var 8)), (.asl 12 (.var 9))]), (.asl 13 (.var 10))], [9, 10, 11, 12, 13], [none, none, none, none, none, none, none, none, none, (some ⟨[], 9, false, true, (some ⟨(.var 6), [.str], [(.avar 9)]⟩)⟩), (some ⟨[], 91, false, true, (some ⟨(.var 7), [(.int .i64), .bool, (.int .i64), .bool], [(.avar 10), (.avar 11), (.avar 12), (.avar 13)]⟩)⟩), (some ⟨[], 4, false, true, (some ⟨(.var 8), [.bool], [(.avar 14)]⟩)⟩), (some ⟨[], 4, false, true, (some ⟨(.var 9), [.bool], [(.avar 15)]⟩)⟩), (some ⟨[], 3, false, true, (some ⟨(.var 10), [(.int .i64)], [(.avar 16)]⟩)⟩)], (.tuple [(.int .i64 (.var 11)), (.int .i64 (.var 12))]), []⟩
          (.call etalonref08_CopyChamber_s ⟨[(.var 0), (.var 1)], [], [(.avar 0), (.avar 1), (.avar 2), (.avar 3), (.avar 4)]⟩ ⟨[(.var 0), (.var 1), (.var 13), (.var 14)], [], [(.avar 0), (.avar 1), (.avar 2), (.avar 3), (.avar 4), (.avar 17), (.avar 18), (.avar 19), (.avar 20), (.avar 21)]⟩ ⟨11, [(.agg [(.asl 0 (.var 0)), (.asl 1 (.var 1))])], [0, 1], [(some ⟨[], 9, true, false, (some ⟨(.var 0), [.str], [(.avar 0)]⟩)⟩), (some ⟨[], 91, true, false, (some ⟨(.var 1), [(.int .i64), .bool, (.int .i64), .bool], [(.avar 1), (.avar 2), (.avar 3), (.avar 4)]⟩)⟩), none, none, none, none, none, none, none, none, none, none, none, none], (.agg [(.asl 14 (.var 13)), (.asl 15 (.var 14))]), [(some ⟨[], 9, false, true, (some ⟨(.var 13), [.str], [(.avar 17)]⟩)⟩), (some ⟨[], 91, false, true, (some ⟨(.var 14), [(.int .i64), .bool, (.int .i64), .bool], [(.avar 18), (.avar 19), (.avar 20), (.avar 21)]⟩)⟩)]⟩
          (.rng 13 0 140737488355328 (.rng 14 0 140737488355328 (.call etalonref08_CopyChange_s ⟨[(.var 2), (.var 3)], [], [(.avar 5), (.avar 6)]⟩ ⟨[(.var 2), (.var 3), (.var 15), (.var 16)], [], [(.avar 5), (.avar 6), (.avar 22), (.avar 23)]⟩ ⟨22, [(.agg [(.asl 2 (.var 2)), (.asl 3 (.var 3))])], [2, 3], [none, none, (some ⟨[], 4, true, false, (some ⟨(.var 2), [.bool], [(.avar 5)]⟩)⟩), (some ⟨[], 4, true, false, (some ⟨(.var 3), [.bool], [(.avar 6)]⟩)⟩), none, none, none, none, none, none, none, none, none, none, none, none], (.agg [(.asl 16 (.var 15)), (.asl 17 (.var 16))]), [(some ⟨[], 4, false, true, (some ⟨(.var 15), [.bool], [(.avar 22)]⟩)⟩), (some ⟨[], 4, false, true, (some ⟨(.var 16), [.bool], [(.avar 23)]⟩)⟩)]⟩
          (.rng 15 0 140737488355328 (.rng 16 0 140737488355328 (.call etalonbase_CopyInts_s ⟨[(.var 5)], [], [(.avar 8)]⟩ ⟨[(.var 5), (.var 17)], [], [(.avar 8), (.avar 24)]⟩ ⟨23, [(.asl 5 (.var 5))], [5], [none, none, none, none, none, (some ⟨[], 3, true, false, (some ⟨(.var 5), [(.int .i64)], [(.avar 8)]⟩)⟩), none, none, none, none, none, none, none, none, none, none, none, none], (.asl 18 (.var 17)), [(some ⟨[], 3, false, true, (some ⟨(.var 17), [(.int .i64)], [(.avar 24)]⟩)⟩)]⟩
          (.rng 17 0 140737488355328 (.call grow_CheckLabels_s ⟨[(.var 13), (.var 14), (.var 15), (.var 16), (.var 17)], [], [(.avar 17), (.avar 18), (.avar 19), (.avar 20), (.avar 21), (.avar 22), (.avar 23), (.avar 24)]⟩ ⟨[(.var 13), (.var 14), (.var 15), (.var 16), (.var 17), (.var 18), (.var 19)], [], [(.avar 17), (.avar 18), (.avar 19), (.avar 20), (.avar 21), (.avar 22), (.avar 23), (.avar 24)]⟩ ⟨24, [(.agg [(.asl 14 (.var 13)), (.asl 15 (.var 14))]), (.agg [(.asl 16 (.var 15)), (.asl 17 (.var 16))]), (.asl 18 (.var 17))], [14, 15, 16, 17, 18], [none, none, none, none, none, none, none, none, none, none, none, none, none, none, (some ⟨[], 9, false, true, (some ⟨(.var 13), [.str], [(.avar 17)]⟩)⟩), (some ⟨[], 91, false, true, (some ⟨(.var 14), [(.int .i64), .bool, (.int .i64), .bool], [(.avar 18), (.avar 19), (.avar 20), (.avar 21)]⟩)⟩), (some ⟨[], 4, false, true, (some ⟨(.var 15), [.bool], [(.avar 22)]⟩)⟩), (some ⟨[], 4, false, true, (some ⟨(.var 16), [.bool], [(.avar 23)]⟩)⟩), (some ⟨[], 3, false, true, (some ⟨(.var 17), [(.int .i64)], [(.avar 24)]⟩)⟩)], (.tuple [(.int .i64 (.var 18)), (.int .i64 (.var 19))]), []⟩
          (.call etalonlaw08_changeErr_s ⟨[(.var 0), (.var 1), (.var 2), (.var 3)], [], [(.avar 0), (.avar 1), (.avar 2), (.avar 3), (.avar 4), (.avar 5), (.avar 6)]⟩ ⟨[(.var 0), (.var 1), (.var 2), (.var 3), (.var 20)], [], [(.avar 0), (.avar 1), (.avar 2), (.avar 3), (.avar 4), (.avar 5), (.avar 6)]⟩ ⟨25, [(.agg [(.asl 0 (.var 0)), (.asl 1 (.var 1))]), (.agg [(.asl 2 (.var 2)), (.asl 3 (.var 3))])], [0, 1, 2, 3], [(some ⟨[], 9, true, false, (some ⟨(.var 0), [.str], [(.avar 0)]⟩)⟩), (some ⟨[], 91, true, false, (some ⟨(.var 1), [(.int .i64), .bool, (.int .i64), .bool], [(.avar 1), (.avar 2), (.avar 3), (.avar 4)]⟩)⟩), (some ⟨[], 4, true, false, (some ⟨(.var 2), [.bool], [(.avar 5)]⟩)⟩), (some ⟨[], 4, true, false, (some ⟨(.var 3), [.bool], [(.avar 6)]⟩)⟩), none, none, none, none, none, none, none, none, none, none, none, none, none, none, none], (.int .i64 (.var 20)), []⟩
          (.ite (.icmp .eql (.var 20) (.lit 0))
          (.call etalonref08_CheckSequence_s ⟨[(.var 0), (.var 1), (.var 2), (.var 3), (.var 4)], [], [(.avar 0), (.avar 1), (.avar 2), (.avar 3), (.avar 4), (.avar 5), (.avar 6), (.avar 7)]⟩ ⟨[(.var 0), (.var 1), (.var 2), (.var 3), (.var 4), (.var 21), (.var 22)], [], [(.avar 0), (.avar 1), (.avar 2), (.avar 3), (.avar 4), (.avar 5), (.avar 6), (.avar 7)]⟩ ⟨26, [(.agg [(.asl 0 (.var 0)), (.asl 1 (.var 1))]), (.agg [(.asl 2 (.var 2)), (.asl 3 (.var 3))]), (.asl 4 (.var 4))], [0, 1, 2, 3, 4], [(some ⟨[], 9, true, false, (some ⟨(.var 0), [.str], [(.avar 0)]⟩)⟩), (some ⟨[], 91, true, false, (some ⟨(.var 1), [(.int .i64), .bool, (.int .i64), .bool], [(.avar 1), (.avar 2), (.avar 3), (.avar 4)]⟩)⟩), (some ⟨[], 4, true, false, (some ⟨(.var 2), [.bool], [(.avar 5)]⟩)⟩), (some ⟨[], 4, true, false, (some ⟨(.var 3), [.bool], [(.avar 6)]⟩)⟩), (some ⟨[], 3, true, false, (some ⟨(.var 4), [(.int .i64)], [(.avar 7)]⟩)⟩), none, none, none, none, none, none, none, none, none, none, none, none, none, none], (.tuple [(.int .i64 (.var 21)), (.int .i64 (.var 22))]), []⟩
           (.call etalonref08_CheckLabels_s ⟨[(.var 0), (.var 1), (.var 2), (.var 3), (.var 5)], [], [(.avar 0), (.avar 1), (.avar 2), (.avar 3), (.avar 4), (.avar 5), (.avar 6), (.avar 8)]⟩ ⟨[(.var 0), (.var 1), (.var 2), (.var 3), (.var 5), (.var 23), (.var 24)], [], [(.avar 0), (.avar 1), (.avar 2), (.avar 3), (.avar 4), (.avar 5), (.avar 6), (.avar 8)]⟩ ⟨27, [(.agg [(.asl 0 (.var 0)), (.asl 1 (.var 1))]), (.agg [(.asl 2 (.var 2)), (.asl 3 (.var 3))]), (.asl 5 (.var 5))], [0, 1, 2, 3, 5], [(some ⟨[], 9, true, false, (some ⟨(.var 0), [.str], [(.avar 0)]⟩)⟩), (some ⟨[], 91, true, false, (some ⟨(.var 1), [(.int .i64), .bool, (.int .i64), .bool], [(.avar 1), (.avar 2), (.avar 3), (.avar 4)]⟩)⟩), (some ⟨[], 4, true, false, (some ⟨(.var 2), [.bool], [(.avar 5)]⟩)⟩), (some ⟨[], 4, true, false, (some ⟨(.var 3), [.bool], [(.avar 6)]⟩)⟩), none, (some ⟨[], 3, true, false, (some ⟨(.var 5), [(.int .i64)], [(.avar 8)]⟩)⟩), none, none, none, none, none, none, none, none, none, none, none, none, none], (.tuple [(.int .i64 (.var 23)), (.int .i64 (.var 24))]), []⟩
           (.ite (.icmp .eql (.var 12) (.var 22))
           (.ite (.icmp .eql (.var 11) (.var 21))
            (.ite (.icmp .eql (.var 19) (.var 24))
             (.ite (.icmp .eql (.var 18) (.var 23))
              (.ite (.icmp .eql (.var 22) (.lit 0))
               (.ite (.icmp .eql (.var 24) (.lit 0))
                (.ret ⟨[], [(.icmp .leq (.var 23) (.var 21))], []⟩ [])
                (.ret ⟨[], [(.lit true)], []⟩ []))
               (.ret ⟨[], [(.lit true)], []⟩ []))
              (.ret ⟨[], [(.lit false)], []⟩ []))
             (.ret ⟨[], [(.lit false)], []⟩ []))
            (.ret ⟨[], [(.lit false)], []⟩ []))
           (.ret ⟨[], [(.lit false)], []⟩ []))))
          (.ite (.icmp .eql (.var 12) (.var 20))
           (.ite (.icmp .eql (.var 19) (.var 20))
            (.ite (.icmp .eql (.var 11) (.lit 0))
             (.ret ⟨[], [(.icmp .eql (.var 18) (.lit 0))], []⟩ [])
             (.ret ⟨[], [(.lit false)], []⟩ []))
            (.ret ⟨[], [(.lit false)], []⟩ []))
           (.ret ⟨[], [(.lit false)], []⟩ []))))))))))))))))))))))
         (.ret ⟨[], [(.lit true)], []⟩ []))
        (.ret ⟨[], [(.lit true)], []⟩ []))))
     (.ret ⟨[], [(.lit true)], []⟩ []))
    (.ret ⟨[], [(.lit true)], []⟩ []))
   (.ret ⟨[], [(.lit true)], []⟩ [])))
  (.ret ⟨[], [(.lit false)], []⟩ [])))
theorem gcl {x0 x1 x2 x3 x4 x5 : Int} {f0 f1 f2 f3 f4 f5 f6 f7 f8 : Int → Int} (r0 : 0 ≤ x0 ∧ x0 ≤ 9223372036854775807) (r1 : 0 ≤ x1 ∧ x1 ≤ 9223372036854775807) (r2 : 0 ≤ x2 ∧ x2 ≤ 9223372036854775807) (r3 : 0 ≤ x3 ∧ x3 ≤ 9223372036854775807) (r4 : 0 ≤ x4 ∧ x4 ≤ 9223372036854775807) (r5 : 0 ≤ x5 ∧ x5 ≤ 9223372036854775807) (s1 : ∀ q, (-9223372036854775808) ≤ f1 q ∧ f1 q ≤ 9223372036854775807) (s3 : ∀ q, (-9223372036854775808) ≤ f3 q ∧ f3 q ≤ 9223372036854775807) (s7 : ∀ q, (-9223372036854775808) ≤ f7 q ∧ f7 q ≤ 9223372036854775807) (s8 : ∀ q, (-9223372036854775808) ≤ f8 q ∧ f8 q ≤ 9223372036854775807) {R : Bool → Prop}
  (H : (∃ u0 : Bool, Spec Try.prog etalonlaw08_awake_s ⟨[], [], []⟩ [] [u0] [] ∧
   ((u0 = true → (∃ u1 : Bool, Spec Try.prog etalonlaw08_small_s ⟨[x0, x1], [], [f0, f1, f2, f3, f4]⟩ [] [u1] [] ∧
    ((u1 = true → ((decide ((x2 : Int) ≤ 12) = true → ((decide ((x3 : Int) ≤ 12) = true → ((decide ((x4 : Int) ≤ 40) = true → ((decide ((x5 : Int) ≤ 40) = true → (∃ v6 : Int, ∃ v7 : Int, ∃ g9 : Int → Int, ∃ g10 : Int → Int, ∃ g11 : Int → Int, ∃ g12 : Int → Int, ∃ g13 : Int → Int, Spec Try.prog etalonref08_CopyChamber_s ⟨[x0, x1], [], [f0, f1, f2, f3, f4]⟩ [v6, v7] [] [g9, g10, g11, g12, g13] ∧
         ((0 ≤ (v6 : Int) ∧ (v6 : Int) ≤ 140737488355328) ∧ ((0 ≤ (v7 : Int) ∧ (v7 : Int) ≤ 140737488355328) ∧ (∃ v8 : Int, ∃ v9 : Int, ∃ g14 : Int → Int, ∃ g15 : Int → Int, Spec Try.prog etalonref08_CopyChange_s ⟨[x2, x3], [], [f5, f6]⟩ [v8, v9] [] [g14, g15] ∧
         ((0 ≤ (v8 : Int) ∧ (v8 : Int) ≤ 140737488355328) ∧ ((0 ≤ (v9 : Int) ∧ (v9 : Int) ≤ 140737488355328) ∧ (∃ v10 : Int, ∃ g16 : Int → Int, Spec Try.prog etalonbase_CopyInts_s ⟨[x4], [], [f7]⟩ [v10] [] [g16] ∧
         ((0 ≤ (v10 : Int) ∧ (v10 : Int) ≤ 140737488355328) ∧ (∃ v11 : Int, ∃ v12 : Int, Spec Try.prog grow_CheckSequence_s ⟨[v6, v7, v8, v9, v10], [], [g9, g10, g11, g12, g13, g14, g15, g16]⟩ [v11, v12] [] [] ∧
         (∃ v13 : Int, ∃ v14 : Int, ∃ g17 : Int → Int, ∃ g18 : Int → Int, ∃ g19 : Int → Int, ∃ g20 : Int → Int, ∃ g21 : Int → Int, Spec Try.prog etalonref08_CopyChamber_s ⟨[x0, x1], [], [f0, f1, f2, f3, f4]⟩ [v13, v14] [] [g17, g18, g19, g20, g21] ∧
         ((0 ≤ (v13 : Int) ∧ (v13 : Int) ≤ 140737488355328) ∧ ((0 ≤ (v14 : Int) ∧ (v14 : Int) ≤ 140737488355328) ∧ (∃ v15 : Int, ∃ v16 : Int, ∃ g22 : Int → Int, ∃ g23 : Int → Int, Spec Try.prog etalonref08_CopyChange_s ⟨[x2, x3], [], [f5, f6]⟩ [v15, v16] [] [g22, g23] ∧
         ((0 ≤ (v15 : Int) ∧ (v15 : Int) ≤ 140737488355328) ∧ ((0 ≤ (v16 : Int) ∧ (v16 : Int) ≤ 140737488355328) ∧ (∃ v17 : Int, ∃ g24 : Int → Int, Spec Try.prog etalonbase_CopyInts_s ⟨[x5], [], [f8]⟩ [v17] [] [g24] ∧
         ((0 ≤ (v17 : Int) ∧ (v17 : Int) ≤ 140737488355328) ∧ (∃ v18 : Int, ∃ v19 : Int, Spec Try.prog grow_CheckLabels_s ⟨[v13, v14, v15, v16, v17], [], [g17, g18, g19, g20, g21, g22, g23, g24]⟩ [v18, v19] [] [] ∧
         (∃ v20 : Int, Spec Try.prog etalonlaw08_changeErr_s ⟨[x0, x1, x2, x3], [], [f0, f1, f2, f3, f4, f5, f6]⟩ [v20] [] [] ∧
         ((((v20 : Int) == 0) = true → (∃ v21 : Int, ∃ v22 : Int, Spec Try.prog etalonref08_CheckSequence_s ⟨[x0, x1, x2, x3, x4], [], [f0, f1, f2, f3, f4, f5, f6, f7]⟩ [v21, v22] [] [] ∧
          (∃ v23 : Int, ∃ v24 : Int, Spec Try.prog etalonref08_CheckLabels_s ⟨[x0, x1, x2, x3, x5], [], [f0, f1, f2, f3, f4, f5, f6, f8]⟩ [v23, v24] [] [] ∧
          ((((v12 : Int) == v22) = true → ((((v11 : Int) == v21) = true → ((((v19 : Int) == v24) = true → ((((v18 : Int) == v23) = true → ((((v22 : Int) == 0) = true → ((((v24 : Int) == 0) = true → R (decide ((v23 : Int) ≤ v21))) ∧
               (((v24 : Int) == 0) = false → R (true)))) ∧
              (((v22 : Int) == 0) = false → R (true)))) ∧
             (((v18 : Int) == v23) = false → R (false)))) ∧
            (((v19 : Int) == v24) = false → R (false)))) ∧
           (((v11 : Int) == v21) = false → R (false)))) ∧
          (((v12 : Int) == v22) = false → R (false)))))) ∧
         (((v20 : Int) == 0) = false → ((((v12 : Int) == v20) = true → ((((v19 : Int) == v20) = true → ((((v11 : Int) == 0) = true → R (((v18 : Int) == 0))) ∧
            (((v11 : Int) == 0) = false → R (false)))) ∧
           (((v19 : Int) == v20) = false → R (false)))) ∧
          (((v12 : Int) == v20) = false → R (false))))))))))))))))))))))))) ∧
        (decide ((x5 : Int) ≤ 40) = false → R (true)))) ∧
       (decide ((x4 : Int) ≤ 40) = false → ((decide ((x4 : Int) ≤ 1000) = true → R (true)) ∧
        (decide ((x4 : Int) ≤ 1000) = false → ((decide ((x4 : Int) ≤ 1002) = true → ((decide ((x5 : Int) ≤ 40) = true → (∃ v6 : Int, ∃ v7 : Int, ∃ g9 : Int → Int, ∃ g10 : Int → Int, ∃ g11 : Int → Int, ∃ g12 : Int → Int, ∃ g13 : Int → Int, Spec Try.prog etalonref08_CopyChamber_s ⟨[x0, x1], [], [f0, f1, f2, f3, f4]⟩ [v6, v7] [] [g9, g10, g11, g12, g13] ∧
           ((0 ≤ (v6 : Int) ∧ (v6 : Int) ≤ 140737488355328) ∧ ((0 ≤ (v7 : Int) ∧ (v7 : Int) ≤ 140737488355328) ∧ (∃ v8 : Int, ∃ v9 : Int, ∃ g14 : Int → Int, ∃ g15 : Int → Int, Spec Try.prog etalonref08_CopyChange_s ⟨[x2, x3], [], [f5, f6]⟩ [v8, v9] [] [g14, g15] ∧
           ((0 ≤ (v8 : Int) ∧ (v8 : Int) ≤ 140737488355328) ∧ ((0 ≤ (v9 : Int) ∧ (v9 : Int) ≤ 140737488355328) ∧ (∃ v10 : Int, ∃ g16 : Int → Int, Spec Try.prog etalonbase_CopyInts_s ⟨[x4], [], [f7]⟩ [v10] [] [g16] ∧
           ((0 ≤ (v10 : Int) ∧ (v10 : Int) ≤ 140737488355328) ∧ (∃ v11 : Int, ∃ v12 : Int, Spec Try.prog grow_CheckSequence_s ⟨[v6, v7, v8, v9, v10], [], [g9, g10, g11, g12, g13, g14, g15, g16]⟩ [v11, v12] [] [] ∧
           (∃ v13 : Int, ∃ v14 : Int, ∃ g17 : Int → Int, ∃ g18 : Int → Int, ∃ g19 : Int → Int, ∃ g20 : Int → Int, ∃ g21 : Int → Int, Spec Try.prog etalonref08_CopyChamber_s ⟨[x0, x1], [], [f0, f1, f2, f3, f4]⟩ [v13, v14] [] [g17, g18, g19, g20, g21] ∧
           ((0 ≤ (v13 : Int) ∧ (v13 : Int) ≤ 140737488355328) ∧ ((0 ≤ (v14 : Int) ∧ (v14 : Int) ≤ 140737488355328) ∧ (∃ v15 : Int, ∃ v16 : Int, ∃ g22 : Int → Int, ∃ g23 : Int → Int, Spec Try.prog etalonref08_CopyChange_s ⟨[x2, x3], [], [f5, f6]⟩ [v15, v16] [] [g22, g23] ∧
           ((0 ≤ (v15 : Int) ∧ (v15 : Int) ≤ 140737488355328) ∧ ((0 ≤ (v16 : Int) ∧ (v16 : Int) ≤ 140737488355328) ∧ (∃ v17 : Int, ∃ g24 : Int → Int, Spec Try.prog etalonbase_CopyInts_s ⟨[x5], [], [f8]⟩ [v17] [] [g24] ∧
           ((0 ≤ (v17 : Int) ∧ (v17 : Int) ≤ 140737488355328) ∧ (∃ v18 : Int, ∃ v19 : Int, Spec Try.prog grow_CheckLabels_s ⟨[v13, v14, v15, v16, v17], [], [g17, g18, g19, g20, g21, g22, g23, g24]⟩ [v18, v19] [] [] ∧
           (∃ v20 : Int, Spec Try.prog etalonlaw08_changeErr_s ⟨[x0, x1, x2, x3], [], [f0, f1, f2, f3, f4, f5, f6]⟩ [v20] [] [] ∧
           ((((v20 : Int) == 0) = true → (∃ v21 : Int, ∃ v22 : Int, Spec Try.prog etalonref08_CheckSequence_s ⟨[x0, x1, x2, x3, x4], [], [f0, f1, f2, f3, f4, f5, f6, f7]⟩ [v21, v22] [] [] ∧
            (∃ v23 : Int, ∃ v24 : Int, Spec Try.prog etalonref08_CheckLabels_s ⟨[x0, x1, x2, x3, x5], [], [f0, f1, f2, f3, f4, f5, f6, f8]⟩ [v23, v24] [] [] ∧
            ((((v12 : Int) == v22) = true → ((((v11 : Int) == v21) = true → ((((v19 : Int) == v24) = true → ((((v18 : Int) == v23) = true → ((((v22 : Int) == 0) = true → ((((v24 : Int) == 0) = true → R (decide ((v23 : Int) ≤ v21))) ∧
                 (((v24 : Int) == 0) = false → R (true)))) ∧
                (((v22 : Int) == 0) = false → R (true)))) ∧
               (((v18 : Int) == v23) = false → R (false)))) ∧
              (((v19 : Int) == v24) = false → R (false)))) ∧
             (((v11 : Int) == v21) = false → R (false)))) ∧
            (((v12 : Int) == v22) = false → R (false)))))) ∧
           (((v20 : Int) == 0) = false → ((((v12 : Int) == v20) = true → ((((v19 : Int) == v20) = true → ((((v11 : Int) == 0) = true → R (((v18 : Int) == 0))) ∧
              (((v11 : Int) == 0) = false → R (false)))) ∧
             (((v19 : Int) == v20) = false → R (false)))) ∧
            (((v12 : Int) == v20) = false → R (false))))))))))))))))))))))))) ∧
          (decide ((x5 : Int) ≤ 40) = false → R (true)))) ∧
         (decide ((x4 : Int) ≤ 1002) = false → R (true)))))))) ∧
      (decide ((x3 : Int) ≤ 12) = false → R (true)))) ∧
     (decide ((x2 : Int) ≤ 12) = false → R (true)))) ∧
    (u1 = false → R (true))))) ∧
   (u0 = false → R (false))))) :
    ∃ u0 : Bool, R u0 ∧ Spec Try.prog etalonlaw08_GrowClaims_s ⟨[x0, x1, x2, x3, x4, x5], [], [f0, f1, f2, f3, f4, f5, f6, f7, f8]⟩ [] [u0] [] :=
  Eq.mp (by kernel_rfl) (exV_of (K := fun d => app3 etalonlaw08_GrowClaims_s.out R d ∧ Spec Try.prog etalonlaw08_GrowClaims_s ⟨[x0, x1, x2, x3, x4, x5], [], [f0, f1, f2, f3, f4, f5, f6, f7, f8]⟩ d.1 d.2.1 d.2.2) (tree_at mixed names S1_ok (S := S1 Try.prog) (lf := 100000) (d := 60) etalonlaw08_GrowClaims_s gcl_t { ivs := [(0, 0, 9223372036854775807), (1, 0, 9223372036854775807), (2, 0, 9223372036854775807), (3, 0, 9223372036854775807), (4, 0, 9223372036854775807), (5, 0, 9223372036854775807)], aivs := [(1, (-9223372036854775808), 9223372036854775807), (3, (-9223372036854775808), 9223372036854775807), (7, (-9223372036854775808), 9223372036854775807), (8, (-9223372036854775808), 9223372036854775807)] } ⟨[x0, x1, x2, x3, x4, x5], [], [f0, f1, f2, f3, f4, f5, f6, f7, f8]⟩ rfl (by kernel_rfl) (by kernel_rfl) (by kernel_rfl) ⟨(fc r0 (fc r1 (fc r2 (fc r3 (fc r4 (fc r5 fz)))))), fz, (fc s1 (fc s3 (fc s7 (fc s8 fz)))), fz⟩ (R := fun d => app3 etalonlaw08_GrowClaims_s.out R d) (Eq.mp (by kernel_rfl) H)))

theorem changeErr_r {x0 x1 x2 x3 : Int} {f0 f1 f2 f3 f4 f5 f6 : Int → Int} (r0 : 0 ≤ x0 ∧ x0 ≤ 10) (r1 : 0 ≤ x1 ∧ x1 ≤ 32) (r2 : 0 ≤ x2 ∧ x2 ≤ 12) (r3 : 0 ≤ x3 ∧ x3 ≤ 12) (s1 : ∀ q, I64 (f1 q)) (s3 : ∀ q, I64 (f3 q)) :

    ∃ e, chgIs x0 x1 x2 x3 f0 f1 f2 f3 f4 f5 f6 e ∧ Spec Try.prog etalonlaw08_changeErr_s ⟨[x0, x1, x2, x3], [], [f0, f1, f2, f3, f4, f5, f6]⟩ [e] [] [] := by

  obtain ⟨k, e, hc, hcs⟩ := chamber_r (f2 := f2) (f4 := f4) r0 r1 s1 s3

  have l0 : 0 ≤ x0 ∧ x0 ≤ 140737488355328 := ⟨r0.1, by omega⟩

  have l1 : 0 ≤ x1 ∧ x1 ≤ 140737488355328 := ⟨r1.1, by omega⟩

  have c2 := stateErr_r (f0 := f0) (f2 := f2) (f4 := f4) (f5 := f5) l0 l1 (x2 := x2) ⟨r2.1, by omega⟩ s1 s3

  have c3 := stateErr_r (f0 := f0) (f2 := f2) (f4 := f4) (f5 := f6) l0 l1 (x2 := x3) ⟨r3.1, by omega⟩ s1 s3

  refine lce r0 r1 r2 r3 s1 s3 (R := chgIs x0 x1 x2 x3 f0 f1 f2 f3 f4 f5 f6) ⟨_, _, hcs, fun h => ?_, fun h => .cham hc (by simpa using h)⟩

  have h : e = 0 := eq_of_beq h

  subst h

  obtain ⟨hk, dv, rl⟩ := chamIs_nil hc

  by_cases h2 : x2 = x0

  · rw [if_pos h2] at c2

    refine ⟨_, c2, fun _ => ?_, fun h => by simp at h⟩

    by_cases h3 : x3 = x0

    · rw [if_pos h3] at c3

      refine ⟨_, c3, fun _ => ?_, fun h => by simp at h⟩

      obtain ⟨a, ha, has⟩ := firstBroken_r (f0 := f0) (f2 := f2) (f4 := f4) (f5 := f5) r0.1 r1.1 s1 s3 dv rl

      obtain ⟨b, hb, hbs⟩ := firstBroken_r (f0 := f0) (f2 := f2) (f4 := f4) (f5 := f6) r0.1 r1.1 s1 s3 dv rl

      have ha := fb_safe ha

      have hb := fb_safe hb

      rw [← h2] at has

      rw [← h3] at hbs

      rw [h2] at has

      rw [h3] at hbs

      have has' : Spec Try.prog etalonref08_FirstBroken_s ⟨[x0, x1, x2], [], [f0, f1, f2, f3, f4, f5]⟩ [a] [] [] := by rw [h2]; exact has

      have hbs' : Spec Try.prog etalonref08_FirstBroken_s ⟨[x0, x1, x3], [], [f0, f1, f2, f3, f4, f6]⟩ [b] [] [] := by rw [h3]; exact hbs

      refine ⟨_, has', fun g => ?_, fun g => ⟨_, hbs', fun g' => ?_, fun g' => ?_⟩⟩

      · rcases ha with ⟨_, n⟩ | ⟨n, _⟩

        · exact .hurt dv rl h2 h3 fun m => n m.1

        · exact absurd (of_decide_eq_true g) n

      · rcases hb with ⟨_, n⟩ | ⟨n, _⟩

        · exact .hurt dv rl h2 h3 fun m => n m.2

        · exact absurd (of_decide_eq_true g') n

      · rcases ha with ⟨n, _⟩ | ⟨_, s⟩

        · exact absurd n (of_decide_eq_false g)

        rcases hb with ⟨n, _⟩ | ⟨_, t⟩

        · exact absurd n (of_decide_eq_false g')

        exact .ok dv rl h2 h3 s t

    · rw [if_neg h3] at c3

      exact ⟨_, c3, fun h => by simp at h, fun _ => .shape dv rl (fun g => h3 g.2)⟩

  · rw [if_neg h2] at c2

    exact ⟨_, c2, fun h => by simp at h, fun _ => .shape dv rl (fun g => h2 g.1)⟩

theorem seqIs_uniq {x0 x1 x4 n e n' e' : Int} {f1 f2 f3 f4 f5 f6 f7 : Int → Int} (h : seqIs x0 x1 x4 f1 f2 f3 f4 f5 f6 f7 n e) (h' : seqIs x0 x1 x4 f1 f2 f3 f4 f5 f6 f7 n' e') : n = n' ∧ e = e' := by

  cases h with

  | far a => cases h' with

    | far _ => exact ⟨rfl, rfl⟩

    | miss l _ _ _ _ => omega

    | hurt l _ _ _ _ _ => omega

    | left l _ _ => omega

    | done l _ _ => omega

  | miss l a b c d => cases h' with

    | far _ => omega

    | miss _ _ _ _ _ => exact ⟨rfl, rfl⟩

    | hurt _ a' b' c' d' e' =>

      have := first_uniq a c (fun g => d g.1) a' c' (fun g => e' g.2)

      subst this

      exact absurd d' d

    | left _ o _ => exact absurd (o _ a b).1 d

    | done _ o _ => exact absurd (o _ a b).1 d

  | hurt l a b c d e => cases h' with

    | far _ => omega

    | miss _ a' b' c' d' =>

      have := first_uniq a' c' (fun g => d' g.1) a c (fun g => e g.2)

      subst this

      exact absurd d d'

    | hurt _ _ _ _ _ _ => exact ⟨rfl, rfl⟩

    | left _ o _ => exact absurd (o _ a b).2 e

    | done _ o _ => exact absurd (o _ a b).2 e

  | left l o s => cases h' with

    | far _ => omega

    | miss _ a b _ d => exact absurd (o _ a b).1 d

    | hurt _ a b _ _ e => exact absurd (o _ a b).2 e

    | left _ _ _ => exact ⟨rfl, rfl⟩

    | done _ _ t => exact absurd t s

  | done l o s => cases h' with

    | far _ => omega

    | miss _ a b _ d => exact absurd (o _ a b).1 d

    | hurt _ a b _ _ e => exact absurd (o _ a b).2 e

    | left _ _ t => exact absurd s t

    | done _ _ _ => exact ⟨rfl, rfl⟩

/-- Along a right sequence labels grow by one at most. -/

theorem path_lab {x0 x1 x4 v : Int} {f1 f2 f3 f4 f5 f7 f8 : Int → Int} (h0 : 0 ≤ x0) (h8 : x0 ≤ 8) (rl : rulesOk x0 x1 f1 f3) (sf : safe x1 f1 f2 f3 f4 f5) (o : okTo x0 x1 f1 f2 f3 f4 f5 f7 x4) (nv : numIs x0 f5 v) (hl : labOk x0 x1 f1 f2 f3 f4 f8 v) :

    ∀ (n : Nat), (n : Int) ≤ x4 → ∃ u, numIs x0 (stS f5 f7 n) u ∧ safeN x1 f1 f2 f3 f4 u ∧ f8 u ≤ n

  | 0, _ => ⟨v, nv, safe_congr rl ((num_uniq h8 nv (num_self h0 h8 ⟨nv.1.1, num_lt h0 h8 nv⟩)).1 rfl) sf, by rw [hl.1]; decide⟩

  | n + 1, h => by

    obtain ⟨u, nu, su, lu⟩ := path_lab h0 h8 rl sf o nv hl n (by omega)

    have on := o ((n : Nat) : Int) (by omega) (by omega)

    have nx := nu.xor h8 on.1

    have ul : 0 ≤ u ∧ u < 2 ^ x0.toNat := ⟨nu.1.1, num_lt h0 h8 nu⟩

    have xl := xor_low h8 ul ⟨on.1.1, by have := on.1.2; omega⟩

    have sx : safeN x1 f1 f2 f3 f4 (xorS u (f7 ((n : Nat) : Int))) := safe_congr rl ((num_uniq h8 nx (num_self h0 h8 xl)).1 rfl) on.2

    have := hl.2 u ul.1 ul.2 su (f7 ((n : Nat) : Int)) on.1.1 (by have := on.1.2; omega) sx

    exact ⟨_, nx, sx, by omega⟩

theorem labIs_zero {x0 x1 x4 n : Int} {f1 f2 f3 f4 f5 f6 f7 : Int → Int} (h : labIs x0 x1 x4 f1 f2 f3 f4 f5 f6 f7 n 0) : ∃ v w, numIs x0 f5 v ∧ numIs x0 f6 w ∧ labOk x0 x1 f1 f2 f3 f4 f7 v ∧ n = f7 w := by

  generalize hz : (0 : Int) = z at h

  cases h with

  | shape _ => omega

  | range _ _ => omega

  | proof _ _ _ _ => omega

  | ok _ _ a b c => exact ⟨_, _, a, b, c, rfl⟩

theorem least {x0 x1 x4 x5 n m : Int} {f1 f2 f3 f4 f5 f6 f7 f8 : Int → Int} (h0 : 0 ≤ x0) (h8 : x0 ≤ 8) (h4 : 0 ≤ x4) (rl : rulesOk x0 x1 f1 f3) (sf : safe x1 f1 f2 f3 f4 f5) (h : seqIs x0 x1 x4 f1 f2 f3 f4 f5 f6 f7 n 0) (k : labIs x0 x1 x5 f1 f2 f3 f4 f5 f6 f8 m 0) : m ≤ n := by

  obtain ⟨hn, o, s⟩ := seqIs_zero h

  obtain ⟨v, w, nv, nw, hl, hm⟩ := labIs_zero k

  obtain ⟨u, nu, _, lu⟩ := path_lab h0 h8 rl sf o nv hl x4.toNat (by omega)

  have := (num_uniq h8 nu nw).2 s

  subst this

  omega

theorem claims {x0 x1 x2 x3 x4 x5 : Int} {f0 f1 f2 f3 f4 f5 f6 f7 f8 : Int → Int} (r0 : 0 ≤ x0 ∧ x0 ≤ 9223372036854775807) (r1 : 0 ≤ x1 ∧ x1 ≤ 9223372036854775807) (r2 : 0 ≤ x2 ∧ x2 ≤ 9223372036854775807) (r3 : 0 ≤ x3 ∧ x3 ≤ 9223372036854775807) (r4 : 0 ≤ x4 ∧ x4 ≤ 9223372036854775807) (r5 : 0 ≤ x5 ∧ x5 ≤ 9223372036854775807) (s1 : ∀ q, (-9223372036854775808) ≤ f1 q ∧ f1 q ≤ 9223372036854775807) (s3 : ∀ q, (-9223372036854775808) ≤ f3 q ∧ f3 q ≤ 9223372036854775807) (s7 : ∀ q, (-9223372036854775808) ≤ f7 q ∧ f7 q ≤ 9223372036854775807) (s8 : ∀ q, (-9223372036854775808) ≤ f8 q ∧ f8 q ≤ 9223372036854775807) :

    Spec Try.prog etalonlaw08_GrowClaims_s ⟨[x0, x1, x2, x3, x4, x5], [], [f0, f1, f2, f3, f4, f5, f6, f7, f8]⟩ [] [true] [] := by

  obtain ⟨a0, rfl, ha⟩ := awake

  obtain ⟨u, hsm, us⟩ := small2_s (f0 := f0) (f2 := f2) (f4 := f4) r0 r1 s1 s3

  have no : ∀ {a : Int} {P : Prop}, (a == a) = false → P := fun h => by simp at h

  suffices hh : ∃ b : Bool, b = true ∧ Spec Try.prog etalonlaw08_GrowClaims_s ⟨[x0, x1, x2, x3, x4, x5], [], [f0, f1, f2, f3, f4, f5, f6, f7, f8]⟩ [] [b] [] by

    obtain ⟨b, rfl, hs⟩ := hh

    exact hs

  refine gcl r0 r1 r2 r3 r4 r5 s1 s3 s7 s8 (R := (· = true)) ⟨true, ha, fun _ => ⟨u, us, fun hu => ⟨fun h2 => ⟨fun h3 => ?_, fun _ => rfl⟩, fun _ => rfl⟩, fun _ => rfl⟩, fun h => by cases h⟩

  obtain ⟨hx0, hx1⟩ := hsm hu

  have h2 := of_decide_eq_true h2

  have h3 := of_decide_eq_true h3

  have q0 : 0 ≤ x0 ∧ x0 ≤ 10 := ⟨r0.1, hx0⟩

  have q1 : 0 ≤ x1 ∧ x1 ≤ 32 := ⟨r1.1, hx1⟩

  have q2 : 0 ≤ x2 ∧ x2 ≤ 12 := ⟨r2.1, h2⟩

  have q3 : 0 ≤ x3 ∧ x3 ≤ 12 := ⟨r3.1, h3⟩

  refine ⟨fun h4 => ⟨fun h5 => ?_, fun _ => rfl⟩, fun h4 => ⟨fun _ => rfl, fun h6 => ⟨fun h7 => ⟨fun h5 => ?_, fun _ => rfl⟩, fun _ => rfl⟩⟩⟩

  · have h4 := of_decide_eq_true h4

    have h5 := of_decide_eq_true h5

    have q4 : 0 ≤ x4 ∧ x4 ≤ 1002 := ⟨r4.1, by omega⟩

    have q5 : 0 ≤ x5 ∧ x5 ≤ 40 := ⟨r5.1, h5⟩

    have cc := copyChamber_s (f0 := f0) (f2 := f2) (f4 := f4) q0 q1 s1 s3

    have ch := copyChange_s (f0 := f5) (f1 := f6) q2 q3

    have l0 : 0 ≤ x0 ∧ x0 ≤ 140737488355328 := ⟨r0.1, by omega⟩

    have l1 : 0 ≤ x1 ∧ x1 ≤ 140737488355328 := ⟨r1.1, by omega⟩

    have l2 : 0 ≤ x2 ∧ x2 ≤ 140737488355328 := ⟨r2.1, by omega⟩

    have l3 : 0 ≤ x3 ∧ x3 ≤ 140737488355328 := ⟨r3.1, by omega⟩

    have l4 : 0 ≤ x4 ∧ x4 ≤ 140737488355328 := ⟨r4.1, by omega⟩

    have l5 : 0 ≤ x5 ∧ x5 ≤ 140737488355328 := ⟨r5.1, by omega⟩

    obtain ⟨n, e, hs, hss⟩ := seq_p (f0 := f0) (f2 := f2) (f4 := f4) (f5 := f5) (f6 := f6) q0 q1 q2 q3 q4 s1 s3 s7

    obtain ⟨m, d, hl, hls⟩ := labels_p (f0 := f0) (f2 := f2) (f4 := f4) (f5 := f5) (f6 := f6) q0 q1 q2 q3 q5 s1 s3 s8

    obtain ⟨e0, hc, hcs⟩ := changeErr_r (f0 := f0) (f2 := f2) (f4 := f4) (f5 := f5) (f6 := f6) q0 q1 q2 q3 s1 s3

    refine ⟨_, _, _, _, _, _, _, cc, l0, l1, _, _, _, _, ch, l2, l3, _, _, copyInts_s q4 s7, l4, _, _, hss, _, _, _, _, _, _, _, cc, l0, l1, _, _, _, _, ch, l2, l3, _, _, copyInts_s ⟨q5.1, by omega⟩ s8, l5, _, _, hls, _, hcs, fun z => ?_, fun z => ?_⟩

    · have z : e0 = 0 := eq_of_beq z

      subst z

      obtain ⟨⟨dv, rl⟩, ⟨e2, e3⟩, sf, st⟩ := chgIs_zero hc

      have hs : seqIs x0 x1 x4 f1 f2 f3 f4 f5 f6 f7 n e := by

        rcases hs with ⟨a, b, _⟩ | ⟨_, a⟩

        · exact absurd (chgIs_uniq a hc) b

        · exact a

      have hl : labIs x0 x1 x5 f1 f2 f3 f4 f5 f6 f8 m d := by

        rcases hl with ⟨a, b, _⟩ | ⟨_, a⟩

        · exact absurd (chgIs_uniq a hc) b

        · exact a

      obtain ⟨n', e', hs', hss'⟩ := seq_r (x4 := x4) (f0 := f0) (f2 := f2) (f4 := f4) (f5 := f5) (f6 := f6) r0.1 r1.1 (by omega) s1 s3 s7 dv rl

      obtain ⟨m', d', hl', hls'⟩ := labels_r (x4 := x5) (f0 := f0) (f2 := f2) (f4 := f4) (f5 := f5) (f6 := f6) r0.1 r1.1 q5 s1 s3 s8 dv rl

      obtain ⟨rfl, rfl⟩ := seqIs_uniq hs hs'

      obtain ⟨rfl, rfl⟩ := labIs_uniq dv.1 hl hl'

      have hss2 : Spec Try.prog etalonref08_CheckSequence_s ⟨[x0, x1, x2, x3, x4], [], [f0, f1, f2, f3, f4, f5, f6, f7]⟩ [n, e] [] [] := by rw [e2, e3]; exact hss'

      have hls2 : Spec Try.prog etalonref08_CheckLabels_s ⟨[x0, x1, x2, x3, x5], [], [f0, f1, f2, f3, f4, f5, f6, f8]⟩ [m, d] [] [] := by rw [e2, e3]; exact hls'

      refine ⟨_, _, hss2, _, _, hls2, fun _ => ⟨fun _ => ⟨fun _ => ⟨fun _ => ⟨fun y => ⟨fun w => ?_, fun _ => rfl⟩, fun _ => rfl⟩, no⟩, no⟩, no⟩, no⟩

      have y : e = 0 := eq_of_beq y

      have w : d = 0 := eq_of_beq w

      subst y w

      exact decide_eq_true (least r0.1 dv.1 r4.1 rl sf hs hl)

    · have z : e0 ≠ 0 := by simpa using z

      have hs : e = e0 ∧ n = 0 := by

        rcases hs with ⟨a, _, b⟩ | ⟨a, _⟩

        · exact ⟨chgIs_uniq a hc, b⟩

        · exact absurd (chgIs_uniq hc a) z

      have hl : d = e0 ∧ m = 0 := by

        rcases hl with ⟨a, _, b⟩ | ⟨a, _⟩

        · exact ⟨chgIs_uniq a hc, b⟩

        · exact absurd (chgIs_uniq hc a) z

      obtain ⟨rfl, rfl⟩ := hs

      obtain ⟨rfl, rfl⟩ := hl

      exact ⟨fun _ => ⟨fun _ => ⟨fun _ => rfl, no⟩, no⟩, no⟩

  · have h4 := of_decide_eq_true h7

    have h6 := of_decide_eq_false h6

    have h5 := of_decide_eq_true h5

    have q4 : 0 ≤ x4 ∧ x4 ≤ 1002 := ⟨r4.1, by omega⟩

    have q5 : 0 ≤ x5 ∧ x5 ≤ 40 := ⟨r5.1, h5⟩

    have cc := copyChamber_s (f0 := f0) (f2 := f2) (f4 := f4) q0 q1 s1 s3

    have ch := copyChange_s (f0 := f5) (f1 := f6) q2 q3

    have l0 : 0 ≤ x0 ∧ x0 ≤ 140737488355328 := ⟨r0.1, by omega⟩

    have l1 : 0 ≤ x1 ∧ x1 ≤ 140737488355328 := ⟨r1.1, by omega⟩

    have l2 : 0 ≤ x2 ∧ x2 ≤ 140737488355328 := ⟨r2.1, by omega⟩

    have l3 : 0 ≤ x3 ∧ x3 ≤ 140737488355328 := ⟨r3.1, by omega⟩

    have l4 : 0 ≤ x4 ∧ x4 ≤ 140737488355328 := ⟨r4.1, by omega⟩

    have l5 : 0 ≤ x5 ∧ x5 ≤ 140737488355328 := ⟨r5.1, by omega⟩

    obtain ⟨n, e, hs, hss⟩ := seq_p (f0 := f0) (f2 := f2) (f4 := f4) (f5 := f5) (f6 := f6) q0 q1 q2 q3 q4 s1 s3 s7

    obtain ⟨m, d, hl, hls⟩ := labels_p (f0 := f0) (f2 := f2) (f4 := f4) (f5 := f5) (f6 := f6) q0 q1 q2 q3 q5 s1 s3 s8

    obtain ⟨e0, hc, hcs⟩ := changeErr_r (f0 := f0) (f2 := f2) (f4 := f4) (f5 := f5) (f6 := f6) q0 q1 q2 q3 s1 s3

    refine ⟨_, _, _, _, _, _, _, cc, l0, l1, _, _, _, _, ch, l2, l3, _, _, copyInts_s q4 s7, l4, _, _, hss, _, _, _, _, _, _, _, cc, l0, l1, _, _, _, _, ch, l2, l3, _, _, copyInts_s ⟨q5.1, by omega⟩ s8, l5, _, _, hls, _, hcs, fun z => ?_, fun z => ?_⟩

    · have z : e0 = 0 := eq_of_beq z

      subst z

      obtain ⟨⟨dv, rl⟩, ⟨e2, e3⟩, sf, st⟩ := chgIs_zero hc

      have hs : seqIs x0 x1 x4 f1 f2 f3 f4 f5 f6 f7 n e := by

        rcases hs with ⟨a, b, _⟩ | ⟨_, a⟩

        · exact absurd (chgIs_uniq a hc) b

        · exact a

      have hl : labIs x0 x1 x5 f1 f2 f3 f4 f5 f6 f8 m d := by

        rcases hl with ⟨a, b, _⟩ | ⟨_, a⟩

        · exact absurd (chgIs_uniq a hc) b

        · exact a

      obtain ⟨n', e', hs', hss'⟩ := seq_r (x4 := x4) (f0 := f0) (f2 := f2) (f4 := f4) (f5 := f5) (f6 := f6) r0.1 r1.1 (by omega) s1 s3 s7 dv rl

      obtain ⟨m', d', hl', hls'⟩ := labels_r (x4 := x5) (f0 := f0) (f2 := f2) (f4 := f4) (f5 := f5) (f6 := f6) r0.1 r1.1 q5 s1 s3 s8 dv rl

      obtain ⟨rfl, rfl⟩ := seqIs_uniq hs hs'

      obtain ⟨rfl, rfl⟩ := labIs_uniq dv.1 hl hl'

      have hss2 : Spec Try.prog etalonref08_CheckSequence_s ⟨[x0, x1, x2, x3, x4], [], [f0, f1, f2, f3, f4, f5, f6, f7]⟩ [n, e] [] [] := by rw [e2, e3]; exact hss'

      have hls2 : Spec Try.prog etalonref08_CheckLabels_s ⟨[x0, x1, x2, x3, x5], [], [f0, f1, f2, f3, f4, f5, f6, f8]⟩ [m, d] [] [] := by rw [e2, e3]; exact hls'

      refine ⟨_, _, hss2, _, _, hls2, fun _ => ⟨fun _ => ⟨fun _ => ⟨fun _ => ⟨fun y => ⟨fun w => ?_, fun _ => rfl⟩, fun _ => rfl⟩, no⟩, no⟩, no⟩, no⟩

      have y : e = 0 := eq_of_beq y

      have w : d = 0 := eq_of_beq w

      subst y w

      exact decide_eq_true (least r0.1 dv.1 r4.1 rl sf hs hl)

    · have z : e0 ≠ 0 := by simpa using z

      have hs : e = e0 ∧ n = 0 := by

        rcases hs with ⟨a, _, b⟩ | ⟨a, _⟩

        · exact ⟨chgIs_uniq a hc, b⟩

        · exact absurd (chgIs_uniq hc a) z

      have hl : d = e0 ∧ m = 0 := by

        rcases hl with ⟨a, _, b⟩ | ⟨a, _⟩

        · exact ⟨chgIs_uniq a hc, b⟩

        · exact absurd (chgIs_uniq hc a) z

      obtain ⟨rfl, rfl⟩ := hs

      obtain ⟨rfl, rfl⟩ := hl

      exact ⟨fun _ => ⟨fun _ => ⟨fun _ => rfl, no⟩, no⟩, no⟩

end Go.Proofs.Ytheopgjjkgklpaa.Ev
