/- GrowBack. -/
import Derived.Test.YtheopgjjkgklpaaFgcd
import Derived.Test.YtheopgjjkgklpaaFaw8
namespace Go.Proofs.Ytheopgjjkgklpaa.Ev
set_option linter.unusedSimpArgs false
open Go Go.RowKit
set_option linter.unusedVariables false
set_option maxRecDepth 100000
def etalonref08_CopyChange_s : Sig := ⟨22, ⟨2, 0, 2⟩, ⟨2, 0, 2⟩, [(.agg [(.asl 0 (.var 0)), (.asl 1 (.var 1))])], [(some ⟨[], 4, true, false, (some ⟨(.var 0), [.bool], [(.avar 0)]⟩)⟩), (some ⟨[], 4, true, false, (some ⟨(.var 1), [.bool], [(.avar 1)]⟩)⟩)], (.agg [(.asl 2 (.var 2)), (.asl 3 (.var 3))]), [(some ⟨[], 4, false, true, (some ⟨(.var 2), [.bool], [(.avar 2)]⟩)⟩), (some ⟨[], 4, false, true, (some ⟨(.var 3), [.bool], [(.avar 3)]⟩)⟩)]⟩
def etalonbase_CopyInts_s : Sig := ⟨23, ⟨1, 0, 1⟩, ⟨1, 0, 1⟩, [(.asl 0 (.var 0))], [(some ⟨[], 3, true, false, (some ⟨(.var 0), [(.int .i64)], [(.avar 0)]⟩)⟩)], (.asl 1 (.var 1)), [(some ⟨[], 3, false, true, (some ⟨(.var 1), [(.int .i64)], [(.avar 1)]⟩)⟩)]⟩
def etalonlaw08_GrowBack_s : Sig := ⟨4, ⟨5, 0, 8⟩, ⟨0, 1, 0⟩, [(.agg [(.asl 0 (.var 0)), (.asl 1 (.var 1))]), (.agg [(.asl 2 (.var 2)), (.asl 3 (.var 3))]), (.asl 4 (.var 4))], [(some ⟨[], 9, true, false, (some ⟨(.var 0), [.str], [(.avar 0)]⟩)⟩), (some ⟨[], 91, true, false, (some ⟨(.var 1), [(.int .i64), .bool, (.int .i64), .bool], [(.avar 1), (.avar 2), (.avar 3), (.avar 4)]⟩)⟩), (some ⟨[], 4, true, false, (some ⟨(.var 2), [.bool], [(.avar 5)]⟩)⟩), (some ⟨[], 4, true, false, (some ⟨(.var 3), [.bool], [(.avar 6)]⟩)⟩), (some ⟨[], 3, true, false, (some ⟨(.var 4), [(.int .i64)], [(.avar 7)]⟩)⟩)], (.bool (.var 0)), []⟩

def cch_t : Tr :=
  (.ret ⟨[(.var 0), (.var 1)], [], [(.avar 0), (.avar 1)]⟩ [5, 7])
theorem cch {x0 x1 : Int} {f0 f1 : Int → Int} (r0 : 0 ≤ x0 ∧ x0 ≤ 12) (r1 : 0 ≤ x1 ∧ x1 ≤ 12) {R : Int → Int → (Int → Int) → (Int → Int) → Prop}
  (H : R (x0) (x1) (f0) (f1)) :
    ∃ v0 : Int, ∃ v1 : Int, ∃ g0 : Int → Int, ∃ g1 : Int → Int, R v0 v1 g0 g1 ∧ Spec Try.prog etalonref08_CopyChange_s ⟨[x0, x1], [], [f0, f1]⟩ [v0, v1] [] [g0, g1] :=
  Eq.mp (by kernel_rfl) (exV_of (K := fun d => app3 etalonref08_CopyChange_s.out R d ∧ Spec Try.prog etalonref08_CopyChange_s ⟨[x0, x1], [], [f0, f1]⟩ d.1 d.2.1 d.2.2) (tree_at mixed names S1_ok (S := S1 Try.prog) (lf := 100000) (d := 60) etalonref08_CopyChange_s cch_t { ivs := [(0, 0, 12), (1, 0, 12)], aivs := [] } ⟨[x0, x1], [], [f0, f1]⟩ rfl (by kernel_rfl) (by kernel_rfl) (by kernel_rfl) ⟨(fc r0 (fc r1 fz)), fz, fz, fz⟩ (R := fun d => app3 etalonref08_CopyChange_s.out R d) (Eq.mp (by kernel_rfl) H)))

def cin_t : Tr :=
  (.ret ⟨[(.var 0)], [], [(.avar 0)]⟩ [2])
theorem cin {x0 : Int} {f0 : Int → Int} (r0 : 0 ≤ x0 ∧ x0 ≤ 1002) (s0 : ∀ q, (-9223372036854775808) ≤ f0 q ∧ f0 q ≤ 9223372036854775807) {R : Int → (Int → Int) → Prop}
  (H : R (x0) (f0)) :
    ∃ v0 : Int, ∃ g0 : Int → Int, R v0 g0 ∧ Spec Try.prog etalonbase_CopyInts_s ⟨[x0], [], [f0]⟩ [v0] [] [g0] :=
  Eq.mp (by kernel_rfl) (exV_of (K := fun d => app3 etalonbase_CopyInts_s.out R d ∧ Spec Try.prog etalonbase_CopyInts_s ⟨[x0], [], [f0]⟩ d.1 d.2.1 d.2.2) (tree_at mixed names S1_ok (S := S1 Try.prog) (lf := 100000) (d := 60) etalonbase_CopyInts_s cin_t { ivs := [(0, 0, 1002)], aivs := [(0, (-9223372036854775808), 9223372036854775807)] } ⟨[x0], [], [f0]⟩ rfl (by kernel_rfl) (by kernel_rfl) (by kernel_rfl) ⟨(fc r0 fz), fz, (fc s0 fz), fz⟩ (R := fun d => app3 etalonbase_CopyInts_s.out R d) (Eq.mp (by kernel_rfl) H)))

def gbk_t : Tr :=
  (.call etalonlaw08_awake_s ⟨[], [], []⟩ ⟨[], [(.var 0)], []⟩ ⟨8, [], [], [none, none, none, none, none, none, none], (.bool (.var 0)), []⟩
  (.ite (.var 0)
  (.call etalonlaw08_small_s ⟨[(.var 0), (.var 1)], [], [(.avar 0), (.avar 1), (.avar 2), (.avar 3), (.avar 4)]⟩ ⟨[(.var 0), (.var 1)], [(.var 1)], [(.avar 0), (.avar 1), (.avar 2), (.avar 3), (.avar 4)]⟩ ⟨9, [(.agg [(.asl 0 (.var 0)), (.asl 1 (.var 1))])], [0, 1], [(some ⟨[], 9, true, false, (some ⟨(.var 0), [.str], [(.avar 0)]⟩)⟩), (some ⟨[], 91, true, false, (some ⟨(.var 1), [(.int .i64), .bool, (.int .i64), .bool], [(.avar 1), (.avar 2), (.avar 3), (.avar 4)]⟩)⟩), none, none, none, none, none], (.bool (.var 1)), []⟩
   (.ite (.var 1)
   (.ite (.icmp .leq (.var 2) (.lit 12))
    (.ite (.icmp .leq (.var 3) (.lit 12))
     (.ite (.icmp .leq (.var 4) (.lit 40))
      (.call etalonref08_CopyChamber_s ⟨[(.var 0), (.var 1)], [], [(.avar 0), (.avar 1), (.avar 2), (.avar 3), (.avar 4)]⟩ ⟨[(.var 0), (.var 1), (.var 5), (.var 6)], [], [(.avar 0), (.avar 1), (.avar 2), (.avar 3), (.avar 4), (.avar 8), (.avar 9), (.avar 10), (.avar 11), (.avar 12)]⟩ ⟨11, [(.agg [(.asl 0 (.var 0)), (.asl 1 (.var 1))])], [0, 1], [(some ⟨[], 9, true, false, (some ⟨(.var 0), [.str], [(.avar 0)]⟩)⟩), (some ⟨[], 91, true, false, (some ⟨(.var 1), [(.int .i64), .bool, (.int .i64), .bool], [(.avar 1), (.avar 2), (.avar 3), (.avar 4)]⟩)⟩), none, none, none, none, none], (.agg [(.asl 7 (.var 5)), (.asl 8 (.var 6))]), [(some ⟨[], 9, false, true, (some ⟨(.var 5), [.str], [(.avar 8)]⟩)⟩), (some ⟨[], 91, false, true, (some ⟨(.var 6), [(.int .i64), .bool, (.int .i64), .bool], [(.avar 9), (.avar 10), (.avar 11), (.avar 12)]⟩)⟩)]⟩
       (.rng 5 0 140737488355328 (.rng 6 0 140737488355328 (.call etalonref08_CopyChange_s ⟨[(.var 2), (.var 3)], [], [(.avar 5), (.avar 6)]⟩ ⟨[(.var 2), (.var 3), (.var 7), (.var 8)], [], [(.avar 5), (.avar 6), (.avar 13), (.avar 14)]⟩ ⟨22, [(.agg [(.asl 2 (.var 2)), (.asl 3 (.var 3))])], [2, 3], [none, none, (some ⟨[], 4, true, false, (some ⟨(.var 2), [.bool], [(.avar 5)]⟩)⟩), (some ⟨[], 4, true, false, (some ⟨(.var 3), [.bool], [(.avar 6)]⟩)⟩), none, none, none, none, none], (.agg [(.asl 9 (.var 7)), (.asl 10 (.var 8))]), [(some ⟨[], 4, false, true, (some ⟨(.var 7), [.bool], [(.avar 13)]⟩)⟩), (some ⟨[], 4, false, true, (some ⟨(.var 8), [.bool], [(.avar 14)]⟩)⟩)]⟩
       (.rng 7 0 140737488355328 (.rng 8 0 140737488355328 (.call etalonbase_CopyInts_s ⟨[(.var 4)], [], [(.avar 7)]⟩ ⟨[(.var 4), (.var 9)], [], [(.avar 7), (.avar 15)]⟩ ⟨23, [(.asl 4 (.var 4))], [4], [none, none, none, none, (some ⟨[], 3, true, false, (some ⟨(.var 4), [(.int .i64)], [(.avar 7)]⟩)⟩), none, none, none, none, none, none], (.asl 11 (.var 9)), [(some ⟨[], 3, false, true, (some ⟨(.var 9), [(.int .i64)], [(.avar 15)]⟩)⟩)]⟩
       (.rng 9 0 140737488355328 (.call grow_CheckSequence_s ⟨[(.var 5), (.var 6), (.var 7), (.var 8), (.var 9)], [], [(.avar 8), (.avar 9), (.avar 10), (.avar 11), (.avar 12), (.avar 13), (.avar 14), (.avar 15)]⟩ ⟨[(.var 5), (.var 6), (.var 7), (.var 8), (.var 9), (.var 10), (.var 11)], [], [(.avar 8), (.avar 9), (.avar 10), (.avar 11), (.avar 12), (.avar 13), (.avar 14), (.avar 15)]⟩ ⟨21, [(.agg [(.asl 7 (.var 5)), (.asl 8 (.var 6))]), (.agg [(.asl 9 (.var 7)), (.asl 10 (.var 8))]), (.asl 11 (.var 9))], [7, 8, 9, 10, 11], [none, none, none, none, none, none, none, (some ⟨[], 9, false, true, (some ⟨(.var 5), [.str], [(.avar 8)]⟩)⟩), (some ⟨[], 91, false, true, (some ⟨(.var 6), [(.int .i64), .bool, (.int .i64), .bool], [(.avar 9), (.avar 10), (.avar 11), (.avar 12)]⟩)⟩), (some ⟨[], 4, false, true, (some ⟨(.var 7), [.bool], [(.avar 13)]⟩)⟩), (some ⟨[], 4, false, true, (some ⟨(.var 8), [.bool], [(.avar 14)]⟩)⟩), (some ⟨[], 3, false, true, (some ⟨(.var 9), [(.int .i64)], [(.avar 15)]⟩)⟩)], (.tuple [(.int .i64 (.var 10)), (.int .i64 (.var 11))]), []⟩
       (.ite (.icmp .eql (.var 11) (.lit 0))
       (.call etalonref08_CopyState_s ⟨[(.var 2)], [], [(.avar 5)]⟩ ⟨[(.var 2), (.var 12)], [], [(.avar 5), (.avar 16)]⟩ ⟨13, [(.asl 2 (.var 2))], [2], [none, none, (some ⟨[], 4, true, false, (some ⟨(.var 2), [.bool], [(.avar 5)]⟩)⟩), none, none, none, none, none, none, none, none, none], (.asl 12 (.var 12)), [(some ⟨[], 4, false, true, (some ⟨(.var 12), [.bool], [(.avar 16)]⟩)⟩)]⟩
        (.rng 12 0 140737488355328 (.loop ⟨4, [0, 1, 0, 1, 1, 1, 1, 1, 1], [(.agg [(.asl 0 (.var 0)), (.asl 1 (.var 1))]), (.agg [(.asl 2 (.var 2)), (.asl 3 (.var 3))]), (.asl 4 (.var 4)), (.ptr (some ⟨5, 0, none⟩)), (.ptr (some ⟨6, 0, none⟩)), (.tuple []), (.bool (.lit false)), (.int .i64 (.var 10)), (.int .i64 (.var 11)), (.slice none 0 0), (.asl 12 (.var 12)), (.int .i64 (.lit 0)), (.tuple []), (.tuple []), (.tuple []), (.tuple []), (.tuple []), (.tuple []), (.tuple []), (.bool (.var 0)), (.bool (.not (.var 0))), (.agg [(.asl 0 (.var 0)), (.asl 1 (.var 1))]), (.bool (.var 1)), (.bool (.not (.var 1))), (.bool (.not (.var 1))), (.ptr (some ⟨6, 0, none⟩)), (.asl 2 (.var 2)), (.int .i64 (.var 2)), (.bool (.icmp .gtr (.var 2) (.lit 12))), (.bool (.icmp .gtr (.var 2) (.lit 12))), (.bool (.icmp .gtr (.var 2) (.lit 12))), (.ptr (some ⟨6, 1, none⟩)), (.asl 3 (.var 3)), (.int .i64 (.var 3)), (.bool (.icmp .gtr (.var 3) (.lit 12))), (.bool (.icmp .gtr (.var 3) (.lit 12))), (.bool (.icmp .gtr (.var 3) (.lit 12))), (.asl 4 (.var 4)), (.int .i64 (.var 4)), (.bool (.icmp .gtr (.var 4) (.lit 40))), (.bool (.icmp .gtr (.var 4) (.lit 40))), (.tuple [(.int .i64 (.var 10)), (.int .i64 (.var 11))]), (.agg [(.asl 0 (.var 0)), (.asl 1 (.var 1))]), (.agg [(.asl 7 (.var 5)), (.asl 8 (.var 6))]), (.agg [(.asl 2 (.var 2)), (.asl 3 (.var 3))]), (.agg [(.asl 9 (.var 7)), (.asl 10 (.var 8))]), (.asl 4 (.var 4)), (.asl 11 (.var 9)), (.tuple [(.int .i64 (.var 10)), (.int .i64 (.var 11))]), (.int .i64 (.var 10)), (.int .i64 (.var 11)), (.int .i64 (.var 11)), (.bool (.icmp .neq (.var 11) (.lit 0))), (.ptr (some ⟨6, 0, none⟩)), (.asl 2 (.var 2)), (.asl 12 (.var 12)), (.tuple []), (.tuple []), (.tuple []), (.tuple []), (.tuple []), (.tuple []), (.tuple []), (.tuple []), (.tuple []), (.tuple []), (.tuple []), (.tuple []), (.tuple []), (.tuple []), (.tuple []), (.tuple []), (.tuple []), (.tuple []), (.tuple []), (.tuple []), (.tuple []), (.tuple []), (.tuple []), (.tuple []), (.tuple []), (.tuple []), (.tuple []), (.tuple []), (.tuple []), (.tuple []), (.tuple []), (.tuple []), (.tuple []), (.tuple []), (.tuple []), (.tuple []), (.tuple []), (.tuple []), (.tuple []), (.tuple []), (.tuple []), (.tuple []), (.tuple []), (.tuple []), (.tuple []), (.tuple []), (.tuple []), (.tuple []), (.tuple []), (.tuple []), (.tuple []), (.tuple []), (.tuple []), (.tuple []), (.tuple []), (.tuple []), (.tuple []), (.tuple []), (.tuple []), (.tuple []), (.tuple []), (.tuple []), (.tuple []), (.tuple []), (.tuple []), (.tuple []), (.tuple []), (.tuple []), (.tuple []), (.tuple []), (.tuple []), (.tuple [])], [(some ⟨[], 9, true, false, (some ⟨(.var 0), [.str], [(.avar 0)]⟩)⟩), (some ⟨[], 91, true, false, (some ⟨(.var 1), [(.int .i64), .bool, (.int .i64), .bool], [(.avar 1), (.avar 2), (.avar 3), (.avar 4)]⟩)⟩), (some ⟨[], 4, true, false, (some ⟨(.var 2), [.bool], [(.avar 5)]⟩)⟩), (some ⟨[], 4, true, false, (some ⟨(.var 3), [.bool], [(.avar 6)]⟩)⟩), (some ⟨[], 3, true, false, (some ⟨(.var 4), [(.int .i64)], [(.avar 7)]⟩)⟩), (some ⟨[(.asl 0 (.var 0)), (.asl 1 (.var 1))], 25, false, false, none⟩), (some ⟨[(.asl 2 (.var 2)), (.asl 3 (.var 3))], 45, false, false, none⟩), (some ⟨[], 9, false, true, (some ⟨(.var 5), [.str], [(.avar 8)]⟩)⟩), (some ⟨[], 91, false, true, (some ⟨(.var 6), [(.int .i64), .bool, (.int .i64), .bool], [(.avar 9), (.avar 10), (.avar 11), (.avar 12)]⟩)⟩), (some ⟨[], 4, false, true, (some ⟨(.var 7), [.bool], [(.avar 13)]⟩)⟩), (some ⟨[], 4, false, true, (some ⟨(.var 8), [.bool], [(.avar 14)]⟩)⟩), (some ⟨[], 3, false, true, (some ⟨(.var 9), [(.int .i64)], [(.avar 15)]⟩)⟩), (some ⟨[], 4, false, true, (some ⟨(.var 12), [.bool], [(.avar 16)]⟩)⟩)], [(.gh 9 3 [(.int .i64)]), (.mv 12)], [(.agg [(.asl 0 (.var 0)), (.asl 1 (.var 1))]), (.agg [(.asl 2 (.var 2)), (.asl 3 (.var 3))]), (.asl 4 (.var 4)), (.ptr (some ⟨5, 0, none⟩)), (.ptr (some ⟨6, 0, none⟩)), (.tuple []), (.bool (.lit false)), (.int .i64 (.var 10)), (.int .i64 (.var 11)), (.asl 13 (.var 14)), (.asl 14 (.var 15)), (.int .i64 (.var 13)), (.any 12), (.any 13), (.any 14), (.any 15), (.any 16), (.tuple []), (.tuple []), (.bool (.var 0)), (.bool (.not (.var 0))), (.agg [(.asl 0 (.var 0)), (.asl 1 (.var 1))]), (.bool (.var 1)), (.bool (.not (.var 1))), (.bool (.not (.var 1))), (.ptr (some ⟨6, 0, none⟩)), (.asl 2 (.var 2)), (.int .i64 (.var 2)), (.bool (.icmp .gtr (.var 2) (.lit 12))), (.bool (.icmp .gtr (.var 2) (.lit 12))), (.bool (.icmp .gtr (.var 2) (.lit 12))), (.ptr (some ⟨6, 1, none⟩)), (.asl 3 (.var 3)), (.int .i64 (.var 3)), (.bool (.icmp .gtr (.var 3) (.lit 12))), (.bool (.icmp .gtr (.var 3) (.lit 12))), (.bool (.icmp .gtr (.var 3) (.lit 12))), (.asl 4 (.var 4)), (.int .i64 (.var 4)), (.bool (.icmp .gtr (.var 4) (.lit 40))), (.bool (.icmp .gtr (.var 4) (.lit 40))), (.tuple [(.int .i64 (.var 10)), (.int .i64 (.var 11))]), (.agg [(.asl 0 (.var 0)), (.asl 1 (.var 1))]), (.agg [(.asl 7 (.var 5)), (.asl 8 (.var 6))]), (.agg [(.asl 2 (.var 2)), (.asl 3 (.var 3))]), (.agg [(.asl 9 (.var 7)), (.asl 10 (.var 8))]), (.asl 4 (.var 4)), (.asl 11 (.var 9)), (.tuple [(.int .i64 (.var 10)), (.int .i64 (.var 11))]), (.int .i64 (.var 10)), (.int .i64 (.var 11)), (.int .i64 (.var 11)), (.bool (.icmp .neq (.var 11) (.lit 0))), (.ptr (some ⟨6, 0, none⟩)), (.asl 2 (.var 2)), (.any 55), (.any 56), (.any 57), (.any 58), (.any 59), (.any 60), (.any 61), (.any 62), (.any 63), (.any 64), (.any 65), (.any 66), (.any 67), (.any 68), (.any 69), (.any 70), (.any 71), (.any 72), (.any 73), (.any 74), (.any 75), (.any 76), (.any 77), (.any 78), (.any 79), (.any 80), (.any 81), (.any 82), (.any 83), (.any 84), (.any 85), (.any 86), (.any 87), (.any 88), (.any 89), (.any 90), (.any 91), (.any 92), (.any 93), (.any 94), (.any 95), (.any 96), (.any 97), (.any 98), (.any 99), (.tuple []), (.tuple []), (.tuple []), (.tuple []), (.tuple []), (.tuple []), (.tuple []), (.tuple []), (.tuple []), (.tuple []), (.tuple []), (.tuple []), (.tuple []), (.tuple []), (.tuple []), (.tuple []), (.tuple []), (.tuple []), (.tuple []), (.tuple []), (.tuple []), (.tuple []), (.tuple []), (.tuple []), (.tuple []), (.tuple []), (.tuple []), (.tuple [])], [(some ⟨[], 9, true, false, (some ⟨(.var 0), [.str], [(.avar 0)]⟩)⟩), (some ⟨[], 91, true, false, (some ⟨(.var 1), [(.int .i64), .bool, (.int .i64), .bool], [(.avar 1), (.avar 2), (.avar 3), (.avar 4)]⟩)⟩), (some ⟨[], 4, true, false, (some ⟨(.var 2), [.bool], [(.avar 5)]⟩)⟩), (some ⟨[], 4, true, false, (some ⟨(.var 3), [.bool], [(.avar 6)]⟩)⟩), (some ⟨[], 3, true, false, (some ⟨(.var 4), [(.int .i64)], [(.avar 7)]⟩)⟩), (some ⟨[(.asl 0 (.var 0)), (.asl 1 (.var 1))], 25, false, false, none⟩), (some ⟨[(.asl 2 (.var 2)), (.asl 3 (.var 3))], 45, false, false, none⟩), (some ⟨[], 9, false, true, (some ⟨(.var 5), [.str], [(.avar 8)]⟩)⟩), (some ⟨[], 91, false, true, (some ⟨(.var 6), [(.int .i64), .bool, (.int .i64), .bool], [(.avar 9), (.avar 10), (.avar 11), (.avar 12)]⟩)⟩), (some ⟨[], 4, false, true, (some ⟨(.var 7), [.bool], [(.avar 13)]⟩)⟩), (some ⟨[], 4, false, true, (some ⟨(.var 8), [.bool], [(.avar 14)]⟩)⟩), (some ⟨[], 3, false, true, (some ⟨(.var 9), [(.int .i64)], [(.avar 15)]⟩)⟩), none, (some ⟨[], 3, false, true, (some ⟨(.var 14), [(.int .i64)], [(.avar 17)]⟩)⟩), (some ⟨[], 4, false, true, (some ⟨(.var 15), [.bool], [(.avar 18)]⟩)⟩)], [12], ⟨3, 0, 2⟩, ⟨[(.lit 0), (.lit 0), (.var 12)], [], [(.acst (.lit 0)), (.avar 16)]⟩, [13, 14]⟩
        (.arng 17 (-9223372036854775808) 9223372036854775807 (.rng 13 0 40 (.rng 14 0 40 (.rng 15 0 12 (.ite (.icmp .leq (.var 4) (.var 13))
         (.out 1 ⟨[(.var 14), (.var 15)], [], [(.avar 17), (.avar 18)]⟩ [13, 14])
         (.call etalonref08_CopyChamber_s ⟨[(.var 0), (.var 1)], [], [(.avar 0), (.avar 1), (.avar 2), (.avar 3), (.avar 4)]⟩ ⟨[(.var 0), (.var 1), (.var 16), (.var 17)], [], [(.avar 0), (.avar 1), (.avar 2), (.avar 3), (.avar 4), (.avar 19), (.avar 20), (.avar 21), (.avar 22), (.avar 23)]⟩ ⟨11, [(.agg [(.asl 0 (.var 0)), (.asl 1 (.var 1))])], [0, 1], [(some ⟨[], 9, true, false, (some ⟨(.var 0), [.str], [(.avar 0)]⟩)⟩), (some ⟨[], 91, true, false, (some ⟨(.var 1), [(.int .i64), .bool, (.int .i64), .bool], [(.avar 1), (.avar 2), (.avar 3), (.avar 4)]⟩)⟩), none, none, none, none, none, none, none, none, none, none, none, none, none], (.agg [(.asl 15 (.var 16)), (.asl 16 (.var 17))]), [(some ⟨[], 9, false, true, (some ⟨(.var 16), [.str], [(.avar 19)]⟩)⟩), (some ⟨[], 91, false, true, (some ⟨(.var 17), [(.int .i64), .bool, (.int .i64), .bool], [(.avar 20), (.avar 21), (.avar 22), (.avar 23)]⟩)⟩)]⟩
          (.rng 16 0 140737488355328 (.rng 17 0 140737488355328 (.call grow_Switched_s ⟨[(.var 16), (.var 17), (.var 15), (.sel (.avar 7) (.var 13))], [], [(.avar 19), (.avar 20), (.avar 21), (.avar 22), (.avar 23), (.avar 18)]⟩ ⟨[(.var 16), (.var 17), (.var 15), (.sel (.avar 7) (.var 13)), (.var 18), (.var 19), (.var 20)], [], [(.avar 19), (.avar 20), (.avar 21), (.avar 22), (.avar 23), (.avar 18), (.avar 24)]⟩ ⟨14, [(.agg [(.asl 15 (.var 16)), (.asl 16 (.var 17))]), (.asl 14 (.var 15)), (.int .i64 (.sel (.avar 7) (.var 13)))], [15, 16, 14], [none, none, none, none, none, none, none, none, none, none, none, none, none, none, (some ⟨[], 4, false, true, (some ⟨(.var 15), [.bool], [(.avar 18)]⟩)⟩), (some ⟨[], 9, false, true, (some ⟨(.var 16), [.str], [(.avar 19)]⟩)⟩), (some ⟨[], 91, false, true, (some ⟨(.var 17), [(.int .i64), .bool, (.int .i64), .bool], [(.avar 20), (.avar 21), (.avar 22), (.avar 23)]⟩)⟩)], (.tuple [(.asl 17 (.var 18)), (.int .i64 (.var 19)), (.int .i64 (.var 20))]), [(some ⟨[], 4, false, true, (some ⟨(.var 18), [.bool], [(.avar 24)]⟩)⟩)]⟩
          (.rng 18 0 140737488355328 (.call etalonref08_CopyChamber_s ⟨[(.var 0), (.var 1)], [], [(.avar 0), (.avar 1), (.avar 2), (.avar 3), (.avar 4)]⟩ ⟨[(.var 0), (.var 1), (.var 21), (.var 22)], [], [(.avar 0), (.avar 1), (.avar 2), (.avar 3), (.avar 4), (.avar 25), (.avar 26), (.avar 27), (.avar 28), (.avar 29)]⟩ ⟨11, [(.agg [(.asl 0 (.var 0)), (.asl 1 (.var 1))])], [0, 1], [(some ⟨[], 9, true, false, (some ⟨(.var 0), [.str], [(.avar 0)]⟩)⟩), (some ⟨[], 91, true, false, (some ⟨(.var 1), [(.int .i64), .bool, (.int .i64), .bool], [(.avar 1), (.avar 2), (.avar 3), (.avar 4)]⟩)⟩), none, none, none, none, none, none, none, none, none, none, none, none, none, none, none, none], (.agg [(.asl 18 (.var 21)), (.asl 19 (.var 22))]), [(some ⟨[], 9, false, true, (some ⟨(.var 21), [.str], [(.avar 25)]⟩)⟩), (some ⟨[], 91, false, true, (some ⟨(.var 22), [(.int .i64), .bool, (.int .i64), .bool], [(.avar 26), (.avar 27), (.avar 28), (.avar 29)]⟩)⟩)]⟩
          (.rng 21 0 140737488355328 (.rng 22 0 140737488355328 (.call etalonref08_CopyState_s ⟨[(.var 18)], [], [(.avar 24)]⟩ ⟨[(.var 18), (.var 23)], [], [(.avar 24), (.avar 30)]⟩ ⟨13, [(.asl 17 (.var 18))], [17], [none, none, none, none, none, none, none, none, none, none, none, none, none, none, none, none, none, (some ⟨[], 4, false, true, (some ⟨(.var 18), [.bool], [(.avar 24)]⟩)⟩), none, none], (.asl 20 (.var 23)), [(some ⟨[], 4, false, true, (some ⟨(.var 23), [.bool], [(.avar 30)]⟩)⟩)]⟩
          (.rng 23 0 140737488355328 (.call grow_FirstBroken_s ⟨[(.var 21), (.var 22), (.var 23)], [], [(.avar 25), (.avar 26), (.avar 27), (.avar 28), (.avar 29), (.avar 30)]⟩ ⟨[(.var 21), (.var 22), (.var 23), (.var 24), (.var 25)], [], [(.avar 25), (.avar 26), (.avar 27), (.avar 28), (.avar 29), (.avar 30)]⟩ ⟨12, [(.agg [(.asl 18 (.var 21)), (.asl 19 (.var 22))]), (.asl 20 (.var 23))], [18, 19, 20], [none, none, none, none, none, none, none, none, none, none, none, none, none, none, none, none, none, none, (some ⟨[], 9, false, true, (some ⟨(.var 21), [.str], [(.avar 25)]⟩)⟩), (some ⟨[], 91, false, true, (some ⟨(.var 22), [(.int .i64), .bool, (.int .i64), .bool], [(.avar 26), (.avar 27), (.avar 28), (.avar 29)]⟩)⟩), (some ⟨[], 4, false, true, (some ⟨(.var 23), [.bool], [(.avar 30)]⟩)⟩)], (.tuple [(.int .i64 (.var 24)), (.int .i64 (.var 25))]), []⟩
          (.ite (.icmp .eql (.var 20) (.lit 0))
          (.ite (.icmp .eql (.var 25) (.lit 17))
           (.ite (.icmp .leq (.lit 0) (.bin .subI (.bin .subI (.var 4) (.lit 1)) (.var 13)))
            (.ite (.icmp .leq (.var 4) (.bin .subI (.bin .subI (.var 4) (.lit 1)) (.var 13)))
             .nil
             (.next ⟨[(.bin .addI (.var 13) (.lit 1)), (.bin .addI (.var 14) (.lit 1)), (.var 18)], [], [(.aupd (.avar 17) (.var 14) (.sel (.avar 7) (.bin .subI (.bin .subI (.var 4) (.lit 1)) (.var 13)))), (.avar 24)]⟩ [22, 17]))
            .nil)
           (.out 0 ⟨[(.var 14), (.var 15)], [], [(.avar 17), (.avar 18)]⟩ [13, 14]))
          (.out 0 ⟨[(.var 14), (.var 15)], [], [(.avar 17), (.avar 18)]⟩ [13, 14]))))))))))))))))))
        (.ex (.ret, [(.agg [(.asl 0 (.var 0)), (.asl 1 (.var 1))]), (.agg [(.asl 2 (.var 2)), (.asl 3 (.var 3))]), (.asl 4 (.var 4)), (.ptr (some ⟨5, 0, none⟩)), (.ptr (some ⟨6, 0, none⟩)), (.tuple []), (.bool (.lit false)), (.int .i64 (.var 10)), (.int .i64 (.var 11)), (.asl 13 (.var 13)), (.asl 14 (.var 14)), (.any 11), (.any 12), (.any 13), (.any 14), (.any 15), (.any 16), (.tuple []), (.tuple []), (.bool (.var 0)), (.bool (.not (.var 0))), (.agg [(.asl 0 (.var 0)), (.asl 1 (.var 1))]), (.bool (.var 1)), (.bool (.not (.var 1))), (.bool (.not (.var 1))), (.ptr (some ⟨6, 0, none⟩)), (.asl 2 (.var 2)), (.int .i64 (.var 2)), (.bool (.icmp .gtr (.var 2) (.lit 12))), (.bool (.icmp .gtr (.var 2) (.lit 12))), (.bool (.icmp .gtr (.var 2) (.lit 12))), (.ptr (some ⟨6, 1, none⟩)), (.asl 3 (.var 3)), (.int .i64 (.var 3)), (.bool (.icmp .gtr (.var 3) (.lit 12))), (.bool (.icmp .gtr (.var 3) (.lit 12))), (.bool (.icmp .gtr (.var 3) (.lit 12))), (.asl 4 (.var 4)), (.int .i64 (.var 4)), (.bool (.icmp .gtr (.var 4) (.lit 40))), (.bool (.icmp .gtr (.var 4) (.lit 40))), (.tuple [(.int .i64 (.var 10)), (.int .i64 (.var 11))]), (.agg [(.asl 0 (.var 0)), (.asl 1 (.var 1))]), (.agg [(.asl 7 (.var 5)), (.asl 8 (.var 6))]), (.agg [(.asl 2 (.var 2)), (.asl 3 (.var 3))]), (.agg [(.asl 9 (.var 7)), (.asl 10 (.var 8))]), (.asl 4 (.var 4)), (.asl 11 (.var 9)), (.tuple [(.int .i64 (.var 10)), (.int .i64 (.var 11))]), (.int .i64 (.var 10)), (.int .i64 (.var 11)), (.int .i64 (.var 11)), (.bool (.icmp .neq (.var 11) (.lit 0))), (.ptr (some ⟨6, 0, none⟩)), (.asl 2 (.var 2)), (.any 55), (.any 56), (.any 57), (.any 58), (.any 59), (.any 60), (.any 61), (.any 62), (.any 63), (.any 64), (.any 65), (.any 66), (.any 67), (.any 68), (.any 69), (.any 70), (.any 71), (.any 72), (.any 73), (.any 74), (.any 75), (.any 76), (.any 77), (.any 78), (.any 79), (.any 80), (.any 81), (.any 82), (.any 83), (.any 84), (.any 85), (.any 86), (.any 87), (.any 88), (.any 89), (.any 90), (.any 91), (.any 92), (.any 93), (.any 94), (.any 95), (.any 96), (.any 97), (.any 98), (.any 99), (.tuple []), (.tuple []), (.tuple []), (.tuple []), (.tuple []), (.tuple []), (.tuple []), (.tuple []), (.tuple []), (.tuple []), (.tuple []), (.tuple []), (.tuple []), (.tuple []), (.tuple []), (.tuple []), (.tuple []), (.tuple []), (.tuple []), (.tuple []), (.tuple []), (.tuple []), (.tuple []), (.tuple []), (.tuple []), (.tuple []), (.tuple []), (.tuple [])], [(some ⟨[], 9, true, false, (some ⟨(.var 0), [.str], [(.avar 0)]⟩)⟩), (some ⟨[], 91, true, false, (some ⟨(.var 1), [(.int .i64), .bool, (.int .i64), .bool], [(.avar 1), (.avar 2), (.avar 3), (.avar 4)]⟩)⟩), (some ⟨[], 4, true, false, (some ⟨(.var 2), [.bool], [(.avar 5)]⟩)⟩), (some ⟨[], 4, true, false, (some ⟨(.var 3), [.bool], [(.avar 6)]⟩)⟩), (some ⟨[], 3, true, false, (some ⟨(.var 4), [(.int .i64)], [(.avar 7)]⟩)⟩), (some ⟨[(.asl 0 (.var 0)), (.asl 1 (.var 1))], 25, false, false, none⟩), (some ⟨[(.asl 2 (.var 2)), (.asl 3 (.var 3))], 45, false, false, none⟩), (some ⟨[], 9, false, true, (some ⟨(.var 5), [.str], [(.avar 8)]⟩)⟩), (some ⟨[], 91, false, true, (some ⟨(.var 6), [(.int .i64), .bool, (.int .i64), .bool], [(.avar 9), (.avar 10), (.avar 11), (.avar 12)]⟩)⟩), (some ⟨[], 4, false, true, (some ⟨(.var 7), [.bool], [(.avar 13)]⟩)⟩), (some ⟨[], 4, false, true, (some ⟨(.var 8), [.bool], [(.avar 14)]⟩)⟩), (some ⟨[], 3, false, true, (some ⟨(.var 9), [(.int .i64)], [(.avar 15)]⟩)⟩), none, (some ⟨[], 3, false, true, (some ⟨(.var 13), [(.int .i64)], [(.avar 17)]⟩)⟩), (some ⟨[], 4, false, true, (some ⟨(.var 14), [.bool], [(.avar 18)]⟩)⟩)], [12]) ⟨2, 0, 2⟩
        (.arng 17 (-9223372036854775808) 9223372036854775807 (.rng 13 0 140737488355328 (.rng 14 0 140737488355328 (.ret ⟨[], [(.lit false)], []⟩ []))))
        (.ex ((.exit 0), [(.agg [(.asl 0 (.var 0)), (.asl 1 (.var 1))]), (.agg [(.asl 2 (.var 2)), (.asl 3 (.var 3))]), (.asl 4 (.var 4)), (.ptr (some ⟨5, 0, none⟩)), (.ptr (some ⟨6, 0, none⟩)), (.tuple []), (.bool (.lit false)), (.int .i64 (.var 10)), (.int .i64 (.var 11)), (.asl 13 (.var 13)), (.asl 14 (.var 14)), (.any 11), (.any 12), (.any 13), (.any 14), (.any 15), (.any 16), (.tuple []), (.tuple []), (.bool (.var 0)), (.bool (.not (.var 0))), (.agg [(.asl 0 (.var 0)), (.asl 1 (.var 1))]), (.bool (.var 1)), (.bool (.not (.var 1))), (.bool (.not (.var 1))), (.ptr (some ⟨6, 0, none⟩)), (.asl 2 (.var 2)), (.int .i64 (.var 2)), (.bool (.icmp .gtr (.var 2) (.lit 12))), (.bool (.icmp .gtr (.var 2) (.lit 12))), (.bool (.icmp .gtr (.var 2) (.lit 12))), (.ptr (some ⟨6, 1, none⟩)), (.asl 3 (.var 3)), (.int .i64 (.var 3)), (.bool (.icmp .gtr (.var 3) (.lit 12))), (.bool (.icmp .gtr (.var 3) (.lit 12))), (.bool (.icmp .gtr (.var 3) (.lit 12))), (.asl 4 (.var 4)), (.int .i64 (.var 4)), (.bool (.icmp .gtr (.var 4) (.lit 40))), (.bool (.icmp .gtr (.var 4) (.lit 40))), (.tuple [(.int .i64 (.var 10)), (.int .i64 (.var 11))]), (.agg [(.asl 0 (.var 0)), (.asl 1 (.var 1))]), (.agg [(.asl 7 (.var 5)), (.asl 8 (.var 6))]), (.agg [(.asl 2 (.var 2)), (.asl 3 (.var 3))]), (.agg [(.asl 9 (.var 7)), (.asl 10 (.var 8))]), (.asl 4 (.var 4)), (.asl 11 (.var 9)), (.tuple [(.int .i64 (.var 10)), (.int .i64 (.var 11))]), (.int .i64 (.var 10)), (.int .i64 (.var 11)), (.int .i64 (.var 11)), (.bool (.icmp .neq (.var 11) (.lit 0))), (.ptr (some ⟨6, 0, none⟩)), (.asl 2 (.var 2)), (.any 55), (.any 56), (.any 57), (.any 58), (.any 59), (.any 60), (.any 61), (.any 62), (.any 63), (.any 64), (.any 65), (.any 66), (.any 67), (.any 68), (.any 69), (.any 70), (.any 71), (.any 72), (.any 73), (.any 74), (.any 75), (.any 76), (.any 77), (.any 78), (.any 79), (.any 80), (.any 81), (.any 82), (.any 83), (.any 84), (.any 85), (.any 86), (.any 87), (.any 88), (.any 89), (.any 90), (.any 91), (.any 92), (.any 93), (.any 94), (.any 95), (.any 96), (.any 97), (.any 98), (.any 99), (.tuple []), (.tuple []), (.tuple []), (.tuple []), (.tuple []), (.tuple []), (.tuple []), (.tuple []), (.tuple []), (.tuple []), (.tuple []), (.tuple []), (.tuple []), (.tuple []), (.tuple []), (.tuple []), (.tuple []), (.tuple []), (.tuple []), (.tuple []), (.tuple []), (.tuple []), (.tuple []), (.tuple []), (.tuple []), (.tuple []), (.tuple []), (.tuple [])], [(some ⟨[], 9, true, false, (some ⟨(.var 0), [.str], [(.avar 0)]⟩)⟩), (some ⟨[], 91, true, false, (some ⟨(.var 1), [(.int .i64), .bool, (.int .i64), .bool], [(.avar 1), (.avar 2), (.avar 3), (.avar 4)]⟩)⟩), (some ⟨[], 4, true, false, (some ⟨(.var 2), [.bool], [(.avar 5)]⟩)⟩), (some ⟨[], 4, true, false, (some ⟨(.var 3), [.bool], [(.avar 6)]⟩)⟩), (some ⟨[], 3, true, false, (some ⟨(.var 4), [(.int .i64)], [(.avar 7)]⟩)⟩), (some ⟨[(.asl 0 (.var 0)), (.asl 1 (.var 1))], 25, false, false, none⟩), (some ⟨[(.asl 2 (.var 2)), (.asl 3 (.var 3))], 45, false, false, none⟩), (some ⟨[], 9, false, true, (some ⟨(.var 5), [.str], [(.avar 8)]⟩)⟩), (some ⟨[], 91, false, true, (some ⟨(.var 6), [(.int .i64), .bool, (.int .i64), .bool], [(.avar 9), (.avar 10), (.avar 11), (.avar 12)]⟩)⟩), (some ⟨[], 4, false, true, (some ⟨(.var 7), [.bool], [(.avar 13)]⟩)⟩), (some ⟨[], 4, false, true, (some ⟨(.var 8), [.bool], [(.avar 14)]⟩)⟩), (some ⟨[], 3, false, true, (some ⟨(.var 9), [(.int .i64)], [(.avar 15)]⟩)⟩), none, (some ⟨[], 3, false, true, (some ⟨(.var 13), [(.int .i64)], [(.avar 17)]⟩)⟩), (some ⟨[], 4, false, true, (some ⟨(.var 14), [.bool], [(.avar 18)]⟩)⟩)], [12]) ⟨2, 0, 2⟩
        (.arng 17 (-9223372036854775808) 9223372036854775807 (.rng 13 0 140737488355328 (.rng 14 0 140737488355328 (.call etalonref08_CopyChamber_s ⟨[(.var 0), (.var 1)], [], [(.avar 0), (.avar 1), (.avar 2), (.avar 3), (.avar 4)]⟩ ⟨[(.var 0), (.var 1), (.var 15), (.var 16)], [], [(.avar 0), (.avar 1), (.avar 2), (.avar 3), (.avar 4), (.avar 19), (.avar 20), (.avar 21), (.avar 22), (.avar 23)]⟩ ⟨11, [(.agg [(.asl 0 (.var 0)), (.asl 1 (.var 1))])], [0, 1], [(some ⟨[], 9, true, false, (some ⟨(.var 0), [.str], [(.avar 0)]⟩)⟩), (some ⟨[], 91, true, false, (some ⟨(.var 1), [(.int .i64), .bool, (.int .i64), .bool], [(.avar 1), (.avar 2), (.avar 3), (.avar 4)]⟩)⟩), none, none, none, none, none, none, none, none, none, none, none, none, none], (.agg [(.asl 15 (.var 15)), (.asl 16 (.var 16))]), [(some ⟨[], 9, false, true, (some ⟨(.var 15), [.str], [(.avar 19)]⟩)⟩), (some ⟨[], 91, false, true, (some ⟨(.var 16), [(.int .i64), .bool, (.int .i64), .bool], [(.avar 20), (.avar 21), (.avar 22), (.avar 23)]⟩)⟩)]⟩
         (.rng 15 0 140737488355328 (.rng 16 0 140737488355328 (.call etalonref08_CopyState_s ⟨[(.var 3)], [], [(.avar 6)]⟩ ⟨[(.var 3), (.var 17)], [], [(.avar 6), (.avar 24)]⟩ ⟨13, [(.asl 3 (.var 3))], [3], [none, none, none, (some ⟨[], 4, true, false, (some ⟨(.var 3), [.bool], [(.avar 6)]⟩)⟩), none, none, none, none, none, none, none, none, none, none, none, none, none], (.asl 17 (.var 17)), [(some ⟨[], 4, false, true, (some ⟨(.var 17), [.bool], [(.avar 24)]⟩)⟩)]⟩
         (.rng 17 0 140737488355328 (.call etalonref08_CopyState_s ⟨[(.var 2)], [], [(.avar 5)]⟩ ⟨[(.var 2), (.var 18)], [], [(.avar 5), (.avar 25)]⟩ ⟨13, [(.asl 2 (.var 2))], [2], [none, none, (some ⟨[], 4, true, false, (some ⟨(.var 2), [.bool], [(.avar 5)]⟩)⟩), none, none, none, none, none, none, none, none, none, none, none, none, none, none, none], (.asl 18 (.var 18)), [(some ⟨[], 4, false, true, (some ⟨(.var 18), [.bool], [(.avar 25)]⟩)⟩)]⟩
         (.rng 18 0 140737488355328 (.call grow_CheckSequence_s ⟨[(.var 15), (.var 16), (.var 17), (.var 18), (.var 13)], [], [(.avar 19), (.avar 20), (.avar 21), (.avar 22), (.avar 23), (.avar 24), (.avar 25), (.avar 17)]⟩ ⟨[(.var 15), (.var 16), (.var 17), (.var 18), (.var 13), (.var 19), (.var 20)], [], [(.avar 19), (.avar 20), (.avar 21), (.avar 22), (.avar 23), (.avar 24), (.avar 25), (.avar 17)]⟩ ⟨21, [(.agg [(.asl 15 (.var 15)), (.asl 16 (.var 16))]), (.agg [(.asl 17 (.var 17)), (.asl 18 (.var 18))]), (.asl 13 (.var 13))], [15, 16, 17, 18, 13], [none, none, none, none, none, none, none, none, none, none, none, none, none, (some ⟨[], 3, false, true, (some ⟨(.var 13), [(.int .i64)], [(.avar 17)]⟩)⟩), none, (some ⟨[], 9, false, true, (some ⟨(.var 15), [.str], [(.avar 19)]⟩)⟩), (some ⟨[], 91, false, true, (some ⟨(.var 16), [(.int .i64), .bool, (.int .i64), .bool], [(.avar 20), (.avar 21), (.avar 22), (.avar 23)]⟩)⟩), (some ⟨[], 4, false, true, (some ⟨(.var 17), [.bool], [(.avar 24)]⟩)⟩), (some ⟨[], 4, false, true, (some ⟨(.var 18), [.bool], [(.avar 25)]⟩)⟩)], (.tuple [(.int .i64 (.var 19)), (.int .i64 (.var 20))]), []⟩
         (.call etalonref08_Same_s ⟨[(.var 14), (.var 3)], [], [(.avar 18), (.avar 6)]⟩ ⟨[(.var 14), (.var 3)], [(.var 2)], [(.avar 18), (.avar 6)]⟩ ⟨20, [(.asl 14 (.var 14)), (.asl 3 (.var 3))], [14, 3], [none, none, none, (some ⟨[], 4, true, false, (some ⟨(.var 3), [.bool], [(.avar 6)]⟩)⟩), none, none, none, none, none, none, none, none, none, none, (some ⟨[], 4, false, true, (some ⟨(.var 14), [.bool], [(.avar 18)]⟩)⟩), none, none, none, none], (.bool (.var 2)), []⟩
         (.ite (.var 2)
         (.ite (.icmp .eql (.var 20) (.lit 0))
          (.ret ⟨[], [(.icmp .eql (.var 19) (.var 4))], []⟩ [])
          (.ret ⟨[], [(.lit false)], []⟩ []))
         (.ret ⟨[], [(.lit false)], []⟩ []))))))))))))))
        .nil)))))
       (.ret ⟨[], [(.lit true)], []⟩ [])))))))))))
      (.ret ⟨[], [(.lit true)], []⟩ []))
     (.ret ⟨[], [(.lit true)], []⟩ []))
    (.ret ⟨[], [(.lit true)], []⟩ []))
   (.ret ⟨[], [(.lit true)], []⟩ [])))
  (.ret ⟨[], [(.lit false)], []⟩ [])))
theorem gbk {x0 x1 x2 x3 x4 : Int} {f0 f1 f2 f3 f4 f5 f6 f7 : Int → Int} (r0 : 0 ≤ x0 ∧ x0 ≤ 9223372036854775807) (r1 : 0 ≤ x1 ∧ x1 ≤ 9223372036854775807) (r2 : 0 ≤ x2 ∧ x2 ≤ 9223372036854775807) (r3 : 0 ≤ x3 ∧ x3 ≤ 9223372036854775807) (r4 : 0 ≤ x4 ∧ x4 ≤ 9223372036854775807) (s1 : ∀ q, (-9223372036854775808) ≤ f1 q ∧ f1 q ≤ 9223372036854775807) (s3 : ∀ q, (-9223372036854775808) ≤ f3 q ∧ f3 q ≤ 9223372036854775807) (s7 : ∀ q, (-9223372036854775808) ≤ f7 q ∧ f7 q ≤ 9223372036854775807) {R : Bool → Prop}
  (H : (∃ u0 : Bool, Spec Try.prog etalonlaw08_awake_s ⟨[], [], []⟩ [] [u0] [] ∧
   ((u0 = true → (∃ u1 : Bool, Spec Try.prog etalonlaw08_small_s ⟨[x0, x1], [], [f0, f1, f2, f3, f4]⟩ [] [u1] [] ∧
    ((u1 = true → ((decide ((x2 : Int) ≤ 12) = true → ((decide ((x3 : Int) ≤ 12) = true → ((decide ((x4 : Int) ≤ 40) = true → (∃ v5 : Int, ∃ v6 : Int, ∃ g8 : Int → Int, ∃ g9 : Int → Int, ∃ g10 : Int → Int, ∃ g11 : Int → Int, ∃ g12 : Int → Int, Spec Try.prog etalonref08_CopyChamber_s ⟨[x0, x1], [], [f0, f1, f2, f3, f4]⟩ [v5, v6] [] [g8, g9, g10, g11, g12] ∧
        ((0 ≤ (v5 : Int) ∧ (v5 : Int) ≤ 140737488355328) ∧ ((0 ≤ (v6 : Int) ∧ (v6 : Int) ≤ 140737488355328) ∧ (∃ v7 : Int, ∃ v8 : Int, ∃ g13 : Int → Int, ∃ g14 : Int → Int, Spec Try.prog etalonref08_CopyChange_s ⟨[x2, x3], [], [f5, f6]⟩ [v7, v8] [] [g13, g14] ∧
        ((0 ≤ (v7 : Int) ∧ (v7 : Int) ≤ 140737488355328) ∧ ((0 ≤ (v8 : Int) ∧ (v8 : Int) ≤ 140737488355328) ∧ (∃ v9 : Int, ∃ g15 : Int → Int, Spec Try.prog etalonbase_CopyInts_s ⟨[x4], [], [f7]⟩ [v9] [] [g15] ∧
        ((0 ≤ (v9 : Int) ∧ (v9 : Int) ≤ 140737488355328) ∧ (∃ v10 : Int, ∃ v11 : Int, Spec Try.prog grow_CheckSequence_s ⟨[v5, v6, v7, v8, v9], [], [g8, g9, g10, g11, g12, g13, g14, g15]⟩ [v10, v11] [] [] ∧
        ((((v11 : Int) == 0) = true → (∃ v12 : Int, ∃ g16 : Int → Int, Spec Try.prog etalonref08_CopyState_s ⟨[x2], [], [f5]⟩ [v12] [] [g16] ∧
         ((0 ≤ (v12 : Int) ∧ (v12 : Int) ≤ 140737488355328) ∧ (∃ (I13 : Int → Int → Int → (Int → Int) → (Int → Int) → Prop) (rk13 : Int → Int → Int → (Int → Int) → (Int → Int) → Nat), I13 (0) (0) (v12) ((fun _ => 0)) (g16) ∧
         (∀ x13 : Int, ∀ x14 : Int, ∀ x15 : Int, ∀ f17 : Int → Int, ∀ f18 : Int → Int, I13 x13 x14 x15 f17 f18 → ((∀ q, (-9223372036854775808) ≤ f17 q ∧ f17 q ≤ 9223372036854775807) ∧ ((0 ≤ (x13 : Int) ∧ (x13 : Int) ≤ 40) ∧ ((0 ≤ (x14 : Int) ∧ (x14 : Int) ≤ 40) ∧ ((0 ≤ (x15 : Int) ∧ (x15 : Int) ≤ 12) ∧ ((decide ((x4 : Int) ≤ x13) = true → ((∀ q, (-9223372036854775808) ≤ f17 q ∧ f17 q ≤ 9223372036854775807) ∧ ((0 ≤ ((x14) : Int) ∧ ((x14) : Int) ≤ 140737488355328) ∧ ((0 ≤ ((x15) : Int) ∧ ((x15) : Int) ≤ 140737488355328) ∧ (∃ v15' : Int, ∃ v16' : Int, ∃ g19' : Int → Int, ∃ g20' : Int → Int, ∃ g21' : Int → Int, ∃ g22' : Int → Int, ∃ g23' : Int → Int, Spec Try.prog etalonref08_CopyChamber_s ⟨[x0, x1], [], [f0, f1, f2, f3, f4]⟩ [v15', v16'] [] [g19', g20', g21', g22', g23'] ∧
          ((0 ≤ (v15' : Int) ∧ (v15' : Int) ≤ 140737488355328) ∧ ((0 ≤ (v16' : Int) ∧ (v16' : Int) ≤ 140737488355328) ∧ (∃ v17' : Int, ∃ g24' : Int → Int, Spec Try.prog etalonref08_CopyState_s ⟨[x3], [], [f6]⟩ [v17'] [] [g24'] ∧
          ((0 ≤ (v17' : Int) ∧ (v17' : Int) ≤ 140737488355328) ∧ (∃ v18' : Int, ∃ g25' : Int → Int, Spec Try.prog etalonref08_CopyState_s ⟨[x2], [], [f5]⟩ [v18'] [] [g25'] ∧
          ((0 ≤ (v18' : Int) ∧ (v18' : Int) ≤ 140737488355328) ∧ (∃ v19' : Int, ∃ v20' : Int, Spec Try.prog grow_CheckSequence_s ⟨[v15', v16', v17', v18', (x14)], [], [g19', g20', g21', g22', g23', g24', g25', f17]⟩ [v19', v20'] [] [] ∧
          (∃ u2' : Bool, Spec Try.prog etalonref08_Same_s ⟨[(x15), x3], [], [f18, f6]⟩ [] [u2'] [] ∧
          ((u2' = true → ((((v20' : Int) == 0) = true → R (((v19' : Int) == x4))) ∧
           (((v20' : Int) == 0) = false → R (false)))) ∧
          (u2' = false → R (false)))))))))))))))) ∧
          (decide ((x4 : Int) ≤ x13) = false → (∃ v16 : Int, ∃ v17 : Int, ∃ g19 : Int → Int, ∃ g20 : Int → Int, ∃ g21 : Int → Int, ∃ g22 : Int → Int, ∃ g23 : Int → Int, Spec Try.prog etalonref08_CopyChamber_s ⟨[x0, x1], [], [f0, f1, f2, f3, f4]⟩ [v16, v17] [] [g19, g20, g21, g22, g23] ∧
           ((0 ≤ (v16 : Int) ∧ (v16 : Int) ≤ 140737488355328) ∧ ((0 ≤ (v17 : Int) ∧ (v17 : Int) ≤ 140737488355328) ∧ (∃ v18 : Int, ∃ v19 : Int, ∃ v20 : Int, ∃ g24 : Int → Int, Spec Try.prog grow_Switched_s ⟨[v16, v17, x15, (f7 x13)], [], [g19, g20, g21, g22, g23, f18]⟩ [v18, v19, v20] [] [g24] ∧
           ((0 ≤ (v18 : Int) ∧ (v18 : Int) ≤ 140737488355328) ∧ (∃ v21 : Int, ∃ v22 : Int, ∃ g25 : Int → Int, ∃ g26 : Int → Int, ∃ g27 : Int → Int, ∃ g28 : Int → Int, ∃ g29 : Int → Int, Spec Try.prog etalonref08_CopyChamber_s ⟨[x0, x1], [], [f0, f1, f2, f3, f4]⟩ [v21, v22] [] [g25, g26, g27, g28, g29] ∧
           ((0 ≤ (v21 : Int) ∧ (v21 : Int) ≤ 140737488355328) ∧ ((0 ≤ (v22 : Int) ∧ (v22 : Int) ≤ 140737488355328) ∧ (∃ v23 : Int, ∃ g30 : Int → Int, Spec Try.prog etalonref08_CopyState_s ⟨[v18], [], [g24]⟩ [v23] [] [g30] ∧
           ((0 ≤ (v23 : Int) ∧ (v23 : Int) ≤ 140737488355328) ∧ (∃ v24 : Int, ∃ v25 : Int, Spec Try.prog grow_FirstBroken_s ⟨[v21, v22, v23], [], [g25, g26, g27, g28, g29, g30]⟩ [v24, v25] [] [] ∧
           ((((v20 : Int) == 0) = true → ((((v25 : Int) == 17) = true → ((decide ((0 : Int) ≤ ((x4 - 1) - x13)) = true → ((decide ((x4 : Int) ≤ ((x4 - 1) - x13)) = true → False) ∧
              (decide ((x4 : Int) ≤ ((x4 - 1) - x13)) = false → (I13 ((x13 + 1)) ((x14 + 1)) (v18) ((fun q => if q = x14 then (f7 ((x4 - 1) - x13)) else f17 q)) (g24) ∧ rk13 ((x13 + 1)) ((x14 + 1)) (v18) ((fun q => if q = x14 then (f7 ((x4 - 1) - x13)) else f17 q)) (g24) < rk13 x13 x14 x15 f17 f18)))) ∧
             (decide ((0 : Int) ≤ ((x4 - 1) - x13)) = false → False))) ∧
            (((v25 : Int) == 17) = false → ((∀ q, (-9223372036854775808) ≤ f17 q ∧ f17 q ≤ 9223372036854775807) ∧ ((0 ≤ ((x14) : Int) ∧ ((x14) : Int) ≤ 140737488355328) ∧ ((0 ≤ ((x15) : Int) ∧ ((x15) : Int) ≤ 140737488355328) ∧ R (false))))))) ∧
           (((v20 : Int) == 0) = false → ((∀ q, (-9223372036854775808) ≤ f17 q ∧ f17 q ≤ 9223372036854775807) ∧ ((0 ≤ ((x14) : Int) ∧ ((x14) : Int) ≤ 140737488355328) ∧ ((0 ≤ ((x15) : Int) ∧ ((x15) : Int) ≤ 140737488355328) ∧ R (false)))))))))))))))))))))))))))) ∧
        (((v11 : Int) == 0) = false → R (true))))))))))))) ∧
       (decide ((x4 : Int) ≤ 40) = false → R (true)))) ∧
      (decide ((x3 : Int) ≤ 12) = false → R (true)))) ∧
     (decide ((x2 : Int) ≤ 12) = false → R (true)))) ∧
    (u1 = false → R (true))))) ∧
   (u0 = false → R (false))))) :
    ∃ u0 : Bool, R u0 ∧ Spec Try.prog etalonlaw08_GrowBack_s ⟨[x0, x1, x2, x3, x4], [], [f0, f1, f2, f3, f4, f5, f6, f7]⟩ [] [u0] [] :=
  Eq.mp (by kernel_rfl) (exV_of (K := fun d => app3 etalonlaw08_GrowBack_s.out R d ∧ Spec Try.prog etalonlaw08_GrowBack_s ⟨[x0, x1, x2, x3, x4], [], [f0, f1, f2, f3, f4, f5, f6, f7]⟩ d.1 d.2.1 d.2.2) (tree_at mixed names S1_ok (S := S1 Try.prog) (lf := 100000) (d := 60) etalonlaw08_GrowBack_s gbk_t { ivs := [(0, 0, 9223372036854775807), (1, 0, 9223372036854775807), (2, 0, 9223372036854775807), (3, 0, 9223372036854775807), (4, 0, 9223372036854775807)], aivs := [(1, (-9223372036854775808), 9223372036854775807), (3, (-9223372036854775808), 9223372036854775807), (7, (-9223372036854775808), 9223372036854775807)] } ⟨[x0, x1, x2, x3, x4], [], [f0, f1, f2, f3, f4, f5, f6, f7]⟩ rfl (by kernel_rfl) (by kernel_rfl) (by kernel_rfl) ⟨(fc r0 (fc r1 (fc r2 (fc r3 (fc r4 fz))))), fz, (fc s1 (fc s3 (fc s7 fz))), fz⟩ (R := fun d => app3 etalonlaw08_GrowBack_s.out R d) (Eq.mp (by kernel_rfl) H)))

theorem small2_s {x0 x1 : Int} {f0 f1 f2 f3 f4 : Int → Int} (r0 : 0 ≤ x0 ∧ x0 ≤ 9223372036854775807) (r1 : 0 ≤ x1 ∧ x1 ≤ 9223372036854775807) (s1 : ∀ q, I64 (f1 q)) (s3 : ∀ q, I64 (f3 q)) : ∃ u : Bool, (u = true → x0 ≤ 10 ∧ x1 ≤ 32) ∧ Spec Try.prog etalonlaw08_small_s ⟨[x0, x1], [], [f0, f1, f2, f3, f4]⟩ [] [u] [] := by

  refine sml r0 r1 s1 s3 (R := fun u => u = true → x0 ≤ 10 ∧ x1 ≤ 32) ?_

  simp only [decide_eq_true_eq, decide_eq_false_iff_not]

  refine ⟨fun h g => ⟨by omega, g⟩, fun h => ⟨fun g k => ?_, fun g => ⟨fun i k => ⟨i, k⟩, fun i k => ?_⟩⟩⟩

  · cases k

  · cases k

theorem copyChange_s {x0 x1 : Int} {f0 f1 : Int → Int} (r0 : 0 ≤ x0 ∧ x0 ≤ 12) (r1 : 0 ≤ x1 ∧ x1 ≤ 12) : Spec Try.prog etalonref08_CopyChange_s ⟨[x0, x1], [], [f0, f1]⟩ [x0, x1] [] [f0, f1] := by

  obtain ⟨a, b, g0, g1, ⟨rfl, rfl, rfl, rfl⟩, hs⟩ := cch (f0 := f0) (f1 := f1) r0 r1 (R := fun a b g0 g1 => a = x0 ∧ b = x1 ∧ g0 = f0 ∧ g1 = f1) ⟨rfl, rfl, rfl, rfl⟩

  exact hs

theorem copyInts_s {x0 : Int} {f0 : Int → Int} (r0 : 0 ≤ x0 ∧ x0 ≤ 1002) (s0 : ∀ q, I64 (f0 q)) : Spec Try.prog etalonbase_CopyInts_s ⟨[x0], [], [f0]⟩ [x0] [] [f0] := by

  obtain ⟨a, g0, ⟨rfl, rfl⟩, hs⟩ := cin (f0 := f0) r0 s0 (R := fun a g0 => a = x0 ∧ g0 = f0) ⟨rfl, rfl⟩

  exact hs

theorem same_st {n : Int} {f g : Int → Int} (r0 : 0 ≤ n ∧ n ≤ 12) (s : sameSt n f g) : Spec Try.prog etalonref08_Same_s ⟨[n, n], [], [f, g]⟩ [] [true] [] := by

  suffices hh : ∃ b : Bool, b = true ∧ Spec Try.prog etalonref08_Same_s ⟨[n, n], [], [f, g]⟩ [] [b] [] by

    obtain ⟨a, rfl, hs⟩ := hh

    exact hs

  refine rsm r0 r0 ⟨fun _ => ⟨fun i => 0 ≤ i ∧ i ≤ n, fun i => (n - i).toNat, ⟨by omega, by omega⟩, ?_⟩, fun h => by simp at h⟩

  rintro i hi

  simp only [decide_eq_true_eq, decide_eq_false_iff_not, beq_iff_eq, beq_eq_false_iff_ne, ne_eq]

  have go : ¬ n ≤ i → ((0 ≤ i + 1 ∧ i + 1 ≤ n) ∧ (n - (i + 1)).toNat < (n - i).toNat) := fun h => ⟨⟨by omega, by omega⟩, by omega⟩

  refine ⟨by omega, fun _ => by trivial, fun h => ⟨fun g => absurd g h, fun _ => ⟨fun a => ⟨fun b => go h, fun b => ?_⟩, fun a => ⟨fun b => ?_, fun b => go h⟩⟩⟩⟩

  · exact absurd a ((s i hi.1 (by omega)).2 b)

  · exact absurd b ((s i hi.1 (by omega)).1 a)

theorem flip_tr (f : Int → Int) (d q : Int) : (flip f d q ≠ 0) ↔ (if q = d then f d = 0 else f q ≠ 0) := by

  unfold flip

  by_cases h : f d = 0

  · rw [if_pos h]

    by_cases e : q = d

    · rw [if_pos e, if_pos e]; exact ⟨fun _ => h, fun _ => by decide⟩

    · rw [if_neg e, if_neg e]

  · rw [if_neg h]

    by_cases e : q = d

    · rw [if_pos e, if_pos e]; exact ⟨fun n => absurd rfl n, fun n => absurd n h⟩

    · rw [if_neg e, if_neg e]

theorem sameSt.symm {n : Int} {f g : Int → Int} (h : sameSt n f g) : sameSt n g f := fun d a b => (h d a b).symm

theorem sameSt.trans {n : Int} {f g k : Int → Int} (h : sameSt n f g) (h' : sameSt n g k) : sameSt n f k := fun d a b => (h d a b).trans (h' d a b)

theorem flip_same {n d : Int} {f g : Int → Int} (h : sameSt n f g) : sameSt n (flip f d) (flip g d) := by

  intro q q0 q1

  rw [flip_tr, flip_tr]

  by_cases e : q = d

  · subst e

    rw [if_pos rfl, if_pos rfl]

    have := h q q0 q1

    omega

  · rw [if_neg e, if_neg e]; exact h q q0 q1

theorem flip_flip {n d : Int} {f : Int → Int} : sameSt n (flip (flip f d) d) f := by

  intro q q0 q1

  rw [flip_tr]

  by_cases e : q = d

  · subst e

    rw [if_pos rfl]

    have := flip_tr f q q

    rw [if_pos rfl] at this

    omega

  · rw [if_neg e, flip_tr, if_neg e]

theorem seqIs_zero {x0 x1 x4 n : Int} {f1 f2 f3 f4 f5 f6 f7 : Int → Int} (h : seqIs x0 x1 x4 f1 f2 f3 f4 f5 f6 f7 n 0) : n = x4 ∧ okTo x0 x1 f1 f2 f3 f4 f5 f7 x4 ∧ sameSt x0 (stS f5 f7 x4.toNat) f6 := by

  generalize hz : (0 : Int) = z at h

  cases h with

  | far _ => omega

  | miss _ _ _ _ _ => omega

  | hurt _ _ _ _ _ _ => omega

  | left _ _ _ => omega

  | done _ a b => exact ⟨rfl, a, b⟩

theorem seqIs_done {x0 x1 x4 n e : Int} {f1 f2 f3 f4 f5 f6 f7 : Int → Int} (h : seqIs x0 x1 x4 f1 f2 f3 f4 f5 f6 f7 n e) (l : x4 ≤ 1000) (o : okTo x0 x1 f1 f2 f3 f4 f5 f7 x4) (s : sameSt x0 (stS f5 f7 x4.toNat) f6) : n = x4 ∧ e = 0 := by

  cases h with

  | far _ => omega

  | miss _ a b _ c => exact absurd (o _ a b).1 c

  | hurt _ a b _ _ c => exact absurd (o _ a b).2 c

  | left _ _ a => exact absurd s a

  | done _ a b => exact ⟨rfl, rfl⟩

/-- A sequence that is right leads back from its last switch to its first one. -/

theorem back_st {x0 x4 : Int} {f5 f6 f7 g : Int → Int} (s : sameSt x0 (stS f5 f7 x4.toNat) f6) (hg : ∀ q, 0 ≤ q → q < x4 → g q = f7 (x4 - 1 - q)) : ∀ (n : Nat), (n : Int) ≤ x4 → sameSt x0 (stS f6 g n) (stS f5 f7 (x4 - n).toNat)

  | 0, _ => by

    have e : (x4 - ((0 : Nat) : Int)).toNat = x4.toNat := by omega

    rw [e]; exact s.symm

  | n + 1, h => by

    have ih := back_st s hg n (by omega)

    have e : (x4 - ((n : Nat) : Int)).toNat = ((x4 - ((n + 1 : Nat) : Int)) + 1).toNat := by omega

    rw [e, stS_next (by omega)] at ih

    have e2 : g ((n : Nat) : Int) = f7 (x4 - ((n + 1 : Nat) : Int)) := by rw [hg _ (by omega) (by omega)]; congr 1; omega

    show sameSt x0 (flip (stS f6 g n) (g ((n : Nat) : Int))) _

    rw [e2]

    exact (flip_same ih).trans flip_flip

theorem back_ok {x0 x1 x4 : Int} {f1 f2 f3 f4 f5 f6 f7 g : Int → Int} (rl : rulesOk x0 x1 f1 f3) (sf : safe x1 f1 f2 f3 f4 f5) (o : okTo x0 x1 f1 f2 f3 f4 f5 f7 x4) (s : sameSt x0 (stS f5 f7 x4.toNat) f6) (hg : ∀ q, 0 ≤ q → q < x4 → g q = f7 (x4 - 1 - q)) : okTo x0 x1 f1 f2 f3 f4 f6 g x4 := by

  intro j j0 j1

  rw [hg j j0 j1]

  refine ⟨(o (x4 - 1 - j) (by omega) (by omega)).1, ?_⟩

  have b := back_st s hg (j + 1).toNat (by omega)

  have e : (((j + 1).toNat : Nat) : Int) = j + 1 := by omega

  rw [e] at b

  refine safe_congr rl b.symm ?_

  by_cases z : x4 - (j + 1) = 0

  · rw [z]; exact sf

  · have := (o (x4 - (j + 1) - 1) (by omega) (by omega)).2

    rw [show x4 - (j + 1) - 1 + 1 = x4 - (j + 1) by omega] at this

    exact this

theorem fbIs_none {x1 k e : Int} {f1 f2 f3 f4 f : Int → Int} (h : fbIs x1 f1 f2 f3 f4 f k e) (s : safe x1 f1 f2 f3 f4 f) : k = 0 ∧ e = 17 := by

  rcases h with ⟨_, a, _, b⟩ | ⟨a, b, _⟩

  · exact absurd b (s k a.1 a.2)

  · exact ⟨b, a⟩

theorem backs {x0 x1 x2 x3 x4 : Int} {f0 f1 f2 f3 f4 f5 f6 f7 : Int → Int} (r0 : 0 ≤ x0 ∧ x0 ≤ 9223372036854775807) (r1 : 0 ≤ x1 ∧ x1 ≤ 9223372036854775807) (r2 : 0 ≤ x2 ∧ x2 ≤ 9223372036854775807) (r3 : 0 ≤ x3 ∧ x3 ≤ 9223372036854775807) (r4 : 0 ≤ x4 ∧ x4 ≤ 9223372036854775807) (s1 : ∀ q, (-9223372036854775808) ≤ f1 q ∧ f1 q ≤ 9223372036854775807) (s3 : ∀ q, (-9223372036854775808) ≤ f3 q ∧ f3 q ≤ 9223372036854775807) (s7 : ∀ q, (-9223372036854775808) ≤ f7 q ∧ f7 q ≤ 9223372036854775807) :

    Spec Try.prog etalonlaw08_GrowBack_s ⟨[x0, x1, x2, x3, x4], [], [f0, f1, f2, f3, f4, f5, f6, f7]⟩ [] [true] [] := by

  obtain ⟨a0, rfl, ha⟩ := awake

  obtain ⟨u, hsm, us⟩ := small2_s (f0 := f0) (f2 := f2) (f4 := f4) r0 r1 s1 s3

  suffices hh : ∃ b : Bool, b = true ∧ Spec Try.prog etalonlaw08_GrowBack_s ⟨[x0, x1, x2, x3, x4], [], [f0, f1, f2, f3, f4, f5, f6, f7]⟩ [] [b] [] by

    obtain ⟨b, rfl, hs⟩ := hh

    exact hs

  refine gbk r0 r1 r2 r3 r4 s1 s3 s7 (R := (· = true)) ⟨true, ha, fun _ => ⟨u, us, fun hu => ⟨fun h2 => ⟨fun h3 => ⟨fun h4 => ?_, fun _ => rfl⟩, fun _ => rfl⟩, fun _ => rfl⟩, fun _ => rfl⟩, fun h => by cases h⟩

  obtain ⟨hx0, hx1⟩ := hsm hu

  have h2 := of_decide_eq_true h2

  have h3 := of_decide_eq_true h3

  have h4 := of_decide_eq_true h4

  have q0 : 0 ≤ x0 ∧ x0 ≤ 10 := ⟨r0.1, hx0⟩

  have q1 : 0 ≤ x1 ∧ x1 ≤ 32 := ⟨r1.1, hx1⟩

  have q2 : 0 ≤ x2 ∧ x2 ≤ 12 := ⟨r2.1, h2⟩

  have q3 : 0 ≤ x3 ∧ x3 ≤ 12 := ⟨r3.1, h3⟩

  have q4 : 0 ≤ x4 ∧ x4 ≤ 1002 := ⟨r4.1, by omega⟩

  have cc := copyChamber_s (f0 := f0) (f2 := f2) (f4 := f4) q0 q1 s1 s3

  have l0 : 0 ≤ x0 ∧ x0 ≤ 140737488355328 := ⟨r0.1, by omega⟩

  have l1 : 0 ≤ x1 ∧ x1 ≤ 140737488355328 := ⟨r1.1, by omega⟩

  have l2 : 0 ≤ x2 ∧ x2 ≤ 140737488355328 := ⟨r2.1, by omega⟩

  have l3 : 0 ≤ x3 ∧ x3 ≤ 140737488355328 := ⟨r3.1, by omega⟩

  have l4 : 0 ≤ x4 ∧ x4 ≤ 140737488355328 := ⟨r4.1, by omega⟩

  obtain ⟨n, e, hs, hss⟩ := seq_p (f0 := f0) (f2 := f2) (f4 := f4) (f5 := f5) (f6 := f6) q0 q1 q2 q3 q4 s1 s3 s7

  refine ⟨_, _, _, _, _, _, _, cc, l0, l1, _, _, _, _, copyChange_s q2 q3, l2, l3, _, _, copyInts_s q4 s7, l4, n, e, hss, fun he => ?_, fun _ => rfl⟩

  have he : e = 0 := eq_of_beq he

  subst he

  rcases hs with ⟨_, n0, _⟩ | ⟨hc, hs⟩

  · exact absurd rfl n0

  obtain ⟨⟨dv, rl⟩, ⟨e2, e3⟩, sf, st⟩ := chgIs_zero hc

  obtain rfl : x0 = x2 := e2.symm

  obtain rfl : x0 = x3 := e3.symm

  obtain ⟨_, ot, sm⟩ := seqIs_zero hs

  refine ⟨_, _, copyState_s q2, l2, fun i b m g s => (0 ≤ i ∧ i ≤ x4) ∧ b = i ∧ m = x0 ∧ (∀ q, I64 (g q)) ∧ (∀ q, 0 ≤ q → q < i → g q = f7 (x4 - 1 - q)) ∧ s = stS f5 f7 i.toNat, fun i _ _ _ _ => (x4 - i).toNat, ⟨⟨by omega, by omega⟩, rfl, rfl, fun _ => (show I64 0 from ⟨by decide, by decide⟩), fun q a b => by omega, rfl⟩, ?_⟩

  rintro i b m g s ⟨hi, hb, hm, hg, hq, hst⟩

  subst hb hm hst

  refine ⟨hg, ⟨by omega, by omega⟩, ⟨by omega, by omega⟩, q2, fun h1 => ⟨hg, ⟨by omega, by omega⟩, l0, ?_⟩, fun h1 => ?_⟩

  · have h1 := of_decide_eq_true h1

    have ei : b = x4 := by omega

    subst ei

    obtain ⟨n', e', hs', hss'⟩ := seq_p (f0 := f0) (f2 := f2) (f4 := f4) (f5 := f6) (f6 := f5) (f7 := g) q0 q1 q2 q2 q4 s1 s3 hg

    have hc' : chgIs m x1 m m f0 f1 f2 f3 f4 f6 f5 0 := .ok dv rl rfl rfl st sf

    have fin : n' = b ∧ e' = 0 := by

      rcases hs' with ⟨a, nn, _⟩ | ⟨_, hs'⟩

      · exact absurd (chgIs_uniq a hc') nn

      · have bs := back_st sm hq b.toNat (by omega)

        have eb : ((b.toNat : Nat) : Int) = b := by omega

        rw [eb, show b - b = 0 by omega] at bs

        exact seqIs_done hs' (by omega) (back_ok rl sf ot sm hq) bs

    obtain ⟨rfl, rfl⟩ := fin

    exact ⟨_, _, _, _, _, _, _, cc, l0, l1, _, _, copyState_s q2, l0, _, _, copyState_s q2, l0, _, _, hss', _, same_st q2 sm, fun _ => ⟨fun _ => beq_self_eq_true _, fun h => by simp at h⟩, fun h => by cases h⟩

  · have h1 := of_decide_eq_false h1

    have o := ot b hi.1 (by omega)

    have sn := o.2

    rw [stS_next hi.1] at sn

    obtain ⟨ks, es, hf, hsw⟩ := switched_p (f0 := f0) (f2 := f2) (f4 := f4) (f5 := stS f5 f7 b.toNat) (x3 := f7 b) q0.1 q1.1 s1 s3 dv rl o.1

    obtain ⟨_, e17⟩ := fbIs_none hf sn

    rcases hsw with ⟨h5, _⟩ | ⟨_, SW⟩

    · omega

    obtain ⟨kf, ef, hf', FB⟩ := firstBroken_p (f0 := f0) (f2 := f2) (f4 := f4) (f5 := flip (stS f5 f7 b.toNat) (f7 b)) q0.1 q1.1 s1 s3 dv rl

    obtain ⟨rfl, rfl⟩ := fbIs_none hf' sn

    refine ⟨_, _, _, _, _, _, _, cc, l0, l1, _, _, _, _, SW, l0, _, _, _, _, _, _, _, cc, l0, l1, _, _, copyState_s q2, l0, _, _, FB, fun _ => ⟨fun _ => ⟨fun _ => ⟨fun h => ?_, fun _ => ⟨⟨⟨by omega, by omega⟩, rfl, rfl, fun q => ?_, fun q a c => ?_, (stS_next hi.1).symm⟩, ?_⟩⟩, fun h => ?_⟩, fun h => by simp at h⟩, fun h => by simp at h⟩

    · have := of_decide_eq_true h; omega

    · dsimp only

      split

      · exact s7 _

      · exact hg q

    · dsimp only

      by_cases e : q = b

      · subst e; rw [if_pos rfl]

      · rw [if_neg e]; exact hq q a (by omega)

    · show (x4 - (b + 1)).toNat < (x4 - b).toNat; omega

    · have := of_decide_eq_false h; omega

end Go.Proofs.Ytheopgjjkgklpaa.Ev
