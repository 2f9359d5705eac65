/- BallMultiplies and BallDivides. -/
import Derived.Test.YtgdhpgjfebinhaaFbl
namespace Go.Proofs.Ytgdhpgjfebinhaa.Ev
set_option linter.unusedSimpArgs false
open Go Go.RowKit
set_option linter.unusedVariables false
set_option maxRecDepth 100000
def etalonlaw01_BallMultiplies_s : Sig := ⟨5, ⟨6, 0, 0⟩, ⟨0, 1, 0⟩, [(.agg [(.int .i64 (.var 0)), (.int .i64 (.var 1)), (.int .i64 (.var 2))]), (.agg [(.int .i64 (.var 3)), (.int .i64 (.var 4)), (.int .i64 (.var 5))])], [], (.bool (.var 0)), []⟩
def etalonlaw01_BallDivides_s : Sig := ⟨6, ⟨6, 0, 0⟩, ⟨0, 1, 0⟩, [(.agg [(.int .i64 (.var 0)), (.int .i64 (.var 1)), (.int .i64 (.var 2))]), (.agg [(.int .i64 (.var 3)), (.int .i64 (.var 4)), (.int .i64 (.var 5))])], [], (.bool (.var 0)), []⟩

def bm_t : Tr :=
  (.call etalonlaw01_awake_s ⟨[], [], []⟩ ⟨[], [(.var 0)], []⟩ ⟨16, [], [], [none, none], (.bool (.var 0)), []⟩
  (.ite (.var 0)
  (.call _etalonlaw01_Whole__ball_s ⟨[(.var 0), (.var 1), (.var 2)], [], []⟩ ⟨[(.var 0), (.var 1), (.var 2), (.var 6), (.var 7), (.var 8)], [], []⟩ ⟨22, [(.agg [(.int .i64 (.var 0)), (.int .i64 (.var 1)), (.int .i64 (.var 2))])], [], [none, none], (.agg [(.complex .f64 (.var 6) (.var 7)), (.int .i64 (.var 8))]), []⟩
   (.call _etalonlaw01_Whole__ball_s ⟨[(.var 3), (.var 4), (.var 5)], [], []⟩ ⟨[(.var 3), (.var 4), (.var 5), (.var 9), (.var 10), (.var 11)], [], []⟩ ⟨22, [(.agg [(.int .i64 (.var 3)), (.int .i64 (.var 4)), (.int .i64 (.var 5))])], [], [none, none], (.agg [(.complex .f64 (.var 9) (.var 10)), (.int .i64 (.var 11))]), []⟩
   (.call ball_Times_s ⟨[(.var 6), (.var 7), (.var 8), (.var 9), (.var 10), (.var 11)], [], []⟩ ⟨[(.var 6), (.var 7), (.var 8), (.var 9), (.var 10), (.var 11), (.var 12), (.var 13), (.var 14), (.var 15)], [], []⟩ ⟨36, [(.agg [(.complex .f64 (.var 6) (.var 7)), (.int .i64 (.var 8))]), (.agg [(.complex .f64 (.var 9) (.var 10)), (.int .i64 (.var 11))])], [], [none, none], (.tuple [(.agg [(.complex .f64 (.var 12) (.var 13)), (.int .i64 (.var 14))]), (.int .i64 (.var 15))]), []⟩
   (.call _etalonlaw01_Whole__two_s ⟨[(.var 0), (.var 1), (.var 2), (.var 3), (.var 4), (.var 5)], [], []⟩ ⟨[(.var 0), (.var 1), (.var 2), (.var 3), (.var 4), (.var 5), (.var 16)], [], []⟩ ⟨37, [(.agg [(.int .i64 (.var 0)), (.int .i64 (.var 1)), (.int .i64 (.var 2))]), (.agg [(.int .i64 (.var 3)), (.int .i64 (.var 4)), (.int .i64 (.var 5))])], [], [none, none, none], (.int .i64 (.var 16)), []⟩
   (.ite (.icmp .eql (.var 16) (.lit 0))
   (.call _etalonlaw01_Whole__ball_s ⟨[(.var 0), (.var 1), (.var 2)], [], []⟩ ⟨[(.var 0), (.var 1), (.var 2), (.var 17), (.var 18), (.var 19)], [], []⟩ ⟨22, [(.agg [(.int .i64 (.var 0)), (.int .i64 (.var 1)), (.int .i64 (.var 2))])], [], [none, none, none, none], (.agg [(.complex .f64 (.var 17) (.var 18)), (.int .i64 (.var 19))]), []⟩
    (.call etalonref01_Of_s ⟨[(.var 17), (.var 18), (.var 19)], [], []⟩ ⟨[(.var 17), (.var 18), (.var 19), (.var 20), (.var 21), (.var 22)], [], []⟩ ⟨29, [(.agg [(.complex .f64 (.var 17) (.var 18)), (.int .i64 (.var 19))])], [], [none, none, none, none], (.agg [(.int .i64 (.var 20)), (.int .i64 (.var 21)), (.int .i64 (.var 22))]), []⟩
    (.call _etalonlaw01_Whole__ball_s ⟨[(.var 3), (.var 4), (.var 5)], [], []⟩ ⟨[(.var 3), (.var 4), (.var 5), (.var 23), (.var 24), (.var 25)], [], []⟩ ⟨22, [(.agg [(.int .i64 (.var 3)), (.int .i64 (.var 4)), (.int .i64 (.var 5))])], [], [none, none, none, none], (.agg [(.complex .f64 (.var 23) (.var 24)), (.int .i64 (.var 25))]), []⟩
    (.call etalonref01_Of_s ⟨[(.var 23), (.var 24), (.var 25)], [], []⟩ ⟨[(.var 23), (.var 24), (.var 25), (.var 26), (.var 27), (.var 28)], [], []⟩ ⟨29, [(.agg [(.complex .f64 (.var 23) (.var 24)), (.int .i64 (.var 25))])], [], [none, none, none, none], (.agg [(.int .i64 (.var 26)), (.int .i64 (.var 27)), (.int .i64 (.var 28))]), []⟩
    (.call etalonref01_Times_s ⟨[(.var 20), (.var 21), (.var 22), (.var 26), (.var 27), (.var 28)], [], []⟩ ⟨[(.var 20), (.var 21), (.var 22), (.var 26), (.var 27), (.var 28), (.var 29), (.var 30), (.var 31), (.var 32)], [], []⟩ ⟨38, [(.agg [(.int .i64 (.var 20)), (.int .i64 (.var 21)), (.int .i64 (.var 22))]), (.agg [(.int .i64 (.var 26)), (.int .i64 (.var 27)), (.int .i64 (.var 28))])], [], [none, none, none, none], (.tuple [(.agg [(.int .i64 (.var 29)), (.int .i64 (.var 30)), (.int .i64 (.var 31))]), (.int .i64 (.var 32))]), []⟩
    (.call etalonlaw01_is_s ⟨[(.var 12), (.var 13), (.var 14), (.var 15), (.var 29), (.var 30), (.var 31), (.var 32)], [], []⟩ ⟨[(.var 12), (.var 13), (.var 14), (.var 15), (.var 29), (.var 30), (.var 31), (.var 32)], [(.var 1)], []⟩ ⟨21, [(.agg [(.complex .f64 (.var 12) (.var 13)), (.int .i64 (.var 14))]), (.int .i64 (.var 15)), (.agg [(.int .i64 (.var 29)), (.int .i64 (.var 30)), (.int .i64 (.var 31))]), (.int .i64 (.var 32))], [], [none, none, none, none], (.bool (.var 1)), []⟩
    (.ite (.var 1)
    (.call ball_Times_s ⟨[(.var 23), (.var 24), (.var 25), (.var 17), (.var 18), (.var 19)], [], []⟩ ⟨[(.var 23), (.var 24), (.var 25), (.var 17), (.var 18), (.var 19), (.var 33), (.var 34), (.var 35), (.var 36)], [], []⟩ ⟨36, [(.agg [(.complex .f64 (.var 23) (.var 24)), (.int .i64 (.var 25))]), (.agg [(.complex .f64 (.var 17) (.var 18)), (.int .i64 (.var 19))])], [], [none, none, none, none], (.tuple [(.agg [(.complex .f64 (.var 33) (.var 34)), (.int .i64 (.var 35))]), (.int .i64 (.var 36))]), []⟩
     (.call _etalonlaw01_Whole__two_s ⟨[(.var 0), (.var 1), (.var 2), (.var 3), (.var 4), (.var 5)], [], []⟩ ⟨[(.var 0), (.var 1), (.var 2), (.var 3), (.var 4), (.var 5), (.var 37)], [], []⟩ ⟨37, [(.agg [(.int .i64 (.var 0)), (.int .i64 (.var 1)), (.int .i64 (.var 2))]), (.agg [(.int .i64 (.var 3)), (.int .i64 (.var 4)), (.int .i64 (.var 5))])], [], [none, none, none, none, none], (.int .i64 (.var 37)), []⟩
     (.ite (.icmp .eql (.var 37) (.lit 0))
     (.ite (.icmp .eql (.var 36) (.var 15))
      (.call etalonbase_SameBall_s ⟨[(.var 12), (.var 13), (.var 14), (.var 33), (.var 34), (.var 35)], [], []⟩ ⟨[(.var 12), (.var 13), (.var 14), (.var 33), (.var 34), (.var 35)], [(.var 2)], []⟩ ⟨39, [(.agg [(.complex .f64 (.var 12) (.var 13)), (.int .i64 (.var 14))]), (.agg [(.complex .f64 (.var 33) (.var 34)), (.int .i64 (.var 35))])], [], [none, none, none, none, none], (.bool (.var 2)), []⟩
       (.ret ⟨[], [(.var 2)], []⟩ []))
      (.ret ⟨[], [(.lit false)], []⟩ []))
     (.ret ⟨[], [(.lit true)], []⟩ []))))
    (.ret ⟨[], [(.lit false)], []⟩ []))))))))
   (.call etalonlaw01_is_s ⟨[(.var 12), (.var 13), (.var 14), (.var 15), (.lit 0), (.lit 0), (.lit 0), (.var 16)], [], []⟩ ⟨[(.var 12), (.var 13), (.var 14), (.var 15), (.lit 0), (.lit 0), (.lit 0), (.var 16)], [(.var 1)], []⟩ ⟨21, [(.agg [(.complex .f64 (.var 12) (.var 13)), (.int .i64 (.var 14))]), (.int .i64 (.var 15)), (.agg [(.int .i64 (.lit 0)), (.int .i64 (.lit 0)), (.int .i64 (.lit 0))]), (.int .i64 (.var 16))], [], [none, none, none, none], (.bool (.var 1)), []⟩
    (.ite (.var 1)
    (.call _etalonlaw01_Whole__ball_s ⟨[(.var 3), (.var 4), (.var 5)], [], []⟩ ⟨[(.var 3), (.var 4), (.var 5), (.var 17), (.var 18), (.var 19)], [], []⟩ ⟨22, [(.agg [(.int .i64 (.var 3)), (.int .i64 (.var 4)), (.int .i64 (.var 5))])], [], [none, none, none, none], (.agg [(.complex .f64 (.var 17) (.var 18)), (.int .i64 (.var 19))]), []⟩
     (.call _etalonlaw01_Whole__ball_s ⟨[(.var 0), (.var 1), (.var 2)], [], []⟩ ⟨[(.var 0), (.var 1), (.var 2), (.var 20), (.var 21), (.var 22)], [], []⟩ ⟨22, [(.agg [(.int .i64 (.var 0)), (.int .i64 (.var 1)), (.int .i64 (.var 2))])], [], [none, none, none, none], (.agg [(.complex .f64 (.var 20) (.var 21)), (.int .i64 (.var 22))]), []⟩
     (.call ball_Times_s ⟨[(.var 17), (.var 18), (.var 19), (.var 20), (.var 21), (.var 22)], [], []⟩ ⟨[(.var 17), (.var 18), (.var 19), (.var 20), (.var 21), (.var 22), (.var 23), (.var 24), (.var 25), (.var 26)], [], []⟩ ⟨36, [(.agg [(.complex .f64 (.var 17) (.var 18)), (.int .i64 (.var 19))]), (.agg [(.complex .f64 (.var 20) (.var 21)), (.int .i64 (.var 22))])], [], [none, none, none, none], (.tuple [(.agg [(.complex .f64 (.var 23) (.var 24)), (.int .i64 (.var 25))]), (.int .i64 (.var 26))]), []⟩
     (.call _etalonlaw01_Whole__two_s ⟨[(.var 0), (.var 1), (.var 2), (.var 3), (.var 4), (.var 5)], [], []⟩ ⟨[(.var 0), (.var 1), (.var 2), (.var 3), (.var 4), (.var 5), (.var 27)], [], []⟩ ⟨37, [(.agg [(.int .i64 (.var 0)), (.int .i64 (.var 1)), (.int .i64 (.var 2))]), (.agg [(.int .i64 (.var 3)), (.int .i64 (.var 4)), (.int .i64 (.var 5))])], [], [none, none, none, none, none], (.int .i64 (.var 27)), []⟩
     (.ite (.icmp .eql (.var 27) (.lit 0))
     (.ite (.icmp .eql (.var 26) (.var 15))
      (.call etalonbase_SameBall_s ⟨[(.var 12), (.var 13), (.var 14), (.var 23), (.var 24), (.var 25)], [], []⟩ ⟨[(.var 12), (.var 13), (.var 14), (.var 23), (.var 24), (.var 25)], [(.var 2)], []⟩ ⟨39, [(.agg [(.complex .f64 (.var 12) (.var 13)), (.int .i64 (.var 14))]), (.agg [(.complex .f64 (.var 23) (.var 24)), (.int .i64 (.var 25))])], [], [none, none, none, none, none], (.bool (.var 2)), []⟩
       (.ret ⟨[], [(.var 2)], []⟩ []))
      (.ret ⟨[], [(.lit false)], []⟩ []))
     (.ret ⟨[], [(.lit true)], []⟩ []))))))
    (.ret ⟨[], [(.lit false)], []⟩ []))))))))
  (.ret ⟨[], [(.lit false)], []⟩ [])))
theorem bm {x0 x1 x2 x3 x4 x5 : Int} (r0 : (-9223372036854775808) ≤ x0 ∧ x0 ≤ 9223372036854775807) (r1 : (-9223372036854775808) ≤ x1 ∧ x1 ≤ 9223372036854775807) (r2 : (-9223372036854775808) ≤ x2 ∧ x2 ≤ 9223372036854775807) (r3 : (-9223372036854775808) ≤ x3 ∧ x3 ≤ 9223372036854775807) (r4 : (-9223372036854775808) ≤ x4 ∧ x4 ≤ 9223372036854775807) (r5 : (-9223372036854775808) ≤ x5 ∧ x5 ≤ 9223372036854775807) {R : Bool → Prop}
  (H : (∃ u0 : Bool, Spec Try.prog etalonlaw01_awake_s ⟨[], [], []⟩ [] [u0] [] ∧
   ((u0 = true → (∃ v6 : Int, ∃ v7 : Int, ∃ v8 : Int, Spec Try.prog _etalonlaw01_Whole__ball_s ⟨[x0, x1, x2], [], []⟩ [v6, v7, v8] [] [] ∧
    (∃ v9 : Int, ∃ v10 : Int, ∃ v11 : Int, Spec Try.prog _etalonlaw01_Whole__ball_s ⟨[x3, x4, x5], [], []⟩ [v9, v10, v11] [] [] ∧
    (∃ v12 : Int, ∃ v13 : Int, ∃ v14 : Int, ∃ v15 : Int, Spec Try.prog ball_Times_s ⟨[v6, v7, v8, v9, v10, v11], [], []⟩ [v12, v13, v14, v15] [] [] ∧
    (∃ v16 : Int, Spec Try.prog _etalonlaw01_Whole__two_s ⟨[x0, x1, x2, x3, x4, x5], [], []⟩ [v16] [] [] ∧
    ((((v16 : Int) == 0) = true → (∃ v17 : Int, ∃ v18 : Int, ∃ v19 : Int, Spec Try.prog _etalonlaw01_Whole__ball_s ⟨[x0, x1, x2], [], []⟩ [v17, v18, v19] [] [] ∧
     (∃ v20 : Int, ∃ v21 : Int, ∃ v22 : Int, Spec Try.prog etalonref01_Of_s ⟨[v17, v18, v19], [], []⟩ [v20, v21, v22] [] [] ∧
     (∃ v23 : Int, ∃ v24 : Int, ∃ v25 : Int, Spec Try.prog _etalonlaw01_Whole__ball_s ⟨[x3, x4, x5], [], []⟩ [v23, v24, v25] [] [] ∧
     (∃ v26 : Int, ∃ v27 : Int, ∃ v28 : Int, Spec Try.prog etalonref01_Of_s ⟨[v23, v24, v25], [], []⟩ [v26, v27, v28] [] [] ∧
     (∃ v29 : Int, ∃ v30 : Int, ∃ v31 : Int, ∃ v32 : Int, Spec Try.prog etalonref01_Times_s ⟨[v20, v21, v22, v26, v27, v28], [], []⟩ [v29, v30, v31, v32] [] [] ∧
     (∃ u1 : Bool, Spec Try.prog etalonlaw01_is_s ⟨[v12, v13, v14, v15, v29, v30, v31, v32], [], []⟩ [] [u1] [] ∧
     ((u1 = true → (∃ v33 : Int, ∃ v34 : Int, ∃ v35 : Int, ∃ v36 : Int, Spec Try.prog ball_Times_s ⟨[v23, v24, v25, v17, v18, v19], [], []⟩ [v33, v34, v35, v36] [] [] ∧
      (∃ v37 : Int, Spec Try.prog _etalonlaw01_Whole__two_s ⟨[x0, x1, x2, x3, x4, x5], [], []⟩ [v37] [] [] ∧
      ((((v37 : Int) == 0) = true → ((((v36 : Int) == v15) = true → (∃ u2 : Bool, Spec Try.prog etalonbase_SameBall_s ⟨[v12, v13, v14, v33, v34, v35], [], []⟩ [] [u2] [] ∧
        R (u2))) ∧
       (((v36 : Int) == v15) = false → R (false)))) ∧
      (((v37 : Int) == 0) = false → R (true)))))) ∧
     (u1 = false → R (false)))))))))) ∧
    (((v16 : Int) == 0) = false → (∃ u1 : Bool, Spec Try.prog etalonlaw01_is_s ⟨[v12, v13, v14, v15, 0, 0, 0, v16], [], []⟩ [] [u1] [] ∧
     ((u1 = true → (∃ v17 : Int, ∃ v18 : Int, ∃ v19 : Int, Spec Try.prog _etalonlaw01_Whole__ball_s ⟨[x3, x4, x5], [], []⟩ [v17, v18, v19] [] [] ∧
      (∃ v20 : Int, ∃ v21 : Int, ∃ v22 : Int, Spec Try.prog _etalonlaw01_Whole__ball_s ⟨[x0, x1, x2], [], []⟩ [v20, v21, v22] [] [] ∧
      (∃ v23 : Int, ∃ v24 : Int, ∃ v25 : Int, ∃ v26 : Int, Spec Try.prog ball_Times_s ⟨[v17, v18, v19, v20, v21, v22], [], []⟩ [v23, v24, v25, v26] [] [] ∧
      (∃ v27 : Int, Spec Try.prog _etalonlaw01_Whole__two_s ⟨[x0, x1, x2, x3, x4, x5], [], []⟩ [v27] [] [] ∧
      ((((v27 : Int) == 0) = true → ((((v26 : Int) == v15) = true → (∃ u2 : Bool, Spec Try.prog etalonbase_SameBall_s ⟨[v12, v13, v14, v23, v24, v25], [], []⟩ [] [u2] [] ∧
        R (u2))) ∧
       (((v26 : Int) == v15) = false → R (false)))) ∧
      (((v27 : Int) == 0) = false → R (true)))))))) ∧
     (u1 = false → R (false))))))))))) ∧
   (u0 = false → R (false))))) :
    ∃ u0 : Bool, R u0 ∧ Spec Try.prog etalonlaw01_BallMultiplies_s ⟨[x0, x1, x2, x3, x4, x5], [], []⟩ [] [u0] [] :=
  Eq.mp (by kernel_rfl) (exV_of (K := fun d => app3 etalonlaw01_BallMultiplies_s.out R d ∧ Spec Try.prog etalonlaw01_BallMultiplies_s ⟨[x0, x1, x2, x3, x4, x5], [], []⟩ d.1 d.2.1 d.2.2) (tree_at mixed names S1_ok (S := S1 Try.prog) (lf := 100000) (d := 60) etalonlaw01_BallMultiplies_s bm_t { ivs := [(0, (-9223372036854775808), 9223372036854775807), (1, (-9223372036854775808), 9223372036854775807), (2, (-9223372036854775808), 9223372036854775807), (3, (-9223372036854775808), 9223372036854775807), (4, (-9223372036854775808), 9223372036854775807), (5, (-9223372036854775808), 9223372036854775807)], aivs := [] } ⟨[x0, x1, x2, x3, x4, x5], [], []⟩ rfl (by kernel_rfl) (by kernel_rfl) (by kernel_rfl) ⟨(fc r0 (fc r1 (fc r2 (fc r3 (fc r4 (fc r5 fz)))))), fz, fz, fz⟩ (R := fun d => app3 etalonlaw01_BallMultiplies_s.out R d) (Eq.mp (by kernel_rfl) H)))

def bd_t : Tr :=
  (.call etalonlaw01_awake_s ⟨[], [], []⟩ ⟨[], [(.var 0)], []⟩ ⟨16, [], [], [none, none], (.bool (.var 0)), []⟩
  (.ite (.var 0)
  (.call _etalonlaw01_Whole__ball_s ⟨[(.var 0), (.var 1), (.var 2)], [], []⟩ ⟨[(.var 0), (.var 1), (.var 2), (.var 6), (.var 7), (.var 8)], [], []⟩ ⟨22, [(.agg [(.int .i64 (.var 0)), (.int .i64 (.var 1)), (.int .i64 (.var 2))])], [], [none, none], (.agg [(.complex .f64 (.var 6) (.var 7)), (.int .i64 (.var 8))]), []⟩
   (.call _etalonlaw01_Whole__ball_s ⟨[(.var 3), (.var 4), (.var 5)], [], []⟩ ⟨[(.var 3), (.var 4), (.var 5), (.var 9), (.var 10), (.var 11)], [], []⟩ ⟨22, [(.agg [(.int .i64 (.var 3)), (.int .i64 (.var 4)), (.int .i64 (.var 5))])], [], [none, none], (.agg [(.complex .f64 (.var 9) (.var 10)), (.int .i64 (.var 11))]), []⟩
   (.call ball_Quotient_s ⟨[(.var 6), (.var 7), (.var 8), (.var 9), (.var 10), (.var 11)], [], []⟩ ⟨[(.var 6), (.var 7), (.var 8), (.var 9), (.var 10), (.var 11), (.var 12), (.var 13), (.var 14), (.var 15)], [], []⟩ ⟨40, [(.agg [(.complex .f64 (.var 6) (.var 7)), (.int .i64 (.var 8))]), (.agg [(.complex .f64 (.var 9) (.var 10)), (.int .i64 (.var 11))])], [], [none, none], (.tuple [(.agg [(.complex .f64 (.var 12) (.var 13)), (.int .i64 (.var 14))]), (.int .i64 (.var 15))]), []⟩
   (.call _etalonlaw01_Whole__two_s ⟨[(.var 0), (.var 1), (.var 2), (.var 3), (.var 4), (.var 5)], [], []⟩ ⟨[(.var 0), (.var 1), (.var 2), (.var 3), (.var 4), (.var 5), (.var 16)], [], []⟩ ⟨37, [(.agg [(.int .i64 (.var 0)), (.int .i64 (.var 1)), (.int .i64 (.var 2))]), (.agg [(.int .i64 (.var 3)), (.int .i64 (.var 4)), (.int .i64 (.var 5))])], [], [none, none, none], (.int .i64 (.var 16)), []⟩
   (.ite (.icmp .eql (.var 16) (.lit 0))
   (.call _etalonlaw01_Whole__ball_s ⟨[(.var 0), (.var 1), (.var 2)], [], []⟩ ⟨[(.var 0), (.var 1), (.var 2), (.var 17), (.var 18), (.var 19)], [], []⟩ ⟨22, [(.agg [(.int .i64 (.var 0)), (.int .i64 (.var 1)), (.int .i64 (.var 2))])], [], [none, none, none, none], (.agg [(.complex .f64 (.var 17) (.var 18)), (.int .i64 (.var 19))]), []⟩
    (.call etalonref01_Of_s ⟨[(.var 17), (.var 18), (.var 19)], [], []⟩ ⟨[(.var 17), (.var 18), (.var 19), (.var 20), (.var 21), (.var 22)], [], []⟩ ⟨29, [(.agg [(.complex .f64 (.var 17) (.var 18)), (.int .i64 (.var 19))])], [], [none, none, none, none], (.agg [(.int .i64 (.var 20)), (.int .i64 (.var 21)), (.int .i64 (.var 22))]), []⟩
    (.call _etalonlaw01_Whole__ball_s ⟨[(.var 3), (.var 4), (.var 5)], [], []⟩ ⟨[(.var 3), (.var 4), (.var 5), (.var 23), (.var 24), (.var 25)], [], []⟩ ⟨22, [(.agg [(.int .i64 (.var 3)), (.int .i64 (.var 4)), (.int .i64 (.var 5))])], [], [none, none, none, none], (.agg [(.complex .f64 (.var 23) (.var 24)), (.int .i64 (.var 25))]), []⟩
    (.call etalonref01_Of_s ⟨[(.var 23), (.var 24), (.var 25)], [], []⟩ ⟨[(.var 23), (.var 24), (.var 25), (.var 26), (.var 27), (.var 28)], [], []⟩ ⟨29, [(.agg [(.complex .f64 (.var 23) (.var 24)), (.int .i64 (.var 25))])], [], [none, none, none, none], (.agg [(.int .i64 (.var 26)), (.int .i64 (.var 27)), (.int .i64 (.var 28))]), []⟩
    (.call etalonref01_Quotient_s ⟨[(.var 20), (.var 21), (.var 22), (.var 26), (.var 27), (.var 28)], [], []⟩ ⟨[(.var 20), (.var 21), (.var 22), (.var 26), (.var 27), (.var 28), (.var 29), (.var 30), (.var 31), (.var 32)], [], []⟩ ⟨41, [(.agg [(.int .i64 (.var 20)), (.int .i64 (.var 21)), (.int .i64 (.var 22))]), (.agg [(.int .i64 (.var 26)), (.int .i64 (.var 27)), (.int .i64 (.var 28))])], [], [none, none, none, none], (.tuple [(.agg [(.int .i64 (.var 29)), (.int .i64 (.var 30)), (.int .i64 (.var 31))]), (.int .i64 (.var 32))]), []⟩
    (.call etalonlaw01_is_s ⟨[(.var 12), (.var 13), (.var 14), (.var 15), (.var 29), (.var 30), (.var 31), (.var 32)], [], []⟩ ⟨[(.var 12), (.var 13), (.var 14), (.var 15), (.var 29), (.var 30), (.var 31), (.var 32)], [(.var 1)], []⟩ ⟨21, [(.agg [(.complex .f64 (.var 12) (.var 13)), (.int .i64 (.var 14))]), (.int .i64 (.var 15)), (.agg [(.int .i64 (.var 29)), (.int .i64 (.var 30)), (.int .i64 (.var 31))]), (.int .i64 (.var 32))], [], [none, none, none, none], (.bool (.var 1)), []⟩
    (.ret ⟨[], [(.var 1)], []⟩ [])))))))
   (.call etalonlaw01_is_s ⟨[(.var 12), (.var 13), (.var 14), (.var 15), (.lit 0), (.lit 0), (.lit 0), (.var 16)], [], []⟩ ⟨[(.var 12), (.var 13), (.var 14), (.var 15), (.lit 0), (.lit 0), (.lit 0), (.var 16)], [(.var 1)], []⟩ ⟨21, [(.agg [(.complex .f64 (.var 12) (.var 13)), (.int .i64 (.var 14))]), (.int .i64 (.var 15)), (.agg [(.int .i64 (.lit 0)), (.int .i64 (.lit 0)), (.int .i64 (.lit 0))]), (.int .i64 (.var 16))], [], [none, none, none, none], (.bool (.var 1)), []⟩
    (.ret ⟨[], [(.var 1)], []⟩ [])))))))
  (.ret ⟨[], [(.lit false)], []⟩ [])))
theorem bd {x0 x1 x2 x3 x4 x5 : Int} (r0 : (-9223372036854775808) ≤ x0 ∧ x0 ≤ 9223372036854775807) (r1 : (-9223372036854775808) ≤ x1 ∧ x1 ≤ 9223372036854775807) (r2 : (-9223372036854775808) ≤ x2 ∧ x2 ≤ 9223372036854775807) (r3 : (-9223372036854775808) ≤ x3 ∧ x3 ≤ 9223372036854775807) (r4 : (-9223372036854775808) ≤ x4 ∧ x4 ≤ 9223372036854775807) (r5 : (-9223372036854775808) ≤ x5 ∧ x5 ≤ 9223372036854775807) {R : Bool → Prop}
  (H : (∃ u0 : Bool, Spec Try.prog etalonlaw01_awake_s ⟨[], [], []⟩ [] [u0] [] ∧
   ((u0 = true → (∃ v6 : Int, ∃ v7 : Int, ∃ v8 : Int, Spec Try.prog _etalonlaw01_Whole__ball_s ⟨[x0, x1, x2], [], []⟩ [v6, v7, v8] [] [] ∧
    (∃ v9 : Int, ∃ v10 : Int, ∃ v11 : Int, Spec Try.prog _etalonlaw01_Whole__ball_s ⟨[x3, x4, x5], [], []⟩ [v9, v10, v11] [] [] ∧
    (∃ v12 : Int, ∃ v13 : Int, ∃ v14 : Int, ∃ v15 : Int, Spec Try.prog ball_Quotient_s ⟨[v6, v7, v8, v9, v10, v11], [], []⟩ [v12, v13, v14, v15] [] [] ∧
    (∃ v16 : Int, Spec Try.prog _etalonlaw01_Whole__two_s ⟨[x0, x1, x2, x3, x4, x5], [], []⟩ [v16] [] [] ∧
    ((((v16 : Int) == 0) = true → (∃ v17 : Int, ∃ v18 : Int, ∃ v19 : Int, Spec Try.prog _etalonlaw01_Whole__ball_s ⟨[x0, x1, x2], [], []⟩ [v17, v18, v19] [] [] ∧
     (∃ v20 : Int, ∃ v21 : Int, ∃ v22 : Int, Spec Try.prog etalonref01_Of_s ⟨[v17, v18, v19], [], []⟩ [v20, v21, v22] [] [] ∧
     (∃ v23 : Int, ∃ v24 : Int, ∃ v25 : Int, Spec Try.prog _etalonlaw01_Whole__ball_s ⟨[x3, x4, x5], [], []⟩ [v23, v24, v25] [] [] ∧
     (∃ v26 : Int, ∃ v27 : Int, ∃ v28 : Int, Spec Try.prog etalonref01_Of_s ⟨[v23, v24, v25], [], []⟩ [v26, v27, v28] [] [] ∧
     (∃ v29 : Int, ∃ v30 : Int, ∃ v31 : Int, ∃ v32 : Int, Spec Try.prog etalonref01_Quotient_s ⟨[v20, v21, v22, v26, v27, v28], [], []⟩ [v29, v30, v31, v32] [] [] ∧
     (∃ u1 : Bool, Spec Try.prog etalonlaw01_is_s ⟨[v12, v13, v14, v15, v29, v30, v31, v32], [], []⟩ [] [u1] [] ∧
     R (u1)))))))) ∧
    (((v16 : Int) == 0) = false → (∃ u1 : Bool, Spec Try.prog etalonlaw01_is_s ⟨[v12, v13, v14, v15, 0, 0, 0, v16], [], []⟩ [] [u1] [] ∧
     R (u1))))))))) ∧
   (u0 = false → R (false))))) :
    ∃ u0 : Bool, R u0 ∧ Spec Try.prog etalonlaw01_BallDivides_s ⟨[x0, x1, x2, x3, x4, x5], [], []⟩ [] [u0] [] :=
  Eq.mp (by kernel_rfl) (exV_of (K := fun d => app3 etalonlaw01_BallDivides_s.out R d ∧ Spec Try.prog etalonlaw01_BallDivides_s ⟨[x0, x1, x2, x3, x4, x5], [], []⟩ d.1 d.2.1 d.2.2) (tree_at mixed names S1_ok (S := S1 Try.prog) (lf := 100000) (d := 60) etalonlaw01_BallDivides_s bd_t { ivs := [(0, (-9223372036854775808), 9223372036854775807), (1, (-9223372036854775808), 9223372036854775807), (2, (-9223372036854775808), 9223372036854775807), (3, (-9223372036854775808), 9223372036854775807), (4, (-9223372036854775808), 9223372036854775807), (5, (-9223372036854775808), 9223372036854775807)], aivs := [] } ⟨[x0, x1, x2, x3, x4, x5], [], []⟩ rfl (by kernel_rfl) (by kernel_rfl) (by kernel_rfl) ⟨(fc r0 (fc r1 (fc r2 (fc r3 (fc r4 (fc r5 fz)))))), fz, fz, fz⟩ (R := fun d => app3 etalonlaw01_BallDivides_s.out R d) (Eq.mp (by kernel_rfl) H)))

theorem times_W {X Y r Z W s : Int} (hX : InF X) (hY : InF Y) (hr : I64 r) (hZ : InF Z) (hW : InF W) (hs : I64 s) : Spec Try.prog ball_Times_s ⟨[((fi X : Nat) : Int), ((fi Y : Nat) : Int), r, ((fi Z : Nat) : Int), ((fi W : Nat) : Int), s], [], []⟩ [F (opW timesQ X Y r Z W s).x, F (opW timesQ X Y r Z W s).y, (opW timesQ X Y r Z W s).r, (opW timesQ X Y r Z W s).e] [] [] := by

  have := times_p (U_fi hX) (U_fi hY) hr (U_fi hZ) (U_fi hW) hs

  rwa [op2_W timesQ hX hY hZ hW] at this

theorem quot_W {X Y r Z W s : Int} (hX : InF X) (hY : InF Y) (hr : I64 r) (hZ : InF Z) (hW : InF W) (hs : I64 s) : Spec Try.prog ball_Quotient_s ⟨[((fi X : Nat) : Int), ((fi Y : Nat) : Int), r, ((fi Z : Nat) : Int), ((fi W : Nat) : Int), s], [], []⟩ [F (opW quotQ X Y r Z W s).x, F (opW quotQ X Y r Z W s).y, (opW quotQ X Y r Z W s).r, (opW quotQ X Y r Z W s).e] [] [] := by

  have := quot_p (U_fi hX) (U_fi hY) hr (U_fi hZ) (U_fi hW) hs

  rwa [op2_W quotQ hX hY hZ hW] at this

theorem times_comm (X Y r Z W s : Int) : timesQ X Y r Z W s = timesQ Z W s X Y r := by

  unfold timesQ

  rw [show X * Z - Y * W = Z * X - W * Y by rw [Int.mul_comm X, Int.mul_comm Y], show X * W + Y * Z = Z * Y + W * X by rw [Int.mul_comm X, Int.mul_comm Y, Int.add_comm],

    show upw X Y * s + upw Z W * r + r * s = upw Z W * r + upw X Y * s + s * r by rw [Int.mul_comm r s]; omega]

theorem fe_comm {a b : Int} (h : a = 0 ∨ a = 2) (g : b = 0 ∨ b = 2) : fe a b = fe b a := by unfold fe; split <;> split <;> omega

theorem opW_comm (X Y r Z W s : Int) : opW timesQ X Y r Z W s = opW timesQ Z W s X Y r := by

  unfold opW

  rw [fe_comm (ckW_v X Y r) (ckW_v Z W s), times_comm]

theorem multiplies {x0 x1 x2 x3 x4 x5 : Int} (r0 : I64 x0) (r1 : I64 x1) (r2 : I64 x2) (r3 : I64 x3) (r4 : I64 x4) (r5 : I64 x5) : Spec Try.prog etalonlaw01_BallMultiplies_s ⟨[x0, x1, x2, x3, x4, x5], [], []⟩ [] [true] [] := by

  have a0 := wball_s r0 r1 r2

  have a1 := wball_s r3 r4 r5

  have f0 := cutI_F x0

  have f1 := cutI_F x1

  have f3 := cutI_F x3

  have f4 := cutI_F x4

  have t := times_W f0 f1 r2 f3 f4 r5

  have t' := times_W f3 f4 r5 f0 f1 r2

  rw [← opW_comm] at t'

  have tw := wtwo_s r0 r1 r2 r3 r4 r5

  have hn := opW_n (f := timesQ) (X := cutI x0) (Y := cutI x1) (r := x2) (Z := cutI x3) (W := cutI x4) (s := x5) times_n

  have sm := same_s (x := F (opW timesQ (cutI x0) (cutI x1) x2 (cutI x3) (cutI x4) x5).x) (y := F (opW timesQ (cutI x0) (cutI x1) x2 (cutI x3) (cutI x4) x5).y) (r := (opW timesQ (cutI x0) (cutI x1) x2 (cutI x3) (cutI x4) x5).r) (by have := hn.hr; omega)

  refine outt (bm r0 r1 r2 r3 r4 r5 (R := (· = true)) ⟨_, awake_t, fun _ => ⟨_, _, _, a0, _, _, _, a1, _, _, _, _, t, _, tw, fun h => ?_, fun h => ?_⟩, fun h => by cases h⟩)

  · simp only [beq_iff_eq] at h

    have hh := fe_two h

    have b0 := ckW_rb hh.1

    have b1 := ckW_rb hh.2

    have tr := times_r b0.hx b0.hy b0.hr b1.hx b1.hy b1.hr

    rw [← opW_ok (f := timesQ) h] at tr

    exact ⟨_, _, _, a0, _, _, _, of_s (Rp_fi _) (Rp_fi _) f0 f1 r2, _, _, _, a1, _, _, _, of_s (Rp_fi _) (Rp_fi _) f3 f4 r5, _, _, _, _, tr, _, hn.is, fun _ => ⟨_, _, _, _, t', _, tw, fun _ => ⟨fun _ => ⟨_, sm, rfl⟩, fun h => by simp at h⟩, fun _ => rfl⟩, fun h => by cases h⟩

  · simp only [beq_eq_false_iff_ne, ne_eq] at h

    have e := opW_no (f := timesQ) h

    have hv := fe_v (ckW_v (cutI x0) (cutI x1) x2) (ckW_v (cutI x3) (cutI x4) x5)

    refine ⟨_, by rw [e]; exact is_be (by omega), fun _ => ⟨_, _, _, a1, _, _, _, a0, _, _, _, _, t', _, tw, fun h9 => ?_, fun _ => rfl⟩, fun h => by cases h⟩

    simp only [beq_iff_eq] at h9

    exact absurd h9 h

theorem divides {x0 x1 x2 x3 x4 x5 : Int} (r0 : I64 x0) (r1 : I64 x1) (r2 : I64 x2) (r3 : I64 x3) (r4 : I64 x4) (r5 : I64 x5) : Spec Try.prog etalonlaw01_BallDivides_s ⟨[x0, x1, x2, x3, x4, x5], [], []⟩ [] [true] [] := by

  have a0 := wball_s r0 r1 r2

  have a1 := wball_s r3 r4 r5

  have f0 := cutI_F x0

  have f1 := cutI_F x1

  have f3 := cutI_F x3

  have f4 := cutI_F x4

  have t := quot_W f0 f1 r2 f3 f4 r5

  have tw := wtwo_s r0 r1 r2 r3 r4 r5

  have hn := opW_n (f := quotQ) (X := cutI x0) (Y := cutI x1) (r := x2) (Z := cutI x3) (W := cutI x4) (s := x5) quot_n

  refine outt (bd r0 r1 r2 r3 r4 r5 (R := (· = true)) ⟨_, awake_t, fun _ => ⟨_, _, _, a0, _, _, _, a1, _, _, _, _, t, _, tw, fun h => ?_, fun h => ?_⟩, fun h => by cases h⟩)

  · simp only [beq_iff_eq] at h

    have hh := fe_two h

    have b0 := ckW_rb hh.1

    have b1 := ckW_rb hh.2

    have tr := quot_r b0.hx b0.hy b0.hr b1.hx b1.hy b1.hr

    rw [← opW_ok (f := quotQ) h] at tr

    exact ⟨_, _, _, a0, _, _, _, of_s (Rp_fi _) (Rp_fi _) f0 f1 r2, _, _, _, a1, _, _, _, of_s (Rp_fi _) (Rp_fi _) f3 f4 r5, _, _, _, _, tr, _, hn.is, rfl⟩

  · simp only [beq_eq_false_iff_ne, ne_eq] at h

    have e := opW_no (f := quotQ) h

    have hv := fe_v (ckW_v (cutI x0) (cutI x1) x2) (ckW_v (cutI x3) (cutI x4) x5)

    exact ⟨_, by rw [e]; exact is_be (by omega), rfl⟩

end Go.Proofs.Ytgdhpgjfebinhaa.Ev
