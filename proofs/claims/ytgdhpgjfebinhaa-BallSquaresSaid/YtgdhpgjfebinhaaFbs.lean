/- BallSquares: roots and quotients of products. -/
import Derived.Test.YtgdhpgjfebinhaaFbo
import Derived.Test.YtgdhpgjfebinhaaFbh
import Derived.Test.YtgdhpgjfebinhaaSqp
namespace Go.Proofs.Ytgdhpgjfebinhaa.Ev
set_option linter.unusedSimpArgs false
open Go Go.RowKit
set_option linter.unusedVariables false
set_option maxRecDepth 100000
def ball_Meets_s : Sig := ⟨53, ⟨6, 0, 0⟩, ⟨1, 1, 0⟩, [(.agg [(.complex .f64 (.var 0) (.var 1)), (.int .i64 (.var 2))]), (.agg [(.complex .f64 (.var 3) (.var 4)), (.int .i64 (.var 5))])], [], (.tuple [(.bool (.var 0)), (.int .i64 (.var 6))]), []⟩
def etalonlaw01_BallSquares_s : Sig := ⟨13, ⟨6, 0, 0⟩, ⟨0, 1, 0⟩, [(.agg [(.int .i64 (.var 0)), (.int .i64 (.var 1)), (.int .i64 (.var 2))]), (.agg [(.int .i64 (.var 3)), (.int .i64 (.var 4)), (.int .i64 (.var 5))])], [], (.bool (.var 0)), []⟩

def me_t : Tr :=
  (.whole 0 67108864 (.rng 6 (-67108864) 67108864 (.whole 1 67108864 (.rng 7 (-67108864) 67108864 (.whole 3 67108864 (.rng 8 (-67108864) 67108864 (.whole 4 67108864 (.rng 9 (-67108864) 67108864 (.ret ⟨[(.lit 0)], [(.icmp .leq (.bin .addI (.bin .mulI (.bin .subI (.var 6) (.var 8)) (.bin .subI (.var 6) (.var 8))) (.bin .mulI (.bin .subI (.var 7) (.var 9)) (.bin .subI (.var 7) (.var 9)))) (.bin .mulI (.bin .addI (.var 2) (.var 5)) (.bin .addI (.var 2) (.var 5))))], []⟩ [])))))))))
theorem me {x0 x1 x2 x3 x4 x5 : Int} (r2 : 0 ≤ x2 ∧ x2 ≤ 67108864) (r5 : 0 ≤ x5 ∧ x5 ≤ 67108864) {R : Int → Bool → Prop}
  (H : (∃ v6 : Int, (Rp (x0 : Int).toNat v6 ∧ v6.natAbs ≤ 67108864) ∧ (((-67108864) ≤ (v6 : Int) ∧ (v6 : Int) ≤ 67108864) ∧ (∃ v7 : Int, (Rp (x1 : Int).toNat v7 ∧ v7.natAbs ≤ 67108864) ∧ (((-67108864) ≤ (v7 : Int) ∧ (v7 : Int) ≤ 67108864) ∧ (∃ v8 : Int, (Rp (x3 : Int).toNat v8 ∧ v8.natAbs ≤ 67108864) ∧ (((-67108864) ≤ (v8 : Int) ∧ (v8 : Int) ≤ 67108864) ∧ (∃ v9 : Int, (Rp (x4 : Int).toNat v9 ∧ v9.natAbs ≤ 67108864) ∧ (((-67108864) ≤ (v9 : Int) ∧ (v9 : Int) ≤ 67108864) ∧ R (0) (decide (((((v6 - v8) * (v6 - v8)) + ((v7 - v9) * (v7 - v9))) : Int) ≤ ((x2 + x5) * (x2 + x5))))))))))))) :
    ∃ v0 : Int, ∃ u0 : Bool, R v0 u0 ∧ Spec Try.prog ball_Meets_s ⟨[x0, x1, x2, x3, x4, x5], [], []⟩ [v0] [u0] [] :=
  Eq.mp (by kernel_rfl) (exV_of (K := fun d => app3 ball_Meets_s.out R d ∧ Spec Try.prog ball_Meets_s ⟨[x0, x1, x2, x3, x4, x5], [], []⟩ d.1 d.2.1 d.2.2) (tree_at mixed names S1_ok (S := S1 Try.prog) (lf := 100000) (d := 60) ball_Meets_s me_t { ivs := [(2, 0, 67108864), (5, 0, 67108864)], aivs := [] } ⟨[x0, x1, x2, x3, x4, x5], [], []⟩ rfl (by kernel_rfl) (by kernel_rfl) (by kernel_rfl) ⟨(fc r2 (fc r5 fz)), fz, fz, fz⟩ (R := fun d => app3 ball_Meets_s.out R d) (Eq.mp (by kernel_rfl) H)))

def bsq_t : Tr :=
  (.call etalonlaw01_awake_s ⟨[], [], []⟩ ⟨[], [(.var 0)], []⟩ ⟨16, [], [], [none, none], (.bool (.var 0)), []⟩
  (.ite (.var 0)
  (.call etalonlaw01_near_s ⟨[(.var 0), (.var 1), (.var 2)], [], []⟩ ⟨[(.var 0), (.var 1), (.var 2)], [(.var 1)], []⟩ ⟨46, [(.agg [(.int .i64 (.var 0)), (.int .i64 (.var 1)), (.int .i64 (.var 2))])], [], [none, none], (.bool (.var 1)), []⟩
   (.ite (.var 1)
   (.call etalonlaw01_near_s ⟨[(.var 3), (.var 4), (.var 5)], [], []⟩ ⟨[(.var 3), (.var 4), (.var 5)], [(.var 2)], []⟩ ⟨46, [(.agg [(.int .i64 (.var 3)), (.int .i64 (.var 4)), (.int .i64 (.var 5))])], [], [none, none], (.bool (.var 2)), []⟩
    (.ite (.var 2)
    (.call _etalonlaw01_Whole__ball_s ⟨[(.var 0), (.var 1), (.var 2)], [], []⟩ ⟨[(.var 0), (.var 1), (.var 2), (.var 6), (.var 7), (.var 8)], [], []⟩ ⟨22, [(.agg [(.int .i64 (.var 0)), (.int .i64 (.var 1)), (.int .i64 (.var 2))])], [], [none, none], (.agg [(.complex .f64 (.var 6) (.var 7)), (.int .i64 (.var 8))]), []⟩
     (.call ball_Root_s ⟨[(.var 6), (.var 7), (.var 8)], [], []⟩ ⟨[(.var 6), (.var 7), (.var 8), (.var 9), (.var 10), (.var 11), (.var 12)], [], []⟩ ⟨42, [(.agg [(.complex .f64 (.var 6) (.var 7)), (.int .i64 (.var 8))])], [], [none, none], (.tuple [(.agg [(.complex .f64 (.var 9) (.var 10)), (.int .i64 (.var 11))]), (.int .i64 (.var 12))]), []⟩
     (.ite (.icmp .eql (.var 12) (.lit 0))
     (.call ball_Times_s ⟨[(.var 9), (.var 10), (.var 11), (.var 9), (.var 10), (.var 11)], [], []⟩ ⟨[(.var 9), (.var 10), (.var 11), (.var 9), (.var 10), (.var 11), (.var 13), (.var 14), (.var 15), (.var 16)], [], []⟩ ⟨36, [(.agg [(.complex .f64 (.var 9) (.var 10)), (.int .i64 (.var 11))]), (.agg [(.complex .f64 (.var 9) (.var 10)), (.int .i64 (.var 11))])], [], [none, none, none], (.tuple [(.agg [(.complex .f64 (.var 13) (.var 14)), (.int .i64 (.var 15))]), (.int .i64 (.var 16))]), []⟩
      (.call _etalonlaw01_Whole__ball_s ⟨[(.var 0), (.var 1), (.var 2)], [], []⟩ ⟨[(.var 0), (.var 1), (.var 2), (.var 17), (.var 18), (.var 19)], [], []⟩ ⟨22, [(.agg [(.int .i64 (.var 0)), (.int .i64 (.var 1)), (.int .i64 (.var 2))])], [], [none, none, none, none], (.agg [(.complex .f64 (.var 17) (.var 18)), (.int .i64 (.var 19))]), []⟩
      (.call ball_Meets_s ⟨[(.var 13), (.var 14), (.var 15), (.var 17), (.var 18), (.var 19)], [], []⟩ ⟨[(.var 13), (.var 14), (.var 15), (.var 17), (.var 18), (.var 19), (.var 20)], [(.var 3)], []⟩ ⟨53, [(.agg [(.complex .f64 (.var 13) (.var 14)), (.int .i64 (.var 15))]), (.agg [(.complex .f64 (.var 17) (.var 18)), (.int .i64 (.var 19))])], [], [none, none, none, none], (.tuple [(.bool (.var 3)), (.int .i64 (.var 20))]), []⟩
      (.ite (.icmp .eql (.var 16) (.lit 0))
      (.ite (.icmp .eql (.var 20) (.lit 0))
       (.ite (.var 3)
        (.call _etalonlaw01_Whole__ball_s ⟨[(.var 3), (.var 4), (.var 5)], [], []⟩ ⟨[(.var 3), (.var 4), (.var 5), (.var 21), (.var 22), (.var 23)], [], []⟩ ⟨22, [(.agg [(.int .i64 (.var 3)), (.int .i64 (.var 4)), (.int .i64 (.var 5))])], [], [none, none, none, none], (.agg [(.complex .f64 (.var 21) (.var 22)), (.int .i64 (.var 23))]), []⟩
         (.call ball_Times_s ⟨[(.var 17), (.var 18), (.var 19), (.var 21), (.var 22), (.var 23)], [], []⟩ ⟨[(.var 17), (.var 18), (.var 19), (.var 21), (.var 22), (.var 23), (.var 24), (.var 25), (.var 26), (.var 27)], [], []⟩ ⟨36, [(.agg [(.complex .f64 (.var 17) (.var 18)), (.int .i64 (.var 19))]), (.agg [(.complex .f64 (.var 21) (.var 22)), (.int .i64 (.var 23))])], [], [none, none, none, none], (.tuple [(.agg [(.complex .f64 (.var 24) (.var 25)), (.int .i64 (.var 26))]), (.int .i64 (.var 27))]), []⟩
         (.call _etalonlaw01_Whole__ball_s ⟨[(.var 3), (.var 4), (.var 5)], [], []⟩ ⟨[(.var 3), (.var 4), (.var 5), (.var 28), (.var 29), (.var 30)], [], []⟩ ⟨22, [(.agg [(.int .i64 (.var 3)), (.int .i64 (.var 4)), (.int .i64 (.var 5))])], [], [none, none, none, none, none], (.agg [(.complex .f64 (.var 28) (.var 29)), (.int .i64 (.var 30))]), []⟩
         (.call ball_Quotient_s ⟨[(.var 24), (.var 25), (.var 26), (.var 28), (.var 29), (.var 30)], [], []⟩ ⟨[(.var 24), (.var 25), (.var 26), (.var 28), (.var 29), (.var 30), (.var 31), (.var 32), (.var 33), (.var 34)], [], []⟩ ⟨40, [(.agg [(.complex .f64 (.var 24) (.var 25)), (.int .i64 (.var 26))]), (.agg [(.complex .f64 (.var 28) (.var 29)), (.int .i64 (.var 30))])], [], [none, none, none, none, none], (.tuple [(.agg [(.complex .f64 (.var 31) (.var 32)), (.int .i64 (.var 33))]), (.int .i64 (.var 34))]), []⟩
         (.ite (.icmp .eql (.var 27) (.lit 0))
         (.ite (.icmp .eql (.var 34) (.lit 0))
          (.call _etalonlaw01_Whole__ball_s ⟨[(.var 0), (.var 1), (.var 2)], [], []⟩ ⟨[(.var 0), (.var 1), (.var 2), (.var 35), (.var 36), (.var 37)], [], []⟩ ⟨22, [(.agg [(.int .i64 (.var 0)), (.int .i64 (.var 1)), (.int .i64 (.var 2))])], [], [none, none, none, none, none, none], (.agg [(.complex .f64 (.var 35) (.var 36)), (.int .i64 (.var 37))]), []⟩
           (.call ball_Meets_s ⟨[(.var 31), (.var 32), (.var 33), (.var 35), (.var 36), (.var 37)], [], []⟩ ⟨[(.var 31), (.var 32), (.var 33), (.var 35), (.var 36), (.var 37), (.var 38)], [(.var 4)], []⟩ ⟨53, [(.agg [(.complex .f64 (.var 31) (.var 32)), (.int .i64 (.var 33))]), (.agg [(.complex .f64 (.var 35) (.var 36)), (.int .i64 (.var 37))])], [], [none, none, none, none, none, none], (.tuple [(.bool (.var 4)), (.int .i64 (.var 38))]), []⟩
           (.ite (.icmp .eql (.var 38) (.lit 0))
           (.ret ⟨[], [(.var 4)], []⟩ [])
           (.ret ⟨[], [(.lit false)], []⟩ []))))
          (.ret ⟨[], [(.icmp .eql (.var 27) (.lit 0))], []⟩ []))
         (.ret ⟨[], [(.icmp .eql (.var 27) (.lit 0))], []⟩ []))))))
        (.ret ⟨[], [(.lit false)], []⟩ []))
       (.ret ⟨[], [(.lit false)], []⟩ []))
      (.ite (.icmp .eql (.var 16) (.lit 8))
       (.call _etalonlaw01_Whole__ball_s ⟨[(.var 3), (.var 4), (.var 5)], [], []⟩ ⟨[(.var 3), (.var 4), (.var 5), (.var 21), (.var 22), (.var 23)], [], []⟩ ⟨22, [(.agg [(.int .i64 (.var 3)), (.int .i64 (.var 4)), (.int .i64 (.var 5))])], [], [none, none, none, none], (.agg [(.complex .f64 (.var 21) (.var 22)), (.int .i64 (.var 23))]), []⟩
        (.call ball_Times_s ⟨[(.var 17), (.var 18), (.var 19), (.var 21), (.var 22), (.var 23)], [], []⟩ ⟨[(.var 17), (.var 18), (.var 19), (.var 21), (.var 22), (.var 23), (.var 24), (.var 25), (.var 26), (.var 27)], [], []⟩ ⟨36, [(.agg [(.complex .f64 (.var 17) (.var 18)), (.int .i64 (.var 19))]), (.agg [(.complex .f64 (.var 21) (.var 22)), (.int .i64 (.var 23))])], [], [none, none, none, none], (.tuple [(.agg [(.complex .f64 (.var 24) (.var 25)), (.int .i64 (.var 26))]), (.int .i64 (.var 27))]), []⟩
        (.call _etalonlaw01_Whole__ball_s ⟨[(.var 3), (.var 4), (.var 5)], [], []⟩ ⟨[(.var 3), (.var 4), (.var 5), (.var 28), (.var 29), (.var 30)], [], []⟩ ⟨22, [(.agg [(.int .i64 (.var 3)), (.int .i64 (.var 4)), (.int .i64 (.var 5))])], [], [none, none, none, none, none], (.agg [(.complex .f64 (.var 28) (.var 29)), (.int .i64 (.var 30))]), []⟩
        (.call ball_Quotient_s ⟨[(.var 24), (.var 25), (.var 26), (.var 28), (.var 29), (.var 30)], [], []⟩ ⟨[(.var 24), (.var 25), (.var 26), (.var 28), (.var 29), (.var 30), (.var 31), (.var 32), (.var 33), (.var 34)], [], []⟩ ⟨40, [(.agg [(.complex .f64 (.var 24) (.var 25)), (.int .i64 (.var 26))]), (.agg [(.complex .f64 (.var 28) (.var 29)), (.int .i64 (.var 30))])], [], [none, none, none, none, none], (.tuple [(.agg [(.complex .f64 (.var 31) (.var 32)), (.int .i64 (.var 33))]), (.int .i64 (.var 34))]), []⟩
        (.ite (.icmp .eql (.var 27) (.lit 0))
        (.ite (.icmp .eql (.var 34) (.lit 0))
         (.call _etalonlaw01_Whole__ball_s ⟨[(.var 0), (.var 1), (.var 2)], [], []⟩ ⟨[(.var 0), (.var 1), (.var 2), (.var 35), (.var 36), (.var 37)], [], []⟩ ⟨22, [(.agg [(.int .i64 (.var 0)), (.int .i64 (.var 1)), (.int .i64 (.var 2))])], [], [none, none, none, none, none, none], (.agg [(.complex .f64 (.var 35) (.var 36)), (.int .i64 (.var 37))]), []⟩
          (.call ball_Meets_s ⟨[(.var 31), (.var 32), (.var 33), (.var 35), (.var 36), (.var 37)], [], []⟩ ⟨[(.var 31), (.var 32), (.var 33), (.var 35), (.var 36), (.var 37), (.var 38)], [(.var 4)], []⟩ ⟨53, [(.agg [(.complex .f64 (.var 31) (.var 32)), (.int .i64 (.var 33))]), (.agg [(.complex .f64 (.var 35) (.var 36)), (.int .i64 (.var 37))])], [], [none, none, none, none, none, none], (.tuple [(.bool (.var 4)), (.int .i64 (.var 38))]), []⟩
          (.ite (.icmp .eql (.var 38) (.lit 0))
          (.ret ⟨[], [(.var 4)], []⟩ [])
          (.ret ⟨[], [(.lit false)], []⟩ []))))
         (.ret ⟨[], [(.icmp .eql (.var 27) (.lit 0))], []⟩ []))
        (.ret ⟨[], [(.icmp .eql (.var 27) (.lit 0))], []⟩ []))))))
       (.ret ⟨[], [(.lit false)], []⟩ []))))))
     (.call _etalonlaw01_Whole__ball_s ⟨[(.var 0), (.var 1), (.var 2)], [], []⟩ ⟨[(.var 0), (.var 1), (.var 2), (.var 13), (.var 14), (.var 15)], [], []⟩ ⟨22, [(.agg [(.int .i64 (.var 0)), (.int .i64 (.var 1)), (.int .i64 (.var 2))])], [], [none, none, none], (.agg [(.complex .f64 (.var 13) (.var 14)), (.int .i64 (.var 15))]), []⟩
      (.call _etalonlaw01_Whole__ball_s ⟨[(.var 3), (.var 4), (.var 5)], [], []⟩ ⟨[(.var 3), (.var 4), (.var 5), (.var 16), (.var 17), (.var 18)], [], []⟩ ⟨22, [(.agg [(.int .i64 (.var 3)), (.int .i64 (.var 4)), (.int .i64 (.var 5))])], [], [none, none, none], (.agg [(.complex .f64 (.var 16) (.var 17)), (.int .i64 (.var 18))]), []⟩
      (.call ball_Times_s ⟨[(.var 13), (.var 14), (.var 15), (.var 16), (.var 17), (.var 18)], [], []⟩ ⟨[(.var 13), (.var 14), (.var 15), (.var 16), (.var 17), (.var 18), (.var 19), (.var 20), (.var 21), (.var 22)], [], []⟩ ⟨36, [(.agg [(.complex .f64 (.var 13) (.var 14)), (.int .i64 (.var 15))]), (.agg [(.complex .f64 (.var 16) (.var 17)), (.int .i64 (.var 18))])], [], [none, none, none], (.tuple [(.agg [(.complex .f64 (.var 19) (.var 20)), (.int .i64 (.var 21))]), (.int .i64 (.var 22))]), []⟩
      (.call _etalonlaw01_Whole__ball_s ⟨[(.var 3), (.var 4), (.var 5)], [], []⟩ ⟨[(.var 3), (.var 4), (.var 5), (.var 23), (.var 24), (.var 25)], [], []⟩ ⟨22, [(.agg [(.int .i64 (.var 3)), (.int .i64 (.var 4)), (.int .i64 (.var 5))])], [], [none, none, none, none], (.agg [(.complex .f64 (.var 23) (.var 24)), (.int .i64 (.var 25))]), []⟩
      (.call ball_Quotient_s ⟨[(.var 19), (.var 20), (.var 21), (.var 23), (.var 24), (.var 25)], [], []⟩ ⟨[(.var 19), (.var 20), (.var 21), (.var 23), (.var 24), (.var 25), (.var 26), (.var 27), (.var 28), (.var 29)], [], []⟩ ⟨40, [(.agg [(.complex .f64 (.var 19) (.var 20)), (.int .i64 (.var 21))]), (.agg [(.complex .f64 (.var 23) (.var 24)), (.int .i64 (.var 25))])], [], [none, none, none, none], (.tuple [(.agg [(.complex .f64 (.var 26) (.var 27)), (.int .i64 (.var 28))]), (.int .i64 (.var 29))]), []⟩
      (.ite (.icmp .eql (.var 22) (.lit 0))
      (.ite (.icmp .eql (.var 29) (.lit 0))
       (.call _etalonlaw01_Whole__ball_s ⟨[(.var 0), (.var 1), (.var 2)], [], []⟩ ⟨[(.var 0), (.var 1), (.var 2), (.var 30), (.var 31), (.var 32)], [], []⟩ ⟨22, [(.agg [(.int .i64 (.var 0)), (.int .i64 (.var 1)), (.int .i64 (.var 2))])], [], [none, none, none, none, none], (.agg [(.complex .f64 (.var 30) (.var 31)), (.int .i64 (.var 32))]), []⟩
        (.call ball_Meets_s ⟨[(.var 26), (.var 27), (.var 28), (.var 30), (.var 31), (.var 32)], [], []⟩ ⟨[(.var 26), (.var 27), (.var 28), (.var 30), (.var 31), (.var 32), (.var 33)], [(.var 3)], []⟩ ⟨53, [(.agg [(.complex .f64 (.var 26) (.var 27)), (.int .i64 (.var 28))]), (.agg [(.complex .f64 (.var 30) (.var 31)), (.int .i64 (.var 32))])], [], [none, none, none, none, none], (.tuple [(.bool (.var 3)), (.int .i64 (.var 33))]), []⟩
        (.ite (.icmp .eql (.var 33) (.lit 0))
        (.ret ⟨[], [(.var 3)], []⟩ [])
        (.ret ⟨[], [(.lit false)], []⟩ []))))
       (.ret ⟨[], [(.icmp .eql (.var 22) (.lit 0))], []⟩ []))
      (.ret ⟨[], [(.icmp .eql (.var 22) (.lit 0))], []⟩ []))))))))))
    (.ret ⟨[], [(.lit true)], []⟩ [])))
   (.ret ⟨[], [(.lit true)], []⟩ [])))
  (.ret ⟨[], [(.lit false)], []⟩ [])))
theorem bsq {x0 x1 x2 x3 x4 x5 : Int} (r0 : (-9223372036854775808) ≤ x0 ∧ x0 ≤ 9223372036854775807) (r1 : (-9223372036854775808) ≤ x1 ∧ x1 ≤ 9223372036854775807) (r2 : (-9223372036854775808) ≤ x2 ∧ x2 ≤ 9223372036854775807) (r3 : (-9223372036854775808) ≤ x3 ∧ x3 ≤ 9223372036854775807) (r4 : (-9223372036854775808) ≤ x4 ∧ x4 ≤ 9223372036854775807) (r5 : (-9223372036854775808) ≤ x5 ∧ x5 ≤ 9223372036854775807) {R : Bool → Prop}
  (H : (∃ u0 : Bool, Spec Try.prog etalonlaw01_awake_s ⟨[], [], []⟩ [] [u0] [] ∧
   ((u0 = true → (∃ u1 : Bool, Spec Try.prog etalonlaw01_near_s ⟨[x0, x1, x2], [], []⟩ [] [u1] [] ∧
    ((u1 = true → (∃ u2 : Bool, Spec Try.prog etalonlaw01_near_s ⟨[x3, x4, x5], [], []⟩ [] [u2] [] ∧
     ((u2 = true → (∃ v6 : Int, ∃ v7 : Int, ∃ v8 : Int, Spec Try.prog _etalonlaw01_Whole__ball_s ⟨[x0, x1, x2], [], []⟩ [v6, v7, v8] [] [] ∧
      (∃ v9 : Int, ∃ v10 : Int, ∃ v11 : Int, ∃ v12 : Int, Spec Try.prog ball_Root_s ⟨[v6, v7, v8], [], []⟩ [v9, v10, v11, v12] [] [] ∧
      ((((v12 : Int) == 0) = true → (∃ v13 : Int, ∃ v14 : Int, ∃ v15 : Int, ∃ v16 : Int, Spec Try.prog ball_Times_s ⟨[v9, v10, v11, v9, v10, v11], [], []⟩ [v13, v14, v15, v16] [] [] ∧
       (∃ v17 : Int, ∃ v18 : Int, ∃ v19 : Int, Spec Try.prog _etalonlaw01_Whole__ball_s ⟨[x0, x1, x2], [], []⟩ [v17, v18, v19] [] [] ∧
       (∃ v20 : Int, ∃ u3 : Bool, Spec Try.prog ball_Meets_s ⟨[v13, v14, v15, v17, v18, v19], [], []⟩ [v20] [u3] [] ∧
       ((((v16 : Int) == 0) = true → ((((v20 : Int) == 0) = true → ((u3 = true → (∃ v21 : Int, ∃ v22 : Int, ∃ v23 : Int, Spec Try.prog _etalonlaw01_Whole__ball_s ⟨[x3, x4, x5], [], []⟩ [v21, v22, v23] [] [] ∧
          (∃ v24 : Int, ∃ v25 : Int, ∃ v26 : Int, ∃ v27 : Int, Spec Try.prog ball_Times_s ⟨[v17, v18, v19, v21, v22, v23], [], []⟩ [v24, v25, v26, v27] [] [] ∧
          (∃ v28 : Int, ∃ v29 : Int, ∃ v30 : Int, Spec Try.prog _etalonlaw01_Whole__ball_s ⟨[x3, x4, x5], [], []⟩ [v28, v29, v30] [] [] ∧
          (∃ v31 : Int, ∃ v32 : Int, ∃ v33 : Int, ∃ v34 : Int, Spec Try.prog ball_Quotient_s ⟨[v24, v25, v26, v28, v29, v30], [], []⟩ [v31, v32, v33, v34] [] [] ∧
          ((((v27 : Int) == 0) = true → ((((v34 : Int) == 0) = true → (∃ v35 : Int, ∃ v36 : Int, ∃ v37 : Int, Spec Try.prog _etalonlaw01_Whole__ball_s ⟨[x0, x1, x2], [], []⟩ [v35, v36, v37] [] [] ∧
            (∃ v38 : Int, ∃ u4 : Bool, Spec Try.prog ball_Meets_s ⟨[v31, v32, v33, v35, v36, v37], [], []⟩ [v38] [u4] [] ∧
            ((((v38 : Int) == 0) = true → R (u4)) ∧
            (((v38 : Int) == 0) = false → R (false)))))) ∧
           (((v34 : Int) == 0) = false → R (((v27 : Int) == 0))))) ∧
          (((v27 : Int) == 0) = false → R (((v27 : Int) == 0))))))))) ∧
         (u3 = false → R (false)))) ∧
        (((v20 : Int) == 0) = false → R (false)))) ∧
       (((v16 : Int) == 0) = false → ((((v16 : Int) == 8) = true → (∃ v21 : Int, ∃ v22 : Int, ∃ v23 : Int, Spec Try.prog _etalonlaw01_Whole__ball_s ⟨[x3, x4, x5], [], []⟩ [v21, v22, v23] [] [] ∧
         (∃ v24 : Int, ∃ v25 : Int, ∃ v26 : Int, ∃ v27 : Int, Spec Try.prog ball_Times_s ⟨[v17, v18, v19, v21, v22, v23], [], []⟩ [v24, v25, v26, v27] [] [] ∧
         (∃ v28 : Int, ∃ v29 : Int, ∃ v30 : Int, Spec Try.prog _etalonlaw01_Whole__ball_s ⟨[x3, x4, x5], [], []⟩ [v28, v29, v30] [] [] ∧
         (∃ v31 : Int, ∃ v32 : Int, ∃ v33 : Int, ∃ v34 : Int, Spec Try.prog ball_Quotient_s ⟨[v24, v25, v26, v28, v29, v30], [], []⟩ [v31, v32, v33, v34] [] [] ∧
         ((((v27 : Int) == 0) = true → ((((v34 : Int) == 0) = true → (∃ v35 : Int, ∃ v36 : Int, ∃ v37 : Int, Spec Try.prog _etalonlaw01_Whole__ball_s ⟨[x0, x1, x2], [], []⟩ [v35, v36, v37] [] [] ∧
           (∃ v38 : Int, ∃ u4 : Bool, Spec Try.prog ball_Meets_s ⟨[v31, v32, v33, v35, v36, v37], [], []⟩ [v38] [u4] [] ∧
           ((((v38 : Int) == 0) = true → R (u4)) ∧
           (((v38 : Int) == 0) = false → R (false)))))) ∧
          (((v34 : Int) == 0) = false → R (((v27 : Int) == 0))))) ∧
         (((v27 : Int) == 0) = false → R (((v27 : Int) == 0))))))))) ∧
        (((v16 : Int) == 8) = false → R (false))))))))) ∧
      (((v12 : Int) == 0) = false → (∃ v13 : Int, ∃ v14 : Int, ∃ v15 : Int, Spec Try.prog _etalonlaw01_Whole__ball_s ⟨[x0, x1, x2], [], []⟩ [v13, v14, v15] [] [] ∧
       (∃ v16 : Int, ∃ v17 : Int, ∃ v18 : Int, Spec Try.prog _etalonlaw01_Whole__ball_s ⟨[x3, x4, x5], [], []⟩ [v16, v17, v18] [] [] ∧
       (∃ v19 : Int, ∃ v20 : Int, ∃ v21 : Int, ∃ v22 : Int, Spec Try.prog ball_Times_s ⟨[v13, v14, v15, v16, v17, v18], [], []⟩ [v19, v20, v21, v22] [] [] ∧
       (∃ v23 : Int, ∃ v24 : Int, ∃ v25 : Int, Spec Try.prog _etalonlaw01_Whole__ball_s ⟨[x3, x4, x5], [], []⟩ [v23, v24, v25] [] [] ∧
       (∃ v26 : Int, ∃ v27 : Int, ∃ v28 : Int, ∃ v29 : Int, Spec Try.prog ball_Quotient_s ⟨[v19, v20, v21, v23, v24, v25], [], []⟩ [v26, v27, v28, v29] [] [] ∧
       ((((v22 : Int) == 0) = true → ((((v29 : Int) == 0) = true → (∃ v30 : Int, ∃ v31 : Int, ∃ v32 : Int, Spec Try.prog _etalonlaw01_Whole__ball_s ⟨[x0, x1, x2], [], []⟩ [v30, v31, v32] [] [] ∧
         (∃ v33 : Int, ∃ u3 : Bool, Spec Try.prog ball_Meets_s ⟨[v26, v27, v28, v30, v31, v32], [], []⟩ [v33] [u3] [] ∧
         ((((v33 : Int) == 0) = true → R (u3)) ∧
         (((v33 : Int) == 0) = false → R (false)))))) ∧
        (((v29 : Int) == 0) = false → R (((v22 : Int) == 0))))) ∧
       (((v22 : Int) == 0) = false → R (((v22 : Int) == 0)))))))))))))) ∧
     (u2 = false → R (true))))) ∧
    (u1 = false → R (true))))) ∧
   (u0 = false → R (false))))) :
    ∃ u0 : Bool, R u0 ∧ Spec Try.prog etalonlaw01_BallSquares_s ⟨[x0, x1, x2, x3, x4, x5], [], []⟩ [] [u0] [] :=
  Eq.mp (by kernel_rfl) (exV_of (K := fun d => app3 etalonlaw01_BallSquares_s.out R d ∧ Spec Try.prog etalonlaw01_BallSquares_s ⟨[x0, x1, x2, x3, x4, x5], [], []⟩ d.1 d.2.1 d.2.2) (tree_at mixed names S1_ok (S := S1 Try.prog) (lf := 100000) (d := 60) etalonlaw01_BallSquares_s bsq_t { ivs := [(0, (-9223372036854775808), 9223372036854775807), (1, (-9223372036854775808), 9223372036854775807), (2, (-9223372036854775808), 9223372036854775807), (3, (-9223372036854775808), 9223372036854775807), (4, (-9223372036854775808), 9223372036854775807), (5, (-9223372036854775808), 9223372036854775807)], aivs := [] } ⟨[x0, x1, x2, x3, x4, x5], [], []⟩ rfl (by kernel_rfl) (by kernel_rfl) (by kernel_rfl) ⟨(fc r0 (fc r1 (fc r2 (fc r3 (fc r4 (fc r5 fz)))))), fz, fz, fz⟩ (R := fun d => app3 etalonlaw01_BallSquares_s.out R d) (Eq.mp (by kernel_rfl) H)))

theorem outm {P : Program} {S : Sig} {V : Vs} {x : Int} {u : Bool} (h : ∃ a : Int, ∃ b : Bool, (a = x ∧ b = u) ∧ Spec P S V [a] [b] []) : Spec P S V [x] [u] [] := by

  obtain ⟨a, b, ⟨rfl, rfl⟩, hs⟩ := h

  exact hs

def meetB (X Y r Z W s : Int) : Bool := decide ((X - Z) * (X - Z) + (Y - W) * (Y - W) ≤ (r + s) * (r + s))

theorem meets_good {X Y r Z W s : Int} (hx : (-67108864) ≤ X ∧ X ≤ 67108864) (hy : (-67108864) ≤ Y ∧ Y ≤ 67108864) (hr : 0 ≤ r ∧ r ≤ 67108864) (hz : (-67108864) ≤ Z ∧ Z ≤ 67108864) (hw : (-67108864) ≤ W ∧ W ≤ 67108864) (hs : 0 ≤ s ∧ s ≤ 67108864) : Spec Try.prog ball_Meets_s ⟨[F X, F Y, r, F Z, F W, s], [], []⟩ [0] [meetB X Y r Z W s] [] :=

  outm (me hr hs (R := fun a b => a = 0 ∧ b = meetB X Y r Z W s) ⟨X, ⟨F_rp X, by omega⟩, hx, Y, ⟨F_rp Y, by omega⟩, hy, Z, ⟨F_rp Z, by omega⟩, hz, W, ⟨F_rp W, by omega⟩, hw, rfl, rfl⟩)

/-- The parts of a root by the greater one. -/

def ab1 (x : Int) : Int := if 0 ≤ x then x else 0 - x

def lsr (x y : Int) : Int := rdiv ((if 0 ≤ x then y else ab1 y) * 1048576) (2 * gre x y)

theorem gre_eq (x y : Int) : gre x y = rti ((dn x y + ab1 x) * 524288) := by

  unfold gre ab1

  congr 2; congr 1

  split <;> split <;> omega

theorem rdX_eq (x y : Int) : rdX x y = if 0 ≤ x then gre x y else lsr x y := by

  unfold rdX lsr ab1

  split

  · rfl

  · split <;> rfl

theorem rdY_eq (x y : Int) : rdY x y = if 0 ≤ x then lsr x y else if 0 ≤ y then gre x y else 0 - gre x y := by

  unfold rdY lsr

  split <;> rfl

theorem root_parts {x y r : Int} (hx : (-67108864) ≤ x ∧ x ≤ 67108864) (hy : (-67108864) ≤ y ∧ y ≤ 67108864) (hr : 0 ≤ r ∧ r ≤ 67108864) (hz : ¬ dn x y ≤ r) :

    Nrm (2 * gre x y * rdR x y r + rdR x y r * rdR x y r) (gre x y * gre x y - lsr x y * lsr x y - 1048576 * ab1 x) (2 * gre x y * lsr x y - 1048576 * (if 0 ≤ x then y else ab1 y)) ∧

    0 ≤ rdR x y r ∧ (2 * gre x y * lsr x y ≤ 2 * (gre x y * gre x y) + 5 * gre x y + 1048576 ∧ -(2 * (gre x y * gre x y) + 5 * gre x y + 1048576) ≤ 2 * gre x y * lsr x y) := by

  obtain ⟨f1, f2, f3, f4, f5, f6, f7⟩ := root_facts hx hy hr hz

  obtain ⟨z1, d1, u1⟩ := sz_bd hx hy

  have hD := rti_all z1.1

  change 0 ≤ dn x y ∧ dn x y * dn x y ≤ x * x + y * y ∧ x * x + y * y < dn x y * dn x y + 2 * dn x y + 1 at hD

  obtain ⟨D0, D1, D2⟩ := hD

  have a0 : 0 ≤ ab1 x := by unfold ab1; split <;> omega

  have hG := rti_all (n := (dn x y + ab1 x) * 524288) (by omega)

  rw [← gre_eq] at hG

  obtain ⟨G0, G1, G2⟩ := hG

  have sq : ab1 x * ab1 x + (if 0 ≤ x then y else ab1 y) * (if 0 ≤ x then y else ab1 y) = x * x + y * y := by

    unfold ab1

    split

    · rfl

    · split <;> grind

  have hL := rdiv_near ((if 0 ≤ x then y else ab1 y) * 1048576) (2 * gre x y) (by omega)

  change -(2 * gre x y) ≤ 2 * ((if 0 ≤ x then y else ab1 y) * 1048576 - 2 * gre x y * lsr x y) ∧ 2 * ((if 0 ≤ x then y else ab1 y) * 1048576 - 2 * gre x y * lsr x y) ≤ 2 * gre x y at hL

  have hR : rdR x y r = cdiv (r * 1048576) (rti (dn x y * 1048576)) + 3 + cdiv 1048576 (gre x y) := rfl

  have hcd := cdiv_ge 1048576 (gre x y) (by omega)

  clear f4 f5

  generalize (if 0 ≤ x then y else ab1 y) = y' at *

  generalize ab1 x = a at *

  generalize gre x y = G at *

  generalize lsr x y = L at *

  generalize dn x y = D at *

  generalize rdR x y r = R at *

  generalize cdiv 1048576 G = c at *

  generalize cdiv (r * 1048576) (rti (D * 1048576)) = e at *

  have e1 : (D + 1) * (D + 1) = D * D + 2 * D + 1 := by grind

  have hGR : 3 * G + 1048576 ≤ G * R := by

    rw [hR]

    have : G * (e + 3 + c) = G * e + 3 * G + G * c := by grind

    have := Int.mul_nonneg G0 f6.1

    omega

  have hy1 : y' ≤ D + 1 ∧ -(D + 1) ≤ y' := by

    have hA := msn a

    have : Nrm (D + 1) a y' := ⟨by omega, by omega⟩

    have := this.snd

    omega

  refine ⟨root_err rfl a0 (by omega) D0 (by omega) (by omega) (by omega) (by omega) hL.1 hL.2 hGR (by omega), by omega, ?_, ?_⟩

  · omega

  · omega

theorem root_meets {x y r : Int} (hx : (-67108864) ≤ x ∧ x ≤ 67108864) (hy : (-67108864) ≤ y ∧ y ≤ 67108864) (hr : 0 ≤ r ∧ r ≤ 67108864) (hz : ¬ dn x y ≤ r) :

    meetB (pX (rdX x y) (rdY x y) (rdX x y) (rdY x y)) (pY (rdX x y) (rdY x y) (rdX x y) (rdY x y)) (pR (rdX x y) (rdY x y) (rdR x y r) (rdX x y) (rdY x y) (rdR x y r)) x y r = true := by

  obtain ⟨hN, hR0, _⟩ := root_parts hx hy hr hz

  have hup := upw_nrm (rdX x y) (rdY x y)

  have hrn := rdiv_nrm (rdX x y * rdX x y - rdY x y * rdY x y) (rdX x y * rdY x y + rdY x y * rdX x y) 1048576 (by decide)

  have hE : Nrm (2 * gre x y * rdR x y r + rdR x y r * rdR x y r) (rdX x y * rdX x y - rdY x y * rdY x y - 1048576 * x) (rdX x y * rdY x y + rdY x y * rdX x y - 1048576 * y) ∧ gre x y * gre x y ≤ rdX x y * rdX x y + rdY x y * rdY x y := by

    rw [rdX_eq, rdY_eq]

    have m1 := msn (lsr x y)

    by_cases h0 : 0 ≤ x

    · have ea : ab1 x = x := by unfold ab1; rw [if_pos h0]

      rw [if_pos h0, ea] at hN

      rw [if_pos h0, if_pos h0]

      exact ⟨hN.cast rfl rfl (by grind), by omega⟩

    · have ea : ab1 x = 0 - x := by unfold ab1; rw [if_neg h0]

      rw [if_neg h0, ea] at hN

      rw [if_neg h0, if_neg h0]

      by_cases h1 : 0 ≤ y

      · have ey : ab1 y = y := by unfold ab1; rw [if_pos h1]

        rw [ey] at hN

        rw [if_pos h1]

        exact ⟨hN.neg.conj.cast rfl (by grind) (by grind), by omega⟩

      · have ey : ab1 y = 0 - y := by unfold ab1; rw [if_neg h1]

        rw [ey] at hN

        rw [if_neg h1]

        have m2 : (0 - gre x y) * (0 - gre x y) = gre x y * gre x y := by grind

        exact ⟨hN.neg.cast rfl (by grind) (by grind), by omega⟩

  obtain ⟨hE, hGle⟩ := hE

  have hUG : gre x y ≤ upw (rdX x y) (rdY x y) := le_of_sqv hup.1 (Int.le_trans hGle hup.2)

  have hc2 := cdiv_ge (upw (rdX x y) (rdY x y) * rdR x y r + upw (rdX x y) (rdY x y) * rdR x y r + rdR x y r * rdR x y r) 1048576 (by decide)

  have hGR : gre x y * rdR x y r ≤ upw (rdX x y) (rdY x y) * rdR x y r := Int.mul_le_mul_of_nonneg_right hUG hR0

  have hsp : 2 * gre x y * rdR x y r + rdR x y r * rdR x y r ≤ upw (rdX x y) (rdY x y) * rdR x y r + upw (rdX x y) (rdY x y) * rdR x y r + rdR x y r * rdR x y r := by

    have : 2 * gre x y * rdR x y r = 2 * (gre x y * rdR x y r) := by grind

    omega

  have hpr : pR (rdX x y) (rdY x y) (rdR x y r) (rdX x y) (rdY x y) (rdR x y r) = cdiv (upw (rdX x y) (rdY x y) * rdR x y r + upw (rdX x y) (rdY x y) * rdR x y r + rdR x y r * rdR x y r) 1048576 + mo2 (wholeB (rdX x y * rdX x y - rdY x y * rdY x y) 1048576) (wholeB (rdX x y * rdY x y + rdY x y * rdX x y) 1048576) := mo_add _ _ _

  change Nrm _ (_ - 1048576 * pX (rdX x y) (rdY x y) (rdX x y) (rdY x y)) (_ - 1048576 * pY (rdX x y) (rdY x y) (rdX x y) (rdY x y)) at hrn

  generalize pX (rdX x y) (rdY x y) (rdX x y) (rdY x y) = A at *

  generalize pY (rdX x y) (rdY x y) (rdX x y) (rdY x y) = B at *

  generalize pR (rdX x y) (rdY x y) (rdR x y r) (rdX x y) (rdY x y) (rdR x y r) = C at *

  generalize mo2 (wholeB (rdX x y * rdX x y - rdY x y * rdY x y) 1048576) (wholeB (rdX x y * rdY x y + rdY x y * rdX x y) 1048576) = δ at *

  generalize cdiv (upw (rdX x y) (rdY x y) * rdR x y r + upw (rdX x y) (rdY x y) * rdR x y r + rdR x y r * rdR x y r) 1048576 = cd at *

  have h1 := hE.sub hrn

  have h2 := h1.le (B := 1048576 * (C + r)) (by rw [hpr]; omega)

  have h3 : Nrm (C + r) (A - x) (B - y) := Nrm.unscale 1048576 (by decide) (h2.cast rfl (by grind) (by grind))

  unfold meetB

  exact decide_eq_true h3.2

theorem quo_meets {x y r u v s : Int} (r1 : 0 ≤ r) (s1 : 0 ≤ s) (hz : 0 < dn u v - s) :

    meetB (qX (pX x y u v) (pY x y u v) u v) (qY (pX x y u v) (pY x y u v) u v) (qR (pX x y u v) (pY x y u v) (pR x y r u v s) u v s) x y r = true ∧ 0 ≤ qR (pX x y u v) (pY x y u v) (pR x y r u v s) u v s := by

  have hX := Hlds.mid (X := x) (Y := y) (R := r) r1

  have hU := Hlds.mid (X := u) (Y := v) (R := s) s1

  have hP := holds_prod (by decide) (by decide) hX hU

  have hQ := holds_quo s1 hz (by decide) (by decide) hP hU

  have hf := far (D := 1) (by decide) hU (dn_sqv u v).1 (by omega) (dn_sqv u v).2

  have hn : 0 < u * u + v * v := Int.lt_of_lt_of_le (Int.mul_pos (by omega) (by omega)) hf

  refine ⟨?_, Int.nonneg_of_mul_nonneg_right hQ.1 (by omega)⟩

  unfold meetB

  exact decide_eq_true (Hlds.meet (by omega) (by decide) hQ hX (by grind) (by grind))

theorem cdiv_le9 {n d M : Int} (hd : 0 < d) (h : n ≤ d * M) : cdiv n d ≤ M := by

  have e := cdiv_spec' n hd

  rcases Int.lt_or_le M (cdiv n d) with g | g

  · have : d * M ≤ d * (cdiv n d - 1) := Int.mul_le_mul_of_nonneg_left (by omega) (by omega)

    omega

  · exact g

theorem root_small {x y r : Int} (h : nearB x y r) (hz : ¬ dn x y ≤ r) : ((-4194304) ≤ rdX x y ∧ rdX x y ≤ 4194304) ∧ ((-4194304) ≤ rdY x y ∧ rdY x y ≤ 4194304) ∧ 0 ≤ rdR x y r ∧ rdR x y r ≤ 110000 := by

  obtain ⟨hx, hy, hr⟩ := h

  obtain ⟨_, hR0, l1, l2⟩ := root_parts (x := x) (y := y) (r := r) (by omega) (by omega) (by omega) hz

  obtain ⟨f1, f2, f3, f4, f5, f6, f7⟩ := root_facts (X := x) (Y := y) (r := r) (by omega) (by omega) (by omega) hz

  have s1 := sq_bd hx

  have s2 := sq_bd hy

  have hD2 : dn x y ≤ 8388608 := rti_le (by omega) (by decide) (by omega)

  have a0 : 0 ≤ ab1 x ∧ ab1 x ≤ 4194304 := by unfold ab1; split <;> omega

  have hG : gre x y ≤ 2600000 := by rw [gre_eq]; exact rti_le (by omega) (by decide) (by omega)

  have c1 : cdiv (r * 1048576) (rti (dn x y * 1048576)) ≤ 102400 := cdiv_le9 (by omega) (by omega)

  have c2 : cdiv 1048576 (gre x y) ≤ 1449 := cdiv_le9 (by omega) (by omega)

  have hR : rdR x y r ≤ 110000 := by unfold rdR; omega

  have hL : (-2700000) ≤ lsr x y ∧ lsr x y ≤ 2700000 := by

    clear f4 f5 f6 f7 c1 c2

    generalize gre x y = G at *

    generalize lsr x y = L at *

    have g2 : G * G ≤ G * 2600000 := Int.mul_le_mul_of_nonneg_left hG (by omega)

    have e : 2 * G * L = 2 * (G * L) := by grind

    constructor

    · rcases Int.lt_or_le L (-2700000) with h | h

      · have : G * L ≤ G * (-2700001) := Int.mul_le_mul_of_nonneg_left (by omega) (by omega)

        omega

      · exact h

    · rcases Int.lt_or_le 2700000 L with h | h

      · have : G * 2700001 ≤ G * L := Int.mul_le_mul_of_nonneg_left (by omega) (by omega)

        omega

      · exact h

  rw [rdX_eq, rdY_eq]

  refine ⟨by split <;> omega, by split <;> (try split) <;> omega, hR0, hR⟩

theorem prod_near2 {X Y r : Int} (hx : (-4194304) ≤ X ∧ X ≤ 4194304) (hy : (-4194304) ≤ Y ∧ Y ≤ 4194304) (hr : 0 ≤ r ∧ r ≤ 110000) : okB (pX X Y X Y) (pY X Y X Y) (pR X Y r X Y r) ∧ 0 ≤ pR X Y r X Y r := by

  have m1 := mb hx hx

  have m2 := mb hy hy

  have m3 := mb hx hy

  have m4 := mb hy hx

  have b1 := sq_bd hx

  have b2 := sq_bd hy

  have u1 : 0 ≤ upw X Y ∧ upw X Y ≤ 5931642 := ⟨(rtu_all (by omega)).1, rtu_le (by omega) (by decide) (by omega)⟩

  have p1 : 0 ≤ upw X Y * r ∧ upw X Y * r ≤ 5931642 * 110000 := ⟨Int.mul_nonneg u1.1 hr.1, Int.mul_le_mul u1.2 hr.2 hr.1 (by decide)⟩

  have p3 : 0 ≤ r * r ∧ r * r ≤ 110000 * 110000 := ⟨Int.mul_nonneg hr.1 hr.1, Int.mul_le_mul hr.2 hr.2 hr.1 (by decide)⟩

  have c : 0 ≤ cdiv (upw X Y * r + upw X Y * r + r * r) 1048576 ∧ cdiv (upw X Y * r + upw X Y * r + r * r) 1048576 ≤ 2000000 := by unfold cdiv; omega

  have mm := mo2_nn (wholeB (X * X - Y * Y) 1048576) (wholeB (X * Y + Y * X) 1048576)

  have m5 : mo2 (wholeB (X * X - Y * Y) 1048576) (wholeB (X * Y + Y * X) 1048576) ≤ 1 := by unfold mo2; split <;> decide

  have e : pR X Y r X Y r = _ := mo_add _ _ _

  have x1 : (-67108864) ≤ pX X Y X Y ∧ pX X Y X Y ≤ 67108864 := by unfold pX rdiv; omega

  have x2 : (-67108864) ≤ pY X Y X Y ∧ pY X Y X Y ≤ 67108864 := by unfold pY rdiv; omega

  exact ⟨⟨x1, x2, by omega⟩, by omega⟩

theorem root_W' {X Y r : Int} (hX : InF X) (hY : InF Y) (hr : I64 r) : Spec Try.prog ball_Root_s ⟨[F X, F Y, r], [], []⟩ [F (opV rootQ X Y r).x, F (opV rootQ X Y r).y, (opV rootQ X Y r).r, (opV rootQ X Y r).e] [] [] := by

  have := root_p (U_fi hX) (U_fi hY) hr

  rwa [op1_V rootQ hX hY] at this

set_option maxHeartbeats 1000000 in

theorem squares {x0 x1 x2 x3 x4 x5 : Int} (r0 : I64 x0) (r1 : I64 x1) (r2 : I64 x2) (r3 : I64 x3) (r4 : I64 x4) (r5 : I64 x5) : Spec Try.prog etalonlaw01_BallSquares_s ⟨[x0, x1, x2, x3, x4, x5], [], []⟩ [] [true] [] := by

  obtain ⟨u, hu, hus⟩ := near_s r0 r1 r2

  obtain ⟨v, hv, hvs⟩ := near_s r3 r4 r5

  refine outt (bsq r0 r1 r2 r3 r4 r5 (R := (· = true)) ⟨_, awake_t, fun _ => ⟨_, hus, fun h => ⟨_, hvs, fun g => ?_, fun _ => rfl⟩, fun _ => rfl⟩, fun h => by cases h⟩)

  have n1 := hu.1 h

  have n2 := hv.1 g

  clear hu hv hus hvs h g

  have w0 := wball_s r0 r1 r2

  have w1 := wball_s r3 r4 r5

  obtain ⟨hx, hy, hr⟩ := id n1

  obtain ⟨hz, hw, hs⟩ := id n2

  have i0 : InF x0 := ⟨by omega, by omega⟩

  have i1 : InF x1 := ⟨by omega, by omega⟩

  have i3 : InF x3 := ⟨by omega, by omega⟩

  have i4 : InF x4 := ⟨by omega, by omega⟩

  rw [cutI_id i0, cutI_id i1] at w0

  rw [cutI_id i3, cutI_id i4] at w1

  have c1 := ckW_near n1

  have c2 := ckW_near n2

  have cc : fe (ckW x0 x1 x2) (ckW x3 x4 x5) = 0 := by unfold fe; rw [if_pos c1]; exact c2

  have t2 := times_W' i0 i1 r2 i3 i4 r5

  have pn := prod_near n1 n2

  have kt : timesQ x0 x1 x2 x3 x4 x5 = ⟨pX x0 x1 x3 x4, pY x0 x1 x3 x4, pR x0 x1 x2 x3 x4 x5, 0⟩ := if_pos pn.1

  rw [opW_ok (f := timesQ) cc, kt] at t2

  have ckp := ckW_ok pn.1 pn.2

  have ipx : InF (pX x0 x1 x3 x4) := ⟨by have := pn.1.1; omega, by have := pn.1.1; omega⟩

  have ipy : InF (pY x0 x1 x3 x4) := ⟨by have := pn.1.2.1; omega, by have := pn.1.2.1; omega⟩

  have t3 := quot_W' ipx ipy (r := pR x0 x1 x2 x3 x4 x5) (by have := pn.1.2.2; have := pn.2; omega) i3 i4 r5

  rw [opW_ok (f := quotQ) (by unfold fe; rw [if_pos ckp]; exact c2)] at t3

  -- the quotient of the product

  have tail : ∃ q : Bq, Spec Try.prog ball_Quotient_s ⟨[F (pX x0 x1 x3 x4), F (pY x0 x1 x3 x4), pR x0 x1 x2 x3 x4 x5, F x3, F x4, x5], [], []⟩ [F q.x, F q.y, q.r, q.e] [] [] ∧ (q.e = 0 → Spec Try.prog ball_Meets_s ⟨[F q.x, F q.y, q.r, F x0, F x1, x2], [], []⟩ [0] [true] []) := by

    refine ⟨_, t3, ?_⟩

    rw [quotQ_eq]

    by_cases hl : dn x3 x4 - x5 ≤ 0

    · rw [if_pos hl]; intro h; simp [be] at h

    · rw [if_neg hl]

      have qm := quo_meets (x := x0) (y := x1) (r := x2) (u := x3) (v := x4) (s := x5) hr.1 hs.1 (by omega)

      rcases bk_split (x := qX (pX x0 x1 x3 x4) (pY x0 x1 x3 x4) x3 x4) (y := qY (pX x0 x1 x3 x4) (pY x0 x1 x3 x4) x3 x4) (r := qR (pX x0 x1 x3 x4) (pY x0 x1 x3 x4) (pR x0 x1 x2 x3 x4 x5) x3 x4 x5) with ⟨hk, ek⟩ | ⟨_, ek⟩

      · rw [ek]

        intro _

        have := meets_good hk.1 hk.2.1 ⟨qm.2, hk.2.2⟩ (Z := x0) (W := x1) (s := x2) (by omega) (by omega) (by omega)

        rw [qm.1] at this

        exact this

      · rw [ek]; intro h; simp [be] at h

  obtain ⟨q, tq, mq⟩ := tail

  -- the root

  have rt := root_W' i0 i1 r2

  rw [opV_ok (f := rootQ) c1] at rt

  have head : ∃ p : Bq, Spec Try.prog ball_Root_s ⟨[F x0, F x1, x2], [], []⟩ [F p.x, F p.y, p.r, p.e] [] [] ∧ (p.e = 0 → ∃ A B C : Int, Spec Try.prog ball_Times_s ⟨[F p.x, F p.y, p.r, F p.x, F p.y, p.r], [], []⟩ [F A, F B, C, 0] [] [] ∧ Spec Try.prog ball_Meets_s ⟨[F A, F B, C, F x0, F x1, x2], [], []⟩ [0] [true] []) := by

    refine ⟨_, rt, ?_⟩

    unfold rootQ

    by_cases hl : dn x0 x1 ≤ x2

    · rw [if_pos hl]; intro h; simp [be] at h

    · rw [if_neg hl]

      by_cases hq : x0 < 0 ∧ ((0 - x2) ≤ x1 ∧ x1 ≤ x2) ∧ x2 ≠ 0

      · rw [if_pos hq]; intro h; simp [be] at h

      · rw [if_neg hq]

        obtain ⟨s1, s2, s3, s4⟩ := root_small n1 hl

        have ek : bk (rdX x0 x1) (rdY x0 x1) (rdR x0 x1 x2) = ⟨rdX x0 x1, rdY x0 x1, rdR x0 x1 x2, 0⟩ := if_pos ⟨by omega, by omega, by omega⟩

        rw [ek]

        intro _

        have ix : InF (rdX x0 x1) := ⟨by omega, by omega⟩

        have iy : InF (rdY x0 x1) := ⟨by omega, by omega⟩

        have ckr : ckW (rdX x0 x1) (rdY x0 x1) (rdR x0 x1 x2) = 0 := by unfold ckW; rw [if_pos (by omega)]

        have tt := times_W' ix iy (r := rdR x0 x1 x2) (by omega) ix iy (s := rdR x0 x1 x2) (by omega)

        rw [opW_ok (f := timesQ) (by unfold fe; rw [if_pos ckr]; exact ckr), timesQ_eq] at tt

        have pn2 := prod_near2 s1 s2 ⟨s3, s4⟩

        have e2 : bk (pX (rdX x0 x1) (rdY x0 x1) (rdX x0 x1) (rdY x0 x1)) (pY (rdX x0 x1) (rdY x0 x1) (rdX x0 x1) (rdY x0 x1)) (pR (rdX x0 x1) (rdY x0 x1) (rdR x0 x1 x2) (rdX x0 x1) (rdY x0 x1) (rdR x0 x1 x2)) = ⟨_, _, _, 0⟩ := if_pos pn2.1

        rw [e2] at tt

        have mm := meets_good pn2.1.1 pn2.1.2.1 ⟨pn2.2, pn2.1.2.2⟩ (Z := x0) (W := x1) (s := x2) (by omega) (by omega) (by omega)

        rw [root_meets (by omega) (by omega) (by omega) hl] at mm

        exact ⟨_, _, _, tt, mm⟩

  obtain ⟨p, tp, mp⟩ := head

  have fin : ∃ v24 : Int, ∃ v25 : Int, ∃ v26 : Int, ∃ v27 : Int, Spec Try.prog ball_Times_s ⟨[F x0, F x1, x2, F x3, F x4, x5], [], []⟩ [v24, v25, v26, v27] [] [] := ⟨_, _, _, _, t2⟩

  refine ⟨_, _, _, w0, _, _, _, _, tp, fun he => ?_, fun _ => ⟨_, _, _, w0, _, _, _, w1, _, _, _, _, t2, _, _, _, w1, _, _, _, _, tq, fun _ => ⟨fun hq => ⟨_, _, _, w0, _, _, mq (by simpa using hq), fun _ => rfl, fun h => by simp at h⟩, fun _ => rfl⟩, fun h => by simp at h⟩⟩

  obtain ⟨A, B, C, ta, ma⟩ := mp (by simpa using he)

  exact ⟨_, _, _, _, ta, _, _, _, w0, _, _, ma, fun _ => ⟨fun _ => ⟨fun _ => ⟨_, _, _, w1, _, _, _, _, t2, _, _, _, w1, _, _, _, _, tq, fun _ => ⟨fun hq => ⟨_, _, _, w0, _, _, mq (by simpa using hq), fun _ => rfl, fun h => by simp at h⟩, fun _ => rfl⟩, fun h => by simp at h⟩, fun h => by cases h⟩, fun h => by simp at h⟩, fun h => by simp at h⟩

end Go.Proofs.Ytgdhpgjfebinhaa.Ev
