/- Roots of balls, of the program and of the reference; BallRoots. -/
import Derived.Test.YtgdhpgjfebinhaaFbm
namespace Go.Proofs.Ytgdhpgjfebinhaa.Ev
set_option linter.unusedSimpArgs false
open Go Go.RowKit
set_option linter.unusedVariables false
set_option maxRecDepth 100000
def _ball_disc__root_s : Sig := ⟨104, ⟨3, 0, 0⟩, ⟨3, 0, 0⟩, [(.agg [(.complex .f64 (.var 0) (.var 1)), (.int .i64 (.var 2))])], [], (.agg [(.complex .f64 (.var 3) (.var 4)), (.int .i64 (.var 5))]), []⟩
def ball_Root_s : Sig := ⟨42, ⟨3, 0, 0⟩, ⟨4, 0, 0⟩, [(.agg [(.complex .f64 (.var 0) (.var 1)), (.int .i64 (.var 2))])], [], (.tuple [(.agg [(.complex .f64 (.var 3) (.var 4)), (.int .i64 (.var 5))]), (.int .i64 (.var 6))]), []⟩
def ball_RealRoot_s : Sig := ⟨43, ⟨2, 0, 0⟩, ⟨4, 0, 0⟩, [(.agg [(.int .i64 (.var 0)), (.int .i64 (.var 1))])], [], (.tuple [(.agg [(.complex .f64 (.var 2) (.var 3)), (.int .i64 (.var 4))]), (.int .i64 (.var 5))]), []⟩
def etalonref01_Root_s : Sig := ⟨44, ⟨3, 0, 0⟩, ⟨4, 0, 0⟩, [(.agg [(.int .i64 (.var 0)), (.int .i64 (.var 1)), (.int .i64 (.var 2))])], [], (.tuple [(.agg [(.int .i64 (.var 3)), (.int .i64 (.var 4)), (.int .i64 (.var 5))]), (.int .i64 (.var 6))]), []⟩
def etalonref01_RealRoot_s : Sig := ⟨45, ⟨2, 0, 0⟩, ⟨4, 0, 0⟩, [(.agg [(.int .i64 (.var 0)), (.int .i64 (.var 1))])], [], (.tuple [(.agg [(.int .i64 (.var 2)), (.int .i64 (.var 3)), (.int .i64 (.var 4))]), (.int .i64 (.var 5))]), []⟩
def etalonref01_Turned_s : Sig := ⟨31, ⟨4, 0, 0⟩, ⟨3, 0, 0⟩, [(.agg [(.int .i64 (.var 0)), (.int .i64 (.var 1)), (.int .i64 (.var 2))]), (.int .i64 (.var 3))], [], (.agg [(.int .i64 (.var 4)), (.int .i64 (.var 5)), (.int .i64 (.var 6))]), []⟩
def etalonlaw01_BallRoots_s : Sig := ⟨7, ⟨5, 0, 0⟩, ⟨0, 1, 0⟩, [(.agg [(.int .i64 (.var 0)), (.int .i64 (.var 1)), (.int .i64 (.var 2))]), (.agg [(.int .i64 (.var 3)), (.int .i64 (.var 4))])], [], (.bool (.var 0)), []⟩

def rt1_t : Tr :=
  (.whole 0 67108864 (.rng 3 (-67108864) 67108864 (.whole 1 67108864 (.rng 4 (-67108864) 67108864 (.call whole_RootDown_s ⟨[(.bin .addI (.bin .mulI (.var 3) (.var 3)) (.bin .mulI (.var 4) (.var 4)))], [], []⟩ ⟨[(.bin .addI (.bin .mulI (.var 3) (.var 3)) (.bin .mulI (.var 4) (.var 4))), (.var 5)], [], []⟩ ⟨105, [(.int .i64 (.bin .addI (.bin .mulI (.var 3) (.var 3)) (.bin .mulI (.var 4) (.var 4))))], [], [none, none], (.int .i64 (.var 5)), []⟩
  (.rng 5 0 100000000 (.call whole_RootDown_s ⟨[(.bin .mulI (.bin .addI (.var 5) (.bin .maxI (.var 3) (.bin .subI (.lit 0) (.var 3)))) (.lit 524288))], [], []⟩ ⟨[(.bin .mulI (.bin .addI (.var 5) (.bin .maxI (.var 3) (.bin .subI (.lit 0) (.var 3)))) (.lit 524288)), (.var 6)], [], []⟩ ⟨105, [(.int .i64 (.bin .mulI (.bin .addI (.var 5) (.bin .maxI (.var 3) (.bin .subI (.lit 0) (.var 3)))) (.lit 524288)))], [], [none, none, none], (.int .i64 (.var 6)), []⟩
  (.rng 6 0 100000000 (.call whole_RootDown_s ⟨[(.bin .mulI (.var 5) (.lit 1048576))], [], []⟩ ⟨[(.bin .mulI (.var 5) (.lit 1048576)), (.var 7)], [], []⟩ ⟨105, [(.int .i64 (.bin .mulI (.var 5) (.lit 1048576)))], [], [none, none, none, none], (.int .i64 (.var 7)), []⟩
  (.rng 7 0 100000000 (.call whole_Upper_s ⟨[(.var 2), (.lit 1048576), (.var 7)], [], []⟩ ⟨[(.var 2), (.lit 1048576), (.var 7), (.var 8)], [], []⟩ ⟨93, [(.int .i64 (.var 2)), (.int .i64 (.lit 1048576)), (.int .i64 (.var 7))], [], [none, none, none, none], (.int .i64 (.var 8)), []⟩
  (.rng 8 0 4503599627370496 (.call whole_Upper_s ⟨[(.lit 1048576), (.lit 1), (.var 6)], [], []⟩ ⟨[(.lit 1048576), (.lit 1), (.var 6), (.var 9)], [], []⟩ ⟨93, [(.int .i64 (.lit 1048576)), (.int .i64 (.lit 1)), (.int .i64 (.var 6))], [], [none, none, none, none], (.int .i64 (.var 9)), []⟩
  (.rng 9 0 4503599627370496 (.ite (.icmp .leq (.lit 0) (.var 3))
  (.call whole_Nearest_s ⟨[(.var 4), (.lit 1048576), (.bin .mulI (.lit 2) (.var 6))], [], []⟩ ⟨[(.var 4), (.lit 1048576), (.bin .mulI (.lit 2) (.var 6)), (.var 10)], [(.var 0)], []⟩ ⟨130, [(.int .i64 (.var 4)), (.int .i64 (.lit 1048576)), (.int .i64 (.bin .mulI (.lit 2) (.var 6)))], [], [none, none, none, none], (.tuple [(.int .i64 (.var 10)), (.bool (.var 0))]), []⟩
   (.rng 10 (-4503599627370496) 4503599627370496 (.ret ⟨[(.toF .f64 (.var 6)), (.toF .f64 (.var 10)), (.bin .addI (.bin .addI (.var 8) (.lit 3)) (.var 9))], [], []⟩ [])))
  (.ite (.icmp .leq (.lit 0) (.var 4))
   (.call whole_Nearest_s ⟨[(.var 4), (.lit 1048576), (.bin .mulI (.lit 2) (.var 6))], [], []⟩ ⟨[(.var 4), (.lit 1048576), (.bin .mulI (.lit 2) (.var 6)), (.var 10)], [(.var 0)], []⟩ ⟨130, [(.int .i64 (.var 4)), (.int .i64 (.lit 1048576)), (.int .i64 (.bin .mulI (.lit 2) (.var 6)))], [], [none, none, none, none], (.tuple [(.int .i64 (.var 10)), (.bool (.var 0))]), []⟩
    (.rng 10 (-4503599627370496) 4503599627370496 (.ret ⟨[(.toF .f64 (.var 10)), (.toF .f64 (.var 6)), (.bin .addI (.bin .addI (.var 8) (.lit 3)) (.var 9))], [], []⟩ [])))
   (.call whole_Nearest_s ⟨[(.bin .subI (.lit 0) (.var 4)), (.lit 1048576), (.bin .mulI (.lit 2) (.var 6))], [], []⟩ ⟨[(.bin .subI (.lit 0) (.var 4)), (.lit 1048576), (.bin .mulI (.lit 2) (.var 6)), (.var 10)], [(.var 0)], []⟩ ⟨130, [(.int .i64 (.bin .subI (.lit 0) (.var 4))), (.int .i64 (.lit 1048576)), (.int .i64 (.bin .mulI (.lit 2) (.var 6)))], [], [none, none, none, none], (.tuple [(.int .i64 (.var 10)), (.bool (.var 0))]), []⟩
    (.rng 10 (-4503599627370496) 4503599627370496 (.ret ⟨[(.toF .f64 (.var 10)), (.toF .f64 (.bin .subI (.lit 0) (.var 6))), (.bin .addI (.bin .addI (.var 8) (.lit 3)) (.var 9))], [], []⟩ [])))))))))))))))))))
theorem rt1 {x0 x1 x2 : Int} (r2 : 0 ≤ x2 ∧ x2 ≤ 67108864) {R : Int → Int → Int → Prop}
  (H : (∃ v3 : Int, (Rp (x0 : Int).toNat v3 ∧ v3.natAbs ≤ 67108864) ∧ (((-67108864) ≤ (v3 : Int) ∧ (v3 : Int) ≤ 67108864) ∧ (∃ v4 : Int, (Rp (x1 : Int).toNat v4 ∧ v4.natAbs ≤ 67108864) ∧ (((-67108864) ≤ (v4 : Int) ∧ (v4 : Int) ≤ 67108864) ∧ (∃ v5 : Int, Spec Try.prog whole_RootDown_s ⟨[((v3 * v3) + (v4 * v4))], [], []⟩ [v5] [] [] ∧
   ((0 ≤ (v5 : Int) ∧ (v5 : Int) ≤ 100000000) ∧ (∃ v6 : Int, Spec Try.prog whole_RootDown_s ⟨[((v5 + (if ((0 - v3) : Int) > v3 then (0 - v3) else v3)) * 524288)], [], []⟩ [v6] [] [] ∧
   ((0 ≤ (v6 : Int) ∧ (v6 : Int) ≤ 100000000) ∧ (∃ v7 : Int, Spec Try.prog whole_RootDown_s ⟨[(v5 * 1048576)], [], []⟩ [v7] [] [] ∧
   ((0 ≤ (v7 : Int) ∧ (v7 : Int) ≤ 100000000) ∧ (∃ v8 : Int, Spec Try.prog whole_Upper_s ⟨[x2, 1048576, v7], [], []⟩ [v8] [] [] ∧
   ((0 ≤ (v8 : Int) ∧ (v8 : Int) ≤ 4503599627370496) ∧ (∃ v9 : Int, Spec Try.prog whole_Upper_s ⟨[1048576, 1, v6], [], []⟩ [v9] [] [] ∧
   ((0 ≤ (v9 : Int) ∧ (v9 : Int) ≤ 4503599627370496) ∧ ((decide ((0 : Int) ≤ v3) = true → (∃ v10 : Int, ∃ u0 : Bool, Spec Try.prog whole_Nearest_s ⟨[v4, 1048576, (2 * v6)], [], []⟩ [v10] [u0] [] ∧
    (((-4503599627370496) ≤ (v10 : Int) ∧ (v10 : Int) ≤ 4503599627370496) ∧ R (((FloatKind.f64.nearest v6 : Nat) : Int)) (((FloatKind.f64.nearest v10 : Nat) : Int)) (((v8 + 3) + v9))))) ∧
   (decide ((0 : Int) ≤ v3) = false → ((decide ((0 : Int) ≤ v4) = true → (∃ v10 : Int, ∃ u0 : Bool, Spec Try.prog whole_Nearest_s ⟨[v4, 1048576, (2 * v6)], [], []⟩ [v10] [u0] [] ∧
     (((-4503599627370496) ≤ (v10 : Int) ∧ (v10 : Int) ≤ 4503599627370496) ∧ R (((FloatKind.f64.nearest v10 : Nat) : Int)) (((FloatKind.f64.nearest v6 : Nat) : Int)) (((v8 + 3) + v9))))) ∧
    (decide ((0 : Int) ≤ v4) = false → (∃ v10 : Int, ∃ u0 : Bool, Spec Try.prog whole_Nearest_s ⟨[(0 - v4), 1048576, (2 * v6)], [], []⟩ [v10] [u0] [] ∧
     (((-4503599627370496) ≤ (v10 : Int) ∧ (v10 : Int) ≤ 4503599627370496) ∧ R (((FloatKind.f64.nearest v10 : Nat) : Int)) (((FloatKind.f64.nearest (0 - v6) : Nat) : Int)) (((v8 + 3) + v9))))))))))))))))))))))) :
    ∃ v0 : Int, ∃ v1 : Int, ∃ v2 : Int, R v0 v1 v2 ∧ Spec Try.prog _ball_disc__root_s ⟨[x0, x1, x2], [], []⟩ [v0, v1, v2] [] [] :=
  Eq.mp (by kernel_rfl) (exV_of (K := fun d => app3 _ball_disc__root_s.out R d ∧ Spec Try.prog _ball_disc__root_s ⟨[x0, x1, x2], [], []⟩ d.1 d.2.1 d.2.2) (tree_at mixed names S1_ok (S := S1 Try.prog) (lf := 100000) (d := 60) _ball_disc__root_s rt1_t { ivs := [(2, 0, 67108864)], aivs := [] } ⟨[x0, x1, x2], [], []⟩ rfl (by kernel_rfl) (by kernel_rfl) (by kernel_rfl) ⟨(fc r2 fz), fz, fz, fz⟩ (R := fun d => app3 _ball_disc__root_s.out R d) (Eq.mp (by kernel_rfl) H)))

def ro2_t : Tr :=
  (.whole 0 67108864 (.rng 3 (-67108864) 67108864 (.whole 1 67108864 (.rng 4 (-67108864) 67108864 (.call whole_RootDown_s ⟨[(.bin .addI (.bin .mulI (.var 3) (.var 3)) (.bin .mulI (.var 4) (.var 4)))], [], []⟩ ⟨[(.bin .addI (.bin .mulI (.var 3) (.var 3)) (.bin .mulI (.var 4) (.var 4))), (.var 5)], [], []⟩ ⟨105, [(.int .i64 (.bin .addI (.bin .mulI (.var 3) (.var 3)) (.bin .mulI (.var 4) (.var 4))))], [], [none, none, none, none, none, none], (.int .i64 (.var 5)), []⟩
  (.rng 5 0 100000000 (.ite (.icmp .leq (.var 5) (.var 2))
  (.ret ⟨[(.lit 0), (.lit 0), (.lit 0), (.lit 9)], [], []⟩ [])
  (.ite (.icmp .leq (.lit 0) (.var 3))
   (.call _ball_disc__root_s ⟨[(.var 0), (.var 1), (.var 2)], [], []⟩ ⟨[(.var 0), (.var 1), (.var 2), (.var 6), (.var 7), (.var 8)], [], []⟩ ⟨104, [(.agg [(.complex .f64 (.var 0) (.var 1)), (.int .i64 (.var 2))])], [], [none, none, none, none, none, none, none], (.agg [(.complex .f64 (.var 6) (.var 7)), (.int .i64 (.var 8))]), []⟩
    (.whole 6 4503599627370496 (.rng 9 (-4503599627370496) 4503599627370496 (.whole 7 4503599627370496 (.rng 10 (-4503599627370496) 4503599627370496 (.ite (.icmp .leq (.lit (-67108864)) (.var 9))
    (.ite (.icmp .leq (.var 9) (.lit 67108864))
     (.ite (.icmp .leq (.lit (-67108864)) (.var 10))
      (.ite (.icmp .leq (.var 10) (.lit 67108864))
       (.ite (.icmp .leq (.var 8) (.lit 67108864))
        (.ret ⟨[(.toF .f64 (.var 9)), (.toF .f64 (.var 10)), (.var 8), (.lit 0)], [], []⟩ [])
        (.ret ⟨[(.lit 0), (.lit 0), (.lit 0), (.lit 8)], [], []⟩ []))
       (.ret ⟨[(.lit 0), (.lit 0), (.lit 0), (.lit 8)], [], []⟩ []))
      (.ret ⟨[(.lit 0), (.lit 0), (.lit 0), (.lit 8)], [], []⟩ []))
     (.ret ⟨[(.lit 0), (.lit 0), (.lit 0), (.lit 8)], [], []⟩ []))
    (.ret ⟨[(.lit 0), (.lit 0), (.lit 0), (.lit 8)], [], []⟩ [])))))))
   (.ite (.icmp .leq (.bin .subI (.lit 0) (.var 2)) (.var 4))
    (.ite (.icmp .leq (.var 4) (.var 2))
     (.ite (.icmp .eql (.var 2) (.lit 0))
      (.call _ball_disc__root_s ⟨[(.var 0), (.var 1), (.var 2)], [], []⟩ ⟨[(.var 0), (.var 1), (.var 2), (.var 6), (.var 7), (.var 8)], [], []⟩ ⟨104, [(.agg [(.complex .f64 (.var 0) (.var 1)), (.int .i64 (.var 2))])], [], [none, none, none, none, none, none, none], (.agg [(.complex .f64 (.var 6) (.var 7)), (.int .i64 (.var 8))]), []⟩
       (.whole 6 4503599627370496 (.rng 9 (-4503599627370496) 4503599627370496 (.whole 7 4503599627370496 (.rng 10 (-4503599627370496) 4503599627370496 (.ite (.icmp .leq (.lit (-67108864)) (.var 9))
       (.ite (.icmp .leq (.var 9) (.lit 67108864))
        (.ite (.icmp .leq (.lit (-67108864)) (.var 10))
         (.ite (.icmp .leq (.var 10) (.lit 67108864))
          (.ite (.icmp .leq (.var 8) (.lit 67108864))
           (.ret ⟨[(.toF .f64 (.var 9)), (.toF .f64 (.var 10)), (.var 8), (.lit 0)], [], []⟩ [])
           (.ret ⟨[(.lit 0), (.lit 0), (.lit 0), (.lit 8)], [], []⟩ []))
          (.ret ⟨[(.lit 0), (.lit 0), (.lit 0), (.lit 8)], [], []⟩ []))
         (.ret ⟨[(.lit 0), (.lit 0), (.lit 0), (.lit 8)], [], []⟩ []))
        (.ret ⟨[(.lit 0), (.lit 0), (.lit 0), (.lit 8)], [], []⟩ []))
       (.ret ⟨[(.lit 0), (.lit 0), (.lit 0), (.lit 8)], [], []⟩ [])))))))
      (.ret ⟨[(.lit 0), (.lit 0), (.lit 0), (.lit 14)], [], []⟩ []))
     (.call _ball_disc__root_s ⟨[(.var 0), (.var 1), (.var 2)], [], []⟩ ⟨[(.var 0), (.var 1), (.var 2), (.var 6), (.var 7), (.var 8)], [], []⟩ ⟨104, [(.agg [(.complex .f64 (.var 0) (.var 1)), (.int .i64 (.var 2))])], [], [none, none, none, none, none, none, none], (.agg [(.complex .f64 (.var 6) (.var 7)), (.int .i64 (.var 8))]), []⟩
      (.whole 6 4503599627370496 (.rng 9 (-4503599627370496) 4503599627370496 (.whole 7 4503599627370496 (.rng 10 (-4503599627370496) 4503599627370496 (.ite (.icmp .leq (.lit (-67108864)) (.var 9))
      (.ite (.icmp .leq (.var 9) (.lit 67108864))
       (.ite (.icmp .leq (.lit (-67108864)) (.var 10))
        (.ite (.icmp .leq (.var 10) (.lit 67108864))
         (.ite (.icmp .leq (.var 8) (.lit 67108864))
          (.ret ⟨[(.toF .f64 (.var 9)), (.toF .f64 (.var 10)), (.var 8), (.lit 0)], [], []⟩ [])
          (.ret ⟨[(.lit 0), (.lit 0), (.lit 0), (.lit 8)], [], []⟩ []))
         (.ret ⟨[(.lit 0), (.lit 0), (.lit 0), (.lit 8)], [], []⟩ []))
        (.ret ⟨[(.lit 0), (.lit 0), (.lit 0), (.lit 8)], [], []⟩ []))
       (.ret ⟨[(.lit 0), (.lit 0), (.lit 0), (.lit 8)], [], []⟩ []))
      (.ret ⟨[(.lit 0), (.lit 0), (.lit 0), (.lit 8)], [], []⟩ []))))))))
    (.call _ball_disc__root_s ⟨[(.var 0), (.var 1), (.var 2)], [], []⟩ ⟨[(.var 0), (.var 1), (.var 2), (.var 6), (.var 7), (.var 8)], [], []⟩ ⟨104, [(.agg [(.complex .f64 (.var 0) (.var 1)), (.int .i64 (.var 2))])], [], [none, none, none, none, none, none, none], (.agg [(.complex .f64 (.var 6) (.var 7)), (.int .i64 (.var 8))]), []⟩
     (.whole 6 4503599627370496 (.rng 9 (-4503599627370496) 4503599627370496 (.whole 7 4503599627370496 (.rng 10 (-4503599627370496) 4503599627370496 (.ite (.icmp .leq (.lit (-67108864)) (.var 9))
     (.ite (.icmp .leq (.var 9) (.lit 67108864))
      (.ite (.icmp .leq (.lit (-67108864)) (.var 10))
       (.ite (.icmp .leq (.var 10) (.lit 67108864))
        (.ite (.icmp .leq (.var 8) (.lit 67108864))
         (.ret ⟨[(.toF .f64 (.var 9)), (.toF .f64 (.var 10)), (.var 8), (.lit 0)], [], []⟩ [])
         (.ret ⟨[(.lit 0), (.lit 0), (.lit 0), (.lit 8)], [], []⟩ []))
        (.ret ⟨[(.lit 0), (.lit 0), (.lit 0), (.lit 8)], [], []⟩ []))
       (.ret ⟨[(.lit 0), (.lit 0), (.lit 0), (.lit 8)], [], []⟩ []))
      (.ret ⟨[(.lit 0), (.lit 0), (.lit 0), (.lit 8)], [], []⟩ []))
     (.ret ⟨[(.lit 0), (.lit 0), (.lit 0), (.lit 8)], [], []⟩ []))))))))))))))))
theorem ro2 {x0 x1 x2 : Int} (r2 : 0 ≤ x2 ∧ x2 ≤ 67108864) {R : Int → Int → Int → Int → Prop}
  (H : (∃ v3 : Int, (Rp (x0 : Int).toNat v3 ∧ v3.natAbs ≤ 67108864) ∧ (((-67108864) ≤ (v3 : Int) ∧ (v3 : Int) ≤ 67108864) ∧ (∃ v4 : Int, (Rp (x1 : Int).toNat v4 ∧ v4.natAbs ≤ 67108864) ∧ (((-67108864) ≤ (v4 : Int) ∧ (v4 : Int) ≤ 67108864) ∧ (∃ v5 : Int, Spec Try.prog whole_RootDown_s ⟨[((v3 * v3) + (v4 * v4))], [], []⟩ [v5] [] [] ∧
   ((0 ≤ (v5 : Int) ∧ (v5 : Int) ≤ 100000000) ∧ ((decide ((v5 : Int) ≤ x2) = true → R (0) (0) (0) (9)) ∧
   (decide ((v5 : Int) ≤ x2) = false → ((decide ((0 : Int) ≤ v3) = true → (∃ v6 : Int, ∃ v7 : Int, ∃ v8 : Int, Spec Try.prog _ball_disc__root_s ⟨[x0, x1, x2], [], []⟩ [v6, v7, v8] [] [] ∧
     (∃ v9 : Int, (Rp (v6 : Int).toNat v9 ∧ v9.natAbs ≤ 4503599627370496) ∧ (((-4503599627370496) ≤ (v9 : Int) ∧ (v9 : Int) ≤ 4503599627370496) ∧ (∃ v10 : Int, (Rp (v7 : Int).toNat v10 ∧ v10.natAbs ≤ 4503599627370496) ∧ (((-4503599627370496) ≤ (v10 : Int) ∧ (v10 : Int) ≤ 4503599627370496) ∧ ((decide (((-67108864) : Int) ≤ v9) = true → ((decide ((v9 : Int) ≤ 67108864) = true → ((decide (((-67108864) : Int) ≤ v10) = true → ((decide ((v10 : Int) ≤ 67108864) = true → ((decide ((v8 : Int) ≤ 67108864) = true → R (((FloatKind.f64.nearest v9 : Nat) : Int)) (((FloatKind.f64.nearest v10 : Nat) : Int)) (v8) (0)) ∧
         (decide ((v8 : Int) ≤ 67108864) = false → R (0) (0) (0) (8)))) ∧
        (decide ((v10 : Int) ≤ 67108864) = false → R (0) (0) (0) (8)))) ∧
       (decide (((-67108864) : Int) ≤ v10) = false → R (0) (0) (0) (8)))) ∧
      (decide ((v9 : Int) ≤ 67108864) = false → R (0) (0) (0) (8)))) ∧
     (decide (((-67108864) : Int) ≤ v9) = false → R (0) (0) (0) (8))))))))) ∧
    (decide ((0 : Int) ≤ v3) = false → ((decide (((0 - x2) : Int) ≤ v4) = true → ((decide ((v4 : Int) ≤ x2) = true → ((((x2 : Int) == 0) = true → (∃ v6 : Int, ∃ v7 : Int, ∃ v8 : Int, Spec Try.prog _ball_disc__root_s ⟨[x0, x1, x2], [], []⟩ [v6, v7, v8] [] [] ∧
        (∃ v9 : Int, (Rp (v6 : Int).toNat v9 ∧ v9.natAbs ≤ 4503599627370496) ∧ (((-4503599627370496) ≤ (v9 : Int) ∧ (v9 : Int) ≤ 4503599627370496) ∧ (∃ v10 : Int, (Rp (v7 : Int).toNat v10 ∧ v10.natAbs ≤ 4503599627370496) ∧ (((-4503599627370496) ≤ (v10 : Int) ∧ (v10 : Int) ≤ 4503599627370496) ∧ ((decide (((-67108864) : Int) ≤ v9) = true → ((decide ((v9 : Int) ≤ 67108864) = true → ((decide (((-67108864) : Int) ≤ v10) = true → ((decide ((v10 : Int) ≤ 67108864) = true → ((decide ((v8 : Int) ≤ 67108864) = true → R (((FloatKind.f64.nearest v9 : Nat) : Int)) (((FloatKind.f64.nearest v10 : Nat) : Int)) (v8) (0)) ∧
            (decide ((v8 : Int) ≤ 67108864) = false → R (0) (0) (0) (8)))) ∧
           (decide ((v10 : Int) ≤ 67108864) = false → R (0) (0) (0) (8)))) ∧
          (decide (((-67108864) : Int) ≤ v10) = false → R (0) (0) (0) (8)))) ∧
         (decide ((v9 : Int) ≤ 67108864) = false → R (0) (0) (0) (8)))) ∧
        (decide (((-67108864) : Int) ≤ v9) = false → R (0) (0) (0) (8))))))))) ∧
       (((x2 : Int) == 0) = false → R (0) (0) (0) (14)))) ∧
      (decide ((v4 : Int) ≤ x2) = false → (∃ v6 : Int, ∃ v7 : Int, ∃ v8 : Int, Spec Try.prog _ball_disc__root_s ⟨[x0, x1, x2], [], []⟩ [v6, v7, v8] [] [] ∧
       (∃ v9 : Int, (Rp (v6 : Int).toNat v9 ∧ v9.natAbs ≤ 4503599627370496) ∧ (((-4503599627370496) ≤ (v9 : Int) ∧ (v9 : Int) ≤ 4503599627370496) ∧ (∃ v10 : Int, (Rp (v7 : Int).toNat v10 ∧ v10.natAbs ≤ 4503599627370496) ∧ (((-4503599627370496) ≤ (v10 : Int) ∧ (v10 : Int) ≤ 4503599627370496) ∧ ((decide (((-67108864) : Int) ≤ v9) = true → ((decide ((v9 : Int) ≤ 67108864) = true → ((decide (((-67108864) : Int) ≤ v10) = true → ((decide ((v10 : Int) ≤ 67108864) = true → ((decide ((v8 : Int) ≤ 67108864) = true → R (((FloatKind.f64.nearest v9 : Nat) : Int)) (((FloatKind.f64.nearest v10 : Nat) : Int)) (v8) (0)) ∧
           (decide ((v8 : Int) ≤ 67108864) = false → R (0) (0) (0) (8)))) ∧
          (decide ((v10 : Int) ≤ 67108864) = false → R (0) (0) (0) (8)))) ∧
         (decide (((-67108864) : Int) ≤ v10) = false → R (0) (0) (0) (8)))) ∧
        (decide ((v9 : Int) ≤ 67108864) = false → R (0) (0) (0) (8)))) ∧
       (decide (((-67108864) : Int) ≤ v9) = false → R (0) (0) (0) (8))))))))))) ∧
     (decide (((0 - x2) : Int) ≤ v4) = false → (∃ v6 : Int, ∃ v7 : Int, ∃ v8 : Int, Spec Try.prog _ball_disc__root_s ⟨[x0, x1, x2], [], []⟩ [v6, v7, v8] [] [] ∧
      (∃ v9 : Int, (Rp (v6 : Int).toNat v9 ∧ v9.natAbs ≤ 4503599627370496) ∧ (((-4503599627370496) ≤ (v9 : Int) ∧ (v9 : Int) ≤ 4503599627370496) ∧ (∃ v10 : Int, (Rp (v7 : Int).toNat v10 ∧ v10.natAbs ≤ 4503599627370496) ∧ (((-4503599627370496) ≤ (v10 : Int) ∧ (v10 : Int) ≤ 4503599627370496) ∧ ((decide (((-67108864) : Int) ≤ v9) = true → ((decide ((v9 : Int) ≤ 67108864) = true → ((decide (((-67108864) : Int) ≤ v10) = true → ((decide ((v10 : Int) ≤ 67108864) = true → ((decide ((v8 : Int) ≤ 67108864) = true → R (((FloatKind.f64.nearest v9 : Nat) : Int)) (((FloatKind.f64.nearest v10 : Nat) : Int)) (v8) (0)) ∧
          (decide ((v8 : Int) ≤ 67108864) = false → R (0) (0) (0) (8)))) ∧
         (decide ((v10 : Int) ≤ 67108864) = false → R (0) (0) (0) (8)))) ∧
        (decide (((-67108864) : Int) ≤ v10) = false → R (0) (0) (0) (8)))) ∧
       (decide ((v9 : Int) ≤ 67108864) = false → R (0) (0) (0) (8)))) ∧
      (decide (((-67108864) : Int) ≤ v9) = false → R (0) (0) (0) (8))))))))))))))))))))) :
    ∃ v0 : Int, ∃ v1 : Int, ∃ v2 : Int, ∃ v3 : Int, R v0 v1 v2 v3 ∧ Spec Try.prog ball_Root_s ⟨[x0, x1, x2], [], []⟩ [v0, v1, v2, v3] [] [] :=
  Eq.mp (by kernel_rfl) (exV_of (K := fun d => app3 ball_Root_s.out R d ∧ Spec Try.prog ball_Root_s ⟨[x0, x1, x2], [], []⟩ d.1 d.2.1 d.2.2) (tree_at mixed names S1_ok (S := S1 Try.prog) (lf := 100000) (d := 60) ball_Root_s ro2_t { ivs := [(2, 0, 67108864)], aivs := [] } ⟨[x0, x1, x2], [], []⟩ rfl (by kernel_rfl) (by kernel_rfl) (by kernel_rfl) ⟨(fc r2 fz), fz, fz, fz⟩ (R := fun d => app3 ball_Root_s.out R d) (Eq.mp (by kernel_rfl) H)))

def rob_t : Tr :=
  (.call ball_CheckBall_s ⟨[(.var 0), (.var 1), (.var 2)], [], []⟩ ⟨[(.var 0), (.var 1), (.var 2), (.var 3)], [], []⟩ ⟨134, [(.agg [(.complex .f64 (.var 0) (.var 1)), (.int .i64 (.var 2))])], [], [none, none, none, none], (.int .i64 (.var 3)), []⟩
  (.ite (.icmp .eql (.var 3) (.lit 0))
  .nil
  (.ret ⟨[(.lit 0), (.lit 0), (.lit 0), (.var 3)], [], []⟩ [])))
theorem rob {x0 x1 x2 : Int} (r2 : (-9223372036854775808) ≤ x2 ∧ x2 ≤ 9223372036854775807) {R : Int → Int → Int → Int → Prop}
  (H : (∃ v3 : Int, Spec Try.prog ball_CheckBall_s ⟨[x0, x1, x2], [], []⟩ [v3] [] [] ∧
   ((((v3 : Int) == 0) = true → False) ∧
   (((v3 : Int) == 0) = false → R (0) (0) (0) (v3))))) :
    ∃ v0 : Int, ∃ v1 : Int, ∃ v2 : Int, ∃ v3 : Int, R v0 v1 v2 v3 ∧ Spec Try.prog ball_Root_s ⟨[x0, x1, x2], [], []⟩ [v0, v1, v2, v3] [] [] :=
  Eq.mp (by kernel_rfl) (exV_of (K := fun d => app3 ball_Root_s.out R d ∧ Spec Try.prog ball_Root_s ⟨[x0, x1, x2], [], []⟩ d.1 d.2.1 d.2.2) (tree_at mixed names S1_ok (S := S1 Try.prog) (lf := 100000) (d := 60) ball_Root_s rob_t { ivs := [(2, (-9223372036854775808), 9223372036854775807)], aivs := [] } ⟨[x0, x1, x2], [], []⟩ rfl (by kernel_rfl) (by kernel_rfl) (by kernel_rfl) ⟨(fc r2 fz), fz, fz, fz⟩ (R := fun d => app3 ball_Root_s.out R d) (Eq.mp (by kernel_rfl) H)))

def rrp_t : Tr :=
  (.call span_Check_s ⟨[(.var 0), (.var 1), (.lit (-67108864)), (.lit 67108864)], [], []⟩ ⟨[(.var 0), (.var 1), (.lit (-67108864)), (.lit 67108864), (.var 2)], [], []⟩ ⟨64, [(.agg [(.int .i64 (.var 0)), (.int .i64 (.var 1))]), (.int .i64 (.lit (-67108864))), (.int .i64 (.lit 67108864))], [], [none, none], (.int .i64 (.var 2)), []⟩
  (.ite (.icmp .eql (.var 2) (.lit 0))
  (.ite (.icmp .leq (.lit 0) (.var 0))
   (.call whole_RootDown_s ⟨[(.bin (.mulW .i64) (.var 0) (.lit 1048576))], [], []⟩ ⟨[(.bin (.mulW .i64) (.var 0) (.lit 1048576)), (.var 3)], [], []⟩ ⟨105, [(.int .i64 (.bin (.mulW .i64) (.var 0) (.lit 1048576)))], [], [none, none], (.int .i64 (.var 3)), []⟩
    (.call whole_RootUp_s ⟨[(.bin (.mulW .i64) (.var 1) (.lit 1048576))], [], []⟩ ⟨[(.bin (.mulW .i64) (.var 1) (.lit 1048576)), (.var 4)], [], []⟩ ⟨106, [(.int .i64 (.bin (.mulW .i64) (.var 1) (.lit 1048576)))], [], [none, none], (.int .i64 (.var 4)), []⟩
    (.call ball_OfRange_s ⟨[(.var 3), (.var 4)], [], []⟩ ⟨[(.var 3), (.var 4), (.var 5), (.var 6), (.var 7), (.var 8)], [], []⟩ ⟨17, [(.agg [(.int .i64 (.var 3)), (.int .i64 (.var 4))])], [], [none, none], (.tuple [(.agg [(.complex .f64 (.var 5) (.var 6)), (.int .i64 (.var 7))]), (.int .i64 (.var 8))]), []⟩
    (.ret ⟨[(.var 5), (.var 6), (.var 7), (.var 8)], [], []⟩ []))))
   (.ite (.icmp .leq (.var 1) (.lit 0))
    (.call ball_RealRoot_s ⟨[(.bin (.subW .i64) (.lit 0) (.var 1)), (.bin (.subW .i64) (.lit 0) (.var 0))], [], []⟩ ⟨[(.bin (.subW .i64) (.lit 0) (.var 1)), (.bin (.subW .i64) (.lit 0) (.var 0)), (.var 3), (.var 4), (.var 5), (.var 6)], [], []⟩ ⟨43, [(.agg [(.int .i64 (.bin (.subW .i64) (.lit 0) (.var 1))), (.int .i64 (.bin (.subW .i64) (.lit 0) (.var 0)))])], [], [none, none], (.tuple [(.agg [(.complex .f64 (.var 3) (.var 4)), (.int .i64 (.var 5))]), (.int .i64 (.var 6))]), []⟩
     (.rng 5 0 67108864 (.whole 3 67108864 (.rng 7 (-67108864) 67108864 (.whole 4 67108864 (.rng 8 (-67108864) 67108864 (.ite (.icmp .eql (.var 6) (.lit 0))
     (.ret ⟨[(.toF .f64 (.bin .subI (.lit 0) (.var 8))), (.toF .f64 (.var 7)), (.var 5), (.lit 0)], [], []⟩ [])
     (.ret ⟨[(.lit 0), (.lit 0), (.lit 0), (.var 6)], [], []⟩ []))))))))
    (.ret ⟨[(.lit 0), (.lit 0), (.lit 0), (.lit 14)], [], []⟩ [])))
  (.ret ⟨[(.lit 0), (.lit 0), (.lit 0), (.var 2)], [], []⟩ [])))
theorem rrp {x0 x1 : Int} (r0 : (-9223372036854775808) ≤ x0 ∧ x0 ≤ 9223372036854775807) (r1 : (-9223372036854775808) ≤ x1 ∧ x1 ≤ 9223372036854775807) {R : Int → Int → Int → Int → Prop}
  (H : (∃ v2 : Int, Spec Try.prog span_Check_s ⟨[x0, x1, (-67108864), 67108864], [], []⟩ [v2] [] [] ∧
   ((((v2 : Int) == 0) = true → ((decide ((0 : Int) ≤ x0) = true → (∃ v3 : Int, Spec Try.prog whole_RootDown_s ⟨[IntKind.i64.wrap (x0 * 1048576)], [], []⟩ [v3] [] [] ∧
     (∃ v4 : Int, Spec Try.prog whole_RootUp_s ⟨[IntKind.i64.wrap (x1 * 1048576)], [], []⟩ [v4] [] [] ∧
     (∃ v5 : Int, ∃ v6 : Int, ∃ v7 : Int, ∃ v8 : Int, Spec Try.prog ball_OfRange_s ⟨[v3, v4], [], []⟩ [v5, v6, v7, v8] [] [] ∧
     R (v5) (v6) (v7) (v8))))) ∧
    (decide ((0 : Int) ≤ x0) = false → ((decide ((x1 : Int) ≤ 0) = true → (∃ v3 : Int, ∃ v4 : Int, ∃ v5 : Int, ∃ v6 : Int, Spec Try.prog ball_RealRoot_s ⟨[IntKind.i64.wrap (0 - x1), IntKind.i64.wrap (0 - x0)], [], []⟩ [v3, v4, v5, v6] [] [] ∧
      ((0 ≤ (v5 : Int) ∧ (v5 : Int) ≤ 67108864) ∧ (∃ v7 : Int, (Rp (v3 : Int).toNat v7 ∧ v7.natAbs ≤ 67108864) ∧ (((-67108864) ≤ (v7 : Int) ∧ (v7 : Int) ≤ 67108864) ∧ (∃ v8 : Int, (Rp (v4 : Int).toNat v8 ∧ v8.natAbs ≤ 67108864) ∧ (((-67108864) ≤ (v8 : Int) ∧ (v8 : Int) ≤ 67108864) ∧ ((((v6 : Int) == 0) = true → R (((FloatKind.f64.nearest (0 - v8) : Nat) : Int)) (((FloatKind.f64.nearest v7 : Nat) : Int)) (v5) (0)) ∧
      (((v6 : Int) == 0) = false → R (0) (0) (0) (v6)))))))))) ∧
     (decide ((x1 : Int) ≤ 0) = false → R (0) (0) (0) (14)))))) ∧
   (((v2 : Int) == 0) = false → R (0) (0) (0) (v2))))) :
    ∃ v0 : Int, ∃ v1 : Int, ∃ v2 : Int, ∃ v3 : Int, R v0 v1 v2 v3 ∧ Spec Try.prog ball_RealRoot_s ⟨[x0, x1], [], []⟩ [v0, v1, v2, v3] [] [] :=
  Eq.mp (by kernel_rfl) (exV_of (K := fun d => app3 ball_RealRoot_s.out R d ∧ Spec Try.prog ball_RealRoot_s ⟨[x0, x1], [], []⟩ d.1 d.2.1 d.2.2) (tree_at mixed names S1_ok (S := S1 Try.prog) (lf := 100000) (d := 60) ball_RealRoot_s rrp_t { ivs := [(0, (-9223372036854775808), 9223372036854775807), (1, (-9223372036854775808), 9223372036854775807)], aivs := [] } ⟨[x0, x1], [], []⟩ rfl (by kernel_rfl) (by kernel_rfl) (by kernel_rfl) ⟨(fc r0 (fc r1 fz)), fz, fz, fz⟩ (R := fun d => app3 ball_RealRoot_s.out R d) (Eq.mp (by kernel_rfl) H)))

def rro1_t : Tr :=
  (.call _etalonref01_B__Down_s ⟨[(.var 0), (.var 1), (.var 2)], [], []⟩ ⟨[(.var 0), (.var 1), (.var 2), (.var 3)], [], []⟩ ⟨100, [(.agg [(.int .i64 (.var 0)), (.int .i64 (.var 1)), (.int .i64 (.var 2))])], [], [none, none], (.int .i64 (.var 3)), []⟩
  (.rng 3 0 100000000 (.ite (.icmp .leq (.var 3) (.var 2))
  (.ret ⟨[(.lit 0), (.lit 0), (.lit 0), (.lit 9)], [], []⟩ [])
  (.ite (.icmp .leq (.lit 0) (.var 0))
   (.call etalonbase_Root_s ⟨[(.bin .mulI (.bin .addI (.var 3) (.var 0)) (.lit 524288))], [], []⟩ ⟨[(.bin .mulI (.bin .addI (.var 3) (.var 0)) (.lit 524288)), (.var 4)], [], []⟩ ⟨108, [(.int .i64 (.bin .mulI (.bin .addI (.var 3) (.var 0)) (.lit 524288)))], [], [none, none, none], (.int .i64 (.var 4)), []⟩
    (.rng 4 0 100000000 (.call etalonref01_scaledRounded_s ⟨[(.var 1), (.bin .mulI (.lit 2) (.var 4))], [], []⟩ ⟨[(.var 1), (.bin .mulI (.lit 2) (.var 4)), (.var 5)], [(.var 0)], []⟩ ⟨73, [(.int .i64 (.var 1)), (.int .i64 (.bin .mulI (.lit 2) (.var 4)))], [], [none, none, none], (.tuple [(.int .i64 (.var 5)), (.bool (.var 0))]), []⟩
    (.call etalonbase_Root_s ⟨[(.bin .mulI (.var 3) (.lit 1048576))], [], []⟩ ⟨[(.bin .mulI (.var 3) (.lit 1048576)), (.var 6)], [], []⟩ ⟨108, [(.int .i64 (.bin .mulI (.var 3) (.lit 1048576)))], [], [none, none, none], (.int .i64 (.var 6)), []⟩
    (.rng 6 0 100000000 (.call etalonbase_Ceil_s ⟨[(.bin .mulI (.var 2) (.lit 1048576)), (.var 6)], [], []⟩ ⟨[(.bin .mulI (.var 2) (.lit 1048576)), (.var 6), (.var 7)], [], []⟩ ⟨95, [(.int .i64 (.bin .mulI (.var 2) (.lit 1048576))), (.int .i64 (.var 6))], [], [none, none, none], (.int .i64 (.var 7)), []⟩
    (.rng 7 0 4503599627370496 (.call etalonbase_Ceil_s ⟨[(.lit 1048576), (.var 4)], [], []⟩ ⟨[(.lit 1048576), (.var 4), (.var 8)], [], []⟩ ⟨95, [(.int .i64 (.lit 1048576)), (.int .i64 (.var 4))], [], [none, none, none], (.int .i64 (.var 8)), []⟩
    (.rng 8 0 4503599627370496 (.call _etalonref01_B__Checked_s ⟨[(.var 4), (.var 5), (.bin .addI (.bin .addI (.var 7) (.lit 3)) (.var 8))], [], []⟩ ⟨[(.var 4), (.var 5), (.bin .addI (.bin .addI (.var 7) (.lit 3)) (.var 8)), (.var 9), (.var 10), (.var 11), (.var 12)], [], []⟩ ⟨72, [(.agg [(.int .i64 (.var 4)), (.int .i64 (.var 5)), (.int .i64 (.bin .addI (.bin .addI (.var 7) (.lit 3)) (.var 8)))])], [], [none, none, none], (.tuple [(.agg [(.int .i64 (.var 9)), (.int .i64 (.var 10)), (.int .i64 (.var 11))]), (.int .i64 (.var 12))]), []⟩
    (.ret ⟨[(.var 9), (.var 10), (.var 11), (.var 12)], [], []⟩ [])))))))))))
   (.ite (.icmp .leq (.bin .maxI (.var 1) (.bin .subI (.lit 0) (.var 1))) (.var 2))
    (.ite (.icmp .eql (.var 2) (.lit 0))
     (.call etalonbase_Root_s ⟨[(.bin .mulI (.bin .subI (.var 3) (.var 0)) (.lit 524288))], [], []⟩ ⟨[(.bin .mulI (.bin .subI (.var 3) (.var 0)) (.lit 524288)), (.var 4)], [], []⟩ ⟨108, [(.int .i64 (.bin .mulI (.bin .subI (.var 3) (.var 0)) (.lit 524288)))], [], [none, none, none], (.int .i64 (.var 4)), []⟩
      (.rng 4 0 100000000 (.call etalonref01_scaledRounded_s ⟨[(.bin .maxI (.var 1) (.bin .subI (.lit 0) (.var 1))), (.bin .mulI (.lit 2) (.var 4))], [], []⟩ ⟨[(.bin .maxI (.var 1) (.bin .subI (.lit 0) (.var 1))), (.bin .mulI (.lit 2) (.var 4)), (.var 5)], [(.var 0)], []⟩ ⟨73, [(.int .i64 (.bin .maxI (.var 1) (.bin .subI (.lit 0) (.var 1)))), (.int .i64 (.bin .mulI (.lit 2) (.var 4)))], [], [none, none, none], (.tuple [(.int .i64 (.var 5)), (.bool (.var 0))]), []⟩
      (.ite (.icmp .leq (.lit 0) (.var 1))
      (.call etalonbase_Root_s ⟨[(.bin .mulI (.var 3) (.lit 1048576))], [], []⟩ ⟨[(.bin .mulI (.var 3) (.lit 1048576)), (.var 6)], [], []⟩ ⟨108, [(.int .i64 (.bin .mulI (.var 3) (.lit 1048576)))], [], [none, none, none], (.int .i64 (.var 6)), []⟩
       (.rng 6 0 100000000 (.call etalonbase_Ceil_s ⟨[(.bin .mulI (.var 2) (.lit 1048576)), (.var 6)], [], []⟩ ⟨[(.bin .mulI (.var 2) (.lit 1048576)), (.var 6), (.var 7)], [], []⟩ ⟨95, [(.int .i64 (.bin .mulI (.var 2) (.lit 1048576))), (.int .i64 (.var 6))], [], [none, none, none], (.int .i64 (.var 7)), []⟩
       (.rng 7 0 4503599627370496 (.call etalonbase_Ceil_s ⟨[(.lit 1048576), (.var 4)], [], []⟩ ⟨[(.lit 1048576), (.var 4), (.var 8)], [], []⟩ ⟨95, [(.int .i64 (.lit 1048576)), (.int .i64 (.var 4))], [], [none, none, none], (.int .i64 (.var 8)), []⟩
       (.rng 8 0 4503599627370496 (.call _etalonref01_B__Checked_s ⟨[(.var 5), (.var 4), (.bin .addI (.bin .addI (.var 7) (.lit 3)) (.var 8))], [], []⟩ ⟨[(.var 5), (.var 4), (.bin .addI (.bin .addI (.var 7) (.lit 3)) (.var 8)), (.var 9), (.var 10), (.var 11), (.var 12)], [], []⟩ ⟨72, [(.agg [(.int .i64 (.var 5)), (.int .i64 (.var 4)), (.int .i64 (.bin .addI (.bin .addI (.var 7) (.lit 3)) (.var 8)))])], [], [none, none, none], (.tuple [(.agg [(.int .i64 (.var 9)), (.int .i64 (.var 10)), (.int .i64 (.var 11))]), (.int .i64 (.var 12))]), []⟩
       (.ret ⟨[(.var 9), (.var 10), (.var 11), (.var 12)], [], []⟩ []))))))))
      (.call etalonbase_Root_s ⟨[(.bin .mulI (.var 3) (.lit 1048576))], [], []⟩ ⟨[(.bin .mulI (.var 3) (.lit 1048576)), (.var 6)], [], []⟩ ⟨108, [(.int .i64 (.bin .mulI (.var 3) (.lit 1048576)))], [], [none, none, none], (.int .i64 (.var 6)), []⟩
       (.rng 6 0 100000000 (.call etalonbase_Ceil_s ⟨[(.bin .mulI (.var 2) (.lit 1048576)), (.var 6)], [], []⟩ ⟨[(.bin .mulI (.var 2) (.lit 1048576)), (.var 6), (.var 7)], [], []⟩ ⟨95, [(.int .i64 (.bin .mulI (.var 2) (.lit 1048576))), (.int .i64 (.var 6))], [], [none, none, none], (.int .i64 (.var 7)), []⟩
       (.rng 7 0 4503599627370496 (.call etalonbase_Ceil_s ⟨[(.lit 1048576), (.var 4)], [], []⟩ ⟨[(.lit 1048576), (.var 4), (.var 8)], [], []⟩ ⟨95, [(.int .i64 (.lit 1048576)), (.int .i64 (.var 4))], [], [none, none, none], (.int .i64 (.var 8)), []⟩
       (.rng 8 0 4503599627370496 (.call _etalonref01_B__Checked_s ⟨[(.var 5), (.bin .subI (.lit 0) (.var 4)), (.bin .addI (.bin .addI (.var 7) (.lit 3)) (.var 8))], [], []⟩ ⟨[(.var 5), (.bin .subI (.lit 0) (.var 4)), (.bin .addI (.bin .addI (.var 7) (.lit 3)) (.var 8)), (.var 9), (.var 10), (.var 11), (.var 12)], [], []⟩ ⟨72, [(.agg [(.int .i64 (.var 5)), (.int .i64 (.bin .subI (.lit 0) (.var 4))), (.int .i64 (.bin .addI (.bin .addI (.var 7) (.lit 3)) (.var 8)))])], [], [none, none, none], (.tuple [(.agg [(.int .i64 (.var 9)), (.int .i64 (.var 10)), (.int .i64 (.var 11))]), (.int .i64 (.var 12))]), []⟩
       (.ret ⟨[(.var 9), (.var 10), (.var 11), (.var 12)], [], []⟩ []))))))))))))
     (.ret ⟨[(.lit 0), (.lit 0), (.lit 0), (.lit 14)], [], []⟩ []))
    (.call etalonbase_Root_s ⟨[(.bin .mulI (.bin .subI (.var 3) (.var 0)) (.lit 524288))], [], []⟩ ⟨[(.bin .mulI (.bin .subI (.var 3) (.var 0)) (.lit 524288)), (.var 4)], [], []⟩ ⟨108, [(.int .i64 (.bin .mulI (.bin .subI (.var 3) (.var 0)) (.lit 524288)))], [], [none, none, none], (.int .i64 (.var 4)), []⟩
     (.rng 4 0 100000000 (.call etalonref01_scaledRounded_s ⟨[(.bin .maxI (.var 1) (.bin .subI (.lit 0) (.var 1))), (.bin .mulI (.lit 2) (.var 4))], [], []⟩ ⟨[(.bin .maxI (.var 1) (.bin .subI (.lit 0) (.var 1))), (.bin .mulI (.lit 2) (.var 4)), (.var 5)], [(.var 0)], []⟩ ⟨73, [(.int .i64 (.bin .maxI (.var 1) (.bin .subI (.lit 0) (.var 1)))), (.int .i64 (.bin .mulI (.lit 2) (.var 4)))], [], [none, none, none], (.tuple [(.int .i64 (.var 5)), (.bool (.var 0))]), []⟩
     (.ite (.icmp .leq (.lit 0) (.var 1))
     (.call etalonbase_Root_s ⟨[(.bin .mulI (.var 3) (.lit 1048576))], [], []⟩ ⟨[(.bin .mulI (.var 3) (.lit 1048576)), (.var 6)], [], []⟩ ⟨108, [(.int .i64 (.bin .mulI (.var 3) (.lit 1048576)))], [], [none, none, none], (.int .i64 (.var 6)), []⟩
      (.rng 6 0 100000000 (.call etalonbase_Ceil_s ⟨[(.bin .mulI (.var 2) (.lit 1048576)), (.var 6)], [], []⟩ ⟨[(.bin .mulI (.var 2) (.lit 1048576)), (.var 6), (.var 7)], [], []⟩ ⟨95, [(.int .i64 (.bin .mulI (.var 2) (.lit 1048576))), (.int .i64 (.var 6))], [], [none, none, none], (.int .i64 (.var 7)), []⟩
      (.rng 7 0 4503599627370496 (.call etalonbase_Ceil_s ⟨[(.lit 1048576), (.var 4)], [], []⟩ ⟨[(.lit 1048576), (.var 4), (.var 8)], [], []⟩ ⟨95, [(.int .i64 (.lit 1048576)), (.int .i64 (.var 4))], [], [none, none, none], (.int .i64 (.var 8)), []⟩
      (.rng 8 0 4503599627370496 (.call _etalonref01_B__Checked_s ⟨[(.var 5), (.var 4), (.bin .addI (.bin .addI (.var 7) (.lit 3)) (.var 8))], [], []⟩ ⟨[(.var 5), (.var 4), (.bin .addI (.bin .addI (.var 7) (.lit 3)) (.var 8)), (.var 9), (.var 10), (.var 11), (.var 12)], [], []⟩ ⟨72, [(.agg [(.int .i64 (.var 5)), (.int .i64 (.var 4)), (.int .i64 (.bin .addI (.bin .addI (.var 7) (.lit 3)) (.var 8)))])], [], [none, none, none], (.tuple [(.agg [(.int .i64 (.var 9)), (.int .i64 (.var 10)), (.int .i64 (.var 11))]), (.int .i64 (.var 12))]), []⟩
      (.ret ⟨[(.var 9), (.var 10), (.var 11), (.var 12)], [], []⟩ []))))))))
     (.call etalonbase_Root_s ⟨[(.bin .mulI (.var 3) (.lit 1048576))], [], []⟩ ⟨[(.bin .mulI (.var 3) (.lit 1048576)), (.var 6)], [], []⟩ ⟨108, [(.int .i64 (.bin .mulI (.var 3) (.lit 1048576)))], [], [none, none, none], (.int .i64 (.var 6)), []⟩
      (.rng 6 0 100000000 (.call etalonbase_Ceil_s ⟨[(.bin .mulI (.var 2) (.lit 1048576)), (.var 6)], [], []⟩ ⟨[(.bin .mulI (.var 2) (.lit 1048576)), (.var 6), (.var 7)], [], []⟩ ⟨95, [(.int .i64 (.bin .mulI (.var 2) (.lit 1048576))), (.int .i64 (.var 6))], [], [none, none, none], (.int .i64 (.var 7)), []⟩
      (.rng 7 0 4503599627370496 (.call etalonbase_Ceil_s ⟨[(.lit 1048576), (.var 4)], [], []⟩ ⟨[(.lit 1048576), (.var 4), (.var 8)], [], []⟩ ⟨95, [(.int .i64 (.lit 1048576)), (.int .i64 (.var 4))], [], [none, none, none], (.int .i64 (.var 8)), []⟩
      (.rng 8 0 4503599627370496 (.call _etalonref01_B__Checked_s ⟨[(.var 5), (.bin .subI (.lit 0) (.var 4)), (.bin .addI (.bin .addI (.var 7) (.lit 3)) (.var 8))], [], []⟩ ⟨[(.var 5), (.bin .subI (.lit 0) (.var 4)), (.bin .addI (.bin .addI (.var 7) (.lit 3)) (.var 8)), (.var 9), (.var 10), (.var 11), (.var 12)], [], []⟩ ⟨72, [(.agg [(.int .i64 (.var 5)), (.int .i64 (.bin .subI (.lit 0) (.var 4))), (.int .i64 (.bin .addI (.bin .addI (.var 7) (.lit 3)) (.var 8)))])], [], [none, none, none], (.tuple [(.agg [(.int .i64 (.var 9)), (.int .i64 (.var 10)), (.int .i64 (.var 11))]), (.int .i64 (.var 12))]), []⟩
      (.ret ⟨[(.var 9), (.var 10), (.var 11), (.var 12)], [], []⟩ [])))))))))))))))))
theorem rro1 {x0 x1 x2 : Int} (r0 : (-67108864) ≤ x0 ∧ x0 ≤ 67108864) (r1 : (-67108864) ≤ x1 ∧ x1 ≤ 67108864) (r2 : 0 ≤ x2 ∧ x2 ≤ 67108864) {R : Int → Int → Int → Int → Prop}
  (H : (∃ v3 : Int, Spec Try.prog _etalonref01_B__Down_s ⟨[x0, x1, x2], [], []⟩ [v3] [] [] ∧
   ((0 ≤ (v3 : Int) ∧ (v3 : Int) ≤ 100000000) ∧ ((decide ((v3 : Int) ≤ x2) = true → R (0) (0) (0) (9)) ∧
   (decide ((v3 : Int) ≤ x2) = false → ((decide ((0 : Int) ≤ x0) = true → (∃ v4 : Int, Spec Try.prog etalonbase_Root_s ⟨[((v3 + x0) * 524288)], [], []⟩ [v4] [] [] ∧
     ((0 ≤ (v4 : Int) ∧ (v4 : Int) ≤ 100000000) ∧ (∃ v5 : Int, ∃ u0 : Bool, Spec Try.prog etalonref01_scaledRounded_s ⟨[x1, (2 * v4)], [], []⟩ [v5] [u0] [] ∧
     (∃ v6 : Int, Spec Try.prog etalonbase_Root_s ⟨[(v3 * 1048576)], [], []⟩ [v6] [] [] ∧
     ((0 ≤ (v6 : Int) ∧ (v6 : Int) ≤ 100000000) ∧ (∃ v7 : Int, Spec Try.prog etalonbase_Ceil_s ⟨[(x2 * 1048576), v6], [], []⟩ [v7] [] [] ∧
     ((0 ≤ (v7 : Int) ∧ (v7 : Int) ≤ 4503599627370496) ∧ (∃ v8 : Int, Spec Try.prog etalonbase_Ceil_s ⟨[1048576, v4], [], []⟩ [v8] [] [] ∧
     ((0 ≤ (v8 : Int) ∧ (v8 : Int) ≤ 4503599627370496) ∧ (∃ v9 : Int, ∃ v10 : Int, ∃ v11 : Int, ∃ v12 : Int, Spec Try.prog _etalonref01_B__Checked_s ⟨[v4, v5, ((v7 + 3) + v8)], [], []⟩ [v9, v10, v11, v12] [] [] ∧
     R (v9) (v10) (v11) (v12)))))))))))) ∧
    (decide ((0 : Int) ≤ x0) = false → ((decide (((if ((0 - x1) : Int) > x1 then (0 - x1) else x1) : Int) ≤ x2) = true → ((((x2 : Int) == 0) = true → (∃ v4 : Int, Spec Try.prog etalonbase_Root_s ⟨[((v3 - x0) * 524288)], [], []⟩ [v4] [] [] ∧
       ((0 ≤ (v4 : Int) ∧ (v4 : Int) ≤ 100000000) ∧ (∃ v5 : Int, ∃ u0 : Bool, Spec Try.prog etalonref01_scaledRounded_s ⟨[(if ((0 - x1) : Int) > x1 then (0 - x1) else x1), (2 * v4)], [], []⟩ [v5] [u0] [] ∧
       ((decide ((0 : Int) ≤ x1) = true → (∃ v6 : Int, Spec Try.prog etalonbase_Root_s ⟨[(v3 * 1048576)], [], []⟩ [v6] [] [] ∧
        ((0 ≤ (v6 : Int) ∧ (v6 : Int) ≤ 100000000) ∧ (∃ v7 : Int, Spec Try.prog etalonbase_Ceil_s ⟨[(x2 * 1048576), v6], [], []⟩ [v7] [] [] ∧
        ((0 ≤ (v7 : Int) ∧ (v7 : Int) ≤ 4503599627370496) ∧ (∃ v8 : Int, Spec Try.prog etalonbase_Ceil_s ⟨[1048576, v4], [], []⟩ [v8] [] [] ∧
        ((0 ≤ (v8 : Int) ∧ (v8 : Int) ≤ 4503599627370496) ∧ (∃ v9 : Int, ∃ v10 : Int, ∃ v11 : Int, ∃ v12 : Int, Spec Try.prog _etalonref01_B__Checked_s ⟨[v5, v4, ((v7 + 3) + v8)], [], []⟩ [v9, v10, v11, v12] [] [] ∧
        R (v9) (v10) (v11) (v12))))))))) ∧
       (decide ((0 : Int) ≤ x1) = false → (∃ v6 : Int, Spec Try.prog etalonbase_Root_s ⟨[(v3 * 1048576)], [], []⟩ [v6] [] [] ∧
        ((0 ≤ (v6 : Int) ∧ (v6 : Int) ≤ 100000000) ∧ (∃ v7 : Int, Spec Try.prog etalonbase_Ceil_s ⟨[(x2 * 1048576), v6], [], []⟩ [v7] [] [] ∧
        ((0 ≤ (v7 : Int) ∧ (v7 : Int) ≤ 4503599627370496) ∧ (∃ v8 : Int, Spec Try.prog etalonbase_Ceil_s ⟨[1048576, v4], [], []⟩ [v8] [] [] ∧
        ((0 ≤ (v8 : Int) ∧ (v8 : Int) ≤ 4503599627370496) ∧ (∃ v9 : Int, ∃ v10 : Int, ∃ v11 : Int, ∃ v12 : Int, Spec Try.prog _etalonref01_B__Checked_s ⟨[v5, (0 - v4), ((v7 + 3) + v8)], [], []⟩ [v9, v10, v11, v12] [] [] ∧
        R (v9) (v10) (v11) (v12)))))))))))))) ∧
      (((x2 : Int) == 0) = false → R (0) (0) (0) (14)))) ∧
     (decide (((if ((0 - x1) : Int) > x1 then (0 - x1) else x1) : Int) ≤ x2) = false → (∃ v4 : Int, Spec Try.prog etalonbase_Root_s ⟨[((v3 - x0) * 524288)], [], []⟩ [v4] [] [] ∧
      ((0 ≤ (v4 : Int) ∧ (v4 : Int) ≤ 100000000) ∧ (∃ v5 : Int, ∃ u0 : Bool, Spec Try.prog etalonref01_scaledRounded_s ⟨[(if ((0 - x1) : Int) > x1 then (0 - x1) else x1), (2 * v4)], [], []⟩ [v5] [u0] [] ∧
      ((decide ((0 : Int) ≤ x1) = true → (∃ v6 : Int, Spec Try.prog etalonbase_Root_s ⟨[(v3 * 1048576)], [], []⟩ [v6] [] [] ∧
       ((0 ≤ (v6 : Int) ∧ (v6 : Int) ≤ 100000000) ∧ (∃ v7 : Int, Spec Try.prog etalonbase_Ceil_s ⟨[(x2 * 1048576), v6], [], []⟩ [v7] [] [] ∧
       ((0 ≤ (v7 : Int) ∧ (v7 : Int) ≤ 4503599627370496) ∧ (∃ v8 : Int, Spec Try.prog etalonbase_Ceil_s ⟨[1048576, v4], [], []⟩ [v8] [] [] ∧
       ((0 ≤ (v8 : Int) ∧ (v8 : Int) ≤ 4503599627370496) ∧ (∃ v9 : Int, ∃ v10 : Int, ∃ v11 : Int, ∃ v12 : Int, Spec Try.prog _etalonref01_B__Checked_s ⟨[v5, v4, ((v7 + 3) + v8)], [], []⟩ [v9, v10, v11, v12] [] [] ∧
       R (v9) (v10) (v11) (v12))))))))) ∧
      (decide ((0 : Int) ≤ x1) = false → (∃ v6 : Int, Spec Try.prog etalonbase_Root_s ⟨[(v3 * 1048576)], [], []⟩ [v6] [] [] ∧
       ((0 ≤ (v6 : Int) ∧ (v6 : Int) ≤ 100000000) ∧ (∃ v7 : Int, Spec Try.prog etalonbase_Ceil_s ⟨[(x2 * 1048576), v6], [], []⟩ [v7] [] [] ∧
       ((0 ≤ (v7 : Int) ∧ (v7 : Int) ≤ 4503599627370496) ∧ (∃ v8 : Int, Spec Try.prog etalonbase_Ceil_s ⟨[1048576, v4], [], []⟩ [v8] [] [] ∧
       ((0 ≤ (v8 : Int) ∧ (v8 : Int) ≤ 4503599627370496) ∧ (∃ v9 : Int, ∃ v10 : Int, ∃ v11 : Int, ∃ v12 : Int, Spec Try.prog _etalonref01_B__Checked_s ⟨[v5, (0 - v4), ((v7 + 3) + v8)], [], []⟩ [v9, v10, v11, v12] [] [] ∧
       R (v9) (v10) (v11) (v12)))))))))))))))))))))) :
    ∃ v0 : Int, ∃ v1 : Int, ∃ v2 : Int, ∃ v3 : Int, R v0 v1 v2 v3 ∧ Spec Try.prog etalonref01_Root_s ⟨[x0, x1, x2], [], []⟩ [v0, v1, v2, v3] [] [] :=
  Eq.mp (by kernel_rfl) (exV_of (K := fun d => app3 etalonref01_Root_s.out R d ∧ Spec Try.prog etalonref01_Root_s ⟨[x0, x1, x2], [], []⟩ d.1 d.2.1 d.2.2) (tree_at mixed names S1_ok (S := S1 Try.prog) (lf := 100000) (d := 60) etalonref01_Root_s rro1_t { ivs := [(0, (-67108864), 67108864), (1, (-67108864), 67108864), (2, 0, 67108864)], aivs := [] } ⟨[x0, x1, x2], [], []⟩ rfl (by kernel_rfl) (by kernel_rfl) (by kernel_rfl) ⟨(fc r0 (fc r1 (fc r2 fz))), fz, fz, fz⟩ (R := fun d => app3 etalonref01_Root_s.out R d) (Eq.mp (by kernel_rfl) H)))

def rrr_t : Tr :=
  (.call etalonref01_OfRange_s ⟨[(.var 0), (.var 1)], [], []⟩ ⟨[(.var 0), (.var 1), (.var 2), (.var 3), (.var 4), (.var 5)], [], []⟩ ⟨19, [(.agg [(.int .i64 (.var 0)), (.int .i64 (.var 1))])], [], [none, none], (.tuple [(.agg [(.int .i64 (.var 2)), (.int .i64 (.var 3)), (.int .i64 (.var 4))]), (.int .i64 (.var 5))]), []⟩
  (.ite (.icmp .eql (.var 5) (.lit 0))
  (.ite (.icmp .leq (.lit 0) (.var 0))
   (.call etalonbase_Root_s ⟨[(.bin (.mulW .i64) (.var 0) (.lit 1048576))], [], []⟩ ⟨[(.bin (.mulW .i64) (.var 0) (.lit 1048576)), (.var 6)], [], []⟩ ⟨108, [(.int .i64 (.bin (.mulW .i64) (.var 0) (.lit 1048576)))], [], [none, none, none], (.int .i64 (.var 6)), []⟩
    (.call etalonref01_RootUp_s ⟨[(.bin (.mulW .i64) (.var 1) (.lit 1048576))], [], []⟩ ⟨[(.bin (.mulW .i64) (.var 1) (.lit 1048576)), (.var 7)], [], []⟩ ⟨109, [(.int .i64 (.bin (.mulW .i64) (.var 1) (.lit 1048576)))], [], [none, none, none], (.int .i64 (.var 7)), []⟩
    (.call etalonref01_OfRange_s ⟨[(.var 6), (.var 7)], [], []⟩ ⟨[(.var 6), (.var 7), (.var 8), (.var 9), (.var 10), (.var 11)], [], []⟩ ⟨19, [(.agg [(.int .i64 (.var 6)), (.int .i64 (.var 7))])], [], [none, none, none], (.tuple [(.agg [(.int .i64 (.var 8)), (.int .i64 (.var 9)), (.int .i64 (.var 10))]), (.int .i64 (.var 11))]), []⟩
    (.ret ⟨[(.var 8), (.var 9), (.var 10), (.var 11)], [], []⟩ []))))
   (.ite (.icmp .leq (.var 1) (.lit 0))
    (.call etalonbase_Root_s ⟨[(.bin (.mulW .i64) (.bin (.subW .i64) (.lit 0) (.var 1)) (.lit 1048576))], [], []⟩ ⟨[(.bin (.mulW .i64) (.bin (.subW .i64) (.lit 0) (.var 1)) (.lit 1048576)), (.var 6)], [], []⟩ ⟨108, [(.int .i64 (.bin (.mulW .i64) (.bin (.subW .i64) (.lit 0) (.var 1)) (.lit 1048576)))], [], [none, none, none], (.int .i64 (.var 6)), []⟩
     (.call etalonref01_RootUp_s ⟨[(.bin (.mulW .i64) (.bin (.subW .i64) (.lit 0) (.var 0)) (.lit 1048576))], [], []⟩ ⟨[(.bin (.mulW .i64) (.bin (.subW .i64) (.lit 0) (.var 0)) (.lit 1048576)), (.var 7)], [], []⟩ ⟨109, [(.int .i64 (.bin (.mulW .i64) (.bin (.subW .i64) (.lit 0) (.var 0)) (.lit 1048576)))], [], [none, none, none], (.int .i64 (.var 7)), []⟩
     (.call etalonref01_OfRange_s ⟨[(.var 6), (.var 7)], [], []⟩ ⟨[(.var 6), (.var 7), (.var 8), (.var 9), (.var 10), (.var 11)], [], []⟩ ⟨19, [(.agg [(.int .i64 (.var 6)), (.int .i64 (.var 7))])], [], [none, none, none], (.tuple [(.agg [(.int .i64 (.var 8)), (.int .i64 (.var 9)), (.int .i64 (.var 10))]), (.int .i64 (.var 11))]), []⟩
     (.call etalonref01_Turned_s ⟨[(.var 8), (.var 9), (.var 10), (.lit 1)], [], []⟩ ⟨[(.var 8), (.var 9), (.var 10), (.lit 1), (.var 12), (.var 13), (.var 14)], [], []⟩ ⟨31, [(.agg [(.int .i64 (.var 8)), (.int .i64 (.var 9)), (.int .i64 (.var 10))]), (.int .i64 (.lit 1))], [], [none, none, none, none], (.agg [(.int .i64 (.var 12)), (.int .i64 (.var 13)), (.int .i64 (.var 14))]), []⟩
     (.ret ⟨[(.var 12), (.var 13), (.var 14), (.var 11)], [], []⟩ [])))))
    (.ret ⟨[(.lit 0), (.lit 0), (.lit 0), (.lit 14)], [], []⟩ [])))
  (.ret ⟨[(.lit 0), (.lit 0), (.lit 0), (.var 5)], [], []⟩ [])))
theorem rrr {x0 x1 : Int} (r0 : (-9223372036854775808) ≤ x0 ∧ x0 ≤ 9223372036854775807) (r1 : (-9223372036854775808) ≤ x1 ∧ x1 ≤ 9223372036854775807) {R : Int → Int → Int → Int → Prop}
  (H : (∃ v2 : Int, ∃ v3 : Int, ∃ v4 : Int, ∃ v5 : Int, Spec Try.prog etalonref01_OfRange_s ⟨[x0, x1], [], []⟩ [v2, v3, v4, v5] [] [] ∧
   ((((v5 : Int) == 0) = true → ((decide ((0 : Int) ≤ x0) = true → (∃ v6 : Int, Spec Try.prog etalonbase_Root_s ⟨[IntKind.i64.wrap (x0 * 1048576)], [], []⟩ [v6] [] [] ∧
     (∃ v7 : Int, Spec Try.prog etalonref01_RootUp_s ⟨[IntKind.i64.wrap (x1 * 1048576)], [], []⟩ [v7] [] [] ∧
     (∃ v8 : Int, ∃ v9 : Int, ∃ v10 : Int, ∃ v11 : Int, Spec Try.prog etalonref01_OfRange_s ⟨[v6, v7], [], []⟩ [v8, v9, v10, v11] [] [] ∧
     R (v8) (v9) (v10) (v11))))) ∧
    (decide ((0 : Int) ≤ x0) = false → ((decide ((x1 : Int) ≤ 0) = true → (∃ v6 : Int, Spec Try.prog etalonbase_Root_s ⟨[IntKind.i64.wrap (IntKind.i64.wrap (0 - x1) * 1048576)], [], []⟩ [v6] [] [] ∧
      (∃ v7 : Int, Spec Try.prog etalonref01_RootUp_s ⟨[IntKind.i64.wrap (IntKind.i64.wrap (0 - x0) * 1048576)], [], []⟩ [v7] [] [] ∧
      (∃ v8 : Int, ∃ v9 : Int, ∃ v10 : Int, ∃ v11 : Int, Spec Try.prog etalonref01_OfRange_s ⟨[v6, v7], [], []⟩ [v8, v9, v10, v11] [] [] ∧
      (∃ v12 : Int, ∃ v13 : Int, ∃ v14 : Int, Spec Try.prog etalonref01_Turned_s ⟨[v8, v9, v10, 1], [], []⟩ [v12, v13, v14] [] [] ∧
      R (v12) (v13) (v14) (v11)))))) ∧
     (decide ((x1 : Int) ≤ 0) = false → R (0) (0) (0) (14)))))) ∧
   (((v5 : Int) == 0) = false → R (0) (0) (0) (v5))))) :
    ∃ v0 : Int, ∃ v1 : Int, ∃ v2 : Int, ∃ v3 : Int, R v0 v1 v2 v3 ∧ Spec Try.prog etalonref01_RealRoot_s ⟨[x0, x1], [], []⟩ [v0, v1, v2, v3] [] [] :=
  Eq.mp (by kernel_rfl) (exV_of (K := fun d => app3 etalonref01_RealRoot_s.out R d ∧ Spec Try.prog etalonref01_RealRoot_s ⟨[x0, x1], [], []⟩ d.1 d.2.1 d.2.2) (tree_at mixed names S1_ok (S := S1 Try.prog) (lf := 100000) (d := 60) etalonref01_RealRoot_s rrr_t { ivs := [(0, (-9223372036854775808), 9223372036854775807), (1, (-9223372036854775808), 9223372036854775807)], aivs := [] } ⟨[x0, x1], [], []⟩ rfl (by kernel_rfl) (by kernel_rfl) (by kernel_rfl) ⟨(fc r0 (fc r1 fz)), fz, fz, fz⟩ (R := fun d => app3 etalonref01_RealRoot_s.out R d) (Eq.mp (by kernel_rfl) H)))

def rtu1_t : Tr :=
  (.ite (.icmp .leq (.bin .remK (.var 3) (.lit 4)) (.lit 0))
  (.ret ⟨[(.var 0), (.var 1), (.var 2)], [], []⟩ [])
  (.ret ⟨[(.bin .subI (.lit 0) (.var 1)), (.var 0), (.var 2)], [], []⟩ []))
theorem rtu1 {x0 x1 x2 x3 : Int} (r0 : (-67108864) ≤ x0 ∧ x0 ≤ 67108864) (r1 : (-67108864) ≤ x1 ∧ x1 ≤ 67108864) (r2 : 0 ≤ x2 ∧ x2 ≤ 67108864) (r3 : 1 ≤ x3 ∧ x3 ≤ 1) {R : Int → Int → Int → Prop}
  (H : ((decide ((((x3 : Int).tmod 4) : Int) ≤ 0) = true → R (x0) (x1) (x2)) ∧
   (decide ((((x3 : Int).tmod 4) : Int) ≤ 0) = false → R ((0 - x1)) (x0) (x2)))) :
    ∃ v0 : Int, ∃ v1 : Int, ∃ v2 : Int, R v0 v1 v2 ∧ Spec Try.prog etalonref01_Turned_s ⟨[x0, x1, x2, x3], [], []⟩ [v0, v1, v2] [] [] :=
  Eq.mp (by kernel_rfl) (exV_of (K := fun d => app3 etalonref01_Turned_s.out R d ∧ Spec Try.prog etalonref01_Turned_s ⟨[x0, x1, x2, x3], [], []⟩ d.1 d.2.1 d.2.2) (tree_at mixed names S1_ok (S := S1 Try.prog) (lf := 100000) (d := 60) etalonref01_Turned_s rtu1_t { ivs := [(0, (-67108864), 67108864), (1, (-67108864), 67108864), (2, 0, 67108864), (3, 1, 1)], aivs := [] } ⟨[x0, x1, x2, x3], [], []⟩ rfl (by kernel_rfl) (by kernel_rfl) (by kernel_rfl) ⟨(fc r0 (fc r1 (fc r2 (fc r3 fz)))), fz, fz, fz⟩ (R := fun d => app3 etalonref01_Turned_s.out R d) (Eq.mp (by kernel_rfl) H)))

def brt_t : Tr :=
  (.call etalonlaw01_awake_s ⟨[], [], []⟩ ⟨[], [(.var 0)], []⟩ ⟨16, [], [], [none, none], (.bool (.var 0)), []⟩
  (.ite (.var 0)
  (.call _etalonlaw01_Whole__ball_s ⟨[(.var 0), (.var 1), (.var 2)], [], []⟩ ⟨[(.var 0), (.var 1), (.var 2), (.var 5), (.var 6), (.var 7)], [], []⟩ ⟨22, [(.agg [(.int .i64 (.var 0)), (.int .i64 (.var 1)), (.int .i64 (.var 2))])], [], [none, none], (.agg [(.complex .f64 (.var 5) (.var 6)), (.int .i64 (.var 7))]), []⟩
   (.call ball_Root_s ⟨[(.var 5), (.var 6), (.var 7)], [], []⟩ ⟨[(.var 5), (.var 6), (.var 7), (.var 8), (.var 9), (.var 10), (.var 11)], [], []⟩ ⟨42, [(.agg [(.complex .f64 (.var 5) (.var 6)), (.int .i64 (.var 7))])], [], [none, none], (.tuple [(.agg [(.complex .f64 (.var 8) (.var 9)), (.int .i64 (.var 10))]), (.int .i64 (.var 11))]), []⟩
   (.call ball_RealRoot_s ⟨[(.var 3), (.var 4)], [], []⟩ ⟨[(.var 3), (.var 4), (.var 12), (.var 13), (.var 14), (.var 15)], [], []⟩ ⟨43, [(.agg [(.int .i64 (.var 3)), (.int .i64 (.var 4))])], [], [none, none, none], (.tuple [(.agg [(.complex .f64 (.var 12) (.var 13)), (.int .i64 (.var 14))]), (.int .i64 (.var 15))]), []⟩
   (.call _etalonlaw01_Whole__err_s ⟨[(.var 0), (.var 1), (.var 2)], [], []⟩ ⟨[(.var 0), (.var 1), (.var 2), (.var 16)], [], []⟩ ⟨27, [(.agg [(.int .i64 (.var 0)), (.int .i64 (.var 1)), (.int .i64 (.var 2))])], [], [none, none, none, none], (.int .i64 (.var 16)), []⟩
   (.ite (.icmp .eql (.var 16) (.lit 0))
   (.call _etalonlaw01_Whole__ball_s ⟨[(.var 0), (.var 1), (.var 2)], [], []⟩ ⟨[(.var 0), (.var 1), (.var 2), (.var 17), (.var 18), (.var 19)], [], []⟩ ⟨22, [(.agg [(.int .i64 (.var 0)), (.int .i64 (.var 1)), (.int .i64 (.var 2))])], [], [none, none, none, none, none], (.agg [(.complex .f64 (.var 17) (.var 18)), (.int .i64 (.var 19))]), []⟩
    (.call etalonref01_Of_s ⟨[(.var 17), (.var 18), (.var 19)], [], []⟩ ⟨[(.var 17), (.var 18), (.var 19), (.var 20), (.var 21), (.var 22)], [], []⟩ ⟨29, [(.agg [(.complex .f64 (.var 17) (.var 18)), (.int .i64 (.var 19))])], [], [none, none, none, none, none], (.agg [(.int .i64 (.var 20)), (.int .i64 (.var 21)), (.int .i64 (.var 22))]), []⟩
    (.call etalonref01_Root_s ⟨[(.var 20), (.var 21), (.var 22)], [], []⟩ ⟨[(.var 20), (.var 21), (.var 22), (.var 23), (.var 24), (.var 25), (.var 26)], [], []⟩ ⟨44, [(.agg [(.int .i64 (.var 20)), (.int .i64 (.var 21)), (.int .i64 (.var 22))])], [], [none, none, none, none, none], (.tuple [(.agg [(.int .i64 (.var 23)), (.int .i64 (.var 24)), (.int .i64 (.var 25))]), (.int .i64 (.var 26))]), []⟩
    (.call etalonref01_RealRoot_s ⟨[(.var 3), (.var 4)], [], []⟩ ⟨[(.var 3), (.var 4), (.var 27), (.var 28), (.var 29), (.var 30)], [], []⟩ ⟨45, [(.agg [(.int .i64 (.var 3)), (.int .i64 (.var 4))])], [], [none, none, none, none, none], (.tuple [(.agg [(.int .i64 (.var 27)), (.int .i64 (.var 28)), (.int .i64 (.var 29))]), (.int .i64 (.var 30))]), []⟩
    (.call etalonlaw01_is_s ⟨[(.var 8), (.var 9), (.var 10), (.var 11), (.var 23), (.var 24), (.var 25), (.var 26)], [], []⟩ ⟨[(.var 8), (.var 9), (.var 10), (.var 11), (.var 23), (.var 24), (.var 25), (.var 26)], [(.var 1)], []⟩ ⟨21, [(.agg [(.complex .f64 (.var 8) (.var 9)), (.int .i64 (.var 10))]), (.int .i64 (.var 11)), (.agg [(.int .i64 (.var 23)), (.int .i64 (.var 24)), (.int .i64 (.var 25))]), (.int .i64 (.var 26))], [], [none, none, none, none, none, none], (.bool (.var 1)), []⟩
    (.ite (.var 1)
    (.call etalonlaw01_is_s ⟨[(.var 12), (.var 13), (.var 14), (.var 15), (.var 27), (.var 28), (.var 29), (.var 30)], [], []⟩ ⟨[(.var 12), (.var 13), (.var 14), (.var 15), (.var 27), (.var 28), (.var 29), (.var 30)], [(.var 2)], []⟩ ⟨21, [(.agg [(.complex .f64 (.var 12) (.var 13)), (.int .i64 (.var 14))]), (.int .i64 (.var 15)), (.agg [(.int .i64 (.var 27)), (.int .i64 (.var 28)), (.int .i64 (.var 29))]), (.int .i64 (.var 30))], [], [none, none, none, none, none, none], (.bool (.var 2)), []⟩
     (.ret ⟨[], [(.var 2)], []⟩ []))
    (.ret ⟨[], [(.lit false)], []⟩ [])))))))
   (.call etalonref01_RealRoot_s ⟨[(.var 3), (.var 4)], [], []⟩ ⟨[(.var 3), (.var 4), (.var 17), (.var 18), (.var 19), (.var 20)], [], []⟩ ⟨45, [(.agg [(.int .i64 (.var 3)), (.int .i64 (.var 4))])], [], [none, none, none, none, none], (.tuple [(.agg [(.int .i64 (.var 17)), (.int .i64 (.var 18)), (.int .i64 (.var 19))]), (.int .i64 (.var 20))]), []⟩
    (.call etalonlaw01_is_s ⟨[(.var 8), (.var 9), (.var 10), (.var 11), (.lit 0), (.lit 0), (.lit 0), (.var 16)], [], []⟩ ⟨[(.var 8), (.var 9), (.var 10), (.var 11), (.lit 0), (.lit 0), (.lit 0), (.var 16)], [(.var 1)], []⟩ ⟨21, [(.agg [(.complex .f64 (.var 8) (.var 9)), (.int .i64 (.var 10))]), (.int .i64 (.var 11)), (.agg [(.int .i64 (.lit 0)), (.int .i64 (.lit 0)), (.int .i64 (.lit 0))]), (.int .i64 (.var 16))], [], [none, none, none, none, none, none], (.bool (.var 1)), []⟩
    (.ite (.var 1)
    (.call etalonlaw01_is_s ⟨[(.var 12), (.var 13), (.var 14), (.var 15), (.var 17), (.var 18), (.var 19), (.var 20)], [], []⟩ ⟨[(.var 12), (.var 13), (.var 14), (.var 15), (.var 17), (.var 18), (.var 19), (.var 20)], [(.var 2)], []⟩ ⟨21, [(.agg [(.complex .f64 (.var 12) (.var 13)), (.int .i64 (.var 14))]), (.int .i64 (.var 15)), (.agg [(.int .i64 (.var 17)), (.int .i64 (.var 18)), (.int .i64 (.var 19))]), (.int .i64 (.var 20))], [], [none, none, none, none, none, none], (.bool (.var 2)), []⟩
     (.ret ⟨[], [(.var 2)], []⟩ []))
    (.ret ⟨[], [(.lit false)], []⟩ [])))))))))
  (.ret ⟨[], [(.lit false)], []⟩ [])))
theorem brt {x0 x1 x2 x3 x4 : Int} (r0 : (-9223372036854775808) ≤ x0 ∧ x0 ≤ 9223372036854775807) (r1 : (-9223372036854775808) ≤ x1 ∧ x1 ≤ 9223372036854775807) (r2 : (-9223372036854775808) ≤ x2 ∧ x2 ≤ 9223372036854775807) (r3 : (-9223372036854775808) ≤ x3 ∧ x3 ≤ 9223372036854775807) (r4 : (-9223372036854775808) ≤ x4 ∧ x4 ≤ 9223372036854775807) {R : Bool → Prop}
  (H : (∃ u0 : Bool, Spec Try.prog etalonlaw01_awake_s ⟨[], [], []⟩ [] [u0] [] ∧
   ((u0 = true → (∃ v5 : Int, ∃ v6 : Int, ∃ v7 : Int, Spec Try.prog _etalonlaw01_Whole__ball_s ⟨[x0, x1, x2], [], []⟩ [v5, v6, v7] [] [] ∧
    (∃ v8 : Int, ∃ v9 : Int, ∃ v10 : Int, ∃ v11 : Int, Spec Try.prog ball_Root_s ⟨[v5, v6, v7], [], []⟩ [v8, v9, v10, v11] [] [] ∧
    (∃ v12 : Int, ∃ v13 : Int, ∃ v14 : Int, ∃ v15 : Int, Spec Try.prog ball_RealRoot_s ⟨[x3, x4], [], []⟩ [v12, v13, v14, v15] [] [] ∧
    (∃ v16 : Int, Spec Try.prog _etalonlaw01_Whole__err_s ⟨[x0, x1, x2], [], []⟩ [v16] [] [] ∧
    ((((v16 : Int) == 0) = true → (∃ v17 : Int, ∃ v18 : Int, ∃ v19 : Int, Spec Try.prog _etalonlaw01_Whole__ball_s ⟨[x0, x1, x2], [], []⟩ [v17, v18, v19] [] [] ∧
     (∃ v20 : Int, ∃ v21 : Int, ∃ v22 : Int, Spec Try.prog etalonref01_Of_s ⟨[v17, v18, v19], [], []⟩ [v20, v21, v22] [] [] ∧
     (∃ v23 : Int, ∃ v24 : Int, ∃ v25 : Int, ∃ v26 : Int, Spec Try.prog etalonref01_Root_s ⟨[v20, v21, v22], [], []⟩ [v23, v24, v25, v26] [] [] ∧
     (∃ v27 : Int, ∃ v28 : Int, ∃ v29 : Int, ∃ v30 : Int, Spec Try.prog etalonref01_RealRoot_s ⟨[x3, x4], [], []⟩ [v27, v28, v29, v30] [] [] ∧
     (∃ u1 : Bool, Spec Try.prog etalonlaw01_is_s ⟨[v8, v9, v10, v11, v23, v24, v25, v26], [], []⟩ [] [u1] [] ∧
     ((u1 = true → (∃ u2 : Bool, Spec Try.prog etalonlaw01_is_s ⟨[v12, v13, v14, v15, v27, v28, v29, v30], [], []⟩ [] [u2] [] ∧
      R (u2))) ∧
     (u1 = false → R (false))))))))) ∧
    (((v16 : Int) == 0) = false → (∃ v17 : Int, ∃ v18 : Int, ∃ v19 : Int, ∃ v20 : Int, Spec Try.prog etalonref01_RealRoot_s ⟨[x3, x4], [], []⟩ [v17, v18, v19, v20] [] [] ∧
     (∃ u1 : Bool, Spec Try.prog etalonlaw01_is_s ⟨[v8, v9, v10, v11, 0, 0, 0, v16], [], []⟩ [] [u1] [] ∧
     ((u1 = true → (∃ u2 : Bool, Spec Try.prog etalonlaw01_is_s ⟨[v12, v13, v14, v15, v17, v18, v19, v20], [], []⟩ [] [u2] [] ∧
      R (u2))) ∧
     (u1 = false → R (false)))))))))))) ∧
   (u0 = false → R (false))))) :
    ∃ u0 : Bool, R u0 ∧ Spec Try.prog etalonlaw01_BallRoots_s ⟨[x0, x1, x2, x3, x4], [], []⟩ [] [u0] [] :=
  Eq.mp (by kernel_rfl) (exV_of (K := fun d => app3 etalonlaw01_BallRoots_s.out R d ∧ Spec Try.prog etalonlaw01_BallRoots_s ⟨[x0, x1, x2, x3, x4], [], []⟩ d.1 d.2.1 d.2.2) (tree_at mixed names S1_ok (S := S1 Try.prog) (lf := 100000) (d := 60) etalonlaw01_BallRoots_s brt_t { ivs := [(0, (-9223372036854775808), 9223372036854775807), (1, (-9223372036854775808), 9223372036854775807), (2, (-9223372036854775808), 9223372036854775807), (3, (-9223372036854775808), 9223372036854775807), (4, (-9223372036854775808), 9223372036854775807)], aivs := [] } ⟨[x0, x1, x2, x3, x4], [], []⟩ rfl (by kernel_rfl) (by kernel_rfl) (by kernel_rfl) ⟨(fc r0 (fc r1 (fc r2 (fc r3 (fc r4 fz))))), fz, fz, fz⟩ (R := fun d => app3 etalonlaw01_BallRoots_s.out R d) (Eq.mp (by kernel_rfl) H)))

def gre (X Y : Int) : Int := rti ((dn X Y + (if (0 - X) > X then (0 - X) else X)) * 524288)

def rdX (X Y : Int) : Int := if 0 ≤ X then gre X Y else if 0 ≤ Y then rdiv (Y * 1048576) (2 * gre X Y) else rdiv ((0 - Y) * 1048576) (2 * gre X Y)

def rdY (X Y : Int) : Int := if 0 ≤ X then rdiv (Y * 1048576) (2 * gre X Y) else if 0 ≤ Y then gre X Y else 0 - gre X Y

def rdR (X Y r : Int) : Int := cdiv (r * 1048576) (rti (dn X Y * 1048576)) + 3 + cdiv 1048576 (gre X Y)

def rootQ (X Y r : Int) : Bq := if dn X Y ≤ r then be 9 else if X < 0 ∧ ((0 - r) ≤ Y ∧ Y ≤ r) ∧ r ≠ 0 then be 14 else bk (rdX X Y) (rdY X Y) (rdR X Y r)

theorem rti_ge {n m : Int} (hm : 0 ≤ m) (h : m * m ≤ n) : m ≤ rti n := by

  obtain ⟨k0, k1, k2⟩ := rti_all (n := n) (by have := Int.mul_nonneg hm hm; omega)

  generalize rti n = t at *

  rcases Int.lt_or_le t m with g | g

  · have : (t + 1) * (t + 1) ≤ m * m := Int.mul_le_mul (by omega) (by omega) (by omega) (by omega)

    rw [Int.add_mul, Int.mul_add] at this; omega

  · exact g

theorem root_facts {X Y r : Int} (hx : (-67108864) ≤ X ∧ X ≤ 67108864) (hy : (-67108864) ≤ Y ∧ Y ≤ 67108864) (hr : 0 ≤ r ∧ r ≤ 67108864) (h : ¬ dn X Y ≤ r) :

    (1 ≤ dn X Y ∧ dn X Y ≤ 94906265) ∧ (724 ≤ gre X Y ∧ gre X Y ≤ 9217000) ∧ (1024 ≤ rti (dn X Y * 1048576) ∧ rti (dn X Y * 1048576) ≤ 9976000) ∧ ((-70368744177664) ≤ rdiv (Y * 1048576) (2 * gre X Y) ∧ rdiv (Y * 1048576) (2 * gre X Y) ≤ 70368744177665) ∧ ((-70368744177664) ≤ rdiv ((0 - Y) * 1048576) (2 * gre X Y) ∧ rdiv ((0 - Y) * 1048576) (2 * gre X Y) ≤ 70368744177665) ∧

    (0 ≤ cdiv (r * 1048576) (rti (dn X Y * 1048576)) ∧ cdiv (r * 1048576) (rti (dn X Y * 1048576)) ≤ 70368744177664) ∧ (0 ≤ cdiv 1048576 (gre X Y) ∧ cdiv 1048576 (gre X Y) ≤ 1048576) := by

  obtain ⟨z1, d1, u1⟩ := sz_bd hx hy

  have a0 : 0 ≤ (if (0 - X) > X then (0 - X) else X) ∧ (if (0 - X) > X then (0 - X) else X) ≤ 67108864 := by split <;> omega

  have g1 : 724 ≤ gre X Y ∧ gre X Y ≤ 9217000 := ⟨rti_ge (by decide) (by omega), rti_le (by omega) (by decide) (by omega)⟩

  have g2 : 1024 ≤ rti (dn X Y * 1048576) ∧ rti (dn X Y * 1048576) ≤ 9976000 := ⟨rti_ge (by decide) (by omega), rti_le (by omega) (by decide) (by omega)⟩

  refine ⟨by omega, g1, g2, ?_, ?_, cdiv_rng' (by omega) (by omega) (by omega), cdiv_rng' (by omega) (by decide) (by decide)⟩

  · exact rdiv_rng (M := 70368744177664) (by omega) (by omega) (by omega)

  · exact rdiv_rng (M := 70368744177664) (by omega) (by omega) (by omega)

theorem rdX_bd {X Y r : Int} (hx : (-67108864) ≤ X ∧ X ≤ 67108864) (hy : (-67108864) ≤ Y ∧ Y ≤ 67108864) (hr : 0 ≤ r ∧ r ≤ 67108864) (h : ¬ dn X Y ≤ r) : ((-4503599627370496) ≤ rdX X Y ∧ rdX X Y ≤ 4503599627370496) ∧ ((-4503599627370496) ≤ rdY X Y ∧ rdY X Y ≤ 4503599627370496) ∧ 0 ≤ rdR X Y r ∧ rdR X Y r ≤ 4503599627370496 := by

  obtain ⟨f1, f2, f3, f4, f5, f6, f7⟩ := root_facts hx hy hr h

  unfold rdX rdY rdR

  generalize gre X Y = G at *

  generalize rdiv (Y * 1048576) (2 * G) = A at *

  generalize rdiv ((0 - Y) * 1048576) (2 * G) = B at *

  refine ⟨by split <;> (try split) <;> omega, by split <;> (try split) <;> omega, by omega⟩

theorem droot_s {a b : Nat} {X Y r : Int} (h : RB a b r X Y) (hz : ¬ dn X Y ≤ r) : Spec Try.prog _ball_disc__root_s ⟨[(a : Int), (b : Int), r], [], []⟩ [F (rdX X Y), F (rdY X Y), rdR X Y r] [] [] := by

  obtain ⟨pa, pb, hx, hy, hr⟩ := h

  obtain ⟨z1, d1, u1⟩ := sz_bd hx hy

  obtain ⟨f1, f2, f3, f4, f5, f6, f7⟩ := root_facts hx hy hr hz

  have a0 : 0 ≤ (if (0 - X) > X then (0 - X) else X) ∧ (if (0 - X) > X then (0 - X) else X) ≤ 67108864 := by split <;> omega

  have t1 : Spec Try.prog whole_RootDown_s ⟨[X * X + Y * Y], [], []⟩ [dn X Y] [] [] := rootDown_s z1.1 (by omega)

  have t2 : Spec Try.prog whole_RootDown_s ⟨[(dn X Y + (if (0 - X) > X then (0 - X) else X)) * 524288], [], []⟩ [gre X Y] [] [] := rootDown_s (by omega) (by omega)

  have t3 := rootDown_s (n := dn X Y * 1048576) (by omega) (by omega)

  have t4 := upper_s (x := r) (y := 1048576) (d := rti (dn X Y * 1048576)) (DvIn_by (X := 67108864) (Y := 1048576) (by omega) (by omega) (by omega) (by omega) (by omega) (by omega) (by decide) (by decide) (by decide))

  have t5 := upper1_s (x := 1048576) (d := gre X Y) (by decide) (by decide) (by omega) (by omega)

  have t6 := nearest_s (x := Y) (y := 1048576) (d := 2 * gre X Y) (DvIn_by (X := 67108864) (Y := 1048576) (by omega) (by omega) (by omega) (by omega) (by omega) (by omega) (by decide) (by decide) (by decide))

  have t7 := nearest_s (x := 0 - Y) (y := 1048576) (d := 2 * gre X Y) (DvIn_by (X := 67108864) (Y := 1048576) (by omega) (by omega) (by omega) (by omega) (by omega) (by omega) (by decide) (by decide) (by decide))

  refine outb3 (rt1 (x0 := (a : Int)) (x1 := (b : Int)) hr (R := fun p q s => p = F (rdX X Y) ∧ q = F (rdY X Y) ∧ s = rdR X Y r) ⟨X, ⟨pa, by omega⟩, hx, Y, ⟨pb, by omega⟩, hy, _, t1, by omega, _, t2, by omega, _, t3, by omega, _, t4, by omega, _, t5, by omega, ?_⟩)

  simp only [decide_eq_true_eq, decide_eq_false_iff_not]

  unfold rdX rdY rdR

  refine ⟨fun c => ⟨_, _, t6, by omega, by rw [if_pos c]; rfl, by rw [if_pos c]; rfl, rfl⟩, fun c => ⟨fun d => ⟨_, _, t6, by omega, by rw [if_neg c, if_pos d]; rfl, by rw [if_neg c, if_pos d]; rfl, rfl⟩, fun d => ⟨_, _, t7, by omega, by rw [if_neg c, if_neg d]; rfl, by rw [if_neg c, if_neg d]; rfl, rfl⟩⟩⟩

theorem root_good {a b : Nat} {X Y r : Int} (h : RB a b r X Y) : Spec Try.prog ball_Root_s ⟨[(a : Int), (b : Int), r], [], []⟩ [F (rootQ X Y r).x, F (rootQ X Y r).y, (rootQ X Y r).r, (rootQ X Y r).e] [] [] := by

  have hb := h

  obtain ⟨pa, pb, hx, hy, hr⟩ := h

  obtain ⟨z1, d1, u1⟩ := sz_bd hx hy

  have t1 : Spec Try.prog whole_RootDown_s ⟨[X * X + Y * Y], [], []⟩ [dn X Y] [] [] := rootDown_s z1.1 (by omega)

  have good : ¬ dn X Y ≤ r → rootQ X Y r = bk (rdX X Y) (rdY X Y) (rdR X Y r) → ∃ v6 : Int, ∃ v7 : Int, ∃ v8 : Int, Spec Try.prog _ball_disc__root_s ⟨[(a : Int), (b : Int), r], [], []⟩ [v6, v7, v8] [] [] ∧ (∃ v9 : Int, (Rp v6.toNat v9 ∧ v9.natAbs ≤ 4503599627370496) ∧ (((-4503599627370496) ≤ v9 ∧ v9 ≤ 4503599627370496) ∧ (∃ v10 : Int, (Rp v7.toNat v10 ∧ v10.natAbs ≤ 4503599627370496) ∧ (((-4503599627370496) ≤ v10 ∧ v10 ≤ 4503599627370496) ∧ ((decide (((-67108864 : Int)) ≤ v9) = true → ((decide ((v9) ≤ (67108864 : Int)) = true → ((decide (((-67108864 : Int)) ≤ v10) = true → ((decide ((v10) ≤ (67108864 : Int)) = true → ((decide ((v8) ≤ (67108864 : Int)) = true → BqF (rootQ X Y r) (F v9) (F v10) v8 0) ∧ (decide ((v8) ≤ (67108864 : Int)) = false → BqF (rootQ X Y r) 0 0 0 8))) ∧ (decide ((v10) ≤ (67108864 : Int)) = false → BqF (rootQ X Y r) 0 0 0 8))) ∧ (decide (((-67108864 : Int)) ≤ v10) = false → BqF (rootQ X Y r) 0 0 0 8))) ∧ (decide ((v9) ≤ (67108864 : Int)) = false → BqF (rootQ X Y r) 0 0 0 8))) ∧ (decide (((-67108864 : Int)) ≤ v9) = false → BqF (rootQ X Y r) 0 0 0 8)))))) := fun hz hq => by

    have bd := rdX_bd hx hy hr hz

    exact ⟨_, _, _, droot_s hb hz, rdX X Y, ⟨F_rp _, by omega⟩, bd.1, rdY X Y, ⟨F_rp _, by omega⟩, bd.2.1, bk_tree hq⟩

  refine BqF.out (ro2 (x0 := (a : Int)) (x1 := (b : Int)) hr (R := BqF _) ⟨X, ⟨pa, by omega⟩, hx, Y, ⟨pb, by omega⟩, hy, _, t1, by omega, fun h9 => be_ok (e := 9) (by unfold rootQ; rw [if_pos (of_decide_eq_true h9)]), fun h9 => ?_⟩)

  have hz : ¬ dn X Y ≤ r := of_decide_eq_false h9

  have hq : ¬ (X < 0 ∧ ((0 - r) ≤ Y ∧ Y ≤ r) ∧ r ≠ 0) → rootQ X Y r = bk (rdX X Y) (rdY X Y) (rdR X Y r) := fun k => by unfold rootQ; rw [if_neg hz, if_neg k]

  refine ⟨fun c => good hz (hq (fun k => by have := of_decide_eq_true c; omega)), fun c => ⟨fun d => ⟨fun e => ⟨fun f => good hz (hq (fun k => k.2.2 (by simpa using f))), fun f => be_ok ?_⟩, fun e => good hz (hq (fun k => of_decide_eq_false e k.2.1.2))⟩, fun d => good hz (hq (fun k => of_decide_eq_false d k.2.1.1))⟩⟩

  unfold rootQ

  rw [if_neg hz, if_pos ⟨Int.lt_of_not_ge (of_decide_eq_false c), ⟨of_decide_eq_true d, of_decide_eq_true e⟩, by simpa using f⟩]

theorem root_p {a b : Nat} {r : Int} (ha : U a) (hb : U b) (hr : I64 r) : Spec Try.prog ball_Root_s ⟨[(a : Int), (b : Int), r], [], []⟩ [F (op1 rootQ a b r).x, F (op1 rootQ a b r).y, (op1 rootQ a b r).r, (op1 rootQ a b r).e] [] [] := by

  unfold op1

  split

  · rename_i h; exact root_good (ckB_rb ha hb h)

  · rename_i h; exact BqF.out (rob hr (R := BqF _) (one_tree (checkBall_p ha hb hr) h (be_ok rfl)))

theorem root_n {X Y r : Int} (hx : (-67108864) ≤ X ∧ X ≤ 67108864) (hy : (-67108864) ≤ Y ∧ Y ≤ 67108864) (hr : 0 ≤ r ∧ r ≤ 67108864) : BqN (rootQ X Y r) := by

  unfold rootQ

  split

  · exact be_n (by decide)

  · rename_i hz

    split

    · exact be_n (by decide)

    · exact bk_n (rdX_bd hx hy hr hz).2.2.1

theorem root_r {X Y r : Int} (hx : (-67108864) ≤ X ∧ X ≤ 67108864) (hy : (-67108864) ≤ Y ∧ Y ≤ 67108864) (hr : 0 ≤ r ∧ r ≤ 67108864) : Spec Try.prog etalonref01_Root_s ⟨[X, Y, r], [], []⟩ [(rootQ X Y r).x, (rootQ X Y r).y, (rootQ X Y r).r, (rootQ X Y r).e] [] [] := by

  obtain ⟨z1, d1, u1⟩ := sz_bd hx hy

  have t0 := down_r (x := X) (y := Y) (r := r) (by omega) (by omega) (by omega)

  refine BqI.out (rro1 hx hy hr (R := BqI _) ⟨_, t0, by omega, fun h9 => bei_ok (e := 9) (by unfold rootQ; rw [if_pos (of_decide_eq_true h9)]), fun h9 => ?_⟩)

  have hz : ¬ dn X Y ≤ r := of_decide_eq_false h9

  obtain ⟨f1, f2, f3, f4, f5, f6, f7⟩ := root_facts hx hy hr hz

  have bd := rdX_bd hx hy hr hz

  have hq : ¬ (X < 0 ∧ ((0 - r) ≤ Y ∧ Y ≤ r) ∧ r ≠ 0) → rootQ X Y r = bk (rdX X Y) (rdY X Y) (rdR X Y r) := fun k => by unfold rootQ; rw [if_neg hz, if_neg k]

  have ck := checked_r (x := rdX X Y) (y := rdY X Y) (r := rdR X Y r) (by omega) (by omega) (by omega) (by omega)

  have t3 := rroot_s (n := dn X Y * 1048576) (by omega) (by omega)

  have t4 : Spec Try.prog etalonbase_Ceil_s ⟨[r * 1048576, rti (dn X Y * 1048576)], [], []⟩ [cdiv (r * 1048576) (rti (dn X Y * 1048576))] [] [] := ceil_s (by omega) (by omega)

  have t5 : Spec Try.prog etalonbase_Ceil_s ⟨[1048576, gre X Y], [], []⟩ [cdiv 1048576 (gre X Y)] [] [] := ceil_s (by omega) (by omega)

  have q6 : -268435456 ≤ Y / (2 * gre X Y) ∧ Y / (2 * gre X Y) ≤ 268435456 := ediv_abs' (by omega) (by omega) (by omega) (by omega)

  have q7 : -268435456 ≤ (0 - Y) / (2 * gre X Y) ∧ (0 - Y) / (2 * gre X Y) ≤ 268435456 := ediv_abs' (by omega) (by omega) (by omega) (by omega)

  have t6 := scaledRounded_r (n := Y) (d := 2 * gre X Y) (by omega) (by omega) q6

  have t7 := scaledRounded_r (n := 0 - Y) (d := 2 * gre X Y) (by omega) (by omega) q7

  have tail : ∀ (A B : Int), A = rdX X Y → B = rdY X Y → rootQ X Y r = bk (rdX X Y) (rdY X Y) (rdR X Y r) → (∃ v6 : Int, Spec Try.prog etalonbase_Root_s ⟨[(dn X Y * 1048576)], [], []⟩ [v6] [] [] ∧ ((0 ≤ v6 ∧ v6 ≤ 100000000) ∧ (∃ v7 : Int, Spec Try.prog etalonbase_Ceil_s ⟨[(r * 1048576), v6], [], []⟩ [v7] [] [] ∧ ((0 ≤ v7 ∧ v7 ≤ 4503599627370496) ∧ (∃ v8 : Int, Spec Try.prog etalonbase_Ceil_s ⟨[1048576, gre X Y], [], []⟩ [v8] [] [] ∧ ((0 ≤ v8 ∧ v8 ≤ 4503599627370496) ∧ (∃ v9 : Int, ∃ v10 : Int, ∃ v11 : Int, ∃ v12 : Int, Spec Try.prog _etalonref01_B__Checked_s ⟨[A, B, ((v7 + 3) + v8)], [], []⟩ [v9, v10, v11, v12] [] [] ∧ BqI (rootQ X Y r) v9 v10 v11 v12))))))) := fun A B hA hB hq => by

    subst hA hB

    exact ⟨_, t3, by omega, _, t4, by omega, _, t5, by omega, _, _, _, _, ck, by rw [hq]; exact ⟨rfl, rfl, rfl, rfl⟩⟩

  have neg : X < 0 → rootQ X Y r = bk (rdX X Y) (rdY X Y) (rdR X Y r) → (∃ v4 : Int, Spec Try.prog etalonbase_Root_s ⟨[((dn X Y - X) * 524288)], [], []⟩ [v4] [] [] ∧ ((0 ≤ v4 ∧ v4 ≤ 100000000) ∧ (∃ v5 : Int, ∃ u0 : Bool, Spec Try.prog etalonref01_scaledRounded_s ⟨[(if (0 - Y) > Y then (0 - Y) else Y), (2 * v4)], [], []⟩ [v5] [u0] [] ∧

      ((decide ((0 : Int) ≤ Y) = true → (∃ v6 : Int, Spec Try.prog etalonbase_Root_s ⟨[(dn X Y * 1048576)], [], []⟩ [v6] [] [] ∧ ((0 ≤ v6 ∧ v6 ≤ 100000000) ∧ (∃ v7 : Int, Spec Try.prog etalonbase_Ceil_s ⟨[(r * 1048576), v6], [], []⟩ [v7] [] [] ∧ ((0 ≤ v7 ∧ v7 ≤ 4503599627370496) ∧ (∃ v8 : Int, Spec Try.prog etalonbase_Ceil_s ⟨[1048576, v4], [], []⟩ [v8] [] [] ∧ ((0 ≤ v8 ∧ v8 ≤ 4503599627370496) ∧ (∃ v9 : Int, ∃ v10 : Int, ∃ v11 : Int, ∃ v12 : Int, Spec Try.prog _etalonref01_B__Checked_s ⟨[v5, v4, ((v7 + 3) + v8)], [], []⟩ [v9, v10, v11, v12] [] [] ∧ BqI (rootQ X Y r) v9 v10 v11 v12)))))))) ∧

      (decide ((0 : Int) ≤ Y) = false → (∃ v6 : Int, Spec Try.prog etalonbase_Root_s ⟨[(dn X Y * 1048576)], [], []⟩ [v6] [] [] ∧ ((0 ≤ v6 ∧ v6 ≤ 100000000) ∧ (∃ v7 : Int, Spec Try.prog etalonbase_Ceil_s ⟨[(r * 1048576), v6], [], []⟩ [v7] [] [] ∧ ((0 ≤ v7 ∧ v7 ≤ 4503599627370496) ∧ (∃ v8 : Int, Spec Try.prog etalonbase_Ceil_s ⟨[1048576, v4], [], []⟩ [v8] [] [] ∧ ((0 ≤ v8 ∧ v8 ≤ 4503599627370496) ∧ (∃ v9 : Int, ∃ v10 : Int, ∃ v11 : Int, ∃ v12 : Int, Spec Try.prog _etalonref01_B__Checked_s ⟨[v5, (0 - v4), ((v7 + 3) + v8)], [], []⟩ [v9, v10, v11, v12] [] [] ∧ BqI (rootQ X Y r) v9 v10 v11 v12)))))))))))) := fun hX hq => by

    have eg : rti ((dn X Y - X) * 524288) = gre X Y := by unfold gre; rw [if_pos (by omega)]; congr 1; omega

    have t1 := rroot_s (n := (dn X Y - X) * 524288) (by omega) (by omega)

    rw [eg] at t1

    refine ⟨_, t1, by omega, ?_⟩

    by_cases hY : 0 ≤ Y

    · rw [if_neg (by omega)]

      exact ⟨_, _, t6, fun _ => tail _ _ (by unfold rdX; rw [if_neg (by omega), if_pos hY]) (by unfold rdY; rw [if_neg (by omega), if_pos hY]) hq, fun h => absurd hY (of_decide_eq_false h)⟩

    · rw [if_pos (by omega)]

      exact ⟨_, _, t7, fun h => absurd (of_decide_eq_true h) hY, fun _ => tail _ _ (by unfold rdX; rw [if_neg (by omega), if_neg hY]) (by unfold rdY; rw [if_neg (by omega), if_neg hY]) hq⟩

  refine ⟨fun c => ?_, fun c => ⟨fun d => ⟨fun e => neg (Int.lt_of_not_ge (of_decide_eq_false c)) (hq (fun k => k.2.2 (by simpa using e))), fun e => bei_ok ?_⟩, fun d => neg (Int.lt_of_not_ge (of_decide_eq_false c)) (hq (fun k => of_decide_eq_false d (by split <;> omega)))⟩⟩

  · have hX : 0 ≤ X := of_decide_eq_true c

    have eg : rti ((dn X Y + X) * 524288) = gre X Y := by unfold gre; rw [if_neg (by omega)]

    have t1 := rroot_s (n := (dn X Y + X) * 524288) (by omega) (by omega)

    rw [eg] at t1

    exact ⟨_, t1, by omega, _, _, t6, tail _ _ (by unfold rdX; rw [if_pos hX]) (by unfold rdY; rw [if_pos hX]) (hq (fun k => by omega))⟩

  · unfold rootQ

    have d' := of_decide_eq_true d

    rw [if_neg hz, if_pos ⟨Int.lt_of_not_ge (of_decide_eq_false c), by split at d' <;> omega, by simpa using e⟩]

/-- The roots of a range from 0 on. -/

theorem rr_rng {lo hi : Int} (h0 : 0 ≤ lo) (h1 : lo ≤ hi) (h2 : hi ≤ 67108864) : 0 ≤ rti (lo * 1048576) ∧ rti (lo * 1048576) ≤ rtu (hi * 1048576) ∧ rtu (hi * 1048576) ≤ 8388608 := by

  have a := rti_all (n := lo * 1048576) (by omega)

  have b := rtu_all (n := hi * 1048576) (by omega)

  refine ⟨a.1, ?_, rtu_le (by omega) (by decide) (by omega)⟩

  exact sq_le_sq' b.1 (by omega)

def rrM (lo hi : Int) : Int := (rti (lo * 1048576) + rtu (hi * 1048576)) / 2

def rrQ (lo hi : Int) : Bq := if re (-67108864) 67108864 lo hi = 0 then (if 0 ≤ lo then ⟨rrM lo hi, 0, rtu (hi * 1048576) - rrM lo hi, 0⟩ else if hi ≤ 0 then ⟨0, rrM (0 - hi) (0 - lo), rtu ((0 - lo) * 1048576) - rrM (0 - hi) (0 - lo), 0⟩ else be 14) else be (re (-67108864) 67108864 lo hi)

theorem rangeQ_in {a b : Int} (h0 : 0 ≤ a) (h1 : a ≤ b) (h2 : b ≤ 8388608) : rangeQ a b = ⟨(a + b) / 2, 0, b - (a + b) / 2, 0⟩ := by

  have hr : re (-67108864) 67108864 a b = 0 := by unfold re; rw [if_pos (by omega), if_pos h1]

  unfold rangeQ

  rw [if_pos hr]

  unfold bk

  rw [if_pos (by unfold okB; omega)]

theorem re_neg {lo hi : Int} (h : re (-67108864) 67108864 lo hi = 0) (h1 : hi ≤ 0) : re (-67108864) 67108864 (0 - hi) (0 - lo) = 0 := by

  have := re_ok h

  unfold re

  rw [if_pos (by omega), if_pos (by omega)]

theorem rrpos_p {lo hi : Int} (h0 : 0 ≤ lo) (h1 : lo ≤ hi) (h2 : hi ≤ 67108864) : Spec Try.prog ball_RealRoot_s ⟨[lo, hi], [], []⟩ [F (rrM lo hi), F 0, rtu (hi * 1048576) - rrM lo hi, 0] [] [] := by

  have hc := check_s (x0 := lo) (x1 := hi) (x2 := -67108864) (x3 := 67108864) (by omega) (by omega) (by decide) (by decide)

  have hr : re (-67108864) 67108864 lo hi = 0 := by unfold re; rw [if_pos (by omega), if_pos h1]

  obtain ⟨b0, b1, b2⟩ := rr_rng h0 h1 h2

  have w1 : IntKind.i64.wrap (lo * 1048576) = lo * 1048576 := wrapI (by omega)

  have w2 : IntKind.i64.wrap (hi * 1048576) = hi * 1048576 := wrapI (by omega)

  have rg := range_p (lo := rti (lo * 1048576)) (hi := rtu (hi * 1048576)) (by omega) (by omega)

  rw [rangeQ_in b0 b1 b2] at rg

  obtain ⟨a, b, c, d, ⟨ha, hb, hc', hd⟩, hs⟩ := rrp (x0 := lo) (x1 := hi) (by omega) (by omega) (R := fun a b c d => a = F (rrM lo hi) ∧ b = F 0 ∧ c = rtu (hi * 1048576) - rrM lo hi ∧ d = 0) ⟨_, hc, fun _ => ⟨fun _ => by

    rw [w1, w2]

    exact ⟨_, rootDown_s (by omega) (by omega), _, rootUp_s (by omega) (by omega), _, _, _, _, rg, rfl, rfl, rfl, rfl⟩, fun h => absurd h0 (of_decide_eq_false h)⟩, fun h => by simp [hr] at h⟩

  rw [ha, hb, hc', hd] at hs

  exact hs

theorem realroot_p {lo hi : Int} (r0 : I64 lo) (r1 : I64 hi) : Spec Try.prog ball_RealRoot_s ⟨[lo, hi], [], []⟩ [F (rrQ lo hi).x, F (rrQ lo hi).y, (rrQ lo hi).r, (rrQ lo hi).e] [] [] := by

  have hc := check_s (x0 := lo) (x1 := hi) (x2 := -67108864) (x3 := 67108864) r0 r1 (by decide) (by decide)

  by_cases hr : re (-67108864) 67108864 lo hi = 0

  · obtain ⟨k1, k2, k3⟩ := re_ok hr

    by_cases h0 : 0 ≤ lo

    · have := rrpos_p h0 k3 k2.2

      have e : rrQ lo hi = ⟨rrM lo hi, 0, rtu (hi * 1048576) - rrM lo hi, 0⟩ := by unfold rrQ; rw [if_pos hr, if_pos h0]

      rw [e]; exact this

    · refine BqF.out (rrp r0 r1 (R := BqF _) ⟨_, hc, fun _ => ⟨fun h => absurd (of_decide_eq_true h) h0, fun _ => ⟨fun h => ?_, fun h => be_ok ?_⟩⟩, fun h => by simp [hr] at h⟩)

      · have h1 : hi ≤ 0 := of_decide_eq_true h

        have w1 : IntKind.i64.wrap (0 - hi) = 0 - hi := wrapI (by omega)

        have w2 : IntKind.i64.wrap (0 - lo) = 0 - lo := wrapI (by omega)

        have hp := rrpos_p (lo := 0 - hi) (hi := 0 - lo) (by omega) (by omega) (by omega)

        obtain ⟨b0, b1, b2⟩ := rr_rng (lo := 0 - hi) (hi := 0 - lo) (by omega) (by omega) (by omega)

        have e : rrQ lo hi = ⟨0, rrM (0 - hi) (0 - lo), rtu ((0 - lo) * 1048576) - rrM (0 - hi) (0 - lo), 0⟩ := by unfold rrQ; rw [if_pos hr, if_neg h0, if_pos h1]

        have bm : 0 ≤ rrM (0 - hi) (0 - lo) ∧ rrM (0 - hi) (0 - lo) ≤ 8388608 ∧ rrM (0 - hi) (0 - lo) ≤ rtu ((0 - lo) * 1048576) := by unfold rrM; omega

        rw [w1, w2, e]

        refine ⟨_, _, _, _, hp, by omega, rrM (0 - hi) (0 - lo), ⟨F_rp _, by omega⟩, by omega, 0, ⟨F_rp 0, by omega⟩, by omega, fun _ => ⟨rfl, rfl, rfl, rfl⟩, fun h => by simp at h⟩

      · unfold rrQ; rw [if_pos hr, if_neg h0, if_neg (of_decide_eq_false h)]

  · refine BqF.out (rrp r0 r1 (R := BqF _) ⟨_, hc, fun h => absurd (by simpa using h) hr, fun _ => be_ok ?_⟩)

    unfold rrQ; rw [if_neg hr]

theorem turned1_r {x y r : Int} (hx : (-67108864) ≤ x ∧ x ≤ 67108864) (hy : (-67108864) ≤ y ∧ y ≤ 67108864) (hr : 0 ≤ r ∧ r ≤ 67108864) : Spec Try.prog etalonref01_Turned_s ⟨[x, y, r, 1], [], []⟩ [0 - y, x, r] [] [] :=

  outb3 (rtu1 hx hy hr (by decide) (R := fun a b c => a = 0 - y ∧ b = x ∧ c = r) ⟨fun h => absurd h (by decide), fun _ => ⟨rfl, rfl, rfl⟩⟩)

theorem realroot_r {lo hi : Int} (r0 : I64 lo) (r1 : I64 hi) : Spec Try.prog etalonref01_RealRoot_s ⟨[lo, hi], [], []⟩ [(rrQ lo hi).x, (rrQ lo hi).y, (rrQ lo hi).r, (rrQ lo hi).e] [] [] := by

  have hg := range_r r0 r1

  by_cases hr : re (-67108864) 67108864 lo hi = 0

  · obtain ⟨k1, k2, k3⟩ := re_ok hr

    have e0 : (rangeQ lo hi).e = 0 := by

      unfold rangeQ bk; rw [if_pos hr, if_pos (by unfold okB; omega)]

    refine BqI.out (rrr r0 r1 (R := BqI _) ⟨_, _, _, _, hg, fun _ => ⟨fun h => ?_, fun h => ⟨fun h' => ?_, fun h' => bei_ok ?_⟩⟩, fun h => by simp [e0] at h⟩)

    · have h0 : 0 ≤ lo := of_decide_eq_true h

      obtain ⟨b0, b1, b2⟩ := rr_rng h0 k3 k2.2

      have w1 : IntKind.i64.wrap (lo * 1048576) = lo * 1048576 := wrapI (by omega)

      have w2 : IntKind.i64.wrap (hi * 1048576) = hi * 1048576 := wrapI (by omega)

      have rg := range_r (lo := rti (lo * 1048576)) (hi := rtu (hi * 1048576)) (by omega) (by omega)

      rw [rangeQ_in b0 b1 b2] at rg

      have e : rrQ lo hi = ⟨rrM lo hi, 0, rtu (hi * 1048576) - rrM lo hi, 0⟩ := by unfold rrQ; rw [if_pos hr, if_pos h0]

      rw [w1, w2, e]

      exact ⟨_, rroot_s (by omega) (by omega), _, rrootUp_s (by omega) (by omega), _, _, _, _, rg, rfl, rfl, rfl, rfl⟩

    · have h0 : ¬ 0 ≤ lo := of_decide_eq_false h

      have h1 : hi ≤ 0 := of_decide_eq_true h'

      obtain ⟨b0, b1, b2⟩ := rr_rng (lo := 0 - hi) (hi := 0 - lo) (by omega) (by omega) (by omega)

      have w1 : IntKind.i64.wrap (0 - hi) = 0 - hi := wrapI (by omega)

      have w2 : IntKind.i64.wrap (0 - lo) = 0 - lo := wrapI (by omega)

      have w3 : IntKind.i64.wrap ((0 - hi) * 1048576) = (0 - hi) * 1048576 := wrapI (by omega)

      have w4 : IntKind.i64.wrap ((0 - lo) * 1048576) = (0 - lo) * 1048576 := wrapI (by omega)

      have rg := range_r (lo := rti ((0 - hi) * 1048576)) (hi := rtu ((0 - lo) * 1048576)) (by omega) (by omega)

      rw [rangeQ_in b0 b1 b2] at rg

      have e : rrQ lo hi = ⟨0, rrM (0 - hi) (0 - lo), rtu ((0 - lo) * 1048576) - rrM (0 - hi) (0 - lo), 0⟩ := by unfold rrQ; rw [if_pos hr, if_neg h0, if_pos h1]

      rw [w1, w2, w3, w4, e]

      have tr := turned1_r (x := (rti ((0 - hi) * 1048576) + rtu ((0 - lo) * 1048576)) / 2) (y := 0) (r := rtu ((0 - lo) * 1048576) - (rti ((0 - hi) * 1048576) + rtu ((0 - lo) * 1048576)) / 2) (by omega) (by omega) (by omega)

      exact ⟨_, rroot_s (by omega) (by omega), _, rrootUp_s (by omega) (by omega), _, _, _, _, rg, _, _, _, tr, rfl, rfl, rfl, rfl⟩

    · unfold rrQ; rw [if_pos hr, if_neg (of_decide_eq_false h), if_neg (of_decide_eq_false h')]

  · have e0 : rangeQ lo hi = be (re (-67108864) 67108864 lo hi) := by unfold rangeQ; rw [if_neg hr]

    rw [e0] at hg

    refine BqI.out (rrr r0 r1 (R := BqI _) ⟨_, _, _, _, hg, fun h => absurd (by simpa [be] using h) hr, fun _ => bei_ok ?_⟩)

    unfold rrQ; rw [if_neg hr]; rfl

theorem rrQ_n (lo hi : Int) : BqN (rrQ lo hi) := by

  unfold rrQ

  split

  · rename_i hr

    obtain ⟨k1, k2, k3⟩ := re_ok hr

    split

    · rename_i h0

      obtain ⟨b0, b1, b2⟩ := rr_rng h0 k3 k2.2

      unfold rrM

      exact ⟨by dsimp only; omega, by dsimp only; omega, by dsimp only; omega, by dsimp only; omega⟩

    · split

      · obtain ⟨b0, b1, b2⟩ := rr_rng (lo := 0 - hi) (hi := 0 - lo) (by omega) (by omega) (by omega)

        unfold rrM

        exact ⟨by dsimp only; omega, by dsimp only; omega, by dsimp only; omega, by dsimp only; omega⟩

      · exact be_n (by decide)

  · have := re_vals (-67108864) 67108864 lo hi; exact be_n (by omega)

theorem roots {x0 x1 x2 x3 x4 : Int} (r0 : I64 x0) (r1 : I64 x1) (r2 : I64 x2) (r3 : I64 x3) (r4 : I64 x4) : Spec Try.prog etalonlaw01_BallRoots_s ⟨[x0, x1, x2, x3, x4], [], []⟩ [] [true] [] := by

  have a0 := wball_s r0 r1 r2

  have f0 := cutI_F x0

  have f1 := cutI_F x1

  have t := root_p (U_fi f0) (U_fi f1) r2

  rw [op1_V rootQ f0 f1] at t

  have we := werr_s r0 r1 r2

  refine outt (brt r0 r1 r2 r3 r4 (R := (· = true)) ⟨_, awake_t, fun _ => ⟨_, _, _, a0, _, _, _, _, t, _, _, _, _, realroot_p r3 r4, _, we, fun h => ?_, fun h => ?_⟩, fun h => by cases h⟩)

  · simp only [beq_iff_eq] at h

    have b0 := ckW_rb h

    have tr := root_r b0.hx b0.hy b0.hr

    rw [opV_ok (f := rootQ) h]

    exact ⟨_, _, _, a0, _, _, _, of_s (Rp_fi _) (Rp_fi _) f0 f1 r2, _, _, _, _, tr, _, _, _, _, realroot_r r3 r4, _, (root_n b0.hx b0.hy b0.hr).is, fun _ => ⟨_, (rrQ_n x3 x4).is, rfl⟩, fun h => by cases h⟩

  · simp only [beq_eq_false_iff_ne, ne_eq] at h

    have hv := ckW_v (cutI x0) (cutI x1) x2

    rw [opV_no (f := rootQ) h]

    exact ⟨_, _, _, _, realroot_r r3 r4, _, is_be (by omega), fun _ => ⟨_, (rrQ_n x3 x4).is, rfl⟩, fun h => by cases h⟩

end Go.Proofs.Ytgdhpgjfebinhaa.Ev
