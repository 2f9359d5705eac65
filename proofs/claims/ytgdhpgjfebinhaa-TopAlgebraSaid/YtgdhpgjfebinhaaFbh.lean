/- What balls hold; BallHolds. -/
import Derived.Test.YtgdhpgjfebinhaaFbl
import Derived.Test.YtgdhpgjfebinhaaVep
namespace Go.Proofs.Ytgdhpgjfebinhaa.Ev
set_option linter.unusedSimpArgs false
open Go Go.RowKit
set_option linter.unusedVariables false
set_option maxRecDepth 100000
def etalonlaw01_near_s : Sig := ⟨46, ⟨3, 0, 0⟩, ⟨0, 1, 0⟩, [(.agg [(.int .i64 (.var 0)), (.int .i64 (.var 1)), (.int .i64 (.var 2))])], [], (.bool (.var 0)), []⟩
def etalonlaw01_holds_s : Sig := ⟨47, ⟨6, 0, 0⟩, ⟨0, 1, 0⟩, [(.agg [(.complex .f64 (.var 0) (.var 1)), (.int .i64 (.var 2))]), (.int .i64 (.var 3)), (.int .i64 (.var 4)), (.int .i64 (.var 5))], [], (.bool (.var 0)), []⟩
def etalonbase_Ball_s : Sig := ⟨48, ⟨3, 0, 0⟩, ⟨3, 0, 0⟩, [(.int .i64 (.var 0)), (.int .i64 (.var 1)), (.int .i64 (.var 2))], [], (.agg [(.complex .f64 (.var 3) (.var 4)), (.int .i64 (.var 5))]), []⟩
def etalonlaw01_BallHolds_s : Sig := ⟨8, ⟨10, 0, 0⟩, ⟨0, 1, 0⟩, [(.agg [(.int .i64 (.var 0)), (.int .i64 (.var 1)), (.int .i64 (.var 2))]), (.agg [(.int .i64 (.var 3)), (.int .i64 (.var 4)), (.int .i64 (.var 5))]), (.agg [(.int .i64 (.var 6)), (.int .i64 (.var 7)), (.int .i64 (.var 8)), (.int .i64 (.var 9))])], [], (.bool (.var 0)), []⟩

def ner_t : Tr :=
  (.ite (.icmp .leq (.lit (-4194304)) (.var 0))
  (.ite (.icmp .leq (.var 0) (.lit 4194304))
   (.ite (.icmp .leq (.lit (-4194304)) (.var 1))
    (.ite (.icmp .leq (.var 1) (.lit 4194304))
     (.ite (.icmp .leq (.lit 0) (.var 2))
      (.ret ⟨[], [(.icmp .leq (.var 2) (.lit 100))], []⟩ [])
      (.ret ⟨[], [(.lit false)], []⟩ []))
     (.ret ⟨[], [(.lit false)], []⟩ []))
    (.ret ⟨[], [(.lit false)], []⟩ []))
   (.ret ⟨[], [(.lit false)], []⟩ []))
  (.ret ⟨[], [(.lit false)], []⟩ []))
theorem ner {x0 x1 x2 : Int} (r0 : (-9223372036854775808) ≤ x0 ∧ x0 ≤ 9223372036854775807) (r1 : (-9223372036854775808) ≤ x1 ∧ x1 ≤ 9223372036854775807) (r2 : (-9223372036854775808) ≤ x2 ∧ x2 ≤ 9223372036854775807) {R : Bool → Prop}
  (H : ((decide (((-4194304) : Int) ≤ x0) = true → ((decide ((x0 : Int) ≤ 4194304) = true → ((decide (((-4194304) : Int) ≤ x1) = true → ((decide ((x1 : Int) ≤ 4194304) = true → ((decide ((0 : Int) ≤ x2) = true → R (decide ((x2 : Int) ≤ 100))) ∧
       (decide ((0 : Int) ≤ x2) = false → R (false)))) ∧
      (decide ((x1 : Int) ≤ 4194304) = false → R (false)))) ∧
     (decide (((-4194304) : Int) ≤ x1) = false → R (false)))) ∧
    (decide ((x0 : Int) ≤ 4194304) = false → R (false)))) ∧
   (decide (((-4194304) : Int) ≤ x0) = false → R (false)))) :
    ∃ u0 : Bool, R u0 ∧ Spec Try.prog etalonlaw01_near_s ⟨[x0, x1, x2], [], []⟩ [] [u0] [] :=
  Eq.mp (by kernel_rfl) (exV_of (K := fun d => app3 etalonlaw01_near_s.out R d ∧ Spec Try.prog etalonlaw01_near_s ⟨[x0, x1, x2], [], []⟩ d.1 d.2.1 d.2.2) (tree_at mixed names S1_ok (S := S1 Try.prog) (lf := 100000) (d := 60) etalonlaw01_near_s ner_t { ivs := [(0, (-9223372036854775808), 9223372036854775807), (1, (-9223372036854775808), 9223372036854775807), (2, (-9223372036854775808), 9223372036854775807)], aivs := [] } ⟨[x0, x1, x2], [], []⟩ rfl (by kernel_rfl) (by kernel_rfl) (by kernel_rfl) ⟨(fc r0 (fc r1 (fc r2 fz))), fz, fz, fz⟩ (R := fun d => app3 etalonlaw01_near_s.out R d) (Eq.mp (by kernel_rfl) H)))

def hol_t : Tr :=
  (.whole 0 67108864 (.rng 6 (-67108864) 67108864 (.whole 1 67108864 (.rng 7 (-67108864) 67108864 (.call etalonref01_CheckBall_s ⟨[(.var 0), (.var 1), (.var 2)], [], []⟩ ⟨[(.var 0), (.var 1), (.var 2), (.var 8)], [], []⟩ ⟨62, [(.agg [(.complex .f64 (.var 0) (.var 1)), (.int .i64 (.var 2))])], [], [none], (.int .i64 (.var 8)), []⟩
  (.ite (.icmp .eql (.var 8) (.lit 0))
  (.ite (.icmp .leq (.var 2) (.lit 2000))
   (.ite (.icmp .leq (.bin .subI (.lit 0) (.bin .mulI (.var 2) (.var 5))) (.bin .subI (.var 3) (.bin .mulI (.var 6) (.var 5))))
    (.ite (.icmp .leq (.bin .subI (.var 3) (.bin .mulI (.var 6) (.var 5))) (.bin .mulI (.var 2) (.var 5)))
     (.ite (.icmp .leq (.bin .subI (.lit 0) (.bin .mulI (.var 2) (.var 5))) (.bin .subI (.var 4) (.bin .mulI (.var 7) (.var 5))))
      (.ite (.icmp .leq (.bin .subI (.var 4) (.bin .mulI (.var 7) (.var 5))) (.bin .mulI (.var 2) (.var 5)))
       (.ret ⟨[], [(.icmp .leq (.bin (.addW .i64) (.bin (.mulW .i64) (.bin .subI (.var 3) (.bin .mulI (.var 6) (.var 5))) (.bin .subI (.var 3) (.bin .mulI (.var 6) (.var 5)))) (.bin (.mulW .i64) (.bin .subI (.var 4) (.bin .mulI (.var 7) (.var 5))) (.bin .subI (.var 4) (.bin .mulI (.var 7) (.var 5))))) (.bin .mulI (.bin .mulI (.var 2) (.var 5)) (.bin .mulI (.var 2) (.var 5))))], []⟩ [])
       (.ret ⟨[], [(.lit false)], []⟩ []))
      (.ret ⟨[], [(.lit false)], []⟩ []))
     (.ret ⟨[], [(.lit false)], []⟩ []))
    (.ret ⟨[], [(.lit false)], []⟩ []))
   (.ret ⟨[], [(.lit true)], []⟩ []))
  (.ret ⟨[], [(.lit false)], []⟩ [])))))))
theorem hol {x0 x1 x2 x3 x4 x5 : Int} (r2 : 0 ≤ x2 ∧ x2 ≤ 67108864) (r3 : (-4503599627370496) ≤ x3 ∧ x3 ≤ 4503599627370496) (r4 : (-4503599627370496) ≤ x4 ∧ x4 ≤ 4503599627370496) (r5 : 1 ≤ x5 ∧ x5 ≤ 1048576) {R : Bool → Prop}
  (H : (∃ v6 : Int, (Rp (x0 : Int).toNat v6 ∧ v6.natAbs ≤ 67108864) ∧ (((-67108864) ≤ (v6 : Int) ∧ (v6 : Int) ≤ 67108864) ∧ (∃ v7 : Int, (Rp (x1 : Int).toNat v7 ∧ v7.natAbs ≤ 67108864) ∧ (((-67108864) ≤ (v7 : Int) ∧ (v7 : Int) ≤ 67108864) ∧ (∃ v8 : Int, Spec Try.prog etalonref01_CheckBall_s ⟨[x0, x1, x2], [], []⟩ [v8] [] [] ∧
   ((((v8 : Int) == 0) = true → ((decide ((x2 : Int) ≤ 2000) = true → ((decide (((0 - (x2 * x5)) : Int) ≤ (x3 - (v6 * x5))) = true → ((decide (((x3 - (v6 * x5)) : Int) ≤ (x2 * x5)) = true → ((decide (((0 - (x2 * x5)) : Int) ≤ (x4 - (v7 * x5))) = true → ((decide (((x4 - (v7 * x5)) : Int) ≤ (x2 * x5)) = true → R (decide ((IntKind.i64.wrap (IntKind.i64.wrap ((x3 - (v6 * x5)) * (x3 - (v6 * x5))) + IntKind.i64.wrap ((x4 - (v7 * x5)) * (x4 - (v7 * x5)))) : Int) ≤ ((x2 * x5) * (x2 * x5))))) ∧
        (decide (((x4 - (v7 * x5)) : Int) ≤ (x2 * x5)) = false → R (false)))) ∧
       (decide (((0 - (x2 * x5)) : Int) ≤ (x4 - (v7 * x5))) = false → R (false)))) ∧
      (decide (((x3 - (v6 * x5)) : Int) ≤ (x2 * x5)) = false → R (false)))) ∧
     (decide (((0 - (x2 * x5)) : Int) ≤ (x3 - (v6 * x5))) = false → R (false)))) ∧
    (decide ((x2 : Int) ≤ 2000) = false → R (true)))) ∧
   (((v8 : Int) == 0) = false → R (false))))))))) :
    ∃ u0 : Bool, R u0 ∧ Spec Try.prog etalonlaw01_holds_s ⟨[x0, x1, x2, x3, x4, x5], [], []⟩ [] [u0] [] :=
  Eq.mp (by kernel_rfl) (exV_of (K := fun d => app3 etalonlaw01_holds_s.out R d ∧ Spec Try.prog etalonlaw01_holds_s ⟨[x0, x1, x2, x3, x4, x5], [], []⟩ d.1 d.2.1 d.2.2) (tree_at mixed names S1_ok (S := S1 Try.prog) (lf := 100000) (d := 60) etalonlaw01_holds_s hol_t { ivs := [(2, 0, 67108864), (3, (-4503599627370496), 4503599627370496), (4, (-4503599627370496), 4503599627370496), (5, 1, 1048576)], aivs := [] } ⟨[x0, x1, x2, x3, x4, x5], [], []⟩ rfl (by kernel_rfl) (by kernel_rfl) (by kernel_rfl) ⟨(fc r2 (fc r3 (fc r4 (fc r5 fz)))), fz, fz, fz⟩ (R := fun d => app3 etalonlaw01_holds_s.out R d) (Eq.mp (by kernel_rfl) H)))

def bll_t : Tr :=
  (.ret ⟨[(.toF .f64 (.var 0)), (.toF .f64 (.var 1)), (.var 2)], [], []⟩ [])
theorem bll {x0 x1 x2 : Int} (r0 : (-9223372036854775808) ≤ x0 ∧ x0 ≤ 9223372036854775807) (r1 : (-9223372036854775808) ≤ x1 ∧ x1 ≤ 9223372036854775807) (r2 : (-9223372036854775808) ≤ x2 ∧ x2 ≤ 9223372036854775807) {R : Int → Int → Int → Prop}
  (H : R (((FloatKind.f64.nearest x0 : Nat) : Int)) (((FloatKind.f64.nearest x1 : Nat) : Int)) (x2)) :
    ∃ v0 : Int, ∃ v1 : Int, ∃ v2 : Int, R v0 v1 v2 ∧ Spec Try.prog etalonbase_Ball_s ⟨[x0, x1, x2], [], []⟩ [v0, v1, v2] [] [] :=
  Eq.mp (by kernel_rfl) (exV_of (K := fun d => app3 etalonbase_Ball_s.out R d ∧ Spec Try.prog etalonbase_Ball_s ⟨[x0, x1, x2], [], []⟩ d.1 d.2.1 d.2.2) (tree_at mixed names S1_ok (S := S1 Try.prog) (lf := 100000) (d := 60) etalonbase_Ball_s bll_t { ivs := [(0, (-9223372036854775808), 9223372036854775807), (1, (-9223372036854775808), 9223372036854775807), (2, (-9223372036854775808), 9223372036854775807)], aivs := [] } ⟨[x0, x1, x2], [], []⟩ rfl (by kernel_rfl) (by kernel_rfl) (by kernel_rfl) ⟨(fc r0 (fc r1 (fc r2 fz))), fz, fz, fz⟩ (R := fun d => app3 etalonbase_Ball_s.out R d) (Eq.mp (by kernel_rfl) H)))

def bho_t : Tr :=
  (.call etalonlaw01_awake_s ⟨[], [], []⟩ ⟨[], [(.var 0)], []⟩ ⟨16, [], [], [none, none, none], (.bool (.var 0)), []⟩
  (.ite (.var 0)
  (.call etalonlaw01_near_s ⟨[(.var 0), (.var 1), (.var 2)], [], []⟩ ⟨[(.var 0), (.var 1), (.var 2)], [(.var 1)], []⟩ ⟨46, [(.agg [(.int .i64 (.var 0)), (.int .i64 (.var 1)), (.int .i64 (.var 2))])], [], [none, none, none], (.bool (.var 1)), []⟩
   (.ite (.var 1)
   (.call etalonlaw01_near_s ⟨[(.var 3), (.var 4), (.var 5)], [], []⟩ ⟨[(.var 3), (.var 4), (.var 5)], [(.var 2)], []⟩ ⟨46, [(.agg [(.int .i64 (.var 3)), (.int .i64 (.var 4)), (.int .i64 (.var 5))])], [], [none, none, none], (.bool (.var 2)), []⟩
    (.ite (.var 2)
    (.ite (.icmp .leq (.lit (-100)) (.var 6))
     (.ite (.icmp .leq (.var 6) (.lit 100))
      (.ite (.icmp .leq (.lit (-100)) (.var 8))
       (.ite (.icmp .leq (.var 8) (.lit 100))
        (.ite (.icmp .leq (.lit (-100)) (.var 7))
         (.ite (.icmp .leq (.var 7) (.lit 100))
          (.ite (.icmp .leq (.lit (-100)) (.var 9))
           (.ite (.icmp .leq (.var 9) (.lit 100))
            (.ite (.icmp .leq (.bin .addI (.bin .mulI (.var 6) (.var 6)) (.bin .mulI (.var 7) (.var 7))) (.bin (.mulW .i64) (.var 2) (.var 2)))
             (.ite (.icmp .leq (.bin .addI (.bin .mulI (.var 8) (.var 8)) (.bin .mulI (.var 9) (.var 9))) (.bin (.mulW .i64) (.var 5) (.var 5)))
              (.call _etalonlaw01_Whole__ball_s ⟨[(.var 0), (.var 1), (.var 2)], [], []⟩ ⟨[(.var 0), (.var 1), (.var 2), (.var 10), (.var 11), (.var 12)], [], []⟩ ⟨22, [(.agg [(.int .i64 (.var 0)), (.int .i64 (.var 1)), (.int .i64 (.var 2))])], [], [none, none, none], (.agg [(.complex .f64 (.var 10) (.var 11)), (.int .i64 (.var 12))]), []⟩
               (.call _etalonlaw01_Whole__ball_s ⟨[(.var 3), (.var 4), (.var 5)], [], []⟩ ⟨[(.var 3), (.var 4), (.var 5), (.var 13), (.var 14), (.var 15)], [], []⟩ ⟨22, [(.agg [(.int .i64 (.var 3)), (.int .i64 (.var 4)), (.int .i64 (.var 5))])], [], [none, none, none], (.agg [(.complex .f64 (.var 13) (.var 14)), (.int .i64 (.var 15))]), []⟩
               (.call ball_Plus_s ⟨[(.var 10), (.var 11), (.var 12), (.var 13), (.var 14), (.var 15)], [], []⟩ ⟨[(.var 10), (.var 11), (.var 12), (.var 13), (.var 14), (.var 15), (.var 16), (.var 17), (.var 18), (.var 19)], [], []⟩ ⟨23, [(.agg [(.complex .f64 (.var 10) (.var 11)), (.int .i64 (.var 12))]), (.agg [(.complex .f64 (.var 13) (.var 14)), (.int .i64 (.var 15))])], [], [none, none, none], (.tuple [(.agg [(.complex .f64 (.var 16) (.var 17)), (.int .i64 (.var 18))]), (.int .i64 (.var 19))]), []⟩
               (.ite (.icmp .eql (.var 19) (.lit 0))
               (.call etalonlaw01_holds_s ⟨[(.var 16), (.var 17), (.var 18), (.bin (.addW .i64) (.bin (.addW .i64) (.var 0) (.var 6)) (.bin (.addW .i64) (.var 3) (.var 8))), (.bin (.addW .i64) (.bin (.addW .i64) (.var 1) (.var 7)) (.bin (.addW .i64) (.var 4) (.var 9))), (.lit 1)], [], []⟩ ⟨[(.var 16), (.var 17), (.var 18), (.bin (.addW .i64) (.bin (.addW .i64) (.var 0) (.var 6)) (.bin (.addW .i64) (.var 3) (.var 8))), (.bin (.addW .i64) (.bin (.addW .i64) (.var 1) (.var 7)) (.bin (.addW .i64) (.var 4) (.var 9))), (.lit 1)], [(.var 3)], []⟩ ⟨47, [(.agg [(.complex .f64 (.var 16) (.var 17)), (.int .i64 (.var 18))]), (.int .i64 (.bin (.addW .i64) (.bin (.addW .i64) (.var 0) (.var 6)) (.bin (.addW .i64) (.var 3) (.var 8)))), (.int .i64 (.bin (.addW .i64) (.bin (.addW .i64) (.var 1) (.var 7)) (.bin (.addW .i64) (.var 4) (.var 9)))), (.int .i64 (.lit 1))], [], [none, none, none, none], (.bool (.var 3)), []⟩
                (.ite (.var 3)
                (.call _etalonlaw01_Whole__ball_s ⟨[(.var 0), (.var 1), (.var 2)], [], []⟩ ⟨[(.var 0), (.var 1), (.var 2), (.var 20), (.var 21), (.var 22)], [], []⟩ ⟨22, [(.agg [(.int .i64 (.var 0)), (.int .i64 (.var 1)), (.int .i64 (.var 2))])], [], [none, none, none, none], (.agg [(.complex .f64 (.var 20) (.var 21)), (.int .i64 (.var 22))]), []⟩
                 (.call _etalonlaw01_Whole__ball_s ⟨[(.var 3), (.var 4), (.var 5)], [], []⟩ ⟨[(.var 3), (.var 4), (.var 5), (.var 23), (.var 24), (.var 25)], [], []⟩ ⟨22, [(.agg [(.int .i64 (.var 3)), (.int .i64 (.var 4)), (.int .i64 (.var 5))])], [], [none, none, none, none], (.agg [(.complex .f64 (.var 23) (.var 24)), (.int .i64 (.var 25))]), []⟩
                 (.call ball_Times_s ⟨[(.var 20), (.var 21), (.var 22), (.var 23), (.var 24), (.var 25)], [], []⟩ ⟨[(.var 20), (.var 21), (.var 22), (.var 23), (.var 24), (.var 25), (.var 26), (.var 27), (.var 28), (.var 29)], [], []⟩ ⟨36, [(.agg [(.complex .f64 (.var 20) (.var 21)), (.int .i64 (.var 22))]), (.agg [(.complex .f64 (.var 23) (.var 24)), (.int .i64 (.var 25))])], [], [none, none, none, none], (.tuple [(.agg [(.complex .f64 (.var 26) (.var 27)), (.int .i64 (.var 28))]), (.int .i64 (.var 29))]), []⟩
                 (.ite (.icmp .eql (.var 29) (.lit 0))
                 (.call etalonlaw01_holds_s ⟨[(.var 26), (.var 27), (.var 28), (.bin (.subW .i64) (.bin (.mulW .i64) (.bin (.addW .i64) (.var 0) (.var 6)) (.bin (.addW .i64) (.var 3) (.var 8))) (.bin (.mulW .i64) (.bin (.addW .i64) (.var 1) (.var 7)) (.bin (.addW .i64) (.var 4) (.var 9)))), (.bin (.addW .i64) (.bin (.mulW .i64) (.bin (.addW .i64) (.var 0) (.var 6)) (.bin (.addW .i64) (.var 4) (.var 9))) (.bin (.mulW .i64) (.bin (.addW .i64) (.var 1) (.var 7)) (.bin (.addW .i64) (.var 3) (.var 8)))), (.lit 1048576)], [], []⟩ ⟨[(.var 26), (.var 27), (.var 28), (.bin (.subW .i64) (.bin (.mulW .i64) (.bin (.addW .i64) (.var 0) (.var 6)) (.bin (.addW .i64) (.var 3) (.var 8))) (.bin (.mulW .i64) (.bin (.addW .i64) (.var 1) (.var 7)) (.bin (.addW .i64) (.var 4) (.var 9)))), (.bin (.addW .i64) (.bin (.mulW .i64) (.bin (.addW .i64) (.var 0) (.var 6)) (.bin (.addW .i64) (.var 4) (.var 9))) (.bin (.mulW .i64) (.bin (.addW .i64) (.var 1) (.var 7)) (.bin (.addW .i64) (.var 3) (.var 8)))), (.lit 1048576)], [(.var 4)], []⟩ ⟨47, [(.agg [(.complex .f64 (.var 26) (.var 27)), (.int .i64 (.var 28))]), (.int .i64 (.bin (.subW .i64) (.bin (.mulW .i64) (.bin (.addW .i64) (.var 0) (.var 6)) (.bin (.addW .i64) (.var 3) (.var 8))) (.bin (.mulW .i64) (.bin (.addW .i64) (.var 1) (.var 7)) (.bin (.addW .i64) (.var 4) (.var 9))))), (.int .i64 (.bin (.addW .i64) (.bin (.mulW .i64) (.bin (.addW .i64) (.var 0) (.var 6)) (.bin (.addW .i64) (.var 4) (.var 9))) (.bin (.mulW .i64) (.bin (.addW .i64) (.var 1) (.var 7)) (.bin (.addW .i64) (.var 3) (.var 8))))), (.int .i64 (.lit 1048576))], [], [none, none, none, none, none], (.bool (.var 4)), []⟩
                  (.ite (.var 4)
                  (.call _etalonlaw01_Whole__ball_s ⟨[(.var 0), (.var 1), (.var 2)], [], []⟩ ⟨[(.var 0), (.var 1), (.var 2), (.var 30), (.var 31), (.var 32)], [], []⟩ ⟨22, [(.agg [(.int .i64 (.var 0)), (.int .i64 (.var 1)), (.int .i64 (.var 2))])], [], [none, none, none, none, none], (.agg [(.complex .f64 (.var 30) (.var 31)), (.int .i64 (.var 32))]), []⟩
                   (.call _etalonlaw01_Whole__ball_s ⟨[(.var 3), (.var 4), (.var 5)], [], []⟩ ⟨[(.var 3), (.var 4), (.var 5), (.var 33), (.var 34), (.var 35)], [], []⟩ ⟨22, [(.agg [(.int .i64 (.var 3)), (.int .i64 (.var 4)), (.int .i64 (.var 5))])], [], [none, none, none, none, none], (.agg [(.complex .f64 (.var 33) (.var 34)), (.int .i64 (.var 35))]), []⟩
                   (.call ball_Quotient_s ⟨[(.var 30), (.var 31), (.var 32), (.var 33), (.var 34), (.var 35)], [], []⟩ ⟨[(.var 30), (.var 31), (.var 32), (.var 33), (.var 34), (.var 35), (.var 36), (.var 37), (.var 38), (.var 39)], [], []⟩ ⟨40, [(.agg [(.complex .f64 (.var 30) (.var 31)), (.int .i64 (.var 32))]), (.agg [(.complex .f64 (.var 33) (.var 34)), (.int .i64 (.var 35))])], [], [none, none, none, none, none], (.tuple [(.agg [(.complex .f64 (.var 36) (.var 37)), (.int .i64 (.var 38))]), (.int .i64 (.var 39))]), []⟩
                   (.ite (.icmp .eql (.var 39) (.lit 0))
                   (.call etalonbase_Ball_s ⟨[(.bin (.addW .i64) (.var 3) (.var 8)), (.bin (.addW .i64) (.var 4) (.var 9)), (.lit 0)], [], []⟩ ⟨[(.bin (.addW .i64) (.var 3) (.var 8)), (.bin (.addW .i64) (.var 4) (.var 9)), (.lit 0), (.var 40), (.var 41), (.var 42)], [], []⟩ ⟨48, [(.int .i64 (.bin (.addW .i64) (.var 3) (.var 8))), (.int .i64 (.bin (.addW .i64) (.var 4) (.var 9))), (.int .i64 (.lit 0))], [], [none, none, none, none, none, none], (.agg [(.complex .f64 (.var 40) (.var 41)), (.int .i64 (.var 42))]), []⟩
                    (.call ball_Times_s ⟨[(.var 36), (.var 37), (.var 38), (.var 40), (.var 41), (.var 42)], [], []⟩ ⟨[(.var 36), (.var 37), (.var 38), (.var 40), (.var 41), (.var 42), (.var 43), (.var 44), (.var 45), (.var 46)], [], []⟩ ⟨36, [(.agg [(.complex .f64 (.var 36) (.var 37)), (.int .i64 (.var 38))]), (.agg [(.complex .f64 (.var 40) (.var 41)), (.int .i64 (.var 42))])], [], [none, none, none, none, none, none], (.tuple [(.agg [(.complex .f64 (.var 43) (.var 44)), (.int .i64 (.var 45))]), (.int .i64 (.var 46))]), []⟩
                    (.ite (.icmp .eql (.var 46) (.lit 8))
                    (.ret ⟨[], [(.lit true)], []⟩ [])
                    (.ite (.icmp .eql (.var 46) (.lit 0))
                     (.call etalonlaw01_holds_s ⟨[(.var 43), (.var 44), (.var 45), (.bin (.addW .i64) (.var 0) (.var 6)), (.bin (.addW .i64) (.var 1) (.var 7)), (.lit 1)], [], []⟩ ⟨[(.var 43), (.var 44), (.var 45), (.bin (.addW .i64) (.var 0) (.var 6)), (.bin (.addW .i64) (.var 1) (.var 7)), (.lit 1)], [(.var 5)], []⟩ ⟨47, [(.agg [(.complex .f64 (.var 43) (.var 44)), (.int .i64 (.var 45))]), (.int .i64 (.bin (.addW .i64) (.var 0) (.var 6))), (.int .i64 (.bin (.addW .i64) (.var 1) (.var 7))), (.int .i64 (.lit 1))], [], [none, none, none, none, none, none, none], (.bool (.var 5)), []⟩
                      (.ret ⟨[], [(.var 5)], []⟩ []))
                     (.ret ⟨[], [(.lit false)], []⟩ [])))))
                   (.ite (.icmp .eql (.var 39) (.lit 9))
                    (.ret ⟨[], [(.lit true)], []⟩ [])
                    (.ret ⟨[], [(.icmp .eql (.var 39) (.lit 8))], []⟩ []))))))
                  (.ret ⟨[], [(.lit false)], []⟩ [])))
                 (.ret ⟨[], [(.lit false)], []⟩ [])))))
                (.ret ⟨[], [(.lit false)], []⟩ [])))
               (.ret ⟨[], [(.lit false)], []⟩ [])))))
              (.ret ⟨[], [(.lit true)], []⟩ []))
             (.ret ⟨[], [(.lit true)], []⟩ []))
            (.ret ⟨[], [(.lit true)], []⟩ []))
           (.ret ⟨[], [(.lit true)], []⟩ []))
          (.ret ⟨[], [(.lit true)], []⟩ []))
         (.ret ⟨[], [(.lit true)], []⟩ []))
        (.ret ⟨[], [(.lit true)], []⟩ []))
       (.ret ⟨[], [(.lit true)], []⟩ []))
      (.ret ⟨[], [(.lit true)], []⟩ []))
     (.ret ⟨[], [(.lit true)], []⟩ []))
    (.ret ⟨[], [(.lit true)], []⟩ [])))
   (.ret ⟨[], [(.lit true)], []⟩ [])))
  (.ret ⟨[], [(.lit false)], []⟩ [])))
theorem bho {x0 x1 x2 x3 x4 x5 x6 x7 x8 x9 : Int} (r0 : (-9223372036854775808) ≤ x0 ∧ x0 ≤ 9223372036854775807) (r1 : (-9223372036854775808) ≤ x1 ∧ x1 ≤ 9223372036854775807) (r2 : (-9223372036854775808) ≤ x2 ∧ x2 ≤ 9223372036854775807) (r3 : (-9223372036854775808) ≤ x3 ∧ x3 ≤ 9223372036854775807) (r4 : (-9223372036854775808) ≤ x4 ∧ x4 ≤ 9223372036854775807) (r5 : (-9223372036854775808) ≤ x5 ∧ x5 ≤ 9223372036854775807) (r6 : (-9223372036854775808) ≤ x6 ∧ x6 ≤ 9223372036854775807) (r7 : (-9223372036854775808) ≤ x7 ∧ x7 ≤ 9223372036854775807) (r8 : (-9223372036854775808) ≤ x8 ∧ x8 ≤ 9223372036854775807) (r9 : (-9223372036854775808) ≤ x9 ∧ x9 ≤ 9223372036854775807) {R : Bool → Prop}
  (H : (∃ u0 : Bool, Spec Try.prog etalonlaw01_awake_s ⟨[], [], []⟩ [] [u0] [] ∧
   ((u0 = true → (∃ u1 : Bool, Spec Try.prog etalonlaw01_near_s ⟨[x0, x1, x2], [], []⟩ [] [u1] [] ∧
    ((u1 = true → (∃ u2 : Bool, Spec Try.prog etalonlaw01_near_s ⟨[x3, x4, x5], [], []⟩ [] [u2] [] ∧
     ((u2 = true → ((decide (((-100) : Int) ≤ x6) = true → ((decide ((x6 : Int) ≤ 100) = true → ((decide (((-100) : Int) ≤ x8) = true → ((decide ((x8 : Int) ≤ 100) = true → ((decide (((-100) : Int) ≤ x7) = true → ((decide ((x7 : Int) ≤ 100) = true → ((decide (((-100) : Int) ≤ x9) = true → ((decide ((x9 : Int) ≤ 100) = true → ((decide ((((x6 * x6) + (x7 * x7)) : Int) ≤ IntKind.i64.wrap (x2 * x2)) = true → ((decide ((((x8 * x8) + (x9 * x9)) : Int) ≤ IntKind.i64.wrap (x5 * x5)) = true → (∃ v10 : Int, ∃ v11 : Int, ∃ v12 : Int, Spec Try.prog _etalonlaw01_Whole__ball_s ⟨[x0, x1, x2], [], []⟩ [v10, v11, v12] [] [] ∧
                (∃ v13 : Int, ∃ v14 : Int, ∃ v15 : Int, Spec Try.prog _etalonlaw01_Whole__ball_s ⟨[x3, x4, x5], [], []⟩ [v13, v14, v15] [] [] ∧
                (∃ v16 : Int, ∃ v17 : Int, ∃ v18 : Int, ∃ v19 : Int, Spec Try.prog ball_Plus_s ⟨[v10, v11, v12, v13, v14, v15], [], []⟩ [v16, v17, v18, v19] [] [] ∧
                ((((v19 : Int) == 0) = true → (∃ u3 : Bool, Spec Try.prog etalonlaw01_holds_s ⟨[v16, v17, v18, IntKind.i64.wrap (IntKind.i64.wrap (x0 + x6) + IntKind.i64.wrap (x3 + x8)), IntKind.i64.wrap (IntKind.i64.wrap (x1 + x7) + IntKind.i64.wrap (x4 + x9)), 1], [], []⟩ [] [u3] [] ∧
                 ((u3 = true → (∃ v20 : Int, ∃ v21 : Int, ∃ v22 : Int, Spec Try.prog _etalonlaw01_Whole__ball_s ⟨[x0, x1, x2], [], []⟩ [v20, v21, v22] [] [] ∧
                  (∃ v23 : Int, ∃ v24 : Int, ∃ v25 : Int, Spec Try.prog _etalonlaw01_Whole__ball_s ⟨[x3, x4, x5], [], []⟩ [v23, v24, v25] [] [] ∧
                  (∃ v26 : Int, ∃ v27 : Int, ∃ v28 : Int, ∃ v29 : Int, Spec Try.prog ball_Times_s ⟨[v20, v21, v22, v23, v24, v25], [], []⟩ [v26, v27, v28, v29] [] [] ∧
                  ((((v29 : Int) == 0) = true → (∃ u4 : Bool, Spec Try.prog etalonlaw01_holds_s ⟨[v26, v27, v28, IntKind.i64.wrap (IntKind.i64.wrap (IntKind.i64.wrap (x0 + x6) * IntKind.i64.wrap (x3 + x8)) - IntKind.i64.wrap (IntKind.i64.wrap (x1 + x7) * IntKind.i64.wrap (x4 + x9))), IntKind.i64.wrap (IntKind.i64.wrap (IntKind.i64.wrap (x0 + x6) * IntKind.i64.wrap (x4 + x9)) + IntKind.i64.wrap (IntKind.i64.wrap (x1 + x7) * IntKind.i64.wrap (x3 + x8))), 1048576], [], []⟩ [] [u4] [] ∧
                   ((u4 = true → (∃ v30 : Int, ∃ v31 : Int, ∃ v32 : Int, Spec Try.prog _etalonlaw01_Whole__ball_s ⟨[x0, x1, x2], [], []⟩ [v30, v31, v32] [] [] ∧
                    (∃ v33 : Int, ∃ v34 : Int, ∃ v35 : Int, Spec Try.prog _etalonlaw01_Whole__ball_s ⟨[x3, x4, x5], [], []⟩ [v33, v34, v35] [] [] ∧
                    (∃ v36 : Int, ∃ v37 : Int, ∃ v38 : Int, ∃ v39 : Int, Spec Try.prog ball_Quotient_s ⟨[v30, v31, v32, v33, v34, v35], [], []⟩ [v36, v37, v38, v39] [] [] ∧
                    ((((v39 : Int) == 0) = true → (∃ v40 : Int, ∃ v41 : Int, ∃ v42 : Int, Spec Try.prog etalonbase_Ball_s ⟨[IntKind.i64.wrap (x3 + x8), IntKind.i64.wrap (x4 + x9), 0], [], []⟩ [v40, v41, v42] [] [] ∧
                     (∃ v43 : Int, ∃ v44 : Int, ∃ v45 : Int, ∃ v46 : Int, Spec Try.prog ball_Times_s ⟨[v36, v37, v38, v40, v41, v42], [], []⟩ [v43, v44, v45, v46] [] [] ∧
                     ((((v46 : Int) == 8) = true → R (true)) ∧
                     (((v46 : Int) == 8) = false → ((((v46 : Int) == 0) = true → (∃ u5 : Bool, Spec Try.prog etalonlaw01_holds_s ⟨[v43, v44, v45, IntKind.i64.wrap (x0 + x6), IntKind.i64.wrap (x1 + x7), 1], [], []⟩ [] [u5] [] ∧
                       R (u5))) ∧
                      (((v46 : Int) == 0) = false → R (false)))))))) ∧
                    (((v39 : Int) == 0) = false → ((((v39 : Int) == 9) = true → R (true)) ∧
                     (((v39 : Int) == 9) = false → R (((v39 : Int) == 8)))))))))) ∧
                   (u4 = false → R (false))))) ∧
                  (((v29 : Int) == 0) = false → R (false))))))) ∧
                 (u3 = false → R (false))))) ∧
                (((v19 : Int) == 0) = false → R (false))))))) ∧
               (decide ((((x8 * x8) + (x9 * x9)) : Int) ≤ IntKind.i64.wrap (x5 * x5)) = false → R (true)))) ∧
              (decide ((((x6 * x6) + (x7 * x7)) : Int) ≤ IntKind.i64.wrap (x2 * x2)) = false → R (true)))) ∧
             (decide ((x9 : Int) ≤ 100) = false → R (true)))) ∧
            (decide (((-100) : Int) ≤ x9) = false → R (true)))) ∧
           (decide ((x7 : Int) ≤ 100) = false → R (true)))) ∧
          (decide (((-100) : Int) ≤ x7) = false → R (true)))) ∧
         (decide ((x8 : Int) ≤ 100) = false → R (true)))) ∧
        (decide (((-100) : Int) ≤ x8) = false → R (true)))) ∧
       (decide ((x6 : Int) ≤ 100) = false → R (true)))) ∧
      (decide (((-100) : Int) ≤ x6) = false → R (true)))) ∧
     (u2 = false → R (true))))) ∧
    (u1 = false → R (true))))) ∧
   (u0 = false → R (false))))) :
    ∃ u0 : Bool, R u0 ∧ Spec Try.prog etalonlaw01_BallHolds_s ⟨[x0, x1, x2, x3, x4, x5, x6, x7, x8, x9], [], []⟩ [] [u0] [] :=
  Eq.mp (by kernel_rfl) (exV_of (K := fun d => app3 etalonlaw01_BallHolds_s.out R d ∧ Spec Try.prog etalonlaw01_BallHolds_s ⟨[x0, x1, x2, x3, x4, x5, x6, x7, x8, x9], [], []⟩ d.1 d.2.1 d.2.2) (tree_at mixed names S1_ok (S := S1 Try.prog) (lf := 100000) (d := 60) etalonlaw01_BallHolds_s bho_t { ivs := [(0, (-9223372036854775808), 9223372036854775807), (1, (-9223372036854775808), 9223372036854775807), (2, (-9223372036854775808), 9223372036854775807), (3, (-9223372036854775808), 9223372036854775807), (4, (-9223372036854775808), 9223372036854775807), (5, (-9223372036854775808), 9223372036854775807), (6, (-9223372036854775808), 9223372036854775807), (7, (-9223372036854775808), 9223372036854775807), (8, (-9223372036854775808), 9223372036854775807), (9, (-9223372036854775808), 9223372036854775807)], aivs := [] } ⟨[x0, x1, x2, x3, x4, x5, x6, x7, x8, x9], [], []⟩ rfl (by kernel_rfl) (by kernel_rfl) (by kernel_rfl) ⟨(fc r0 (fc r1 (fc r2 (fc r3 (fc r4 (fc r5 (fc r6 (fc r7 (fc r8 (fc r9 fz)))))))))), fz, fz, fz⟩ (R := fun d => app3 etalonlaw01_BallHolds_s.out R d) (Eq.mp (by kernel_rfl) H)))

theorem upw_nrm (x y : Int) : Nrm (upw x y) x y := by

  have k := rtu_all (n := x * x + y * y) (by have := sqn x; have := sqn y; omega)

  exact ⟨k.1, k.2.1⟩

theorem dn_sqv (x y : Int) : 0 ≤ dn x y ∧ dn x y * dn x y ≤ x * x + y * y := by

  have k := rti_all (n := x * x + y * y) (by have := sqn x; have := sqn y; omega)

  exact ⟨k.1, k.2.1⟩

theorem rdiv_near (n d : Int) (hd : 0 < d) : -d ≤ 2 * (n - d * rdiv n d) ∧ 2 * (n - d * rdiv n d) ≤ d := by

  unfold rdiv

  have e := Int.mul_ediv_add_emod (2 * n + d) (2 * d)

  have r0 := Int.emod_nonneg (2 * n + d) (show 2 * d ≠ 0 by omega)

  have r1 := Int.emod_lt_of_pos (2 * n + d) (show 0 < 2 * d by omega)

  generalize (2 * n + d) / (2 * d) = q at *

  have : 2 * d * q = 2 * (d * q) := Int.mul_assoc _ _ _

  omega

theorem rdiv_whole {n d : Int} (hd : 0 < d) (h : wholeB n d = true) : n - d * rdiv n d = 0 := by

  have h' : n % d = 0 := by rw [wholeB_mod] at h; simpa using h

  unfold rdiv

  have e := Int.mul_ediv_add_emod n d

  rw [h'] at e

  generalize n / d = k at e

  have : (2 * n + d) / (2 * d) = k := by

    rw [show 2 * n + d = d + 2 * d * k by rw [← e, Int.mul_assoc, Int.add_zero, Int.add_comm], Int.add_mul_ediv_left _ _ (by omega), Int.ediv_eq_zero_of_lt (by omega) (by omega)]

    omega

  rw [this]; omega

/-- What rounding adds. -/

def mo2 (u v : Bool) : Int := if u = true ∧ v = true then 0 else 1

theorem mo_add (u v : Bool) (c : Int) : mo u v c = c + mo2 u v := by unfold mo mo2; split <;> omega

theorem mo2_nn (u v : Bool) : 0 ≤ mo2 u v := by unfold mo2; split <;> decide

theorem rdiv_nrm (a b d : Int) (hd : 0 < d) : Nrm (d * mo2 (wholeB a d) (wholeB b d)) (a - d * rdiv a d) (b - d * rdiv b d) := by

  unfold mo2

  by_cases h : wholeB a d = true ∧ wholeB b d = true

  · rw [if_pos h, rdiv_whole hd h.1, rdiv_whole hd h.2, Int.mul_zero]

    exact Nrm.zero

  · rw [if_neg h, Int.mul_one]

    have h1 := rdiv_near a d hd

    have h2 := rdiv_near b d hd

    exact Nrm.half (by omega) h1.1 h1.2 h2.1 h2.2

theorem cdiv_ge (n d : Int) (hd : 0 < d) : n ≤ d * cdiv n d := (cdiv_spec' n hd).1

def pX (X Y Z W : Int) : Int := rdiv (X * Z - Y * W) 1048576

def pY (X Y Z W : Int) : Int := rdiv (X * W + Y * Z) 1048576

def pR (X Y r Z W s : Int) : Int := mo (wholeB (X * Z - Y * W) 1048576) (wholeB (X * W + Y * Z) 1048576) (cdiv (upw X Y * s + upw Z W * r + r * s) 1048576)

theorem timesQ_eq (X Y r Z W s : Int) : timesQ X Y r Z W s = bk (pX X Y Z W) (pY X Y Z W) (pR X Y r Z W s) := rfl

theorem holds_prod {x y r u v s P Q D P' Q' D' : Int} (hD : 0 ≤ D) (hD' : 0 ≤ D') (h : Hlds x y r P Q D) (h' : Hlds u v s P' Q' D') :

    Hlds (pX x y u v) (pY x y u v) (pR x y r u v s) (P * P' - Q * Q') (P * Q' + Q * P') (D * D' * 1048576) := by

  have c := cdiv_ge (upw x y * s + upw u v * r + r * s) 1048576 (by decide)

  refine Hlds.times hD hD' h h' (upw_nrm x y) (upw_nrm u v) (rdiv_nrm (x * u - y * v) (x * v + y * u) 1048576 (by decide)) ?_

  unfold pR

  rw [mo_add, Int.mul_add]

  omega

def qX (X Y Z W : Int) : Int := rdiv (qn1 X Y Z W * 1048576) (Z * Z + W * W)

def qY (X Y Z W : Int) : Int := rdiv (qn2 X Y Z W * 1048576) (Z * Z + W * W)

def qR (X Y r Z W s : Int) : Int := mo (wholeB (qn1 X Y Z W * 1048576) (Z * Z + W * W)) (wholeB (qn2 X Y Z W * 1048576) (Z * Z + W * W)) (cdiv ((r * upw Z W + upw X Y * s) * 1048576) ((dn Z W - s) * dn Z W))

theorem quotQ_eq (X Y r Z W s : Int) : quotQ X Y r Z W s = if dn Z W - s ≤ 0 then be 9 else bk (qX X Y Z W) (qY X Y Z W) (qR X Y r Z W s) := rfl

theorem holds_quo {x y r u v s P Q D P' Q' D' : Int} (s0 : 0 ≤ s) (hz : 0 < dn u v - s) (hD : 0 < D) (hD' : 0 < D') (h : Hlds x y r P Q D) (h' : Hlds u v s P' Q' D') :

    Hlds (qX x y u v) (qY x y u v) (qR x y r u v s) (1048576 * D' * (P * P' + Q * Q')) (1048576 * D' * (Q * P' - P * Q')) (D * (P' * P' + Q' * Q')) := by

  obtain ⟨k0, k1⟩ := dn_sqv u v

  have hk : 0 < dn u v * dn u v := Int.mul_pos (by omega) (by omega)

  have hM : 0 < u * u + v * v := by omega

  have hd : 0 < (dn u v - s) * dn u v := Int.mul_pos (by omega) (by omega)

  have c := cdiv_ge ((r * upw u v + upw x y * s) * 1048576) ((dn u v - s) * dn u v) hd

  have hr := rdiv_nrm (qn1 x y u v * 1048576) (qn2 x y u v * 1048576) (u * u + v * v) hM

  refine Hlds.quot (T := 1048576) (t := mo2 (wholeB (qn1 x y u v * 1048576) (u * u + v * v)) (wholeB (qn2 x y u v * 1048576) (u * u + v * v))) (by decide) hD hD' h h' (upw_nrm x y) (upw_nrm u v) k0 (by omega) k1 (mo2_nn _ _) (hr.cast rfl ?_ ?_) ?_

  · have k1 : qn1 x y u v = x * u + y * v := by unfold qn1; grind

    show qn1 x y u v * 1048576 - (u * u + v * v) * qX x y u v = _

    rw [k1, Int.mul_comm 1048576]

  · have k2 : qn2 x y u v = y * u - x * v := by unfold qn2; grind

    show qn2 x y u v * 1048576 - (u * u + v * v) * qY x y u v = _

    rw [k2, Int.mul_comm 1048576]

  · unfold qR

    rw [mo_add]

    have e : dn u v * (dn u v - s) = (dn u v - s) * dn u v := Int.mul_comm _ _

    rw [e, Int.mul_add ((dn u v - s) * dn u v)]

    have e2 : 1048576 * (r * upw u v + upw x y * s) = (r * upw u v + upw x y * s) * 1048576 := Int.mul_comm _ _

    rw [e2]

    omega

/-- A result that is a ball. -/

theorem bk_split {x y r : Int} : (okB x y r ∧ bk x y r = ⟨x, y, r, 0⟩) ∨ (¬ okB x y r ∧ bk x y r = be 8) := by

  by_cases h : okB x y r

  · exact .inl ⟨h, if_pos h⟩

  · exact .inr ⟨h, if_neg h⟩

theorem ckW_ok {x y r : Int} (h : okB x y r) (h0 : 0 ≤ r) : ckW x y r = 0 := by unfold ckW; rw [if_pos ⟨h.1, h.2.1, h0, h.2.2⟩]

def nearB (x y r : Int) : Prop := ((-4194304) ≤ x ∧ x ≤ 4194304) ∧ ((-4194304) ≤ y ∧ y ≤ 4194304) ∧ (0 ≤ r ∧ r ≤ 100)

theorem near_s {x y r : Int} (hx : I64 x) (hy : I64 y) (hr : I64 r) : ∃ u : Bool, (u = true ↔ nearB x y r) ∧ Spec Try.prog etalonlaw01_near_s ⟨[x, y, r], [], []⟩ [] [u] [] := by

  refine ner hx hy hr (R := fun u => u = true ↔ nearB x y r) ?_

  unfold nearB

  simp only [decide_eq_true_eq, decide_eq_false_iff_not, Bool.false_eq_true, false_iff]

  refine ⟨fun a => ⟨fun b => ⟨fun c => ⟨fun d => ⟨fun e => ⟨fun f => ⟨⟨a, b⟩, ⟨c, d⟩, e, f⟩, fun k => k.2.2.2⟩, fun e k => e k.2.2.1⟩, fun d k => d k.2.1.2⟩, fun c k => c k.2.1.1⟩, fun b k => b k.1.2⟩, fun a k => a k.1.1⟩

theorem holds_s {X Y R x y b : Int} (hX : (-67108864) ≤ X ∧ X ≤ 67108864) (hY : (-67108864) ≤ Y ∧ Y ≤ 67108864) (hR : 0 ≤ R ∧ R ≤ 67108864) (hx : (-4503599627370496) ≤ x ∧ x ≤ 4503599627370496) (hy : (-4503599627370496) ≤ y ∧ y ≤ 4503599627370496) (hb : 1 ≤ b ∧ b ≤ 1048576) (h : Hlds X Y R x y b) :

    Spec Try.prog etalonlaw01_holds_s ⟨[F X, F Y, R, x, y, b], [], []⟩ [] [true] [] := by

  have iX : InF X := ⟨by omega, by omega⟩

  have iY : InF Y := ⟨by omega, by omega⟩

  have ck := checkBall_r (a := fi X) (b := fi Y) (r := R) (U_fi iX) (U_fi iY) (by omega)

  rw [ckB_rp (Rp_fi X) (Rp_fi Y) iX iY, show ckW X Y R = 0 from ckW_ok ⟨hX, hY, hR.2⟩ hR.1] at ck

  refine outt (hol hR hx hy hb (R := (· = true)) ⟨X, ⟨F_rp X, by omega⟩, hX, Y, ⟨F_rp Y, by omega⟩, hY, _, ck, fun _ => ⟨fun h9 => ?_, fun _ => rfl⟩, fun h9 => by simp at h9⟩)

  have h2 : R ≤ 2000 := of_decide_eq_true h9

  have h' : Nrm (R * b) (x - X * b) (y - Y * b) := Nrm.cast h (Int.mul_comm _ _) (by rw [Int.mul_comm]) (by rw [Int.mul_comm])

  have f1 := h'.fst

  have f2 := h'.snd

  obtain ⟨n0, n1⟩ := h'

  have m3 : R * b ≤ 2000 * 1048576 := Int.mul_le_mul h2 hb.2 (by omega) (by decide)

  generalize x - X * b = p at *

  generalize y - Y * b = q at *

  generalize R * b = g at *

  have s1 := sq_bd (X := p) (M := 2097152000) (by omega)

  have s2 := sq_bd (X := q) (M := 2097152000) (by omega)

  have s3 := sq_bd (X := g) (M := 2097152000) (by omega)

  have w1 : IntKind.i64.wrap (p * p) = p * p := wrapI (by omega)

  have w2 : IntKind.i64.wrap (q * q) = q * q := wrapI (by omega)

  have w3 : IntKind.i64.wrap (p * p + q * q) = p * p + q * q := wrapI (by omega)

  rw [w1, w2, w3]

  exact ⟨fun _ => ⟨fun _ => ⟨fun _ => ⟨fun _ => decide_eq_true n1, fun k => absurd (of_decide_eq_false k) (by omega)⟩, fun k => absurd (of_decide_eq_false k) (by omega)⟩, fun k => absurd (of_decide_eq_false k) (by omega)⟩, fun k => absurd (of_decide_eq_false k) (by omega)⟩

theorem bball_s {x y r : Int} (hx : I64 x) (hy : I64 y) (hr : I64 r) : Spec Try.prog etalonbase_Ball_s ⟨[x, y, r], [], []⟩ [F x, F y, r] [] [] :=

  outb3 (bll hx hy hr (R := fun a b c => a = F x ∧ b = F y ∧ c = r) ⟨rfl, rfl, rfl⟩)

theorem prod_near {X Y r Z W s : Int} (h : nearB X Y r) (g : nearB Z W s) : okB (pX X Y Z W) (pY X Y Z W) (pR X Y r Z W s) ∧ 0 ≤ pR X Y r Z W s := by

  obtain ⟨hx, hy, hr⟩ := h

  obtain ⟨hz, hw, hs⟩ := g

  have m1 := mb hx hz

  have m2 := mb hy hw

  have m3 := mb hx hw

  have m4 := mb hy hz

  have b1 := sq_bd hx

  have b2 := sq_bd hy

  have b3 := sq_bd hz

  have b4 := sq_bd hw

  have u1 : 0 ≤ upw X Y ∧ upw X Y ≤ 5931642 := ⟨(rtu_all (by omega)).1, rtu_le (by omega) (by decide) (by omega)⟩

  have u2 : 0 ≤ upw Z W ∧ upw Z W ≤ 5931642 := ⟨(rtu_all (by omega)).1, rtu_le (by omega) (by decide) (by omega)⟩

  have p1 : 0 ≤ upw X Y * s ∧ upw X Y * s ≤ 5931642 * 100 := ⟨Int.mul_nonneg u1.1 hs.1, Int.mul_le_mul u1.2 hs.2 hs.1 (by decide)⟩

  have p2 : 0 ≤ upw Z W * r ∧ upw Z W * r ≤ 5931642 * 100 := ⟨Int.mul_nonneg u2.1 hr.1, Int.mul_le_mul u2.2 hr.2 hr.1 (by decide)⟩

  have p3 : 0 ≤ r * s ∧ r * s ≤ 100 * 100 := ⟨Int.mul_nonneg hr.1 hs.1, Int.mul_le_mul hr.2 hs.2 hs.1 (by decide)⟩

  have c : 0 ≤ cdiv (upw X Y * s + upw Z W * r + r * s) 1048576 ∧ cdiv (upw X Y * s + upw Z W * r + r * s) 1048576 ≤ 2000 := by unfold cdiv; omega

  have mm := mo2_nn (wholeB (X * Z - Y * W) 1048576) (wholeB (X * W + Y * Z) 1048576)

  have m5 : mo2 (wholeB (X * Z - Y * W) 1048576) (wholeB (X * W + Y * Z) 1048576) ≤ 1 := by unfold mo2; split <;> decide

  have e : pR X Y r Z W s = _ := mo_add _ _ _

  have x1 : (-67108864) ≤ pX X Y Z W ∧ pX X Y Z W ≤ 67108864 := by unfold pX rdiv; omega

  have x2 : (-67108864) ≤ pY X Y Z W ∧ pY X Y Z W ≤ 67108864 := by unfold pY rdiv; omega

  exact ⟨⟨x1, x2, by omega⟩, by omega⟩

theorem ckW_near {X Y r : Int} (h : nearB X Y r) : ckW X Y r = 0 := by obtain ⟨h1, h2, h3⟩ := h; unfold ckW; rw [if_pos (by omega)]

theorem times_W' {X Y r Z W s : Int} (hX : InF X) (hY : InF Y) (hr : I64 r) (hZ : InF Z) (hW : InF W) (hs : I64 s) : Spec Try.prog ball_Times_s ⟨[F X, F Y, r, F Z, F W, s], [], []⟩ [F (opW timesQ X Y r Z W s).x, F (opW timesQ X Y r Z W s).y, (opW timesQ X Y r Z W s).r, (opW timesQ X Y r Z W s).e] [] [] := by

  have := times_p (U_fi hX) (U_fi hY) hr (U_fi hZ) (U_fi hW) hs

  rwa [op2_W timesQ hX hY hZ hW] at this

theorem plus_W' {X Y r Z W s : Int} (hX : InF X) (hY : InF Y) (hr : I64 r) (hZ : InF Z) (hW : InF W) (hs : I64 s) : Spec Try.prog ball_Plus_s ⟨[F X, F Y, r, F Z, F W, s], [], []⟩ [F (opW plusQ X Y r Z W s).x, F (opW plusQ X Y r Z W s).y, (opW plusQ X Y r Z W s).r, (opW plusQ X Y r Z W s).e] [] [] := by

  have := plus_p (U_fi hX) (U_fi hY) hr (U_fi hZ) (U_fi hW) hs

  rwa [op2_W plusQ hX hY hZ hW] at this

theorem quot_W' {X Y r Z W s : Int} (hX : InF X) (hY : InF Y) (hr : I64 r) (hZ : InF Z) (hW : InF W) (hs : I64 s) : Spec Try.prog ball_Quotient_s ⟨[F X, F Y, r, F Z, F W, s], [], []⟩ [F (opW quotQ X Y r Z W s).x, F (opW quotQ X Y r Z W s).y, (opW quotQ X Y r Z W s).r, (opW quotQ X Y r Z W s).e] [] [] := by

  have := quot_p (U_fi hX) (U_fi hY) hr (U_fi hZ) (U_fi hW) hs

  rwa [op2_W quotQ hX hY hZ hW] at this

set_option maxHeartbeats 1000000 in

theorem bholds {x0 x1 x2 x3 x4 x5 x6 x7 x8 x9 : Int} (r0 : I64 x0) (r1 : I64 x1) (r2 : I64 x2) (r3 : I64 x3) (r4 : I64 x4) (r5 : I64 x5) (r6 : I64 x6) (r7 : I64 x7) (r8 : I64 x8) (r9 : I64 x9) : Spec Try.prog etalonlaw01_BallHolds_s ⟨[x0, x1, x2, x3, x4, x5, x6, x7, x8, x9], [], []⟩ [] [true] [] := by

  obtain ⟨u, hu, hus⟩ := near_s r0 r1 r2

  obtain ⟨v, hv, hvs⟩ := near_s r3 r4 r5

  refine outt (bho r0 r1 r2 r3 r4 r5 r6 r7 r8 r9 (R := (· = true)) ⟨_, awake_t, fun _ => ⟨_, hus, fun h => ⟨_, hvs, fun g => ?_, fun _ => rfl⟩, fun _ => rfl⟩, fun h => by cases h⟩)

  have n1 := hu.1 h

  have n2 := hv.1 g

  refine ⟨fun a1 => ⟨fun a2 => ⟨fun a3 => ⟨fun a4 => ⟨fun a5 => ⟨fun a6 => ⟨fun a7 => ⟨fun a8 => ⟨fun a9 => ⟨fun a10 => ?_, fun _ => rfl⟩, fun _ => rfl⟩, fun _ => rfl⟩, fun _ => rfl⟩, fun _ => rfl⟩, fun _ => rfl⟩, fun _ => rfl⟩, fun _ => rfl⟩, fun _ => rfl⟩, fun _ => rfl⟩

  have a1 := of_decide_eq_true a1

  have a2 := of_decide_eq_true a2

  have a3 := of_decide_eq_true a3

  have a4 := of_decide_eq_true a4

  have a5 := of_decide_eq_true a5

  have a6 := of_decide_eq_true a6

  have a7 := of_decide_eq_true a7

  have a8 := of_decide_eq_true a8

  have a9 := of_decide_eq_true a9

  have a10 := of_decide_eq_true a10

  have w0 := wball_s r0 r1 r2

  have w1 := wball_s r3 r4 r5

  obtain ⟨hx, hy, hr⟩ := n1

  obtain ⟨hz, hw, hs⟩ := n2

  have i0 : InF x0 := ⟨by omega, by omega⟩

  have i1 : InF x1 := ⟨by omega, by omega⟩

  have i3 : InF x3 := ⟨by omega, by omega⟩

  have i4 : InF x4 := ⟨by omega, by omega⟩

  rw [cutI_id i0, cutI_id i1] at w0

  rw [cutI_id i3, cutI_id i4] at w1

  have n1 : nearB x0 x1 x2 := ⟨hx, hy, hr⟩

  have n2 : nearB x3 x4 x5 := ⟨hz, hw, hs⟩

  have c1 := ckW_near n1

  have c2 := ckW_near n2

  have cc : fe (ckW x0 x1 x2) (ckW x3 x4 x5) = 0 := by unfold fe; rw [if_pos c1]; exact c2

  rw [wrapI (x := x2 * x2) (by have := sq_bd (X := x2) (M := 100) (by omega); omega)] at a9

  rw [wrapI (x := x5 * x5) (by have := sq_bd (X := x5) (M := 100) (by omega); omega)] at a10

  have e1 : IntKind.i64.wrap (x0 + x6) = x0 + x6 := wrapI (by omega)

  have e2 : IntKind.i64.wrap (x3 + x8) = x3 + x8 := wrapI (by omega)

  have e3 : IntKind.i64.wrap (x1 + x7) = x1 + x7 := wrapI (by omega)

  have e4 : IntKind.i64.wrap (x4 + x9) = x4 + x9 := wrapI (by omega)

  rw [e1, e2, e3, e4]

  have h1 : Hlds x0 x1 x2 (x0 + x6) (x1 + x7) 1 := by

    refine ⟨by omega, ?_⟩

    rw [show x0 + x6 - 1 * x0 = x6 by omega, show x1 + x7 - 1 * x1 = x7 by omega, Int.one_mul]; exact a9

  have h2 : Hlds x3 x4 x5 (x3 + x8) (x4 + x9) 1 := by

    refine ⟨by omega, ?_⟩

    rw [show x3 + x8 - 1 * x3 = x8 by omega, show x4 + x9 - 1 * x4 = x9 by omega, Int.one_mul]; exact a10

  have bU : (-4194404) ≤ x0 + x6 ∧ x0 + x6 ≤ 4194404 := by omega

  have bV : (-4194404) ≤ x1 + x7 ∧ x1 + x7 ≤ 4194404 := by omega

  have bW : (-4194404) ≤ x3 + x8 ∧ x3 + x8 ≤ 4194404 := by omega

  have bZ : (-4194404) ≤ x4 + x9 ∧ x4 + x9 ≤ 4194404 := by omega

  clear e1 e2 e3 e4 a9 a10 h g hu hv hus hvs

  generalize x0 + x6 = P at *

  generalize x1 + x7 = Q at *

  generalize x3 + x8 = P' at *

  generalize x4 + x9 = Q' at *

  have t1 := plus_W' i0 i1 r2 i3 i4 r5

  rw [opW_ok (f := plusQ) cc] at t1

  have t2 := times_W' i0 i1 r2 i3 i4 r5

  rw [opW_ok (f := timesQ) cc] at t2

  have t3 := quot_W' i0 i1 r2 i3 i4 r5

  rw [opW_ok (f := quotQ) cc] at t3

  have kp : plusQ x0 x1 x2 x3 x4 x5 = ⟨x0 + x3, x1 + x4, x2 + x5, 0⟩ := if_pos ⟨by omega, by omega, by omega⟩

  have pn := prod_near n1 n2

  have kt : timesQ x0 x1 x2 x3 x4 x5 = ⟨pX x0 x1 x3 x4, pY x0 x1 x3 x4, pR x0 x1 x2 x3 x4 x5, 0⟩ := if_pos pn.1

  rw [kp] at t1

  rw [kt] at t2

  have H1 := Hlds.plus (by decide) (by decide) h1 h2

  have q1 : IntKind.i64.wrap (P + P') = P + P' := wrapI (by omega)

  have q2 : IntKind.i64.wrap (Q + Q') = Q + Q' := wrapI (by omega)

  have hs1 := holds_s (X := x0 + x3) (Y := x1 + x4) (R := x2 + x5) (x := P + P') (y := Q + Q') (b := 1) (by omega) (by omega) (by omega) (by omega) (by omega) (by decide) (by rw [Int.one_mul, Int.one_mul, Int.one_mul, Int.one_mul, Int.one_mul] at H1; exact H1)

  have H2 := holds_prod (by decide) (by decide) h1 h2

  have m1 := mb bU bW

  have m2 := mb bV bZ

  have m3 := mb bU bZ

  have m4 := mb bV bW

  have q3 : IntKind.i64.wrap (IntKind.i64.wrap (P * P') - IntKind.i64.wrap (Q * Q')) = P * P' - Q * Q' := by rw [wrapI (x := P * P') (by omega), wrapI (x := Q * Q') (by omega), wrapI (by omega)]

  have q4 : IntKind.i64.wrap (IntKind.i64.wrap (P * Q') + IntKind.i64.wrap (Q * P')) = P * Q' + Q * P' := by rw [wrapI (x := P * Q') (by omega), wrapI (x := Q * P') (by omega), wrapI (by omega)]

  have hs2 := holds_s pn.1.1 pn.1.2.1 ⟨pn.2, pn.1.2.2⟩ (x := P * P' - Q * Q') (y := P * Q' + Q * P') (b := 1048576) (by omega) (by omega) (by decide) (by rw [Int.one_mul, Int.one_mul] at H2; exact H2)

  rw [q1, q2, q3, q4]

  refine ⟨_, _, _, w0, _, _, _, w1, _, _, _, _, t1, fun _ => ⟨_, hs1, fun _ => ⟨_, _, _, w0, _, _, _, w1, _, _, _, _, t2, fun _ => ⟨_, hs2, fun _ => ⟨_, _, _, w0, _, _, _, w1, _, _, _, _, t3, ?_⟩, fun h => by cases h⟩, fun h => by simp at h⟩, fun h => by cases h⟩, fun h => by simp at h⟩

  clear t1 t2 hs1 hs2 kp kt H1 H2 m1 m2 m3 m4 q1 q2 q3 q4

  rw [quotQ_eq] at t3 ⊢

  by_cases hl : dn x3 x4 - x5 ≤ 0

  · rw [if_pos hl]

    exact ⟨fun h => by simp [be] at h, fun _ => ⟨fun _ => rfl, fun h => by simp [be] at h⟩⟩

  · rw [if_neg hl] at t3 ⊢

    rcases bk_split (x := qX x0 x1 x3 x4) (y := qY x0 x1 x3 x4) (r := qR x0 x1 x2 x3 x4 x5) with ⟨hk, ek⟩ | ⟨_, ek⟩

    · rw [ek]

      refine ⟨fun _ => ?_, fun h => by simp at h⟩

      have H3 := holds_quo (s0 := hs.1) (by omega) (by decide) (by decide) h1 h2

      have hN : 0 < P' * P' + Q' * Q' := by

        have := far (by decide) h2 (dn_sqv x3 x4).1 (by omega) (dn_sqv x3 x4).2

        have : 0 < (1 * (dn x3 x4 - x5)) * (1 * (dn x3 x4 - x5)) := Int.mul_pos (by omega) (by omega)

        omega

      have hq0 : 0 ≤ qR x0 x1 x2 x3 x4 x5 := Int.nonneg_of_mul_nonneg_right H3.1 (by omega)

      have ckq := ckW_ok hk hq0

      have ckb : ckW P' Q' 0 = 0 := by unfold ckW; rw [if_pos (by omega)]

      have iqx : InF (qX x0 x1 x3 x4) := ⟨by have := hk.1; omega, by have := hk.1; omega⟩

      have iqy : InF (qY x0 x1 x3 x4) := ⟨by have := hk.2.1; omega, by have := hk.2.1; omega⟩

      have iP : InF P' := ⟨by omega, by omega⟩

      have iQ : InF Q' := ⟨by omega, by omega⟩

      have t4 := times_W' iqx iqy (r := qR x0 x1 x2 x3 x4 x5) (by have := hk.2.2; omega) iP iQ (s := 0) (by decide)

      rw [opW_ok (f := timesQ) (by unfold fe; rw [if_pos ckq]; exact ckb), timesQ_eq] at t4

      have b0 := bball_s (x := P') (y := Q') (r := 0) (by omega) (by omega) (by decide)

      refine ⟨_, _, _, b0, _, _, _, _, t4, ?_⟩

      rcases bk_split (x := pX (qX x0 x1 x3 x4) (qY x0 x1 x3 x4) P' Q') (y := pY (qX x0 x1 x3 x4) (qY x0 x1 x3 x4) P' Q') (r := pR (qX x0 x1 x3 x4) (qY x0 x1 x3 x4) (qR x0 x1 x2 x3 x4 x5) P' Q' 0) with ⟨hk2, ek2⟩ | ⟨_, ek2⟩

      · rw [ek2]

        have H4 := holds_prod (by omega) (by decide) H3 (Hlds.mid (X := P') (Y := Q') (R := 0) (by decide))

        have H5 : Hlds (pX (qX x0 x1 x3 x4) (qY x0 x1 x3 x4) P' Q') (pY (qX x0 x1 x3 x4) (qY x0 x1 x3 x4) P' Q') (pR (qX x0 x1 x3 x4) (qY x0 x1 x3 x4) (qR x0 x1 x2 x3 x4 x5) P' Q' 0) P Q 1 := by

          refine Hlds.unscale ((P' * P' + Q' * Q') * 1048576) (by omega) ?_

          have f1 : 1048576 * 1 * (P * P' + Q * Q') * P' - 1048576 * 1 * (Q * P' - P * Q') * Q' = (P' * P' + Q' * Q') * 1048576 * P := by grind

          have f2 : 1048576 * 1 * (P * P' + Q * Q') * Q' + 1048576 * 1 * (Q * P' - P * Q') * P' = (P' * P' + Q' * Q') * 1048576 * Q := by grind

          have f3 : 1 * (P' * P' + Q' * Q') * 1 * 1048576 = (P' * P' + Q' * Q') * 1048576 * 1 := by grind

          rw [f1, f2, f3] at H4

          exact H4

        have hp0 : 0 ≤ pR (qX x0 x1 x3 x4) (qY x0 x1 x3 x4) (qR x0 x1 x2 x3 x4 x5) P' Q' 0 := by have := H5.1; omega

        have hs4 := holds_s hk2.1 hk2.2.1 ⟨hp0, hk2.2.2⟩ (x := P) (y := Q) (b := 1) (by omega) (by omega) (by decide) H5

        exact ⟨fun h => by simp at h, fun _ => ⟨fun _ => ⟨_, hs4, rfl⟩, fun h => by simp at h⟩⟩

      · rw [ek2]

        exact ⟨fun _ => rfl, fun h => by simp [be] at h⟩

    · rw [ek]

      exact ⟨fun h => by simp [be] at h, fun _ => ⟨fun h => by simp [be] at h, fun _ => rfl⟩⟩

end Go.Proofs.Ytgdhpgjfebinhaa.Ev
