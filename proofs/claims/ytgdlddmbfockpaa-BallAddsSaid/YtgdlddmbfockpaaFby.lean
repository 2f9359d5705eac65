/- Balls turned by quarters; BallAdds. -/
import Derived.Test.YtgdlddmbfockpaaFbl
namespace Go.Proofs.Ytgdlddmbfockpaa.Ev
set_option linter.unusedSimpArgs false
open Go Go.RowKit
set_option linter.unusedVariables false
set_option maxRecDepth 100000
def ball_Turned_s : Sig := ⟨13, ⟨4, 0, 0⟩, ⟨4, 0, 0⟩, [(.agg [(.complex .f64 (.var 0) (.var 1)), (.int .i64 (.var 2))]), (.int .i64 (.var 3))], [], (.tuple [(.agg [(.complex .f64 (.var 4) (.var 5)), (.int .i64 (.var 6))]), (.int .i64 (.var 7))]), []⟩
def etalonref01_Turned_s : Sig := ⟨19, ⟨4, 0, 0⟩, ⟨3, 0, 0⟩, [(.agg [(.int .i64 (.var 0)), (.int .i64 (.var 1)), (.int .i64 (.var 2))]), (.int .i64 (.var 3))], [], (.agg [(.int .i64 (.var 4)), (.int .i64 (.var 5)), (.int .i64 (.var 6))]), []⟩
def etalonbase_Within_s : Sig := ⟨18, ⟨3, 0, 0⟩, ⟨0, 1, 0⟩, [(.int .i64 (.var 0)), (.int .i64 (.var 1)), (.int .i64 (.var 2))], [], (.bool (.var 0)), []⟩
def etalonbase_SameBits_s : Sig := ⟨22, ⟨4, 0, 0⟩, ⟨0, 1, 0⟩, [(.complex .f64 (.var 0) (.var 1)), (.complex .f64 (.var 2) (.var 3))], [], (.bool (.var 0)), []⟩
def etalonbase_Num_s : Sig := ⟨23, ⟨2, 0, 0⟩, ⟨2, 0, 0⟩, [(.int .i64 (.var 0)), (.int .i64 (.var 1))], [], (.complex .f64 (.var 2) (.var 3)), []⟩
def etalonlaw01_BallAdds_s : Sig := ⟨3, ⟨7, 0, 0⟩, ⟨0, 1, 0⟩, [(.agg [(.int .i64 (.var 0)), (.int .i64 (.var 1)), (.int .i64 (.var 2))]), (.agg [(.int .i64 (.var 3)), (.int .i64 (.var 4)), (.int .i64 (.var 5))]), (.int .i64 (.var 6))], [], (.bool (.var 0)), []⟩

def tu_t : Tr :=
  (.whole 0 67108864 (.rng 4 (-67108864) 67108864 (.whole 1 67108864 (.rng 5 (-67108864) 67108864 (.ite (.icmp .leq (.lit (-1000000000)) (.var 3))
  (.ite (.icmp .leq (.var 3) (.lit 1000000000))
   (.ite (.icmp .eql (.bin (.andK .i64) (.var 3) (.lit 3)) (.lit 0))
    (.ret ⟨[(.toF .f64 (.var 4)), (.toF .f64 (.var 5)), (.var 2), (.lit 0)], [], []⟩ [])
    (.ite (.icmp .eql (.bin (.andK .i64) (.var 3) (.lit 3)) (.lit 1))
     (.ret ⟨[(.toF .f64 (.bin .subI (.lit 0) (.var 5))), (.toF .f64 (.var 4)), (.var 2), (.lit 0)], [], []⟩ [])
     (.ite (.icmp .eql (.bin (.andK .i64) (.var 3) (.lit 3)) (.lit 2))
      (.ret ⟨[(.toF .f64 (.bin .mulI (.var 4) (.lit (-1)))), (.toF .f64 (.bin .mulI (.var 5) (.lit (-1)))), (.var 2), (.lit 0)], [], []⟩ [])
      (.ret ⟨[(.toF .f64 (.bin .subI (.lit 0) (.bin .mulI (.var 5) (.lit (-1))))), (.toF .f64 (.bin .mulI (.var 4) (.lit (-1)))), (.var 2), (.lit 0)], [], []⟩ []))))
   (.ret ⟨[(.lit 0), (.lit 0), (.lit 0), (.lit 2)], [], []⟩ []))
  (.ret ⟨[(.lit 0), (.lit 0), (.lit 0), (.lit 2)], [], []⟩ []))))))
theorem tu {x0 x1 x2 x3 : Int} (r2 : 0 ≤ x2 ∧ x2 ≤ 67108864) (r3 : (-9223372036854775808) ≤ x3 ∧ x3 ≤ 9223372036854775807) {R : Int → Int → Int → Int → Prop}
  (H : (∃ v4 : Int, (Rp (x0 : Int).toNat v4 ∧ v4.natAbs ≤ 67108864) ∧ (((-67108864) ≤ (v4 : Int) ∧ (v4 : Int) ≤ 67108864) ∧ (∃ v5 : Int, (Rp (x1 : Int).toNat v5 ∧ v5.natAbs ≤ 67108864) ∧ (((-67108864) ≤ (v5 : Int) ∧ (v5 : Int) ≤ 67108864) ∧ ((decide (((-1000000000) : Int) ≤ x3) = true → ((decide ((x3 : Int) ≤ 1000000000) = true → (((((NOp.den (.andK .i64) x3 3) : Int) == 0) = true → R (((FloatKind.f64.nearest v4 : Nat) : Int)) (((FloatKind.f64.nearest v5 : Nat) : Int)) (x2) (0)) ∧
     ((((NOp.den (.andK .i64) x3 3) : Int) == 0) = false → (((((NOp.den (.andK .i64) x3 3) : Int) == 1) = true → R (((FloatKind.f64.nearest (0 - v5) : Nat) : Int)) (((FloatKind.f64.nearest v4 : Nat) : Int)) (x2) (0)) ∧
      ((((NOp.den (.andK .i64) x3 3) : Int) == 1) = false → (((((NOp.den (.andK .i64) x3 3) : Int) == 2) = true → R (((FloatKind.f64.nearest (v4 * (-1)) : Nat) : Int)) (((FloatKind.f64.nearest (v5 * (-1)) : Nat) : Int)) (x2) (0)) ∧
       ((((NOp.den (.andK .i64) x3 3) : Int) == 2) = false → R (((FloatKind.f64.nearest (0 - (v5 * (-1))) : Nat) : Int)) (((FloatKind.f64.nearest (v4 * (-1)) : Nat) : Int)) (x2) (0)))))))) ∧
    (decide ((x3 : Int) ≤ 1000000000) = false → R (0) (0) (0) (2)))) ∧
   (decide (((-1000000000) : Int) ≤ x3) = false → R (0) (0) (0) (2)))))))) :
    ∃ v0 : Int, ∃ v1 : Int, ∃ v2 : Int, ∃ v3 : Int, R v0 v1 v2 v3 ∧ Spec Try.prog ball_Turned_s ⟨[x0, x1, x2, x3], [], []⟩ [v0, v1, v2, v3] [] [] :=
  Eq.mp (by kernel_rfl) (exV_of (K := fun d => app3 ball_Turned_s.out R d ∧ Spec Try.prog ball_Turned_s ⟨[x0, x1, x2, x3], [], []⟩ d.1 d.2.1 d.2.2) (tree_at mixed names S1_ok (S := S1 Try.prog) (lf := 100000) (d := 60) ball_Turned_s tu_t { ivs := [(2, 0, 67108864), (3, (-9223372036854775808), 9223372036854775807)], aivs := [] } ⟨[x0, x1, x2, x3], [], []⟩ rfl (by kernel_rfl) (by kernel_rfl) (by kernel_rfl) ⟨(fc r2 (fc r3 fz)), fz, fz, fz⟩ (R := fun d => app3 ball_Turned_s.out R d) (Eq.mp (by kernel_rfl) H)))

def tub_t : Tr :=
  (.call ball_CheckBall_s ⟨[(.var 0), (.var 1), (.var 2)], [], []⟩ ⟨[(.var 0), (.var 1), (.var 2), (.var 4)], [], []⟩ ⟨94, [(.agg [(.complex .f64 (.var 0) (.var 1)), (.int .i64 (.var 2))])], [], [none, none, none, none, none], (.int .i64 (.var 4)), []⟩
  (.ite (.icmp .eql (.var 4) (.lit 0))
  (.ite (.icmp .leq (.lit (-1000000000)) (.var 3))
   (.ite (.icmp .leq (.var 3) (.lit 1000000000))
    (.ite (.icmp .eql (.bin (.andK .i64) (.var 3) (.lit 3)) (.lit 0))
     .nil
     (.ite (.icmp .eql (.bin (.andK .i64) (.var 3) (.lit 3)) (.lit 1))
      .nil
      (.ite (.icmp .eql (.bin (.andK .i64) (.var 3) (.lit 3)) (.lit 2))
       .nil
       .nil)))
    (.ret ⟨[(.lit 0), (.lit 0), (.lit 0), (.lit 2)], [], []⟩ []))
   (.ret ⟨[(.lit 0), (.lit 0), (.lit 0), (.lit 2)], [], []⟩ []))
  (.ret ⟨[(.lit 0), (.lit 0), (.lit 0), (.var 4)], [], []⟩ [])))
theorem tub {x0 x1 x2 x3 : Int} (r2 : (-9223372036854775808) ≤ x2 ∧ x2 ≤ 9223372036854775807) (r3 : (-9223372036854775808) ≤ x3 ∧ x3 ≤ 9223372036854775807) {R : Int → Int → Int → Int → Prop}
  (H : (∃ v4 : Int, Spec Try.prog ball_CheckBall_s ⟨[x0, x1, x2], [], []⟩ [v4] [] [] ∧
   ((((v4 : Int) == 0) = true → ((decide (((-1000000000) : Int) ≤ x3) = true → ((decide ((x3 : Int) ≤ 1000000000) = true → (((((NOp.den (.andK .i64) x3 3) : Int) == 0) = true → False) ∧
      ((((NOp.den (.andK .i64) x3 3) : Int) == 0) = false → (((((NOp.den (.andK .i64) x3 3) : Int) == 1) = true → False) ∧
       ((((NOp.den (.andK .i64) x3 3) : Int) == 1) = false → (((((NOp.den (.andK .i64) x3 3) : Int) == 2) = true → False) ∧
        ((((NOp.den (.andK .i64) x3 3) : Int) == 2) = false → False))))))) ∧
     (decide ((x3 : Int) ≤ 1000000000) = false → R (0) (0) (0) (2)))) ∧
    (decide (((-1000000000) : Int) ≤ x3) = false → R (0) (0) (0) (2)))) ∧
   (((v4 : Int) == 0) = false → R (0) (0) (0) (v4))))) :
    ∃ v0 : Int, ∃ v1 : Int, ∃ v2 : Int, ∃ v3 : Int, R v0 v1 v2 v3 ∧ Spec Try.prog ball_Turned_s ⟨[x0, x1, x2, x3], [], []⟩ [v0, v1, v2, v3] [] [] :=
  Eq.mp (by kernel_rfl) (exV_of (K := fun d => app3 ball_Turned_s.out R d ∧ Spec Try.prog ball_Turned_s ⟨[x0, x1, x2, x3], [], []⟩ d.1 d.2.1 d.2.2) (tree_at mixed names S1_ok (S := S1 Try.prog) (lf := 100000) (d := 60) ball_Turned_s tub_t { ivs := [(2, (-9223372036854775808), 9223372036854775807), (3, (-9223372036854775808), 9223372036854775807)], aivs := [] } ⟨[x0, x1, x2, x3], [], []⟩ rfl (by kernel_rfl) (by kernel_rfl) (by kernel_rfl) ⟨(fc r2 (fc r3 fz)), fz, fz, fz⟩ (R := fun d => app3 ball_Turned_s.out R d) (Eq.mp (by kernel_rfl) H)))

def rtn_t : Tr :=
  (.ite (.icmp .leq (.lit 0) (.bin .remK (.var 3) (.lit 4)))
  (.ite (.icmp .leq (.bin .remK (.var 3) (.lit 4)) (.lit 0))
   (.ret ⟨[(.var 0), (.var 1), (.var 2)], [], []⟩ [])
   (.ite (.icmp .leq (.bin .remK (.var 3) (.lit 4)) (.lit 1))
    (.ret ⟨[(.bin .subI (.lit 0) (.var 1)), (.var 0), (.var 2)], [], []⟩ [])
    (.ite (.icmp .leq (.bin .remK (.var 3) (.lit 4)) (.lit 2))
     (.ret ⟨[(.bin .subI (.lit 0) (.var 0)), (.bin .subI (.lit 0) (.var 1)), (.var 2)], [], []⟩ [])
     (.ret ⟨[(.bin .subI (.lit 0) (.bin .subI (.lit 0) (.var 1))), (.bin .subI (.lit 0) (.var 0)), (.var 2)], [], []⟩ []))))
  (.ite (.icmp .leq (.bin .addI (.bin .remK (.var 3) (.lit 4)) (.lit 4)) (.lit 1))
   (.ret ⟨[(.bin .subI (.lit 0) (.var 1)), (.var 0), (.var 2)], [], []⟩ [])
   (.ite (.icmp .leq (.bin .addI (.bin .remK (.var 3) (.lit 4)) (.lit 4)) (.lit 2))
    (.ret ⟨[(.bin .subI (.lit 0) (.var 0)), (.bin .subI (.lit 0) (.var 1)), (.var 2)], [], []⟩ [])
    (.ite (.icmp .leq (.bin .addI (.bin .remK (.var 3) (.lit 4)) (.lit 4)) (.lit 3))
     (.ret ⟨[(.bin .subI (.lit 0) (.bin .subI (.lit 0) (.var 1))), (.bin .subI (.lit 0) (.var 0)), (.var 2)], [], []⟩ [])
     (.ite (.icmp .leq (.bin .addI (.bin .remK (.var 3) (.lit 4)) (.lit 4)) (.lit 4))
      (.ret ⟨[(.bin .subI (.lit 0) (.bin .subI (.lit 0) (.var 0))), (.bin .subI (.lit 0) (.bin .subI (.lit 0) (.var 1))), (.var 2)], [], []⟩ [])
      (.ite (.icmp .leq (.bin .addI (.bin .remK (.var 3) (.lit 4)) (.lit 4)) (.lit 5))
       (.ret ⟨[(.bin .subI (.lit 0) (.bin .subI (.lit 0) (.bin .subI (.lit 0) (.var 1)))), (.bin .subI (.lit 0) (.bin .subI (.lit 0) (.var 0))), (.var 2)], [], []⟩ [])
       (.ite (.icmp .leq (.bin .addI (.bin .remK (.var 3) (.lit 4)) (.lit 4)) (.lit 6))
        (.ret ⟨[(.bin .subI (.lit 0) (.bin .subI (.lit 0) (.bin .subI (.lit 0) (.var 0)))), (.bin .subI (.lit 0) (.bin .subI (.lit 0) (.bin .subI (.lit 0) (.var 1)))), (.var 2)], [], []⟩ [])
        (.ret ⟨[(.bin .subI (.lit 0) (.bin .subI (.lit 0) (.bin .subI (.lit 0) (.bin .subI (.lit 0) (.var 1))))), (.bin .subI (.lit 0) (.bin .subI (.lit 0) (.bin .subI (.lit 0) (.var 0)))), (.var 2)], [], []⟩ []))))))))
theorem rtn {x0 x1 x2 x3 : Int} (r0 : (-67108864) ≤ x0 ∧ x0 ≤ 67108864) (r1 : (-67108864) ≤ x1 ∧ x1 ≤ 67108864) (r2 : 0 ≤ x2 ∧ x2 ≤ 67108864) (r3 : (-1000000000) ≤ x3 ∧ x3 ≤ 1000000000) {R : Int → Int → Int → Prop}
  (H : ((decide ((0 : Int) ≤ ((x3 : Int).tmod 4)) = true → ((decide ((((x3 : Int).tmod 4) : Int) ≤ 0) = true → R (x0) (x1) (x2)) ∧
    (decide ((((x3 : Int).tmod 4) : Int) ≤ 0) = false → ((decide ((((x3 : Int).tmod 4) : Int) ≤ 1) = true → R ((0 - x1)) (x0) (x2)) ∧
     (decide ((((x3 : Int).tmod 4) : Int) ≤ 1) = false → ((decide ((((x3 : Int).tmod 4) : Int) ≤ 2) = true → R ((0 - x0)) ((0 - x1)) (x2)) ∧
      (decide ((((x3 : Int).tmod 4) : Int) ≤ 2) = false → R ((0 - (0 - x1))) ((0 - x0)) (x2)))))))) ∧
   (decide ((0 : Int) ≤ ((x3 : Int).tmod 4)) = false → ((decide (((((x3 : Int).tmod 4) + 4) : Int) ≤ 1) = true → R ((0 - x1)) (x0) (x2)) ∧
    (decide (((((x3 : Int).tmod 4) + 4) : Int) ≤ 1) = false → ((decide (((((x3 : Int).tmod 4) + 4) : Int) ≤ 2) = true → R ((0 - x0)) ((0 - x1)) (x2)) ∧
     (decide (((((x3 : Int).tmod 4) + 4) : Int) ≤ 2) = false → ((decide (((((x3 : Int).tmod 4) + 4) : Int) ≤ 3) = true → R ((0 - (0 - x1))) ((0 - x0)) (x2)) ∧
      (decide (((((x3 : Int).tmod 4) + 4) : Int) ≤ 3) = false → ((decide (((((x3 : Int).tmod 4) + 4) : Int) ≤ 4) = true → R ((0 - (0 - x0))) ((0 - (0 - x1))) (x2)) ∧
       (decide (((((x3 : Int).tmod 4) + 4) : Int) ≤ 4) = false → ((decide (((((x3 : Int).tmod 4) + 4) : Int) ≤ 5) = true → R ((0 - (0 - (0 - x1)))) ((0 - (0 - x0))) (x2)) ∧
        (decide (((((x3 : Int).tmod 4) + 4) : Int) ≤ 5) = false → ((decide (((((x3 : Int).tmod 4) + 4) : Int) ≤ 6) = true → R ((0 - (0 - (0 - x0)))) ((0 - (0 - (0 - x1)))) (x2)) ∧
         (decide (((((x3 : Int).tmod 4) + 4) : Int) ≤ 6) = false → R ((0 - (0 - (0 - (0 - x1))))) ((0 - (0 - (0 - x0)))) (x2)))))))))))))))) :
    ∃ v0 : Int, ∃ v1 : Int, ∃ v2 : Int, R v0 v1 v2 ∧ Spec Try.prog etalonref01_Turned_s ⟨[x0, x1, x2, x3], [], []⟩ [v0, v1, v2] [] [] :=
  Eq.mp (by kernel_rfl) (exV_of (K := fun d => app3 etalonref01_Turned_s.out R d ∧ Spec Try.prog etalonref01_Turned_s ⟨[x0, x1, x2, x3], [], []⟩ d.1 d.2.1 d.2.2) (tree_at mixed names S1_ok (S := S1 Try.prog) (lf := 100000) (d := 60) etalonref01_Turned_s rtn_t { ivs := [(0, (-67108864), 67108864), (1, (-67108864), 67108864), (2, 0, 67108864), (3, (-1000000000), 1000000000)], aivs := [] } ⟨[x0, x1, x2, x3], [], []⟩ rfl (by kernel_rfl) (by kernel_rfl) (by kernel_rfl) ⟨(fc r0 (fc r1 (fc r2 (fc r3 fz)))), fz, fz, fz⟩ (R := fun d => app3 etalonref01_Turned_s.out R d) (Eq.mp (by kernel_rfl) H)))

def wi_t : Tr :=
  (.ite (.icmp .leq (.var 1) (.var 0))
  (.ret ⟨[], [(.icmp .leq (.var 0) (.var 2))], []⟩ [])
  (.ret ⟨[], [(.lit false)], []⟩ []))
theorem wi {x0 x1 x2 : Int} (r0 : (-9223372036854775808) ≤ x0 ∧ x0 ≤ 9223372036854775807) (r1 : (-9223372036854775808) ≤ x1 ∧ x1 ≤ 9223372036854775807) (r2 : (-9223372036854775808) ≤ x2 ∧ x2 ≤ 9223372036854775807) {R : Bool → Prop}
  (H : ((decide ((x1 : Int) ≤ x0) = true → R (decide ((x0 : Int) ≤ x2))) ∧
   (decide ((x1 : Int) ≤ x0) = false → R (false)))) :
    ∃ u0 : Bool, R u0 ∧ Spec Try.prog etalonbase_Within_s ⟨[x0, x1, x2], [], []⟩ [] [u0] [] :=
  Eq.mp (by kernel_rfl) (exV_of (K := fun d => app3 etalonbase_Within_s.out R d ∧ Spec Try.prog etalonbase_Within_s ⟨[x0, x1, x2], [], []⟩ d.1 d.2.1 d.2.2) (tree_at mixed names S1_ok (S := S1 Try.prog) (lf := 100000) (d := 60) etalonbase_Within_s wi_t { ivs := [(0, (-9223372036854775808), 9223372036854775807), (1, (-9223372036854775808), 9223372036854775807), (2, (-9223372036854775808), 9223372036854775807)], aivs := [] } ⟨[x0, x1, x2], [], []⟩ rfl (by kernel_rfl) (by kernel_rfl) (by kernel_rfl) ⟨(fc r0 (fc r1 (fc r2 fz))), fz, fz, fz⟩ (R := fun d => app3 etalonbase_Within_s.out R d) (Eq.mp (by kernel_rfl) H)))

def sb_t : Tr :=
  (.ite (.icmp .eql (.bin .maxI (.var 0) (.lit 0)) (.bin .maxI (.var 2) (.lit 0)))
  (.ret ⟨[], [(.icmp .eql (.bin .maxI (.var 1) (.lit 0)) (.bin .maxI (.var 3) (.lit 0)))], []⟩ [])
  (.ret ⟨[], [(.lit false)], []⟩ []))
theorem sb {x0 x1 x2 x3 : Int} {R : Bool → Prop}
  (H : (((((if (0 : Int) > x0 then 0 else x0) : Int) == (if (0 : Int) > x2 then 0 else x2)) = true → R ((((if (0 : Int) > x1 then 0 else x1) : Int) == (if (0 : Int) > x3 then 0 else x3)))) ∧
   ((((if (0 : Int) > x0 then 0 else x0) : Int) == (if (0 : Int) > x2 then 0 else x2)) = false → R (false)))) :
    ∃ u0 : Bool, R u0 ∧ Spec Try.prog etalonbase_SameBits_s ⟨[x0, x1, x2, x3], [], []⟩ [] [u0] [] :=
  Eq.mp (by kernel_rfl) (exV_of (K := fun d => app3 etalonbase_SameBits_s.out R d ∧ Spec Try.prog etalonbase_SameBits_s ⟨[x0, x1, x2, x3], [], []⟩ d.1 d.2.1 d.2.2) (tree_at mixed names S1_ok (S := S1 Try.prog) (lf := 100000) (d := 60) etalonbase_SameBits_s sb_t { ivs := [], aivs := [] } ⟨[x0, x1, x2, x3], [], []⟩ rfl (by kernel_rfl) (by kernel_rfl) (by kernel_rfl) ⟨fz, fz, fz, fz⟩ (R := fun d => app3 etalonbase_SameBits_s.out R d) (Eq.mp (by kernel_rfl) H)))

def nu_t : Tr :=
  (.ret ⟨[(.toF .f64 (.var 0)), (.toF .f64 (.var 1))], [], []⟩ [])
theorem nu {x0 x1 : Int} (r0 : (-9223372036854775808) ≤ x0 ∧ x0 ≤ 9223372036854775807) (r1 : (-9223372036854775808) ≤ x1 ∧ x1 ≤ 9223372036854775807) {R : Int → Int → Prop}
  (H : R (((FloatKind.f64.nearest x0 : Nat) : Int)) (((FloatKind.f64.nearest x1 : Nat) : Int))) :
    ∃ v0 : Int, ∃ v1 : Int, R v0 v1 ∧ Spec Try.prog etalonbase_Num_s ⟨[x0, x1], [], []⟩ [v0, v1] [] [] :=
  Eq.mp (by kernel_rfl) (exV_of (K := fun d => app3 etalonbase_Num_s.out R d ∧ Spec Try.prog etalonbase_Num_s ⟨[x0, x1], [], []⟩ d.1 d.2.1 d.2.2) (tree_at mixed names S1_ok (S := S1 Try.prog) (lf := 100000) (d := 60) etalonbase_Num_s nu_t { ivs := [(0, (-9223372036854775808), 9223372036854775807), (1, (-9223372036854775808), 9223372036854775807)], aivs := [] } ⟨[x0, x1], [], []⟩ rfl (by kernel_rfl) (by kernel_rfl) (by kernel_rfl) ⟨(fc r0 (fc r1 fz)), fz, fz, fz⟩ (R := fun d => app3 etalonbase_Num_s.out R d) (Eq.mp (by kernel_rfl) H)))

def bad_t : Tr :=
  (.call etalonlaw01_awake_s ⟨[], [], []⟩ ⟨[], [(.var 0)], []⟩ ⟨8, [], [], [none, none], (.bool (.var 0)), []⟩
  (.ite (.var 0)
  (.call _etalonlaw01_Whole__ball_s ⟨[(.var 0), (.var 1), (.var 2)], [], []⟩ ⟨[(.var 0), (.var 1), (.var 2), (.var 7), (.var 8), (.var 9)], [], []⟩ ⟨9, [(.agg [(.int .i64 (.var 0)), (.int .i64 (.var 1)), (.int .i64 (.var 2))])], [], [none, none], (.agg [(.complex .f64 (.var 7) (.var 8)), (.int .i64 (.var 9))]), []⟩
   (.call _etalonlaw01_Whole__ball_s ⟨[(.var 3), (.var 4), (.var 5)], [], []⟩ ⟨[(.var 3), (.var 4), (.var 5), (.var 10), (.var 11), (.var 12)], [], []⟩ ⟨9, [(.agg [(.int .i64 (.var 3)), (.int .i64 (.var 4)), (.int .i64 (.var 5))])], [], [none, none], (.agg [(.complex .f64 (.var 10) (.var 11)), (.int .i64 (.var 12))]), []⟩
   (.call ball_Plus_s ⟨[(.var 7), (.var 8), (.var 9), (.var 10), (.var 11), (.var 12)], [], []⟩ ⟨[(.var 7), (.var 8), (.var 9), (.var 10), (.var 11), (.var 12), (.var 13), (.var 14), (.var 15), (.var 16)], [], []⟩ ⟨10, [(.agg [(.complex .f64 (.var 7) (.var 8)), (.int .i64 (.var 9))]), (.agg [(.complex .f64 (.var 10) (.var 11)), (.int .i64 (.var 12))])], [], [none, none, none, none], (.tuple [(.agg [(.complex .f64 (.var 13) (.var 14)), (.int .i64 (.var 15))]), (.int .i64 (.var 16))]), []⟩
   (.call ball_Minus_s ⟨[(.var 7), (.var 8), (.var 9), (.var 10), (.var 11), (.var 12)], [], []⟩ ⟨[(.var 7), (.var 8), (.var 9), (.var 10), (.var 11), (.var 12), (.var 17), (.var 18), (.var 19), (.var 20)], [], []⟩ ⟨11, [(.agg [(.complex .f64 (.var 7) (.var 8)), (.int .i64 (.var 9))]), (.agg [(.complex .f64 (.var 10) (.var 11)), (.int .i64 (.var 12))])], [], [none, none, none, none, none], (.tuple [(.agg [(.complex .f64 (.var 17) (.var 18)), (.int .i64 (.var 19))]), (.int .i64 (.var 20))]), []⟩
   (.call ball_Conj_s ⟨[(.var 7), (.var 8), (.var 9)], [], []⟩ ⟨[(.var 7), (.var 8), (.var 9), (.var 21), (.var 22), (.var 23), (.var 24)], [], []⟩ ⟨12, [(.agg [(.complex .f64 (.var 7) (.var 8)), (.int .i64 (.var 9))])], [], [none, none, none, none, none, none], (.tuple [(.agg [(.complex .f64 (.var 21) (.var 22)), (.int .i64 (.var 23))]), (.int .i64 (.var 24))]), []⟩
   (.call ball_Turned_s ⟨[(.var 7), (.var 8), (.var 9), (.var 6)], [], []⟩ ⟨[(.var 7), (.var 8), (.var 9), (.var 6), (.var 25), (.var 26), (.var 27), (.var 28)], [], []⟩ ⟨13, [(.agg [(.complex .f64 (.var 7) (.var 8)), (.int .i64 (.var 9))]), (.int .i64 (.var 6))], [], [none, none, none, none, none, none, none], (.tuple [(.agg [(.complex .f64 (.var 25) (.var 26)), (.int .i64 (.var 27))]), (.int .i64 (.var 28))]), []⟩
   (.call _etalonlaw01_Whole__err_s ⟨[(.var 0), (.var 1), (.var 2)], [], []⟩ ⟨[(.var 0), (.var 1), (.var 2), (.var 29)], [], []⟩ ⟨14, [(.agg [(.int .i64 (.var 0)), (.int .i64 (.var 1)), (.int .i64 (.var 2))])], [], [none, none, none, none, none, none, none, none], (.int .i64 (.var 29)), []⟩
   (.ite (.icmp .eql (.var 29) (.lit 0))
   (.call etalonref01_Of_s ⟨[(.var 7), (.var 8), (.var 9)], [], []⟩ ⟨[(.var 7), (.var 8), (.var 9), (.var 30), (.var 31), (.var 32)], [], []⟩ ⟨17, [(.agg [(.complex .f64 (.var 7) (.var 8)), (.int .i64 (.var 9))])], [], [none, none, none, none, none, none, none, none], (.agg [(.int .i64 (.var 30)), (.int .i64 (.var 31)), (.int .i64 (.var 32))]), []⟩
    (.call etalonref01_Conj_s ⟨[(.var 30), (.var 31), (.var 32)], [], []⟩ ⟨[(.var 30), (.var 31), (.var 32), (.var 33), (.var 34), (.var 35)], [], []⟩ ⟨16, [(.agg [(.int .i64 (.var 30)), (.int .i64 (.var 31)), (.int .i64 (.var 32))])], [], [none, none, none, none, none, none, none, none], (.agg [(.int .i64 (.var 33)), (.int .i64 (.var 34)), (.int .i64 (.var 35))]), []⟩
    (.call etalonlaw01_is_s ⟨[(.var 21), (.var 22), (.var 23), (.var 24), (.var 33), (.var 34), (.var 35), (.lit 0)], [], []⟩ ⟨[(.var 21), (.var 22), (.var 23), (.var 24), (.var 33), (.var 34), (.var 35), (.lit 0)], [(.var 1)], []⟩ ⟨15, [(.agg [(.complex .f64 (.var 21) (.var 22)), (.int .i64 (.var 23))]), (.int .i64 (.var 24)), (.agg [(.int .i64 (.var 33)), (.int .i64 (.var 34)), (.int .i64 (.var 35))]), (.int .i64 (.lit 0))], [], [none, none, none, none, none, none, none, none], (.bool (.var 1)), []⟩
    (.ite (.var 1)
    (.call etalonbase_Within_s ⟨[(.var 6), (.lit (-1000000000)), (.lit 1000000000)], [], []⟩ ⟨[(.var 6), (.lit (-1000000000)), (.lit 1000000000)], [(.var 2)], []⟩ ⟨18, [(.int .i64 (.var 6)), (.int .i64 (.lit (-1000000000))), (.int .i64 (.lit 1000000000))], [], [none, none, none, none, none, none, none, none], (.bool (.var 2)), []⟩
     (.ite (.var 2)
     (.call etalonref01_Turned_s ⟨[(.var 30), (.var 31), (.var 32), (.var 6)], [], []⟩ ⟨[(.var 30), (.var 31), (.var 32), (.var 6), (.var 36), (.var 37), (.var 38)], [], []⟩ ⟨19, [(.agg [(.int .i64 (.var 30)), (.int .i64 (.var 31)), (.int .i64 (.var 32))]), (.int .i64 (.var 6))], [], [none, none, none, none, none, none, none, none], (.agg [(.int .i64 (.var 36)), (.int .i64 (.var 37)), (.int .i64 (.var 38))]), []⟩
      (.call etalonlaw01_is_s ⟨[(.var 25), (.var 26), (.var 27), (.var 28), (.var 36), (.var 37), (.var 38), (.lit 0)], [], []⟩ ⟨[(.var 25), (.var 26), (.var 27), (.var 28), (.var 36), (.var 37), (.var 38), (.lit 0)], [(.var 3)], []⟩ ⟨15, [(.agg [(.complex .f64 (.var 25) (.var 26)), (.int .i64 (.var 27))]), (.int .i64 (.var 28)), (.agg [(.int .i64 (.var 36)), (.int .i64 (.var 37)), (.int .i64 (.var 38))]), (.int .i64 (.lit 0))], [], [none, none, none, none, none, none, none, none], (.bool (.var 3)), []⟩
      (.ite (.var 3)
      (.call _etalonlaw01_Whole__err_s ⟨[(.var 3), (.var 4), (.var 5)], [], []⟩ ⟨[(.var 3), (.var 4), (.var 5), (.var 39)], [], []⟩ ⟨14, [(.agg [(.int .i64 (.var 3)), (.int .i64 (.var 4)), (.int .i64 (.var 5))])], [], [none, none, none, none, none, none, none, none], (.int .i64 (.var 39)), []⟩
       (.ite (.icmp .eql (.var 39) (.lit 0))
       (.call etalonref01_Of_s ⟨[(.var 10), (.var 11), (.var 12)], [], []⟩ ⟨[(.var 10), (.var 11), (.var 12), (.var 40), (.var 41), (.var 42)], [], []⟩ ⟨17, [(.agg [(.complex .f64 (.var 10) (.var 11)), (.int .i64 (.var 12))])], [], [none, none, none, none, none, none, none, none], (.agg [(.int .i64 (.var 40)), (.int .i64 (.var 41)), (.int .i64 (.var 42))]), []⟩
        (.call etalonref01_Plus_s ⟨[(.var 30), (.var 31), (.var 32), (.var 40), (.var 41), (.var 42)], [], []⟩ ⟨[(.var 30), (.var 31), (.var 32), (.var 40), (.var 41), (.var 42), (.var 43), (.var 44), (.var 45), (.var 46)], [], []⟩ ⟨20, [(.agg [(.int .i64 (.var 30)), (.int .i64 (.var 31)), (.int .i64 (.var 32))]), (.agg [(.int .i64 (.var 40)), (.int .i64 (.var 41)), (.int .i64 (.var 42))])], [], [none, none, none, none, none, none, none, none], (.tuple [(.agg [(.int .i64 (.var 43)), (.int .i64 (.var 44)), (.int .i64 (.var 45))]), (.int .i64 (.var 46))]), []⟩
        (.call etalonref01_Of_s ⟨[(.var 7), (.var 8), (.var 9)], [], []⟩ ⟨[(.var 7), (.var 8), (.var 9), (.var 47), (.var 48), (.var 49)], [], []⟩ ⟨17, [(.agg [(.complex .f64 (.var 7) (.var 8)), (.int .i64 (.var 9))])], [], [none, none, none, none, none, none, none, none, none], (.agg [(.int .i64 (.var 47)), (.int .i64 (.var 48)), (.int .i64 (.var 49))]), []⟩
        (.call etalonref01_Of_s ⟨[(.var 10), (.var 11), (.var 12)], [], []⟩ ⟨[(.var 10), (.var 11), (.var 12), (.var 50), (.var 51), (.var 52)], [], []⟩ ⟨17, [(.agg [(.complex .f64 (.var 10) (.var 11)), (.int .i64 (.var 12))])], [], [none, none, none, none, none, none, none, none, none], (.agg [(.int .i64 (.var 50)), (.int .i64 (.var 51)), (.int .i64 (.var 52))]), []⟩
        (.call etalonref01_Minus_s ⟨[(.var 47), (.var 48), (.var 49), (.var 50), (.var 51), (.var 52)], [], []⟩ ⟨[(.var 47), (.var 48), (.var 49), (.var 50), (.var 51), (.var 52), (.var 53), (.var 54), (.var 55), (.var 56)], [], []⟩ ⟨21, [(.agg [(.int .i64 (.var 47)), (.int .i64 (.var 48)), (.int .i64 (.var 49))]), (.agg [(.int .i64 (.var 50)), (.int .i64 (.var 51)), (.int .i64 (.var 52))])], [], [none, none, none, none, none, none, none, none, none], (.tuple [(.agg [(.int .i64 (.var 53)), (.int .i64 (.var 54)), (.int .i64 (.var 55))]), (.int .i64 (.var 56))]), []⟩
        (.call etalonlaw01_is_s ⟨[(.var 13), (.var 14), (.var 15), (.var 16), (.var 43), (.var 44), (.var 45), (.var 46)], [], []⟩ ⟨[(.var 13), (.var 14), (.var 15), (.var 16), (.var 43), (.var 44), (.var 45), (.var 46)], [(.var 4)], []⟩ ⟨15, [(.agg [(.complex .f64 (.var 13) (.var 14)), (.int .i64 (.var 15))]), (.int .i64 (.var 16)), (.agg [(.int .i64 (.var 43)), (.int .i64 (.var 44)), (.int .i64 (.var 45))]), (.int .i64 (.var 46))], [], [none, none, none, none, none, none, none, none, none, none], (.bool (.var 4)), []⟩
        (.ite (.var 4)
        (.call etalonlaw01_is_s ⟨[(.var 17), (.var 18), (.var 19), (.var 20), (.var 53), (.var 54), (.var 55), (.var 56)], [], []⟩ ⟨[(.var 17), (.var 18), (.var 19), (.var 20), (.var 53), (.var 54), (.var 55), (.var 56)], [(.var 5)], []⟩ ⟨15, [(.agg [(.complex .f64 (.var 17) (.var 18)), (.int .i64 (.var 19))]), (.int .i64 (.var 20)), (.agg [(.int .i64 (.var 53)), (.int .i64 (.var 54)), (.int .i64 (.var 55))]), (.int .i64 (.var 56))], [], [none, none, none, none, none, none, none, none, none, none], (.bool (.var 5)), []⟩
         (.ite (.var 5)
         (.call ball_Minus_s ⟨[(.var 13), (.var 14), (.var 15), (.var 10), (.var 11), (.var 12)], [], []⟩ ⟨[(.var 13), (.var 14), (.var 15), (.var 10), (.var 11), (.var 12), (.var 57), (.var 58), (.var 59), (.var 60)], [], []⟩ ⟨11, [(.agg [(.complex .f64 (.var 13) (.var 14)), (.int .i64 (.var 15))]), (.agg [(.complex .f64 (.var 10) (.var 11)), (.int .i64 (.var 12))])], [], [none, none, none, none, none, none, none, none, none, none], (.tuple [(.agg [(.complex .f64 (.var 57) (.var 58)), (.int .i64 (.var 59))]), (.int .i64 (.var 60))]), []⟩
          (.ite (.icmp .eql (.var 16) (.lit 0))
          (.ite (.icmp .eql (.var 60) (.lit 0))
           (.call etalonbase_Num_s ⟨[(.var 0), (.var 1)], [], []⟩ ⟨[(.var 0), (.var 1), (.var 61), (.var 62)], [], []⟩ ⟨23, [(.int .i64 (.var 0)), (.int .i64 (.var 1))], [], [none, none, none, none, none, none, none, none, none, none, none], (.complex .f64 (.var 61) (.var 62)), []⟩
            (.call etalonbase_SameBits_s ⟨[(.var 57), (.var 58), (.var 61), (.var 62)], [], []⟩ ⟨[(.var 57), (.var 58), (.var 61), (.var 62)], [(.var 6)], []⟩ ⟨22, [(.complex .f64 (.var 57) (.var 58)), (.complex .f64 (.var 61) (.var 62))], [], [none, none, none, none, none, none, none, none, none, none, none], (.bool (.var 6)), []⟩
            (.ite (.var 6)
            (.ret ⟨[], [(.icmp .eql (.var 59) (.bin (.addW .i64) (.var 2) (.bin (.mulW .i64) (.lit 2) (.var 5))))], []⟩ [])
            (.ret ⟨[], [(.lit false)], []⟩ []))))
           (.ret ⟨[], [(.lit true)], []⟩ []))
          (.ret ⟨[], [(.lit true)], []⟩ [])))
         (.ret ⟨[], [(.lit false)], []⟩ [])))
        (.ret ⟨[], [(.lit false)], []⟩ []))))))))
       (.call etalonlaw01_is_s ⟨[(.var 13), (.var 14), (.var 15), (.var 16), (.lit 0), (.lit 0), (.lit 0), (.var 39)], [], []⟩ ⟨[(.var 13), (.var 14), (.var 15), (.var 16), (.lit 0), (.lit 0), (.lit 0), (.var 39)], [(.var 4)], []⟩ ⟨15, [(.agg [(.complex .f64 (.var 13) (.var 14)), (.int .i64 (.var 15))]), (.int .i64 (.var 16)), (.agg [(.int .i64 (.lit 0)), (.int .i64 (.lit 0)), (.int .i64 (.lit 0))]), (.int .i64 (.var 39))], [], [none, none, none, none, none, none, none, none], (.bool (.var 4)), []⟩
        (.ite (.var 4)
        (.call etalonlaw01_is_s ⟨[(.var 17), (.var 18), (.var 19), (.var 20), (.lit 0), (.lit 0), (.lit 0), (.var 39)], [], []⟩ ⟨[(.var 17), (.var 18), (.var 19), (.var 20), (.lit 0), (.lit 0), (.lit 0), (.var 39)], [(.var 5)], []⟩ ⟨15, [(.agg [(.complex .f64 (.var 17) (.var 18)), (.int .i64 (.var 19))]), (.int .i64 (.var 20)), (.agg [(.int .i64 (.lit 0)), (.int .i64 (.lit 0)), (.int .i64 (.lit 0))]), (.int .i64 (.var 39))], [], [none, none, none, none, none, none, none, none], (.bool (.var 5)), []⟩
         (.ret ⟨[], [(.var 5)], []⟩ []))
        (.ret ⟨[], [(.lit false)], []⟩ [])))))
      (.ret ⟨[], [(.lit false)], []⟩ []))))
     (.call etalonlaw01_is_s ⟨[(.var 25), (.var 26), (.var 27), (.var 28), (.lit 0), (.lit 0), (.lit 0), (.lit 2)], [], []⟩ ⟨[(.var 25), (.var 26), (.var 27), (.var 28), (.lit 0), (.lit 0), (.lit 0), (.lit 2)], [(.var 3)], []⟩ ⟨15, [(.agg [(.complex .f64 (.var 25) (.var 26)), (.int .i64 (.var 27))]), (.int .i64 (.var 28)), (.agg [(.int .i64 (.lit 0)), (.int .i64 (.lit 0)), (.int .i64 (.lit 0))]), (.int .i64 (.lit 2))], [], [none, none, none, none, none, none, none, none], (.bool (.var 3)), []⟩
      (.ite (.var 3)
      (.call _etalonlaw01_Whole__err_s ⟨[(.var 3), (.var 4), (.var 5)], [], []⟩ ⟨[(.var 3), (.var 4), (.var 5), (.var 36)], [], []⟩ ⟨14, [(.agg [(.int .i64 (.var 3)), (.int .i64 (.var 4)), (.int .i64 (.var 5))])], [], [none, none, none, none, none, none, none, none], (.int .i64 (.var 36)), []⟩
       (.ite (.icmp .eql (.var 36) (.lit 0))
       (.call etalonref01_Of_s ⟨[(.var 10), (.var 11), (.var 12)], [], []⟩ ⟨[(.var 10), (.var 11), (.var 12), (.var 37), (.var 38), (.var 39)], [], []⟩ ⟨17, [(.agg [(.complex .f64 (.var 10) (.var 11)), (.int .i64 (.var 12))])], [], [none, none, none, none, none, none, none, none], (.agg [(.int .i64 (.var 37)), (.int .i64 (.var 38)), (.int .i64 (.var 39))]), []⟩
        (.call etalonref01_Plus_s ⟨[(.var 30), (.var 31), (.var 32), (.var 37), (.var 38), (.var 39)], [], []⟩ ⟨[(.var 30), (.var 31), (.var 32), (.var 37), (.var 38), (.var 39), (.var 40), (.var 41), (.var 42), (.var 43)], [], []⟩ ⟨20, [(.agg [(.int .i64 (.var 30)), (.int .i64 (.var 31)), (.int .i64 (.var 32))]), (.agg [(.int .i64 (.var 37)), (.int .i64 (.var 38)), (.int .i64 (.var 39))])], [], [none, none, none, none, none, none, none, none], (.tuple [(.agg [(.int .i64 (.var 40)), (.int .i64 (.var 41)), (.int .i64 (.var 42))]), (.int .i64 (.var 43))]), []⟩
        (.call etalonref01_Of_s ⟨[(.var 7), (.var 8), (.var 9)], [], []⟩ ⟨[(.var 7), (.var 8), (.var 9), (.var 44), (.var 45), (.var 46)], [], []⟩ ⟨17, [(.agg [(.complex .f64 (.var 7) (.var 8)), (.int .i64 (.var 9))])], [], [none, none, none, none, none, none, none, none, none], (.agg [(.int .i64 (.var 44)), (.int .i64 (.var 45)), (.int .i64 (.var 46))]), []⟩
        (.call etalonref01_Of_s ⟨[(.var 10), (.var 11), (.var 12)], [], []⟩ ⟨[(.var 10), (.var 11), (.var 12), (.var 47), (.var 48), (.var 49)], [], []⟩ ⟨17, [(.agg [(.complex .f64 (.var 10) (.var 11)), (.int .i64 (.var 12))])], [], [none, none, none, none, none, none, none, none, none], (.agg [(.int .i64 (.var 47)), (.int .i64 (.var 48)), (.int .i64 (.var 49))]), []⟩
        (.call etalonref01_Minus_s ⟨[(.var 44), (.var 45), (.var 46), (.var 47), (.var 48), (.var 49)], [], []⟩ ⟨[(.var 44), (.var 45), (.var 46), (.var 47), (.var 48), (.var 49), (.var 50), (.var 51), (.var 52), (.var 53)], [], []⟩ ⟨21, [(.agg [(.int .i64 (.var 44)), (.int .i64 (.var 45)), (.int .i64 (.var 46))]), (.agg [(.int .i64 (.var 47)), (.int .i64 (.var 48)), (.int .i64 (.var 49))])], [], [none, none, none, none, none, none, none, none, none], (.tuple [(.agg [(.int .i64 (.var 50)), (.int .i64 (.var 51)), (.int .i64 (.var 52))]), (.int .i64 (.var 53))]), []⟩
        (.call etalonlaw01_is_s ⟨[(.var 13), (.var 14), (.var 15), (.var 16), (.var 40), (.var 41), (.var 42), (.var 43)], [], []⟩ ⟨[(.var 13), (.var 14), (.var 15), (.var 16), (.var 40), (.var 41), (.var 42), (.var 43)], [(.var 4)], []⟩ ⟨15, [(.agg [(.complex .f64 (.var 13) (.var 14)), (.int .i64 (.var 15))]), (.int .i64 (.var 16)), (.agg [(.int .i64 (.var 40)), (.int .i64 (.var 41)), (.int .i64 (.var 42))]), (.int .i64 (.var 43))], [], [none, none, none, none, none, none, none, none, none, none], (.bool (.var 4)), []⟩
        (.ite (.var 4)
        (.call etalonlaw01_is_s ⟨[(.var 17), (.var 18), (.var 19), (.var 20), (.var 50), (.var 51), (.var 52), (.var 53)], [], []⟩ ⟨[(.var 17), (.var 18), (.var 19), (.var 20), (.var 50), (.var 51), (.var 52), (.var 53)], [(.var 5)], []⟩ ⟨15, [(.agg [(.complex .f64 (.var 17) (.var 18)), (.int .i64 (.var 19))]), (.int .i64 (.var 20)), (.agg [(.int .i64 (.var 50)), (.int .i64 (.var 51)), (.int .i64 (.var 52))]), (.int .i64 (.var 53))], [], [none, none, none, none, none, none, none, none, none, none], (.bool (.var 5)), []⟩
         (.ite (.var 5)
         (.call ball_Minus_s ⟨[(.var 13), (.var 14), (.var 15), (.var 10), (.var 11), (.var 12)], [], []⟩ ⟨[(.var 13), (.var 14), (.var 15), (.var 10), (.var 11), (.var 12), (.var 54), (.var 55), (.var 56), (.var 57)], [], []⟩ ⟨11, [(.agg [(.complex .f64 (.var 13) (.var 14)), (.int .i64 (.var 15))]), (.agg [(.complex .f64 (.var 10) (.var 11)), (.int .i64 (.var 12))])], [], [none, none, none, none, none, none, none, none, none, none], (.tuple [(.agg [(.complex .f64 (.var 54) (.var 55)), (.int .i64 (.var 56))]), (.int .i64 (.var 57))]), []⟩
          (.ite (.icmp .eql (.var 16) (.lit 0))
          (.ite (.icmp .eql (.var 57) (.lit 0))
           (.call etalonbase_Num_s ⟨[(.var 0), (.var 1)], [], []⟩ ⟨[(.var 0), (.var 1), (.var 58), (.var 59)], [], []⟩ ⟨23, [(.int .i64 (.var 0)), (.int .i64 (.var 1))], [], [none, none, none, none, none, none, none, none, none, none, none], (.complex .f64 (.var 58) (.var 59)), []⟩
            (.call etalonbase_SameBits_s ⟨[(.var 54), (.var 55), (.var 58), (.var 59)], [], []⟩ ⟨[(.var 54), (.var 55), (.var 58), (.var 59)], [(.var 6)], []⟩ ⟨22, [(.complex .f64 (.var 54) (.var 55)), (.complex .f64 (.var 58) (.var 59))], [], [none, none, none, none, none, none, none, none, none, none, none], (.bool (.var 6)), []⟩
            (.ite (.var 6)
            (.ret ⟨[], [(.icmp .eql (.var 56) (.bin (.addW .i64) (.var 2) (.bin (.mulW .i64) (.lit 2) (.var 5))))], []⟩ [])
            (.ret ⟨[], [(.lit false)], []⟩ []))))
           (.ret ⟨[], [(.lit true)], []⟩ []))
          (.ret ⟨[], [(.lit true)], []⟩ [])))
         (.ret ⟨[], [(.lit false)], []⟩ [])))
        (.ret ⟨[], [(.lit false)], []⟩ []))))))))
       (.call etalonlaw01_is_s ⟨[(.var 13), (.var 14), (.var 15), (.var 16), (.lit 0), (.lit 0), (.lit 0), (.var 36)], [], []⟩ ⟨[(.var 13), (.var 14), (.var 15), (.var 16), (.lit 0), (.lit 0), (.lit 0), (.var 36)], [(.var 4)], []⟩ ⟨15, [(.agg [(.complex .f64 (.var 13) (.var 14)), (.int .i64 (.var 15))]), (.int .i64 (.var 16)), (.agg [(.int .i64 (.lit 0)), (.int .i64 (.lit 0)), (.int .i64 (.lit 0))]), (.int .i64 (.var 36))], [], [none, none, none, none, none, none, none, none], (.bool (.var 4)), []⟩
        (.ite (.var 4)
        (.call etalonlaw01_is_s ⟨[(.var 17), (.var 18), (.var 19), (.var 20), (.lit 0), (.lit 0), (.lit 0), (.var 36)], [], []⟩ ⟨[(.var 17), (.var 18), (.var 19), (.var 20), (.lit 0), (.lit 0), (.lit 0), (.var 36)], [(.var 5)], []⟩ ⟨15, [(.agg [(.complex .f64 (.var 17) (.var 18)), (.int .i64 (.var 19))]), (.int .i64 (.var 20)), (.agg [(.int .i64 (.lit 0)), (.int .i64 (.lit 0)), (.int .i64 (.lit 0))]), (.int .i64 (.var 36))], [], [none, none, none, none, none, none, none, none], (.bool (.var 5)), []⟩
         (.ret ⟨[], [(.var 5)], []⟩ []))
        (.ret ⟨[], [(.lit false)], []⟩ [])))))
      (.ret ⟨[], [(.lit false)], []⟩ [])))))
    (.ret ⟨[], [(.lit false)], []⟩ [])))))
   (.call etalonlaw01_is_s ⟨[(.var 13), (.var 14), (.var 15), (.var 16), (.lit 0), (.lit 0), (.lit 0), (.var 29)], [], []⟩ ⟨[(.var 13), (.var 14), (.var 15), (.var 16), (.lit 0), (.lit 0), (.lit 0), (.var 29)], [(.var 1)], []⟩ ⟨15, [(.agg [(.complex .f64 (.var 13) (.var 14)), (.int .i64 (.var 15))]), (.int .i64 (.var 16)), (.agg [(.int .i64 (.lit 0)), (.int .i64 (.lit 0)), (.int .i64 (.lit 0))]), (.int .i64 (.var 29))], [], [none, none, none, none, none, none, none, none], (.bool (.var 1)), []⟩
    (.ite (.var 1)
    (.call etalonlaw01_is_s ⟨[(.var 17), (.var 18), (.var 19), (.var 20), (.lit 0), (.lit 0), (.lit 0), (.var 29)], [], []⟩ ⟨[(.var 17), (.var 18), (.var 19), (.var 20), (.lit 0), (.lit 0), (.lit 0), (.var 29)], [(.var 2)], []⟩ ⟨15, [(.agg [(.complex .f64 (.var 17) (.var 18)), (.int .i64 (.var 19))]), (.int .i64 (.var 20)), (.agg [(.int .i64 (.lit 0)), (.int .i64 (.lit 0)), (.int .i64 (.lit 0))]), (.int .i64 (.var 29))], [], [none, none, none, none, none, none, none, none], (.bool (.var 2)), []⟩
     (.ite (.var 2)
     (.call etalonlaw01_is_s ⟨[(.var 21), (.var 22), (.var 23), (.var 24), (.lit 0), (.lit 0), (.lit 0), (.var 29)], [], []⟩ ⟨[(.var 21), (.var 22), (.var 23), (.var 24), (.lit 0), (.lit 0), (.lit 0), (.var 29)], [(.var 3)], []⟩ ⟨15, [(.agg [(.complex .f64 (.var 21) (.var 22)), (.int .i64 (.var 23))]), (.int .i64 (.var 24)), (.agg [(.int .i64 (.lit 0)), (.int .i64 (.lit 0)), (.int .i64 (.lit 0))]), (.int .i64 (.var 29))], [], [none, none, none, none, none, none, none, none], (.bool (.var 3)), []⟩
      (.ite (.var 3)
      (.call etalonlaw01_is_s ⟨[(.var 25), (.var 26), (.var 27), (.var 28), (.lit 0), (.lit 0), (.lit 0), (.var 29)], [], []⟩ ⟨[(.var 25), (.var 26), (.var 27), (.var 28), (.lit 0), (.lit 0), (.lit 0), (.var 29)], [(.var 4)], []⟩ ⟨15, [(.agg [(.complex .f64 (.var 25) (.var 26)), (.int .i64 (.var 27))]), (.int .i64 (.var 28)), (.agg [(.int .i64 (.lit 0)), (.int .i64 (.lit 0)), (.int .i64 (.lit 0))]), (.int .i64 (.var 29))], [], [none, none, none, none, none, none, none, none], (.bool (.var 4)), []⟩
       (.ret ⟨[], [(.var 4)], []⟩ []))
      (.ret ⟨[], [(.lit false)], []⟩ [])))
     (.ret ⟨[], [(.lit false)], []⟩ [])))
    (.ret ⟨[], [(.lit false)], []⟩ [])))))))))))
  (.ret ⟨[], [(.lit false)], []⟩ [])))
theorem bad {x0 x1 x2 x3 x4 x5 x6 : Int} (r0 : (-9223372036854775808) ≤ x0 ∧ x0 ≤ 9223372036854775807) (r1 : (-9223372036854775808) ≤ x1 ∧ x1 ≤ 9223372036854775807) (r2 : (-9223372036854775808) ≤ x2 ∧ x2 ≤ 9223372036854775807) (r3 : (-9223372036854775808) ≤ x3 ∧ x3 ≤ 9223372036854775807) (r4 : (-9223372036854775808) ≤ x4 ∧ x4 ≤ 9223372036854775807) (r5 : (-9223372036854775808) ≤ x5 ∧ x5 ≤ 9223372036854775807) (r6 : (-9223372036854775808) ≤ x6 ∧ x6 ≤ 9223372036854775807) {R : Bool → Prop}
  (H : (∃ u0 : Bool, Spec Try.prog etalonlaw01_awake_s ⟨[], [], []⟩ [] [u0] [] ∧
   ((u0 = true → (∃ v7 : Int, ∃ v8 : Int, ∃ v9 : Int, Spec Try.prog _etalonlaw01_Whole__ball_s ⟨[x0, x1, x2], [], []⟩ [v7, v8, v9] [] [] ∧
    (∃ v10 : Int, ∃ v11 : Int, ∃ v12 : Int, Spec Try.prog _etalonlaw01_Whole__ball_s ⟨[x3, x4, x5], [], []⟩ [v10, v11, v12] [] [] ∧
    (∃ v13 : Int, ∃ v14 : Int, ∃ v15 : Int, ∃ v16 : Int, Spec Try.prog ball_Plus_s ⟨[v7, v8, v9, v10, v11, v12], [], []⟩ [v13, v14, v15, v16] [] [] ∧
    (∃ v17 : Int, ∃ v18 : Int, ∃ v19 : Int, ∃ v20 : Int, Spec Try.prog ball_Minus_s ⟨[v7, v8, v9, v10, v11, v12], [], []⟩ [v17, v18, v19, v20] [] [] ∧
    (∃ v21 : Int, ∃ v22 : Int, ∃ v23 : Int, ∃ v24 : Int, Spec Try.prog ball_Conj_s ⟨[v7, v8, v9], [], []⟩ [v21, v22, v23, v24] [] [] ∧
    (∃ v25 : Int, ∃ v26 : Int, ∃ v27 : Int, ∃ v28 : Int, Spec Try.prog ball_Turned_s ⟨[v7, v8, v9, x6], [], []⟩ [v25, v26, v27, v28] [] [] ∧
    (∃ v29 : Int, Spec Try.prog _etalonlaw01_Whole__err_s ⟨[x0, x1, x2], [], []⟩ [v29] [] [] ∧
    ((((v29 : Int) == 0) = true → (∃ v30 : Int, ∃ v31 : Int, ∃ v32 : Int, Spec Try.prog etalonref01_Of_s ⟨[v7, v8, v9], [], []⟩ [v30, v31, v32] [] [] ∧
     (∃ v33 : Int, ∃ v34 : Int, ∃ v35 : Int, Spec Try.prog etalonref01_Conj_s ⟨[v30, v31, v32], [], []⟩ [v33, v34, v35] [] [] ∧
     (∃ u1 : Bool, Spec Try.prog etalonlaw01_is_s ⟨[v21, v22, v23, v24, v33, v34, v35, 0], [], []⟩ [] [u1] [] ∧
     ((u1 = true → (∃ u2 : Bool, Spec Try.prog etalonbase_Within_s ⟨[x6, (-1000000000), 1000000000], [], []⟩ [] [u2] [] ∧
      ((u2 = true → (∃ v36 : Int, ∃ v37 : Int, ∃ v38 : Int, Spec Try.prog etalonref01_Turned_s ⟨[v30, v31, v32, x6], [], []⟩ [v36, v37, v38] [] [] ∧
       (∃ u3 : Bool, Spec Try.prog etalonlaw01_is_s ⟨[v25, v26, v27, v28, v36, v37, v38, 0], [], []⟩ [] [u3] [] ∧
       ((u3 = true → (∃ v39 : Int, Spec Try.prog _etalonlaw01_Whole__err_s ⟨[x3, x4, x5], [], []⟩ [v39] [] [] ∧
        ((((v39 : Int) == 0) = true → (∃ v40 : Int, ∃ v41 : Int, ∃ v42 : Int, Spec Try.prog etalonref01_Of_s ⟨[v10, v11, v12], [], []⟩ [v40, v41, v42] [] [] ∧
         (∃ v43 : Int, ∃ v44 : Int, ∃ v45 : Int, ∃ v46 : Int, Spec Try.prog etalonref01_Plus_s ⟨[v30, v31, v32, v40, v41, v42], [], []⟩ [v43, v44, v45, v46] [] [] ∧
         (∃ v47 : Int, ∃ v48 : Int, ∃ v49 : Int, Spec Try.prog etalonref01_Of_s ⟨[v7, v8, v9], [], []⟩ [v47, v48, v49] [] [] ∧
         (∃ v50 : Int, ∃ v51 : Int, ∃ v52 : Int, Spec Try.prog etalonref01_Of_s ⟨[v10, v11, v12], [], []⟩ [v50, v51, v52] [] [] ∧
         (∃ v53 : Int, ∃ v54 : Int, ∃ v55 : Int, ∃ v56 : Int, Spec Try.prog etalonref01_Minus_s ⟨[v47, v48, v49, v50, v51, v52], [], []⟩ [v53, v54, v55, v56] [] [] ∧
         (∃ u4 : Bool, Spec Try.prog etalonlaw01_is_s ⟨[v13, v14, v15, v16, v43, v44, v45, v46], [], []⟩ [] [u4] [] ∧
         ((u4 = true → (∃ u5 : Bool, Spec Try.prog etalonlaw01_is_s ⟨[v17, v18, v19, v20, v53, v54, v55, v56], [], []⟩ [] [u5] [] ∧
          ((u5 = true → (∃ v57 : Int, ∃ v58 : Int, ∃ v59 : Int, ∃ v60 : Int, Spec Try.prog ball_Minus_s ⟨[v13, v14, v15, v10, v11, v12], [], []⟩ [v57, v58, v59, v60] [] [] ∧
           ((((v16 : Int) == 0) = true → ((((v60 : Int) == 0) = true → (∃ v61 : Int, ∃ v62 : Int, Spec Try.prog etalonbase_Num_s ⟨[x0, x1], [], []⟩ [v61, v62] [] [] ∧
             (∃ u6 : Bool, Spec Try.prog etalonbase_SameBits_s ⟨[v57, v58, v61, v62], [], []⟩ [] [u6] [] ∧
             ((u6 = true → R (((v59 : Int) == IntKind.i64.wrap (x2 + IntKind.i64.wrap (2 * x5))))) ∧
             (u6 = false → R (false)))))) ∧
            (((v60 : Int) == 0) = false → R (true)))) ∧
           (((v16 : Int) == 0) = false → R (true))))) ∧
          (u5 = false → R (false))))) ∧
         (u4 = false → R (false)))))))))) ∧
        (((v39 : Int) == 0) = false → (∃ u4 : Bool, Spec Try.prog etalonlaw01_is_s ⟨[v13, v14, v15, v16, 0, 0, 0, v39], [], []⟩ [] [u4] [] ∧
         ((u4 = true → (∃ u5 : Bool, Spec Try.prog etalonlaw01_is_s ⟨[v17, v18, v19, v20, 0, 0, 0, v39], [], []⟩ [] [u5] [] ∧
          R (u5))) ∧
         (u4 = false → R (false)))))))) ∧
       (u3 = false → R (false)))))) ∧
      (u2 = false → (∃ u3 : Bool, Spec Try.prog etalonlaw01_is_s ⟨[v25, v26, v27, v28, 0, 0, 0, 2], [], []⟩ [] [u3] [] ∧
       ((u3 = true → (∃ v36 : Int, Spec Try.prog _etalonlaw01_Whole__err_s ⟨[x3, x4, x5], [], []⟩ [v36] [] [] ∧
        ((((v36 : Int) == 0) = true → (∃ v37 : Int, ∃ v38 : Int, ∃ v39 : Int, Spec Try.prog etalonref01_Of_s ⟨[v10, v11, v12], [], []⟩ [v37, v38, v39] [] [] ∧
         (∃ v40 : Int, ∃ v41 : Int, ∃ v42 : Int, ∃ v43 : Int, Spec Try.prog etalonref01_Plus_s ⟨[v30, v31, v32, v37, v38, v39], [], []⟩ [v40, v41, v42, v43] [] [] ∧
         (∃ v44 : Int, ∃ v45 : Int, ∃ v46 : Int, Spec Try.prog etalonref01_Of_s ⟨[v7, v8, v9], [], []⟩ [v44, v45, v46] [] [] ∧
         (∃ v47 : Int, ∃ v48 : Int, ∃ v49 : Int, Spec Try.prog etalonref01_Of_s ⟨[v10, v11, v12], [], []⟩ [v47, v48, v49] [] [] ∧
         (∃ v50 : Int, ∃ v51 : Int, ∃ v52 : Int, ∃ v53 : Int, Spec Try.prog etalonref01_Minus_s ⟨[v44, v45, v46, v47, v48, v49], [], []⟩ [v50, v51, v52, v53] [] [] ∧
         (∃ u4 : Bool, Spec Try.prog etalonlaw01_is_s ⟨[v13, v14, v15, v16, v40, v41, v42, v43], [], []⟩ [] [u4] [] ∧
         ((u4 = true → (∃ u5 : Bool, Spec Try.prog etalonlaw01_is_s ⟨[v17, v18, v19, v20, v50, v51, v52, v53], [], []⟩ [] [u5] [] ∧
          ((u5 = true → (∃ v54 : Int, ∃ v55 : Int, ∃ v56 : Int, ∃ v57 : Int, Spec Try.prog ball_Minus_s ⟨[v13, v14, v15, v10, v11, v12], [], []⟩ [v54, v55, v56, v57] [] [] ∧
           ((((v16 : Int) == 0) = true → ((((v57 : Int) == 0) = true → (∃ v58 : Int, ∃ v59 : Int, Spec Try.prog etalonbase_Num_s ⟨[x0, x1], [], []⟩ [v58, v59] [] [] ∧
             (∃ u6 : Bool, Spec Try.prog etalonbase_SameBits_s ⟨[v54, v55, v58, v59], [], []⟩ [] [u6] [] ∧
             ((u6 = true → R (((v56 : Int) == IntKind.i64.wrap (x2 + IntKind.i64.wrap (2 * x5))))) ∧
             (u6 = false → R (false)))))) ∧
            (((v57 : Int) == 0) = false → R (true)))) ∧
           (((v16 : Int) == 0) = false → R (true))))) ∧
          (u5 = false → R (false))))) ∧
         (u4 = false → R (false)))))))))) ∧
        (((v36 : Int) == 0) = false → (∃ u4 : Bool, Spec Try.prog etalonlaw01_is_s ⟨[v13, v14, v15, v16, 0, 0, 0, v36], [], []⟩ [] [u4] [] ∧
         ((u4 = true → (∃ u5 : Bool, Spec Try.prog etalonlaw01_is_s ⟨[v17, v18, v19, v20, 0, 0, 0, v36], [], []⟩ [] [u5] [] ∧
          R (u5))) ∧
         (u4 = false → R (false)))))))) ∧
       (u3 = false → R (false)))))))) ∧
     (u1 = false → R (false))))))) ∧
    (((v29 : Int) == 0) = false → (∃ u1 : Bool, Spec Try.prog etalonlaw01_is_s ⟨[v13, v14, v15, v16, 0, 0, 0, v29], [], []⟩ [] [u1] [] ∧
     ((u1 = true → (∃ u2 : Bool, Spec Try.prog etalonlaw01_is_s ⟨[v17, v18, v19, v20, 0, 0, 0, v29], [], []⟩ [] [u2] [] ∧
      ((u2 = true → (∃ u3 : Bool, Spec Try.prog etalonlaw01_is_s ⟨[v21, v22, v23, v24, 0, 0, 0, v29], [], []⟩ [] [u3] [] ∧
       ((u3 = true → (∃ u4 : Bool, Spec Try.prog etalonlaw01_is_s ⟨[v25, v26, v27, v28, 0, 0, 0, v29], [], []⟩ [] [u4] [] ∧
        R (u4))) ∧
       (u3 = false → R (false))))) ∧
      (u2 = false → R (false))))) ∧
     (u1 = false → R (false)))))))))))))) ∧
   (u0 = false → R (false))))) :
    ∃ u0 : Bool, R u0 ∧ Spec Try.prog etalonlaw01_BallAdds_s ⟨[x0, x1, x2, x3, x4, x5, x6], [], []⟩ [] [u0] [] :=
  Eq.mp (by kernel_rfl) (exV_of (K := fun d => app3 etalonlaw01_BallAdds_s.out R d ∧ Spec Try.prog etalonlaw01_BallAdds_s ⟨[x0, x1, x2, x3, x4, x5, x6], [], []⟩ d.1 d.2.1 d.2.2) (tree_at mixed names S1_ok (S := S1 Try.prog) (lf := 100000) (d := 60) etalonlaw01_BallAdds_s bad_t { ivs := [(0, (-9223372036854775808), 9223372036854775807), (1, (-9223372036854775808), 9223372036854775807), (2, (-9223372036854775808), 9223372036854775807), (3, (-9223372036854775808), 9223372036854775807), (4, (-9223372036854775808), 9223372036854775807), (5, (-9223372036854775808), 9223372036854775807), (6, (-9223372036854775808), 9223372036854775807)], aivs := [] } ⟨[x0, x1, x2, x3, x4, x5, x6], [], []⟩ rfl (by kernel_rfl) (by kernel_rfl) (by kernel_rfl) ⟨(fc r0 (fc r1 (fc r2 (fc r3 (fc r4 (fc r5 (fc r6 fz))))))), fz, fz, fz⟩ (R := fun d => app3 etalonlaw01_BallAdds_s.out R d) (Eq.mp (by kernel_rfl) H)))

theorem and_three (x : Int) : NOp.den (.andK .i64) x 3 = x % 4 := by

  show IntKind.i64.wrap ((BitVec.ofInt 64 x &&& BitVec.ofInt 64 3).toNat : Int) = x % 4

  have e : (BitVec.ofInt 64 x &&& BitVec.ofInt 64 3).toNat = (x % 18446744073709551616).toNat % 4 := by

    rw [BitVec.toNat_and, BitVec.toNat_ofInt, show (BitVec.ofInt 64 3).toNat = 2 ^ 2 - 1 from rfl, Nat.and_two_pow_sub_one_eq_mod]

    rfl

  rw [e, IntKind.wrap_i64]; omega

def turnQ (q X Y r : Int) : Bq := if q % 4 = 0 then ⟨X, Y, r, 0⟩ else if q % 4 = 1 then ⟨0 - Y, X, r, 0⟩ else if q % 4 = 2 then ⟨X * (-1), Y * (-1), r, 0⟩ else ⟨0 - Y * (-1), X * (-1), r, 0⟩

def turnP (q X Y r : Int) : Bq := if (-1000000000) ≤ q ∧ q ≤ 1000000000 then turnQ q X Y r else be 2

theorem turn_good {a b : Nat} {r q X Y : Int} (h : RB a b r X Y) (hq : I64 q) : Spec Try.prog ball_Turned_s ⟨[(a : Int), (b : Int), r, q], [], []⟩ [F (turnP q X Y r).x, F (turnP q X Y r).y, (turnP q X Y r).r, (turnP q X Y r).e] [] [] := by

  obtain ⟨pa, pb, hx, hy, hr⟩ := h

  refine BqF.out (tu (x0 := (a : Int)) (x1 := (b : Int)) hr hq (R := BqF (turnP q X Y r)) ⟨X, ⟨pa, by omega⟩, hx, Y, ⟨pb, by omega⟩, hy, ?_⟩)

  simp only [and_three, decide_eq_true_eq, decide_eq_false_iff_not, beq_iff_eq, beq_eq_false_iff_ne, ne_eq]

  unfold turnP turnQ

  refine ⟨fun h1 => ⟨fun h2 => ?_, fun h2 => ?_⟩, fun h1 => ?_⟩

  · rw [if_pos ⟨h1, h2⟩]

    refine ⟨fun k => ?_, fun k0 => ⟨fun k => ?_, fun k1 => ⟨fun k => ?_, fun k2 => ?_⟩⟩⟩

    · rw [if_pos k]; exact ⟨rfl, rfl, rfl, rfl⟩

    · rw [if_neg k0, if_pos k]; exact ⟨rfl, rfl, rfl, rfl⟩

    · rw [if_neg k0, if_neg k1, if_pos k]; exact ⟨rfl, rfl, rfl, rfl⟩

    · rw [if_neg k0, if_neg k1, if_neg k2]; exact ⟨rfl, rfl, rfl, rfl⟩

  · rw [if_neg (by omega)]; exact be_ok rfl

  · rw [if_neg (by omega)]; exact be_ok rfl

theorem turn_p {a b : Nat} {r q : Int} (ha : U a) (hb : U b) (hr : I64 r) (hq : I64 q) : Spec Try.prog ball_Turned_s ⟨[(a : Int), (b : Int), r, q], [], []⟩ [F (op1 (turnP q) a b r).x, F (op1 (turnP q) a b r).y, (op1 (turnP q) a b r).r, (op1 (turnP q) a b r).e] [] [] := by

  unfold op1

  split

  · rename_i h; exact turn_good (ckB_rb ha hb h) hq

  · rename_i h; exact BqF.out (tub hr hq (R := BqF _) ⟨_, checkBall_p ha hb hr, fun h9 => absurd (eq_of_beq h9) h, fun _ => be_ok rfl⟩)

theorem tmod4 (q : Int) : (0 ≤ q.tmod 4 → q.tmod 4 = q % 4) ∧ (¬ 0 ≤ q.tmod 4 → q.tmod 4 + 4 = q % 4) ∧ -4 < q.tmod 4 := by

  have e := Int.mul_tdiv_add_tmod q 4

  have tl : -4 < q.tmod 4 := by

    have := Int.tmod_lt_of_pos (-q) (show (0 : Int) < 4 by omega)

    rw [Int.neg_tmod] at this

    omega

  have th := Int.tmod_lt_of_pos q (show (0 : Int) < 4 by omega)

  omega

theorem turn_r {r q X Y : Int} (hx : (-67108864) ≤ X ∧ X ≤ 67108864) (hy : (-67108864) ≤ Y ∧ Y ≤ 67108864) (hr : 0 ≤ r ∧ r ≤ 67108864) (hq : (-1000000000) ≤ q ∧ q ≤ 1000000000) :

    Spec Try.prog etalonref01_Turned_s ⟨[X, Y, r, q], [], []⟩ [(turnQ q X Y r).x, (turnQ q X Y r).y, (turnQ q X Y r).r] [] [] := by

  refine outb3 (rtn hx hy hr hq (R := fun a b c => a = (turnQ q X Y r).x ∧ b = (turnQ q X Y r).y ∧ c = (turnQ q X Y r).r) ?_)

  obtain ⟨t1, t2, t3⟩ := tmod4 q

  simp only [decide_eq_true_eq, decide_eq_false_iff_not]

  have f : ∀ (a b : Int), (q % 4 = 0 → a = X ∧ b = Y) → (q % 4 = 1 → a = 0 - Y ∧ b = X) → (q % 4 = 2 → a = 0 - X ∧ b = 0 - Y) → (q % 4 = 3 → a = Y ∧ b = 0 - X) → a = (turnQ q X Y r).x ∧ b = (turnQ q X Y r).y ∧ r = (turnQ q X Y r).r := by

    intro a b g0 g1 g2 g3

    unfold turnQ

    split

    · rename_i k; obtain ⟨rfl, rfl⟩ := g0 k; exact ⟨rfl, rfl, rfl⟩

    · rename_i k0; split

      · rename_i k; obtain ⟨rfl, rfl⟩ := g1 k; exact ⟨rfl, rfl, rfl⟩

      · rename_i k1; split

        · rename_i k; obtain ⟨rfl, rfl⟩ := g2 k; refine ⟨?_, ?_, rfl⟩ <;> dsimp only <;> omega

        · rename_i k2; obtain ⟨rfl, rfl⟩ := g3 (by omega); refine ⟨?_, ?_, rfl⟩ <;> dsimp only <;> omega

  repeat' (first | (refine f _ _ ?_ ?_ ?_ ?_ <;> omega) | apply And.intro | intro _ | fail)

theorem within_s {x lo hi : Int} (hx : I64 x) (hl : I64 lo) (hh : I64 hi) : Spec Try.prog etalonbase_Within_s ⟨[x, lo, hi], [], []⟩ [] [decide (lo ≤ x ∧ x ≤ hi)] [] := by

  refine outt (wi hx hl hh (R := (· = decide (lo ≤ x ∧ x ≤ hi))) ⟨fun h => ?_, fun h => ?_⟩)

  · have := of_decide_eq_true h; by_cases g : x ≤ hi <;> simp [g, this]

  · have := of_decide_eq_false h; simp [this]

theorem bits_s (a b : Int) : Spec Try.prog etalonbase_SameBits_s ⟨[a, b, a, b], [], []⟩ [] [true] [] :=

  outt (sb (R := (· = true)) ⟨fun _ => by simp, fun h => by simp at h⟩)

theorem outb2 {P : Program} {S : Sig} {V : Vs} {x y : Int} (h : ∃ a b : Int, (a = x ∧ b = y) ∧ Spec P S V [a, b] [] []) : Spec P S V [x, y] [] [] := by

  obtain ⟨a, b, ⟨rfl, rfl⟩, hs⟩ := h

  exact hs

theorem num_s {x y : Int} (hx : I64 x) (hy : I64 y) : Spec Try.prog etalonbase_Num_s ⟨[x, y], [], []⟩ [F x, F y] [] [] :=

  outb2 (nu hx hy (R := fun a b => a = F x ∧ b = F y) ⟨rfl, rfl⟩)

theorem plus_W {X Y r Z W s : Int} (hX : InF X) (hY : InF Y) (hr : I64 r) (hZ : InF Z) (hW : InF W) (hs : I64 s) : Spec Try.prog ball_Plus_s ⟨[((fi X : Nat) : Int), ((fi Y : Nat) : Int), r, ((fi Z : Nat) : Int), ((fi W : Nat) : Int), s], [], []⟩ [F (opW plusQ X Y r Z W s).x, F (opW plusQ X Y r Z W s).y, (opW plusQ X Y r Z W s).r, (opW plusQ X Y r Z W s).e] [] [] := by

  have := plus_p (U_fi hX) (U_fi hY) hr (U_fi hZ) (U_fi hW) hs

  rwa [op2_W plusQ hX hY hZ hW] at this

theorem minus_W {X Y r Z W s : Int} (hX : InF X) (hY : InF Y) (hr : I64 r) (hZ : InF Z) (hW : InF W) (hs : I64 s) : Spec Try.prog ball_Minus_s ⟨[((fi X : Nat) : Int), ((fi Y : Nat) : Int), r, ((fi Z : Nat) : Int), ((fi W : Nat) : Int), s], [], []⟩ [F (opW minusQ X Y r Z W s).x, F (opW minusQ X Y r Z W s).y, (opW minusQ X Y r Z W s).r, (opW minusQ X Y r Z W s).e] [] [] := by

  have := minus_p (U_fi hX) (U_fi hY) hr (U_fi hZ) (U_fi hW) hs

  rwa [op2_W minusQ hX hY hZ hW] at this

theorem conj_V {X Y r : Int} (hX : InF X) (hY : InF Y) (hr : I64 r) : Spec Try.prog ball_Conj_s ⟨[((fi X : Nat) : Int), ((fi Y : Nat) : Int), r], [], []⟩ [F (opV conjQ X Y r).x, F (opV conjQ X Y r).y, (opV conjQ X Y r).r, (opV conjQ X Y r).e] [] [] := by

  have := conj_p (U_fi hX) (U_fi hY) hr

  rwa [op1_V conjQ hX hY] at this

theorem turn_V {X Y r q : Int} (hX : InF X) (hY : InF Y) (hr : I64 r) (hq : I64 q) : Spec Try.prog ball_Turned_s ⟨[((fi X : Nat) : Int), ((fi Y : Nat) : Int), r, q], [], []⟩ [F (opV (turnP q) X Y r).x, F (opV (turnP q) X Y r).y, (opV (turnP q) X Y r).r, (opV (turnP q) X Y r).e] [] [] := by

  have := turn_p (U_fi hX) (U_fi hY) hr hq

  rwa [op1_V (turnP q) hX hY] at this

theorem bk_e {x y r : Int} (h : (bk x y r).e = 0) : okB x y r ∧ bk x y r = ⟨x, y, r, 0⟩ := by

  unfold bk at h ⊢

  split at h

  · rename_i g; exact ⟨g, by rw [if_pos g]⟩

  · cases h

theorem turn_n {q r X Y : Int} (hx : (-67108864) ≤ X ∧ X ≤ 67108864) (hy : (-67108864) ≤ Y ∧ Y ≤ 67108864) (hr : 0 ≤ r ∧ r ≤ 67108864) : BqN (turnQ q X Y r) ∧ (turnQ q X Y r).e = 0 := by

  unfold turnQ

  repeat' split

  all_goals exact ⟨⟨by dsimp only; omega, by dsimp only; omega, by dsimp only; omega, by dsimp only; omega⟩, rfl⟩

theorem conj_n {r X Y : Int} (hx : (-67108864) ≤ X ∧ X ≤ 67108864) (hy : (-67108864) ≤ Y ∧ Y ≤ 67108864) (hr : 0 ≤ r ∧ r ≤ 67108864) : BqN (conjQ X Y r) := by

  unfold conjQ

  exact ⟨by dsimp only; omega, by dsimp only; omega, by dsimp only; omega, by dsimp only; omega⟩

theorem cutI_in {x : Int} (h : (-67108864) ≤ cutI x ∧ cutI x ≤ 67108864) : cutI x = x := by

  unfold cutI at h ⊢

  split at h <;> split at h <;> split <;> omega

theorem wrapb {x s : Int} (h : 0 ≤ x ∧ x ≤ 67108864) (g : 0 ≤ s ∧ s ≤ 67108864) : IntKind.i64.wrap (x + IntKind.i64.wrap (2 * s)) = x + s + s := by

  rw [wrapI (x := 2 * s) (by omega), wrapI (by omega)]; omega

theorem back_eq {X Y r Z W s : Int} (hr : 0 ≤ r ∧ r ≤ 67108864) (g : ckW Z W s = 0) (he : (plusQ X Y r Z W s).e = 0) (hb : (opW minusQ (plusQ X Y r Z W s).x (plusQ X Y r Z W s).y (plusQ X Y r Z W s).r Z W s).e = 0) : opW minusQ (plusQ X Y r Z W s).x (plusQ X Y r Z W s).y (plusQ X Y r Z W s).r Z W s = ⟨X, Y, r + s + s, 0⟩ := by

  have gs := (ckW_rb g).hr

  obtain ⟨ok, e⟩ := bk_e (x := X + Z) (y := Y + W) (r := r + s) he

  have e' : plusQ X Y r Z W s = ⟨X + Z, Y + W, r + s, 0⟩ := e

  rw [e'] at hb ⊢

  dsimp only at hb ⊢

  obtain ⟨o1, o2, o3⟩ := ok

  have c : ckW (X + Z) (Y + W) (r + s) = 0 := by unfold ckW; rw [if_pos ⟨o1, o2, by omega, o3⟩]

  have f : fe (ckW (X + Z) (Y + W) (r + s)) (ckW Z W s) = 0 := by rw [c, g]; rfl

  rw [opW_ok f] at hb ⊢

  obtain ⟨_, e2⟩ := bk_e (x := X + Z - Z) (y := Y + W - W) (r := r + s + s) hb

  show bk (X + Z - Z) (Y + W - W) (r + s + s) = _

  rw [e2, show X + Z - Z = X by omega, show Y + W - W = Y by omega]

theorem adds {x0 x1 x2 x3 x4 x5 x6 : Int} (r0 : I64 x0) (r1 : I64 x1) (r2 : I64 x2) (r3 : I64 x3) (r4 : I64 x4) (r5 : I64 x5) (r6 : I64 x6) : Spec Try.prog etalonlaw01_BallAdds_s ⟨[x0, x1, x2, x3, x4, x5, x6], [], []⟩ [] [true] [] := by

  have a0 := wball_s r0 r1 r2

  have a1 := wball_s r3 r4 r5

  have e0 := werr_s r0 r1 r2

  have e1 := werr_s r3 r4 r5

  have f0 := cutI_F x0

  have f1 := cutI_F x1

  have f3 := cutI_F x3

  have f4 := cutI_F x4

  have tp := plus_W f0 f1 r2 f3 f4 r5

  have tm := minus_W f0 f1 r2 f3 f4 r5

  have tc := conj_V f0 f1 r2

  have tt := turn_V f0 f1 r2 r6

  have v0 := ckW_v (cutI x0) (cutI x1) x2

  have v1 := ckW_v (cutI x3) (cutI x4) x5

  refine outt (bad r0 r1 r2 r3 r4 r5 r6 (R := (· = true)) ⟨_, awake_t, fun _ => ⟨_, _, _, a0, _, _, _, a1, _, _, _, _, tp, _, _, _, _, tm, _, _, _, _, tc, _, _, _, _, tt, _, e0, fun h => ?_, fun h => ?_⟩, fun h => by cases h⟩)

  · simp only [beq_iff_eq] at h

    have b0 := ckW_rb h

    have cn := conj_n b0.hx b0.hy b0.hr

    refine ⟨_, _, _, of_s (Rp_fi _) (Rp_fi _) f0 f1 r2, _, _, _, conj_r b0.hx b0.hy b0.hr, _, by rw [opV_ok h]; exact cn.is, fun _ => ⟨_, within_s r6 (by omega) (by omega), fun hq => ?_, fun hq => ?_⟩, fun h => by cases h⟩

    · have hq' := of_decide_eq_true hq

      have tn := turn_n (q := x6) b0.hx b0.hy b0.hr

      have ti := tn.1.is

      refine ⟨_, _, _, turn_r b0.hx b0.hy b0.hr hq', _, by rw [opV_ok h]; unfold turnP; rw [if_pos hq']; rw [tn.2] at ti ⊢; exact ti, fun _ => ?_, fun h => by cases h⟩

      refine ⟨_, e1, fun g => ?_, fun g => ?_⟩

      · simp only [beq_iff_eq] at g

        have b1 := ckW_rb g

        have hf : fe (ckW (cutI x0) (cutI x1) x2) (ckW (cutI x3) (cutI x4) x5) = 0 := by rw [h, g]; rfl

        have o3 := of_s (Rp_fi _) (Rp_fi _) f3 f4 r5

        have o0 := of_s (Rp_fi _) (Rp_fi _) f0 f1 r2

        have pn := plus_n (X := cutI x0) (Y := cutI x1) (r := x2) (Z := cutI x3) (W := cutI x4) (s := x5) b0.hr.1 b1.hr.1

        have mn := minus_n (X := cutI x0) (Y := cutI x1) (r := x2) (Z := cutI x3) (W := cutI x4) (s := x5) b0.hr.1 b1.hr.1

        have px := pn.hx

        have py := pn.hy

        have pr := pn.hr

        have tb := minus_W (X := (plusQ (cutI x0) (cutI x1) x2 (cutI x3) (cutI x4) x5).x) (Y := (plusQ (cutI x0) (cutI x1) x2 (cutI x3) (cutI x4) x5).y) (r := (plusQ (cutI x0) (cutI x1) x2 (cutI x3) (cutI x4) x5).r) (Z := cutI x3) (W := cutI x4) (s := x5) ⟨by omega, by omega⟩ ⟨by omega, by omega⟩ (by omega) f3 f4 r5

        rw [opW_ok (f := plusQ) hf, opW_ok (f := minusQ) hf]

        refine ⟨_, _, _, o3, _, _, _, _, plus_r b0.hx b0.hy b0.hr b1.hx b1.hy b1.hr, _, _, _, o0, _, _, _, o3, _, _, _, _, minus_r b0.hx b0.hy b0.hr b1.hx b1.hy b1.hr, _, pn.is, fun _ => ⟨_, mn.is, fun _ => ⟨_, _, _, _, tb, fun k => ⟨fun l => ?_, fun _ => rfl⟩, fun _ => rfl⟩, fun h => by cases h⟩, fun h => by cases h⟩

        simp only [beq_iff_eq] at k l

        have be := back_eq b0.hr g k l

        rw [be]

        have i0 := cutI_in b0.hx

        have i1 := cutI_in b0.hy

        refine ⟨_, _, num_s r0 r1, _, by rw [i0, i1]; exact bits_s _ _, fun _ => ?_, fun h => by cases h⟩

        rw [wrapb b0.hr b1.hr]

        exact beq_self_eq_true _

      · simp only [beq_eq_false_iff_ne, ne_eq] at g

        have hf : fe (ckW (cutI x0) (cutI x1) x2) (ckW (cutI x3) (cutI x4) x5) = ckW (cutI x3) (cutI x4) x5 := by unfold fe; rw [if_pos h]

        have hf' : fe (ckW (cutI x0) (cutI x1) x2) (ckW (cutI x3) (cutI x4) x5) ≠ 0 := by rw [hf]; exact g

        exact ⟨_, by rw [opW_no hf', hf]; exact is_be (by omega), fun _ => ⟨_, by rw [opW_no hf', hf]; exact is_be (by omega), rfl⟩, fun h => by cases h⟩

    · have hq' := of_decide_eq_false hq

      refine ⟨_, by rw [opV_ok h]; unfold turnP; rw [if_neg hq']; exact is_be (by omega), fun _ => ?_, fun h => by cases h⟩

      refine ⟨_, e1, fun g => ?_, fun g => ?_⟩

      · simp only [beq_iff_eq] at g

        have b1 := ckW_rb g

        have hf : fe (ckW (cutI x0) (cutI x1) x2) (ckW (cutI x3) (cutI x4) x5) = 0 := by rw [h, g]; rfl

        have o3 := of_s (Rp_fi _) (Rp_fi _) f3 f4 r5

        have o0 := of_s (Rp_fi _) (Rp_fi _) f0 f1 r2

        have pn := plus_n (X := cutI x0) (Y := cutI x1) (r := x2) (Z := cutI x3) (W := cutI x4) (s := x5) b0.hr.1 b1.hr.1

        have mn := minus_n (X := cutI x0) (Y := cutI x1) (r := x2) (Z := cutI x3) (W := cutI x4) (s := x5) b0.hr.1 b1.hr.1

        have px := pn.hx

        have py := pn.hy

        have pr := pn.hr

        have tb := minus_W (X := (plusQ (cutI x0) (cutI x1) x2 (cutI x3) (cutI x4) x5).x) (Y := (plusQ (cutI x0) (cutI x1) x2 (cutI x3) (cutI x4) x5).y) (r := (plusQ (cutI x0) (cutI x1) x2 (cutI x3) (cutI x4) x5).r) (Z := cutI x3) (W := cutI x4) (s := x5) ⟨by omega, by omega⟩ ⟨by omega, by omega⟩ (by omega) f3 f4 r5

        rw [opW_ok (f := plusQ) hf, opW_ok (f := minusQ) hf]

        refine ⟨_, _, _, o3, _, _, _, _, plus_r b0.hx b0.hy b0.hr b1.hx b1.hy b1.hr, _, _, _, o0, _, _, _, o3, _, _, _, _, minus_r b0.hx b0.hy b0.hr b1.hx b1.hy b1.hr, _, pn.is, fun _ => ⟨_, mn.is, fun _ => ⟨_, _, _, _, tb, fun k => ⟨fun l => ?_, fun _ => rfl⟩, fun _ => rfl⟩, fun h => by cases h⟩, fun h => by cases h⟩

        simp only [beq_iff_eq] at k l

        have be := back_eq b0.hr g k l

        rw [be]

        have i0 := cutI_in b0.hx

        have i1 := cutI_in b0.hy

        refine ⟨_, _, num_s r0 r1, _, by rw [i0, i1]; exact bits_s _ _, fun _ => ?_, fun h => by cases h⟩

        rw [wrapb b0.hr b1.hr]

        exact beq_self_eq_true _

      · simp only [beq_eq_false_iff_ne, ne_eq] at g

        have hf : fe (ckW (cutI x0) (cutI x1) x2) (ckW (cutI x3) (cutI x4) x5) = ckW (cutI x3) (cutI x4) x5 := by unfold fe; rw [if_pos h]

        have hf' : fe (ckW (cutI x0) (cutI x1) x2) (ckW (cutI x3) (cutI x4) x5) ≠ 0 := by rw [hf]; exact g

        exact ⟨_, by rw [opW_no hf', hf]; exact is_be (by omega), fun _ => ⟨_, by rw [opW_no hf', hf]; exact is_be (by omega), rfl⟩, fun h => by cases h⟩

  · simp only [beq_eq_false_iff_ne, ne_eq] at h

    have hf : fe (ckW (cutI x0) (cutI x1) x2) (ckW (cutI x3) (cutI x4) x5) = ckW (cutI x0) (cutI x1) x2 := by unfold fe; rw [if_neg h]

    have hf' : fe (ckW (cutI x0) (cutI x1) x2) (ckW (cutI x3) (cutI x4) x5) ≠ 0 := by rw [hf]; exact h

    refine ⟨_, by rw [opW_no hf', hf]; exact is_be (by omega), fun _ => ⟨_, by rw [opW_no hf', hf]; exact is_be (by omega), fun _ => ⟨_, by rw [opV_no h]; exact is_be (by omega), fun _ => ⟨_, by rw [opV_no h]; exact is_be (by omega), rfl⟩, fun h => by cases h⟩, fun h => by cases h⟩, fun h => by cases h⟩

end Go.Proofs.Ytgdlddmbfockpaa.Ev
