/- Balls that lie: contains, meets, inside, hull, of the program and of the reference. -/
import Derived.Test.YtgdhpgjfebinhaaGreatFza
namespace Go.Proofs.YtgdhpgjfebinhaaGreat.Ev
set_option linter.unusedSimpArgs false
open Go Go.RowKit
set_option linter.unusedVariables false
set_option maxRecDepth 100000
def ball_Contains_s : Sig := ⟨6, ⟨5, 0, 0⟩, ⟨1, 1, 0⟩, [(.agg [(.complex .f64 (.var 0) (.var 1)), (.int .i64 (.var 2))]), (.complex .f64 (.var 3) (.var 4))], [], (.tuple [(.bool (.var 0)), (.int .i64 (.var 5))]), []⟩
def ball_Meets_s : Sig := ⟨13, ⟨6, 0, 0⟩, ⟨1, 1, 0⟩, [(.agg [(.complex .f64 (.var 0) (.var 1)), (.int .i64 (.var 2))]), (.agg [(.complex .f64 (.var 3) (.var 4)), (.int .i64 (.var 5))])], [], (.tuple [(.bool (.var 0)), (.int .i64 (.var 6))]), []⟩
def ball_Inside_s : Sig := ⟨14, ⟨6, 0, 0⟩, ⟨1, 1, 0⟩, [(.agg [(.complex .f64 (.var 0) (.var 1)), (.int .i64 (.var 2))]), (.agg [(.complex .f64 (.var 3) (.var 4)), (.int .i64 (.var 5))])], [], (.tuple [(.bool (.var 0)), (.int .i64 (.var 6))]), []⟩
def ball_Hull_s : Sig := ⟨15, ⟨6, 0, 0⟩, ⟨4, 0, 0⟩, [(.agg [(.complex .f64 (.var 0) (.var 1)), (.int .i64 (.var 2))]), (.agg [(.complex .f64 (.var 3) (.var 4)), (.int .i64 (.var 5))])], [], (.tuple [(.agg [(.complex .f64 (.var 6) (.var 7)), (.int .i64 (.var 8))]), (.int .i64 (.var 9))]), []⟩
def etalonref01_Contains_s : Sig := ⟨11, ⟨5, 0, 0⟩, ⟨0, 1, 0⟩, [(.agg [(.int .i64 (.var 0)), (.int .i64 (.var 1)), (.int .i64 (.var 2))]), (.int .i64 (.var 3)), (.int .i64 (.var 4))], [], (.bool (.var 0)), []⟩
def etalonref01_Meets_s : Sig := ⟨19, ⟨6, 0, 0⟩, ⟨0, 1, 0⟩, [(.agg [(.int .i64 (.var 0)), (.int .i64 (.var 1)), (.int .i64 (.var 2))]), (.agg [(.int .i64 (.var 3)), (.int .i64 (.var 4)), (.int .i64 (.var 5))])], [], (.bool (.var 0)), []⟩
def etalonref01_Inside_s : Sig := ⟨20, ⟨6, 0, 0⟩, ⟨0, 1, 0⟩, [(.agg [(.int .i64 (.var 0)), (.int .i64 (.var 1)), (.int .i64 (.var 2))]), (.agg [(.int .i64 (.var 3)), (.int .i64 (.var 4)), (.int .i64 (.var 5))])], [], (.bool (.var 0)), []⟩
def etalonref01_Hull_s : Sig := ⟨18, ⟨6, 0, 0⟩, ⟨4, 0, 0⟩, [(.agg [(.int .i64 (.var 0)), (.int .i64 (.var 1)), (.int .i64 (.var 2))]), (.agg [(.int .i64 (.var 3)), (.int .i64 (.var 4)), (.int .i64 (.var 5))])], [], (.tuple [(.agg [(.int .i64 (.var 6)), (.int .i64 (.var 7)), (.int .i64 (.var 8))]), (.int .i64 (.var 9))]), []⟩

def co_t : Tr :=
  (.whole 0 67108864 (.rng 5 (-67108864) 67108864 (.whole 1 67108864 (.rng 6 (-67108864) 67108864 (.whole 3 134217728 (.rng 7 (-134217728) 134217728 (.whole 4 134217728 (.rng 8 (-134217728) 134217728 (.ret ⟨[(.lit 0)], [(.icmp .leq (.bin .addI (.bin .mulI (.bin .subI (.var 5) (.var 7)) (.bin .subI (.var 5) (.var 7))) (.bin .mulI (.bin .subI (.var 6) (.var 8)) (.bin .subI (.var 6) (.var 8)))) (.bin .mulI (.var 2) (.var 2)))], []⟩ [])))))))))
theorem co {x0 x1 x2 x3 x4 : Int} (r2 : 0 ≤ x2 ∧ x2 ≤ 67108864) {R : Int → Bool → Prop}
  (H : (∃ v5 : Int, (Rp (x0 : Int).toNat v5 ∧ v5.natAbs ≤ 67108864) ∧ (((-67108864) ≤ (v5 : Int) ∧ (v5 : Int) ≤ 67108864) ∧ (∃ v6 : Int, (Rp (x1 : Int).toNat v6 ∧ v6.natAbs ≤ 67108864) ∧ (((-67108864) ≤ (v6 : Int) ∧ (v6 : Int) ≤ 67108864) ∧ (∃ v7 : Int, (Rp (x3 : Int).toNat v7 ∧ v7.natAbs ≤ 134217728) ∧ (((-134217728) ≤ (v7 : Int) ∧ (v7 : Int) ≤ 134217728) ∧ (∃ v8 : Int, (Rp (x4 : Int).toNat v8 ∧ v8.natAbs ≤ 134217728) ∧ (((-134217728) ≤ (v8 : Int) ∧ (v8 : Int) ≤ 134217728) ∧ R (0) (decide (((((v5 - v7) * (v5 - v7)) + ((v6 - v8) * (v6 - v8))) : Int) ≤ (x2 * x2)))))))))))) :
    ∃ v0 : Int, ∃ u0 : Bool, R v0 u0 ∧ Spec Tryz.prog ball_Contains_s ⟨[x0, x1, x2, x3, x4], [], []⟩ [v0] [u0] [] :=
  Eq.mp (by kernel_rfl) (exV_of (K := fun d => app3 ball_Contains_s.out R d ∧ Spec Tryz.prog ball_Contains_s ⟨[x0, x1, x2, x3, x4], [], []⟩ d.1 d.2.1 d.2.2) (tree_at mixed names S1_ok (S := S1 Tryz.prog) (lf := 100000) (d := 60) ball_Contains_s co_t { ivs := [(2, 0, 67108864)], aivs := [] } ⟨[x0, x1, x2, x3, x4], [], []⟩ rfl (by kernel_rfl) (by kernel_rfl) (by kernel_rfl) ⟨(fc r2 fz), fz, fz, fz⟩ (R := fun d => app3 ball_Contains_s.out R d) (Eq.mp (by kernel_rfl) H)))

def cob_t : Tr :=
  (.call ball_CheckBall_s ⟨[(.var 0), (.var 1), (.var 2)], [], []⟩ ⟨[(.var 0), (.var 1), (.var 2), (.var 5)], [], []⟩ ⟨67, [(.agg [(.complex .f64 (.var 0) (.var 1)), (.int .i64 (.var 2))])], [], [none, none, none], (.int .i64 (.var 5)), []⟩
  (.ite (.icmp .eql (.var 5) (.lit 0))
  (.call whole_CheckParts_s ⟨[(.var 3), (.var 4), (.toF .f64 (.lit 134217728))], [], []⟩ ⟨[(.var 3), (.var 4), (.toF .f64 (.lit 134217728)), (.var 6)], [], []⟩ ⟨30, [(.complex .f64 (.var 3) (.var 4)), (.float .f64 (.toF .f64 (.lit 134217728)))], [], [none, none, none, none], (.int .i64 (.var 6)), []⟩
   (.ite (.icmp .eql (.var 6) (.lit 0))
   .nil
   (.ret ⟨[(.var 6)], [(.lit false)], []⟩ [])))
  (.ret ⟨[(.var 5)], [(.lit false)], []⟩ [])))
theorem cob {x0 x1 x2 x3 x4 : Int} (r2 : (-9223372036854775808) ≤ x2 ∧ x2 ≤ 9223372036854775807) {R : Int → Bool → Prop}
  (H : (∃ v5 : Int, Spec Tryz.prog ball_CheckBall_s ⟨[x0, x1, x2], [], []⟩ [v5] [] [] ∧
   ((((v5 : Int) == 0) = true → (∃ v6 : Int, Spec Tryz.prog whole_CheckParts_s ⟨[x3, x4, ((FloatKind.f64.nearest 134217728 : Nat) : Int)], [], []⟩ [v6] [] [] ∧
    ((((v6 : Int) == 0) = true → False) ∧
    (((v6 : Int) == 0) = false → R (v6) (false))))) ∧
   (((v5 : Int) == 0) = false → R (v5) (false))))) :
    ∃ v0 : Int, ∃ u0 : Bool, R v0 u0 ∧ Spec Tryz.prog ball_Contains_s ⟨[x0, x1, x2, x3, x4], [], []⟩ [v0] [u0] [] :=
  Eq.mp (by kernel_rfl) (exV_of (K := fun d => app3 ball_Contains_s.out R d ∧ Spec Tryz.prog ball_Contains_s ⟨[x0, x1, x2, x3, x4], [], []⟩ d.1 d.2.1 d.2.2) (tree_at mixed names S1_ok (S := S1 Tryz.prog) (lf := 100000) (d := 60) ball_Contains_s cob_t { ivs := [(2, (-9223372036854775808), 9223372036854775807)], aivs := [] } ⟨[x0, x1, x2, x3, x4], [], []⟩ rfl (by kernel_rfl) (by kernel_rfl) (by kernel_rfl) ⟨(fc r2 fz), fz, fz, fz⟩ (R := fun d => app3 ball_Contains_s.out R d) (Eq.mp (by kernel_rfl) H)))

def me_t : Tr :=
  (.whole 0 67108864 (.rng 6 (-67108864) 67108864 (.whole 1 67108864 (.rng 7 (-67108864) 67108864 (.whole 3 67108864 (.rng 8 (-67108864) 67108864 (.whole 4 67108864 (.rng 9 (-67108864) 67108864 (.ret ⟨[(.lit 0)], [(.icmp .leq (.bin .addI (.bin .mulI (.bin .subI (.var 6) (.var 8)) (.bin .subI (.var 6) (.var 8))) (.bin .mulI (.bin .subI (.var 7) (.var 9)) (.bin .subI (.var 7) (.var 9)))) (.bin .mulI (.bin .addI (.var 2) (.var 5)) (.bin .addI (.var 2) (.var 5))))], []⟩ [])))))))))
theorem me {x0 x1 x2 x3 x4 x5 : Int} (r2 : 0 ≤ x2 ∧ x2 ≤ 67108864) (r5 : 0 ≤ x5 ∧ x5 ≤ 67108864) {R : Int → Bool → Prop}
  (H : (∃ v6 : Int, (Rp (x0 : Int).toNat v6 ∧ v6.natAbs ≤ 67108864) ∧ (((-67108864) ≤ (v6 : Int) ∧ (v6 : Int) ≤ 67108864) ∧ (∃ v7 : Int, (Rp (x1 : Int).toNat v7 ∧ v7.natAbs ≤ 67108864) ∧ (((-67108864) ≤ (v7 : Int) ∧ (v7 : Int) ≤ 67108864) ∧ (∃ v8 : Int, (Rp (x3 : Int).toNat v8 ∧ v8.natAbs ≤ 67108864) ∧ (((-67108864) ≤ (v8 : Int) ∧ (v8 : Int) ≤ 67108864) ∧ (∃ v9 : Int, (Rp (x4 : Int).toNat v9 ∧ v9.natAbs ≤ 67108864) ∧ (((-67108864) ≤ (v9 : Int) ∧ (v9 : Int) ≤ 67108864) ∧ R (0) (decide (((((v6 - v8) * (v6 - v8)) + ((v7 - v9) * (v7 - v9))) : Int) ≤ ((x2 + x5) * (x2 + x5))))))))))))) :
    ∃ v0 : Int, ∃ u0 : Bool, R v0 u0 ∧ Spec Tryz.prog ball_Meets_s ⟨[x0, x1, x2, x3, x4, x5], [], []⟩ [v0] [u0] [] :=
  Eq.mp (by kernel_rfl) (exV_of (K := fun d => app3 ball_Meets_s.out R d ∧ Spec Tryz.prog ball_Meets_s ⟨[x0, x1, x2, x3, x4, x5], [], []⟩ d.1 d.2.1 d.2.2) (tree_at mixed names S1_ok (S := S1 Tryz.prog) (lf := 100000) (d := 60) ball_Meets_s me_t { ivs := [(2, 0, 67108864), (5, 0, 67108864)], aivs := [] } ⟨[x0, x1, x2, x3, x4, x5], [], []⟩ rfl (by kernel_rfl) (by kernel_rfl) (by kernel_rfl) ⟨(fc r2 (fc r5 fz)), fz, fz, fz⟩ (R := fun d => app3 ball_Meets_s.out R d) (Eq.mp (by kernel_rfl) H)))

def meb_t : Tr :=
  (.call ball_CheckBall_s ⟨[(.var 0), (.var 1), (.var 2)], [], []⟩ ⟨[(.var 0), (.var 1), (.var 2), (.var 6)], [], []⟩ ⟨67, [(.agg [(.complex .f64 (.var 0) (.var 1)), (.int .i64 (.var 2))])], [], [none, none, none, none, none, none], (.int .i64 (.var 6)), []⟩
  (.ite (.icmp .eql (.var 6) (.lit 0))
  (.call ball_CheckBall_s ⟨[(.var 3), (.var 4), (.var 5)], [], []⟩ ⟨[(.var 3), (.var 4), (.var 5), (.var 7)], [], []⟩ ⟨67, [(.agg [(.complex .f64 (.var 3) (.var 4)), (.int .i64 (.var 5))])], [], [none, none, none, none, none, none, none, none], (.int .i64 (.var 7)), []⟩
   (.ite (.icmp .eql (.var 7) (.lit 0))
   .nil
   (.ret ⟨[(.var 7)], [(.lit false)], []⟩ [])))
  (.ret ⟨[(.var 6)], [(.lit false)], []⟩ [])))
theorem meb {x0 x1 x2 x3 x4 x5 : Int} (r2 : (-9223372036854775808) ≤ x2 ∧ x2 ≤ 9223372036854775807) (r5 : (-9223372036854775808) ≤ x5 ∧ x5 ≤ 9223372036854775807) {R : Int → Bool → Prop}
  (H : (∃ v6 : Int, Spec Tryz.prog ball_CheckBall_s ⟨[x0, x1, x2], [], []⟩ [v6] [] [] ∧
   ((((v6 : Int) == 0) = true → (∃ v7 : Int, Spec Tryz.prog ball_CheckBall_s ⟨[x3, x4, x5], [], []⟩ [v7] [] [] ∧
    ((((v7 : Int) == 0) = true → False) ∧
    (((v7 : Int) == 0) = false → R (v7) (false))))) ∧
   (((v6 : Int) == 0) = false → R (v6) (false))))) :
    ∃ v0 : Int, ∃ u0 : Bool, R v0 u0 ∧ Spec Tryz.prog ball_Meets_s ⟨[x0, x1, x2, x3, x4, x5], [], []⟩ [v0] [u0] [] :=
  Eq.mp (by kernel_rfl) (exV_of (K := fun d => app3 ball_Meets_s.out R d ∧ Spec Tryz.prog ball_Meets_s ⟨[x0, x1, x2, x3, x4, x5], [], []⟩ d.1 d.2.1 d.2.2) (tree_at mixed names S1_ok (S := S1 Tryz.prog) (lf := 100000) (d := 60) ball_Meets_s meb_t { ivs := [(2, (-9223372036854775808), 9223372036854775807), (5, (-9223372036854775808), 9223372036854775807)], aivs := [] } ⟨[x0, x1, x2, x3, x4, x5], [], []⟩ rfl (by kernel_rfl) (by kernel_rfl) (by kernel_rfl) ⟨(fc r2 (fc r5 fz)), fz, fz, fz⟩ (R := fun d => app3 ball_Meets_s.out R d) (Eq.mp (by kernel_rfl) H)))

def isg_t : Tr :=
  (.whole 0 67108864 (.rng 6 (-67108864) 67108864 (.whole 1 67108864 (.rng 7 (-67108864) 67108864 (.whole 3 67108864 (.rng 8 (-67108864) 67108864 (.whole 4 67108864 (.rng 9 (-67108864) 67108864 (.ite (.icmp .leq (.lit 0) (.bin .subI (.var 5) (.var 2)))
  (.ret ⟨[(.lit 0)], [(.icmp .leq (.bin .addI (.bin .mulI (.bin .subI (.var 6) (.var 8)) (.bin .subI (.var 6) (.var 8))) (.bin .mulI (.bin .subI (.var 7) (.var 9)) (.bin .subI (.var 7) (.var 9)))) (.bin .mulI (.bin .subI (.var 5) (.var 2)) (.bin .subI (.var 5) (.var 2))))], []⟩ [])
  (.ret ⟨[(.lit 0)], [(.lit false)], []⟩ []))))))))))
theorem isg {x0 x1 x2 x3 x4 x5 : Int} (r2 : 0 ≤ x2 ∧ x2 ≤ 67108864) (r5 : 0 ≤ x5 ∧ x5 ≤ 67108864) {R : Int → Bool → Prop}
  (H : (∃ v6 : Int, (Rp (x0 : Int).toNat v6 ∧ v6.natAbs ≤ 67108864) ∧ (((-67108864) ≤ (v6 : Int) ∧ (v6 : Int) ≤ 67108864) ∧ (∃ v7 : Int, (Rp (x1 : Int).toNat v7 ∧ v7.natAbs ≤ 67108864) ∧ (((-67108864) ≤ (v7 : Int) ∧ (v7 : Int) ≤ 67108864) ∧ (∃ v8 : Int, (Rp (x3 : Int).toNat v8 ∧ v8.natAbs ≤ 67108864) ∧ (((-67108864) ≤ (v8 : Int) ∧ (v8 : Int) ≤ 67108864) ∧ (∃ v9 : Int, (Rp (x4 : Int).toNat v9 ∧ v9.natAbs ≤ 67108864) ∧ (((-67108864) ≤ (v9 : Int) ∧ (v9 : Int) ≤ 67108864) ∧ ((decide ((0 : Int) ≤ (x5 - x2)) = true → R (0) (decide (((((v6 - v8) * (v6 - v8)) + ((v7 - v9) * (v7 - v9))) : Int) ≤ ((x5 - x2) * (x5 - x2))))) ∧
   (decide ((0 : Int) ≤ (x5 - x2)) = false → R (0) (false)))))))))))) :
    ∃ v0 : Int, ∃ u0 : Bool, R v0 u0 ∧ Spec Tryz.prog ball_Inside_s ⟨[x0, x1, x2, x3, x4, x5], [], []⟩ [v0] [u0] [] :=
  Eq.mp (by kernel_rfl) (exV_of (K := fun d => app3 ball_Inside_s.out R d ∧ Spec Tryz.prog ball_Inside_s ⟨[x0, x1, x2, x3, x4, x5], [], []⟩ d.1 d.2.1 d.2.2) (tree_at mixed names S1_ok (S := S1 Tryz.prog) (lf := 100000) (d := 60) ball_Inside_s isg_t { ivs := [(2, 0, 67108864), (5, 0, 67108864)], aivs := [] } ⟨[x0, x1, x2, x3, x4, x5], [], []⟩ rfl (by kernel_rfl) (by kernel_rfl) (by kernel_rfl) ⟨(fc r2 (fc r5 fz)), fz, fz, fz⟩ (R := fun d => app3 ball_Inside_s.out R d) (Eq.mp (by kernel_rfl) H)))

def isb_t : Tr :=
  (.call ball_CheckBall_s ⟨[(.var 0), (.var 1), (.var 2)], [], []⟩ ⟨[(.var 0), (.var 1), (.var 2), (.var 6)], [], []⟩ ⟨67, [(.agg [(.complex .f64 (.var 0) (.var 1)), (.int .i64 (.var 2))])], [], [none, none, none, none, none, none], (.int .i64 (.var 6)), []⟩
  (.ite (.icmp .eql (.var 6) (.lit 0))
  (.call ball_CheckBall_s ⟨[(.var 3), (.var 4), (.var 5)], [], []⟩ ⟨[(.var 3), (.var 4), (.var 5), (.var 7)], [], []⟩ ⟨67, [(.agg [(.complex .f64 (.var 3) (.var 4)), (.int .i64 (.var 5))])], [], [none, none, none, none, none, none, none, none], (.int .i64 (.var 7)), []⟩
   (.ite (.icmp .eql (.var 7) (.lit 0))
   (.ite (.icmp .leq (.lit 0) (.bin (.subW .i64) (.var 5) (.var 2)))
    .nil
    (.ret ⟨[(.lit 0)], [(.lit false)], []⟩ []))
   (.ret ⟨[(.var 7)], [(.lit false)], []⟩ [])))
  (.ret ⟨[(.var 6)], [(.lit false)], []⟩ [])))
theorem isb {x0 x1 x2 x3 x4 x5 : Int} (r2 : (-9223372036854775808) ≤ x2 ∧ x2 ≤ 9223372036854775807) (r5 : (-9223372036854775808) ≤ x5 ∧ x5 ≤ 9223372036854775807) {R : Int → Bool → Prop}
  (H : (∃ v6 : Int, Spec Tryz.prog ball_CheckBall_s ⟨[x0, x1, x2], [], []⟩ [v6] [] [] ∧
   ((((v6 : Int) == 0) = true → (∃ v7 : Int, Spec Tryz.prog ball_CheckBall_s ⟨[x3, x4, x5], [], []⟩ [v7] [] [] ∧
    ((((v7 : Int) == 0) = true → ((decide ((0 : Int) ≤ IntKind.i64.wrap (x5 - x2)) = true → False) ∧
     (decide ((0 : Int) ≤ IntKind.i64.wrap (x5 - x2)) = false → R (0) (false)))) ∧
    (((v7 : Int) == 0) = false → R (v7) (false))))) ∧
   (((v6 : Int) == 0) = false → R (v6) (false))))) :
    ∃ v0 : Int, ∃ u0 : Bool, R v0 u0 ∧ Spec Tryz.prog ball_Inside_s ⟨[x0, x1, x2, x3, x4, x5], [], []⟩ [v0] [u0] [] :=
  Eq.mp (by kernel_rfl) (exV_of (K := fun d => app3 ball_Inside_s.out R d ∧ Spec Tryz.prog ball_Inside_s ⟨[x0, x1, x2, x3, x4, x5], [], []⟩ d.1 d.2.1 d.2.2) (tree_at mixed names S1_ok (S := S1 Tryz.prog) (lf := 100000) (d := 60) ball_Inside_s isb_t { ivs := [(2, (-9223372036854775808), 9223372036854775807), (5, (-9223372036854775808), 9223372036854775807)], aivs := [] } ⟨[x0, x1, x2, x3, x4, x5], [], []⟩ rfl (by kernel_rfl) (by kernel_rfl) (by kernel_rfl) ⟨(fc r2 (fc r5 fz)), fz, fz, fz⟩ (R := fun d => app3 ball_Inside_s.out R d) (Eq.mp (by kernel_rfl) H)))

def hu_t : Tr :=
  (.whole 0 67108864 (.rng 6 (-67108864) 67108864 (.whole 1 67108864 (.rng 7 (-67108864) 67108864 (.whole 3 67108864 (.rng 8 (-67108864) 67108864 (.whole 4 67108864 (.rng 9 (-67108864) 67108864 (.call whole_Nearest_s ⟨[(.bin .addI (.var 6) (.var 8)), (.lit 1), (.lit 2)], [], []⟩ ⟨[(.bin .addI (.var 6) (.var 8)), (.lit 1), (.lit 2), (.var 10)], [(.var 0)], []⟩ ⟨77, [(.int .i64 (.bin .addI (.var 6) (.var 8))), (.int .i64 (.lit 1)), (.int .i64 (.lit 2))], [], [none, none, none, none, none, none, none, none, none, none, none, none, none, none, none, none, none, none, none], (.tuple [(.int .i64 (.var 10)), (.bool (.var 0))]), []⟩
  (.rng 10 (-67108864) 67108864 (.call whole_Nearest_s ⟨[(.bin .addI (.var 7) (.var 9)), (.lit 1), (.lit 2)], [], []⟩ ⟨[(.bin .addI (.var 7) (.var 9)), (.lit 1), (.lit 2), (.var 11)], [(.var 1)], []⟩ ⟨77, [(.int .i64 (.bin .addI (.var 7) (.var 9))), (.int .i64 (.lit 1)), (.int .i64 (.lit 2))], [], [none, none, none, none, none, none, none, none, none, none, none, none, none, none, none, none, none, none, none], (.tuple [(.int .i64 (.var 11)), (.bool (.var 1))]), []⟩
  (.rng 11 (-67108864) 67108864 (.ite (.var 0)
  (.call whole_RootUp_s ⟨[(.bin .addI (.bin .mulI (.bin .subI (.var 6) (.var 10)) (.bin .subI (.var 6) (.var 10))) (.bin .mulI (.bin .subI (.var 7) (.var 11)) (.bin .subI (.var 7) (.var 11))))], [], []⟩ ⟨[(.bin .addI (.bin .mulI (.bin .subI (.var 6) (.var 10)) (.bin .subI (.var 6) (.var 10))) (.bin .mulI (.bin .subI (.var 7) (.var 11)) (.bin .subI (.var 7) (.var 11)))), (.var 12)], [], []⟩ ⟨61, [(.int .i64 (.bin .addI (.bin .mulI (.bin .subI (.var 6) (.var 10)) (.bin .subI (.var 6) (.var 10))) (.bin .mulI (.bin .subI (.var 7) (.var 11)) (.bin .subI (.var 7) (.var 11)))))], [], [none, none, none, none, none, none, none, none, none, none, none, none, none, none, none, none, none, none, none], (.int .i64 (.var 12)), []⟩
   (.rng 12 0 200000000 (.call whole_RootUp_s ⟨[(.bin .addI (.bin .mulI (.bin .subI (.var 8) (.var 10)) (.bin .subI (.var 8) (.var 10))) (.bin .mulI (.bin .subI (.var 9) (.var 11)) (.bin .subI (.var 9) (.var 11))))], [], []⟩ ⟨[(.bin .addI (.bin .mulI (.bin .subI (.var 8) (.var 10)) (.bin .subI (.var 8) (.var 10))) (.bin .mulI (.bin .subI (.var 9) (.var 11)) (.bin .subI (.var 9) (.var 11)))), (.var 13)], [], []⟩ ⟨61, [(.int .i64 (.bin .addI (.bin .mulI (.bin .subI (.var 8) (.var 10)) (.bin .subI (.var 8) (.var 10))) (.bin .mulI (.bin .subI (.var 9) (.var 11)) (.bin .subI (.var 9) (.var 11)))))], [], [none, none, none, none, none, none, none, none, none, none, none, none, none, none, none, none, none, none, none, none], (.int .i64 (.var 13)), []⟩
   (.rng 13 0 200000000 (.ite (.icmp .leq (.bin .maxI (.bin .maxI (.lit 0) (.bin .addI (.var 12) (.var 2))) (.bin .addI (.var 13) (.var 5))) (.lit 67108864))
   (.ret ⟨[(.toF .f64 (.var 10)), (.toF .f64 (.var 11)), (.bin .maxI (.bin .maxI (.lit 0) (.bin .addI (.var 12) (.var 2))) (.bin .addI (.var 13) (.var 5))), (.lit 0)], [], []⟩ [])
   (.ret ⟨[(.lit 0), (.lit 0), (.lit 0), (.lit 8)], [], []⟩ []))))))
  (.call whole_RootUp_s ⟨[(.bin .addI (.bin .mulI (.bin .subI (.var 6) (.var 10)) (.bin .subI (.var 6) (.var 10))) (.bin .mulI (.bin .subI (.var 7) (.var 11)) (.bin .subI (.var 7) (.var 11))))], [], []⟩ ⟨[(.bin .addI (.bin .mulI (.bin .subI (.var 6) (.var 10)) (.bin .subI (.var 6) (.var 10))) (.bin .mulI (.bin .subI (.var 7) (.var 11)) (.bin .subI (.var 7) (.var 11)))), (.var 12)], [], []⟩ ⟨61, [(.int .i64 (.bin .addI (.bin .mulI (.bin .subI (.var 6) (.var 10)) (.bin .subI (.var 6) (.var 10))) (.bin .mulI (.bin .subI (.var 7) (.var 11)) (.bin .subI (.var 7) (.var 11)))))], [], [none, none, none, none, none, none, none, none, none, none, none, none, none, none, none, none, none, none, none], (.int .i64 (.var 12)), []⟩
   (.rng 12 0 200000000 (.call whole_RootUp_s ⟨[(.bin .addI (.bin .mulI (.bin .subI (.var 8) (.var 10)) (.bin .subI (.var 8) (.var 10))) (.bin .mulI (.bin .subI (.var 9) (.var 11)) (.bin .subI (.var 9) (.var 11))))], [], []⟩ ⟨[(.bin .addI (.bin .mulI (.bin .subI (.var 8) (.var 10)) (.bin .subI (.var 8) (.var 10))) (.bin .mulI (.bin .subI (.var 9) (.var 11)) (.bin .subI (.var 9) (.var 11)))), (.var 13)], [], []⟩ ⟨61, [(.int .i64 (.bin .addI (.bin .mulI (.bin .subI (.var 8) (.var 10)) (.bin .subI (.var 8) (.var 10))) (.bin .mulI (.bin .subI (.var 9) (.var 11)) (.bin .subI (.var 9) (.var 11)))))], [], [none, none, none, none, none, none, none, none, none, none, none, none, none, none, none, none, none, none, none, none], (.int .i64 (.var 13)), []⟩
   (.rng 13 0 200000000 (.ite (.icmp .leq (.bin .maxI (.bin .maxI (.lit 0) (.bin .addI (.var 12) (.var 2))) (.bin .addI (.var 13) (.var 5))) (.lit 67108864))
   (.ret ⟨[(.toF .f64 (.var 10)), (.toF .f64 (.var 11)), (.bin .maxI (.bin .maxI (.lit 0) (.bin .addI (.var 12) (.var 2))) (.bin .addI (.var 13) (.var 5))), (.lit 0)], [], []⟩ [])
   (.ret ⟨[(.lit 0), (.lit 0), (.lit 0), (.lit 8)], [], []⟩ [])))))))))))))))))))
theorem hu {x0 x1 x2 x3 x4 x5 : Int} (r2 : 0 ≤ x2 ∧ x2 ≤ 67108864) (r5 : 0 ≤ x5 ∧ x5 ≤ 67108864) {R : Int → Int → Int → Int → Prop}
  (H : (∃ v6 : Int, (Rp (x0 : Int).toNat v6 ∧ v6.natAbs ≤ 67108864) ∧ (((-67108864) ≤ (v6 : Int) ∧ (v6 : Int) ≤ 67108864) ∧ (∃ v7 : Int, (Rp (x1 : Int).toNat v7 ∧ v7.natAbs ≤ 67108864) ∧ (((-67108864) ≤ (v7 : Int) ∧ (v7 : Int) ≤ 67108864) ∧ (∃ v8 : Int, (Rp (x3 : Int).toNat v8 ∧ v8.natAbs ≤ 67108864) ∧ (((-67108864) ≤ (v8 : Int) ∧ (v8 : Int) ≤ 67108864) ∧ (∃ v9 : Int, (Rp (x4 : Int).toNat v9 ∧ v9.natAbs ≤ 67108864) ∧ (((-67108864) ≤ (v9 : Int) ∧ (v9 : Int) ≤ 67108864) ∧ (∃ v10 : Int, ∃ u0 : Bool, Spec Tryz.prog whole_Nearest_s ⟨[(v6 + v8), 1, 2], [], []⟩ [v10] [u0] [] ∧
   (((-67108864) ≤ (v10 : Int) ∧ (v10 : Int) ≤ 67108864) ∧ (∃ v11 : Int, ∃ u1 : Bool, Spec Tryz.prog whole_Nearest_s ⟨[(v7 + v9), 1, 2], [], []⟩ [v11] [u1] [] ∧
   (((-67108864) ≤ (v11 : Int) ∧ (v11 : Int) ≤ 67108864) ∧ ((u0 = true → (∃ v12 : Int, Spec Tryz.prog whole_RootUp_s ⟨[(((v6 - v10) * (v6 - v10)) + ((v7 - v11) * (v7 - v11)))], [], []⟩ [v12] [] [] ∧
    ((0 ≤ (v12 : Int) ∧ (v12 : Int) ≤ 200000000) ∧ (∃ v13 : Int, Spec Tryz.prog whole_RootUp_s ⟨[(((v8 - v10) * (v8 - v10)) + ((v9 - v11) * (v9 - v11)))], [], []⟩ [v13] [] [] ∧
    ((0 ≤ (v13 : Int) ∧ (v13 : Int) ≤ 200000000) ∧ ((decide (((if ((v13 + x5) : Int) > (if ((v12 + x2) : Int) > 0 then (v12 + x2) else 0) then (v13 + x5) else (if ((v12 + x2) : Int) > 0 then (v12 + x2) else 0)) : Int) ≤ 67108864) = true → R (((FloatKind.f64.nearest v10 : Nat) : Int)) (((FloatKind.f64.nearest v11 : Nat) : Int)) ((if ((v13 + x5) : Int) > (if ((v12 + x2) : Int) > 0 then (v12 + x2) else 0) then (v13 + x5) else (if ((v12 + x2) : Int) > 0 then (v12 + x2) else 0))) (0)) ∧
    (decide (((if ((v13 + x5) : Int) > (if ((v12 + x2) : Int) > 0 then (v12 + x2) else 0) then (v13 + x5) else (if ((v12 + x2) : Int) > 0 then (v12 + x2) else 0)) : Int) ≤ 67108864) = false → R (0) (0) (0) (8)))))))) ∧
   (u0 = false → (∃ v12 : Int, Spec Tryz.prog whole_RootUp_s ⟨[(((v6 - v10) * (v6 - v10)) + ((v7 - v11) * (v7 - v11)))], [], []⟩ [v12] [] [] ∧
    ((0 ≤ (v12 : Int) ∧ (v12 : Int) ≤ 200000000) ∧ (∃ v13 : Int, Spec Tryz.prog whole_RootUp_s ⟨[(((v8 - v10) * (v8 - v10)) + ((v9 - v11) * (v9 - v11)))], [], []⟩ [v13] [] [] ∧
    ((0 ≤ (v13 : Int) ∧ (v13 : Int) ≤ 200000000) ∧ ((decide (((if ((v13 + x5) : Int) > (if ((v12 + x2) : Int) > 0 then (v12 + x2) else 0) then (v13 + x5) else (if ((v12 + x2) : Int) > 0 then (v12 + x2) else 0)) : Int) ≤ 67108864) = true → R (((FloatKind.f64.nearest v10 : Nat) : Int)) (((FloatKind.f64.nearest v11 : Nat) : Int)) ((if ((v13 + x5) : Int) > (if ((v12 + x2) : Int) > 0 then (v12 + x2) else 0) then (v13 + x5) else (if ((v12 + x2) : Int) > 0 then (v12 + x2) else 0))) (0)) ∧
    (decide (((if ((v13 + x5) : Int) > (if ((v12 + x2) : Int) > 0 then (v12 + x2) else 0) then (v13 + x5) else (if ((v12 + x2) : Int) > 0 then (v12 + x2) else 0)) : Int) ≤ 67108864) = false → R (0) (0) (0) (8)))))))))))))))))))))) :
    ∃ v0 : Int, ∃ v1 : Int, ∃ v2 : Int, ∃ v3 : Int, R v0 v1 v2 v3 ∧ Spec Tryz.prog ball_Hull_s ⟨[x0, x1, x2, x3, x4, x5], [], []⟩ [v0, v1, v2, v3] [] [] :=
  Eq.mp (by kernel_rfl) (exV_of (K := fun d => app3 ball_Hull_s.out R d ∧ Spec Tryz.prog ball_Hull_s ⟨[x0, x1, x2, x3, x4, x5], [], []⟩ d.1 d.2.1 d.2.2) (tree_at mixed names S1_ok (S := S1 Tryz.prog) (lf := 100000) (d := 60) ball_Hull_s hu_t { ivs := [(2, 0, 67108864), (5, 0, 67108864)], aivs := [] } ⟨[x0, x1, x2, x3, x4, x5], [], []⟩ rfl (by kernel_rfl) (by kernel_rfl) (by kernel_rfl) ⟨(fc r2 (fc r5 fz)), fz, fz, fz⟩ (R := fun d => app3 ball_Hull_s.out R d) (Eq.mp (by kernel_rfl) H)))

def hub_t : Tr :=
  (.call ball_CheckBall_s ⟨[(.var 0), (.var 1), (.var 2)], [], []⟩ ⟨[(.var 0), (.var 1), (.var 2), (.var 6)], [], []⟩ ⟨67, [(.agg [(.complex .f64 (.var 0) (.var 1)), (.int .i64 (.var 2))])], [], [none, none, none, none, none, none, none, none, none], (.int .i64 (.var 6)), []⟩
  (.ite (.icmp .eql (.var 6) (.lit 0))
  (.call ball_CheckBall_s ⟨[(.var 3), (.var 4), (.var 5)], [], []⟩ ⟨[(.var 3), (.var 4), (.var 5), (.var 7)], [], []⟩ ⟨67, [(.agg [(.complex .f64 (.var 3) (.var 4)), (.int .i64 (.var 5))])], [], [none, none, none, none, none, none, none, none, none, none, none, none, none], (.int .i64 (.var 7)), []⟩
   (.ite (.icmp .eql (.var 7) (.lit 0))
   .nil
   (.ret ⟨[(.lit 0), (.lit 0), (.lit 0), (.var 7)], [], []⟩ [])))
  (.ret ⟨[(.lit 0), (.lit 0), (.lit 0), (.var 6)], [], []⟩ [])))
theorem hub {x0 x1 x2 x3 x4 x5 : Int} (r2 : (-9223372036854775808) ≤ x2 ∧ x2 ≤ 9223372036854775807) (r5 : (-9223372036854775808) ≤ x5 ∧ x5 ≤ 9223372036854775807) {R : Int → Int → Int → Int → Prop}
  (H : (∃ v6 : Int, Spec Tryz.prog ball_CheckBall_s ⟨[x0, x1, x2], [], []⟩ [v6] [] [] ∧
   ((((v6 : Int) == 0) = true → (∃ v7 : Int, Spec Tryz.prog ball_CheckBall_s ⟨[x3, x4, x5], [], []⟩ [v7] [] [] ∧
    ((((v7 : Int) == 0) = true → False) ∧
    (((v7 : Int) == 0) = false → R (0) (0) (0) (v7))))) ∧
   (((v6 : Int) == 0) = false → R (0) (0) (0) (v6))))) :
    ∃ v0 : Int, ∃ v1 : Int, ∃ v2 : Int, ∃ v3 : Int, R v0 v1 v2 v3 ∧ Spec Tryz.prog ball_Hull_s ⟨[x0, x1, x2, x3, x4, x5], [], []⟩ [v0, v1, v2, v3] [] [] :=
  Eq.mp (by kernel_rfl) (exV_of (K := fun d => app3 ball_Hull_s.out R d ∧ Spec Tryz.prog ball_Hull_s ⟨[x0, x1, x2, x3, x4, x5], [], []⟩ d.1 d.2.1 d.2.2) (tree_at mixed names S1_ok (S := S1 Tryz.prog) (lf := 100000) (d := 60) ball_Hull_s hub_t { ivs := [(2, (-9223372036854775808), 9223372036854775807), (5, (-9223372036854775808), 9223372036854775807)], aivs := [] } ⟨[x0, x1, x2, x3, x4, x5], [], []⟩ rfl (by kernel_rfl) (by kernel_rfl) (by kernel_rfl) ⟨(fc r2 (fc r5 fz)), fz, fz, fz⟩ (R := fun d => app3 ball_Hull_s.out R d) (Eq.mp (by kernel_rfl) H)))

def rhu_t : Tr :=
  (.call etalonref01_rounded_s ⟨[(.bin .addI (.var 0) (.var 3)), (.lit 2)], [], []⟩ ⟨[(.bin .addI (.var 0) (.var 3)), (.lit 2), (.var 6)], [(.var 0)], []⟩ ⟨46, [(.int .i64 (.bin .addI (.var 0) (.var 3))), (.int .i64 (.lit 2))], [], [none, none, none], (.tuple [(.int .i64 (.var 6)), (.bool (.var 0))]), []⟩
  (.rng 6 (-67108864) 67108864 (.call etalonref01_rounded_s ⟨[(.bin .addI (.var 1) (.var 4)), (.lit 2)], [], []⟩ ⟨[(.bin .addI (.var 1) (.var 4)), (.lit 2), (.var 7)], [(.var 1)], []⟩ ⟨46, [(.int .i64 (.bin .addI (.var 1) (.var 4))), (.int .i64 (.lit 2))], [], [none, none, none], (.tuple [(.int .i64 (.var 7)), (.bool (.var 1))]), []⟩
  (.rng 7 (-67108864) 67108864 (.call etalonref01_RootUp_s ⟨[(.bin .addI (.bin .mulI (.bin .subI (.var 6) (.var 0)) (.bin .subI (.var 6) (.var 0))) (.bin .mulI (.bin .subI (.var 7) (.var 1)) (.bin .subI (.var 7) (.var 1))))], [], []⟩ ⟨[(.bin .addI (.bin .mulI (.bin .subI (.var 6) (.var 0)) (.bin .subI (.var 6) (.var 0))) (.bin .mulI (.bin .subI (.var 7) (.var 1)) (.bin .subI (.var 7) (.var 1)))), (.var 8)], [], []⟩ ⟨47, [(.int .i64 (.bin .addI (.bin .mulI (.bin .subI (.var 6) (.var 0)) (.bin .subI (.var 6) (.var 0))) (.bin .mulI (.bin .subI (.var 7) (.var 1)) (.bin .subI (.var 7) (.var 1)))))], [], [none, none, none, none], (.int .i64 (.var 8)), []⟩
  (.rng 8 0 200000000 (.call etalonref01_RootUp_s ⟨[(.bin .addI (.bin .mulI (.bin .subI (.var 6) (.var 3)) (.bin .subI (.var 6) (.var 3))) (.bin .mulI (.bin .subI (.var 7) (.var 4)) (.bin .subI (.var 7) (.var 4))))], [], []⟩ ⟨[(.bin .addI (.bin .mulI (.bin .subI (.var 6) (.var 3)) (.bin .subI (.var 6) (.var 3))) (.bin .mulI (.bin .subI (.var 7) (.var 4)) (.bin .subI (.var 7) (.var 4)))), (.var 9)], [], []⟩ ⟨47, [(.int .i64 (.bin .addI (.bin .mulI (.bin .subI (.var 6) (.var 3)) (.bin .subI (.var 6) (.var 3))) (.bin .mulI (.bin .subI (.var 7) (.var 4)) (.bin .subI (.var 7) (.var 4)))))], [], [none, none, none, none], (.int .i64 (.var 9)), []⟩
  (.rng 9 0 200000000 (.call _etalonref01_B__Checked_s ⟨[(.var 6), (.var 7), (.bin .maxI (.bin .addI (.var 8) (.var 2)) (.bin .addI (.var 9) (.var 5)))], [], []⟩ ⟨[(.var 6), (.var 7), (.bin .maxI (.bin .addI (.var 8) (.var 2)) (.bin .addI (.var 9) (.var 5))), (.var 10), (.var 11), (.var 12), (.var 13)], [], []⟩ ⟨48, [(.agg [(.int .i64 (.var 6)), (.int .i64 (.var 7)), (.int .i64 (.bin .maxI (.bin .addI (.var 8) (.var 2)) (.bin .addI (.var 9) (.var 5))))])], [], [none, none, none, none], (.tuple [(.agg [(.int .i64 (.var 10)), (.int .i64 (.var 11)), (.int .i64 (.var 12))]), (.int .i64 (.var 13))]), []⟩
  (.ret ⟨[(.var 10), (.var 11), (.var 12), (.var 13)], [], []⟩ []))))))))))
theorem rhu {x0 x1 x2 x3 x4 x5 : Int} (r0 : (-67108864) ≤ x0 ∧ x0 ≤ 67108864) (r1 : (-67108864) ≤ x1 ∧ x1 ≤ 67108864) (r2 : 0 ≤ x2 ∧ x2 ≤ 67108864) (r3 : (-67108864) ≤ x3 ∧ x3 ≤ 67108864) (r4 : (-67108864) ≤ x4 ∧ x4 ≤ 67108864) (r5 : 0 ≤ x5 ∧ x5 ≤ 67108864) {R : Int → Int → Int → Int → Prop}
  (H : (∃ v6 : Int, ∃ u0 : Bool, Spec Tryz.prog etalonref01_rounded_s ⟨[(x0 + x3), 2], [], []⟩ [v6] [u0] [] ∧
   (((-67108864) ≤ (v6 : Int) ∧ (v6 : Int) ≤ 67108864) ∧ (∃ v7 : Int, ∃ u1 : Bool, Spec Tryz.prog etalonref01_rounded_s ⟨[(x1 + x4), 2], [], []⟩ [v7] [u1] [] ∧
   (((-67108864) ≤ (v7 : Int) ∧ (v7 : Int) ≤ 67108864) ∧ (∃ v8 : Int, Spec Tryz.prog etalonref01_RootUp_s ⟨[(((v6 - x0) * (v6 - x0)) + ((v7 - x1) * (v7 - x1)))], [], []⟩ [v8] [] [] ∧
   ((0 ≤ (v8 : Int) ∧ (v8 : Int) ≤ 200000000) ∧ (∃ v9 : Int, Spec Tryz.prog etalonref01_RootUp_s ⟨[(((v6 - x3) * (v6 - x3)) + ((v7 - x4) * (v7 - x4)))], [], []⟩ [v9] [] [] ∧
   ((0 ≤ (v9 : Int) ∧ (v9 : Int) ≤ 200000000) ∧ (∃ v10 : Int, ∃ v11 : Int, ∃ v12 : Int, ∃ v13 : Int, Spec Tryz.prog _etalonref01_B__Checked_s ⟨[v6, v7, (if ((v9 + x5) : Int) > (v8 + x2) then (v9 + x5) else (v8 + x2))], [], []⟩ [v10, v11, v12, v13] [] [] ∧
   R (v10) (v11) (v12) (v13))))))))))) :
    ∃ v0 : Int, ∃ v1 : Int, ∃ v2 : Int, ∃ v3 : Int, R v0 v1 v2 v3 ∧ Spec Tryz.prog etalonref01_Hull_s ⟨[x0, x1, x2, x3, x4, x5], [], []⟩ [v0, v1, v2, v3] [] [] :=
  Eq.mp (by kernel_rfl) (exV_of (K := fun d => app3 etalonref01_Hull_s.out R d ∧ Spec Tryz.prog etalonref01_Hull_s ⟨[x0, x1, x2, x3, x4, x5], [], []⟩ d.1 d.2.1 d.2.2) (tree_at mixed names S1_ok (S := S1 Tryz.prog) (lf := 100000) (d := 60) etalonref01_Hull_s rhu_t { ivs := [(0, (-67108864), 67108864), (1, (-67108864), 67108864), (2, 0, 67108864), (3, (-67108864), 67108864), (4, (-67108864), 67108864), (5, 0, 67108864)], aivs := [] } ⟨[x0, x1, x2, x3, x4, x5], [], []⟩ rfl (by kernel_rfl) (by kernel_rfl) (by kernel_rfl) ⟨(fc r0 (fc r1 (fc r2 (fc r3 (fc r4 (fc r5 fz)))))), fz, fz, fz⟩ (R := fun d => app3 etalonref01_Hull_s.out R d) (Eq.mp (by kernel_rfl) H)))

def rco_t : Tr :=
  (.ret ⟨[], [(.icmp .leq (.bin .addI (.bin .mulI (.bin .subI (.var 0) (.var 3)) (.bin .subI (.var 0) (.var 3))) (.bin .mulI (.bin .subI (.var 1) (.var 4)) (.bin .subI (.var 1) (.var 4)))) (.bin .mulI (.var 2) (.var 2)))], []⟩ [])
theorem rco {x0 x1 x2 x3 x4 : Int} (r0 : (-67108864) ≤ x0 ∧ x0 ≤ 67108864) (r1 : (-67108864) ≤ x1 ∧ x1 ≤ 67108864) (r2 : 0 ≤ x2 ∧ x2 ≤ 67108864) (r3 : (-134217728) ≤ x3 ∧ x3 ≤ 134217728) (r4 : (-134217728) ≤ x4 ∧ x4 ≤ 134217728) {R : Bool → Prop}
  (H : R (decide (((((x0 - x3) * (x0 - x3)) + ((x1 - x4) * (x1 - x4))) : Int) ≤ (x2 * x2)))) :
    ∃ u0 : Bool, R u0 ∧ Spec Tryz.prog etalonref01_Contains_s ⟨[x0, x1, x2, x3, x4], [], []⟩ [] [u0] [] :=
  Eq.mp (by kernel_rfl) (exV_of (K := fun d => app3 etalonref01_Contains_s.out R d ∧ Spec Tryz.prog etalonref01_Contains_s ⟨[x0, x1, x2, x3, x4], [], []⟩ d.1 d.2.1 d.2.2) (tree_at mixed names S1_ok (S := S1 Tryz.prog) (lf := 100000) (d := 60) etalonref01_Contains_s rco_t { ivs := [(0, (-67108864), 67108864), (1, (-67108864), 67108864), (2, 0, 67108864), (3, (-134217728), 134217728), (4, (-134217728), 134217728)], aivs := [] } ⟨[x0, x1, x2, x3, x4], [], []⟩ rfl (by kernel_rfl) (by kernel_rfl) (by kernel_rfl) ⟨(fc r0 (fc r1 (fc r2 (fc r3 (fc r4 fz))))), fz, fz, fz⟩ (R := fun d => app3 etalonref01_Contains_s.out R d) (Eq.mp (by kernel_rfl) H)))

def rme_t : Tr :=
  (.ret ⟨[], [(.icmp .leq (.bin .addI (.bin .mulI (.bin .subI (.var 0) (.var 3)) (.bin .subI (.var 0) (.var 3))) (.bin .mulI (.bin .subI (.var 1) (.var 4)) (.bin .subI (.var 1) (.var 4)))) (.bin .mulI (.bin .addI (.var 2) (.var 5)) (.bin .addI (.var 2) (.var 5))))], []⟩ [])
theorem rme {x0 x1 x2 x3 x4 x5 : Int} (r0 : (-67108864) ≤ x0 ∧ x0 ≤ 67108864) (r1 : (-67108864) ≤ x1 ∧ x1 ≤ 67108864) (r2 : 0 ≤ x2 ∧ x2 ≤ 67108864) (r3 : (-67108864) ≤ x3 ∧ x3 ≤ 67108864) (r4 : (-67108864) ≤ x4 ∧ x4 ≤ 67108864) (r5 : 0 ≤ x5 ∧ x5 ≤ 67108864) {R : Bool → Prop}
  (H : R (decide (((((x0 - x3) * (x0 - x3)) + ((x1 - x4) * (x1 - x4))) : Int) ≤ ((x2 + x5) * (x2 + x5))))) :
    ∃ u0 : Bool, R u0 ∧ Spec Tryz.prog etalonref01_Meets_s ⟨[x0, x1, x2, x3, x4, x5], [], []⟩ [] [u0] [] :=
  Eq.mp (by kernel_rfl) (exV_of (K := fun d => app3 etalonref01_Meets_s.out R d ∧ Spec Tryz.prog etalonref01_Meets_s ⟨[x0, x1, x2, x3, x4, x5], [], []⟩ d.1 d.2.1 d.2.2) (tree_at mixed names S1_ok (S := S1 Tryz.prog) (lf := 100000) (d := 60) etalonref01_Meets_s rme_t { ivs := [(0, (-67108864), 67108864), (1, (-67108864), 67108864), (2, 0, 67108864), (3, (-67108864), 67108864), (4, (-67108864), 67108864), (5, 0, 67108864)], aivs := [] } ⟨[x0, x1, x2, x3, x4, x5], [], []⟩ rfl (by kernel_rfl) (by kernel_rfl) (by kernel_rfl) ⟨(fc r0 (fc r1 (fc r2 (fc r3 (fc r4 (fc r5 fz)))))), fz, fz, fz⟩ (R := fun d => app3 etalonref01_Meets_s.out R d) (Eq.mp (by kernel_rfl) H)))

def rin_t : Tr :=
  (.ite (.icmp .leq (.var 2) (.var 5))
  (.ret ⟨[], [(.icmp .leq (.bin .addI (.bin .mulI (.bin .subI (.var 0) (.var 3)) (.bin .subI (.var 0) (.var 3))) (.bin .mulI (.bin .subI (.var 1) (.var 4)) (.bin .subI (.var 1) (.var 4)))) (.bin .mulI (.bin .subI (.var 5) (.var 2)) (.bin .subI (.var 5) (.var 2))))], []⟩ [])
  (.ret ⟨[], [(.lit false)], []⟩ []))
theorem rin {x0 x1 x2 x3 x4 x5 : Int} (r0 : (-67108864) ≤ x0 ∧ x0 ≤ 67108864) (r1 : (-67108864) ≤ x1 ∧ x1 ≤ 67108864) (r2 : 0 ≤ x2 ∧ x2 ≤ 67108864) (r3 : (-67108864) ≤ x3 ∧ x3 ≤ 67108864) (r4 : (-67108864) ≤ x4 ∧ x4 ≤ 67108864) (r5 : 0 ≤ x5 ∧ x5 ≤ 67108864) {R : Bool → Prop}
  (H : ((decide ((x2 : Int) ≤ x5) = true → R (decide (((((x0 - x3) * (x0 - x3)) + ((x1 - x4) * (x1 - x4))) : Int) ≤ ((x5 - x2) * (x5 - x2))))) ∧
   (decide ((x2 : Int) ≤ x5) = false → R (false)))) :
    ∃ u0 : Bool, R u0 ∧ Spec Tryz.prog etalonref01_Inside_s ⟨[x0, x1, x2, x3, x4, x5], [], []⟩ [] [u0] [] :=
  Eq.mp (by kernel_rfl) (exV_of (K := fun d => app3 etalonref01_Inside_s.out R d ∧ Spec Tryz.prog etalonref01_Inside_s ⟨[x0, x1, x2, x3, x4, x5], [], []⟩ d.1 d.2.1 d.2.2) (tree_at mixed names S1_ok (S := S1 Tryz.prog) (lf := 100000) (d := 60) etalonref01_Inside_s rin_t { ivs := [(0, (-67108864), 67108864), (1, (-67108864), 67108864), (2, 0, 67108864), (3, (-67108864), 67108864), (4, (-67108864), 67108864), (5, 0, 67108864)], aivs := [] } ⟨[x0, x1, x2, x3, x4, x5], [], []⟩ rfl (by kernel_rfl) (by kernel_rfl) (by kernel_rfl) ⟨(fc r0 (fc r1 (fc r2 (fc r3 (fc r4 (fc r5 fz)))))), fz, fz, fz⟩ (R := fun d => app3 etalonref01_Inside_s.out R d) (Eq.mp (by kernel_rfl) H)))

end Go.Proofs.YtgdhpgjfebinhaaGreat.Ev
