/- Contains and meets of the program; sums and powers of unit numbers. -/
import Derived.Test.YtgdhpgjfebinhaaFbq
import Derived.Test.YtgdhpgjfebinhaaFbo
namespace Go.Proofs.Ytgdhpgjfebinhaa.Ev
set_option linter.unusedSimpArgs false
open Go Go.RowKit
set_option linter.unusedVariables false
set_option maxRecDepth 100000
def ball_Contains_s : Sig := ⟨61, ⟨5, 0, 0⟩, ⟨1, 1, 0⟩, [(.agg [(.complex .f64 (.var 0) (.var 1)), (.int .i64 (.var 2))]), (.complex .f64 (.var 3) (.var 4))], [], (.tuple [(.bool (.var 0)), (.int .i64 (.var 5))]), []⟩
def ball_Meets_s : Sig := ⟨53, ⟨6, 0, 0⟩, ⟨1, 1, 0⟩, [(.agg [(.complex .f64 (.var 0) (.var 1)), (.int .i64 (.var 2))]), (.agg [(.complex .f64 (.var 3) (.var 4)), (.int .i64 (.var 5))])], [], (.tuple [(.bool (.var 0)), (.int .i64 (.var 6))]), []⟩
def etalontop_balled_s : Sig := ⟨58, ⟨0, 0, 0⟩, ⟨0, 1, 0⟩, [], [], (.bool (.var 0)), []⟩
def etalontop_TopUnitRoots_s : Sig := ⟨15, ⟨2, 0, 0⟩, ⟨0, 1, 0⟩, [(.int .i64 (.var 0)), (.int .i64 (.var 1))], [], (.bool (.var 0)), []⟩

def co_t : Tr :=
  (.whole 0 67108864 (.rng 5 (-67108864) 67108864 (.whole 1 67108864 (.rng 6 (-67108864) 67108864 (.whole 3 67108864 (.rng 7 (-67108864) 67108864 (.whole 4 67108864 (.rng 8 (-67108864) 67108864 (.ret ⟨[(.lit 0)], [(.icmp .leq (.bin .addI (.bin .mulI (.bin .subI (.var 5) (.var 7)) (.bin .subI (.var 5) (.var 7))) (.bin .mulI (.bin .subI (.var 6) (.var 8)) (.bin .subI (.var 6) (.var 8)))) (.bin .mulI (.var 2) (.var 2)))], []⟩ [])))))))))
theorem co {x0 x1 x2 x3 x4 : Int} (r2 : 0 ≤ x2 ∧ x2 ≤ 67108864) {R : Int → Bool → Prop}
  (H : (∃ v5 : Int, (Rp (x0 : Int).toNat v5 ∧ v5.natAbs ≤ 67108864) ∧ (((-67108864) ≤ (v5 : Int) ∧ (v5 : Int) ≤ 67108864) ∧ (∃ v6 : Int, (Rp (x1 : Int).toNat v6 ∧ v6.natAbs ≤ 67108864) ∧ (((-67108864) ≤ (v6 : Int) ∧ (v6 : Int) ≤ 67108864) ∧ (∃ v7 : Int, (Rp (x3 : Int).toNat v7 ∧ v7.natAbs ≤ 67108864) ∧ (((-67108864) ≤ (v7 : Int) ∧ (v7 : Int) ≤ 67108864) ∧ (∃ v8 : Int, (Rp (x4 : Int).toNat v8 ∧ v8.natAbs ≤ 67108864) ∧ (((-67108864) ≤ (v8 : Int) ∧ (v8 : Int) ≤ 67108864) ∧ R (0) (decide (((((v5 - v7) * (v5 - v7)) + ((v6 - v8) * (v6 - v8))) : Int) ≤ (x2 * x2)))))))))))) :
    ∃ v0 : Int, ∃ u0 : Bool, R v0 u0 ∧ Spec Try.prog ball_Contains_s ⟨[x0, x1, x2, x3, x4], [], []⟩ [v0] [u0] [] :=
  Eq.mp (by kernel_rfl) (exV_of (K := fun d => app3 ball_Contains_s.out R d ∧ Spec Try.prog ball_Contains_s ⟨[x0, x1, x2, x3, x4], [], []⟩ d.1 d.2.1 d.2.2) (tree_at mixed names S1_ok (S := S1 Try.prog) (lf := 100000) (d := 60) ball_Contains_s co_t { ivs := [(2, 0, 67108864)], aivs := [] } ⟨[x0, x1, x2, x3, x4], [], []⟩ rfl (by kernel_rfl) (by kernel_rfl) (by kernel_rfl) ⟨(fc r2 fz), fz, fz, fz⟩ (R := fun d => app3 ball_Contains_s.out R d) (Eq.mp (by kernel_rfl) H)))

def meu_t : Tr :=
  (.whole 0 67108864 (.rng 6 (-67108864) 67108864 (.whole 1 67108864 (.rng 7 (-67108864) 67108864 (.whole 3 67108864 (.rng 8 (-67108864) 67108864 (.whole 4 67108864 (.rng 9 (-67108864) 67108864 (.ret ⟨[(.lit 0)], [(.icmp .leq (.bin .addI (.bin .mulI (.bin .subI (.var 6) (.var 8)) (.bin .subI (.var 6) (.var 8))) (.bin .mulI (.bin .subI (.var 7) (.var 9)) (.bin .subI (.var 7) (.var 9)))) (.bin .mulI (.bin .addI (.var 2) (.var 5)) (.bin .addI (.var 2) (.var 5))))], []⟩ [])))))))))
theorem meu {x0 x1 x2 x3 x4 x5 : Int} (r2 : 0 ≤ x2 ∧ x2 ≤ 67108864) (r5 : 0 ≤ x5 ∧ x5 ≤ 67108864) {R : Int → Bool → Prop}
  (H : (∃ v6 : Int, (Rp (x0 : Int).toNat v6 ∧ v6.natAbs ≤ 67108864) ∧ (((-67108864) ≤ (v6 : Int) ∧ (v6 : Int) ≤ 67108864) ∧ (∃ v7 : Int, (Rp (x1 : Int).toNat v7 ∧ v7.natAbs ≤ 67108864) ∧ (((-67108864) ≤ (v7 : Int) ∧ (v7 : Int) ≤ 67108864) ∧ (∃ v8 : Int, (Rp (x3 : Int).toNat v8 ∧ v8.natAbs ≤ 67108864) ∧ (((-67108864) ≤ (v8 : Int) ∧ (v8 : Int) ≤ 67108864) ∧ (∃ v9 : Int, (Rp (x4 : Int).toNat v9 ∧ v9.natAbs ≤ 67108864) ∧ (((-67108864) ≤ (v9 : Int) ∧ (v9 : Int) ≤ 67108864) ∧ R (0) (decide (((((v6 - v8) * (v6 - v8)) + ((v7 - v9) * (v7 - v9))) : Int) ≤ ((x2 + x5) * (x2 + x5))))))))))))) :
    ∃ v0 : Int, ∃ u0 : Bool, R v0 u0 ∧ Spec Try.prog ball_Meets_s ⟨[x0, x1, x2, x3, x4, x5], [], []⟩ [v0] [u0] [] :=
  Eq.mp (by kernel_rfl) (exV_of (K := fun d => app3 ball_Meets_s.out R d ∧ Spec Try.prog ball_Meets_s ⟨[x0, x1, x2, x3, x4, x5], [], []⟩ d.1 d.2.1 d.2.2) (tree_at mixed names S1_ok (S := S1 Try.prog) (lf := 100000) (d := 60) ball_Meets_s meu_t { ivs := [(2, 0, 67108864), (5, 0, 67108864)], aivs := [] } ⟨[x0, x1, x2, x3, x4, x5], [], []⟩ rfl (by kernel_rfl) (by kernel_rfl) (by kernel_rfl) ⟨(fc r2 (fc r5 fz)), fz, fz, fz⟩ (R := fun d => app3 ball_Meets_s.out R d) (Eq.mp (by kernel_rfl) H)))

def bld_t : Tr :=
  (.ret ⟨[], [(.lit true)], []⟩ [])
theorem bld {R : Bool → Prop}
  (H : R (true)) :
    ∃ u0 : Bool, R u0 ∧ Spec Try.prog etalontop_balled_s ⟨[], [], []⟩ [] [u0] [] :=
  Eq.mp (by kernel_rfl) (exV_of (K := fun d => app3 etalontop_balled_s.out R d ∧ Spec Try.prog etalontop_balled_s ⟨[], [], []⟩ d.1 d.2.1 d.2.2) (tree_at mixed names S1_ok (S := S1 Try.prog) (lf := 100000) (d := 60) etalontop_balled_s bld_t { ivs := [], aivs := [] } ⟨[], [], []⟩ rfl (by kernel_rfl) (by kernel_rfl) (by kernel_rfl) ⟨fz, fz, fz, fz⟩ (R := fun d => app3 etalontop_balled_s.out R d) (Eq.mp (by kernel_rfl) H)))

def tur_t : Tr :=
  (.call etalontop_balled_s ⟨[], [], []⟩ ⟨[], [(.var 0)], []⟩ ⟨58, [], [], [], (.bool (.var 0)), []⟩
  (.ite (.var 0)
  (.ite (.icmp .leq (.lit 2) (.var 0))
   (.ite (.icmp .leq (.var 0) (.lit 40))
    (.ite (.icmp .leq (.lit 0) (.var 1))
     (.ite (.icmp .leq (.var 1) (.bin .subI (.var 0) (.lit 1)))
      (.loop ⟨15, [0, 1, 0, 1, 1, 1, 1], [(.int .i64 (.var 0)), (.int .i64 (.var 1)), (.tuple []), (.tuple []), (.bool (.lit false)), (.ptr (some ⟨0, 0, none⟩)), (.int .i64 (.lit 0)), (.tuple []), (.tuple []), (.tuple []), (.tuple []), (.tuple []), (.tuple []), (.tuple []), (.tuple []), (.tuple []), (.tuple []), (.tuple []), (.tuple []), (.tuple []), (.tuple []), (.tuple []), (.tuple []), (.bool (.var 0)), (.bool (.not (.var 0))), (.int .i64 (.var 0)), (.bool (.icmp .leq (.var 0) (.lit 40))), (.bool (.not (.icmp .leq (.var 0) (.lit 40)))), (.bool (.not (.icmp .leq (.var 0) (.lit 40)))), (.int .i64 (.var 1)), (.int .i64 (.var 0)), (.int .i64 (.bin .subI (.var 0) (.lit 1))), (.bool (.icmp .leq (.var 1) (.bin .subI (.var 0) (.lit 1)))), (.bool (.not (.icmp .leq (.var 1) (.bin .subI (.var 0) (.lit 1))))), (.bool (.not (.icmp .leq (.var 1) (.bin .subI (.var 0) (.lit 1))))), (.agg [(.complex .f64 (.lit 0) (.lit 0)), (.int .i64 (.lit 0))]), (.tuple []), (.tuple []), (.tuple []), (.tuple []), (.tuple []), (.tuple []), (.tuple []), (.tuple []), (.tuple []), (.tuple []), (.tuple []), (.tuple []), (.tuple []), (.tuple []), (.tuple []), (.tuple []), (.tuple []), (.tuple []), (.tuple []), (.tuple []), (.tuple []), (.tuple []), (.tuple []), (.tuple []), (.tuple []), (.tuple []), (.tuple []), (.tuple []), (.tuple []), (.tuple []), (.tuple []), (.tuple []), (.tuple []), (.tuple []), (.tuple []), (.tuple []), (.tuple []), (.tuple []), (.tuple []), (.tuple []), (.tuple []), (.tuple []), (.tuple []), (.tuple []), (.tuple []), (.tuple []), (.tuple []), (.tuple []), (.tuple []), (.tuple []), (.tuple []), (.tuple []), (.tuple []), (.tuple []), (.tuple []), (.tuple []), (.tuple []), (.tuple []), (.tuple []), (.tuple []), (.tuple []), (.tuple []), (.tuple []), (.tuple []), (.tuple []), (.tuple []), (.tuple []), (.tuple []), (.tuple []), (.tuple []), (.tuple []), (.tuple []), (.tuple []), (.tuple []), (.tuple []), (.tuple []), (.tuple []), (.tuple []), (.tuple []), (.tuple []), (.tuple []), (.tuple []), (.tuple []), (.tuple []), (.tuple []), (.tuple []), (.tuple []), (.tuple []), (.tuple []), (.tuple []), (.tuple []), (.tuple []), (.tuple []), (.tuple []), (.tuple []), (.tuple []), (.tuple []), (.tuple []), (.tuple []), (.tuple []), (.tuple []), (.tuple []), (.tuple []), (.tuple []), (.tuple []), (.tuple []), (.tuple [])], [(some ⟨[(.complex .f64 (.lit 0) (.lit 0)), (.int .i64 (.lit 0))], 27, false, false, none⟩)], [], [(.int .i64 (.var 0)), (.int .i64 (.var 1)), (.tuple []), (.tuple []), (.bool (.lit false)), (.ptr (some ⟨0, 0, none⟩)), (.int .i64 (.var 2)), (.any 7), (.any 8), (.tuple []), (.tuple []), (.tuple []), (.tuple []), (.tuple []), (.tuple []), (.tuple []), (.tuple []), (.tuple []), (.tuple []), (.tuple []), (.tuple []), (.tuple []), (.tuple []), (.bool (.var 0)), (.bool (.not (.var 0))), (.int .i64 (.var 0)), (.bool (.icmp .leq (.var 0) (.lit 40))), (.bool (.not (.icmp .leq (.var 0) (.lit 40)))), (.bool (.not (.icmp .leq (.var 0) (.lit 40)))), (.int .i64 (.var 1)), (.int .i64 (.var 0)), (.int .i64 (.bin .subI (.var 0) (.lit 1))), (.bool (.icmp .leq (.var 1) (.bin .subI (.var 0) (.lit 1)))), (.bool (.not (.icmp .leq (.var 1) (.bin .subI (.var 0) (.lit 1))))), (.bool (.not (.icmp .leq (.var 1) (.bin .subI (.var 0) (.lit 1))))), (.agg [(.complex .f64 (.lit 0) (.lit 0)), (.int .i64 (.lit 0))]), (.any 36), (.any 37), (.any 38), (.any 39), (.any 40), (.any 41), (.any 42), (.any 43), (.any 44), (.any 45), (.any 46), (.any 47), (.any 48), (.any 49), (.any 50), (.any 51), (.any 52), (.any 53), (.any 54), (.any 55), (.any 56), (.tuple []), (.tuple []), (.tuple []), (.tuple []), (.tuple []), (.tuple []), (.tuple []), (.tuple []), (.tuple []), (.tuple []), (.tuple []), (.tuple []), (.tuple []), (.tuple []), (.tuple []), (.tuple []), (.tuple []), (.tuple []), (.tuple []), (.tuple []), (.tuple []), (.tuple []), (.tuple []), (.tuple []), (.tuple []), (.tuple []), (.tuple []), (.tuple []), (.tuple []), (.tuple []), (.tuple []), (.tuple []), (.tuple []), (.tuple []), (.tuple []), (.tuple []), (.tuple []), (.tuple []), (.tuple []), (.tuple []), (.tuple []), (.tuple []), (.tuple []), (.tuple []), (.tuple []), (.tuple []), (.tuple []), (.tuple []), (.tuple []), (.tuple []), (.tuple []), (.tuple []), (.tuple []), (.tuple []), (.tuple []), (.tuple []), (.tuple []), (.tuple []), (.tuple []), (.tuple []), (.tuple []), (.tuple []), (.tuple []), (.tuple []), (.tuple []), (.tuple []), (.tuple []), (.tuple []), (.tuple []), (.tuple []), (.tuple []), (.tuple []), (.tuple []), (.tuple []), (.tuple []), (.tuple []), (.tuple []), (.tuple []), (.tuple []), (.tuple []), (.tuple []), (.tuple []), (.tuple []), (.tuple []), (.tuple []), (.tuple [])], [(some ⟨[(.complex .f64 (.var 3) (.var 4)), (.int .i64 (.var 5))], 27, false, false, none⟩)], [0], ⟨4, 0, 0⟩, ⟨[(.lit 0), (.lit 0), (.lit 0), (.lit 0)], [], []⟩, []⟩
       (.rng 2 (-9223372036854775808) 9223372036854775807 (.rng 5 (-9223372036854775808) 9223372036854775807 (.ite (.icmp .leq (.var 0) (.var 2))
        (.out 1 ⟨[(.var 3), (.var 4), (.var 5)], [], []⟩ [])
        (.call ball_Unit_s ⟨[(.var 2), (.var 0)], [], []⟩ ⟨[(.var 2), (.var 0), (.var 6), (.var 7), (.var 8), (.var 9)], [], []⟩ ⟨50, [(.int .i64 (.var 2)), (.int .i64 (.var 0))], [], [none], (.tuple [(.agg [(.complex .f64 (.var 6) (.var 7)), (.int .i64 (.var 8))]), (.int .i64 (.var 9))]), []⟩
         (.ite (.icmp .eql (.var 9) (.lit 0))
         (.call ball_Plus_s ⟨[(.var 3), (.var 4), (.var 5), (.var 6), (.var 7), (.var 8)], [], []⟩ ⟨[(.var 3), (.var 4), (.var 5), (.var 6), (.var 7), (.var 8), (.var 10), (.var 11), (.var 12), (.var 13)], [], []⟩ ⟨23, [(.agg [(.complex .f64 (.var 3) (.var 4)), (.int .i64 (.var 5))]), (.agg [(.complex .f64 (.var 6) (.var 7)), (.int .i64 (.var 8))])], [], [none, none], (.tuple [(.agg [(.complex .f64 (.var 10) (.var 11)), (.int .i64 (.var 12))]), (.int .i64 (.var 13))]), []⟩
          (.whole 10 67108864 (.rng 14 (-67108864) 67108864 (.whole 11 67108864 (.rng 15 (-67108864) 67108864 (.ite (.icmp .eql (.var 13) (.lit 0))
          (.next ⟨[(.bin (.addW .i64) (.var 2) (.lit 1)), (.var 10), (.var 11), (.var 12)], [], []⟩ [])
          (.out 0 ⟨[(.var 10), (.var 11), (.var 12)], [], []⟩ [])))))))
         (.out 0 ⟨[(.var 3), (.var 4), (.var 5)], [], []⟩ []))))))
       (.ex (.ret, [(.int .i64 (.var 0)), (.int .i64 (.var 1)), (.tuple []), (.tuple []), (.bool (.lit false)), (.ptr (some ⟨0, 0, none⟩)), (.any 6), (.any 7), (.any 8), (.tuple []), (.tuple []), (.tuple []), (.tuple []), (.tuple []), (.tuple []), (.tuple []), (.tuple []), (.tuple []), (.tuple []), (.tuple []), (.tuple []), (.tuple []), (.tuple []), (.bool (.var 0)), (.bool (.not (.var 0))), (.int .i64 (.var 0)), (.bool (.icmp .leq (.var 0) (.lit 40))), (.bool (.not (.icmp .leq (.var 0) (.lit 40)))), (.bool (.not (.icmp .leq (.var 0) (.lit 40)))), (.int .i64 (.var 1)), (.int .i64 (.var 0)), (.int .i64 (.bin .subI (.var 0) (.lit 1))), (.bool (.icmp .leq (.var 1) (.bin .subI (.var 0) (.lit 1)))), (.bool (.not (.icmp .leq (.var 1) (.bin .subI (.var 0) (.lit 1))))), (.bool (.not (.icmp .leq (.var 1) (.bin .subI (.var 0) (.lit 1))))), (.agg [(.complex .f64 (.lit 0) (.lit 0)), (.int .i64 (.lit 0))]), (.any 36), (.any 37), (.any 38), (.any 39), (.any 40), (.any 41), (.any 42), (.any 43), (.any 44), (.any 45), (.any 46), (.any 47), (.any 48), (.any 49), (.any 50), (.any 51), (.any 52), (.any 53), (.any 54), (.any 55), (.any 56), (.tuple []), (.tuple []), (.tuple []), (.tuple []), (.tuple []), (.tuple []), (.tuple []), (.tuple []), (.tuple []), (.tuple []), (.tuple []), (.tuple []), (.tuple []), (.tuple []), (.tuple []), (.tuple []), (.tuple []), (.tuple []), (.tuple []), (.tuple []), (.tuple []), (.tuple []), (.tuple []), (.tuple []), (.tuple []), (.tuple []), (.tuple []), (.tuple []), (.tuple []), (.tuple []), (.tuple []), (.tuple []), (.tuple []), (.tuple []), (.tuple []), (.tuple []), (.tuple []), (.tuple []), (.tuple []), (.tuple []), (.tuple []), (.tuple []), (.tuple []), (.tuple []), (.tuple []), (.tuple []), (.tuple []), (.tuple []), (.tuple []), (.tuple []), (.tuple []), (.tuple []), (.tuple []), (.tuple []), (.tuple []), (.tuple []), (.tuple []), (.tuple []), (.tuple []), (.tuple []), (.tuple []), (.tuple []), (.tuple []), (.tuple []), (.tuple []), (.tuple []), (.tuple []), (.tuple []), (.tuple []), (.tuple []), (.tuple []), (.tuple []), (.tuple []), (.tuple []), (.tuple []), (.tuple []), (.tuple []), (.tuple []), (.tuple []), (.tuple []), (.tuple []), (.tuple []), (.tuple []), (.tuple []), (.tuple []), (.tuple [])], [(some ⟨[(.complex .f64 (.var 2) (.var 3)), (.int .i64 (.var 4))], 27, false, false, none⟩)], [0]) ⟨3, 0, 0⟩
       (.rng 4 (-9223372036854775808) 9223372036854775807 (.ret ⟨[], [(.lit false)], []⟩ []))
       (.ex ((.exit 0), [(.int .i64 (.var 0)), (.int .i64 (.var 1)), (.tuple []), (.tuple []), (.bool (.lit false)), (.ptr (some ⟨0, 0, none⟩)), (.any 6), (.any 7), (.any 8), (.tuple []), (.tuple []), (.tuple []), (.tuple []), (.tuple []), (.tuple []), (.tuple []), (.tuple []), (.tuple []), (.tuple []), (.tuple []), (.tuple []), (.tuple []), (.tuple []), (.bool (.var 0)), (.bool (.not (.var 0))), (.int .i64 (.var 0)), (.bool (.icmp .leq (.var 0) (.lit 40))), (.bool (.not (.icmp .leq (.var 0) (.lit 40)))), (.bool (.not (.icmp .leq (.var 0) (.lit 40)))), (.int .i64 (.var 1)), (.int .i64 (.var 0)), (.int .i64 (.bin .subI (.var 0) (.lit 1))), (.bool (.icmp .leq (.var 1) (.bin .subI (.var 0) (.lit 1)))), (.bool (.not (.icmp .leq (.var 1) (.bin .subI (.var 0) (.lit 1))))), (.bool (.not (.icmp .leq (.var 1) (.bin .subI (.var 0) (.lit 1))))), (.agg [(.complex .f64 (.lit 0) (.lit 0)), (.int .i64 (.lit 0))]), (.any 36), (.any 37), (.any 38), (.any 39), (.any 40), (.any 41), (.any 42), (.any 43), (.any 44), (.any 45), (.any 46), (.any 47), (.any 48), (.any 49), (.any 50), (.any 51), (.any 52), (.any 53), (.any 54), (.any 55), (.any 56), (.tuple []), (.tuple []), (.tuple []), (.tuple []), (.tuple []), (.tuple []), (.tuple []), (.tuple []), (.tuple []), (.tuple []), (.tuple []), (.tuple []), (.tuple []), (.tuple []), (.tuple []), (.tuple []), (.tuple []), (.tuple []), (.tuple []), (.tuple []), (.tuple []), (.tuple []), (.tuple []), (.tuple []), (.tuple []), (.tuple []), (.tuple []), (.tuple []), (.tuple []), (.tuple []), (.tuple []), (.tuple []), (.tuple []), (.tuple []), (.tuple []), (.tuple []), (.tuple []), (.tuple []), (.tuple []), (.tuple []), (.tuple []), (.tuple []), (.tuple []), (.tuple []), (.tuple []), (.tuple []), (.tuple []), (.tuple []), (.tuple []), (.tuple []), (.tuple []), (.tuple []), (.tuple []), (.tuple []), (.tuple []), (.tuple []), (.tuple []), (.tuple []), (.tuple []), (.tuple []), (.tuple []), (.tuple []), (.tuple []), (.tuple []), (.tuple []), (.tuple []), (.tuple []), (.tuple []), (.tuple []), (.tuple []), (.tuple []), (.tuple []), (.tuple []), (.tuple []), (.tuple []), (.tuple []), (.tuple []), (.tuple []), (.tuple []), (.tuple []), (.tuple []), (.tuple []), (.tuple []), (.tuple []), (.tuple []), (.tuple [])], [(some ⟨[(.complex .f64 (.var 2) (.var 3)), (.int .i64 (.var 4))], 27, false, false, none⟩)], [0]) ⟨3, 0, 0⟩
       (.rng 4 (-9223372036854775808) 9223372036854775807 (.call ball_Contains_s ⟨[(.var 2), (.var 3), (.var 4), (.toF .f64 (.lit 0)), (.toF .f64 (.lit 0))], [], []⟩ ⟨[(.var 2), (.var 3), (.var 4), (.toF .f64 (.lit 0)), (.toF .f64 (.lit 0)), (.var 5)], [(.var 1)], []⟩ ⟨61, [(.agg [(.complex .f64 (.var 2) (.var 3)), (.int .i64 (.var 4))]), (.complex .f64 (.toF .f64 (.lit 0)) (.toF .f64 (.lit 0)))], [], [none], (.tuple [(.bool (.var 1)), (.int .i64 (.var 5))]), []⟩
        (.ite (.icmp .eql (.var 5) (.lit 0))
        (.ite (.var 1)
         (.call ball_Unit_s ⟨[(.var 1), (.var 0)], [], []⟩ ⟨[(.var 1), (.var 0), (.var 6), (.var 7), (.var 8), (.var 9)], [], []⟩ ⟨50, [(.int .i64 (.var 1)), (.int .i64 (.var 0))], [], [none], (.tuple [(.agg [(.complex .f64 (.var 6) (.var 7)), (.int .i64 (.var 8))]), (.int .i64 (.var 9))]), []⟩
          (.loop ⟨15, [0, 1, 0, 1, 1, 1, 1, 1, 1, 1, 1, 1], [(.int .i64 (.var 0)), (.int .i64 (.var 1)), (.tuple []), (.tuple []), (.bool (.lit false)), (.ptr (some ⟨0, 0, none⟩)), (.any 6), (.any 7), (.any 8), (.bool (.var 1)), (.int .i64 (.var 5)), (.ptr (some ⟨1, 0, none⟩)), (.int .i64 (.var 9)), (.ptr (some ⟨2, 0, none⟩)), (.int .i64 (.lit 0)), (.tuple []), (.tuple []), (.tuple []), (.tuple []), (.tuple []), (.tuple []), (.tuple []), (.tuple []), (.bool (.var 0)), (.bool (.not (.var 0))), (.int .i64 (.var 0)), (.bool (.icmp .leq (.var 0) (.lit 40))), (.bool (.not (.icmp .leq (.var 0) (.lit 40)))), (.bool (.not (.icmp .leq (.var 0) (.lit 40)))), (.int .i64 (.var 1)), (.int .i64 (.var 0)), (.int .i64 (.bin .subI (.var 0) (.lit 1))), (.bool (.icmp .leq (.var 1) (.bin .subI (.var 0) (.lit 1)))), (.bool (.not (.icmp .leq (.var 1) (.bin .subI (.var 0) (.lit 1))))), (.bool (.not (.icmp .leq (.var 1) (.bin .subI (.var 0) (.lit 1))))), (.agg [(.complex .f64 (.lit 0) (.lit 0)), (.int .i64 (.lit 0))]), (.any 36), (.any 37), (.any 38), (.any 39), (.any 40), (.any 41), (.any 42), (.any 43), (.any 44), (.any 45), (.any 46), (.any 47), (.any 48), (.any 49), (.any 50), (.any 51), (.any 52), (.any 53), (.any 54), (.any 55), (.any 56), (.tuple [(.bool (.var 1)), (.int .i64 (.var 5))]), (.agg [(.complex .f64 (.var 2) (.var 3)), (.int .i64 (.var 4))]), (.tuple [(.bool (.var 1)), (.int .i64 (.var 5))]), (.bool (.var 1)), (.int .i64 (.var 5)), (.int .i64 (.var 5)), (.bool (.icmp .neq (.var 5) (.lit 0))), (.bool (.icmp .neq (.var 5) (.lit 0))), (.bool (.var 1)), (.bool (.not (.var 1))), (.bool (.not (.var 1))), (.tuple [(.agg [(.complex .f64 (.var 6) (.var 7)), (.int .i64 (.var 8))]), (.int .i64 (.var 9))]), (.int .i64 (.var 1)), (.int .i64 (.var 0)), (.tuple [(.agg [(.complex .f64 (.var 6) (.var 7)), (.int .i64 (.var 8))]), (.int .i64 (.var 9))]), (.agg [(.complex .f64 (.var 6) (.var 7)), (.int .i64 (.var 8))]), (.int .i64 (.var 9)), (.agg [(.complex .f64 (.lit 4697254411347427328) (.lit 0)), (.int .i64 (.lit 0))]), (.tuple []), (.tuple []), (.tuple []), (.tuple []), (.tuple []), (.tuple []), (.tuple []), (.tuple []), (.tuple []), (.tuple []), (.tuple []), (.tuple []), (.tuple []), (.tuple []), (.tuple []), (.tuple []), (.tuple []), (.tuple []), (.tuple []), (.tuple []), (.tuple []), (.tuple []), (.tuple []), (.tuple []), (.tuple []), (.tuple []), (.tuple []), (.tuple []), (.tuple []), (.tuple []), (.tuple []), (.tuple []), (.tuple []), (.tuple []), (.tuple []), (.tuple []), (.tuple []), (.tuple []), (.tuple []), (.tuple []), (.tuple []), (.tuple []), (.tuple []), (.tuple []), (.tuple []), (.tuple []), (.tuple []), (.tuple []), (.tuple []), (.tuple []), (.tuple []), (.tuple []), (.tuple []), (.tuple []), (.tuple []), (.tuple []), (.tuple []), (.tuple []), (.tuple []), (.tuple []), (.tuple []), (.tuple []), (.tuple []), (.tuple []), (.tuple []), (.tuple []), (.tuple []), (.tuple [])], [(some ⟨[(.complex .f64 (.var 2) (.var 3)), (.int .i64 (.var 4))], 27, false, false, none⟩), (some ⟨[(.complex .f64 (.var 6) (.var 7)), (.int .i64 (.var 8))], 27, false, false, none⟩), (some ⟨[(.complex .f64 (.lit 4697254411347427328) (.lit 0)), (.int .i64 (.lit 0))], 27, false, false, none⟩)], [], [(.int .i64 (.var 0)), (.int .i64 (.var 1)), (.tuple []), (.tuple []), (.bool (.lit false)), (.ptr (some ⟨0, 0, none⟩)), (.any 6), (.any 7), (.any 8), (.bool (.var 1)), (.int .i64 (.var 10)), (.ptr (some ⟨1, 0, none⟩)), (.int .i64 (.var 9)), (.ptr (some ⟨2, 0, none⟩)), (.int .i64 (.var 11)), (.tuple []), (.tuple []), (.tuple []), (.tuple []), (.tuple []), (.tuple []), (.tuple []), (.tuple []), (.bool (.var 0)), (.bool (.not (.var 0))), (.int .i64 (.var 0)), (.bool (.icmp .leq (.var 0) (.lit 40))), (.bool (.not (.icmp .leq (.var 0) (.lit 40)))), (.bool (.not (.icmp .leq (.var 0) (.lit 40)))), (.int .i64 (.var 1)), (.int .i64 (.var 0)), (.int .i64 (.bin .subI (.var 0) (.lit 1))), (.bool (.icmp .leq (.var 1) (.bin .subI (.var 0) (.lit 1)))), (.bool (.not (.icmp .leq (.var 1) (.bin .subI (.var 0) (.lit 1))))), (.bool (.not (.icmp .leq (.var 1) (.bin .subI (.var 0) (.lit 1))))), (.agg [(.complex .f64 (.lit 0) (.lit 0)), (.int .i64 (.lit 0))]), (.any 36), (.any 37), (.any 38), (.any 39), (.any 40), (.any 41), (.any 42), (.any 43), (.any 44), (.any 45), (.any 46), (.any 47), (.any 48), (.any 49), (.any 50), (.any 51), (.any 52), (.any 53), (.any 54), (.any 55), (.any 56), (.tuple [(.bool (.var 1)), (.int .i64 (.var 5))]), (.agg [(.complex .f64 (.var 2) (.var 3)), (.int .i64 (.var 4))]), (.tuple [(.bool (.var 1)), (.int .i64 (.var 5))]), (.bool (.var 1)), (.int .i64 (.var 5)), (.int .i64 (.var 5)), (.bool (.icmp .neq (.var 5) (.lit 0))), (.bool (.icmp .neq (.var 5) (.lit 0))), (.bool (.var 1)), (.bool (.not (.var 1))), (.bool (.not (.var 1))), (.tuple [(.agg [(.complex .f64 (.var 6) (.var 7)), (.int .i64 (.var 8))]), (.int .i64 (.var 9))]), (.int .i64 (.var 1)), (.int .i64 (.var 0)), (.tuple [(.agg [(.complex .f64 (.var 6) (.var 7)), (.int .i64 (.var 8))]), (.int .i64 (.var 9))]), (.agg [(.complex .f64 (.var 6) (.var 7)), (.int .i64 (.var 8))]), (.int .i64 (.var 9)), (.agg [(.complex .f64 (.lit 4697254411347427328) (.lit 0)), (.int .i64 (.lit 0))]), (.any 75), (.any 76), (.any 77), (.any 78), (.any 79), (.any 80), (.any 81), (.any 82), (.any 83), (.any 84), (.any 85), (.any 86), (.any 87), (.tuple []), (.tuple []), (.tuple []), (.tuple []), (.tuple []), (.tuple []), (.tuple []), (.tuple []), (.tuple []), (.tuple []), (.tuple []), (.tuple []), (.tuple []), (.tuple []), (.tuple []), (.tuple []), (.tuple []), (.tuple []), (.tuple []), (.tuple []), (.tuple []), (.tuple []), (.tuple []), (.tuple []), (.tuple []), (.tuple []), (.tuple []), (.tuple []), (.tuple []), (.tuple []), (.tuple []), (.tuple []), (.tuple []), (.tuple []), (.tuple []), (.tuple []), (.tuple []), (.tuple []), (.tuple []), (.tuple []), (.tuple []), (.tuple []), (.tuple []), (.tuple []), (.tuple []), (.tuple []), (.tuple []), (.tuple []), (.tuple []), (.tuple []), (.tuple []), (.tuple []), (.tuple []), (.tuple []), (.tuple [])], [(some ⟨[(.complex .f64 (.var 2) (.var 3)), (.int .i64 (.var 4))], 27, false, false, none⟩), (some ⟨[(.complex .f64 (.var 6) (.var 7)), (.int .i64 (.var 8))], 27, false, false, none⟩), (some ⟨[(.complex .f64 (.var 12) (.var 13)), (.int .i64 (.var 14))], 27, false, false, none⟩)], [2], ⟨5, 0, 0⟩, ⟨[(.var 5), (.lit 0), (.lit 4697254411347427328), (.lit 0), (.lit 0)], [], []⟩, []⟩
          (.rng 10 (-9223372036854775808) 9223372036854775807 (.rng 11 (-9223372036854775808) 9223372036854775807 (.rng 14 (-9223372036854775808) 9223372036854775807 (.ite (.icmp .leq (.var 0) (.var 11))
           (.out 1 ⟨[(.var 10), (.var 12), (.var 13), (.var 14)], [], []⟩ [])
           (.call ball_Times_s ⟨[(.var 12), (.var 13), (.var 14), (.var 6), (.var 7), (.var 8)], [], []⟩ ⟨[(.var 12), (.var 13), (.var 14), (.var 6), (.var 7), (.var 8), (.var 15), (.var 16), (.var 17), (.var 18)], [], []⟩ ⟨36, [(.agg [(.complex .f64 (.var 12) (.var 13)), (.int .i64 (.var 14))]), (.agg [(.complex .f64 (.var 6) (.var 7)), (.int .i64 (.var 8))])], [], [none, none, none], (.tuple [(.agg [(.complex .f64 (.var 15) (.var 16)), (.int .i64 (.var 17))]), (.int .i64 (.var 18))]), []⟩
            (.ite (.icmp .eql (.var 18) (.lit 0))
            (.next ⟨[(.var 18), (.bin (.addW .i64) (.var 11) (.lit 1)), (.var 15), (.var 16), (.var 17)], [], []⟩ [])
            (.out 0 ⟨[(.var 18), (.var 15), (.var 16), (.var 17)], [], []⟩ [])))))))
          (.ex (.ret, [(.int .i64 (.var 0)), (.int .i64 (.var 1)), (.tuple []), (.tuple []), (.bool (.lit false)), (.ptr (some ⟨0, 0, none⟩)), (.any 6), (.any 7), (.any 8), (.bool (.var 1)), (.int .i64 (.var 10)), (.ptr (some ⟨1, 0, none⟩)), (.int .i64 (.var 9)), (.ptr (some ⟨2, 0, none⟩)), (.any 14), (.tuple []), (.tuple []), (.tuple []), (.tuple []), (.tuple []), (.tuple []), (.tuple []), (.tuple []), (.bool (.var 0)), (.bool (.not (.var 0))), (.int .i64 (.var 0)), (.bool (.icmp .leq (.var 0) (.lit 40))), (.bool (.not (.icmp .leq (.var 0) (.lit 40)))), (.bool (.not (.icmp .leq (.var 0) (.lit 40)))), (.int .i64 (.var 1)), (.int .i64 (.var 0)), (.int .i64 (.bin .subI (.var 0) (.lit 1))), (.bool (.icmp .leq (.var 1) (.bin .subI (.var 0) (.lit 1)))), (.bool (.not (.icmp .leq (.var 1) (.bin .subI (.var 0) (.lit 1))))), (.bool (.not (.icmp .leq (.var 1) (.bin .subI (.var 0) (.lit 1))))), (.agg [(.complex .f64 (.lit 0) (.lit 0)), (.int .i64 (.lit 0))]), (.any 36), (.any 37), (.any 38), (.any 39), (.any 40), (.any 41), (.any 42), (.any 43), (.any 44), (.any 45), (.any 46), (.any 47), (.any 48), (.any 49), (.any 50), (.any 51), (.any 52), (.any 53), (.any 54), (.any 55), (.any 56), (.tuple [(.bool (.var 1)), (.int .i64 (.var 5))]), (.agg [(.complex .f64 (.var 2) (.var 3)), (.int .i64 (.var 4))]), (.tuple [(.bool (.var 1)), (.int .i64 (.var 5))]), (.bool (.var 1)), (.int .i64 (.var 5)), (.int .i64 (.var 5)), (.bool (.icmp .neq (.var 5) (.lit 0))), (.bool (.icmp .neq (.var 5) (.lit 0))), (.bool (.var 1)), (.bool (.not (.var 1))), (.bool (.not (.var 1))), (.tuple [(.agg [(.complex .f64 (.var 6) (.var 7)), (.int .i64 (.var 8))]), (.int .i64 (.var 9))]), (.int .i64 (.var 1)), (.int .i64 (.var 0)), (.tuple [(.agg [(.complex .f64 (.var 6) (.var 7)), (.int .i64 (.var 8))]), (.int .i64 (.var 9))]), (.agg [(.complex .f64 (.var 6) (.var 7)), (.int .i64 (.var 8))]), (.int .i64 (.var 9)), (.agg [(.complex .f64 (.lit 4697254411347427328) (.lit 0)), (.int .i64 (.lit 0))]), (.any 75), (.any 76), (.any 77), (.any 78), (.any 79), (.any 80), (.any 81), (.any 82), (.any 83), (.any 84), (.any 85), (.any 86), (.any 87), (.tuple []), (.tuple []), (.tuple []), (.tuple []), (.tuple []), (.tuple []), (.tuple []), (.tuple []), (.tuple []), (.tuple []), (.tuple []), (.tuple []), (.tuple []), (.tuple []), (.tuple []), (.tuple []), (.tuple []), (.tuple []), (.tuple []), (.tuple []), (.tuple []), (.tuple []), (.tuple []), (.tuple []), (.tuple []), (.tuple []), (.tuple []), (.tuple []), (.tuple []), (.tuple []), (.tuple []), (.tuple []), (.tuple []), (.tuple []), (.tuple []), (.tuple []), (.tuple []), (.tuple []), (.tuple []), (.tuple []), (.tuple []), (.tuple []), (.tuple []), (.tuple []), (.tuple []), (.tuple []), (.tuple []), (.tuple []), (.tuple []), (.tuple []), (.tuple []), (.tuple []), (.tuple []), (.tuple []), (.tuple [])], [(some ⟨[(.complex .f64 (.var 2) (.var 3)), (.int .i64 (.var 4))], 27, false, false, none⟩), (some ⟨[(.complex .f64 (.var 6) (.var 7)), (.int .i64 (.var 8))], 27, false, false, none⟩), (some ⟨[(.complex .f64 (.var 11) (.var 12)), (.int .i64 (.var 13))], 27, false, false, none⟩)], [2]) ⟨4, 0, 0⟩
          (.rng 10 (-9223372036854775808) 9223372036854775807 (.rng 13 (-9223372036854775808) 9223372036854775807 (.ret ⟨[], [(.lit false)], []⟩ [])))
          (.ex ((.exit 2), [(.int .i64 (.var 0)), (.int .i64 (.var 1)), (.tuple []), (.tuple []), (.bool (.lit false)), (.ptr (some ⟨0, 0, none⟩)), (.any 6), (.any 7), (.any 8), (.bool (.var 1)), (.int .i64 (.var 10)), (.ptr (some ⟨1, 0, none⟩)), (.int .i64 (.var 9)), (.ptr (some ⟨2, 0, none⟩)), (.any 14), (.tuple []), (.tuple []), (.tuple []), (.tuple []), (.tuple []), (.tuple []), (.tuple []), (.tuple []), (.bool (.var 0)), (.bool (.not (.var 0))), (.int .i64 (.var 0)), (.bool (.icmp .leq (.var 0) (.lit 40))), (.bool (.not (.icmp .leq (.var 0) (.lit 40)))), (.bool (.not (.icmp .leq (.var 0) (.lit 40)))), (.int .i64 (.var 1)), (.int .i64 (.var 0)), (.int .i64 (.bin .subI (.var 0) (.lit 1))), (.bool (.icmp .leq (.var 1) (.bin .subI (.var 0) (.lit 1)))), (.bool (.not (.icmp .leq (.var 1) (.bin .subI (.var 0) (.lit 1))))), (.bool (.not (.icmp .leq (.var 1) (.bin .subI (.var 0) (.lit 1))))), (.agg [(.complex .f64 (.lit 0) (.lit 0)), (.int .i64 (.lit 0))]), (.any 36), (.any 37), (.any 38), (.any 39), (.any 40), (.any 41), (.any 42), (.any 43), (.any 44), (.any 45), (.any 46), (.any 47), (.any 48), (.any 49), (.any 50), (.any 51), (.any 52), (.any 53), (.any 54), (.any 55), (.any 56), (.tuple [(.bool (.var 1)), (.int .i64 (.var 5))]), (.agg [(.complex .f64 (.var 2) (.var 3)), (.int .i64 (.var 4))]), (.tuple [(.bool (.var 1)), (.int .i64 (.var 5))]), (.bool (.var 1)), (.int .i64 (.var 5)), (.int .i64 (.var 5)), (.bool (.icmp .neq (.var 5) (.lit 0))), (.bool (.icmp .neq (.var 5) (.lit 0))), (.bool (.var 1)), (.bool (.not (.var 1))), (.bool (.not (.var 1))), (.tuple [(.agg [(.complex .f64 (.var 6) (.var 7)), (.int .i64 (.var 8))]), (.int .i64 (.var 9))]), (.int .i64 (.var 1)), (.int .i64 (.var 0)), (.tuple [(.agg [(.complex .f64 (.var 6) (.var 7)), (.int .i64 (.var 8))]), (.int .i64 (.var 9))]), (.agg [(.complex .f64 (.var 6) (.var 7)), (.int .i64 (.var 8))]), (.int .i64 (.var 9)), (.agg [(.complex .f64 (.lit 4697254411347427328) (.lit 0)), (.int .i64 (.lit 0))]), (.any 75), (.any 76), (.any 77), (.any 78), (.any 79), (.any 80), (.any 81), (.any 82), (.any 83), (.any 84), (.any 85), (.any 86), (.any 87), (.tuple []), (.tuple []), (.tuple []), (.tuple []), (.tuple []), (.tuple []), (.tuple []), (.tuple []), (.tuple []), (.tuple []), (.tuple []), (.tuple []), (.tuple []), (.tuple []), (.tuple []), (.tuple []), (.tuple []), (.tuple []), (.tuple []), (.tuple []), (.tuple []), (.tuple []), (.tuple []), (.tuple []), (.tuple []), (.tuple []), (.tuple []), (.tuple []), (.tuple []), (.tuple []), (.tuple []), (.tuple []), (.tuple []), (.tuple []), (.tuple []), (.tuple []), (.tuple []), (.tuple []), (.tuple []), (.tuple []), (.tuple []), (.tuple []), (.tuple []), (.tuple []), (.tuple []), (.tuple []), (.tuple []), (.tuple []), (.tuple []), (.tuple []), (.tuple []), (.tuple []), (.tuple []), (.tuple []), (.tuple [])], [(some ⟨[(.complex .f64 (.var 2) (.var 3)), (.int .i64 (.var 4))], 27, false, false, none⟩), (some ⟨[(.complex .f64 (.var 6) (.var 7)), (.int .i64 (.var 8))], 27, false, false, none⟩), (some ⟨[(.complex .f64 (.var 11) (.var 12)), (.int .i64 (.var 13))], 27, false, false, none⟩)], [2]) ⟨4, 0, 0⟩
          (.rng 10 (-9223372036854775808) 9223372036854775807 (.rng 13 (-9223372036854775808) 9223372036854775807 (.call ball_Contains_s ⟨[(.var 11), (.var 12), (.var 13), (.lit 4697254411347427328), (.lit 0)], [], []⟩ ⟨[(.var 11), (.var 12), (.var 13), (.lit 4697254411347427328), (.lit 0), (.var 14)], [(.var 2)], []⟩ ⟨61, [(.agg [(.complex .f64 (.var 11) (.var 12)), (.int .i64 (.var 13))]), (.complex .f64 (.lit 4697254411347427328) (.lit 0))], [], [none, none, none], (.tuple [(.bool (.var 2)), (.int .i64 (.var 14))]), []⟩
           (.ite (.icmp .eql (.var 9) (.lit 0))
           (.ite (.icmp .eql (.var 14) (.lit 0))
            (.ite (.var 2)
             (.call etalonref01_CheckBall_s ⟨[(.var 11), (.var 12), (.var 13)], [], []⟩ ⟨[(.var 11), (.var 12), (.var 13), (.var 15)], [], []⟩ ⟨62, [(.agg [(.complex .f64 (.var 11) (.var 12)), (.int .i64 (.var 13))])], [], [none, none, none], (.int .i64 (.var 15)), []⟩
              (.ite (.icmp .eql (.var 15) (.lit 0))
              (.ite (.icmp .leq (.bin .subI (.var 0) (.lit 1)) (.bin (.mulW .i64) (.lit 2) (.var 1)))
               (.ret ⟨[], [(.lit true)], []⟩ [])
               (.call ball_Root_s ⟨[(.var 6), (.var 7), (.var 8)], [], []⟩ ⟨[(.var 6), (.var 7), (.var 8), (.var 16), (.var 17), (.var 18), (.var 19)], [], []⟩ ⟨42, [(.agg [(.complex .f64 (.var 6) (.var 7)), (.int .i64 (.var 8))])], [], [none, none, none], (.tuple [(.agg [(.complex .f64 (.var 16) (.var 17)), (.int .i64 (.var 18))]), (.int .i64 (.var 19))]), []⟩
                (.call ball_Unit_s ⟨[(.var 1), (.bin .mulI (.lit 2) (.var 0))], [], []⟩ ⟨[(.var 1), (.bin .mulI (.lit 2) (.var 0)), (.var 20), (.var 21), (.var 22), (.var 23)], [], []⟩ ⟨50, [(.int .i64 (.var 1)), (.int .i64 (.bin .mulI (.lit 2) (.var 0)))], [], [none, none, none, none], (.tuple [(.agg [(.complex .f64 (.var 20) (.var 21)), (.int .i64 (.var 22))]), (.int .i64 (.var 23))]), []⟩
                (.ite (.icmp .eql (.var 19) (.lit 0))
                (.ite (.icmp .eql (.var 23) (.lit 0))
                 (.call ball_Meets_s ⟨[(.var 16), (.var 17), (.var 18), (.var 20), (.var 21), (.var 22)], [], []⟩ ⟨[(.var 16), (.var 17), (.var 18), (.var 20), (.var 21), (.var 22), (.var 24)], [(.var 3)], []⟩ ⟨53, [(.agg [(.complex .f64 (.var 16) (.var 17)), (.int .i64 (.var 18))]), (.agg [(.complex .f64 (.var 20) (.var 21)), (.int .i64 (.var 22))])], [], [none, none, none, none, none], (.tuple [(.bool (.var 3)), (.int .i64 (.var 24))]), []⟩
                  (.ite (.icmp .eql (.var 24) (.lit 0))
                  (.ret ⟨[], [(.var 3)], []⟩ [])
                  (.ret ⟨[], [(.lit false)], []⟩ [])))
                 (.ret ⟨[], [(.lit false)], []⟩ []))
                (.ret ⟨[], [(.lit false)], []⟩ [])))))
              (.ret ⟨[], [(.lit false)], []⟩ [])))
             (.ret ⟨[], [(.lit false)], []⟩ []))
            (.ret ⟨[], [(.lit false)], []⟩ []))
           (.ret ⟨[], [(.lit false)], []⟩ [])))))
          .nil))))
         (.ret ⟨[], [(.lit false)], []⟩ []))
        (.ret ⟨[], [(.lit false)], []⟩ []))))
       .nil)))
      (.ret ⟨[], [(.lit true)], []⟩ []))
     (.ret ⟨[], [(.lit true)], []⟩ []))
    (.ret ⟨[], [(.lit true)], []⟩ []))
   (.ret ⟨[], [(.lit true)], []⟩ []))
  (.ret ⟨[], [(.lit false)], []⟩ [])))
theorem tur {x0 x1 : Int} (r0 : (-9223372036854775808) ≤ x0 ∧ x0 ≤ 9223372036854775807) (r1 : (-9223372036854775808) ≤ x1 ∧ x1 ≤ 9223372036854775807) {R : Bool → Prop}
  (H : (∃ u0 : Bool, Spec Try.prog etalontop_balled_s ⟨[], [], []⟩ [] [u0] [] ∧
   ((u0 = true → ((decide ((2 : Int) ≤ x0) = true → ((decide ((x0 : Int) ≤ 40) = true → ((decide ((0 : Int) ≤ x1) = true → ((decide ((x1 : Int) ≤ (x0 - 1)) = true → (∃ (I2 : Int → Int → Int → Int → Prop) (rk2 : Int → Int → Int → Int → Nat), I2 (0) (0) (0) (0) ∧
        (∀ x2 : Int, ∀ x3 : Int, ∀ x4 : Int, ∀ x5 : Int, I2 x2 x3 x4 x5 → (((-9223372036854775808) ≤ (x2 : Int) ∧ (x2 : Int) ≤ 9223372036854775807) ∧ (((-9223372036854775808) ≤ (x5 : Int) ∧ (x5 : Int) ≤ 9223372036854775807) ∧ ((decide ((x0 : Int) ≤ x2) = true → (((-9223372036854775808) ≤ ((x5) : Int) ∧ ((x5) : Int) ≤ 9223372036854775807) ∧ (∃ v5' : Int, ∃ u1' : Bool, Spec Try.prog ball_Contains_s ⟨[(x3), (x4), (x5), ((FloatKind.f64.nearest 0 : Nat) : Int), ((FloatKind.f64.nearest 0 : Nat) : Int)], [], []⟩ [v5'] [u1'] [] ∧
         ((((v5' : Int) == 0) = true → ((u1' = true → (∃ v6' : Int, ∃ v7' : Int, ∃ v8' : Int, ∃ v9' : Int, Spec Try.prog ball_Unit_s ⟨[x1, x0], [], []⟩ [v6', v7', v8', v9'] [] [] ∧
           (∃ (I10' : Int → Int → Int → Int → Int → Prop) (rk10' : Int → Int → Int → Int → Int → Nat), I10' (v5') (0) (4697254411347427328) (0) (0) ∧
           (∀ x10' : Int, ∀ x11' : Int, ∀ x12' : Int, ∀ x13' : Int, ∀ x14' : Int, I10' x10' x11' x12' x13' x14' → (((-9223372036854775808) ≤ (x10' : Int) ∧ (x10' : Int) ≤ 9223372036854775807) ∧ (((-9223372036854775808) ≤ (x11' : Int) ∧ (x11' : Int) ≤ 9223372036854775807) ∧ (((-9223372036854775808) ≤ (x14' : Int) ∧ (x14' : Int) ≤ 9223372036854775807) ∧ ((decide ((x0 : Int) ≤ x11') = true → (((-9223372036854775808) ≤ ((x10') : Int) ∧ ((x10') : Int) ≤ 9223372036854775807) ∧ (((-9223372036854775808) ≤ ((x14') : Int) ∧ ((x14') : Int) ≤ 9223372036854775807) ∧ (∃ v14'' : Int, ∃ u2'' : Bool, Spec Try.prog ball_Contains_s ⟨[(x12'), (x13'), (x14'), 4697254411347427328, 0], [], []⟩ [v14''] [u2''] [] ∧
            ((((v9' : Int) == 0) = true → ((((v14'' : Int) == 0) = true → ((u2'' = true → (∃ v15'' : Int, Spec Try.prog etalonref01_CheckBall_s ⟨[(x12'), (x13'), (x14')], [], []⟩ [v15''] [] [] ∧
               ((((v15'' : Int) == 0) = true → ((decide (((x0 - 1) : Int) ≤ IntKind.i64.wrap (2 * x1)) = true → R (true)) ∧
                (decide (((x0 - 1) : Int) ≤ IntKind.i64.wrap (2 * x1)) = false → (∃ v16'' : Int, ∃ v17'' : Int, ∃ v18'' : Int, ∃ v19'' : Int, Spec Try.prog ball_Root_s ⟨[v6', v7', v8'], [], []⟩ [v16'', v17'', v18'', v19''] [] [] ∧
                 (∃ v20'' : Int, ∃ v21'' : Int, ∃ v22'' : Int, ∃ v23'' : Int, Spec Try.prog ball_Unit_s ⟨[x1, (2 * x0)], [], []⟩ [v20'', v21'', v22'', v23''] [] [] ∧
                 ((((v19'' : Int) == 0) = true → ((((v23'' : Int) == 0) = true → (∃ v24'' : Int, ∃ u3'' : Bool, Spec Try.prog ball_Meets_s ⟨[v16'', v17'', v18'', v20'', v21'', v22''], [], []⟩ [v24''] [u3''] [] ∧
                   ((((v24'' : Int) == 0) = true → R (u3'')) ∧
                   (((v24'' : Int) == 0) = false → R (false))))) ∧
                  (((v23'' : Int) == 0) = false → R (false)))) ∧
                 (((v19'' : Int) == 0) = false → R (false)))))))) ∧
               (((v15'' : Int) == 0) = false → R (false))))) ∧
              (u2'' = false → R (false)))) ∧
             (((v14'' : Int) == 0) = false → R (false)))) ∧
            (((v9' : Int) == 0) = false → R (false))))))) ∧
            (decide ((x0 : Int) ≤ x11') = false → (∃ v15' : Int, ∃ v16' : Int, ∃ v17' : Int, ∃ v18' : Int, Spec Try.prog ball_Times_s ⟨[x12', x13', x14', v6', v7', v8'], [], []⟩ [v15', v16', v17', v18'] [] [] ∧
             ((((v18' : Int) == 0) = true → (I10' (v18') (IntKind.i64.wrap (x11' + 1)) (v15') (v16') (v17') ∧ rk10' (v18') (IntKind.i64.wrap (x11' + 1)) (v15') (v16') (v17') < rk10' x10' x11' x12' x13' x14')) ∧
             (((v18' : Int) == 0) = false → (((-9223372036854775808) ≤ ((v18') : Int) ∧ ((v18') : Int) ≤ 9223372036854775807) ∧ (((-9223372036854775808) ≤ ((v17') : Int) ∧ ((v17') : Int) ≤ 9223372036854775807) ∧ R (false))))))))))))))) ∧
          (u1' = false → R (false)))) ∧
         (((v5' : Int) == 0) = false → R (false)))))) ∧
         (decide ((x0 : Int) ≤ x2) = false → (∃ v6 : Int, ∃ v7 : Int, ∃ v8 : Int, ∃ v9 : Int, Spec Try.prog ball_Unit_s ⟨[x2, x0], [], []⟩ [v6, v7, v8, v9] [] [] ∧
          ((((v9 : Int) == 0) = true → (∃ v10 : Int, ∃ v11 : Int, ∃ v12 : Int, ∃ v13 : Int, Spec Try.prog ball_Plus_s ⟨[x3, x4, x5, v6, v7, v8], [], []⟩ [v10, v11, v12, v13] [] [] ∧
           (∃ v14 : Int, (Rp (v10 : Int).toNat v14 ∧ v14.natAbs ≤ 67108864) ∧ (((-67108864) ≤ (v14 : Int) ∧ (v14 : Int) ≤ 67108864) ∧ (∃ v15 : Int, (Rp (v11 : Int).toNat v15 ∧ v15.natAbs ≤ 67108864) ∧ (((-67108864) ≤ (v15 : Int) ∧ (v15 : Int) ≤ 67108864) ∧ ((((v13 : Int) == 0) = true → (I2 (IntKind.i64.wrap (x2 + 1)) (v10) (v11) (v12) ∧ rk2 (IntKind.i64.wrap (x2 + 1)) (v10) (v11) (v12) < rk2 x2 x3 x4 x5)) ∧
           (((v13 : Int) == 0) = false → (((-9223372036854775808) ≤ ((v12) : Int) ∧ ((v12) : Int) ≤ 9223372036854775807) ∧ R (false)))))))))) ∧
          (((v9 : Int) == 0) = false → (((-9223372036854775808) ≤ ((x5) : Int) ∧ ((x5) : Int) ≤ 9223372036854775807) ∧ R (false)))))))))))) ∧
       (decide ((x1 : Int) ≤ (x0 - 1)) = false → R (true)))) ∧
      (decide ((0 : Int) ≤ x1) = false → R (true)))) ∧
     (decide ((x0 : Int) ≤ 40) = false → R (true)))) ∧
    (decide ((2 : Int) ≤ x0) = false → R (true)))) ∧
   (u0 = false → R (false))))) :
    ∃ u0 : Bool, R u0 ∧ Spec Try.prog etalontop_TopUnitRoots_s ⟨[x0, x1], [], []⟩ [] [u0] [] :=
  Eq.mp (by kernel_rfl) (exV_of (K := fun d => app3 etalontop_TopUnitRoots_s.out R d ∧ Spec Try.prog etalontop_TopUnitRoots_s ⟨[x0, x1], [], []⟩ d.1 d.2.1 d.2.2) (tree_at mixed names S1_ok (S := S1 Try.prog) (lf := 100000) (d := 60) etalontop_TopUnitRoots_s tur_t { ivs := [(0, (-9223372036854775808), 9223372036854775807), (1, (-9223372036854775808), 9223372036854775807)], aivs := [] } ⟨[x0, x1], [], []⟩ rfl (by kernel_rfl) (by kernel_rfl) (by kernel_rfl) ⟨(fc r0 (fc r1 fz)), fz, fz, fz⟩ (R := fun d => app3 etalontop_TopUnitRoots_s.out R d) (Eq.mp (by kernel_rfl) H)))

def plusU (p q : Bq) : Bq := plusQ p.x p.y p.r q.x q.y q.r

def timesU (p q : Bq) : Bq := timesQ p.x p.y p.r q.x q.y q.r

def rootU (p : Bq) : Bq := rootQ p.x p.y p.r

def inU (p : Bq) (x y : Int) : Bool := decide ((p.x - x) * (p.x - x) + (p.y - y) * (p.y - y) ≤ p.r * p.r)

def meetU (p q : Bq) : Bool := decide ((p.x - q.x) * (p.x - q.x) + (p.y - q.y) * (p.y - q.y) ≤ (p.r + q.r) * (p.r + q.r))

/-- The sum of the next k unit numbers, if all are balls. -/

def sms (n : Int) : Nat → Int → Bq → Option Bq

  | 0, _, a => some a

  | k + 1, i, a => if (unitQ i n).e = 0 ∧ (plusU a (unitQ i n)).e = 0 then sms n k (i + 1) (plusU a (unitQ i n)) else none

def pws (u : Bq) : Nat → Bq → Option Bq

  | 0, a => some a

  | k + 1, a => if (timesU a u).e = 0 then pws u k (timesU a u) else none

def sumU (n : Nat) : Bool := match sms n n 0 ⟨0, 0, 0, 0⟩ with

  | some s => inU s 0 0

  | none => false

def powU (n k : Nat) : Bool := decide ((unitQ k n).e = 0) && match pws (unitQ k n) n ⟨1048576, 0, 0, 0⟩ with

  | some p => inU p 1048576 0

  | none => false

def halfU (n k : Nat) : Bool := decide ((n : Int) - 1 ≤ 2 * k) || (decide ((rootU (unitQ k n)).e = 0) && (decide ((unitQ k (2 * n)).e = 0) && meetU (rootU (unitQ k n)) (unitQ k (2 * n))))

theorem cpl {P : Program} {S : Sig} {V : Vs} {x : Int} {u : Bool} (h : ∃ a : Int, ∃ b : Bool, (a = x ∧ b = u) ∧ Spec P S V [a] [b] []) : Spec P S V [x] [u] [] := by

  obtain ⟨a, b, ⟨rfl, rfl⟩, hs⟩ := h

  exact hs

theorem contains_U {p : Bq} (hp : BqN p) {x y : Int} (hx : (-67108864) ≤ x ∧ x ≤ 67108864) (hy : (-67108864) ≤ y ∧ y ≤ 67108864) : Spec Try.prog ball_Contains_s ⟨[F p.x, F p.y, p.r, F x, F y], [], []⟩ [0] [inU p x y] [] := by

  obtain ⟨h1, h2, h3, _⟩ := hp

  exact cpl (co h3 (R := fun a b => a = 0 ∧ b = inU p x y) ⟨p.x, ⟨F_rp p.x, by omega⟩, h1, p.y, ⟨F_rp p.y, by omega⟩, h2, x, ⟨F_rp x, by omega⟩, hx, y, ⟨F_rp y, by omega⟩, hy, rfl, rfl⟩)

theorem meets_U {p q : Bq} (hp : BqN p) (hq : BqN q) : Spec Try.prog ball_Meets_s ⟨[F p.x, F p.y, p.r, F q.x, F q.y, q.r], [], []⟩ [0] [meetU p q] [] := by

  obtain ⟨h1, h2, h3, _⟩ := hp

  obtain ⟨g1, g2, g3, _⟩ := hq

  exact cpl (meu h3 g3 (R := fun a b => a = 0 ∧ b = meetU p q) ⟨p.x, ⟨F_rp p.x, by omega⟩, h1, p.y, ⟨F_rp p.y, by omega⟩, h2, q.x, ⟨F_rp q.x, by omega⟩, g1, q.y, ⟨F_rp q.y, by omega⟩, g2, rfl, rfl⟩)

theorem inF_n {x : Int} (h : (-67108864) ≤ x ∧ x ≤ 67108864) : InF x := ⟨by omega, by omega⟩

theorem ck_n {p : Bq} (hp : BqN p) : ckW p.x p.y p.r = 0 := if_pos ⟨hp.hx, hp.hy, hp.hr⟩

theorem cc_n {p q : Bq} (hp : BqN p) (hq : BqN q) : fe (ckW p.x p.y p.r) (ckW q.x q.y q.r) = 0 := by rw [ck_n hp, ck_n hq]; rfl

theorem i64_n {p : Bq} (hp : BqN p) : I64 p.r := ⟨by have := hp.hr; omega, by have := hp.hr; omega⟩

theorem plus_U {p q : Bq} (hp : BqN p) (hq : BqN q) : Spec Try.prog ball_Plus_s ⟨[F p.x, F p.y, p.r, F q.x, F q.y, q.r], [], []⟩ [F (plusU p q).x, F (plusU p q).y, (plusU p q).r, (plusU p q).e] [] [] := by

  have := plus_p (U_fi (inF_n hp.hx)) (U_fi (inF_n hp.hy)) (i64_n hp) (U_fi (inF_n hq.hx)) (U_fi (inF_n hq.hy)) (i64_n hq)

  rwa [op2_W plusQ (inF_n hp.hx) (inF_n hp.hy) (inF_n hq.hx) (inF_n hq.hy), opW, if_pos (cc_n hp hq)] at this

theorem times_U {p q : Bq} (hp : BqN p) (hq : BqN q) : Spec Try.prog ball_Times_s ⟨[F p.x, F p.y, p.r, F q.x, F q.y, q.r], [], []⟩ [F (timesU p q).x, F (timesU p q).y, (timesU p q).r, (timesU p q).e] [] [] := by

  have := times_p (U_fi (inF_n hp.hx)) (U_fi (inF_n hp.hy)) (i64_n hp) (U_fi (inF_n hq.hx)) (U_fi (inF_n hq.hy)) (i64_n hq)

  rwa [op2_W timesQ (inF_n hp.hx) (inF_n hp.hy) (inF_n hq.hx) (inF_n hq.hy), opW, if_pos (cc_n hp hq)] at this

theorem root_U {p : Bq} (hp : BqN p) : Spec Try.prog ball_Root_s ⟨[F p.x, F p.y, p.r], [], []⟩ [F (rootU p).x, F (rootU p).y, (rootU p).r, (rootU p).e] [] [] := by

  have := root_p (U_fi (inF_n hp.hx)) (U_fi (inF_n hp.hy)) (i64_n hp)

  rwa [op1_V rootQ (inF_n hp.hx) (inF_n hp.hy), opV, if_pos (ck_n hp)] at this

theorem check_U {p : Bq} (hp : BqN p) : Spec Try.prog etalonref01_CheckBall_s ⟨[F p.x, F p.y, p.r], [], []⟩ [0] [] [] := by

  have := checkBall_r (U_fi (inF_n hp.hx)) (U_fi (inF_n hp.hy)) (i64_n hp)

  rwa [ckB_rp (Rp_fi _) (Rp_fi _) (inF_n hp.hx) (inF_n hp.hy), ck_n hp] at this

def pt (n a m : Nat) : Bool := (List.range' a m).all fun k => powU n k && halfU n k

theorem pt_at {n a m : Nat} (h : pt n a m = true) (k : Nat) (h0 : a ≤ k) (h1 : k < a + m) : powU n k = true ∧ halfU n k = true := by

  have := List.all_eq_true.1 h k (List.mem_range'_1.2 ⟨h0, h1⟩)

  simpa using this

theorem pt2 {n a b : Nat} (h : pt n 0 a = true) (g : pt n a b = true) (e : a + b = n) (k : Nat) (hk : k < n) : powU n k = true ∧ halfU n k = true := by

  by_cases c : k < a

  · exact pt_at h k (by omega) (by omega)

  · exact pt_at g k (by omega) (by omega)

abbrev OkU (n : Nat) : Prop := ∀ k : Nat, k < n → powU n k = true ∧ halfU n k = true

end Go.Proofs.Ytgdhpgjfebinhaa.Ev
