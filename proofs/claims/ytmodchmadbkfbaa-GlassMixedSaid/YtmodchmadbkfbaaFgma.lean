/- Mixtures and shares of the program. -/
import Derived.Test.YtmodchmadbkfbaaFrd
import Derived.Test.YtmodchmadbkfbaaGdw
import Derived.Test.YtmodchmadbkfbaaGmn
import Derived.Test.YtmodchmadbkfbaaFvw1
namespace Go.Proofs.Ytmodchmadbkfbaa.Ev
set_option linter.unusedSimpArgs false
open Go Go.RowKit
set_option linter.unusedVariables false
set_option maxRecDepth 100000
open Go.Proofs.Ytmodchmadbkfbaa.Gm

def whole_RootUp_s : Sig := ⟨19, ⟨1, 0, 0⟩, ⟨1, 0, 0⟩, [(.int .i64 (.var 0))], [], (.int .i64 (.var 1)), []⟩
def glass_MixedBetween_s : Sig := ⟨5, ⟨3, 0, 0⟩, ⟨3, 0, 0⟩, [(.int .i64 (.var 0)), (.int .i64 (.var 1)), (.int .i64 (.var 2))], [], (.tuple [(.agg [(.int .i64 (.var 3)), (.int .i64 (.var 4))]), (.int .i64 (.var 5))]), []⟩
def glass_ShareFor_s : Sig := ⟨7, ⟨3, 0, 0⟩, ⟨3, 0, 0⟩, [(.int .i64 (.var 0)), (.int .i64 (.var 1)), (.int .i64 (.var 2))], [], (.tuple [(.agg [(.int .i64 (.var 3)), (.int .i64 (.var 4))]), (.int .i64 (.var 5))]), []⟩

def ru_t : Tr :=
  (.call whole_RootDown_s ⟨[(.var 0)], [], []⟩ ⟨[(.var 0), (.var 1)], [], []⟩ ⟨18, [(.int .i64 (.var 0))], [], [], (.int .i64 (.var 1)), []⟩
  (.rng 1 0 268435456 (.ite (.icmp .leq (.var 0) (.bin .mulI (.var 1) (.var 1)))
  (.ret ⟨[(.var 1)], [], []⟩ [])
  (.ret ⟨[(.bin .addI (.var 1) (.lit 1))], [], []⟩ []))))
theorem ru {x0 : Int} (r0 : 0 ≤ x0 ∧ x0 ≤ 72057594037927935) {R : Int → Prop}
  (H : (∃ v1 : Int, Spec Try.prog whole_RootDown_s ⟨[x0], [], []⟩ [v1] [] [] ∧
   ((0 ≤ (v1 : Int) ∧ (v1 : Int) ≤ 268435456) ∧ ((decide ((x0 : Int) ≤ (v1 * v1)) = true → R (v1)) ∧
   (decide ((x0 : Int) ≤ (v1 * v1)) = false → R ((v1 + 1))))))) :
    ∃ v0 : Int, R v0 ∧ Spec Try.prog whole_RootUp_s ⟨[x0], [], []⟩ [v0] [] [] :=
  Eq.mp (by kernel_rfl) (exV_of (K := fun d => app3 whole_RootUp_s.out R d ∧ Spec Try.prog whole_RootUp_s ⟨[x0], [], []⟩ d.1 d.2.1 d.2.2) (tree_at mixed names S1_ok (S := S1 Try.prog) (lf := 100000) (d := 60) whole_RootUp_s ru_t { ivs := [(0, 0, 72057594037927935)], aivs := [] } ⟨[x0], [], []⟩ rfl (by kernel_rfl) (by kernel_rfl) (by kernel_rfl) ⟨(fc r0 fz), fz, fz, fz⟩ (R := fun d => app3 whole_RootUp_s.out R d) (Eq.mp (by kernel_rfl) H)))

def mb_t : Tr :=
  (.call whole_Lower_s ⟨[(.bin .mulI (.bin .mulI (.lit 10000) (.var 0)) (.var 0)), (.bin .mulI (.var 1) (.var 1)), (.bin .addI (.bin .mulI (.bin .mulI (.var 2) (.var 1)) (.var 1)) (.bin .mulI (.bin .mulI (.bin .subI (.lit 10000) (.var 2)) (.var 0)) (.var 0)))], [], []⟩ ⟨[(.bin .mulI (.bin .mulI (.lit 10000) (.var 0)) (.var 0)), (.bin .mulI (.var 1) (.var 1)), (.bin .addI (.bin .mulI (.bin .mulI (.var 2) (.var 1)) (.var 1)) (.bin .mulI (.bin .mulI (.bin .subI (.lit 10000) (.var 2)) (.var 0)) (.var 0))), (.var 3)], [], []⟩ ⟨16, [(.int .i64 (.bin .mulI (.bin .mulI (.lit 10000) (.var 0)) (.var 0))), (.int .i64 (.bin .mulI (.var 1) (.var 1))), (.int .i64 (.bin .addI (.bin .mulI (.bin .mulI (.var 2) (.var 1)) (.var 1)) (.bin .mulI (.bin .mulI (.bin .subI (.lit 10000) (.var 2)) (.var 0)) (.var 0))))], [], [none, none], (.int .i64 (.var 3)), []⟩
  (.call whole_Upper_s ⟨[(.bin .addI (.bin .mulI (.bin .mulI (.var 2) (.var 0)) (.var 0)) (.bin .mulI (.bin .mulI (.bin .subI (.lit 10000) (.var 2)) (.var 1)) (.var 1))), (.lit 1), (.lit 10000)], [], []⟩ ⟨[(.bin .addI (.bin .mulI (.bin .mulI (.var 2) (.var 0)) (.var 0)) (.bin .mulI (.bin .mulI (.bin .subI (.lit 10000) (.var 2)) (.var 1)) (.var 1))), (.lit 1), (.lit 10000), (.var 4)], [], []⟩ ⟨17, [(.int .i64 (.bin .addI (.bin .mulI (.bin .mulI (.var 2) (.var 0)) (.var 0)) (.bin .mulI (.bin .mulI (.bin .subI (.lit 10000) (.var 2)) (.var 1)) (.var 1)))), (.int .i64 (.lit 1)), (.int .i64 (.lit 10000))], [], [none, none], (.int .i64 (.var 4)), []⟩
  (.call whole_RootDown_s ⟨[(.var 3)], [], []⟩ ⟨[(.var 3), (.var 5)], [], []⟩ ⟨18, [(.int .i64 (.var 3))], [], [none, none], (.int .i64 (.var 5)), []⟩
  (.call whole_RootUp_s ⟨[(.var 4)], [], []⟩ ⟨[(.var 4), (.var 6)], [], []⟩ ⟨19, [(.int .i64 (.var 4))], [], [none, none], (.int .i64 (.var 6)), []⟩
  (.ret ⟨[(.var 5), (.var 6), (.lit 0)], [], []⟩ [])))))
theorem mb {x0 x1 x2 : Int} (r0 : 5000 ≤ x0 ∧ x0 ≤ 80000) (r1 : 5000 ≤ x1 ∧ x1 ≤ 80000) (r2 : 0 ≤ x2 ∧ x2 ≤ 10000) {R : Int → Int → Int → Prop}
  (H : (∃ v3 : Int, Spec Try.prog whole_Lower_s ⟨[((10000 * x0) * x0), (x1 * x1), (((x2 * x1) * x1) + (((10000 - x2) * x0) * x0))], [], []⟩ [v3] [] [] ∧
   (∃ v4 : Int, Spec Try.prog whole_Upper_s ⟨[(((x2 * x0) * x0) + (((10000 - x2) * x1) * x1)), 1, 10000], [], []⟩ [v4] [] [] ∧
   (∃ v5 : Int, Spec Try.prog whole_RootDown_s ⟨[v3], [], []⟩ [v5] [] [] ∧
   (∃ v6 : Int, Spec Try.prog whole_RootUp_s ⟨[v4], [], []⟩ [v6] [] [] ∧
   R (v5) (v6) (0)))))) :
    ∃ v0 : Int, ∃ v1 : Int, ∃ v2 : Int, R v0 v1 v2 ∧ Spec Try.prog glass_MixedBetween_s ⟨[x0, x1, x2], [], []⟩ [v0, v1, v2] [] [] :=
  Eq.mp (by kernel_rfl) (exV_of (K := fun d => app3 glass_MixedBetween_s.out R d ∧ Spec Try.prog glass_MixedBetween_s ⟨[x0, x1, x2], [], []⟩ d.1 d.2.1 d.2.2) (tree_at mixed names S1_ok (S := S1 Try.prog) (lf := 100000) (d := 60) glass_MixedBetween_s mb_t { ivs := [(0, 5000, 80000), (1, 5000, 80000), (2, 0, 10000)], aivs := [] } ⟨[x0, x1, x2], [], []⟩ rfl (by kernel_rfl) (by kernel_rfl) (by kernel_rfl) ⟨(fc r0 (fc r1 (fc r2 fz))), fz, fz, fz⟩ (R := fun d => app3 glass_MixedBetween_s.out R d) (Eq.mp (by kernel_rfl) H)))

def mbn_t : Tr :=
  (.ite (.icmp .leq (.lit 5000) (.var 0))
  (.ite (.icmp .leq (.var 0) (.lit 80000))
   (.ite (.icmp .leq (.lit 5000) (.var 1))
    (.ite (.icmp .leq (.var 1) (.lit 80000))
     (.ite (.icmp .leq (.lit 0) (.var 2))
      (.ite (.icmp .leq (.var 2) (.lit 10000))
       .nil
       (.ret ⟨[(.lit 0), (.lit 0), (.lit 2)], [], []⟩ []))
      (.ret ⟨[(.lit 0), (.lit 0), (.lit 2)], [], []⟩ []))
     (.ret ⟨[(.lit 0), (.lit 0), (.lit 2)], [], []⟩ []))
    (.ret ⟨[(.lit 0), (.lit 0), (.lit 2)], [], []⟩ []))
   (.ret ⟨[(.lit 0), (.lit 0), (.lit 2)], [], []⟩ []))
  (.ret ⟨[(.lit 0), (.lit 0), (.lit 2)], [], []⟩ []))
theorem mbn {x0 x1 x2 : Int} (r0 : (-9223372036854775808) ≤ x0 ∧ x0 ≤ 9223372036854775807) (r1 : (-9223372036854775808) ≤ x1 ∧ x1 ≤ 9223372036854775807) (r2 : (-9223372036854775808) ≤ x2 ∧ x2 ≤ 9223372036854775807) {R : Int → Int → Int → Prop}
  (H : ((decide ((5000 : Int) ≤ x0) = true → ((decide ((x0 : Int) ≤ 80000) = true → ((decide ((5000 : Int) ≤ x1) = true → ((decide ((x1 : Int) ≤ 80000) = true → ((decide ((0 : Int) ≤ x2) = true → ((decide ((x2 : Int) ≤ 10000) = true → False) ∧
        (decide ((x2 : Int) ≤ 10000) = false → R (0) (0) (2)))) ∧
       (decide ((0 : Int) ≤ x2) = false → R (0) (0) (2)))) ∧
      (decide ((x1 : Int) ≤ 80000) = false → R (0) (0) (2)))) ∧
     (decide ((5000 : Int) ≤ x1) = false → R (0) (0) (2)))) ∧
    (decide ((x0 : Int) ≤ 80000) = false → R (0) (0) (2)))) ∧
   (decide ((5000 : Int) ≤ x0) = false → R (0) (0) (2)))) :
    ∃ v0 : Int, ∃ v1 : Int, ∃ v2 : Int, R v0 v1 v2 ∧ Spec Try.prog glass_MixedBetween_s ⟨[x0, x1, x2], [], []⟩ [v0, v1, v2] [] [] :=
  Eq.mp (by kernel_rfl) (exV_of (K := fun d => app3 glass_MixedBetween_s.out R d ∧ Spec Try.prog glass_MixedBetween_s ⟨[x0, x1, x2], [], []⟩ d.1 d.2.1 d.2.2) (tree_at mixed names S1_ok (S := S1 Try.prog) (lf := 100000) (d := 60) glass_MixedBetween_s mbn_t { ivs := [(0, (-9223372036854775808), 9223372036854775807), (1, (-9223372036854775808), 9223372036854775807), (2, (-9223372036854775808), 9223372036854775807)], aivs := [] } ⟨[x0, x1, x2], [], []⟩ rfl (by kernel_rfl) (by kernel_rfl) (by kernel_rfl) ⟨(fc r0 (fc r1 (fc r2 fz))), fz, fz, fz⟩ (R := fun d => app3 glass_MixedBetween_s.out R d) (Eq.mp (by kernel_rfl) H)))

def sh_t : Tr :=
  (.ite (.icmp .leq (.lit 5000) (.var 0))
  (.ite (.icmp .leq (.var 0) (.lit 80000))
   (.ite (.icmp .leq (.lit 5000) (.var 1))
    (.ite (.icmp .leq (.var 1) (.lit 80000))
     (.ite (.icmp .leq (.lit 5000) (.var 2))
      (.ite (.icmp .leq (.var 2) (.lit 80000))
       (.ite (.icmp .eql (.var 0) (.var 1))
        (.ret ⟨[(.lit 0), (.lit 0), (.lit 9)], [], []⟩ [])
        (.ite (.icmp .leq (.bin .minI (.var 0) (.var 1)) (.var 2))
         (.ite (.icmp .leq (.var 2) (.bin .maxI (.var 0) (.var 1)))
          (.ite (.icmp .leq (.lit 0) (.bin .subI (.bin .mulI (.var 0) (.var 0)) (.bin .mulI (.var 1) (.var 1))))
           (.call whole_Lower_s ⟨[(.bin .mulI (.lit 10000) (.bin .subI (.bin .mulI (.var 2) (.var 2)) (.bin .mulI (.var 1) (.var 1)))), (.lit 1), (.bin .subI (.bin .mulI (.var 0) (.var 0)) (.bin .mulI (.var 1) (.var 1)))], [], []⟩ ⟨[(.bin .mulI (.lit 10000) (.bin .subI (.bin .mulI (.var 2) (.var 2)) (.bin .mulI (.var 1) (.var 1)))), (.lit 1), (.bin .subI (.bin .mulI (.var 0) (.var 0)) (.bin .mulI (.var 1) (.var 1))), (.var 3)], [], []⟩ ⟨16, [(.int .i64 (.bin .mulI (.lit 10000) (.bin .subI (.bin .mulI (.var 2) (.var 2)) (.bin .mulI (.var 1) (.var 1))))), (.int .i64 (.lit 1)), (.int .i64 (.bin .subI (.bin .mulI (.var 0) (.var 0)) (.bin .mulI (.var 1) (.var 1))))], [], [none, none, none, none, none], (.int .i64 (.var 3)), []⟩
            (.call whole_Upper_s ⟨[(.bin .mulI (.lit 10000) (.bin .subI (.bin .mulI (.var 2) (.var 2)) (.bin .mulI (.var 1) (.var 1)))), (.lit 1), (.bin .subI (.bin .mulI (.var 0) (.var 0)) (.bin .mulI (.var 1) (.var 1)))], [], []⟩ ⟨[(.bin .mulI (.lit 10000) (.bin .subI (.bin .mulI (.var 2) (.var 2)) (.bin .mulI (.var 1) (.var 1)))), (.lit 1), (.bin .subI (.bin .mulI (.var 0) (.var 0)) (.bin .mulI (.var 1) (.var 1))), (.var 4)], [], []⟩ ⟨17, [(.int .i64 (.bin .mulI (.lit 10000) (.bin .subI (.bin .mulI (.var 2) (.var 2)) (.bin .mulI (.var 1) (.var 1))))), (.int .i64 (.lit 1)), (.int .i64 (.bin .subI (.bin .mulI (.var 0) (.var 0)) (.bin .mulI (.var 1) (.var 1))))], [], [none, none, none, none, none], (.int .i64 (.var 4)), []⟩
            (.ret ⟨[(.var 3), (.var 4), (.lit 0)], [], []⟩ [])))
           (.ite (.icmp .leq (.lit 0) (.bin .subI (.lit 0) (.bin .subI (.bin .mulI (.var 0) (.var 0)) (.bin .mulI (.var 1) (.var 1)))))
            (.call whole_Lower_s ⟨[(.bin .mulI (.lit 10000) (.bin .subI (.lit 0) (.bin .subI (.bin .mulI (.var 2) (.var 2)) (.bin .mulI (.var 1) (.var 1))))), (.lit 1), (.bin .subI (.lit 0) (.bin .subI (.bin .mulI (.var 0) (.var 0)) (.bin .mulI (.var 1) (.var 1))))], [], []⟩ ⟨[(.bin .mulI (.lit 10000) (.bin .subI (.lit 0) (.bin .subI (.bin .mulI (.var 2) (.var 2)) (.bin .mulI (.var 1) (.var 1))))), (.lit 1), (.bin .subI (.lit 0) (.bin .subI (.bin .mulI (.var 0) (.var 0)) (.bin .mulI (.var 1) (.var 1)))), (.var 3)], [], []⟩ ⟨16, [(.int .i64 (.bin .mulI (.lit 10000) (.bin .subI (.lit 0) (.bin .subI (.bin .mulI (.var 2) (.var 2)) (.bin .mulI (.var 1) (.var 1)))))), (.int .i64 (.lit 1)), (.int .i64 (.bin .subI (.lit 0) (.bin .subI (.bin .mulI (.var 0) (.var 0)) (.bin .mulI (.var 1) (.var 1)))))], [], [none, none, none, none, none], (.int .i64 (.var 3)), []⟩
             (.call whole_Upper_s ⟨[(.bin .mulI (.lit 10000) (.bin .subI (.lit 0) (.bin .subI (.bin .mulI (.var 2) (.var 2)) (.bin .mulI (.var 1) (.var 1))))), (.lit 1), (.bin .subI (.lit 0) (.bin .subI (.bin .mulI (.var 0) (.var 0)) (.bin .mulI (.var 1) (.var 1))))], [], []⟩ ⟨[(.bin .mulI (.lit 10000) (.bin .subI (.lit 0) (.bin .subI (.bin .mulI (.var 2) (.var 2)) (.bin .mulI (.var 1) (.var 1))))), (.lit 1), (.bin .subI (.lit 0) (.bin .subI (.bin .mulI (.var 0) (.var 0)) (.bin .mulI (.var 1) (.var 1)))), (.var 4)], [], []⟩ ⟨17, [(.int .i64 (.bin .mulI (.lit 10000) (.bin .subI (.lit 0) (.bin .subI (.bin .mulI (.var 2) (.var 2)) (.bin .mulI (.var 1) (.var 1)))))), (.int .i64 (.lit 1)), (.int .i64 (.bin .subI (.lit 0) (.bin .subI (.bin .mulI (.var 0) (.var 0)) (.bin .mulI (.var 1) (.var 1)))))], [], [none, none, none, none, none], (.int .i64 (.var 4)), []⟩
             (.ret ⟨[(.var 3), (.var 4), (.lit 0)], [], []⟩ [])))
            (.call whole_Lower_s ⟨[(.bin .subI (.lit 0) (.bin .mulI (.lit 10000) (.bin .subI (.lit 0) (.bin .subI (.bin .mulI (.var 2) (.var 2)) (.bin .mulI (.var 1) (.var 1)))))), (.lit 1), (.bin .subI (.lit 0) (.bin .subI (.lit 0) (.bin .subI (.bin .mulI (.var 0) (.var 0)) (.bin .mulI (.var 1) (.var 1)))))], [], []⟩ ⟨[(.bin .subI (.lit 0) (.bin .mulI (.lit 10000) (.bin .subI (.lit 0) (.bin .subI (.bin .mulI (.var 2) (.var 2)) (.bin .mulI (.var 1) (.var 1)))))), (.lit 1), (.bin .subI (.lit 0) (.bin .subI (.lit 0) (.bin .subI (.bin .mulI (.var 0) (.var 0)) (.bin .mulI (.var 1) (.var 1))))), (.var 3)], [], []⟩ ⟨16, [(.int .i64 (.bin .subI (.lit 0) (.bin .mulI (.lit 10000) (.bin .subI (.lit 0) (.bin .subI (.bin .mulI (.var 2) (.var 2)) (.bin .mulI (.var 1) (.var 1))))))), (.int .i64 (.lit 1)), (.int .i64 (.bin .subI (.lit 0) (.bin .subI (.lit 0) (.bin .subI (.bin .mulI (.var 0) (.var 0)) (.bin .mulI (.var 1) (.var 1))))))], [], [none, none, none, none, none], (.int .i64 (.var 3)), []⟩
             (.call whole_Upper_s ⟨[(.bin .subI (.lit 0) (.bin .mulI (.lit 10000) (.bin .subI (.lit 0) (.bin .subI (.bin .mulI (.var 2) (.var 2)) (.bin .mulI (.var 1) (.var 1)))))), (.lit 1), (.bin .subI (.lit 0) (.bin .subI (.lit 0) (.bin .subI (.bin .mulI (.var 0) (.var 0)) (.bin .mulI (.var 1) (.var 1)))))], [], []⟩ ⟨[(.bin .subI (.lit 0) (.bin .mulI (.lit 10000) (.bin .subI (.lit 0) (.bin .subI (.bin .mulI (.var 2) (.var 2)) (.bin .mulI (.var 1) (.var 1)))))), (.lit 1), (.bin .subI (.lit 0) (.bin .subI (.lit 0) (.bin .subI (.bin .mulI (.var 0) (.var 0)) (.bin .mulI (.var 1) (.var 1))))), (.var 4)], [], []⟩ ⟨17, [(.int .i64 (.bin .subI (.lit 0) (.bin .mulI (.lit 10000) (.bin .subI (.lit 0) (.bin .subI (.bin .mulI (.var 2) (.var 2)) (.bin .mulI (.var 1) (.var 1))))))), (.int .i64 (.lit 1)), (.int .i64 (.bin .subI (.lit 0) (.bin .subI (.lit 0) (.bin .subI (.bin .mulI (.var 0) (.var 0)) (.bin .mulI (.var 1) (.var 1))))))], [], [none, none, none, none, none], (.int .i64 (.var 4)), []⟩
             (.ret ⟨[(.var 3), (.var 4), (.lit 0)], [], []⟩ [])))))
          (.ret ⟨[(.lit 0), (.lit 0), (.lit 24)], [], []⟩ []))
         (.ret ⟨[(.lit 0), (.lit 0), (.lit 24)], [], []⟩ [])))
       (.ret ⟨[(.lit 0), (.lit 0), (.lit 2)], [], []⟩ []))
      (.ret ⟨[(.lit 0), (.lit 0), (.lit 2)], [], []⟩ []))
     (.ret ⟨[(.lit 0), (.lit 0), (.lit 2)], [], []⟩ []))
    (.ret ⟨[(.lit 0), (.lit 0), (.lit 2)], [], []⟩ []))
   (.ret ⟨[(.lit 0), (.lit 0), (.lit 2)], [], []⟩ []))
  (.ret ⟨[(.lit 0), (.lit 0), (.lit 2)], [], []⟩ []))
theorem sh {x0 x1 x2 : Int} (r0 : (-9223372036854775808) ≤ x0 ∧ x0 ≤ 9223372036854775807) (r1 : (-9223372036854775808) ≤ x1 ∧ x1 ≤ 9223372036854775807) (r2 : (-9223372036854775808) ≤ x2 ∧ x2 ≤ 9223372036854775807) {R : Int → Int → Int → Prop}
  (H : ((decide ((5000 : Int) ≤ x0) = true → ((decide ((x0 : Int) ≤ 80000) = true → ((decide ((5000 : Int) ≤ x1) = true → ((decide ((x1 : Int) ≤ 80000) = true → ((decide ((5000 : Int) ≤ x2) = true → ((decide ((x2 : Int) ≤ 80000) = true → ((((x0 : Int) == x1) = true → R (0) (0) (9)) ∧
         (((x0 : Int) == x1) = false → ((decide (((if (x1 : Int) < x0 then x1 else x0) : Int) ≤ x2) = true → ((decide ((x2 : Int) ≤ (if (x1 : Int) > x0 then x1 else x0)) = true → ((decide ((0 : Int) ≤ ((x0 * x0) - (x1 * x1))) = true → (∃ v3 : Int, Spec Try.prog whole_Lower_s ⟨[(10000 * ((x2 * x2) - (x1 * x1))), 1, ((x0 * x0) - (x1 * x1))], [], []⟩ [v3] [] [] ∧
             (∃ v4 : Int, Spec Try.prog whole_Upper_s ⟨[(10000 * ((x2 * x2) - (x1 * x1))), 1, ((x0 * x0) - (x1 * x1))], [], []⟩ [v4] [] [] ∧
             R (v3) (v4) (0)))) ∧
            (decide ((0 : Int) ≤ ((x0 * x0) - (x1 * x1))) = false → ((decide ((0 : Int) ≤ (0 - ((x0 * x0) - (x1 * x1)))) = true → (∃ v3 : Int, Spec Try.prog whole_Lower_s ⟨[(10000 * (0 - ((x2 * x2) - (x1 * x1)))), 1, (0 - ((x0 * x0) - (x1 * x1)))], [], []⟩ [v3] [] [] ∧
              (∃ v4 : Int, Spec Try.prog whole_Upper_s ⟨[(10000 * (0 - ((x2 * x2) - (x1 * x1)))), 1, (0 - ((x0 * x0) - (x1 * x1)))], [], []⟩ [v4] [] [] ∧
              R (v3) (v4) (0)))) ∧
             (decide ((0 : Int) ≤ (0 - ((x0 * x0) - (x1 * x1)))) = false → (∃ v3 : Int, Spec Try.prog whole_Lower_s ⟨[(0 - (10000 * (0 - ((x2 * x2) - (x1 * x1))))), 1, (0 - (0 - ((x0 * x0) - (x1 * x1))))], [], []⟩ [v3] [] [] ∧
              (∃ v4 : Int, Spec Try.prog whole_Upper_s ⟨[(0 - (10000 * (0 - ((x2 * x2) - (x1 * x1))))), 1, (0 - (0 - ((x0 * x0) - (x1 * x1))))], [], []⟩ [v4] [] [] ∧
              R (v3) (v4) (0)))))))) ∧
           (decide ((x2 : Int) ≤ (if (x1 : Int) > x0 then x1 else x0)) = false → R (0) (0) (24)))) ∧
          (decide (((if (x1 : Int) < x0 then x1 else x0) : Int) ≤ x2) = false → R (0) (0) (24)))))) ∧
        (decide ((x2 : Int) ≤ 80000) = false → R (0) (0) (2)))) ∧
       (decide ((5000 : Int) ≤ x2) = false → R (0) (0) (2)))) ∧
      (decide ((x1 : Int) ≤ 80000) = false → R (0) (0) (2)))) ∧
     (decide ((5000 : Int) ≤ x1) = false → R (0) (0) (2)))) ∧
    (decide ((x0 : Int) ≤ 80000) = false → R (0) (0) (2)))) ∧
   (decide ((5000 : Int) ≤ x0) = false → R (0) (0) (2)))) :
    ∃ v0 : Int, ∃ v1 : Int, ∃ v2 : Int, R v0 v1 v2 ∧ Spec Try.prog glass_ShareFor_s ⟨[x0, x1, x2], [], []⟩ [v0, v1, v2] [] [] :=
  Eq.mp (by kernel_rfl) (exV_of (K := fun d => app3 glass_ShareFor_s.out R d ∧ Spec Try.prog glass_ShareFor_s ⟨[x0, x1, x2], [], []⟩ d.1 d.2.1 d.2.2) (tree_at mixed names S1_ok (S := S1 Try.prog) (lf := 100000) (d := 60) glass_ShareFor_s sh_t { ivs := [(0, (-9223372036854775808), 9223372036854775807), (1, (-9223372036854775808), 9223372036854775807), (2, (-9223372036854775808), 9223372036854775807)], aivs := [] } ⟨[x0, x1, x2], [], []⟩ rfl (by kernel_rfl) (by kernel_rfl) (by kernel_rfl) ⟨(fc r0 (fc r1 (fc r2 fz))), fz, fz, fz⟩ (R := fun d => app3 glass_ShareFor_s.out R d) (Eq.mp (by kernel_rfl) H)))

theorem wrapS {x : Int} (h : -9223372036854775808 ≤ x ∧ x ≤ 9223372036854775807) : IntKind.i64.wrap x = x := by

  rw [IntKind.wrap_i64]; omega

theorem Gm.rti_uniq {n r : Int} (hn : 0 ≤ n) (h' : n < 72057594037927936) (h0 : 0 ≤ r) (h1 : r * r ≤ n) (h2 : n < (r + 1) * (r + 1)) : rti n = r := by

  obtain ⟨k0, k1, k2, k3⟩ := rti_spec n hn h'

  have e : (rti n + 1) * (rti n + 1) = rti n * rti n + 2 * rti n + 1 := by grind

  have a1 : r < rti n + 1 := by

    by_cases hc : r < rti n + 1

    · exact hc

    · have := sq_le (x := rti n + 1) (y := r) (by omega) (by omega); omega

  have a2 : rti n < r + 1 := by

    by_cases hc : rti n < r + 1

    · exact hc

    · have := sq_le (x := r + 1) (y := rti n) (by omega) (by omega); omega

  omega

theorem Gm.rtu_uniq {n r : Int} (h' : n < 72057594037927936) (h0 : 0 ≤ r) (h1 : r * r < n) (h2 : n ≤ (r + 1) * (r + 1)) : rtu n = r + 1 := by

  have h3 : 0 ≤ r * r := Int.mul_nonneg h0 h0

  obtain ⟨k0, k1, k2⟩ := rtu_spec (n := n) (by omega) h'

  have k3 := (rti_spec n (by omega) h').1

  have a1 : r < rtu n := by

    by_cases hc : r < rtu n

    · exact hc

    · have := sq_le (x := rtu n) (y := r) (by omega) (by omega); omega

  have a2 : rtu n - 1 < r + 1 := by

    by_cases hc : rtu n - 1 < r + 1

    · exact hc

    · have := sq_le (x := r + 1) (y := rtu n - 1) (by omega) (by omega)

      have := k2 (by omega); omega

  omega

theorem rootUp_s {n : Int} (h : 0 ≤ n) (h' : n < 72057594037927936) : Spec Try.prog whole_RootUp_s ⟨[n], [], []⟩ [rtu n] [] [] := by

  obtain ⟨r0, r1, r2, r3⟩ := rti_spec n h h'

  obtain ⟨v, rfl, hs⟩ := ru (x0 := n) (by omega) (R := (· = rtu n)) ⟨_, rootDown_s h h', by omega, fun h9 => by simp only [decide_eq_true_eq, decide_eq_false_iff_not] at h9; unfold rtu; rw [if_neg (by omega)], fun h9 => by simp only [decide_eq_true_eq, decide_eq_false_iff_not] at h9; unfold rtu; rw [if_pos (by omega)]⟩

  exact hs

theorem mixed_any {a b s : Int} (ha : 5000 ≤ a ∧ a ≤ 80000) (hb : 5000 ≤ b ∧ b ≤ 80000) (hs : 0 ≤ s ∧ s ≤ 10000) :

    5000 ≤ mixL a b s ∧ mixL a b s ≤ mixH a b s ∧ mixH a b s ≤ 80000 ∧

    0 ≤ 10000 * a * a * (b * b) / ser a b s ∧ 10000 * a * a * (b * b) / ser a b s < 72057594037927936 ∧ 0 ≤ cdiv (par a b s) 10000 ∧ cdiv (par a b s) 10000 < 72057594037927936 ∧

    250000000000 ≤ par a b s ∧ par a b s ≤ 64000000000000 ∧ 250000000000 ≤ ser a b s ∧ ser a b s ≤ 64000000000000 := by

  rcases Int.le_total a b with h | h

  · obtain ⟨m1, m2, m3, _, _, m6, m7, m8, m9⟩ := Gm.mixed ha.1 h hb.2 hs.1 hs.2

    obtain ⟨g0, g1, g2, g3, g4, g5, g6, _⟩ := bounds ha.1 h hb.2 hs.1 hs.2

    exact ⟨by omega, m2, by omega, m6, m7, m8, m9, by omega, by omega, by omega, by omega⟩

  · obtain ⟨m1, m2, m3, _, _, m6, m7, m8, m9⟩ := Gm.mixed (s := 10000 - s) hb.1 h ha.2 (by omega) (by omega)

    obtain ⟨g0, g1, g2, g3, g4, g5, g6, _⟩ := bounds (s := 10000 - s) hb.1 h ha.2 (by omega) (by omega)

    rw [mixL_swap, mixH_swap] at *

    rw [par_swap] at *

    rw [ser_swap, show 10000 * b * b * (a * a) = 10000 * a * a * (b * b) by grind] at *

    exact ⟨by omega, m2, by omega, m6, m7, m8, m9, by omega, by omega, by omega, by omega⟩

theorem mixed_s {a b s : Int} (ha : 5000 ≤ a ∧ a ≤ 80000) (hb : 5000 ≤ b ∧ b ≤ 80000) (hs : 0 ≤ s ∧ s ≤ 10000) :

    Spec Try.prog glass_MixedBetween_s ⟨[a, b, s], [], []⟩ [mixL a b s, mixH a b s, 0] [] [] := by

  obtain ⟨k1, k2, k3, k4, k5, k6, k7, k8, k9, k10, k11⟩ := mixed_any ha hb hs

  have ea := sq_le (x := 5000) (y := a) (by omega) ha.1

  have ea' := sq_le (x := a) (y := 80000) (by omega) ha.2

  have eb := sq_le (x := 5000) (y := b) (by omega) hb.1

  have eb' := sq_le (x := b) (y := 80000) (by omega) hb.2

  have e1 : 10000 * a * a = 10000 * (a * a) := Int.mul_assoc _ _ _

  have hN : 0 ≤ 10000 * a * a * (b * b) := Int.mul_nonneg (by omega) (by omega)

  have eN : ((10000 * a * a).natAbs : Int) = 10000 * a * a := by omega

  have hd : DvIn (10000 * a * a) (b * b) (ser a b s) := by

    refine DvIn_gen (by omega) (by omega) (by omega) (by omega) (by omega) (by omega) ?_

    rw [eN]

    have : 10000 * a * a * (b * b) ≤ 64000000000000 * (b * b) := Int.mul_le_mul_of_nonneg_right (by omega) (by omega)

    have h2 := Int.ediv_mul_le (10000 * a * a * (b * b)) (b := ser a b s) (by omega)

    omega

  have hu : DvIn (par a b s) 1 10000 := DvIn_by (X := 64000000000000) (Y := 1) (by omega) (by omega) (by omega) (by omega) (by omega) (by omega) (by decide) (by decide) (by decide)

  have hU := upper_s hu

  rw [Int.mul_one] at hU

  obtain ⟨v0, v1, v2, ⟨rfl, rfl, rfl⟩, h⟩ := mb ha hb hs (R := fun x y z => x = mixL a b s ∧ y = mixH a b s ∧ z = 0)

    ⟨_, lower_s hd, _, hU, _, rootDown_s k4 k5, _, rootUp_s k6 k7, rfl, rfl, rfl⟩

  exact h

theorem mixed_no {a b s : Int} (ra : (-9223372036854775808) ≤ a ∧ a ≤ 9223372036854775807) (rb : (-9223372036854775808) ≤ b ∧ b ≤ 9223372036854775807) (rs : (-9223372036854775808) ≤ s ∧ s ≤ 9223372036854775807)

    (hn : ¬ ((5000 ≤ a ∧ a ≤ 80000) ∧ (5000 ≤ b ∧ b ≤ 80000) ∧ 0 ≤ s ∧ s ≤ 10000)) : Spec Try.prog glass_MixedBetween_s ⟨[a, b, s], [], []⟩ [0, 0, 2] [] [] := by

  obtain ⟨v0, v1, v2, ⟨rfl, rfl, rfl⟩, h⟩ := mbn ra rb rs (R := fun x y z => x = 0 ∧ y = 0 ∧ z = 2) (by

    simp only [decide_eq_true_eq, decide_eq_false_iff_not]

    refine ⟨fun h1 => ⟨fun h2 => ⟨fun h3 => ⟨fun h4 => ⟨fun h5 => ⟨fun h6 => hn ⟨⟨h1, h2⟩, ⟨h3, h4⟩, h5, h6⟩, ?_⟩, ?_⟩, ?_⟩, ?_⟩, ?_⟩, ?_⟩ <;> exact fun _ => by simp)

  exact h

/-- What ShareFor tells: the error, the ends. -/

def shE (a b m : Int) : Int := if ¬ ((5000 ≤ a ∧ a ≤ 80000) ∧ (5000 ≤ b ∧ b ≤ 80000) ∧ 5000 ≤ m ∧ m ≤ 80000) then 2 else if a = b then 9 else if ¬ (min a b ≤ m ∧ m ≤ max a b) then 24 else 0

def shL (a b m : Int) : Int := if shE a b m ≠ 0 then 0 else if 0 ≤ a * a - b * b then 10000 * (m * m - b * b) / (a * a - b * b) else 10000 * (0 - (m * m - b * b)) / (0 - (a * a - b * b))

def shH (a b m : Int) : Int := if shE a b m ≠ 0 then 0 else if 0 ≤ a * a - b * b then cdiv (10000 * (m * m - b * b)) (a * a - b * b) else cdiv (10000 * (0 - (m * m - b * b))) (0 - (a * a - b * b))

theorem min_ite (x y : Int) : (if y < x then y else x) = min x y := by rw [Int.min_def]; split <;> split <;> omega

theorem max_ite (x y : Int) : (if y > x then y else x) = max x y := by rw [Int.max_def]; split <;> split <;> omega

theorem share_s {a b m : Int} (ra : (-9223372036854775808) ≤ a ∧ a ≤ 9223372036854775807) (rb : (-9223372036854775808) ≤ b ∧ b ≤ 9223372036854775807) (rm : (-9223372036854775808) ≤ m ∧ m ≤ 9223372036854775807) :

    Spec Try.prog glass_ShareFor_s ⟨[a, b, m], [], []⟩ [shL a b m, shH a b m, shE a b m] [] [] := by

  obtain ⟨v0, v1, v2, ⟨rfl, rfl, rfl⟩, h⟩ := sh ra rb rm (R := fun x y z => x = shL a b m ∧ y = shH a b m ∧ z = shE a b m) (by

    simp only [decide_eq_true_eq, decide_eq_false_iff_not, beq_iff_eq, beq_eq_false_iff_ne, min_ite, max_ite]

    have no {e : Int} (he : shE a b m = e) (h : e ≠ 0) : 0 = shL a b m ∧ 0 = shH a b m ∧ e = shE a b m := by

      subst he; unfold shL shH; rw [if_pos h, if_pos h]; exact ⟨rfl, rfl, rfl⟩

    have e2 (h : ¬ ((5000 ≤ a ∧ a ≤ 80000) ∧ (5000 ≤ b ∧ b ≤ 80000) ∧ 5000 ≤ m ∧ m ≤ 80000)) : shE a b m = 2 := by unfold shE; rw [if_pos h]

    refine ⟨fun h1 => ⟨fun h2 => ⟨fun h3 => ⟨fun h4 => ⟨fun h5 => ⟨fun h6 => ⟨fun h7 => ?_, fun h7 => ⟨fun h8 => ⟨fun h9 => ?_, fun h9 => ?_⟩, fun h8 => ?_⟩⟩, ?_⟩, ?_⟩, ?_⟩, ?_⟩, ?_⟩, ?_⟩

    · refine no ?_ (by decide); unfold shE; rw [if_neg (by omega), if_pos h7]

    · have e0 : shE a b m = 0 := by unfold shE; rw [if_neg (by omega), if_neg h7, if_neg (by omega)]

      have qa := sq_le (x := a) (y := 80000) (by omega) h2

      have qb := sq_le (x := b) (y := 80000) (by omega) h4

      have qm := sq_le (x := m) (y := 80000) (by omega) h6

      have pa := sq_le (x := 5000) (y := a) (by omega) h1

      have pb := sq_le (x := 5000) (y := b) (by omega) h3

      have pm := sq_le (x := 5000) (y := m) (by omega) h5

      have hne : a * a - b * b ≠ 0 := by

        rcases Int.lt_or_gt_of_ne h7 with g | g

        · have := sq_lt (x := a) (y := b) (by omega) g; omega

        · have := sq_lt (x := b) (y := a) (by omega) g; omega

      have R0 : shL a b m = if 0 ≤ a * a - b * b then 10000 * (m * m - b * b) / (a * a - b * b) else 10000 * (0 - (m * m - b * b)) / (0 - (a * a - b * b)) := by unfold shL; rw [if_neg (by omega)]

      have R1 : shH a b m = if 0 ≤ a * a - b * b then cdiv (10000 * (m * m - b * b)) (a * a - b * b) else cdiv (10000 * (0 - (m * m - b * b))) (0 - (a * a - b * b)) := by unfold shH; rw [if_neg (by omega)]

      refine ⟨fun k1 => ?_, fun k1 => ⟨fun k2 => ?_, fun k2 => by omega⟩⟩

      · have hd : DvIn (10000 * (m * m - b * b)) 1 (a * a - b * b) := DvIn_by (X := 64000000000000) (Y := 1) (by omega) (by omega) (by omega) (by omega) (by omega) (by omega) (by decide) (by decide) (by decide)

        have h1 := lower_s hd

        have h2 := upper_s hd

        rw [Int.mul_one] at h1 h2

        rw [R0, R1, if_pos k1, if_pos k1]

        exact ⟨_, h1, _, h2, rfl, rfl, e0.symm⟩

      · have hd : DvIn (10000 * (0 - (m * m - b * b))) 1 (0 - (a * a - b * b)) := DvIn_by (X := 64000000000000) (Y := 1) (by omega) (by omega) (by omega) (by omega) (by omega) (by omega) (by decide) (by decide) (by decide)

        have h1 := lower_s hd

        have h2 := upper_s hd

        rw [Int.mul_one] at h1 h2

        rw [R0, R1, if_neg k1, if_neg k1]

        exact ⟨_, h1, _, h2, rfl, rfl, e0.symm⟩

    · refine no ?_ (by decide); unfold shE; rw [if_neg (by omega), if_neg h7, if_pos (by omega)]

    · refine no ?_ (by decide); unfold shE; rw [if_neg (by omega), if_neg h7, if_pos (by omega)]

    all_goals exact fun h9 => no (e2 (by omega)) (by decide))

  exact h

end Go.Proofs.Ytmodchmadbkfbaa.Ev
